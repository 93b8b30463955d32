/- What the reference's May and Same answer, for every list that isn't too long. -/
import Derived.Deep.RegionHeld3
import Derived.Lib.IfaceEq
import Derived.WideLaws
import Derived.Test.YtbdcbjeeaebfeaaM3
import Derived.Test.YtbdcbjeeaebfeaaM9
import Derived.Test.YtbdcbjeeaebfeaaM10
set_option linter.unusedVariables false
set_option linter.unusedSimpArgs false
namespace Go.Proofs.Ytbdcbjeeaebfeaa.P3
open Go.RowKit

theorem rname_at (s : ByteArray) (w : World) {r : Bool} (h : P1.nameB s.data.toList = r) (hs : s.size ≤ maxLen) : Calls Try.prog 32 #[.string s] w fun e w' => e = .returned (.bool r) ∧ w = w' := by
  subst h; exact P1.rname_any s w hs
theorem rtext_at (s : ByteArray) (w : World) {r : Bool} (h : P1.textB s.data.toList = r) (hs : s.size ≤ maxLen) : Calls Try.prog 31 #[.string s] w fun e w' => e = .returned (.bool r) ∧ w = w' := by
  subst h; exact P1.rtext_any s w hs

set_option maxHeartbeats 400000 in
theorem rsame_any (l m : List At) (A B : Option Addr) (n n' c d : Nat) (w : World) (hn : l.length = n) (hn' : m.length = n') (hl : n ≤ 1000000) (hm : n' ≤ 1000000) (H : Holds w w.heap.size A l) (H2 : Holds w w.heap.size B m) :
    Calls Try.prog 36 #[.slice A n c, .slice B n' d] w fun e w' => e = .returned (.bool (sameA l m)) ∧ Below w.heap.size w w' := by
  have HH := Lib.hid H
  have HH2 := Lib.hid H2
  have HN := Lib.hid hn
  have HN' := Lib.hid hn'
  clear H H2 hn hn'
  by_cases hlen : n = n'
  · subst hlen
    go_enter Try.func36, Try.ntmps36
    go_wp2_with fail
    go_loopw [5] (fun i wr => ∃ k : Nat, k ≤ n ∧ i = .int .i64 k ∧ Hid (Below w.heap.size w wr) ∧ Hid (SameTo l m k)) (fun i _ => n - (intOf i).toNat)
    case atStart => exact ⟨0, by omega, rfl, Lib.hid (Below.refl _ _), Lib.hid (SameTo.zero _ _)⟩
    case round =>
      obtain ⟨k, hk, rfl, HW, HS⟩ := hrel
      by_cases hlt : k < n
      · have hlt1 : k < l.length := by have := HN.out; omega
        have hlt2 : k < m.length := by have := HN'.out; omega
        obtain ⟨b, o, rfl, hb, h0, h1, h2⟩ := (HH.out.below HW.out (Nat.le_refl _)) k hlt1
        obtain ⟨b', o', rfl, hb', h0', h1', h2'⟩ := (HH2.out.below HW.out (Nat.le_refl _)) k hlt2
        have hg := eqg
        cases hat : atB l[k] m[k]
        · have hq := neq_at hat
          have HAT := Lib.hid hat
          clear hat
          go_wp2_with fail
          go_quiet (fail)
          go_wp2_with fail
          go_ret
          exact ⟨ret_bool (sameA_bad hlt1 hlt2 HAT.out).symm, Below_drewN HW.out _⟩
        · have hq := neq_at hat
          have HAT := Lib.hid hat
          clear hat
          go_wp2_with fail
          go_quiet (fail)
          go_wp2_with fail
          go_roundw
          case rel => exact ⟨k + 1, by omega, by go_num, Lib.hid (Below_drewN HW.out _), Lib.hid (HS.out.next hlt1 hlt2 HAT.out)⟩
          case measure => simp [intOf]; omega
      · obtain rfl : k = n := by omega
        go_wp2_with fail
        go_ret
        exact ⟨ret_bool (HS.out.all HN.out HN'.out).symm, HW.out⟩
  · have he : ((n : Int) != (n' : Int)) = true := by simp; omega
    have HL : Hid (l.length ≠ m.length) := Lib.hid (by rw [HN.out, HN'.out]; exact hlen)
    clear hlen
    go_enter Try.func36, Try.ntmps36
    go_wp2_with fail
    go_ret
    exact ⟨ret_bool (sameA_len HL.out).symm, Below.refl _ _⟩

theorem hasA_of {l : List At} {s : ByteArray} {j k : Nat} (hj : j < l.length) (hjk : j < k) (he : (l[j].nm.toList == s.toList) = true) : hasA (l.take k) s = true :=
  hasA_iff.2 ⟨l[j], List.mem_take_iff_getElem.2 ⟨j, by omega, rfl⟩, by simpa using he⟩
theorem hasA_no {l : List At} {s : ByteArray} (h : findA l s = none) : hasA l s = false := by unfold hasA; rw [h]; rfl

set_option maxHeartbeats 1000000 in
theorem rmay_any (l : List At) (A : Option Addr) (n c : Nat) (w : World) (hn : l.length = n) (hl : n ≤ 1000000) (hwf : Wf l) (H : Holds w w.heap.size A l) :
    Calls Try.prog 33 #[.slice A n c] w fun e w' => e = .returned (.bool (mayA l)) ∧ Below w.heap.size w w' := by
  have HH := Lib.hid H
  have HN := Lib.hid hn
  have HF := Lib.hid hwf
  clear H hn hwf
  go_enter Try.func33, Try.ntmps33
  go_wp2_with fail
  go_loopw [3] (fun i wr => ∃ k : Nat, k ≤ n ∧ i = .int .i64 k ∧ Hid (Below w.heap.size w wr) ∧ Hid (GoodTo l k)) (fun i _ => n - (intOf i).toNat)
  case atStart => exact ⟨0, by omega, rfl, Lib.hid (Below.refl _ _), Lib.hid (GoodTo.zero _)⟩
  case round =>
    obtain ⟨k, hk, rfl, HW, HG⟩ := hrel
    by_cases hlt : k < n
    · have hlt' : k < l.length := by have := HN.out; omega
      obtain ⟨b, o, hA, hb, h0, h1, h2⟩ := (HH.out.below HW.out (Nat.le_refl _)) k hlt'
      subst hA
      obtain ⟨hs1, hs2⟩ := HF.out.at_ hlt'
      cases hnm : P1.nameB l[k].nm.data.toList
      · have HNM := Lib.hid hnm
        clear hnm
        go_wp2_with fail
        refine (rname_at _ _ HNM.out hs1).mono ?_
        rintro e w' ⟨rfl, rfl⟩
        go_wp2_with fail
        refine (P1.rtext_any _ _ hs2).mono ?_
        rintro e w' ⟨rfl, rfl⟩
        go_wp2_with fail
        go_ret
        exact ⟨ret_bool (mayA_bad hlt' (by rw [goodA_at hlt', HNM.out]; rfl)).symm, HW.out⟩
      · have HNM := Lib.hid hnm
        clear hnm
        cases htx : P1.textB l[k].vl.data.toList
        · have HTX := Lib.hid htx
          clear htx
          go_wp2_with fail
          refine (rname_at _ _ HNM.out hs1).mono ?_
          rintro e w' ⟨rfl, rfl⟩
          go_wp2_with fail
          refine (rtext_at _ _ HTX.out hs2).mono ?_
          rintro e w' ⟨rfl, rfl⟩
          go_wp2_with fail
          go_ret
          exact ⟨ret_bool (mayA_bad hlt' (by rw [goodA_at hlt', HTX.out]; simp)).symm, HW.out⟩
        · have HTX := Lib.hid htx
          clear htx
          go_wp2_with fail
          refine (rname_at _ _ HNM.out hs1).mono ?_
          rintro e w' ⟨rfl, rfl⟩
          go_wp2_with fail
          refine (rtext_at _ _ HTX.out hs2).mono ?_
          rintro e w' ⟨rfl, rfl⟩
          go_wp2_with fail
          obtain ⟨wo, rfl⟩ : ∃ wo : World, wo = wr := ⟨_, rfl⟩
          go_loopw [6] (fun i wr => ∃ j : Nat, j ≤ k ∧ i = .int .i64 j ∧ Hid (Below w.heap.size w wr) ∧ Hid (findA (l.take j) l[k].nm = none)) (fun i _ => k - (intOf i).toNat)
          case atStart => exact ⟨0, by omega, rfl, HW, Lib.hid (by simp [findA])⟩
          case round =>
            obtain ⟨j, hj, rfl, HWi, HFi⟩ := hrel
            by_cases hjk : j < k
            · have hjl : j < l.length := by omega
              obtain ⟨b', o', hA', hb', g0, g1, g2⟩ := (HH.out.below HWi.out (Nat.le_refl _)) j hjl
              obtain ⟨b'', o'', hA'', hb'', q0, q1, q2⟩ := (HH.out.below HWi.out (Nat.le_refl _)) k hlt'
              injection hA' with hA'
              injection hA' with e1 e2
              subst e1; subst e2
              injection hA'' with hA''
              injection hA'' with e1 e2
              subst e1; subst e2
              cases he : (l[j].nm.toList == l[k].nm.toList)
              · have HE := Lib.hid he
                go_wp2_with fail
                go_quiet (fail)
                go_wp2_with fail
                go_roundw
                case rel => exact ⟨j + 1, by omega, by go_num, Lib.hid (Below_drewN HWi.out _), Lib.hid (findA_next HFi.out hjl HE.out)⟩
                case measure => simp [intOf]; omega
              · have HE := Lib.hid he
                go_wp2_with fail
                go_quiet (fail)
                go_wp2_with fail
                go_ret
                exact ⟨ret_bool (mayA_bad hlt' (by rw [goodA_at hlt', hasA_of hjl hjk HE.out]; simp)).symm, Below_drewN HWi.out _⟩
            · obtain rfl : j = k := by omega
              go_wp2_with fail
              go_roundw
              case rel => exact ⟨j + 1, by omega, by go_num, HWi, Lib.hid (HG.out.next (by rw [goodA_at hlt', HNM.out, HTX.out, hasA_no HFi.out]; rfl))⟩
              case measure => simp [intOf]; omega
    · obtain rfl : k = n := by omega
      go_wp2_with fail
      go_ret
      exact ⟨ret_bool (by rw [mayA_ok HG.out HN.out]; exact decide_eq_decide.mpr (by omega)), HW.out⟩
end Go.Proofs.Ytbdcbjeeaebfeaa.P3

/- What the quick calls on a document answer: who is there, a node, the identities, room, the focus; and what a focus, a note, attributes, a text that are set leave. -/
namespace Go.Proofs.Ytbdcbjeeaebfeaa.P5
open Go.RowKit Kd P4
variable {B p : Nat} {x : Dx}

/-! ### A node that is told -/
theorem setOne {a w : World} {g i : Nat} {u : Value} (h : But (fun k => k = g) a w) : But (fun k => k = g) a (w.setCell ⟨g, i, none⟩ u) := But.setCell h (fun _ => rfl) u
theorem one_end {w w2 wf : World} (hB : Below w.heap.size w w2) (hb : But (fun k => k = w.heap.size) w2 wf) : Below w.heap.size w wf := hB.trans (hb.to_below (fun i _ hi => by omega) hB.size)
end Go.Proofs.Ytbdcbjeeaebfeaa.P5

/- A document's own block, its slots, its identities turned: what it is then. No condition. -/
namespace Go.Proofs.Ytbdcbjeeaebfeaa.P5
open Go.RowKit Kd P4
variable {B p : Nat} {x : Dx}

theorem idsl (x : Dx) : idsOf (x.rs.map (·.nd)) = idsOf x.l := rfl
/-- an error's number, as a value -/
def errV (c : Int) : Value := if c = 0 then .nilIface else .iface 39 (.int .i64 c)
end Go.Proofs.Ytbdcbjeeaebfeaa.P5

/- What SetFocus, Note, setText, setAttrs answer and leave; whether one is inside another; a node that leaves. -/
namespace Go.Proofs.Ytbdcbjeeaebfeaa.P5
open Go.RowKit Kd P4
variable {B p : Nat} {x : Dx}

end Go.Proofs.Ytbdcbjeeaebfeaa.P5

/- What setAttrs answers and leaves; whether one is inside another; a node that leaves. -/
namespace Go.Proofs.Ytbdcbjeeaebfeaa.P5
open Go.RowKit Kd P4
variable {B p : Nat} {x : Dx}

/-- attributes that are handed in -/
structure ArgA (w : World) (A : Option Addr) (n c : Nat) (l : List P3.At) : Prop where
  len : l.length = n
  cap : n ≤ c
  nil : A = none → c = 0
  few : n ≤ 1000000
  wf : P3.Wf l
  holds : kA.Holds w w.heap.size A l
theorem ArgA.below {w w' : World} {A : Option Addr} {n c : Nat} {l : List P3.At} (h : ArgA w A n c l) (hb : Below w.heap.size w w') : ArgA w' A n c l := ⟨h.len, h.cap, h.nil, h.few, h.wf, h.holds.on hb⟩

theorem may_at (l : List P3.At) (A : Option Addr) (n c : Nat) {r : Bool} (w : World) (hr : P3.mayA l = r) (h : ArgA w A n c l) :
    Calls Try.prog 59 #[.slice A n c] w fun e w' => e = .returned (.bool r) ∧ Below w.heap.size w w' := by
  subst hr
  exact P3.may_any l A n c w h.len h.few h.cap h.wf (p3holds h.holds)
/-! ### inside -/
open Classical in
noncomputable def depOf (P : Int → Int) (y : Int) : Nat := if h : ∃ k, Dep P y k then Classical.choose h else 0
theorem dep_uniq {P : Int → Int} {y : Int} {i j : Nat} (hi : Dep P y i) (hj : Dep P y j) : i = j := by
  rcases Nat.lt_trichotomy i j with h | h | h
  · exact absurd hi.1 (hj.2 i h)
  · exact h
  · exact absurd hj.1 (hi.2 j h)
theorem depOf_is {P : Int → Int} {y : Int} {k : Nat} (h : Dep P y k) : depOf P y = k := by
  have hx : ∃ k, Dep P y k := ⟨k, h⟩
  unfold depOf
  rw [dif_pos hx]
  exact dep_uniq (Classical.choose_spec hx) h
theorem depOf_lt {l : List Nd} (h : Tr (fun y => hasL l y = true) (parOf l) (kidsOf l)) {y : Int} (hy : y ≠ 0) : depOf (parOf l) (parOf l y) < depOf (parOf l) y := by
  obtain ⟨k, hk⟩ := h.dep y
  rw [depOf_is hk]
  cases k with
  | zero => exact absurd hk.1 hy
  | succ k =>
    have : Dep (parOf l) (parOf l y) k := ⟨hk.1, fun i hi => hk.2 (i + 1) (by omega)⟩
    rw [depOf_is this]
    omega
theorem inside_yes {l : List Nd} (h : Tr (fun y => hasL l y = true) (parOf l) (kidsOf l)) {a b : Int} {j : Nat} (ha : hasL l a = true) (hb : b ≠ 0) (hj : it (parOf l) j a = b) : inside l a b = true := by
  obtain ⟨k, hk⟩ := h.dep a
  have hkl := h.dep_le (L := idsOf l) (fun y hy => has_ids.1 hy) ha hk
  have hjk : j < k := by
    rcases Nat.lt_or_ge j k with hlt | hge
    · exact hlt
    · exact absurd (hj.symm.trans (h.it_ge hk.1 hge)) hb
  unfold inside aboveL
  rw [decide_eq_true_iff, ← hj]
  simp only [idsOf, List.length_map] at hkl
  exact h.it_up _ a k j ha hk hjk (by omega)
theorem inside_no {l : List Nd} (h : Tr (fun y => hasL l y = true) (parOf l) (kidsOf l)) {a b : Int} {j : Nat} (hj : it (parOf l) j a = 0) (hn : ∀ m, m < j → it (parOf l) m a ≠ b) : inside l a b = false := by
  unfold inside aboveL
  rw [decide_eq_false_iff_not]
  intro hm
  obtain ⟨m, hm1, hm2⟩ := up_it _ _ _ hm
  rcases Nat.lt_or_ge m j with hlt | hge
  · exact hn m hlt hm1
  · rw [h.it_ge hj hge] at hm1
    subst hm1
    exact h.z hm2
end Go.Proofs.Ytbdcbjeeaebfeaa.P5

/- A node that leaves; a node that is put, or the error. -/
namespace Go.Proofs.Ytbdcbjeeaebfeaa.P5
open Go.RowKit Kd P4
variable {B p : Nat} {x : Dx}

theorem put_slots {k : Nat} (hk : k < x.rs.length) {r : Rw} (hb : r.b = x.rs[k].b) (hid : r.nd.id = x.rs[k].nd.id) : (x.put k r).rs.map slotOf = x.rs.map slotOf := by
  show (x.rs.set k r).map slotOf = x.rs.map slotOf
  apply List.ext_getElem
  · simp
  · intro j h1 h2
    simp only [List.getElem_map, List.getElem_set]
    split
    · rename_i e; subst e; simp [slotOf, hb, hid]
    · rfl
theorem put_other {k m : Nat} (hk : k < x.rs.length) {r : Rw} (hne : m ≠ k) : ∃ h1 : k < (x.put m r).rs.length, (x.put m r).rs[k] = x.rs[k] := by
  refine ⟨by show k < (x.rs.set m r).length; simpa using hk, ?_⟩
  show (x.rs.set m r)[k]'(by simpa using hk) = x.rs[k]
  exact List.getElem_set_ne hne _
/-- one's slots stand as before: so does each one's block -/
theorem slots_at {rs rs' : List Rw} (h : rs'.map slotOf = rs.map slotOf) {k : Nat} (hk : k < rs.length) : ∃ h1 : k < rs'.length, rs'[k].nd.id = rs[k].nd.id ∧ rs'[k].b = rs[k].b := by
  have hl : rs'.length = rs.length := by simpa using congrArg List.length h
  have h1 : k < rs'.length := by omega
  refine ⟨h1, ?_⟩
  have e := congrArg (fun l => l[k]?) h
  simp only [List.getElem?_map, List.getElem?_eq_getElem hk, List.getElem?_eq_getElem h1, Option.map_some, Option.some.injEq] at e
  unfold slotOf at e
  injection e with e1 e2
  exact ⟨e1, e2⟩

end Go.Proofs.Ytbdcbjeeaebfeaa.P5

/- A node that is put: each error, or where it stands then. -/
namespace Go.Proofs.Ytbdcbjeeaebfeaa.P5
open Go.RowKit Kd P4
variable {B p : Nat} {x : Dx}

theorem void_at (t : ByteArray) {r : Bool} (w : World) (h : P1.voidB t.data.toList = r) : Calls Try.prog 42 #[.string t] w fun e w' => e = .returned (.bool r) ∧ w = w' := by
  subst h; exact P1.void_any t w
end Go.Proofs.Ytbdcbjeeaebfeaa.P5

/- A node that is put, and stands; put as a whole. -/
namespace Go.Proofs.Ytbdcbjeeaebfeaa.P5
open Go.RowKit Kd P4
variable {B p : Nat} {x : Dx}

theorem ins_end (i : Int) (l : List Int) : l.take l.length ++ i :: l.drop l.length = insA i 0 l := by
  unfold insA; rw [if_pos rfl]; simp
theorem ins_at : ∀ {l : List Int} {b : Int} (i : Int), b ∈ l → l.Nodup → b ≠ 0 → l.take (idxA l b) ++ i :: l.drop (idxA l b) = insA i b l
  | [], _, _, h, _, _ => absurd h (by simp)
  | a :: r, b, i, h, hn, h0 => by
    obtain ⟨h1, h2⟩ := List.nodup_cons.1 hn
    unfold insA
    rw [if_neg h0, List.flatMap_cons]
    by_cases e : b = a
    · subst e
      have : r.flatMap (fun c => if c = b then [i, c] else [c]) = r := by
        have : ∀ m : List Int, b ∉ m → m.flatMap (fun c => if c = b then [i, c] else [c]) = m := by
          intro m
          induction m with
          | nil => intro _; rfl
          | cons c m ih =>
            intro hm
            simp only [List.mem_cons, not_or] at hm
            rw [List.flatMap_cons, if_neg (Ne.symm hm.1), ih hm.2]
            rfl
        exact this r h1
      rw [this]
      simp [idxA]
    · have ih := ins_at i ((List.mem_cons.1 h).resolve_left e) h2 h0
      unfold insA at ih
      rw [if_neg h0] at ih
      rw [if_neg (Ne.symm e), ← ih]
      simp [idxA, e]
theorem beq_i (a b : Int) : (a == b) = decide (a = b) := rfl
end Go.Proofs.Ytbdcbjeeaebfeaa.P5

/- Errors told apart; the law's Code and Pick. No condition. -/
namespace Go.Proofs.Ytbdcbjeeaebfeaa.P4
open Go.RowKit Kd

theorem err_eql (a b : Int) (w : World) : (binOp .eql 25 (.iface 39 (.int .i64 a)) (.iface 39 (.int .i64 b))).run Try.prog w = .ok (.bool (a == b)) w :=
  Lib.run_eql_iface_int w a b Try.underlying25 (by kernel_rfl) Try.underlying39
theorem err_eql_nil (x : Value) (w : World) : (binOp .eql 25 (.iface 39 x) .nilIface).run Try.prog w = .ok (.bool false) w := run_eql_held_nil _ _ _ _ (by kernel_rfl)
theorem err_neq_nil (x : Value) (w : World) : (binOp .neq 25 (.iface 39 x) .nilIface).run Try.prog w = .ok (.bool true) w := run_neq_held_nil _ _ _ _ (by kernel_rfl)
theorem nil_eql_nil (w : World) : (binOp .eql 25 .nilIface .nilIface).run Try.prog w = .ok (.bool true) w := Go.run_eql_nil_nil _ _ (by kernel_rfl)
theorem nil_neq_nil (w : World) : (binOp .neq 25 .nilIface .nilIface).run Try.prog w = .ok (.bool false) w := Go.run_neq_nil_nil _ _ (by kernel_rfl)

set_option maxHeartbeats 400000 in
/-- of one of api's errors its number -/
theorem code_any (m : Nat) (h1 : 1 ≤ m) (h13 : m ≤ 13) (w : World) : Calls Try.prog 8 #[.iface 39 (.int .i64 m)] w fun e w' => e = .returned (.int .i64 m) ∧ w = w' := by
  have q1 := err_eql_nil
  have q2 := err_eql
  go_enter Try.func8, Try.ntmps8
  go_wp2
  go_loop [3] (fun i => ∃ k : Nat, 1 ≤ k ∧ k ≤ m ∧ i = .int .i64 k) (fun i => m - (intOf i).toNat)
  case atStart => exact ⟨1, by omega, h1, rfl⟩
  case round =>
    obtain ⟨k, hk1, hkm, rfl⟩ := hrel
    by_cases hlt : k < m
    · have hne : ((m : Int) == (k : Int)) = false := beq_eq_false_iff_ne.2 (by omega)
      go_wp2
      go_round
      case rel => exact ⟨k + 1, by omega, by omega, by go_num⟩
      case measure => simp [intOf]; omega
    · obtain rfl : k = m := by omega
      go_wp2
      go_ret
      exact ⟨rfl, rfl⟩
end Go.Proofs.Ytbdcbjeeaebfeaa.P4

/- A node more, or the error; whether one may be made; a new document. -/
namespace Go.Proofs.Ytbdcbjeeaebfeaa.P5
open Go.RowKit Kd P4
variable {B p : Nat} {x : Dx}

theorem heap_top {w : World} {o : Obj} {g : Nat} (h : g = w.heap.size) : (w.alloc o).heap[g]? = some o := by subst h; exact heap_alloc_new w o
theorem heap_drew {w : World} {o : Obj} {g : Nat} (h : w.heap[g]? = some o) : w.drew.heap[g]? = some o := h

/-! ### add -/
end Go.Proofs.Ytbdcbjeeaebfeaa.P5

/- Whether a node may be made; a node that is made, or the error; a new document. -/
namespace Go.Proofs.Ytbdcbjeeaebfeaa.P5
open Go.RowKit Kd P4
variable {B p : Nat} {x : Dx}

theorem empty_iff (s : ByteArray) : s.toList.isEmpty = true ↔ s.toList = [] := List.isEmpty_iff
/-! ### create -/
/-! ### New -/
end Go.Proofs.Ytbdcbjeeaebfeaa.P5
