/- Layer 17's example, over the contract of the program's denote. No condition but those stated. -/
import Derived.Deep.RegionHeld3
import Derived.Deep.RegionWith
import Derived.Deep.DrawnRows
import Derived.Test.YthdgaoifbejpjaaM4
import Derived.Test.YthdgaoifbejpjaaM12
import Derived.Test.YthdgaoifbejpjaaM14
import Derived.Test.YthdgaoifbejpjaaM17
import Derived.Test.YthdgaoifbejpjaaM25
set_option linter.unusedVariables false
set_option linter.unusedSimpArgs false
namespace Go.Proofs.Ythdgaoifbejpjaa.P17
open Go.RowKit Kd P4 P5 P11 P12 P13 P14 P16
set_option linter.unusedSimpArgs false
set_option linter.unusedVariables false

def upW (k : Int) (t : ByteArray) : WV := .mk k ⟨#[]⟩ ⟨#[]⟩ t ⟨none, 0, 0⟩ [] ⟨none, 0, 0⟩ []
def upO : P8.TV := .mk ⟨#[]⟩ ⟨#[97]⟩ ⟨#[]⟩ ⟨none, 0, 0⟩ [] ⟨none, 0, 0⟩ []
theorem er_upW (k : Int) (t : ByteArray) : er (upW k t) = .mk k z0 z0 t [] [] := by rw [upW, er, erL]; rfl
theorem er_upO : P8.er upO = .mk z0 ⟨#[97]⟩ z0 [] [] := by rw [upO, P8.er, P8.erL]; rfl
theorem lit17 (C : DenC) (k : Int) (t : ByteArray) (hw : WfW (.mk k z0 z0 t [] [])) {wz : World} {g1 g2 : Nat} (h1 : wz.heap[g1]? = some (.cells #[.int .i64 k, .string ⟨#[]⟩, .string ⟨#[]⟩, .string t, .slice none 0 0, .slice none 0 0] 41 (0, 0)))
    (h2 : wz.heap[g2]? = some (.cells #[.string ⟨#[]⟩, .string ⟨#[97]⟩, .string ⟨#[]⟩, .slice none 0 0, .slice none 0 0] 37 (0, 0))) :
    Calls Try.prog 8 #[.slice (some ⟨g1, 0, none⟩) 1 1, .slice (some ⟨g2, 0, none⟩) 1 1] wz (DenV wz (denP [.mk k z0 z0 t [] []] [.mk z0 ⟨#[97]⟩ z0 [] []])) := by
  have e1 : erL [upW k t] = [.mk k z0 z0 t [] []] := by rw [erL, erL, er_upW]
  have e2 : [upO].map P8.er = [.mk z0 ⟨#[97]⟩ z0 [] []] := by rw [List.map_cons, List.map_nil, er_upO]
  have hz0 : z0.toList = [] := by rw [ByteArray.toList_eq]; rfl
  have hzw : WOk kW wz wz.heap.size (upW k t) := ⟨rfl, Nat.le_refl _, fun _ => rfl, Kind.Holds.nil _ _ _, rfl, Nat.le_refl _, fun _ => rfl, Kind.Holds.nil _ _ _, (by intro k hk; cases hk)⟩
  have hzo : P8.TOk wz wz.heap.size upO := ⟨rfl, Nat.le_refl _, fun _ => rfl, Kind.Holds.nil _ _ _, rfl, Nat.le_refl _, fun _ => rfl, Kind.Holds.nil _ _ _, (by intro k hk; cases hk)⟩
  have := C [upW k t] (some ⟨g1, 0, none⟩) 1 1 [upO] (some ⟨g2, 0, none⟩) 1 1 wz
    ⟨rfl, Nat.le_refl _, by decide, (fun e => by cases e), (Kind.Holds.lit h1 rfl).more (heap_lt h1), fun t' ht => by rw [List.mem_singleton.1 ht]; exact hzw⟩
    (by rw [e1]; intro t' ht; rw [List.mem_singleton.1 ht]; exact hw) (by rw [e1]; exact ⟨fun i h _ => by simp at h ⊢; omega, fun t' ht => by rw [List.mem_singleton.1 ht]; exact .mk (fun i h => by simp at h) (fun k hk => by cases hk)⟩) (by rw [e1]; simp [wtL, wtW])
    ((Kind.Holds.lit h2 rfl).more (heap_lt h2)) rfl (Nat.le_refl _) (by decide) (fun o ho => by rw [List.mem_singleton.1 ho]; exact hzo)
    (by rw [e2, P8.mayL, P8.mayL, P8.mayP, if_pos (by rw [hz0]; rfl), hz0]; decide) (by rw [e2]; simp [P8.countL, P8.countP])
  rw [e1, e2] at this
  exact this
theorem den_text (t : ByteArray) (old : List P8.PT) : denP [.mk 2 z0 z0 t [] []] old = [.mk z0 t z0 [] []] := by
  unfold denP
  rw [goL, goL, piece_text]
  rfl
theorem den_all : denP [.mk 4 z0 z0 z0 [] []] [.mk z0 ⟨#[97]⟩ z0 [] []] = [.mk z0 ⟨#[97]⟩ z0 [] []] := by
  unfold denP
  rw [goL, goL, piece_all]
  rfl
set_option maxRecDepth 100000 in
set_option maxHeartbeats 8000000 in
theorem up17_any (C : DenC) : UpC := by
  intro w
  have L2 : Hid (∀ (wz : World) (g1 g2 : Nat), wz.heap[g1]? = some (.cells #[.int .i64 2, .string ⟨#[]⟩, .string ⟨#[]⟩, .string ⟨#[98]⟩, .slice none 0 0, .slice none 0 0] 41 (0, 0)) → wz.heap[g2]? = some (.cells #[.string ⟨#[]⟩, .string ⟨#[97]⟩, .string ⟨#[]⟩, .slice none 0 0, .slice none 0 0] 37 (0, 0)) →
      Calls Try.prog 8 #[.slice (some ⟨g1, 0, none⟩) 1 1, .slice (some ⟨g2, 0, none⟩) 1 1] wz (DenV wz [.mk z0 ⟨#[98]⟩ z0 [] []])) := Lib.hid (fun wz g1 g2 h1 h2 => by
    have := lit17 C 2 ⟨#[98]⟩ (.tx (by simp only [mayI, ez, show z0 = ⟨#[]⟩ from rfl]; decide)) h1 h2
    rw [den_text] at this
    exact this)
  have L4 : Hid (∀ (wz : World) (g1 g2 : Nat), wz.heap[g1]? = some (.cells #[.int .i64 4, .string ⟨#[]⟩, .string ⟨#[]⟩, .string ⟨#[]⟩, .slice none 0 0, .slice none 0 0] 41 (0, 0)) → wz.heap[g2]? = some (.cells #[.string ⟨#[]⟩, .string ⟨#[97]⟩, .string ⟨#[]⟩, .slice none 0 0, .slice none 0 0] 37 (0, 0)) →
      Calls Try.prog 8 #[.slice (some ⟨g1, 0, none⟩) 1 1, .slice (some ⟨g2, 0, none⟩) 1 1] wz (DenV wz [.mk z0 ⟨#[97]⟩ z0 [] []])) := Lib.hid (fun wz g1 g2 h1 h2 => by
    have := lit17 C 4 z0 .al h1 h2
    rw [den_all] at this
    exact this)
  have NB : Hid (∀ (w : World) (a b : Array Value) (s t : TypeId), ((w.alloc (.cells a s)).alloc (.cells b t)).heap[w.heap.size]? = some (.cells a s (0, 0)) ∧ ((w.alloc (.cells a s)).alloc (.cells b t)).heap[w.heap.size + 1]? = some (.cells b t (0, 0)) ∧ Below w.heap.size w ((w.alloc (.cells a s)).alloc (.cells b t))) := Lib.hid (fun w a b s t => by
    refine ⟨heap_up (heap_alloc_new w _), ?_, ((Below.refl _ _).alloc (Nat.le_refl _) _).alloc (by simp) _⟩
    have := heap_alloc_new (w.alloc (.cells a s)) (.cells b t)
    simpa using this)
  clear C
  go_enter Try.func5, Try.ntmps5
  go_wp2_with fail
  obtain ⟨n1, n2, n3⟩ := NB.out w #[.int .i64 2, .string ⟨#[]⟩, .string ⟨#[]⟩, .string ⟨#[98]⟩, .slice none 0 0, .slice none 0 0] #[.string ⟨#[]⟩, .string ⟨#[97]⟩, .string ⟨#[]⟩, .slice none 0 0, .slice none 0 0] 41 37
  refine (L2.out _ _ _ n1 n2).mono ?_
  rintro e w2 ⟨A1, m1, c1, us, rfl, hus, u1, u2, u3, u4, u5, u6, b2⟩
  have B2 := Lib.hid (n3.trans (b2.mono n3.size))
  have hlen := congrArg List.length hus
  rw [List.length_map] at hlen
  simp only [List.length_cons, List.length_nil] at hlen
  obtain rfl : m1 = 1 := by omega
  have h0 : 0 < us.length := by omega
  obtain ⟨bo, oo, rfl, hbo, z0', z1', z2', z3', z4'⟩ := P8.cell_of_trees u5 h0
  have ht : us[0].txt = ⟨#[98]⟩ := by
    have h1 : (us.map P8.er)[0]? = some (.mk z0 ⟨#[98]⟩ z0 [] []) := by rw [hus]; rfl
    rw [List.getElem?_map, List.getElem?_eq_getElem h0] at h1
    injection h1 with h1
    rw [P8.er_mk] at h1
    injection h1
  rw [ht] at z1'
  have z1 : w2.cell? ⟨bo, oo + 1, none⟩ = some (.string ⟨#[98]⟩) := by simpa using z1'
  have qb : ((⟨#[98]⟩ : ByteArray).toList == [98]) = true := by rw [ByteArray.toList_eq]; rfl
  have q1 : ((1 : Int) != 1) = false := by decide
  clear n1 n2 n3 b2 u1 u4 u5 u6 hus hlen h0 ht z0' z1' z2' z3' z4'
  go_wp2_with fail
  obtain ⟨n1, n2, n3⟩ := NB.out w2 #[.int .i64 4, .string ⟨#[]⟩, .string ⟨#[]⟩, .string ⟨#[]⟩, .slice none 0 0, .slice none 0 0] #[.string ⟨#[]⟩, .string ⟨#[97]⟩, .string ⟨#[]⟩, .slice none 0 0, .slice none 0 0] 41 37
  refine (L4.out _ _ _ n1 n2).mono ?_
  rintro e w3 ⟨A3, m3, c3, vs, rfl, hvs, v1, v2, v3, v4, v5, v6, b3⟩
  have B3 := Lib.hid (B2.out.trans ((n3.trans (b3.mono n3.size)).mono B2.out.size))
  have hlen := congrArg List.length hvs
  rw [List.length_map] at hlen
  simp only [List.length_cons, List.length_nil] at hlen
  obtain rfl : m3 = 1 := by omega
  clear n1 n2 n3 b3 v1 v4 v5 v6 hvs hlen
  go_wp2_with fail
  go_ret
  exact ⟨by first | rfl | simp, B3.out⟩
theorem tells17_any (W14 : WOfC) (C : DenC) (l : List In) (A : Option Addr) (n c : Nat) (os : List P8.TV) (A' : Option Addr) (n' c' : Nat) (w : World) (hh : kX.Holds w w.heap.size A l) (hn : l.length = n) (hnc : n ≤ c) (hcm : c ≤ maxLen)
    (hh' : P8.kT.Holds w w.heap.size A' os) (hn' : os.length = n') (hnc' : n' ≤ c') (hcm' : c' ≤ maxLen) (hok : ∀ o ∈ os, P8.TOk w w.heap.size o) (hfit : ∀ o ∈ os, P8.TFit o) :
    Calls Try.prog 3 #[.slice A n c, .slice A' n' c'] w fun e w' => e = .returned (.bool true) ∧ Below w.heap.size w w' :=
  tells17_of (up17_any C) W14 C l A n c os A' n' c' w hh hn hnc hcm hh' hn' hnc' hcm' hok hfit
end Go.Proofs.Ythdgaoifbejpjaa.P17

/- Layer 11's example, and the walk of InsTells, over the contracts of the program's calls. No condition but those stated. -/
namespace Go.Proofs.Ythdgaoifbejpjaa.P11
open Go.RowKit Kd P4
set_option linter.unusedSimpArgs false
set_option linter.unusedVariables false

def makesB (op : Int) : Bool := op == 1 || op == 3 || op == 4
def tellsB (op : Int) : Bool := op == 5 || op == 6
def IMayC : Prop := ∀ (i : In) (w : World), i.a.size ≤ 100000 → i.b.size ≤ 100000 → Calls Try.prog 58 #[.agg #[.int .i64 i.op, .string i.a, .string i.b]] w fun e w' => e = .returned (.bool (mayI i)) ∧ Below w.heap.size w w'
def TellsC : Prop := ∀ (op : Int) (w : World), Calls Try.prog 59 #[.int .i64 op] w fun e w' => e = .returned (.bool (tellsB op)) ∧ Below w.heap.size w w'
theorem c0 : (⟨#[]⟩ : ByteArray).toList = [] := by rw [ByteArray.toList_eq]
theorem bl_call {a w w5 : World} (b5 : Below w.heap.size w w5) (h : Below a.heap.size a w) : Below a.heap.size a w5 := h.trans (b5.mono h.size)
theorem take_at {P : Program} {ops : Array Oper} {Q : Exit → Act → World → Prop} {md : Region.Mode} {S : World → Prop} {d i : Nat} {oi : Oper} {v : Value} {fuel : Nat} {listed : Array Bool} {a : Act} {w : World} (hi : ops[i]? = some oi) (hd : oi.dst = some d)
    (hs : Region.noSelect ops = true) (hf : Region.free md ops listed i = true) (hr : (Region.ready md ops listed).contains i = true)
    (hQ : ∀ c a w, Q (.panic c) (a.put (some d) v) w → Q (.panic c) a w) (hy : YieldsIf P ops S oi v a) (hS : S w)
    (h : wpAnyH P md ops Q S fuel (listed.setIfInBounds i true) (a.put (some d) v) w) : wpAnyH P md ops Q S (fuel + 1) listed a w :=
  wpAnyH_take hi hs hf hr (by rw [hd]; exact hQ) hy hS (by rw [hd]; exact h)
theorem bl_drewN {B : Nat} {a w : World} (h : Below B a w) (n : Nat) : Below B a (w.drewN n) := ⟨h.os, h.tape, h.output, h.size, h.block⟩
theorem bl_alloc {a w : World} (h : Below a.heap.size a w) (o : Obj) : Below a.heap.size a (w.alloc o) := h.alloc h.size o
theorem bl_drew {B : Nat} {a w : World} (h : Below B a w) : Below B a w.drew := ⟨h.os, h.tape, h.output, h.size, h.block⟩
end Go.Proofs.Ythdgaoifbejpjaa.P11

/- The program's ins.May, ins.Makes and ins.Tells keep their contracts. No condition but those stated. -/
set_option linter.unusedVariables false
set_option linter.unusedSimpArgs false
namespace Go.Proofs.Ythdgaoifbejpjaa.P11
open Go.RowKit Kd P4

theorem name_at (s : ByteArray) (w : World) {r : Bool} (h : P1.nameB s.data.toList = r) (hs : s.size ≤ maxLen) : Calls Try.prog 67 #[.string s] w fun e w' => e = .returned (.bool r) ∧ w = w' := by
  subst h; exact P1.may_any s w hs
theorem text_at (s : ByteArray) (w : World) {r : Bool} (h : P1.textB s.data.toList = r) (hs : s.size ≤ maxLen) : Calls Try.prog 69 #[.string s] w fun e w' => e = .returned (.bool r) ∧ w = w' := by
  subst h; exact P1.text_any s w hs
theorem void_at (s : ByteArray) (w : World) {r : Bool} (h : P1.voidB s.data.toList = r) : Calls Try.prog 68 #[.string s] w fun e w' => e = .returned (.bool r) ∧ w = w' := by
  subst h; exact P1.void_any s w
theorem tells_c : TellsC := by
  intro op w
  cases h1 : (op == 5) <;> cases h3 : (op == 6) <;>
    (have HM : Hid (tellsB op = _) := Lib.hid (by unfold tellsB; rw [h1, h3])
     go_enter Try.func59, Try.ntmps59
     go_wp2_with fail
     go_ret
     exact ⟨by rw [HM.out]; rfl, Below.refl _ _⟩)
set_option maxHeartbeats 4000000 in
theorem imay_c : IMayC := by
  intro i w ha hb
  obtain ⟨op, a, b⟩ := i
  have ha : a.size ≤ maxLen := Nat.le_trans ha (by unfold maxLen; omega)
  have hb : b.size ≤ maxLen := Nat.le_trans hb (by unfold maxLen; omega)
  have B1 : Hid (Below w.heap.size w (w.alloc (.cells #[.int .i64 op, .string a, .string b] 71))) := Lib.hid ((Below.refl _ _).alloc (Nat.le_refl _) _)
  have N1 : Hid (XB (w.alloc (.cells #[.int .i64 op, .string a, .string b] 71)) w.heap.size ⟨op, a, b⟩) := Lib.hid (XB.new w ⟨op, a, b⟩)
  obtain ⟨bn, hbn⟩ : ∃ x, P1.nameB a.data.toList = x := ⟨_, rfl⟩
  obtain ⟨bv, hbv⟩ : ∃ x, P1.voidB a.data.toList = x := ⟨_, rfl⟩
  obtain ⟨bx, hbx⟩ : ∃ x, P1.textB a.data.toList = x := ⟨_, rfl⟩
  obtain ⟨bz, hby⟩ : ∃ x, P1.textB b.data.toList = x := ⟨_, rfl⟩
  have HM : Hid (mayI ⟨op, a, b⟩ = if op = 1 then bn && !bv && bz else if op = 3 then bv && bz else if op = 4 then bx && b.toList.isEmpty else if op = 5 ∨ op = 6 then bn && bz else if op = 2 ∨ op = 7 ∨ op = 8 then a.toList.isEmpty && b.toList.isEmpty else false) := Lib.hid (by unfold mayI; simp only [hbn, hbv, hbx, hby])
  have HN : Hid (∀ w9, Calls Try.prog 67 #[.string a] w9 fun e w' => e = .returned (.bool bn) ∧ w9 = w') := Lib.hid (fun w9 => name_at a w9 hbn ha)
  have HV : Hid (∀ w9, Calls Try.prog 68 #[.string a] w9 fun e w' => e = .returned (.bool bv) ∧ w9 = w') := Lib.hid (fun w9 => void_at a w9 hbv)
  have HX : Hid (∀ w9, Calls Try.prog 69 #[.string a] w9 fun e w' => e = .returned (.bool bx) ∧ w9 = w') := Lib.hid (fun w9 => text_at a w9 hbx ha)
  have HY : Hid (∀ w9, Calls Try.prog 69 #[.string b] w9 fun e w' => e = .returned (.bool bz) ∧ w9 = w') := Lib.hid (fun w9 => text_at b w9 hby hb)
  clear hbn hbv hbx hby
  show Calls Try.prog 58 #[.agg #[.int .i64 op, .string a, .string b]] w _
  go_enter Try.func58, Try.ntmps58
  go_upto_region 1 with fail
  generalize w.alloc (.cells #[.int .i64 op, .string a, .string b] 71) = W at B1 N1 ⊢
  have c0 := N1.out.c0; have c1 := N1.out.c1; have c2 := N1.out.c2
  simp only at c0 c1 c2
  by_cases h1 : op = 1
  · subst h1
    have HM2 : Hid (mayI ⟨1, a, b⟩ = (bn && !bv && bz)) := Lib.hid (by rw [HM.out, if_pos rfl])
    clear HM
    cases bn
    · go_wp2_with fail; refine (HN.out _).mono ?_; rintro e w' ⟨rfl, rfl⟩; go_wp2_with fail; go_ret; exact ⟨by rw [HM2.out]; rfl, B1.out⟩
    cases bv
    · cases bz <;> (go_wp2_with fail; refine (HN.out _).mono ?_; rintro e w' ⟨rfl, rfl⟩; go_wp2_with fail; refine (HV.out _).mono ?_; rintro e w' ⟨rfl, rfl⟩; go_wp2_with fail; refine (HY.out _).mono ?_; rintro e w' ⟨rfl, rfl⟩; go_wp2_with fail; go_ret; exact ⟨by rw [HM2.out]; rfl, B1.out⟩)
    · go_wp2_with fail; refine (HN.out _).mono ?_; rintro e w' ⟨rfl, rfl⟩; go_wp2_with fail; refine (HV.out _).mono ?_; rintro e w' ⟨rfl, rfl⟩; go_wp2_with fail; go_ret; exact ⟨by rw [HM2.out]; rfl, B1.out⟩
  by_cases h3 : op = 3
  · subst h3
    have HM2 : Hid (mayI ⟨3, a, b⟩ = (bv && bz)) := Lib.hid (by rw [HM.out, if_neg (by decide), if_pos rfl])
    clear HM
    cases bv
    · go_wp2_with fail; refine (HV.out _).mono ?_; rintro e w' ⟨rfl, rfl⟩; go_wp2_with fail; go_ret; exact ⟨by rw [HM2.out]; rfl, B1.out⟩
    · cases bz <;> (go_wp2_with fail; refine (HV.out _).mono ?_; rintro e w' ⟨rfl, rfl⟩; go_wp2_with fail; refine (HY.out _).mono ?_; rintro e w' ⟨rfl, rfl⟩; go_wp2_with fail; go_ret; exact ⟨by rw [HM2.out]; rfl, B1.out⟩)
  by_cases h4 : op = 4
  · subst h4
    have HM2 : Hid (mayI ⟨4, a, b⟩ = (bx && b.toList.isEmpty)) := Lib.hid (by rw [HM.out, if_neg (by decide), if_neg (by decide), if_pos rfl])
    clear HM
    cases bE : b.toList.isEmpty <;> rw [bE] at HM2 <;> cases bx <;>
      (go_wp2_with fail; refine (HX.out _).mono ?_; rintro e w' ⟨rfl, rfl⟩; go_wp2_with fail; go_ret; exact ⟨by rw [HM2.out]; rfl, B1.out⟩)
  by_cases h5 : op = 5
  · subst h5
    have HM2 : Hid (mayI ⟨5, a, b⟩ = (bn && bz)) := Lib.hid (by rw [HM.out, if_neg (by decide), if_neg (by decide), if_neg (by decide), if_pos (by decide)])
    clear HM
    cases bn
    · go_wp2_with fail; refine (HN.out _).mono ?_; rintro e w' ⟨rfl, rfl⟩; go_wp2_with fail; go_ret; exact ⟨by rw [HM2.out]; rfl, B1.out⟩
    · cases bz <;> (go_wp2_with fail; refine (HN.out _).mono ?_; rintro e w' ⟨rfl, rfl⟩; go_wp2_with fail; refine (HY.out _).mono ?_; rintro e w' ⟨rfl, rfl⟩; go_wp2_with fail; go_ret; exact ⟨by rw [HM2.out]; rfl, B1.out⟩)
  by_cases h6 : op = 6
  · subst h6
    have HM2 : Hid (mayI ⟨6, a, b⟩ = (bn && bz)) := Lib.hid (by rw [HM.out, if_neg (by decide), if_neg (by decide), if_neg (by decide), if_pos (by decide)])
    clear HM
    cases bn
    · go_wp2_with fail; refine (HN.out _).mono ?_; rintro e w' ⟨rfl, rfl⟩; go_wp2_with fail; go_ret; exact ⟨by rw [HM2.out]; rfl, B1.out⟩
    · cases bz <;> (go_wp2_with fail; refine (HN.out _).mono ?_; rintro e w' ⟨rfl, rfl⟩; go_wp2_with fail; refine (HY.out _).mono ?_; rintro e w' ⟨rfl, rfl⟩; go_wp2_with fail; go_ret; exact ⟨by rw [HM2.out]; rfl, B1.out⟩)
  by_cases h2 : op = 2
  · subst h2
    have HM2 : Hid (mayI ⟨2, a, b⟩ = (a.toList.isEmpty && b.toList.isEmpty)) := Lib.hid (by rw [HM.out, if_neg (by decide), if_neg (by decide), if_neg (by decide), if_neg (by decide), if_pos (by decide)])
    clear HM HN HV HX HY
    cases aE : a.toList.isEmpty <;> cases bE : b.toList.isEmpty <;> rw [aE, bE] at HM2 <;> (go_wp2_with fail; go_ret; exact ⟨by rw [HM2.out]; rfl, B1.out⟩)
  by_cases h7 : op = 7
  · subst h7
    have HM2 : Hid (mayI ⟨7, a, b⟩ = (a.toList.isEmpty && b.toList.isEmpty)) := Lib.hid (by rw [HM.out, if_neg (by decide), if_neg (by decide), if_neg (by decide), if_neg (by decide), if_pos (by decide)])
    clear HM HN HV HX HY
    cases aE : a.toList.isEmpty <;> cases bE : b.toList.isEmpty <;> rw [aE, bE] at HM2 <;> (go_wp2_with fail; go_ret; exact ⟨by rw [HM2.out]; rfl, B1.out⟩)
  by_cases h8 : op = 8
  · subst h8
    have HM2 : Hid (mayI ⟨8, a, b⟩ = (a.toList.isEmpty && b.toList.isEmpty)) := Lib.hid (by rw [HM.out, if_neg (by decide), if_neg (by decide), if_neg (by decide), if_neg (by decide), if_pos (by decide)])
    clear HM HN HV HX HY
    cases aE : a.toList.isEmpty <;> cases bE : b.toList.isEmpty <;> rw [aE, bE] at HM2 <;> (go_wp2_with fail; go_ret; exact ⟨by rw [HM2.out]; rfl, B1.out⟩)
  have HM2 : Hid (mayI ⟨op, a, b⟩ = false) := Lib.hid (by rw [HM.out]; simp [h1, h2, h3, h4, h5, h6, h7, h8])
  have q1 := int_ne h1; have q2 := int_ne h2; have q3 := int_ne h3; have q4 := int_ne h4; have q5 := int_ne h5; have q6 := int_ne h6; have q7 := int_ne h7; have q8 := int_ne h8
  clear HM HN HV HX HY
  go_wp2_with fail
  go_ret
  exact ⟨by rw [HM2.out]; rfl, B1.out⟩
end Go.Proofs.Ythdgaoifbejpjaa.P11

/- What the program's wish.Count and wish.Back answer. No condition but those stated. -/
set_option linter.unusedVariables false
set_option linter.unusedSimpArgs false
namespace Go.Proofs.Ythdgaoifbejpjaa.P14
open Go.RowKit Kd P4 P5 P11 P12 P13

/-- what is wanted, in a block of its own -/
def WB (w : World) (g : Nat) (t : WV) : Prop := w.heap[g]? = some (.cells #[.int .i64 t.kind, .string t.tag, .string t.key, .string t.txt, .slice t.sa.A t.sa.n t.sa.c, .slice t.sk.A t.sk.n t.sk.c] 41 (0, 0))
section
variable {w w' : World} {g C : Nat} {t : WV}
theorem WB.new (w : World) (t : WV) : WB (w.alloc (.cells #[.int .i64 t.kind, .string t.tag, .string t.key, .string t.txt, .slice t.sa.A t.sa.n t.sa.c, .slice t.sk.A t.sk.n t.sk.c] 41)) w.heap.size t := heap_alloc_new w _
theorem WB.lt (h : WB w g t) : g < w.heap.size := heap_lt h
theorem WB.below (h : WB w g t) (hb : Below C w w') (hC : g < C) : WB w' g t := (hb.block g hC).trans h
theorem WB.c0 (h : WB w g t) : w.cell? ⟨g, 0, none⟩ = some (.int .i64 t.kind) := cell_of_row w g 0 _ _ (0, 0) h
theorem WB.c1 (h : WB w g t) : w.cell? ⟨g, 1, none⟩ = some (.string t.tag) := cell_of_row w g 1 _ _ (0, 0) h
theorem WB.c2 (h : WB w g t) : w.cell? ⟨g, 2, none⟩ = some (.string t.key) := cell_of_row w g 2 _ _ (0, 0) h
theorem WB.c3 (h : WB w g t) : w.cell? ⟨g, 3, none⟩ = some (.string t.txt) := cell_of_row w g 3 _ _ (0, 0) h
theorem WB.c4 (h : WB w g t) : w.cell? ⟨g, 4, none⟩ = some (.slice t.sa.A t.sa.n t.sa.c) := cell_of_row w g 4 _ _ (0, 0) h
theorem WB.c5 (h : WB w g t) : w.cell? ⟨g, 5, none⟩ = some (.slice t.sk.A t.sk.n t.sk.c) := cell_of_row w g 5 _ _ (0, 0) h
theorem WB.fr (h : WB w g t) (k : Nat) : w.frozen? ⟨g, k, none⟩ = false := by simp [World.frozen?, (show w.heap[g]? = _ from h)]
end
/-! ### Count -/
/-! ### Back -/
/-- blocks that aren't of instructions are as they were -/
def Kp (w w' : World) : Prop := ∀ (b : Nat) (cur : Array Value) (e : TypeId) (fr : Nat × Nat), w.heap[b]? = some (.cells cur e fr) → e ≠ 71 → w'.heap[b]? = w.heap[b]?
section
variable {w w1 w2 : World}
theorem Kp.refl (w : World) : Kp w w := fun _ _ _ _ _ _ => rfl
theorem Kp.trans (h : Kp w w1) (k : Kp w1 w2) : Kp w w2 := fun b cur e fr hb he => (k b cur e fr ((h b cur e fr hb he).trans hb) he).trans (h b cur e fr hb he)
theorem Kp.of_below (h : Below w.heap.size w w1) : Kp w w1 := fun b _ _ _ hb _ => h.block b (heap_lt hb)
theorem Kp.alloc (h : Kp w w1) (o : Obj) : Kp w (w1.alloc o) := h.trans (fun _ _ _ _ hb _ => (heap_up hb).trans hb.symm)
theorem Kp.grown {B : Nat} {v : Value} {l : List In} {o : Obj} (own : kX.Own w1 B v l) (h : Kp w w1) (hg : (w1.alloc o).grownBy w2 v.ownBlock) : Kp w w2 :=
  h.trans fun b cur e fr hb he => by
    have hb2 : (w1.alloc o).heap[b]? = some (.cells cur e fr) := heap_up hb
    refine (hg.block b (heap_lt hb2) (fun hv => ?_)).trans (hb2.trans hb.symm)
    obtain ⟨c2, hc⟩ := own.ty hv.symm
    rw [hb] at hc
    injection hc with hc
    injection hc with _ hc
    exact he hc
theorem Kp.wb {g : Nat} {t : WV} (h : Kp w w1) (k : WB w g t) : WB w1 g t := (h g _ _ _ k (by decide)).trans k
end
def PutV (B : Nat) (w : World) (out : List In) (e : Ending) (w' : World) : Prop := ∃ (A : Option Addr) (n c : Nat), e = .returned (.slice A n c) ∧ kX.Own w' B (.slice A n c) out ∧ Below B w w' ∧ Kp w w'
theorem below_put {w w1 w4 : World} {B : Nat} {v : Value} {l : List In} {o : Obj} (hb : Below B w w1) (hown : kX.Own w1 B v l) (hB : B ≤ w1.heap.size) (hg : (w1.alloc o).grownBy w4 v.ownBlock) : Below B w w4 :=
  (hb.alloc hB o).grown hg (by simp; omega) (fun k hk => (hown.lt hk).1)
/-! ### What is told back, behind what is there -/
theorem backP_wt (t : PW) : (backW t).length ≤ 2 * wtW t := by
  induction t using PW.ind with
  | h kind tag key txt attrs kids ih =>
    have : ∀ l : List PW, (∀ k ∈ l, (backW k).length ≤ 2 * wtW k) → (backL l).length ≤ 2 * wtL l := by
      intro l
      induction l with
      | nil => intro _; simp [backL]
      | cons a l ih2 =>
        intro h
        have h1 := h a (by simp)
        have h2 := ih2 (fun k hk => h k (by simp [hk]))
        rw [backL, wtL, List.length_append]
        omega
    have := this kids ih
    rw [backW, wtW]
    split
    · split
      · simp; omega
      · simp; omega
    · split
      · simp; omega
      · split
        · simp; omega
        · split
          · simp; omega
          · simp
theorem backP_wtL : ∀ l : List PW, (backL l).length ≤ 2 * wtL l
  | [] => by simp [backL]
  | a :: l => by have := backP_wt a; have := backP_wtL l; rw [backL, wtL, List.length_append]; omega
/-- a list that grows, and an element beside it -/
structure PSt (B g : Nat) (t : WV) (A : Option Addr) (n c : Nat) (acc : List In) (w wz : World) : Prop where
  own : kX.Own wz B (.slice A n c) acc
  hb : Below B w wz
  kp : Kp w wz
  wb : WB wz g t
section
variable {B g : Nat} {t : WV} {A : Option Addr} {n c : Nat} {acc : List In} {w wz : World}
theorem PSt.drewN (h : PSt B g t A n c acc w wz) (j : Nat) : PSt B g t A n c acc w (wz.drewN j) := ⟨h.own, Below_drewN h.hb j, h.kp, h.wb⟩
theorem PSt.drew (h : PSt B g t A n c acc w wz) : PSt B g t A n c acc w wz.drew := ⟨h.own, h.hb.drew, h.kp, h.wb⟩
theorem PSt.put {out : List In} {w' : World} {A' : Option Addr} {n' c' : Nat} (h : PSt B g t A n c acc w wz) (own : kX.Own w' B (.slice A' n' c') out) (b : Below B wz w') (k : Kp wz w') : PSt B g t A' n' c' out w w' := ⟨own, h.hb.trans b, h.kp.trans k, k.wb h.wb⟩
theorem PSt.app {w4 : World} {o : Obj} {A' : Option Addr} {n' c' : Nat} {m : List In} (h : PSt B g t A n c acc w wz) (hB : B ≤ wz.heap.size) (hg : (wz.alloc o).grownBy w4 (Value.slice A n c).ownBlock) (own : kX.Own w4 B (.slice A' n' c') m) : PSt B g t A' n' c' m w w4 := by
  have k := Kp.grown h.own (Kp.refl wz) hg
  exact ⟨own, below_put h.hb h.own hB hg, h.kp.trans k, k.wb h.wb⟩
end
/-- an element of a program: what is told of it -/
theorem wf_elem {t : WV} (h : WfW (er t)) (hk : t.kind = 1) : (P1.voidB t.tag.data.toList = true ∧ erL t.kids = [] ∧ backW (er t) = ⟨3, t.tag, t.key⟩ :: t.attrs.map atI ∨ P1.voidB t.tag.data.toList = false ∧ (∀ k ∈ erL t.kids, WfW k) ∧ backW (er t) = ⟨1, t.tag, t.key⟩ :: (t.attrs.map atI ++ (backL (erL t.kids) ++ [⟨2, z0, z0⟩]))) ∧ t.tag.size ≤ 100000 := by
  rw [er_parts, hk] at h ⊢
  generalize erL t.kids = ks at h ⊢
  generalize t.tag = tag at h ⊢
  generalize t.key = key at h ⊢
  generalize t.attrs = attrs at h ⊢
  generalize t.txt = txt at h ⊢
  cases h with
  | el hm ha hk => exact ⟨.inr ⟨may_open hm, hk, back_open (may_open hm)⟩, by have := (may_small hm).1; simp only at this; omega⟩
  | vo hm ha => exact ⟨.inl ⟨may_void hm, rfl, back_void (may_void hm)⟩, by have := (may_small hm).1; simp only at this; omega⟩
theorem wf_kinds {t : WV} (h : WfW (er t)) : t.kind = 1 ∨ (t.kind = 2 ∧ backW (er t) = [⟨4, t.txt, z0⟩]) ∨ (t.kind = 3 ∧ backW (er t) = [⟨8, z0, z0⟩]) ∨ (t.kind = 4 ∧ backW (er t) = [⟨7, z0, z0⟩]) := by
  rw [er_parts] at h ⊢
  generalize erL t.kids = ks at h ⊢
  generalize t.kind = kind at h ⊢
  generalize t.tag = tag at h ⊢
  generalize t.key = key at h ⊢
  generalize t.attrs = attrs at h ⊢
  generalize t.txt = txt at h ⊢
  cases h with
  | el => exact .inl rfl
  | vo => exact .inl rfl
  | tx => exact .inr (.inl ⟨rfl, by simp [backW]⟩)
  | nd => exact .inr (.inr (.inl ⟨rfl, by simp [backW]⟩))
  | al => exact .inr (.inr (.inr ⟨rfl, by simp [backW]⟩))
end Go.Proofs.Ythdgaoifbejpjaa.P14
