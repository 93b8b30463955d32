/- What placketref01.Get answers, for every text that isn't too long. -/
import Derived.Deep.DeepCutAuto
import Derived.Deep.CutBlock
import Derived.Test.YtbdcbjeeaebfeaaM14
import Derived.Test.YtbdcbjeeaebfeaaM16
import Derived.Test.YtbdcbjeeaebfeaaM18
import Derived.Test.YtbdcbjeeaebfeaaM22
set_option linter.unusedVariables false
set_option linter.unusedSimpArgs false
namespace Go.Proofs.Ytbdcbjeeaebfeaa.P2
open Go.RowKit

theorem sign_n {n : Int} (c : UInt8) (w : World) (h : n = (c.toNat : Int)) : Calls Try.prog 47 #[.int .u8 n] w fun e w' => e = .returned (.string (signB c)) ∧ Below w.heap.size w w' := by
  rw [h]; exact sign_any c w
theorem conv_n {n : Int} (c : UInt8) (w : World) (h : n = (c.toNat : Int)) : (convert 49 9 (.slice (some ⟨w.heap.size, 0, none⟩) 1 1)).run Try.prog (w.alloc (.cells #[.int .u8 n] 5)) = .ok (.string ⟨#[c]⟩) (w.alloc (.cells #[.int .u8 n] 5)) := by
  rw [h]; exact conv1 c w
theorem ofNat_num {n : Nat} (h : n < 256) : (n : Int) = ((UInt8.ofNat n).toNat : Int) := by
  rw [UInt8.toNat_ofNat']; omega
theorem signB_size (c : UInt8) : (signB c).size = (signL c).length := by show (signL c).toArray.size = _; simp
theorem take_prefix {x : ByteArray} {l : List UInt8} : Lib.hasPrefix x.data.toList l = decide (x.data.toList.take l.length = l) := by
  rw [Bool.eq_iff_iff, hasPrefix_iff]
  simp only [decide_eq_true_eq]
  constructor
  · rintro ⟨r, e⟩; rw [e, List.take_left]
  · intro e; exact ⟨x.data.toList.drop l.length, by conv => lhs; rw [← List.take_append_drop l.length x.data.toList, e]⟩
theorem front_eq (x : ByteArray) (c : UInt8) {b : Bool} (h : Lib.hasPrefix x.data.toList (signL c) = b) : ((x.extract 0 (signB c).size).toList == (signB c).toList) = b := by
  rw [← h, take_prefix, ByteArray.toList_eq, ByteArray.toList_eq, Lib.extract_data, signB_size]
  simp only [List.drop_zero, Nat.sub_zero]
  show (List.take _ _ == signL c) = _
  rw [Bool.eq_iff_iff]; simp
theorem prefix_long {x : ByteArray} {c : UInt8} (h : Lib.hasPrefix x.data.toList (signL c) = true) : (signB c).size ≤ x.size := by
  rw [signB_size]
  exact (headL_le (headL_of_prefix h)).2

/-- where the search among the 256 bytes stands: none of those below c, or the one found -/
def Found (x : ByteArray) (ob : ByteArray) (c : Nat) (n : Nat) (o : ByteArray) : Prop :=
  (n = 0 ∧ o = ob ∧ ∀ d : UInt8, d.toNat < c → Lib.hasPrefix x.data.toList (signL d) = false) ∨
  (0 < n ∧ ∃ d : UInt8, headL x.data.toList = some (d, n) ∧ o = ob ++ ⟨#[d]⟩)
theorem Found.start (x ob : ByteArray) : Found x ob 0 0 ob := .inl ⟨rfl, rfl, fun _ h => absurd h (by omega)⟩
theorem Found.next {x ob o : ByteArray} {c : Nat} (h : Found x ob c 0 o) (hp : Lib.hasPrefix x.data.toList (signL (UInt8.ofNat c)) = false) : Found x ob (c + 1) 0 o := by
  rcases h with ⟨_, ho, h⟩ | ⟨h, _⟩
  · refine .inl ⟨rfl, ho, fun d hd => ?_⟩
    by_cases e : d.toNat = c
    · have : d = UInt8.ofNat c := by rw [← e]; simp
      rw [this]; exact hp
    · exact h d (by omega)
  · omega
theorem Found.hit {x ob o : ByteArray} {c k : Nat} (h : Found x ob c 0 o) (hp : Lib.hasPrefix x.data.toList (signL (UInt8.ofNat c)) = true) : Found x ob k (signB (UInt8.ofNat c)).size (o ++ ⟨#[UInt8.ofNat c]⟩) := by
  rcases h with ⟨_, ho, _⟩ | ⟨h, _⟩
  · exact .inr ⟨by rw [signB_size]; have := (signL_len (UInt8.ofNat c)).1; omega, _, by rw [signB_size]; exact headL_of_prefix hp, by rw [ho]⟩
  · omega
theorem Found.none {x ob o : ByteArray} (h : Found x ob 256 0 o) : headL x.data.toList = none := by
  rcases h with ⟨_, _, h⟩ | ⟨h, _⟩
  · exact headL_none fun c => h c (by have := c.toNat_lt; omega)
  · omega
theorem Found.some {x ob o : ByteArray} {c n : Nat} (h : Found x ob c n o) (hn : 0 < n) : ∃ d : UInt8, headL x.data.toList = some (d, n) ∧ o = ob ++ ⟨#[d]⟩ := by
  rcases h with ⟨h, _⟩ | ⟨_, h⟩
  · omega
  · exact h
theorem Found.zero {x ob o : ByteArray} {c : Nat} (h : Found x ob c 0 o) : o = ob := by
  rcases h with ⟨_, h, _⟩ | ⟨h, _⟩
  · exact h
  · omega
theorem push_one (out : List UInt8) (d : UInt8) : (⟨out.toArray⟩ ++ ⟨#[d]⟩ : ByteArray) = ⟨(out ++ [d]).toArray⟩ := str_append out [d]

theorem left_fails {s x ob : ByteArray} (h : ∃ out : List UInt8, ob = ⟨out.toArray⟩ ∧ Left s x out) (hx : 0 < x.size) (he : headL x.data.toList = none) : Ending.returned (.tuple #[.string ByteArray.empty, .bool false]) = .returned (.tuple #[.string (getB s), .bool (getOk s)]) := by
  obtain ⟨out, _, hl⟩ := h
  exact ret_got (hl.fails hx he).1.symm (hl.fails hx he).2.symm
theorem left_done {s x ob : ByteArray} (h : ∃ out : List UInt8, ob = ⟨out.toArray⟩ ∧ Left s x out) (hx : x.size = 0) : Ending.returned (.tuple #[.string ob, .bool true]) = .returned (.tuple #[.string (getB s), .bool (getOk s)]) := by
  obtain ⟨out, rfl, hl⟩ := h
  exact ret_got (hl.done hx).1.symm (hl.done hx).2.symm
theorem left_next {s x ob o : ByteArray} {n : Nat} (h : ∃ out : List UInt8, ob = ⟨out.toArray⟩ ∧ Left s x out) (hx : 0 < x.size) (he : ∃ d : UInt8, headL x.data.toList = some (d, n) ∧ o = ob ++ ⟨#[d]⟩) : ∃ out : List UInt8, o = ⟨out.toArray⟩ ∧ Left s (x.extract n x.size) out := by
  obtain ⟨out, rfl, hl⟩ := h
  obtain ⟨d, hd, rfl⟩ := he
  exact ⟨out ++ [d], push_one out d, hl.next hx hd⟩

set_option maxRecDepth 100000 in
set_option maxHeartbeats 2000000 in
theorem rget_any (s : ByteArray) (w : World) (hs : s.size ≤ 600000) : Calls Try.prog 29 #[.string s] w fun e w' => e = .returned (.tuple #[.string (getB s), .bool (getOk s)]) ∧ Below w.heap.size w w' := by
  go_enter Try.func29, Try.ntmps29
  go_wp2_with fail
  go_loopw [0, 4] (fun t o wr => ∃ (x ob : ByteArray), t = .string x ∧ o = .string ob ∧ ob.size + x.size ≤ s.size ∧ Hid (∃ out : List UInt8, ob = ⟨out.toArray⟩ ∧ Left s x out) ∧ Hid (Below w.heap.size w wr)) (fun t _ _ => match t with | .string x => x.size | _ => 0)
  case atStart => exact ⟨s, ByteArray.empty, rfl, rfl, by simp, Lib.hid ⟨[], rfl, Left.start s⟩, Lib.hid (Below.refl _ _)⟩
  case round =>
    obtain ⟨x, ob, rfl, rfl, hl, HL, HW⟩ := hrel
    obtain ⟨wo, rfl⟩ : ∃ wo : World, wo = wr := ⟨_, rfl⟩
    by_cases hx : 0 < x.size
    · go_wp2_with fail
      go_loopw [4, 5, 6] (fun o n c wi => ∃ (ci ni : Nat) (oi : ByteArray), c = .int .i64 ci ∧ n = .int .i64 ni ∧ o = .string oi ∧ ci ≤ 256 ∧ ni ≤ x.size ∧ oi.size ≤ ob.size + 1 ∧ Hid (Found x ob ci ni oi) ∧ Hid (Below w.heap.size w wi)) (fun _ _ c _ => 256 - (intOf c).toNat)
      case atStart => exact ⟨0, 0, ob, rfl, rfl, rfl, by omega, by omega, by omega, Lib.hid (Found.start x ob), HW⟩
      case round =>
        obtain ⟨ci, ni, oi, rfl, rfl, rfl, hc, hni, hoi, HF, HI⟩ := hrel
        by_cases hn0 : ni = 0
        · subst hn0
          by_cases hc256 : ci < 256
          · have hnum := Lib.hid (ofNat_num hc256)
            cases hp : Lib.hasPrefix x.data.toList (signL (UInt8.ofNat ci))
            · have hq := front_eq x (UInt8.ofNat ci) hp
              have HP := Lib.hid hp
              clear hp
              by_cases hlen : (signB (UInt8.ofNat ci)).size ≤ x.size
              · go_wp2_with fail
                refine (sign_n (UInt8.ofNat ci) _ hnum.out).mono ?_
                rintro e w2 ⟨rfl, b2⟩
                have B2 := Lib.hid b2
                clear b2
                go_wp2_with fail
                go_roundw
                case rel => exact ⟨ci + 1, 0, oi, by go_num, rfl, rfl, by omega, by omega, by omega, Lib.hid (HF.out.next HP.out), Lib.hid (HI.out.trans (B2.out.mono HI.out.size))⟩
                case measure => simp [intOf]; omega
              · go_wp2_with fail
                refine (sign_n (UInt8.ofNat ci) _ hnum.out).mono ?_
                rintro e w2 ⟨rfl, b2⟩
                have B2 := Lib.hid b2
                clear b2
                go_wp2_with fail
                go_roundw
                case rel => exact ⟨ci + 1, 0, oi, by go_num, rfl, rfl, by omega, by omega, by omega, Lib.hid (HF.out.next HP.out), Lib.hid (HI.out.trans (B2.out.mono HI.out.size))⟩
                case measure => simp [intOf]; omega
            · have hq := front_eq x (UInt8.ofNat ci) hp
              have hlen := prefix_long hp
              have HP := Lib.hid hp
              clear hp
              go_wp2_with fail
              refine (sign_n (UInt8.ofNat ci) _ hnum.out).mono ?_
              rintro e w2 ⟨rfl, b2⟩
              have B2 := Lib.hid b2
              clear b2
              have hcv := conv_n (UInt8.ofNat ci) w2 hnum.out
              go_wp2_with fail
              clear hcv
              go_roundw
              case rel => exact ⟨ci + 1, _, _, by go_num, rfl, rfl, by omega, hlen, by rw [ByteArray.size_append, HF.out.zero]; exact Nat.le_refl _, Lib.hid (HF.out.hit HP.out), Lib.hid ((HI.out.trans (B2.out.mono HI.out.size)).alloc (Nat.le_trans HI.out.size B2.out.size) _)⟩
              case measure => simp [intOf]; omega
          · obtain rfl : ci = 256 := by omega
            go_wp2_with fail
            go_ret2
            exact ⟨left_fails HL.out hx HF.out.none, HI.out⟩
        · have hn1 : 0 < ni := by omega
          have hn2 : ((ni : Int) == 0) = false := by simp; omega
          by_cases hc256 : ci < 256
          · go_wp2_with fail
            go_roundw
            case rel => exact ⟨_, _, rfl, rfl, by rw [ByteArray.size_extract]; omega, Lib.hid (left_next HL.out hx (HF.out.some hn1)), HI⟩
            case measure => simp; omega
          · go_wp2_with fail
            go_roundw
            case rel => exact ⟨_, _, rfl, rfl, by rw [ByteArray.size_extract]; omega, Lib.hid (left_next HL.out hx (HF.out.some hn1)), HI⟩
            case measure => simp; omega
    · have hx0 : x.size = 0 := by omega
      go_wp2_with fail
      go_ret2
      exact ⟨left_done HL.out hx0, HW.out⟩
end Go.Proofs.Ytbdcbjeeaebfeaa.P2

/- What the laws' All and plain answer. No condition but those stated. -/
namespace Go.Proofs.Ytbdcbjeeaebfeaa.P9
open Go.RowKit Kd P4 P5 P8

/-! ### All -/
def ManiedL (w : World) (most : Nat) (ts : List TV) (e : Ending) (w' : World) : Prop := ∃ m : Nat, e = .returned (.int .i64 m) ∧ m ≤ most + 1 ∧ (m ≤ most → m = countL (erL ts) ∧ fewL (erL ts) = true) ∧ Below w.heap.size w w'
set_option maxHeartbeats 2000000 in
theorem manyAll_any (ts : List TV) (most : Nat) (w : World) (A : Option Addr) (n c : Nat) (hmo : most ≤ 1000) (hh : kT.Holds w w.heap.size A ts) (hn : ts.length = n) (hnc : n ≤ c) (hc : c ≤ maxLen) (hok : ∀ t ∈ ts, TOk w w.heap.size t) (hfit : ∀ t ∈ ts, TFit t) :
    Calls Try.prog 10 #[.slice A n c, .int .i64 most] w (ManiedL w most ts) := by
  have KH := Lib.hid hh
  have KL := Lib.hid hn
  have KS := Lib.hid hok
  have HKS := Lib.hid hfit
  have EL : Hid ((erL ts).length = n) := Lib.hid (by rw [erL_map]; simpa using hn)
  unfold maxLen at hc
  clear hh hn hok hfit
  go_enter Try.func10, Try.ntmps10
  go_wp2_with fail
  go_loopw [5, 6] (fun s5 s6 wr => ∃ (k nn : Nat), k ≤ n ∧ nn ≤ most + 1 ∧ s6 = .int .i64 k ∧ s5 = .int .i64 nn ∧ Hid (nn ≤ most → nn = countL ((erL ts).take k) ∧ fewL ((erL ts).take k) = true) ∧ Hid (Below w.heap.size w wr)) (fun _ s6 _ => n - (intOf s6).toNat)
  case atStart => exact ⟨0, 0, by omega, by omega, rfl, rfl, Lib.hid (fun _ => by simp [countL, fewL]), Lib.hid (Below.refl _ _)⟩
  case round =>
    obtain ⟨k, nn, hk, hn2, rfl, rfl, HC, HB⟩ := hrel
    by_cases hkn : k < n
    · by_cases hnm : nn ≤ most
      · have hkl : k < ts.length := by have := KL.out; omega
        have hke : k < (erL ts).length := by rw [erL_map]; simpa using hkl
        have hee : (erL ts)[k] = er ts[k] := by simp [erL_map]
        have HCT := Lib.hid (countL_take hke)
        have HFT := Lib.hid (fun h1 => fewL_take hke h1)
        rw [hee] at HCT HFT
        obtain ⟨b, o, rfl, hb, g0, g1, g2, g3, g4⟩ := cell_of_trees (KH.out.on HB.out) hkl
        have hsub : ((most - nn : Nat) : Int) = (most : Int) - (nn : Int) := by omega
        have CK : Hid (Calls Try.prog 21 #[.agg #[.string ts[k].tag, .string ts[k].txt, .string ts[k].key, .slice ts[k].sa.A ts[k].sa.n ts[k].sa.c, .slice ts[k].sk.A ts[k].sk.n ts[k].sk.c], .int .i64 ((most : Int) - (nn : Int))] wr (Manied wr (most - nn) ts[k])) := Lib.hid (by
          rw [← hsub]
          exact many_any ts[k] (most - nn) wr (by omega) ((KS.out _ (List.getElem_mem hkl)).on HB.out) (HKS.out _ (List.getElem_mem hkl)))
        clear hee hsub
        generalize ts[k] = d at g0 g1 g2 g3 g4 CK HCT HFT
        go_wp2_with fail
        refine CK.out.mono ?_
        rintro e w2 ⟨m', rfl, hm1, hm2, hm3, b2⟩
        have B2 := Lib.hid (HB.out.trans (b2.mono HB.out.size))
        have HM3 := Lib.hid hm3
        clear b2 hm3
        go_wp2_with fail
        go_roundw
        case rel =>
          refine ⟨k + 1, nn + m', by omega, by omega, by go_num, by go_num, Lib.hid (fun hle => ?_), B2⟩
          obtain ⟨c1, c2⟩ := HM3.out (by omega)
          obtain ⟨d1, d2⟩ := HC.out (by omega)
          exact ⟨by rw [HCT.out]; omega, HFT.out d2 c2⟩
        case measure => simp [intOf]; omega
      · obtain rfl : nn = most + 1 := by omega
        go_wp2_with fail
        go_ret
        exact ⟨most + 1, rfl, by omega, fun h => by omega, HB.out⟩
    · obtain rfl : k = n := by omega
      by_cases hnm : nn ≤ most
      · go_wp2_with fail
        go_ret
        refine ⟨nn, rfl, hn2, fun _ => ?_, HB.out⟩
        have h1 := HC.out hnm
        rw [List.take_of_length_le (by have := EL.out; omega)] at h1
        exact h1
      · go_wp2_with fail
        go_ret
        exact ⟨nn, rfl, hn2, fun h => absurd h hnm, HB.out⟩

/-! ### plain -/
/-- is what stands ahead of place k a text? -/
def pv : List PT → Nat → Bool
  | _, 0 => false
  | l, k + 1 => match l[k]? with
    | some a => a.tag.toList.isEmpty
    | none => false
theorem pv_at {l : List PT} {k : Nat} (h : k < l.length) : pv l (k + 1) = l[k].tag.toList.isEmpty := by
  show (match l[k]? with | some a => a.tag.toList.isEmpty | none => false) = _
  rw [List.getElem?_eq_getElem h]
theorem plL_drop {l : List PT} {k : Nat} (h : k < l.length) : plL (l.drop k) (pv l k) = (plT l[k] && (!l[k].tag.toList.isEmpty || (!l[k].txt.toList.isEmpty && !pv l k)) && plL (l.drop (k + 1)) (pv l (k + 1))) := by
  rw [List.drop_eq_getElem_cons h, plL, pv_at h]
def NoSt (l : List P3.At) (k : Nat) : Prop := ∀ j (h : j < l.length), j < k → l[j].st = false
theorem noSt_all {l : List P3.At} (h : NoSt l l.length) : l.all (fun a => !a.st) = true := by
  rw [List.all_eq_true]
  intro a ha
  obtain ⟨j, hj, rfl⟩ := List.mem_iff_getElem.1 ha
  rw [h j hj hj]
  rfl
theorem noSt_bad {l : List P3.At} {k : Nat} (h : k < l.length) (hs : l[k].st = true) : l.all (fun a => !a.st) = false := by
  rw [List.all_eq_false]
  exact ⟨l[k], List.getElem_mem h, by simp [hs]⟩

end Go.Proofs.Ytbdcbjeeaebfeaa.P9

/- What placketref08.until, deep and plain answer. No condition but those stated. -/
namespace Go.Proofs.Ytbdcbjeeaebfeaa.P10
open Go.RowKit Kd P4 P5 P8 P9

theorem until_drop_yes {s : ByteArray} {g : List UInt8} {k : Nat} (h : k < s.size) (hc : g.contains s[k] = true) : untilL (s.data.toList.drop k) g = 0 := by
  rw [List.drop_eq_getElem_cons (by simpa using h)]
  exact until_yes hc
theorem until_drop_no {s : ByteArray} {g : List UInt8} {k : Nat} (h : k < s.size) (hc : g.contains s[k] = false) : untilL (s.data.toList.drop k) g = untilL (s.data.toList.drop (k + 1)) g + 1 := by
  rw [List.drop_eq_getElem_cons (by simpa using h)]
  exact until_no hc
theorem num_eq {a b : UInt8} (h : a = b) : ((a.toNat : Int) == (b.toNat : Int)) = true := by rw [h]; simp
def NotIn (g : ByteArray) (c : UInt8) (m : Nat) : Prop := ∀ j (h : j < g.size), j < m → g[j] ≠ c
theorem notIn_all {g : ByteArray} {c : UInt8} (h : NotIn g c g.size) : g.data.toList.contains c = false := by
  rw [Bool.eq_false_iff]
  intro hc
  rw [List.contains_iff_mem] at hc
  obtain ⟨j, hj, he⟩ := List.mem_iff_getElem.1 hc
  have hj' : j < g.size := by simpa using hj
  exact h j hj' hj' he
theorem in_at {g : ByteArray} {c : UInt8} {m : Nat} (h : m < g.size) (he : g[m] = c) : g.data.toList.contains c = true := by
  rw [List.contains_iff_mem]
  exact List.mem_iff_getElem.2 ⟨m, by simpa using h, he⟩
set_option maxRecDepth 100000 in
set_option maxHeartbeats 2000000 in
theorem until_any (s g : ByteArray) (w : World) (hs : s.size ≤ 1000000) (hg : g.size ≤ 1000) : Calls Try.prog 28 #[.string s, .string g] w fun e w' => e = .returned (.int .i64 (untilL s.data.toList g.data.toList : Nat)) ∧ Below w.heap.size w w' := by
  go_enter Try.func28, Try.ntmps28
  go_wp2_with fail
  go_loopw [5] (fun i wr => ∃ k : Nat, k ≤ s.size ∧ i = .int .i64 k ∧ Hid (untilL s.data.toList g.data.toList = k + untilL (s.data.toList.drop k) g.data.toList) ∧ Hid (Below w.heap.size w wr)) (fun i _ => s.size - (intOf i).toNat)
  case atStart => exact ⟨0, by omega, rfl, Lib.hid (by simp), Lib.hid (Below.refl _ _)⟩
  case round =>
    obtain ⟨k, hk, rfl, HU, HW⟩ := hrel
    obtain ⟨wo, rfl⟩ : ∃ wo : World, wo = wr := ⟨_, rfl⟩
    by_cases hlt : k < s.size
    · have i0 : (0 : Int) ≤ (k : Int) := by omega
      have i1 : (k : Int) < (s.size : Int) := by omega
      go_wp2_with fail
      go_loopw [6] (fun i wr => ∃ m : Nat, m ≤ g.size ∧ i = .int .i64 m ∧ Hid (NotIn g s[k] m) ∧ Hid (Below w.heap.size w wr)) (fun i _ => g.size - (intOf i).toNat)
      case atStart => exact ⟨0, by omega, rfl, Lib.hid (fun j _ h => by omega), HW⟩
      case round =>
        obtain ⟨m, hm, rfl, HN, HW2⟩ := hrel
        by_cases hlm : m < g.size
        · have j0 : (0 : Int) ≤ (m : Int) := by omega
          have j1 : (m : Int) < (g.size : Int) := by omega
          by_cases he : g[m] = s[k]
          · have q := num_eq he.symm
            have HE : Hid (untilL s.data.toList g.data.toList = k) := Lib.hid (by rw [HU.out, until_drop_yes hlt (in_at hlm he)]; rfl)
            clear he
            go_wp2_with fail
            go_quiet (fail)
            go_wp2_with fail
            go_ret
            exact ⟨by rw [HE.out]; rfl, Below_drewN HW2.out _⟩
          · have q := P2.num_ne (fun e => he e.symm)
            have HN2 : Hid (NotIn g s[k] (m + 1)) := Lib.hid (fun j hj h e => by
              rcases Nat.lt_or_ge j m with h' | h'
              · exact HN.out j hj h' e
              · obtain rfl : j = m := by omega
                exact he e)
            clear he
            go_wp2_with fail
            go_quiet (fail)
            go_wp2_with fail
            go_roundw
            case rel => exact ⟨m + 1, by omega, by go_num, HN2, Lib.hid (Below_drewN HW2.out _)⟩
            case measure => simp [intOf]; omega
        · obtain rfl : m = g.size := by omega
          have HE : Hid (untilL s.data.toList g.data.toList = k + 1 + untilL (s.data.toList.drop (k + 1)) g.data.toList) := Lib.hid (by rw [HU.out, until_drop_no hlt (notIn_all HN.out)]; omega)
          go_wp2_with fail
          go_roundw
          case rel => exact ⟨k + 1, by omega, by go_num, HE, HW2⟩
          case measure => simp [intOf]; omega
    · obtain rfl : k = s.size := by omega
      go_wp2_with fail
      go_ret
      exact ⟨by rw [HU.out, List.drop_of_length_le (by simp), until_nil]; rfl, HW.out⟩
end Go.Proofs.Ytbdcbjeeaebfeaa.P10
