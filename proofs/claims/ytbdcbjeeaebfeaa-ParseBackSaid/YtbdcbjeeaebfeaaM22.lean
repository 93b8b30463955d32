/- What esc.Put and placketref01.Put answer, for every text that isn't too long. -/
import Derived.Test.YtbdcbjeeaebfeaaM21
set_option linter.unusedVariables false
set_option linter.unusedSimpArgs false
namespace Go.Proofs.Ytbdcbjeeaebfeaa.P2
open Go.RowKit

theorem putB_size (s : ByteArray) : (putB s).size ≤ 6 * s.size := by
  have := putL_len s.data.toList
  show (putL s.data.toList).toArray.size ≤ _
  simpa using this

set_option maxHeartbeats 1000000 in
theorem put_any (s : ByteArray) (w : World) (hs : s.size ≤ 100000) : Calls Try.prog 51 #[.string s] w fun e w' => e = .returned (.string (putB s)) ∧ Below w.heap.size w w' := by
  go_enter Try.func51, Try.ntmps51
  go_wp2_with fail
  go_loopw [4] (fun i wr => ∃ k : Nat, k ≤ s.size ∧ i = .int .i64 k ∧ Hid (Lib.IsBuilder 51 5 w.heap.size w.heap.size (Lib.byteCells (putL (s.data.toList.take k))) wr) ∧ Hid (Below w.heap.size w wr)) (fun i _ => s.size - (intOf i).toNat)
  case atStart => exact ⟨0, by omega, rfl, Lib.hid (Lib.fresh_isBuilder 51 5 w), Lib.hid ((Below.refl _ _).alloc (Nat.le_refl _) _)⟩
  case round =>
    obtain ⟨k, hk, rfl, HB, HW⟩ := hrel
    have hBw : w.heap.size ≤ wr.heap.size := HW.out.size
    have hl : (Lib.byteCells (putL (s.data.toList.take k))).length ≤ 600000 := by
      rw [Lib.byteCells_length]
      have := putL_len (s.data.toList.take k)
      have := List.length_take_le k s.data.toList
      omega
    by_cases hlt : k < s.size
    · have HS := Lib.hid (putL_snoc s k hlt)
      cases hc : isSign s[k]
      · have HC := Lib.hid hc
        clear hc
        go_wp2_with fail
        refine (instead_no _ _ HC.out).mono ?_
        rintro e w' ⟨rfl, rfl⟩
        go_wp2_with fail
        refine (Bd.byte_any w.heap.size w.heap.size _ (s[k].toNat : Int) _ HB.out (by omega) hBw).mono ?_
        rintro e w2 ⟨rfl, h2, b2⟩
        have H2 := Lib.hid h2
        have B2 := Lib.hid b2
        clear h2 b2
        go_wp2_with fail
        go_roundw
        case rel => exact ⟨k + 1, by omega, by go_num, Lib.hid (by rw [HS.out, signL_no HC.out, Lib.byteCells_append]; exact H2.out), Lib.hid (HW.out.trans B2.out)⟩
        case measure => simp [intOf]; omega
      · have hE := insB_yes hc
        have hE2 : ¬ (insB s[k]).toList = [] := by intro e; rw [e] at hE; cases hE
        have hsz : (insB s[k]).size ≤ 6 := by
          have h1 := (signL_len s[k]).2
          have h2 := congrArg List.length (insB_sign hc)
          rw [← h2] at h1
          simpa using h1
        have HC := Lib.hid hc
        clear hc
        go_wp2_with fail
        refine (instead_any _ _).mono ?_
        rintro e w' ⟨rfl, rfl⟩
        go_wp2_with fail
        refine (Bd.string_any w.heap.size w.heap.size _ (insB s[k]) _ HB.out (by omega) hBw).mono ?_
        rintro e w2 ⟨rfl, h2, b2⟩
        have H2 := Lib.hid h2
        have B2 := Lib.hid b2
        clear h2 b2
        go_wp2_with fail
        go_roundw
        case rel => exact ⟨k + 1, by omega, by go_num, Lib.hid (by rw [HS.out, Lib.byteCells_append, ← insB_sign HC.out]; exact H2.out), Lib.hid (HW.out.trans B2.out)⟩
        case measure => simp [intOf]; omega
    · obtain rfl : k = s.size := by omega
      have e : s.data.toList.take s.size = s.data.toList := List.take_of_length_le (by simp)
      have HE := Lib.hid e
      clear e
      go_wp2_with fail
      refine (Bd.text_any w.heap.size w.heap.size _ _ HB.out hBw).mono ?_
      rintro e w2 ⟨rfl, b2⟩
      go_wp2_with fail
      go_ret
      exact ⟨ret_str (by rw [HE.out]; rfl), HW.out.trans b2⟩

theorem str_append (a b : List UInt8) : (⟨a.toArray⟩ ++ ⟨b.toArray⟩ : ByteArray) = ⟨(a ++ b).toArray⟩ := by
  apply ByteArray.ext
  simp
set_option maxHeartbeats 1000000 in
theorem rput_any (s : ByteArray) (w : World) (hs : s.size ≤ 100000) : Calls Try.prog 49 #[.string s] w fun e w' => e = .returned (.string (putB s)) ∧ Below w.heap.size w w' := by
  go_enter Try.func49, Try.ntmps49
  go_wp2_with fail
  go_loopw [3, 4] (fun o i wr => ∃ k : Nat, k ≤ s.size ∧ i = .int .i64 k ∧ (∃ t : ByteArray, o = .string t ∧ t.size ≤ 6 * k ∧ Hid (t = ⟨(putL (s.data.toList.take k)).toArray⟩)) ∧ Hid (Below w.heap.size w wr)) (fun _ i _ => s.size - (intOf i).toNat)
  case atStart => exact ⟨0, by omega, rfl, ⟨_, rfl, by decide, Lib.hid rfl⟩, Lib.hid (Below.refl _ _)⟩
  case round =>
    obtain ⟨k, hk, rfl, ⟨t, rfl, ht, HT⟩, HW⟩ := hrel
    by_cases hlt : k < s.size
    · have HS := Lib.hid (putL_snoc s k hlt)
      have hz : (signB s[k]).size ≤ 6 := by
        have := (signL_len s[k]).2
        show (signL s[k]).toArray.size ≤ 6
        simpa using this
      go_wp2_with fail
      refine (sign_any _ _).mono ?_
      rintro e w2 ⟨rfl, b2⟩
      have B2 := Lib.hid b2
      clear b2
      go_wp2_with fail
      go_roundw
      case rel => exact ⟨k + 1, by omega, by go_num, ⟨_, rfl, by rw [ByteArray.size_append]; omega, Lib.hid (by rw [HS.out, HT.out]; exact str_append _ _)⟩, Lib.hid (HW.out.trans (B2.out.mono HW.out.size))⟩
      case measure => simp [intOf]; omega
    · obtain rfl : k = s.size := by omega
      have e : s.data.toList.take s.size = s.data.toList := List.take_of_length_le (by simp)
      have HE := Lib.hid e
      clear e
      go_wp2_with fail
      go_ret
      exact ⟨ret_str (by rw [HT.out, HE.out]; rfl), HW.out⟩
end Go.Proofs.Ytbdcbjeeaebfeaa.P2

/- What esc.Get and placketref01.Get answer, for every text that isn't too long. -/
namespace Go.Proofs.Ytbdcbjeeaebfeaa.P2
open Go.RowKit

def getB (s : ByteArray) : ByteArray := ⟨((getL s.data.toList).getD []).toArray⟩
def getOk (s : ByteArray) : Bool := (getL s.data.toList).isSome

theorem toList_nil {s : ByteArray} (h : s.size = 0) : s.toList = [] := by
  rw [ByteArray.toList_eq]
  apply List.eq_nil_of_length_eq_zero
  simpa using h
theorem toList_cons {s : ByteArray} (h : 0 < s.size) : s.toList.isEmpty = false := by
  rw [ByteArray.toList_eq]
  cases e : s.data.toList with
  | nil => have : s.data.toList.length = s.size := by simp
           rw [e] at this; simp at this; omega
  | cons c r => rfl

theorem headL_le {s : ByteArray} {c : UInt8} {k : Nat} (h : headL s.data.toList = some (c, k)) : 1 ≤ k ∧ k ≤ s.size := by
  obtain ⟨h1, rfl⟩ := prefix_of_headL h
  obtain ⟨r, h2⟩ := hasPrefix_iff.1 h1
  have h3 : s.data.toList.length = s.size := by simp
  have h4 := (signL_len c).1
  rw [h2, List.length_append] at h3
  omega
theorem first_none (s : ByteArray) (w : World) (h : 0 < s.size) (he : headL s.data.toList = none) : Calls Try.prog 55 #[.string s] w fun e w' => e = .returned (.tuple #[.int .u8 0, .int .i64 0]) ∧ w = w' := by
  have := first_any s w h
  rw [he] at this; exact this
theorem first_some (s : ByteArray) (w : World) {c : UInt8} {k : Nat} (h : 0 < s.size) (he : headL s.data.toList = some (c, k)) : Calls Try.prog 55 #[.string s] w fun e w' => e = .returned (.tuple #[.int .u8 (c.toNat : Int), .int .i64 (k : Int)]) ∧ w = w' := by
  have := first_any s w h
  rw [he] at this; exact this

/-- what is left to take back: x, with out before it -/
def Left (s x : ByteArray) (out : List UInt8) : Prop := ∃ n, x.size ≤ n ∧ getL s.data.toList = (getF n x.data.toList).map (out ++ ·)
theorem Left.start (s : ByteArray) : Left s s [] := ⟨s.size, Nat.le_refl _, by
  have : s.data.toList.length = s.size := by simp
  rw [getL, this]
  cases getF s.size s.data.toList <;> simp⟩
theorem data_nil {x : ByteArray} (h : x.size = 0) : x.data.toList = [] := by
  apply List.eq_nil_of_length_eq_zero; simpa using h
theorem data_cons {x : ByteArray} (h : 0 < x.size) : x.data.toList ≠ [] := by
  intro e
  have : x.data.toList.length = x.size := by simp
  rw [e] at this; simp at this; omega
theorem Left.done {s x : ByteArray} {out : List UInt8} (h : Left s x out) (hx : x.size = 0) : getB s = ⟨out.toArray⟩ ∧ getOk s = true := by
  obtain ⟨n, _, e⟩ := h
  have : getF n x.data.toList = some [] := by rw [data_nil hx]; cases n <;> simp [getF]
  rw [this] at e
  unfold getB getOk
  rw [e]; simp
theorem Left.fails {s x : ByteArray} {out : List UInt8} (h : Left s x out) (hx : 0 < x.size) (he : headL x.data.toList = none) : getB s = ByteArray.empty ∧ getOk s = false := by
  obtain ⟨n, hn, e⟩ := h
  obtain ⟨m, rfl⟩ : ∃ m, n = m + 1 := ⟨n - 1, by omega⟩
  rw [getF, if_neg (data_cons hx), he] at e
  unfold getB getOk
  rw [e]; exact ⟨rfl, rfl⟩
theorem cut_data (x : ByteArray) (k : Nat) : (x.extract k x.size).data.toList = x.data.toList.drop k := by
  rw [Lib.extract_data]
  apply List.take_of_length_le
  simp
theorem Left.next {s x : ByteArray} {out : List UInt8} (h : Left s x out) (hx : 0 < x.size) {c : UInt8} {k : Nat} (he : headL x.data.toList = some (c, k)) : Left s (x.extract k x.size) (out ++ [c]) := by
  obtain ⟨n, hn, e⟩ := h
  obtain ⟨m, rfl⟩ : ∃ m, n = m + 1 := ⟨n - 1, by omega⟩
  have hk := headL_le he
  rw [getF, if_neg (data_cons hx), he] at e
  refine ⟨m, by rw [ByteArray.size_extract]; omega, ?_⟩
  rw [e, cut_data]
  show Option.map _ (Option.map _ (getF m (x.data.toList.drop k))) = _
  cases getF m (x.data.toList.drop k) <;> simp
theorem ret_got {a b : ByteArray} {c d : Bool} (h : a = b) (h2 : c = d) : Ending.returned (.tuple #[.string a, .bool c]) = .returned (.tuple #[.string b, .bool d]) := by rw [h, h2]

set_option maxHeartbeats 1000000 in
theorem get_any (s : ByteArray) (w : World) (hs : s.size ≤ 600000) : Calls Try.prog 44 #[.string s] w fun e w' => e = .returned (.tuple #[.string (getB s), .bool (getOk s)]) ∧ Below w.heap.size w w' := by
  go_enter Try.func44, Try.ntmps44
  go_wp2_with fail
  go_loopw [0] (fun t wr => ∃ (x : ByteArray) (out : List UInt8), t = .string x ∧ out.length + x.size ≤ s.size ∧ Hid (Left s x out) ∧ Hid (Lib.IsBuilder 51 5 w.heap.size w.heap.size (Lib.byteCells out) wr) ∧ Hid (Below w.heap.size w wr)) (fun t _ => match t with | .string x => x.size | _ => 0)
  case atStart => exact ⟨s, [], rfl, by simp, Lib.hid (Left.start s), Lib.hid (Lib.fresh_isBuilder 51 5 w), Lib.hid ((Below.refl _ _).alloc (Nat.le_refl _) _)⟩
  case round =>
    obtain ⟨x, out, rfl, hl, HL, HB, HW⟩ := hrel
    have hBw : w.heap.size ≤ wr.heap.size := HW.out.size
    have hbl : (Lib.byteCells out).length ≤ 600000 := by rw [Lib.byteCells_length]; omega
    by_cases hx : x.size = 0
    · have hE : x.toList = [] := toList_nil hx
      have hE2 : x.toList.isEmpty = true := by rw [hE]; rfl
      have HX := Lib.hid hx
      clear hx
      go_wp2_with fail
      refine (Bd.text_any w.heap.size w.heap.size _ _ HB.out hBw).mono ?_
      rintro e w2 ⟨rfl, b2⟩
      go_wp2_with fail
      go_ret2
      exact ⟨ret_got (HL.out.done HX.out).1.symm (HL.out.done HX.out).2.symm, HW.out.trans b2⟩
    · have hx1 : 0 < x.size := by omega
      have hE2 : x.toList.isEmpty = false := toList_cons hx1
      have hE3 : ¬ x.toList = [] := by intro e; rw [e] at hE2; cases hE2
      clear hx
      cases hh : headL x.data.toList with
      | none =>
        have HH := Lib.hid hh
        clear hh
        go_wp2_with fail
        refine (first_none _ _ hx1 HH.out).mono ?_
        rintro e w' ⟨rfl, rfl⟩
        go_wp2_with fail
        go_ret2
        exact ⟨ret_got (HL.out.fails hx1 HH.out).1.symm (HL.out.fails hx1 HH.out).2.symm, HW.out⟩
      | some p =>
        obtain ⟨c, k⟩ := p
        have hk := headL_le hh
        have HH := Lib.hid hh
        clear hh
        obtain ⟨hk1, hk2⟩ := hk
        have hk3 : ((k : Int) == 0) = false := by simp; omega
        go_wp2_with fail
        refine (first_some _ _ hx1 HH.out).mono ?_
        rintro e w' ⟨rfl, rfl⟩
        go_wp2_with fail
        refine (Bd.byte_any w.heap.size w.heap.size _ (c.toNat : Int) _ HB.out (by omega) hBw).mono ?_
        rintro e w2 ⟨rfl, h2, b2⟩
        have H2 := Lib.hid h2
        have B2 := Lib.hid b2
        clear h2 b2
        go_wp2_with fail
        go_roundw
        case rel => exact ⟨_, out ++ [c], rfl, by rw [ByteArray.size_extract]; simp; omega, Lib.hid (HL.out.next hx1 HH.out), Lib.hid (by rw [Lib.byteCells_append]; exact H2.out), Lib.hid (HW.out.trans B2.out)⟩
        case measure => simp; omega
end Go.Proofs.Ytbdcbjeeaebfeaa.P2
