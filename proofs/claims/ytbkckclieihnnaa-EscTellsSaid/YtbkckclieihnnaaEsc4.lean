/- What placketref01.Get answers, for every text that isn't too long. -/
import Derived.Test.YtbkckclieihnnaaEsc3
namespace Go.Proofs.Ytbkckclieihnnaa.P2
open Go.RowKit

theorem sign_n {n : Int} (c : UInt8) (w : World) (h : n = (c.toNat : Int)) : Calls Try.prog 25 #[.int .u8 n] w fun e w' => e = .returned (.string (signB c)) ∧ Below w.heap.size w w' := by
  rw [h]; exact sign_any c w
theorem conv_n {n : Int} (c : UInt8) (w : World) (h : n = (c.toNat : Int)) : (convert 30 9 (.slice (some ⟨w.heap.size, 0, none⟩) 1 1)).run Try.prog (w.alloc (.cells #[.int .u8 n] 5)) = .ok (.string ⟨#[c]⟩) (w.alloc (.cells #[.int .u8 n] 5)) := by
  rw [h]; exact conv1 c w
theorem ofNat_num {n : Nat} (h : n < 256) : (n : Int) = ((UInt8.ofNat n).toNat : Int) := by
  rw [UInt8.toNat_ofNat']; omega
theorem signB_size (c : UInt8) : (signB c).size = (signL c).length := by show (signL c).toArray.size = _; simp
theorem take_prefix {x : ByteArray} {l : List UInt8} : Lib.hasPrefix x.data.toList l = decide (x.data.toList.take l.length = l) := by
  rw [Bool.eq_iff_iff, hasPrefix_iff]
  simp only [decide_eq_true_eq]
  constructor
  · rintro ⟨r, e⟩; rw [e, List.take_left]
  · intro e; exact ⟨x.data.toList.drop l.length, by conv => lhs; rw [← List.take_append_drop l.length x.data.toList, e]⟩
theorem front_eq (x : ByteArray) (c : UInt8) {b : Bool} (h : Lib.hasPrefix x.data.toList (signL c) = b) : ((x.extract 0 (signB c).size).toList == (signB c).toList) = b := by
  rw [← h, take_prefix, ByteArray.toList_eq, ByteArray.toList_eq, Lib.extract_data, signB_size]
  simp only [List.drop_zero, Nat.sub_zero]
  show (List.take _ _ == signL c) = _
  rw [Bool.eq_iff_iff]; simp
theorem prefix_long {x : ByteArray} {c : UInt8} (h : Lib.hasPrefix x.data.toList (signL c) = true) : (signB c).size ≤ x.size := by
  rw [signB_size]
  exact (headL_le (headL_of_prefix h)).2

/-- where the search among the 256 bytes stands: none of those below c, or the one found -/
def Found (x : ByteArray) (ob : ByteArray) (c : Nat) (n : Nat) (o : ByteArray) : Prop :=
  (n = 0 ∧ o = ob ∧ ∀ d : UInt8, d.toNat < c → Lib.hasPrefix x.data.toList (signL d) = false) ∨
  (0 < n ∧ ∃ d : UInt8, headL x.data.toList = some (d, n) ∧ o = ob ++ ⟨#[d]⟩)
theorem Found.start (x ob : ByteArray) : Found x ob 0 0 ob := .inl ⟨rfl, rfl, fun _ h => absurd h (by omega)⟩
theorem Found.next {x ob o : ByteArray} {c : Nat} (h : Found x ob c 0 o) (hp : Lib.hasPrefix x.data.toList (signL (UInt8.ofNat c)) = false) : Found x ob (c + 1) 0 o := by
  rcases h with ⟨_, ho, h⟩ | ⟨h, _⟩
  · refine .inl ⟨rfl, ho, fun d hd => ?_⟩
    by_cases e : d.toNat = c
    · have : d = UInt8.ofNat c := by rw [← e]; simp
      rw [this]; exact hp
    · exact h d (by omega)
  · omega
theorem Found.hit {x ob o : ByteArray} {c k : Nat} (h : Found x ob c 0 o) (hp : Lib.hasPrefix x.data.toList (signL (UInt8.ofNat c)) = true) : Found x ob k (signB (UInt8.ofNat c)).size (o ++ ⟨#[UInt8.ofNat c]⟩) := by
  rcases h with ⟨_, ho, _⟩ | ⟨h, _⟩
  · exact .inr ⟨by rw [signB_size]; have := (signL_len (UInt8.ofNat c)).1; omega, _, by rw [signB_size]; exact headL_of_prefix hp, by rw [ho]⟩
  · omega
theorem Found.none {x ob o : ByteArray} (h : Found x ob 256 0 o) : headL x.data.toList = none := by
  rcases h with ⟨_, _, h⟩ | ⟨h, _⟩
  · exact headL_none fun c => h c (by have := c.toNat_lt; omega)
  · omega
theorem Found.some {x ob o : ByteArray} {c n : Nat} (h : Found x ob c n o) (hn : 0 < n) : ∃ d : UInt8, headL x.data.toList = some (d, n) ∧ o = ob ++ ⟨#[d]⟩ := by
  rcases h with ⟨h, _⟩ | ⟨_, h⟩
  · omega
  · exact h
theorem Found.zero {x ob o : ByteArray} {c : Nat} (h : Found x ob c 0 o) : o = ob := by
  rcases h with ⟨_, h, _⟩ | ⟨h, _⟩
  · exact h
  · omega
theorem push_one (out : List UInt8) (d : UInt8) : (⟨out.toArray⟩ ++ ⟨#[d]⟩ : ByteArray) = ⟨(out ++ [d]).toArray⟩ := str_append out [d]

theorem left_fails {s x ob : ByteArray} (h : ∃ out : List UInt8, ob = ⟨out.toArray⟩ ∧ Left s x out) (hx : 0 < x.size) (he : headL x.data.toList = none) : Ending.returned (.tuple #[.string ByteArray.empty, .bool false]) = .returned (.tuple #[.string (getB s), .bool (getOk s)]) := by
  obtain ⟨out, _, hl⟩ := h
  exact ret_got (hl.fails hx he).1.symm (hl.fails hx he).2.symm
theorem left_done {s x ob : ByteArray} (h : ∃ out : List UInt8, ob = ⟨out.toArray⟩ ∧ Left s x out) (hx : x.size = 0) : Ending.returned (.tuple #[.string ob, .bool true]) = .returned (.tuple #[.string (getB s), .bool (getOk s)]) := by
  obtain ⟨out, rfl, hl⟩ := h
  exact ret_got (hl.done hx).1.symm (hl.done hx).2.symm
theorem left_next {s x ob o : ByteArray} {n : Nat} (h : ∃ out : List UInt8, ob = ⟨out.toArray⟩ ∧ Left s x out) (hx : 0 < x.size) (he : ∃ d : UInt8, headL x.data.toList = some (d, n) ∧ o = ob ++ ⟨#[d]⟩) : ∃ out : List UInt8, o = ⟨out.toArray⟩ ∧ Left s (x.extract n x.size) out := by
  obtain ⟨out, rfl, hl⟩ := h
  obtain ⟨d, hd, rfl⟩ := he
  exact ⟨out ++ [d], push_one out d, hl.next hx hd⟩

set_option maxRecDepth 100000 in
set_option maxHeartbeats 2000000 in
theorem rget_any (s : ByteArray) (w : World) (hs : s.size ≤ 600000) : Calls Try.prog 16 #[.string s] w fun e w' => e = .returned (.tuple #[.string (getB s), .bool (getOk s)]) ∧ Below w.heap.size w w' := by
  go_enter Try.func16, Try.ntmps16
  go_wp2_with fail
  go_loopw [0, 4] (fun t o wr => ∃ (x ob : ByteArray), t = .string x ∧ o = .string ob ∧ ob.size + x.size ≤ s.size ∧ Hid (∃ out : List UInt8, ob = ⟨out.toArray⟩ ∧ Left s x out) ∧ Hid (Below w.heap.size w wr)) (fun t _ _ => match t with | .string x => x.size | _ => 0)
  case atStart => exact ⟨s, ByteArray.empty, rfl, rfl, by simp, Lib.hid ⟨[], rfl, Left.start s⟩, Lib.hid (Below.refl _ _)⟩
  case round =>
    obtain ⟨x, ob, rfl, rfl, hl, HL, HW⟩ := hrel
    obtain ⟨wo, rfl⟩ : ∃ wo : World, wo = wr := ⟨_, rfl⟩
    by_cases hx : 0 < x.size
    · go_wp2_with fail
      go_loopw [4, 5, 6] (fun o n c wi => ∃ (ci ni : Nat) (oi : ByteArray), c = .int .i64 ci ∧ n = .int .i64 ni ∧ o = .string oi ∧ ci ≤ 256 ∧ ni ≤ x.size ∧ oi.size ≤ ob.size + 1 ∧ Hid (Found x ob ci ni oi) ∧ Hid (Below w.heap.size w wi)) (fun _ _ c _ => 256 - (intOf c).toNat)
      case atStart => exact ⟨0, 0, ob, rfl, rfl, rfl, by omega, by omega, by omega, Lib.hid (Found.start x ob), HW⟩
      case round =>
        obtain ⟨ci, ni, oi, rfl, rfl, rfl, hc, hni, hoi, HF, HI⟩ := hrel
        by_cases hn0 : ni = 0
        · subst hn0
          by_cases hc256 : ci < 256
          · have hnum := Lib.hid (ofNat_num hc256)
            cases hp : Lib.hasPrefix x.data.toList (signL (UInt8.ofNat ci))
            · have hq := front_eq x (UInt8.ofNat ci) hp
              have HP := Lib.hid hp
              clear hp
              by_cases hlen : (signB (UInt8.ofNat ci)).size ≤ x.size
              · go_wp2_with fail
                refine (sign_n (UInt8.ofNat ci) _ hnum.out).mono ?_
                rintro e w2 ⟨rfl, b2⟩
                have B2 := Lib.hid b2
                clear b2
                go_wp2_with fail
                go_roundw
                case rel => exact ⟨ci + 1, 0, oi, by go_num, rfl, rfl, by omega, by omega, by omega, Lib.hid (HF.out.next HP.out), Lib.hid (HI.out.trans (B2.out.mono HI.out.size))⟩
                case measure => simp [intOf]; omega
              · go_wp2_with fail
                refine (sign_n (UInt8.ofNat ci) _ hnum.out).mono ?_
                rintro e w2 ⟨rfl, b2⟩
                have B2 := Lib.hid b2
                clear b2
                go_wp2_with fail
                go_roundw
                case rel => exact ⟨ci + 1, 0, oi, by go_num, rfl, rfl, by omega, by omega, by omega, Lib.hid (HF.out.next HP.out), Lib.hid (HI.out.trans (B2.out.mono HI.out.size))⟩
                case measure => simp [intOf]; omega
            · have hq := front_eq x (UInt8.ofNat ci) hp
              have hlen := prefix_long hp
              have HP := Lib.hid hp
              clear hp
              go_wp2_with fail
              refine (sign_n (UInt8.ofNat ci) _ hnum.out).mono ?_
              rintro e w2 ⟨rfl, b2⟩
              have B2 := Lib.hid b2
              clear b2
              have hcv := conv_n (UInt8.ofNat ci) w2 hnum.out
              go_wp2_with fail
              clear hcv
              go_roundw
              case rel => exact ⟨ci + 1, _, _, by go_num, rfl, rfl, by omega, hlen, by rw [ByteArray.size_append, HF.out.zero]; exact Nat.le_refl _, Lib.hid (HF.out.hit HP.out), Lib.hid ((HI.out.trans (B2.out.mono HI.out.size)).alloc (Nat.le_trans HI.out.size B2.out.size) _)⟩
              case measure => simp [intOf]; omega
          · obtain rfl : ci = 256 := by omega
            go_wp2_with fail
            go_ret2
            exact ⟨left_fails HL.out hx HF.out.none, HI.out⟩
        · have hn1 : 0 < ni := by omega
          have hn2 : ((ni : Int) == 0) = false := by simp; omega
          by_cases hc256 : ci < 256
          · go_wp2_with fail
            go_roundw
            case rel => exact ⟨_, _, rfl, rfl, by rw [ByteArray.size_extract]; omega, Lib.hid (left_next HL.out hx (HF.out.some hn1)), HI⟩
            case measure => simp; omega
          · go_wp2_with fail
            go_roundw
            case rel => exact ⟨_, _, rfl, rfl, by rw [ByteArray.size_extract]; omega, Lib.hid (left_next HL.out hx (HF.out.some hn1)), HI⟩
            case measure => simp; omega
    · have hx0 : x.size = 0 := by omega
      go_wp2_with fail
      go_ret2
      exact ⟨left_done HL.out hx0, HW.out⟩
end Go.Proofs.Ytbkckclieihnnaa.P2
