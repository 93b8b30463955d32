/- Layer 13's example, and the walk of ValidTells, over the contract of the program's Check. No condition but those stated. -/
import Derived.Test.YtgpbgimobcdogaaM21
import Derived.Test.YtgpbgimobcdogaaM23
import Derived.Test.YtgpbgimobcdogaaM24
import Derived.Test.YtgpbgimobcdogaaM25
import Derived.Test.YtgpbgimobcdogaaM27
set_option linter.unusedVariables false
set_option linter.unusedSimpArgs false
set_option linter.unusedVariables false
set_option linter.unusedSimpArgs false
namespace Go.Proofs.Ytgpbgimobcdogaa.P13
open Go.RowKit Kd P4 P5 P11 P12

/-- what the program's Check answers -/
def CheckC : Prop := ∀ (l : List In) (A : Option Addr) (n c : Nat) (w : World), kX.Holds w w.heap.size A l → l.length = n → n ≤ c → c ≤ maxLen → n ≤ 1000 → (∀ i ∈ l, i.a.size ≤ 300 ∧ i.b.size ≤ 300) →
  Calls Try.prog 18 #[.slice A n c] w fun e w' => e = .returned (errV (checkP l : Nat)) ∧ Below w.heap.size w w'
theorem ecode_any (m : Nat) (hm : m ≤ 13) (w : World) : Calls Try.prog 9 #[errV (m : Nat)] w fun e w' => e = .returned (.int .i64 m) ∧ w = w' := by
  by_cases h : m = 0
  · subst h
    have q4 := nil_eql_nil
    show Calls Try.prog 9 #[.nilIface] w _
    go_enter Try.func9, Try.ntmps9
    go_wp2
    go_ret
    exact ⟨rfl, rfl⟩
  · have e : errV ((m : Nat) : Int) = .iface 43 (.int .i64 m) := by unfold errV; rw [if_neg (by omega)]
    rw [e]
    exact code_any m (by omega) hm w
def oneX : List In := [⟨2, ⟨#[]⟩, ⟨#[]⟩⟩]
def twoX : List In := [⟨1, ⟨#[112]⟩, ⟨#[]⟩⟩, ⟨5, ⟨#[97]⟩, ⟨#[]⟩⟩, ⟨4, ⟨#[]⟩, ⟨#[]⟩⟩, ⟨2, ⟨#[]⟩, ⟨#[]⟩⟩]
theorem ez : (⟨#[]⟩ : ByteArray).toList = [] := by rw [ByteArray.toList_eq]
theorem one_code : checkP oneX = 8 := by
  have e : mayI ⟨2, ⟨#[]⟩, ⟨#[]⟩⟩ = true := by simp [mayI, ez]
  have f : firstW oneX 1 = 8 := by
    rw [firstW, firstW, if_pos rfl, wrongP]
    show wrongAt oneX 0 ⟨2, ⟨#[]⟩, ⟨#[]⟩⟩ = 8
    rw [wrongAt, if_neg (by rw [e]; decide), if_neg (by simp [tellsO]), if_pos rfl]
    rfl
  have h : firstW oneX oneX.length = 8 := f
  rw [checkP, if_neg (by decide), if_neg (by rw [h]; decide), h]
theorem two_code : checkP twoX = 0 := by
  have e0 : mayI ⟨1, ⟨#[112]⟩, ⟨#[]⟩⟩ = true := by simp only [mayI]; decide
  have e1 : mayI ⟨5, ⟨#[97]⟩, ⟨#[]⟩⟩ = true := by simp only [mayI]; decide
  have e2 : mayI ⟨4, ⟨#[]⟩, ⟨#[]⟩⟩ = true := by simp only [mayI, ez]; decide
  have e3 : mayI ⟨2, ⟨#[]⟩, ⟨#[]⟩⟩ = true := by simp [mayI, ez]
  have a0 : aheadP twoX 0 = [] := rfl
  have a2 : aheadP twoX 2 = [⟨5, ⟨#[97]⟩, ⟨#[]⟩⟩] := rfl
  have w0 : wrongP twoX 0 = 0 := by
    show wrongAt twoX 0 ⟨1, ⟨#[112]⟩, ⟨#[]⟩⟩ = 0
    rw [wrongAt, if_neg (by rw [e0]; decide), if_neg (by simp [tellsO]), if_neg (show ¬ ((1 : Int) = 2) by decide), a0, if_neg (by simp), if_neg (by simp), if_neg (by rintro ⟨_, h⟩; exact absurd h (by decide))]
  have w1 : wrongP twoX 1 = 0 := by
    show wrongAt twoX 1 ⟨5, ⟨#[97]⟩, ⟨#[]⟩⟩ = 0
    rw [wrongAt, if_neg (by rw [e1]; decide), if_pos (by simp [tellsO])]
    rfl
  have w2 : wrongP twoX 2 = 0 := by
    show wrongAt twoX 2 ⟨4, ⟨#[]⟩, ⟨#[]⟩⟩ = 0
    rw [wrongAt, if_neg (by rw [e2]; decide), if_neg (by simp [tellsO]), if_neg (show ¬ ((4 : Int) = 2) by decide), a2, if_neg (by simp), if_neg (by simp [makesO]), if_neg (by rintro ⟨h, _⟩; exact absurd h (by decide))]
  have w3 : wrongP twoX 3 = 0 := by
    show wrongAt twoX 3 ⟨2, ⟨#[]⟩, ⟨#[]⟩⟩ = 0
    rw [wrongAt, if_neg (by rw [e3]; decide), if_neg (by simp [tellsO]), if_pos rfl]
    rfl
  have f : firstW twoX 4 = 0 := by
    rw [firstW, firstW, firstW, firstW, firstW, w0, w1, w2, w3]
    rfl
  have h : firstW twoX twoX.length = 0 := f
  rw [checkP, if_neg (by decide), if_pos h]
  rfl
/-! ### ValidTells -/
end Go.Proofs.Ytgpbgimobcdogaa.P13

/- Layer 14's example, and the walks of WishTells and WishBack, over the contracts of the program's Of, Back, Count and Same. No condition but those stated. -/
set_option linter.unusedVariables false
set_option linter.unusedSimpArgs false
namespace Go.Proofs.Ytgpbgimobcdogaa.P14
open Go.RowKit Kd P4 P5 P11 P12 P13

/-- what is wanted as it lies in memory that is read -/
structure Wm (K : Kind Try.prog WV) (w : World) (A : Option Addr) (n c : Nat) (ts : List WV) : Prop where
  len : ts.length = n
  cap : n ≤ c
  cm : c ≤ maxLen
  nil : A = none → c = 0
  holds : K.Holds w w.heap.size A ts
  ok : ∀ t ∈ ts, WOk K w w.heap.size t
theorem Wm.on {K : Kind Try.prog WV} {w w' : World} {A : Option Addr} {n c : Nat} {ts : List WV} (h : Wm K w A n c ts) (hb : Below w.heap.size w w') : Wm K w' A n c ts := ⟨h.len, h.cap, h.cm, h.nil, h.holds.on hb, fun t ht => (h.ok t ht).on hb⟩
def OfV (w : World) (l : List In) (e : Ending) (w' : World) : Prop := ∃ (A : Option Addr) (n c : Nat) (ts : List WV), e = .returned (.tuple #[.slice A n c, errV (checkP l : Nat)]) ∧ erL ts = (if checkP l = 0 then wantP l else []) ∧ Wm kW w' A n c ts ∧ Below w.heap.size w w'
def WOfC : Prop := ∀ (l : List In) (A : Option Addr) (n c : Nat) (w : World), kX.Holds w w.heap.size A l → l.length = n → n ≤ c → c ≤ maxLen → n ≤ 1000 → (∀ i ∈ l, i.a.size ≤ 300 ∧ i.b.size ≤ 300) → Calls Try.prog 7 #[.slice A n c] w (OfV w l)
def BackV (w : World) (l : List In) (e : Ending) (w' : World) : Prop := ∃ (A : Option Addr) (n c : Nat), e = .returned (.slice A n c) ∧ l.length = n ∧ n ≤ c ∧ kX.Holds w' w'.heap.size A l ∧ Below w.heap.size w w'
def BackC : Prop := ∀ (ts : List WV) (A : Option Addr) (n c : Nat) (w : World), Wm kW w A n c ts → (∀ t ∈ erL ts, WfW t) → wtL (erL ts) ≤ 1000 → Calls Try.prog 17 #[.slice A n c] w (BackV w (backL (erL ts)))
def CountC : Prop := ∀ (ts : List WV) (A : Option Addr) (n c : Nat) (w : World), Wm kW w A n c ts → wtL (erL ts) ≤ 1000 → Calls Try.prog 13 #[.slice A n c] w fun e w' => e = .returned (.int .i64 (cntL (erL ts) : Nat)) ∧ Below w.heap.size w w'
def SameC : Prop := ∀ (ts us : List WV) (A A' : Option Addr) (n c n' c' : Nat) (w : World), Wm kW w A n c ts → Wm kW w A' n' c' us → wtL (erL ts) ≤ 1000 → wtL (erL us) ≤ 1000 → Calls Try.prog 15 #[.slice A n c, .slice A' n' c'] w fun e w' => e = .returned (.bool (alL (erL ts) (erL us))) ∧ Below w.heap.size w w'
structure WishC : Prop where
  of : WOfC
  back : BackC
  count : CountC
  same : SameC
def upX : List In := [⟨1, ⟨#[112]⟩, ⟨#[]⟩⟩, ⟨4, ⟨#[97]⟩, ⟨#[]⟩⟩, ⟨2, ⟨#[]⟩, ⟨#[]⟩⟩]
def upW : List PW := [.mk 1 ⟨#[112]⟩ ⟨#[]⟩ z0 [] [.mk 2 z0 z0 ⟨#[97]⟩ [] []]]
theorem up_code : checkP upX = 0 := by
  have e0 : mayI ⟨1, ⟨#[112]⟩, ⟨#[]⟩⟩ = true := by simp only [mayI]; decide
  have e1 : mayI ⟨4, ⟨#[97]⟩, ⟨#[]⟩⟩ = true := by simp only [mayI, ez]; decide
  have e2 : mayI ⟨2, ⟨#[]⟩, ⟨#[]⟩⟩ = true := by simp [mayI, ez]
  have a0 : aheadP upX 0 = [] := rfl
  have a1 : aheadP upX 1 = [] := rfl
  have w0 : wrongP upX 0 = 0 := by
    show wrongAt upX 0 ⟨1, ⟨#[112]⟩, ⟨#[]⟩⟩ = 0
    rw [wrongAt, if_neg (by rw [e0]; decide), if_neg (by simp [tellsO]), if_neg (show ¬ ((1 : Int) = 2) by decide), a0, if_neg (by simp), if_neg (by simp), if_neg (by rintro ⟨_, h⟩; exact absurd h (by decide))]
  have w1 : wrongP upX 1 = 0 := by
    show wrongAt upX 1 ⟨4, ⟨#[97]⟩, ⟨#[]⟩⟩ = 0
    rw [wrongAt, if_neg (by rw [e1]; decide), if_neg (by simp [tellsO]), if_neg (show ¬ ((4 : Int) = 2) by decide), a1, if_neg (by simp), if_neg (by simp), if_neg (by rintro ⟨h, _⟩; exact absurd h (by decide))]
  have w2 : wrongP upX 2 = 0 := by
    show wrongAt upX 2 ⟨2, ⟨#[]⟩, ⟨#[]⟩⟩ = 0
    rw [wrongAt, if_neg (by rw [e2]; decide), if_neg (by simp [tellsO]), if_pos rfl]
    rfl
  have f : firstW upX 3 = 0 := by
    rw [firstW, firstW, firstW, firstW, w0, w1, w2]
    rfl
  have h : firstW upX upX.length = 0 := f
  rw [checkP, if_neg (by decide), if_pos h]
  rfl
theorem up_want : wantP upX = upW := rfl
theorem erL_len (ts : List WV) : (erL ts).length = ts.length := by simp [erL_map]
set_option maxRecDepth 100000 in
set_option maxHeartbeats 8000000 in
theorem up14_any (C : WishC) (w : World) : Calls Try.prog 5 #[] w fun e w' => e = .returned (.bool true) ∧ Below w.heap.size w w' := by
  have q1 := err_eql
  have q2 := err_eql_nil
  have q3 := err_neq_nil
  have q4 := nil_eql_nil
  have q5 := nil_neq_nil
  have HC := Lib.hid C
  have C1 : Hid (∀ (w9 : World) (p : Nat), w9.heap[p]? = some (.cells #[.int .i64 1, .string ⟨#[112]⟩, .string ⟨#[]⟩, .int .i64 4, .string ⟨#[97]⟩, .string ⟨#[]⟩, .int .i64 2, .string ⟨#[]⟩, .string ⟨#[]⟩] 40 (0, 0)) → Calls Try.prog 7 #[.slice (some ⟨p, 0, none⟩) 3 3] w9 (OfV w9 upX)) := Lib.hid (fun w9 p h =>
    C.of upX (some ⟨p, 0, none⟩) 3 3 w9 ((Kind.Holds.lit h rfl).more (heap_lt h)) rfl (by omega) (by simp [maxLen]) (by omega) (fun i hi => by
      simp only [upX, List.mem_cons, List.not_mem_nil, or_false] at hi
      rcases hi with rfl | rfl | rfl <;> decide))
  have C2 : Hid (∀ (w9 : World) (p : Nat), w9.heap[p]? = some (.cells #[.int .i64 2, .string ⟨#[]⟩, .string ⟨#[]⟩] 40 (0, 0)) → Calls Try.prog 7 #[.slice (some ⟨p, 0, none⟩) 1 1] w9 (OfV w9 oneX)) := Lib.hid (fun w9 p h =>
    C.of oneX (some ⟨p, 0, none⟩) 1 1 w9 ((Kind.Holds.lit h rfl).more (heap_lt h)) rfl (by omega) (by simp [maxLen]) (by omega) (fun i hi => by rw [List.mem_singleton.1 hi]; decide))
  have W1 : Hid ((w.alloc (.cells #[.int .i64 1, .string ⟨#[112]⟩, .string ⟨#[]⟩, .int .i64 4, .string ⟨#[97]⟩, .string ⟨#[]⟩, .int .i64 2, .string ⟨#[]⟩, .string ⟨#[]⟩] 40)).heap[w.heap.size]? = some (.cells #[.int .i64 1, .string ⟨#[112]⟩, .string ⟨#[]⟩, .int .i64 4, .string ⟨#[97]⟩, .string ⟨#[]⟩, .int .i64 2, .string ⟨#[]⟩, .string ⟨#[]⟩] 40 (0, 0))) := Lib.hid (heap_alloc_new w _)
  have B1 : Hid (Below w.heap.size w (w.alloc (.cells #[.int .i64 1, .string ⟨#[112]⟩, .string ⟨#[]⟩, .int .i64 4, .string ⟨#[97]⟩, .string ⟨#[]⟩, .int .i64 2, .string ⟨#[]⟩, .string ⟨#[]⟩] 40))) := Lib.hid ((Below.refl _ _).alloc (Nat.le_refl _) _)
  have D1 := Lib.hid (C1.out _ w.heap.size W1.out)
  clear C1 W1
  go_enter Try.func5, Try.ntmps5
  go_wp2_with fail
  refine D1.out.mono ?_
  rintro e w1 ⟨A, n, c, ts, rfl, her, hm, b1⟩
  rw [up_code, if_pos rfl, up_want] at her
  have HM := Lib.hid hm
  have HER := Lib.hid her
  have B2 : Hid (Below w.heap.size w w1) := Lib.hid (B1.out.trans (b1.mono B1.out.size))
  have hl : ts.length = 1 := by rw [← erL_len, her]; rfl
  obtain ⟨t, rfl⟩ : ∃ t, ts = [t] := by
    cases ts with
    | nil => simp at hl
    | cons a r => cases r with
      | nil => exact ⟨a, rfl⟩
      | cons => simp at hl
  obtain rfl : n = 1 := by rw [← hm.len]; rfl
  obtain ⟨b, o, rfl, _, g0, g1, g2, g3, g4, g5⟩ := cell_of_w hm.holds (k := 0) (by simp)
  have htag : t.tag = ⟨#[112]⟩ := by
    rw [erL, er_parts] at her
    injection her with h1 h2
    injection h1
  have g1' : w1.cell? ⟨b, o + 1, none⟩ = some (.string ⟨#[112]⟩) := by have := g1; simp only [List.getElem_cons_zero, htag, Nat.zero_mul, Nat.add_zero] at this; exact this
  have G1 : Hid (∀ w9, Below w1.heap.size w1 w9 → w9.cell? ⟨b, o + 1, none⟩ = some (.string ⟨#[112]⟩)) := Lib.hid (fun w9 h => (h.cell (by assumption)).trans g1')
  have e0 : errV ((checkP upX : Nat) : Int) = .nilIface := by rw [up_code]; rfl
  rw [e0]
  clear e0 b1 D1 hm her g0 g1 g2 g3 g4 g5 htag g1' hl
  have D2 := Lib.hid (C2.out (w1.alloc (.cells #[.int .i64 2, .string ⟨#[]⟩, .string ⟨#[]⟩] 40)) w1.heap.size (heap_alloc_new w1 _))
  have B3 : Hid (Below w1.heap.size w1 (w1.alloc (.cells #[.int .i64 2, .string ⟨#[]⟩, .string ⟨#[]⟩] 40))) := Lib.hid ((Below.refl _ _).alloc (Nat.le_refl _) _)
  go_wp2_with fail
  refine D2.out.mono ?_
  rintro e w3 ⟨A2, n2, c2, ts2, rfl, _, _, b3⟩
  have e8 : errV ((checkP oneX : Nat) : Int) = .iface 43 (.int .i64 8) := by rw [one_code]; rfl
  rw [e8]
  have B4 : Hid (Below w1.heap.size w1 w3) := Lib.hid (B3.out.trans (b3.mono B3.out.size))
  clear e8 b3 D2 C2 B3
  have g1 := G1.out w3 B4.out
  have CC : Hid (∀ w9, Below w1.heap.size w1 w9 → Calls Try.prog 13 #[.slice (some ⟨b, o, none⟩) 1 c] w9 fun e w' => e = .returned (.int .i64 2) ∧ Below w9.heap.size w9 w') := Lib.hid (fun w9 h => by
    have := HC.out.count [t] _ _ _ w9 (HM.out.on h) (by rw [HER.out]; decide)
    rw [HER.out] at this
    exact this)
  have CS : Hid (∀ w9, Below w1.heap.size w1 w9 → Calls Try.prog 15 #[.slice (some ⟨b, o, none⟩) 1 c, .slice (some ⟨b, o, none⟩) 1 c] w9 fun e w' => e = .returned (.bool true) ∧ Below w9.heap.size w9 w') := Lib.hid (fun w9 h => by
    have := HC.out.same [t] [t] _ _ _ _ _ _ w9 (HM.out.on h) (HM.out.on h) (by rw [HER.out]; decide) (by rw [HER.out]; decide)
    rw [alL_refl] at this
    exact this)
  have qs : ((⟨#[112]⟩ : ByteArray).toList == [112]) = true := by rw [ByteArray.toList_eq]; rfl
  go_wp2_with fail
  refine (CC.out w3 B4.out).mono ?_
  rintro e w4 ⟨rfl, b4⟩
  have B5 : Hid (Below w1.heap.size w1 w4) := Lib.hid (B4.out.trans (b4.mono B4.out.size))
  clear b4 CC
  go_wp2_with fail
  refine (CS.out w4 B5.out).mono ?_
  rintro e w5 ⟨rfl, b5⟩
  have B6 : Hid (Below w.heap.size w w5) := Lib.hid (B2.out.trans ((B5.out.trans (b5.mono B5.out.size)).mono B2.out.size))
  clear b5 CS
  go_wp2_with fail
  go_ret
  exact ⟨by first | rfl | simp, B6.out⟩
end Go.Proofs.Ytgpbgimobcdogaa.P14
