/- Layer 15's example, and the law's find, over the contracts of the program's keys. No condition but those stated. -/
import Derived.Test.YtihjdmdafiifhaaGreatM19
import Derived.Test.YtihjdmdafiifhaaGreatM31
set_option linter.unusedVariables false
set_option linter.unusedSimpArgs false
set_option linter.unusedVariables false
set_option linter.unusedSimpArgs false
namespace Go.Proofs.YtihjdmdafiifhaaGreat.P15
open Go.RowKit Kd P4 P5

theorem listA : (⟨#[97]⟩ : ByteArray).toList = [97] := by rw [ByteArray.toList_eq]
def rec15 : Rc := ⟨1, 2, 0, 0, ⟨#[112]⟩, ⟨#[]⟩, ⟨#[97]⟩, []⟩
def nodeK : Nd := newN 2 ⟨#[112]⟩ ⟨#[]⟩ ⟨#[97]⟩
theorem ex15 : applyD (newD 9) rec15 = (0, ⟨[nodeR, nodeK], 2, 9, 0⟩) := by
  have hm : mayMake ⟨#[112]⟩ ⟨#[]⟩ ⟨#[97]⟩ = true := by
    unfold mayMake
    rw [list1, list0]
    decide
  unfold applyD
  rw [if_pos (show rec15.op = 1 from rfl)]
  unfold makeD
  rw [if_neg (by rintro (e | e); (exact e rfl); (rw [show mayMake rec15.tag rec15.txt rec15.key = true from hm] at e; cases e)), if_neg (by decide)]
  rfl
def chK : Ch := ⟨2, ⟨#[112]⟩, ⟨#[97]⟩⟩
theorem keyed15 : keyedL [nodeR, nodeK] [1, 2] = [chK] := by
  have h1 : keyN nodeR = false := by
    unfold keyN
    rw [show nodeR.key.toList = [] from list0]
    simp
  have h2 : keyN nodeK = true := by
    unfold keyN
    rw [show nodeK.key.toList = [97] from listA, show nodeK.tag.toList = [112] from list1]
    rfl
  rw [keyedL, show find [nodeR, nodeK] 1 = some nodeR from rfl]
  simp only
  rw [h1, if_neg (by decide), keyedL, show find [nodeR, nodeK] 2 = some nodeK from rfl]
  simp only
  rw [h2, if_pos rfl]
  rfl
theorem find15 : findM [chK] ⟨#[112]⟩ ⟨#[97]⟩ = (2, true) := by
  have h : hitC ⟨#[112]⟩ ⟨#[97]⟩ chK = true := by
    unfold hitC
    rw [show chK.tag.toList = [112] from list1, show chK.key.toList = [97] from listA, list1, listA]
    rfl
  unfold findM
  rw [List.find?_cons, h]
  rfl
/-- two maps that write nothing of each other's -/
theorem apart_after {Mp : World → Nat → MS → (Nat → Prop) → (Nat → Prop) → Prop} (K : KeysK Mp) {w w' : World} {g1 g2 : Nat} {S1' S2 : MS} {R1 W1 R2 W2 : Nat → Prop} (h2 : Mp w g2 S2 R2 W2)
    (a1 : ∀ k, W1 k → ¬ R2 k ∧ ¬ W2 k) (ha : AfterM Mp w g1 R1 W1 S1' w') : Mp w' g2 S2 R2 W2 := by
  obtain ⟨R', W', hm, hb, hw, hr⟩ := ha
  exact K.keep h2 hb (fun k hk hw => (a1 k hw).1 hk) (fun k hk hw => (a1 k hw).2 hk)
set_option maxRecDepth 100000 in
set_option maxHeartbeats 4000000 in
theorem up15_any (KC : KeysC) (w : World) : Calls Tryz.prog 5 #[] w fun e w' => e = .returned (.bool true) ∧ Below w.heap.size w w' := by
  obtain ⟨Mp, K⟩ := KC
  have q1 := err_eql_nil
  have q3 := err_neq_nil
  have q4 := nil_eql_nil
  have q5 := nil_neq_nil
  have KK := Lib.hid K
  clear K
  go_enter Tryz.func5, Tryz.ntmps5
  go_wp2_with fail
  refine (newDoc_at 9 9 w rfl (by omega) (by omega)).mono ?_
  rintro e w1 ⟨p, x, rfl, dc1, hd1, b1⟩
  have D1 := Lib.hid dc1
  have E1 := Lib.hid hd1
  have B1 := Lib.hid b1
  clear dc1 hd1 b1
  have hn1 : x.n ≤ 100000 := by have : x.d.n = 1 := by rw [E1.out]; rfl
                                have h2 : x.n = 1 := this
                                omega
  have C2 : Hid (Calls Tryz.prog 15 #[.pointer (some ⟨p, 0, none⟩), .agg #[.int .i64 1, .int .i64 2, .int .i64 0, .int .i64 0, .string ⟨#[112]⟩, .string ⟨#[]⟩, .string ⟨#[97]⟩, .slice none 0 0]] w1 fun e w' => e = .returned .nilIface ∧ ∃ x', Did w1 w.heap.size p x x' w' ∧ x'.d = ⟨[nodeR, nodeK], 2, 9, 0⟩) := Lib.hid (by
    have := apply_any rec15 none 0 0 w1 (by rw [E1.out]; exact wf_newD (by omega) (by omega)) hn1 ⟨argNil w1, size_one, size_nil, by unfold maxLen; decide⟩ D1.out
    rw [E1.out, ex15] at this
    exact this)
  go_wp2_with fail
  refine C2.out.mono ?_
  rintro e w2 ⟨rfl, x2, d2, hd2⟩
  have D2 := Lib.hid d2.dc
  have E2 := Lib.hid hd2
  have W2 : Hid (WF x2.d) := Lib.hid (by
    have := wf_apply (show WF x.d by rw [E1.out]; exact wf_newD (by omega) (by omega)) rec15
    rw [E1.out, ex15] at this
    rw [E2.out]
    exact this)
  have B2 : Hid (Below w.heap.size w w2) := Lib.hid (B1.out.trans (Did.to_below D1.out d2))
  clear d2 hd2 C2 E1 D1 B1
  have hb2 := B2.out.size
  have N1 : Hid (Calls Tryz.prog 9 #[.pointer (some ⟨p, 0, none⟩), .slice (some ⟨w2.heap.size, 0, none⟩) 2 2] (w2.alloc (.cells #[.int .i64 1, .int .i64 2] 3)) fun e w' => ∃ (g : Nat) (Rd Wr : Nat → Prop), e = .returned (.pointer (some ⟨g, 0, none⟩)) ∧ Mp w' g ⟨false, some p, [1, 2], []⟩ Rd Wr ∧ Below (w2.heap.size + 1) (w2.alloc (.cells #[.int .i64 1, .int .i64 2] 3)) w' ∧ ∀ k, Wr k → w2.heap.size ≤ k) := Lib.hid (by
    have := KK.out.new (some p) [1, 2] (some ⟨w2.heap.size, 0, none⟩) 2 2 (w2.alloc (.cells #[.int .i64 1, .int .i64 2] 3)) ((Kind.Holds.lit (heap_alloc_new w2 _) rfl).more (by simp)) rfl (by omega) (by simp [maxLen]) (fun e => by cases e) (by omega)
    refine this.mono ?_
    rintro e w' ⟨g, Rd, Wr, h1, h2, h3, h4, h5⟩
    exact ⟨g, Rd, Wr, h1, h2, by simpa using h3, fun k hk => by have := h4 k hk; simp at this; omega⟩)
  go_wp2_with fail
  refine N1.out.mono ?_
  rintro e w3 ⟨g1, R1, W1, rfl, m1, b3, hw1⟩
  have B3a : Hid (Below w2.heap.size w2 w3) := Lib.hid (((Below.refl _ _).alloc (Nat.le_refl _) _).trans (b3.mono (by omega)))
  have D3 := Lib.hid (D2.out.below B3a.out)
  have AP : Hid (∀ k, foot p x2 k → ¬ W1 k) := Lib.hid (fun k hk h => by have := hw1 k h; have := D2.out.lt hk; omega)
  have B3 := Lib.hid (B2.out.trans (B3a.out.mono hb2))
  have HW1 : Hid (∀ k, W1 k → w.heap.size ≤ k) := Lib.hid (fun k h => by have := hw1 k h; omega)
  have M1 := Lib.hid m1
  clear m1 b3 hw1 B3a N1 D2 B2 hb2
  have hb3 := B3.out.size
  have N2 : Hid (Calls Tryz.prog 9 #[.pointer none, .slice (some ⟨w3.heap.size, 0, none⟩) 1 1] (w3.alloc (.cells #[.int .i64 1] 3)) fun e w' => ∃ (g : Nat) (Rd Wr : Nat → Prop), e = .returned (.pointer (some ⟨g, 0, none⟩)) ∧ Mp w' g ⟨false, none, [1], []⟩ Rd Wr ∧ Below (w3.heap.size + 1) (w3.alloc (.cells #[.int .i64 1] 3)) w' ∧ ∀ k, (Rd k ∨ Wr k) → w3.heap.size ≤ k) := Lib.hid (by
    have := KK.out.new none [1] (some ⟨w3.heap.size, 0, none⟩) 1 1 (w3.alloc (.cells #[.int .i64 1] 3)) ((Kind.Holds.lit (heap_alloc_new w3 _) rfl).more (by simp)) rfl (by omega) (by simp [maxLen]) (fun e => by cases e) (by omega)
    refine this.mono ?_
    rintro e w' ⟨g, Rd, Wr, h1, h2, h3, h4, h5⟩
    refine ⟨g, Rd, Wr, h1, h2, by simpa using h3, fun k hk => ?_⟩
    rcases hk with hk | hk
    · rcases h5 k hk with ⟨o, e, _⟩ | e
      · injection e with e; injection e with e; omega
      · simp at e; omega
    · have := h4 k hk; simp at this; omega)
  go_wp2_with fail
  refine N2.out.mono ?_
  rintro e w4 ⟨g2, R2, W2', rfl, m2, b4, hw2⟩
  have B4a : Hid (Below w3.heap.size w3 w4) := Lib.hid (((Below.refl _ _).alloc (Nat.le_refl _) _).trans (b4.mono (by omega)))
  have D4 := Lib.hid (D3.out.below B4a.out)
  have B4 := Lib.hid (B3.out.trans (B4a.out.mono hb3))
  have M4 := Lib.hid (KK.out.below M1.out B4a.out)
  have A12 : Hid (∀ k, W1 k → ¬ R2 k ∧ ¬ W2' k) := Lib.hid (fun k hk => ⟨fun h => by have := hw2 k (.inl h); have := KK.out.wr M1.out hk; omega, fun h => by have := hw2 k (.inr h); have := KK.out.wr M1.out hk; omega⟩)
  have A21 : Hid (∀ k, W2' k → ¬ R1 k ∧ ¬ W1 k) := Lib.hid (fun k hk => ⟨fun h => by have := hw2 k (.inr hk); have := KK.out.rd M1.out h; omega, fun h => by have := hw2 k (.inr hk); have := KK.out.wr M1.out h; omega⟩)
  have HW2 : Hid (∀ k, W2' k → w.heap.size ≤ k) := Lib.hid (fun k h => by have := hw2 k (.inr h); omega)
  have N4 := Lib.hid m2
  clear m2 b4 hw2 B4a N2 D3 B3 hb3 M1
  have C5 : Hid (Calls Tryz.prog 11 #[.pointer (some ⟨g1, 0, none⟩), .string ⟨#[112]⟩, .string ⟨#[97]⟩] w4 fun e w' => e = .returned (.tuple #[.int .i64 2, .bool true]) ∧ AfterM Mp w4 g1 R1 W1 ⟨true, some p, [1, 2], [chK]⟩ w') := Lib.hid (by
    have := KK.out.find ⟨#[112]⟩ ⟨#[97]⟩ x2.d.l ⟨false, some p, [1, 2], []⟩ R1 W1 g1 w4 M4.out (by simp) (by simp) (fun _ p' hp => ⟨_, x2, by injection hp with hp; subst hp; exact D4.out, W2.out, rfl, fun z hz => by
      have hz : z ∈ [nodeR, nodeK] := by rw [E2.out] at hz; exact hz
      rcases List.mem_cons.1 hz with rfl | hz
      · show (1 : Int) ≤ 1000000; omega
      · rcases List.mem_cons.1 hz with rfl | hz
        · show (2 : Int) ≤ 1000000; omega
        · cases hz⟩) (by decide) (by decide)
    rw [show asks ⟨false, some p, [1, 2], []⟩ x2.d.l = ⟨true, some p, [1, 2], [chK]⟩ by
      show (⟨true, some p, [1, 2], keyedL x2.d.l [1, 2]⟩ : MS) = _
      rw [E2.out, keyed15]] at this
    rw [show findM (MS.mk true (some p) [1, 2] [chK]).left ⟨#[112]⟩ ⟨#[97]⟩ = (2, true) from find15] at this
    exact this)
  go_wp2_with fail
  refine C5.out.mono ?_
  rintro e w5 ⟨rfl, ha⟩
  have N5 := Lib.hid (apart_after KK.out N4.out A12.out ha)
  obtain ⟨R1', W1', m5, b5, hw5, hr5⟩ := ha
  have M5 := Lib.hid m5
  have A12' : Hid (∀ k, W1' k → ¬ R2 k ∧ ¬ W2' k) := Lib.hid (fun k hk => by
    rcases hw5 k hk with h | h
    · exact A12.out k h
    · exact ⟨fun h2 => by have := KK.out.rd N4.out h2; omega, fun h2 => by have := KK.out.wr N4.out h2; omega⟩)
  have A21' : Hid (∀ k, W2' k → ¬ R1' k ∧ ¬ W1' k) := Lib.hid (fun k hk => by
    have hl := KK.out.wr N4.out hk
    refine ⟨fun h2 => ?_, fun h2 => ?_⟩
    · rcases hr5 k h2 with h | h | h
      · exact (A21.out k hk).1 h
      · exact (A21.out k hk).2 h
      · omega
    · rcases hw5 k h2 with h | h
      · exact (A21.out k hk).2 h
      · omega)
  have hb4 := B4.out.size
  have B5 : Hid (Below w.heap.size w w5) := Lib.hid (B4.out.trans (b5.to_below (fun k _ h => HW1.out k h) hb4))
  have HW1' : Hid (∀ k, W1' k → w.heap.size ≤ k) := Lib.hid (fun k h => by rcases hw5 k h with h | h; (exact HW1.out k h); omega)
  clear m5 b5 hw5 hr5 C5 A12 A21 HW1 M4 N4 D4 AP B4 hb4 W2 E2
  have NB : Hid ([1, 2].Nodup ∧ ([1] : List Int).Nodup) := Lib.hid (by simp)
  have L1 : Hid (Calls Tryz.prog 13 #[.pointer (some ⟨g1, 0, none⟩)] w5 fun e w' => e = .returned (.int .i64 1) ∧ AfterM Mp w5 g1 R1' W1' ⟨true, some p, [1, 2], [chK]⟩ w') := Lib.hid (KK.out.len [] _ _ _ g1 w5 M5.out (by simp) (by simp) (fun h => by cases h))
  go_wp2_with fail
  refine L1.out.mono ?_
  rintro e w6 ⟨rfl, ha⟩
  have N6 := Lib.hid (apart_after KK.out N5.out A12'.out ha)
  obtain ⟨R3, W3, m6, b6, hw6, hr6⟩ := ha
  have M6 := Lib.hid m6
  have hb5 := B5.out.size
  have A21q : Hid (∀ k, W2' k → ¬ R3 k ∧ ¬ W3 k) := Lib.hid (fun k hk => by
    have hl := KK.out.wr N5.out hk
    refine ⟨fun h2 => ?_, fun h2 => ?_⟩
    · rcases hr6 k h2 with h | h | h
      · exact (A21'.out k hk).1 h
      · exact (A21'.out k hk).2 h
      · omega
    · rcases hw6 k h2 with h | h
      · exact (A21'.out k hk).2 h
      · omega)
  have B6 : Hid (Below w.heap.size w w6) := Lib.hid (B5.out.trans (b6.to_below (fun k _ h => HW1'.out k h) hb5))
  have HW3 : Hid (∀ k, W3 k → w.heap.size ≤ k) := Lib.hid (fun k h => by rcases hw6 k h with h | h; (exact HW1'.out k h); omega)
  clear m6 b6 hw6 hr6 L1 A12' A21' HW1' M5 N5 B5 hb5
  have L2 : Hid (Calls Tryz.prog 13 #[.pointer (some ⟨g2, 0, none⟩)] w6 fun e w' => e = .returned (.int .i64 0) ∧ AfterM Mp w6 g2 R2 W2' ⟨true, none, [1], []⟩ w') := Lib.hid (KK.out.len [] ⟨false, none, [1], []⟩ _ _ g2 w6 N6.out (by simp) (by simp) (fun _ p' h => by cases h))
  go_wp2_with fail
  refine L2.out.mono ?_
  rintro e w7 ⟨rfl, ha⟩
  have M7 := Lib.hid (apart_after KK.out M6.out A21q.out ha)
  obtain ⟨R4, W4, m7, b7, hw7, hr7⟩ := ha
  have hb6 := B6.out.size
  have B7 : Hid (Below w.heap.size w w7) := Lib.hid (B6.out.trans (b7.to_below (fun k _ h => HW2.out k h) hb6))
  clear m7 b7 hw7 hr7 L2 A21q M6 B6 hb6 N6
  have P1 : Hid (Calls Tryz.prog 10 #[.pointer (some ⟨g1, 0, none⟩), .int .i64 2] w7 fun e w' => e = .returned (.bool true) ∧ AfterM Mp w7 g1 R3 W3 ⟨true, some p, [1, 2], []⟩ w') := Lib.hid (KK.out.drop 2 [] _ _ _ g1 w7 M7.out (by simp) (by simp) (fun h => by cases h))
  go_wp2_with fail
  refine P1.out.mono ?_
  rintro e w8 ⟨rfl, R5, W5, m8, b8, hw8, hr8⟩
  have hb7 := B7.out.size
  have B8 : Hid (Below w.heap.size w w8) := Lib.hid (B7.out.trans (b8.to_below (fun k _ h => HW3.out k h) hb7))
  have HW5 : Hid (∀ k, W5 k → w.heap.size ≤ k) := Lib.hid (fun k h => by rcases hw8 k h with h | h; (exact HW3.out k h); omega)
  have M8 := Lib.hid m8
  clear m8 b8 hw8 hr8 P1 M7 B7 hb7
  have P2 : Hid (Calls Tryz.prog 10 #[.pointer (some ⟨g1, 0, none⟩), .int .i64 2] w8 fun e w' => e = .returned (.bool false) ∧ AfterM Mp w8 g1 R5 W5 ⟨true, some p, [1, 2], []⟩ w') := Lib.hid (KK.out.drop 2 [] _ _ _ g1 w8 M8.out (by simp) (by simp) (fun h => by cases h))
  go_wp2_with fail
  refine P2.out.mono ?_
  rintro e w9 ⟨rfl, R6, W6, m9, b9, hw9, hr9⟩
  have hb8 := B8.out.size
  have B9 : Hid (Below w.heap.size w w9) := Lib.hid (B8.out.trans (b9.to_below (fun k _ h => HW5.out k h) hb8))
  clear m9 b9 hw9 hr9 P2
  go_wp2_with fail
  go_ret
  exact ⟨rfl, B9.out⟩
end Go.Proofs.YtihjdmdafiifhaaGreat.P15

/- The law's find: the first one of some ids that has a tag, and a key. No condition but those stated. -/
set_option linter.unusedVariables false
set_option linter.unusedSimpArgs false
namespace Go.Proofs.YtihjdmdafiifhaaGreat.P15
open Go.RowKit Kd P4 P5

def hitN (tag key : ByteArray) (x : Nd) : Bool := keyN x && (x.tag.toList == tag.toList) && (x.key.toList == key.toList)
def findL (l : List Nd) (tag key : ByteArray) : List Int → Int
  | [] => 0
  | i :: r => match find l i with
    | some x => if hitN tag key x then i else findL l tag key r
    | none => findL l tag key r
theorem findL_drop {l : List Nd} {tag key : ByteArray} {ids : List Int} {k : Nat} (h : k < ids.length) : findL l tag key (ids.drop k) = match find l ids[k] with
    | some x => if hitN tag key x then ids[k] else findL l tag key (ids.drop (k + 1))
    | none => findL l tag key (ids.drop (k + 1)) := by
  rw [List.drop_eq_getElem_cons h]
  rfl
def FdRel (w : World) (l : List Nd) (tag key : ByteArray) (ids : List Int) (n : Nat) (s9 : Value) (wr : World) : Prop := ∃ k : Nat, k ≤ n ∧ s9 = .int .i64 k ∧ Hid (findL l tag key ids = findL l tag key (ids.drop k)) ∧ Hid (Below w.heap.size w wr)
variable {B q : Nat} {y : Rx}
set_option maxRecDepth 100000 in
set_option maxHeartbeats 8000000 in
theorem lfind_any (ids : List Int) (A : Option Addr) (n c : Nat) (tag key : ByteArray) (w : World) (H : kI.Holds w w.heap.size A ids) (hn : ids.length = n) (hl : n ≤ 1000) (hwf : WF y.d) (h : Rf w B q y) :
    Calls Tryz.prog 12 #[.pointer (some ⟨q, 0, none⟩), .slice A n c, .string tag, .string key] w fun e w' => e = .returned (.int .i64 (findL y.l tag key ids)) ∧ Below w.heap.size w w' := by
  have KH := Lib.hid H
  have KN := Lib.hid hn
  have KR := Lib.hid h
  have AY : Hid (Asc y.l) := Lib.hid hwf.asc
  have LY : y.rs.length ≤ 1000 := by have h1 := hwf.len200; rw [show y.d.l = y.l from rfl, rl_len] at h1; omega
  have ST : Hid (FdRel w y.l tag key ids n (.int .i64 0) w) := Lib.hid ⟨0, by omega, rfl, Lib.hid rfl, Lib.hid (Below.refl _ _)⟩
  clear H hn h hwf
  go_enter Tryz.func12, Tryz.ntmps12
  go_wp2_with fail
  go_loopw [9] (fun s9 wr => FdRel w y.l tag key ids n s9 wr) (fun s9 _ => n - (intOf s9).toNat)
  case atStart => exact ST.out
  case round =>
    obtain ⟨k, hk, rfl, HF, HB⟩ := hrel
    clear ST
    by_cases hkn : k < n
    · have hkl : k < ids.length := by have := KN.out; omega
      obtain ⟨b, o, rfl, hb, g0⟩ := cell_int (KH.out.on HB.out) hkl
      have FD := Lib.hid (findL_drop (l := y.l) (tag := tag) (key := key) hkl)
      have RR := Lib.hid (KR.out.but (But.of_below HB.out (fun _ => False)) (fun _ _ h => h) (NoA.none w))
      have GI : Hid (∀ wz, Below w.heap.size w wz → wz.cell? ⟨b, o + k, none⟩ = some (.int .i64 ids[k])) := Lib.hid (fun wz hz => by
        obtain ⟨b', o', hA, _, g⟩ := cell_int (KH.out.on hz) hkl
        injection hA with hA
        injection hA with e1 e2
        subst e1; subst e2
        exact g)
      generalize ids[k] = i at g0 FD GI
      cases hf : find y.l i with
      | none =>
        rw [hf] at FD
        have HN : Hid (hasL y.l i = false) := Lib.hid (by unfold hasL; rw [hf]; rfl)
        clear hf
        go_wp2_with fail
        refine (at_no i wr LY HN.out RR.out).mono ?_
        rintro e w' ⟨rfl, rfl⟩
        go_wp2_with fail
        go_roundw
        case rel => exact ⟨k + 1, by omega, by go_num, Lib.hid (by rw [HF.out, FD.out]), HB⟩
        case measure => simp [intOf]; omega
      | some x =>
        rw [hf] at FD
        simp only at FD
        obtain ⟨j, hj, hy, hx⟩ := rplace AY.out (show hasL y.l i = true by unfold hasL; rw [hf]; rfl)
        obtain rfl : y.rs[j].nd = x := by rw [hf] at hx; injection hx with hx; exact hx.symm
        obtain ⟨b2, o2, cl, A1, nn, ca, A2, n2, c2, hv, hcl, hb2, d0, L, hva, hvk⟩ := RR.out.lies hj
        have HY := Lib.hid hy
        obtain ⟨nl, hnl⟩ : ∃ nl, y.rs.length = nl := ⟨_, rfl⟩
        have hjn : j < nl := by omega
        have hl2 : nl ≤ 1000 := by omega
        rw [hnl] at d0 hcl
        have AT : Hid (Calls Tryz.prog 8 #[.pointer (some ⟨q, 0, none⟩), .int .i64 i] wr fun e w' => e = .returned (.int .i64 j) ∧ wr = w') := Lib.hid (at_yes i wr AY.out LY hj hy RR.out)
        clear hf hx hy hv hva hvk hnl
        generalize y.rs[j].nd = m at L FD HY
        have l0 := L.c0; have l1 := L.c1; have l2 := L.c2; have l3 := L.c3; have l4 := L.c4; have l5 := L.c5; have l6 := L.c6; have l7 := L.c7
        clear L
        have N2 : Hid (NdB (wr.alloc (.cells #[.int .i64 m.id, .int .i64 m.par, .string m.tag, .string m.txt, .string m.key, .slice A1 nn ca, .slice A2 n2 c2, .int .i64 m.note] 34)) wr.heap.size m A1 nn ca A2 n2 c2) := Lib.hid (NdB.new wr m A1 nn ca A2 n2 c2)
        have B2 : Hid (Below w.heap.size w (wr.alloc (.cells #[.int .i64 m.id, .int .i64 m.par, .string m.tag, .string m.txt, .string m.key, .slice A1 nn ca, .slice A2 n2 c2, .int .i64 m.note] 34))) := Lib.hid (HB.out.alloc HB.out.size _)
        go_wp2_with fail
        refine AT.out.mono ?_
        rintro e w' ⟨rfl, rfl⟩
        go_upto_region 7 with fail
        generalize wr.alloc (.cells #[.int .i64 m.id, .int .i64 m.par, .string m.tag, .string m.txt, .string m.key, .slice A1 nn ca, .slice A2 n2 c2, .int .i64 m.note] 34) = W2 at N2 B2 ⊢
        clear l0 l1 l2 l3 l4 l5 l6 l7 d0 g0 AT
        have a2 := N2.out.c2
        have a4 := N2.out.c4
        have g0 := GI.out W2 B2.out
        obtain ⟨bh, hbh⟩ : ∃ bh, hitN tag key m = bh := ⟨_, rfl⟩
        rw [hbh] at FD
        have HBH : Hid (hitN tag key m = bh) := Lib.hid hbh
        clear hbh
        cases bt : m.tag.toList.isEmpty with
        | true =>
          obtain rfl : bh = false := by rw [← HBH.out]; unfold hitN keyN; simp [bt]
          go_wp2_with fail
          go_roundw
          case rel => exact ⟨k + 1, by omega, by go_num, Lib.hid (by rw [HF.out, FD.out]; rfl), B2⟩
          case measure => simp [intOf]; omega
        | false =>
          cases bk : m.key.toList.isEmpty with
          | true =>
            obtain rfl : bh = false := by rw [← HBH.out]; unfold hitN keyN; simp [bk]
            go_wp2_with fail
            go_roundw
            case rel => exact ⟨k + 1, by omega, by go_num, Lib.hid (by rw [HF.out, FD.out]; rfl), B2⟩
            case measure => simp [intOf]; omega
          | false =>
            cases et : (m.tag.toList == tag.toList) with
            | false =>
              obtain rfl : bh = false := by rw [← HBH.out]; unfold hitN keyN; simp [et]
              go_wp2_with fail
              go_roundw
              case rel => exact ⟨k + 1, by omega, by go_num, Lib.hid (by rw [HF.out, FD.out]; rfl), B2⟩
              case measure => simp [intOf]; omega
            | true =>
              cases ek : (m.key.toList == key.toList) with
              | false =>
                obtain rfl : bh = false := by rw [← HBH.out]; unfold hitN keyN; simp [ek]
                go_wp2_with fail
                go_roundw
                case rel => exact ⟨k + 1, by omega, by go_num, Lib.hid (by rw [HF.out, FD.out]; rfl), B2⟩
                case measure => simp [intOf]; omega
              | true =>
                obtain rfl : bh = true := by rw [← HBH.out]; unfold hitN keyN; rw [bt, bk, et, ek]; rfl
                go_wp2_with fail
                go_ret
                exact ⟨by rw [HF.out, FD.out]; rfl, B2.out⟩
    · obtain rfl : k = n := by omega
      have HZ : Hid (findL y.l tag key ids = 0) := Lib.hid (by rw [HF.out, List.drop_of_length_le (by have := KN.out; omega)]; rfl)
      go_wp2_with fail
      go_ret
      exact ⟨by rw [HZ.out]; rfl, HB.out⟩
end Go.Proofs.YtihjdmdafiifhaaGreat.P15
