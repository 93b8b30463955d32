/- What WriteString does at a builder that lies among other blocks: it turns the builder's block and its bytes alone. No condition but those stated. -/
import Derived.Lib.UnsafeStr
import Derived.Test.YtemfflhgbgdmjaaChecked
import Derived.WalkKit
import Derived.ProofKit
import Derived.Outline
import Derived.WalkLawsBesides
import Derived.WalkSpells
import Derived.Lib.Hide
import Derived.Lib.SlBytesConst
import Derived.Test.YtemfflhgbgdmjaaM2
import Derived.Test.YtemfflhgbgdmjaaM13
import Derived.Test.YtemfflhgbgdmjaaM15
set_option linter.unusedVariables false
set_option linter.unusedSimpArgs false
namespace Go.Proofs.Ytemfflhgbgdmjaa.Bd
open Go.RowKit Kd
set_option linter.unusedVariables false

/-- every block that is neither bytes' nor a builder's is as it was -/
def Keeps (w w' : World) : Prop := ∀ (k : Nat) (c : Array Value) (t : TypeId) (fr : Nat × Nat), w.heap[k]? = some (.cells c t fr) → t ≠ 5 → t ≠ 39 → w'.heap[k]? = some (.cells c t fr)
theorem Keeps.refl (w : World) : Keeps w w := fun _ _ _ _ h _ _ => h
theorem Keeps.trans {w w' w2 : World} (h : Keeps w w') (k : Keeps w' w2) : Keeps w w2 := fun i c t fr hi h1 h2 => k i c t fr (h i c t fr hi h1 h2) h1 h2
theorem Keeps.of_below {w w' : World} {C : Nat} (h : Below C w w') (hC : w.heap.size ≤ C) : Keeps w w' := fun i c t fr hi _ _ => (h.block i (by have := heap_lt hi; omega)).trans hi
theorem Keeps.drewN {w w' : World} (h : Keeps w w') (n : Nat) : Keeps w (w'.drewN n) := h
theorem Keeps.setCell {w w' : World} (h : Keeps w w') {b : Nat} {c : Array Value} {t : TypeId} {fr : Nat × Nat} (hb : w'.heap[b]? = some (.cells c t fr)) (ht : t = 5 ∨ t = 39) (o : Nat) (u : Value) : Keeps w (w'.setCell ⟨b, o, none⟩ u) := fun i c' t' fr' hi h1 h2 => by
  have h3 := h i c' t' fr' hi h1 h2
  have hne : i ≠ b := heap_ne h3 hb (by rintro rfl; rcases ht with e | e; exact h1 e; exact h2 e)
  exact (Below.heap_setCell w' ⟨b, o, none⟩ u i hne).trans h3
theorem Keeps.grown {w w1 w2 : World} {B n : Nat} {v : Value} {xs : List Value} (h : Keeps w w1) (hown : w1.ownsRow B 5 1 v n xs) (hg : w1.grownBy w2 v.ownBlock) : Keeps w w2 := fun i c t fr hi h1 h2 => by
  have h3 := h i c t fr hi h1 h2
  refine (hg.block i (heap_lt h3) ?_).trans h3
  intro e
  rcases hown.2 with ⟨rfl, _⟩ | ⟨g, cap, cur, rfl, _, hgg, _⟩
  · cases e
  · simp only [Value.ownBlock, Option.some.injEq] at e
    subst e
    rw [hgg] at h3
    injection h3 with h3
    injection h3 with _ h4
    exact h1 h4.symm

/-- a builder that holds l -/
def IsB (B b : Nat) (l : List UInt8) (w : World) : Prop := Lib.IsBuilder 39 5 B b (Lib.byteCells l) w
theorem IsB.fresh (w : World) : IsB w.heap.size w.heap.size [] (w.alloc (.cells #[.pointer none, .slice none 0 0] 39)) := Lib.fresh_isBuilder _ _ w
theorem IsB.below {B b C : Nat} {l : List UInt8} {w w' : World} (h : IsB B b l w) (hb : Below C w w') (hC : w.heap.size ≤ C) : IsB B b l w' := by
  have key : ∀ p, Lib.BuilderAt 39 5 B b p (Lib.byteCells l) w → Lib.BuilderAt 39 5 B b p (Lib.byteCells l) w' := by
    rintro p ⟨h1, v, h2, h3, h4⟩
    exact ⟨h1, v, (hb.block b (by have := heap_lt h2; omega)).trans h2, h3.kept (row := none) ⟨hb.os, hb.tape, hb.output, hb.size, fun k hk _ => hb.block k (by omega)⟩ (by
      rcases h3.2 with ⟨rfl, _⟩ | ⟨g, cap, cur, rfl, _⟩
      · exact .inl rfl
      · exact .inr (by simp [Value.ownBlock])), h4⟩
  rcases h with h | h
  · exact .inl (key _ h)
  · exact .inr (key _ h)
theorem IsB.drewN {B b : Nat} {l : List UInt8} {w : World} (h : IsB B b l w) (n : Nat) : IsB B b l (w.drewN n) := h

theorem check_k (B b : Nat) (bs : List Value) (w : World) (h : Lib.IsBuilder 39 5 B b bs w) :
    Calls Try.prog 31 #[.pointer (some ⟨b, 0, none⟩)] w fun e w' => e = .returned (.tuple #[]) ∧ (Lib.BuilderAt 39 5 B b (.pointer (some ⟨b, 0, none⟩)) bs w' ∧ Below B w w' ∧ Keeps w w') := by
  rcases h with h | h
  · refine (check_fresh b w h.cell0 h.shape h.frozen0).mono fun e w' ⟨he, hw⟩ => ⟨he, hw ▸ h.used _, hw ▸ (Below.refl B w).setCell (p := ⟨b, 0, none⟩) h.1 _, ?_⟩
    subst hw
    obtain ⟨_, v, hb, _⟩ := h
    exact (Keeps.refl w).setCell hb (.inr rfl) 0 _
  · exact (check_used b w h.cell0).mono fun e w' ⟨he, hw⟩ => ⟨he, hw ▸ h, hw ▸ Below.refl B _, hw ▸ Keeps.refl _⟩

set_option maxHeartbeats 2000000 in
set_option maxRecDepth 100000 in
theorem string_k (B b : Nat) (bs : List Value) (s : ByteArray) (w : World) (h : Lib.IsBuilder 39 5 B b bs w) (hlen : bs.length + s.size ≤ 140737488355328) (hBw : B ≤ w.heap.size) :
    Calls Try.prog 25 #[.pointer (some ⟨b, 0, none⟩), .string s] w fun e w' => e = .returned (.tuple #[.int .i64 s.size, .nilIface]) ∧ (Lib.IsBuilder 39 5 B b (bs ++ Lib.strCells s) w' ∧ Below B w w' ∧ Keeps w w') := by
  obtain ⟨i0, hi, hz0, hz1, hz2⟩ := info_parts infoByte
  go_enter Try.func25, Try.ntmps25
  go_wp2_with (go_at_call 31; refine (check_k B b bs _ h).mono ?_)
  rintro e w1 ⟨rfl, h1, hb1, hk1⟩
  obtain ⟨hB, v, hbk, hown, hne⟩ := h1
  have c0 : w1.cell? ⟨b, 0, none⟩ = some (.pointer (some ⟨b, 0, none⟩)) := by rw [Lib.cell_of_heap hbk]; rfl
  have c1 : w1.cell? ⟨b, 1, none⟩ = some v := by rw [Lib.cell_of_heap hbk]; rfl
  go_wp2_with (at_builtin; refine Lib.wpList_append_own_string _ rfl _ _ 37 9 rfl B 5 i0 Try.underlying37 Try.underlying9 hi hz0 hz1 hz2 _ _ _ rfl hown s rfl ?c3 ?c4 ?c5 ?_)
  case c3 => unfold maxLen; omega
  case c4 => omega
  case c5 => have := hb1.size; omega
  intro v' w2 hown' hgrow _
  have hlt : b < w1.heap.size := heap_lt hbk
  have hb2 : w2.heap[b]? = some (.cells #[.pointer (some ⟨b, 0, none⟩), v] 39 (0, 0)) := by
    rw [hgrow.block b hlt (fun e => hne e.symm)]
    exact hbk
  have hk2 := hk1.grown hown hgrow
  have d0 : w2.cell? ⟨b, 0, none⟩ = some (.pointer (some ⟨b, 0, none⟩)) := by rw [Lib.cell_of_heap hb2]; rfl
  have d1 : w2.cell? ⟨b, 1, none⟩ = some v := by rw [Lib.cell_of_heap hb2]; rfl
  have f1 : w2.frozen? ⟨b, 1, none⟩ = false := Lib.frozen_of_heap hb2 1
  obtain ⟨ao, n', cap, rfl⟩ : ∃ ao n' cap, v' = .slice ao n' cap := by
    rcases hown'.2 with ⟨hv, _⟩ | ⟨g, cap, cur, hv, _⟩
    · exact ⟨_, _, _, hv⟩
    · exact ⟨_, _, _, hv⟩
  have HK2 := Lib.hid hk2
  clear hk1 hk2
  go_wp2
  go_ret2
  refine ⟨rfl, ?_, ?_, ?_⟩
  · exact Or.inr (Lib.BuilderAt.put (T := 39) (e := 5) hB hb2 (bs' := bs ++ Lib.strCells s) (by simpa [Lib.strCells_length] using hown') (by decide))
  · exact (hb1.grown hgrow (by have := hb1.size; omega) (fun k hk => (hown.lt k hk).1)).setCell (p := ⟨b, 1, none⟩) hB _
  · exact HK2.out.setCell hb2 (.inr rfl) 1 _

/-- written: what a call that writes x behind l leaves -/
def Wrote (B b : Nat) (l : List UInt8) (w w' : World) : Prop := IsB B b l w' ∧ Below B w w' ∧ Keeps w w'
theorem Wrote.trans {B b : Nat} {l m : List UInt8} {w w' w2 : World} (h : Wrote B b l w w') (k : Wrote B b m w' w2) : Wrote B b m w w2 := ⟨k.1, h.2.1.trans k.2.1, h.2.2.trans k.2.2⟩
theorem Wrote.on {B b C : Nat} {l : List UInt8} {w w' w2 : World} (h : Wrote B b l w w') (hb : Below C w' w2) (hC : w'.heap.size ≤ C) (hB : B ≤ w'.heap.size) : Wrote B b l w w2 := ⟨h.1.below hb hC, h.2.1.trans (hb.mono (by omega)), h.2.2.trans (Keeps.of_below hb hC)⟩
theorem Wrote.start {B b : Nat} {l : List UInt8} {w : World} (h : IsB B b l w) : Wrote B b l w w := ⟨h, Below.refl _ _, Keeps.refl _⟩
theorem Wrote.alloc {B b : Nat} {l : List UInt8} {w w' : World} (h : Wrote B b l w w') (hB : B ≤ w'.heap.size) (o : Obj) : Wrote B b l w (w'.alloc o) := h.on ((Below.refl w'.heap.size w').alloc (Nat.le_refl _) o) (Nat.le_refl _) hB
theorem Wrote.drewN {B b : Nat} {l : List UInt8} {w w' : World} (h : Wrote B b l w w') (n : Nat) : Wrote B b l w (w'.drewN n) := ⟨h.1, Below_drewN h.2.1 n, h.2.2⟩
theorem Wrote.size {B b : Nat} {l : List UInt8} {w w' : World} (h : Wrote B b l w w') : w.heap.size ≤ w'.heap.size := h.2.1.size
/-- WriteString, from a world on in which the builder held what it held -/
theorem write_any (B b : Nat) (l : List UInt8) (s : ByteArray) (w0 w : World) (h : Wrote B b l w0 w) (hlen : l.length + s.size ≤ 140737488355328) (hBw : B ≤ w.heap.size) :
    Calls Try.prog 25 #[.pointer (some ⟨b, 0, none⟩), .string s] w fun e w' => e = .returned (.tuple #[.int .i64 s.size, .nilIface]) ∧ Wrote B b (l ++ s.data.toList) w0 w' ∧ Keeps w w' ∧ w.heap.size ≤ w'.heap.size := by
  refine (string_k B b _ s w h.1 (by rw [Lib.byteCells_length]; exact hlen) hBw).mono ?_
  rintro e w' ⟨rfl, h1, h2, h3⟩
  refine ⟨rfl, h.trans ⟨?_, h2, h3⟩, h3, h2.size⟩
  unfold IsB
  rw [Lib.byteCells_append]
  exact h1
theorem read_any (B b : Nat) (l : List UInt8) (w : World) (h : IsB B b l w) (hBw : B ≤ w.heap.size) :
    Calls Try.prog 17 #[.pointer (some ⟨b, 0, none⟩)] w fun e w' => e = .returned (.string ⟨l.toArray⟩) ∧ Below B w w' := text_any B b l w h hBw
end Go.Proofs.Ytemfflhgbgdmjaa.Bd

/- What esc.instead, esc.first, placketref01.sign answer, for every byte and every text. -/
namespace Go.Proofs.Ytemfflhgbgdmjaa.P2
open Go.RowKit

theorem ret_str {a b : ByteArray} (h : a = b) : Ending.returned (.string a) = .returned (.string b) := by rw [h]
theorem num_ne {c k : UInt8} (h : ¬ c = k) : ((c.toNat : Int) == (k.toNat : Int)) = false := by
  simp only [beq_eq_false_iff_ne, ne_eq]
  intro e
  exact h (UInt8.toNat_inj.1 (by omega))

theorem instead_any (c : UInt8) (w : World) : Calls Try.prog 32 #[.int .u8 (c.toNat : Int)] w fun e w' => e = .returned (.string (insB c)) ∧ w = w' := by
  by_cases h1 : c = 38
  · subst h1
    go_enter Try.func32, Try.ntmps32
    go_wp2_with fail
    go_ret
    exact ⟨rfl, rfl⟩
  · by_cases h2 : c = 60
    · subst h2
      go_enter Try.func32, Try.ntmps32
      go_wp2_with fail
      go_ret
      exact ⟨rfl, rfl⟩
    · by_cases h3 : c = 62
      · subst h3
        go_enter Try.func32, Try.ntmps32
        go_wp2_with fail
        go_ret
        exact ⟨rfl, rfl⟩
      · by_cases h4 : c = 34
        · subst h4
          go_enter Try.func32, Try.ntmps32
          go_wp2_with fail
          go_ret
          exact ⟨rfl, rfl⟩
        · have e1 : ((c.toNat : Int) == 38) = false := num_ne h1
          have e2 : ((c.toNat : Int) == 60) = false := num_ne h2
          have e3 : ((c.toNat : Int) == 62) = false := num_ne h3
          have e4 : ((c.toNat : Int) == 34) = false := num_ne h4
          go_enter Try.func32, Try.ntmps32
          go_wp2_with fail
          go_ret
          exact ⟨ret_str (by simp [insB, insL, h1, h2, h3, h4]), rfl⟩

theorem conv1 (c : UInt8) (w : World) : (convert 37 9 (.slice (some ⟨w.heap.size, 0, none⟩) 1 1)).run Try.prog (w.alloc (.cells #[.int .u8 (c.toNat : Int)] 5)) = .ok (.string ⟨#[c]⟩) (w.alloc (.cells #[.int .u8 (c.toNat : Int)] 5)) := by
  refine (run_convert_bytes_back (P := Try.prog) _ 37 9 5 ⟨w.heap.size, 0, none⟩ 1 [c] Try.underlying37 Try.underlying5 Try.underlying9 ?_).trans rfl
  intro j hj
  simp only [List.length_cons, List.length_nil] at hj
  obtain rfl : j = 0 := by omega
  simp [Addr.add]

theorem sign_any (c : UInt8) (w : World) : Calls Try.prog 29 #[.int .u8 (c.toNat : Int)] w fun e w' => e = .returned (.string (signB c)) ∧ Below w.heap.size w w' := by
  by_cases h1 : c = 38
  · subst h1
    go_enter Try.func29, Try.ntmps29
    go_wp2_with fail
    go_ret
    exact ⟨rfl, Below.refl _ _⟩
  · by_cases h2 : c = 60
    · subst h2
      go_enter Try.func29, Try.ntmps29
      go_wp2_with fail
      go_ret
      exact ⟨rfl, Below.refl _ _⟩
    · by_cases h3 : c = 62
      · subst h3
        go_enter Try.func29, Try.ntmps29
        go_wp2_with fail
        go_ret
        exact ⟨rfl, Below.refl _ _⟩
      · by_cases h4 : c = 34
        · subst h4
          go_enter Try.func29, Try.ntmps29
          go_wp2_with fail
          go_ret
          exact ⟨rfl, Below.refl _ _⟩
        · have e1 : ((c.toNat : Int) == 38) = false := num_ne h1
          have e2 : ((c.toNat : Int) == 60) = false := num_ne h2
          have e3 : ((c.toNat : Int) == 62) = false := num_ne h3
          have e4 : ((c.toNat : Int) == 34) = false := num_ne h4
          have hw := conv1 c w
          go_enter Try.func29, Try.ntmps29
          go_wp2_with fail
          go_ret
          exact ⟨ret_str (by simp [signB, signL, isSign, h1, h2, h3, h4]), (Below.refl _ _).alloc (Nat.le_refl _) _⟩

theorem instead_n {n : Int} (c : UInt8) (w : World) (h : n = (c.toNat : Int)) : Calls Try.prog 32 #[.int .u8 n] w fun e w' => e = .returned (.string (insB c)) ∧ w = w' := by
  rw [h]; exact instead_any c w
theorem insB_no {c : UInt8} (h : isSign c = false) : insB c = ByteArray.empty := by
  have h38 : ¬ c = 38 := by rintro rfl; cases h
  have h60 : ¬ c = 60 := by rintro rfl; cases h
  have h62 : ¬ c = 62 := by rintro rfl; cases h
  have h34 : ¬ c = 34 := by rintro rfl; cases h
  simp [insB, insL, h38, h60, h62, h34]; rfl
theorem instead_no (c : UInt8) (w : World) (h : isSign c = false) : Calls Try.prog 32 #[.int .u8 (c.toNat : Int)] w fun e w' => e = .returned (.string ByteArray.empty) ∧ w = w' := by
  rw [← insB_no h]; exact instead_any c w
theorem insB_yes {c : UInt8} (h : isSign c = true) : (insB c).toList.isEmpty = false := by
  rw [ByteArray.toList_eq]
  rcases isSign_cases h with rfl | rfl | rfl | rfl <;> rfl
theorem insB_sign {c : UInt8} (h : isSign c = true) : (insB c).data.toList = signL c := by
  simp [insB, signL, h]

def sgn : Nat → UInt8
  | 0 => 38
  | 1 => 60
  | 2 => 62
  | _ => 34
/-- none of the signs ahead of place k has its form in front -/
def NoTo (l : List UInt8) (k : Nat) : Prop := ∀ j, j < k → Lib.hasPrefix l (signL (sgn j)) = false
theorem NoTo.next {l : List UInt8} {k : Nat} (h : NoTo l k) (hk : Lib.hasPrefix l (signL (sgn k)) = false) : NoTo l (k + 1) := by
  intro j hj
  by_cases e : j = k
  · subst e; exact hk
  · exact h j (by omega)
theorem NoTo.none {l : List UInt8} {c : UInt8} (h : NoTo l 4) (h0 : l.head? = some c) (hc : isSign c = true) : headL l = none := by
  cases l with
  | nil => rfl
  | cons a r =>
    cases h0
    have e0 := h 0 (by omega)
    have e1 := h 1 (by omega)
    have e2 := h 2 (by omega)
    have e3 := h 3 (by omega)
    simp only [sgn] at e0 e1 e2 e3
    simp [headL, hc, e0, e1, e2, e3]
theorem head_at (s : ByteArray) (h : 0 < s.size) : s.data.toList.head? = some s[0] := by
  rw [List.head?_eq_getElem?, List.getElem?_eq_getElem (by simpa using h)]; rfl
theorem headL_no {l : List UInt8} {c : UInt8} (h0 : l.head? = some c) (hc : isSign c = false) : headL l = some (c, 1) := by
  cases l with
  | nil => cases h0
  | cons a r => cases h0; simp [headL, hc]
theorem ret_two {a b : Int} {c d : Int} (h : a = b) (h2 : c = d) : Ending.returned (.tuple #[.int .u8 a, .int .i64 c]) = .returned (.tuple #[.int .u8 b, .int .i64 d]) := by rw [h, h2]

end Go.Proofs.Ytemfflhgbgdmjaa.P2

/- What esc.Put and placketref01.Put answer, for every text that isn't too long. -/
namespace Go.Proofs.Ytemfflhgbgdmjaa.P2
open Go.RowKit

theorem putB_size (s : ByteArray) : (putB s).size ≤ 6 * s.size := by
  have := putL_len s.data.toList
  show (putL s.data.toList).toArray.size ≤ _
  simpa using this

set_option maxHeartbeats 1000000 in
theorem put_any (s : ByteArray) (w : World) (hs : s.size ≤ 100000) : Calls Try.prog 26 #[.string s] w fun e w' => e = .returned (.string (putB s)) ∧ Below w.heap.size w w' := by
  go_enter Try.func26, Try.ntmps26
  go_wp2_with fail
  go_loopw [4] (fun i wr => ∃ k : Nat, k ≤ s.size ∧ i = .int .i64 k ∧ Hid (Lib.IsBuilder 39 5 w.heap.size w.heap.size (Lib.byteCells (putL (s.data.toList.take k))) wr) ∧ Hid (Below w.heap.size w wr)) (fun i _ => s.size - (intOf i).toNat)
  case atStart => exact ⟨0, by omega, rfl, Lib.hid (Lib.fresh_isBuilder 39 5 w), Lib.hid ((Below.refl _ _).alloc (Nat.le_refl _) _)⟩
  case round =>
    obtain ⟨k, hk, rfl, HB, HW⟩ := hrel
    have hBw : w.heap.size ≤ wr.heap.size := HW.out.size
    have hl : (Lib.byteCells (putL (s.data.toList.take k))).length ≤ 600000 := by
      rw [Lib.byteCells_length]
      have := putL_len (s.data.toList.take k)
      have := List.length_take_le k s.data.toList
      omega
    by_cases hlt : k < s.size
    · have HS := Lib.hid (putL_snoc s k hlt)
      cases hc : isSign s[k]
      · have HC := Lib.hid hc
        clear hc
        go_wp2_with fail
        refine (instead_no _ _ HC.out).mono ?_
        rintro e w' ⟨rfl, rfl⟩
        go_wp2_with fail
        refine (Bd.byte_any w.heap.size w.heap.size _ (s[k].toNat : Int) _ HB.out (by omega) hBw).mono ?_
        rintro e w2 ⟨rfl, h2, b2⟩
        have H2 := Lib.hid h2
        have B2 := Lib.hid b2
        clear h2 b2
        go_wp2_with fail
        go_roundw
        case rel => exact ⟨k + 1, by omega, by go_num, Lib.hid (by rw [HS.out, signL_no HC.out, Lib.byteCells_append]; exact H2.out), Lib.hid (HW.out.trans B2.out)⟩
        case measure => simp [intOf]; omega
      · have hE := insB_yes hc
        have hE2 : ¬ (insB s[k]).toList = [] := by intro e; rw [e] at hE; cases hE
        have hsz : (insB s[k]).size ≤ 6 := by
          have h1 := (signL_len s[k]).2
          have h2 := congrArg List.length (insB_sign hc)
          rw [← h2] at h1
          simpa using h1
        have HC := Lib.hid hc
        clear hc
        go_wp2_with fail
        refine (instead_any _ _).mono ?_
        rintro e w' ⟨rfl, rfl⟩
        go_wp2_with fail
        refine (Bd.string_any w.heap.size w.heap.size _ (insB s[k]) _ HB.out (by omega) hBw).mono ?_
        rintro e w2 ⟨rfl, h2, b2⟩
        have H2 := Lib.hid h2
        have B2 := Lib.hid b2
        clear h2 b2
        go_wp2_with fail
        go_roundw
        case rel => exact ⟨k + 1, by omega, by go_num, Lib.hid (by rw [HS.out, Lib.byteCells_append, ← insB_sign HC.out]; exact H2.out), Lib.hid (HW.out.trans B2.out)⟩
        case measure => simp [intOf]; omega
    · obtain rfl : k = s.size := by omega
      have e : s.data.toList.take s.size = s.data.toList := List.take_of_length_le (by simp)
      have HE := Lib.hid e
      clear e
      go_wp2_with fail
      refine (Bd.text_any w.heap.size w.heap.size _ _ HB.out hBw).mono ?_
      rintro e w2 ⟨rfl, b2⟩
      go_wp2_with fail
      go_ret
      exact ⟨ret_str (by rw [HE.out]; rfl), HW.out.trans b2⟩

theorem str_append (a b : List UInt8) : (⟨a.toArray⟩ ++ ⟨b.toArray⟩ : ByteArray) = ⟨(a ++ b).toArray⟩ := by
  apply ByteArray.ext
  simp
set_option maxHeartbeats 1000000 in
theorem rput_any (s : ByteArray) (w : World) (hs : s.size ≤ 100000) : Calls Try.prog 18 #[.string s] w fun e w' => e = .returned (.string (putB s)) ∧ Below w.heap.size w w' := by
  go_enter Try.func18, Try.ntmps18
  go_wp2_with fail
  go_loopw [3, 4] (fun o i wr => ∃ k : Nat, k ≤ s.size ∧ i = .int .i64 k ∧ (∃ t : ByteArray, o = .string t ∧ t.size ≤ 6 * k ∧ Hid (t = ⟨(putL (s.data.toList.take k)).toArray⟩)) ∧ Hid (Below w.heap.size w wr)) (fun _ i _ => s.size - (intOf i).toNat)
  case atStart => exact ⟨0, by omega, rfl, ⟨_, rfl, by decide, Lib.hid rfl⟩, Lib.hid (Below.refl _ _)⟩
  case round =>
    obtain ⟨k, hk, rfl, ⟨t, rfl, ht, HT⟩, HW⟩ := hrel
    by_cases hlt : k < s.size
    · have HS := Lib.hid (putL_snoc s k hlt)
      have hz : (signB s[k]).size ≤ 6 := by
        have := (signL_len s[k]).2
        show (signL s[k]).toArray.size ≤ 6
        simpa using this
      go_wp2_with fail
      refine (sign_any _ _).mono ?_
      rintro e w2 ⟨rfl, b2⟩
      have B2 := Lib.hid b2
      clear b2
      go_wp2_with fail
      go_roundw
      case rel => exact ⟨k + 1, by omega, by go_num, ⟨_, rfl, by rw [ByteArray.size_append]; omega, Lib.hid (by rw [HS.out, HT.out]; exact str_append _ _)⟩, Lib.hid (HW.out.trans (B2.out.mono HW.out.size))⟩
      case measure => simp [intOf]; omega
    · obtain rfl : k = s.size := by omega
      have e : s.data.toList.take s.size = s.data.toList := List.take_of_length_le (by simp)
      have HE := Lib.hid e
      clear e
      go_wp2_with fail
      go_ret
      exact ⟨ret_str (by rw [HT.out, HE.out]; rfl), HW.out⟩
end Go.Proofs.Ytemfflhgbgdmjaa.P2
