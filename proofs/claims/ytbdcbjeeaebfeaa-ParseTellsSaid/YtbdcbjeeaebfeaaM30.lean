/- What WriteString does at a builder that lies among other blocks: it turns the builder's block and its bytes alone. No condition but those stated. -/
import Derived.Lib.UnsafeStr
import Derived.Deep.Cut
import Derived.Test.YtbdcbjeeaebfeaaM2
import Derived.Test.YtbdcbjeeaebfeaaM10
import Derived.Test.YtbdcbjeeaebfeaaM15
import Derived.Test.YtbdcbjeeaebfeaaM20
import Derived.Test.YtbdcbjeeaebfeaaM22
set_option linter.unusedVariables false
set_option linter.unusedSimpArgs false
namespace Go.Proofs.Ytbdcbjeeaebfeaa.Bd
open Go.RowKit Kd
set_option linter.unusedVariables false

/-- every block that is neither bytes' nor a builder's is as it was -/
def Keeps (w w' : World) : Prop := ∀ (k : Nat) (c : Array Value) (t : TypeId) (fr : Nat × Nat), w.heap[k]? = some (.cells c t fr) → t ≠ 5 → t ≠ 51 → w'.heap[k]? = some (.cells c t fr)
theorem Keeps.refl (w : World) : Keeps w w := fun _ _ _ _ h _ _ => h
theorem Keeps.trans {w w' w2 : World} (h : Keeps w w') (k : Keeps w' w2) : Keeps w w2 := fun i c t fr hi h1 h2 => k i c t fr (h i c t fr hi h1 h2) h1 h2
theorem Keeps.of_below {w w' : World} {C : Nat} (h : Below C w w') (hC : w.heap.size ≤ C) : Keeps w w' := fun i c t fr hi _ _ => (h.block i (by have := heap_lt hi; omega)).trans hi
theorem Keeps.drewN {w w' : World} (h : Keeps w w') (n : Nat) : Keeps w (w'.drewN n) := h
theorem Keeps.setCell {w w' : World} (h : Keeps w w') {b : Nat} {c : Array Value} {t : TypeId} {fr : Nat × Nat} (hb : w'.heap[b]? = some (.cells c t fr)) (ht : t = 5 ∨ t = 51) (o : Nat) (u : Value) : Keeps w (w'.setCell ⟨b, o, none⟩ u) := fun i c' t' fr' hi h1 h2 => by
  have h3 := h i c' t' fr' hi h1 h2
  have hne : i ≠ b := heap_ne h3 hb (by rintro rfl; rcases ht with e | e; exact h1 e; exact h2 e)
  exact (Below.heap_setCell w' ⟨b, o, none⟩ u i hne).trans h3
theorem Keeps.grown {w w1 w2 : World} {B n : Nat} {v : Value} {xs : List Value} (h : Keeps w w1) (hown : w1.ownsRow B 5 1 v n xs) (hg : w1.grownBy w2 v.ownBlock) : Keeps w w2 := fun i c t fr hi h1 h2 => by
  have h3 := h i c t fr hi h1 h2
  refine (hg.block i (heap_lt h3) ?_).trans h3
  intro e
  rcases hown.2 with ⟨rfl, _⟩ | ⟨g, cap, cur, rfl, _, hgg, _⟩
  · cases e
  · simp only [Value.ownBlock, Option.some.injEq] at e
    subst e
    rw [hgg] at h3
    injection h3 with h3
    injection h3 with _ h4
    exact h1 h4.symm

/-- a builder that holds l -/
def IsB (B b : Nat) (l : List UInt8) (w : World) : Prop := Lib.IsBuilder 51 5 B b (Lib.byteCells l) w
theorem IsB.fresh (w : World) : IsB w.heap.size w.heap.size [] (w.alloc (.cells #[.pointer none, .slice none 0 0] 51)) := Lib.fresh_isBuilder _ _ w
theorem IsB.below {B b C : Nat} {l : List UInt8} {w w' : World} (h : IsB B b l w) (hb : Below C w w') (hC : w.heap.size ≤ C) : IsB B b l w' := by
  have key : ∀ p, Lib.BuilderAt 51 5 B b p (Lib.byteCells l) w → Lib.BuilderAt 51 5 B b p (Lib.byteCells l) w' := by
    rintro p ⟨h1, v, h2, h3, h4⟩
    exact ⟨h1, v, (hb.block b (by have := heap_lt h2; omega)).trans h2, h3.kept (row := none) ⟨hb.os, hb.tape, hb.output, hb.size, fun k hk _ => hb.block k (by omega)⟩ (by
      rcases h3.2 with ⟨rfl, _⟩ | ⟨g, cap, cur, rfl, _⟩
      · exact .inl rfl
      · exact .inr (by simp [Value.ownBlock])), h4⟩
  rcases h with h | h
  · exact .inl (key _ h)
  · exact .inr (key _ h)
theorem IsB.drewN {B b : Nat} {l : List UInt8} {w : World} (h : IsB B b l w) (n : Nat) : IsB B b l (w.drewN n) := h

theorem check_k (B b : Nat) (bs : List Value) (w : World) (h : Lib.IsBuilder 51 5 B b bs w) :
    Calls Try.prog 60 #[.pointer (some ⟨b, 0, none⟩)] w fun e w' => e = .returned (.tuple #[]) ∧ (Lib.BuilderAt 51 5 B b (.pointer (some ⟨b, 0, none⟩)) bs w' ∧ Below B w w' ∧ Keeps w w') := by
  rcases h with h | h
  · refine (check_fresh b w h.cell0 h.shape h.frozen0).mono fun e w' ⟨he, hw⟩ => ⟨he, hw ▸ h.used _, hw ▸ (Below.refl B w).setCell (p := ⟨b, 0, none⟩) h.1 _, ?_⟩
    subst hw
    obtain ⟨_, v, hb, _⟩ := h
    exact (Keeps.refl w).setCell hb (.inr rfl) 0 _
  · exact (check_used b w h.cell0).mono fun e w' ⟨he, hw⟩ => ⟨he, hw ▸ h, hw ▸ Below.refl B _, hw ▸ Keeps.refl _⟩

set_option maxHeartbeats 2000000 in
set_option maxRecDepth 100000 in
theorem string_k (B b : Nat) (bs : List Value) (s : ByteArray) (w : World) (h : Lib.IsBuilder 51 5 B b bs w) (hlen : bs.length + s.size ≤ 140737488355328) (hBw : B ≤ w.heap.size) :
    Calls Try.prog 50 #[.pointer (some ⟨b, 0, none⟩), .string s] w fun e w' => e = .returned (.tuple #[.int .i64 s.size, .nilIface]) ∧ (Lib.IsBuilder 51 5 B b (bs ++ Lib.strCells s) w' ∧ Below B w w' ∧ Keeps w w') := by
  obtain ⟨i0, hi, hz0, hz1, hz2⟩ := info_parts infoByte
  go_enter Try.func50, Try.ntmps50
  go_wp2_with (go_at_call 60; refine (check_k B b bs _ h).mono ?_)
  rintro e w1 ⟨rfl, h1, hb1, hk1⟩
  obtain ⟨hB, v, hbk, hown, hne⟩ := h1
  have c0 : w1.cell? ⟨b, 0, none⟩ = some (.pointer (some ⟨b, 0, none⟩)) := by rw [Lib.cell_of_heap hbk]; rfl
  have c1 : w1.cell? ⟨b, 1, none⟩ = some v := by rw [Lib.cell_of_heap hbk]; rfl
  go_wp2_with (at_builtin; refine Lib.wpList_append_own_string _ rfl _ _ 49 9 rfl B 5 i0 Try.underlying49 Try.underlying9 hi hz0 hz1 hz2 _ _ _ rfl hown s rfl ?c3 ?c4 ?c5 ?_)
  case c3 => unfold maxLen; omega
  case c4 => omega
  case c5 => have := hb1.size; omega
  intro v' w2 hown' hgrow _
  have hlt : b < w1.heap.size := heap_lt hbk
  have hb2 : w2.heap[b]? = some (.cells #[.pointer (some ⟨b, 0, none⟩), v] 51 (0, 0)) := by
    rw [hgrow.block b hlt (fun e => hne e.symm)]
    exact hbk
  have hk2 := hk1.grown hown hgrow
  have d0 : w2.cell? ⟨b, 0, none⟩ = some (.pointer (some ⟨b, 0, none⟩)) := by rw [Lib.cell_of_heap hb2]; rfl
  have d1 : w2.cell? ⟨b, 1, none⟩ = some v := by rw [Lib.cell_of_heap hb2]; rfl
  have f1 : w2.frozen? ⟨b, 1, none⟩ = false := Lib.frozen_of_heap hb2 1
  obtain ⟨ao, n', cap, rfl⟩ : ∃ ao n' cap, v' = .slice ao n' cap := by
    rcases hown'.2 with ⟨hv, _⟩ | ⟨g, cap, cur, hv, _⟩
    · exact ⟨_, _, _, hv⟩
    · exact ⟨_, _, _, hv⟩
  have HK2 := Lib.hid hk2
  clear hk1 hk2
  go_wp2
  go_ret2
  refine ⟨rfl, ?_, ?_, ?_⟩
  · exact Or.inr (Lib.BuilderAt.put (T := 51) (e := 5) hB hb2 (bs' := bs ++ Lib.strCells s) (by simpa [Lib.strCells_length] using hown') (by decide))
  · exact (hb1.grown hgrow (by have := hb1.size; omega) (fun k hk => (hown.lt k hk).1)).setCell (p := ⟨b, 1, none⟩) hB _
  · exact HK2.out.setCell hb2 (.inr rfl) 1 _

/-- written: what a call that writes x behind l leaves -/
def Wrote (B b : Nat) (l : List UInt8) (w w' : World) : Prop := IsB B b l w' ∧ Below B w w' ∧ Keeps w w'
theorem Wrote.trans {B b : Nat} {l m : List UInt8} {w w' w2 : World} (h : Wrote B b l w w') (k : Wrote B b m w' w2) : Wrote B b m w w2 := ⟨k.1, h.2.1.trans k.2.1, h.2.2.trans k.2.2⟩
theorem Wrote.on {B b C : Nat} {l : List UInt8} {w w' w2 : World} (h : Wrote B b l w w') (hb : Below C w' w2) (hC : w'.heap.size ≤ C) (hB : B ≤ w'.heap.size) : Wrote B b l w w2 := ⟨h.1.below hb hC, h.2.1.trans (hb.mono (by omega)), h.2.2.trans (Keeps.of_below hb hC)⟩
theorem Wrote.start {B b : Nat} {l : List UInt8} {w : World} (h : IsB B b l w) : Wrote B b l w w := ⟨h, Below.refl _ _, Keeps.refl _⟩
theorem Wrote.alloc {B b : Nat} {l : List UInt8} {w w' : World} (h : Wrote B b l w w') (hB : B ≤ w'.heap.size) (o : Obj) : Wrote B b l w (w'.alloc o) := h.on ((Below.refl w'.heap.size w').alloc (Nat.le_refl _) o) (Nat.le_refl _) hB
theorem Wrote.drewN {B b : Nat} {l : List UInt8} {w w' : World} (h : Wrote B b l w w') (n : Nat) : Wrote B b l w (w'.drewN n) := ⟨h.1, Below_drewN h.2.1 n, h.2.2⟩
theorem Wrote.size {B b : Nat} {l : List UInt8} {w w' : World} (h : Wrote B b l w w') : w.heap.size ≤ w'.heap.size := h.2.1.size
/-- WriteString, from a world on in which the builder held what it held -/
theorem write_any (B b : Nat) (l : List UInt8) (s : ByteArray) (w0 w : World) (h : Wrote B b l w0 w) (hlen : l.length + s.size ≤ 140737488355328) (hBw : B ≤ w.heap.size) :
    Calls Try.prog 50 #[.pointer (some ⟨b, 0, none⟩), .string s] w fun e w' => e = .returned (.tuple #[.int .i64 s.size, .nilIface]) ∧ Wrote B b (l ++ s.data.toList) w0 w' ∧ Keeps w w' ∧ w.heap.size ≤ w'.heap.size := by
  refine (string_k B b _ s w h.1 (by rw [Lib.byteCells_length]; exact hlen) hBw).mono ?_
  rintro e w' ⟨rfl, h1, h2, h3⟩
  refine ⟨rfl, h.trans ⟨?_, h2, h3⟩, h3, h2.size⟩
  unfold IsB
  rw [Lib.byteCells_append]
  exact h1
theorem read_any (B b : Nat) (l : List UInt8) (w : World) (h : IsB B b l w) (hBw : B ≤ w.heap.size) :
    Calls Try.prog 23 #[.pointer (some ⟨b, 0, none⟩)] w fun e w' => e = .returned (.string ⟨l.toArray⟩) ∧ Below B w w' := text_any B b l w h hBw
end Go.Proofs.Ytbdcbjeeaebfeaa.Bd

/- What package serial answers: each tree's HTML. No condition but those stated. -/
namespace Go.Proofs.Ytbdcbjeeaebfeaa.P9
open Go.RowKit Kd P4 P5 P8

theorem tb_keeps {w w' : World} {s : Nat} {t : TV} (h : TB w s t) (hk : Bd.Keeps w w') : TB w' s t := hk _ _ _ _ h (by decide) (by decide)
theorem blk_keeps {w w' : World} {s : Nat} {a : P3.At} (h : P3.Blk w s a) (hk : Bd.Keeps w w') : P3.Blk w' s a := hk _ _ _ _ h (by decide) (by decide)
theorem wrote_eq {B b : Nat} {l m : List UInt8} {w w' : World} (h : Bd.Wrote B b l w w') (e : l = m) : Bd.Wrote B b m w w' := e ▸ h
theorem str_len (s : ByteArray) : s.data.toList.length = s.size := by simp

set_option maxHeartbeats 2000000 in
theorem open_any (t : TV) (B b : Nat) (l : List UInt8) (w : World) (hb : Bd.IsB B b l w) (hB : B ≤ w.heap.size) (h : TOk w B t) (ht : t.tag.size ≤ 100) (ha : P3.fewA t.attrs = true) (hl : l.length ≤ 2000000000) :
    Calls Try.prog 52 #[.pointer (some ⟨b, 0, none⟩), .agg #[.string t.tag, .string t.txt, .string t.key, .slice t.sa.A t.sa.n t.sa.c, .slice t.sk.A t.sk.n t.sk.c]] w fun e w' => e = .returned (.tuple #[]) ∧ Bd.Wrote B b (l ++ openH t.tag.data.toList t.attrs) w w' := by
  obtain ⟨tag, txt, key, sa, attrs, sk, kids⟩ := t
  obtain ⟨A, n, c⟩ := sa
  obtain ⟨A2, n2, c2⟩ := sk
  have al : attrs.length = n := h.al
  have AH : Hid (kA.Holds w B A attrs) := Lib.hid h.ah
  have AL := Lib.hid al
  have hz : tag.size ≤ 100 := ht
  have hfa : P3.fewA attrs = true := ha
  have HL : Hid ((attrsH attrs).length ≤ 20000) := Lib.hid (attrsH_few hfa)
  have SH : Hid (∀ k (hk : k < attrs.length), P3.shortA attrs[k] = true) := Lib.hid (fun k hk => by
    unfold P3.fewA at hfa
    rw [Bool.and_eq_true, List.all_eq_true] at hfa
    exact hfa.2 _ (List.getElem_mem hk))
  have hn : n ≤ 20 := by unfold P3.fewA at hfa; simp at hfa; omega
  have H1 : Hid (Bd.Wrote B b l w (w.alloc (.cells #[.string tag, .string txt, .string key, .slice A n c, .slice A2 n2 c2] 38))) := Lib.hid ((Bd.Wrote.start hb).alloc hB _)
  have N1 : Hid (TB (w.alloc (.cells #[.string tag, .string txt, .string key, .slice A n c, .slice A2 n2 c2] 38)) w.heap.size (.mk tag txt key ⟨A, n, c⟩ attrs ⟨A2, n2, c2⟩ kids)) := Lib.hid (TB.new w (.mk tag txt key ⟨A, n, c⟩ attrs ⟨A2, n2, c2⟩ kids))
  have ET : Hid (tag.data.toList.length = tag.size) := Lib.hid (str_len tag)
  clear h al ht ha hfa hb
  show Calls Try.prog 52 #[.pointer (some ⟨b, 0, none⟩), .agg #[.string tag, .string txt, .string key, .slice A n c, .slice A2 n2 c2]] w _
  show Calls _ _ _ _ fun e w' => e = .returned (.tuple #[]) ∧ Bd.Wrote B b (l ++ openH tag.data.toList attrs) w w'
  go_enter Try.func52, Try.ntmps52
  go_upto_region 1 with fail
  generalize w.alloc (.cells #[.string tag, .string txt, .string key, .slice A n c, .slice A2 n2 c2] 38) = W at H1 N1 ⊢
  go_wp2_with fail
  refine (Bd.write_any B b l _ w W H1.out (by show _ + 1 ≤ _; omega) (by have := H1.out.size; omega)).mono ?_
  rintro e w1 ⟨rfl, h2, k2, z2⟩
  have H2 := Lib.hid h2
  have N2 := Lib.hid (tb_keeps N1.out k2)
  clear h2 k2 z2
  have a0 : w1.cell? ⟨w.heap.size, 0, none⟩ = some (.string tag) := N2.out.c0
  go_wp2_with fail
  refine (Bd.write_any B b _ tag w w1 H2.out (by rw [List.length_append]; show _ + 1 + _ ≤ _; omega) (by have := H2.out.size; omega)).mono ?_
  rintro e w2 ⟨rfl, h3, k3, z3⟩
  have H3 : Hid (Bd.Wrote B b (l ++ 60 :: tag.data.toList) w w2) := Lib.hid (wrote_eq h3 (by simp))
  have N3 := Lib.hid (tb_keeps N2.out k3)
  clear h3 k3 z3 a0
  have a3 : w2.cell? ⟨w.heap.size, 3, none⟩ = some (.slice A n c) := N3.out.c3
  go_wp2_with fail
  go_loopw [15] (fun s wr => ∃ (k : Nat), k ≤ n ∧ s = .int .i64 k ∧ Hid (Bd.Wrote B b (l ++ 60 :: (tag.data.toList ++ attrsH (attrs.take k))) w wr)) (fun s _ => n - (intOf s).toNat)
  case atStart => exact ⟨0, by omega, rfl, Lib.hid (wrote_eq H3.out (by simp [attrsH]))⟩
  case round =>
    obtain ⟨k, hk, rfl, HW⟩ := hrel
    have hBr : B ≤ wr.heap.size := by have := HW.out.size; omega
    have LN : Hid ((l ++ 60 :: (tag.data.toList ++ attrsH (attrs.take k))).length ≤ 2000030000) := Lib.hid (by
      have h1 := attrsH_take_le attrs k
      have h2 := HL.out
      have h3 := ET.out
      simp only [List.length_append, List.length_cons]
      omega)
    by_cases hkn : k < n
    · have hkl : k < attrs.length := by have := AL.out; omega
      obtain ⟨b', o, rfl, hb', h0, h1, h2⟩ := (p3holds (AH.out.below HW.out.2.1 (Nat.le_refl _))) k hkl
      have SN : Hid (attrsH (attrs.take (k + 1)) = attrsH (attrs.take k) ++ attrH attrs[k]) := Lib.hid (attrsH_snoc hkl)
      have hsh : attrs[k].nm.size ≤ 100 ∧ attrs[k].vl.size ≤ 100 := by
        have := SH.out k hkl
        unfold P3.shortA at this
        simpa using this
      generalize attrs[k] = a at h0 h1 h2 SN hsh
      obtain ⟨ha1, ha2⟩ := hsh
      go_upto_region 6 with fail
      have K1 : Hid (P3.Blk (wr.alloc (.cells #[.string a.nm, .string a.vl, .bool a.st] 73)) wr.heap.size a) := Lib.hid (P3.Blk.new wr a)
      have V1 : Hid (Bd.Wrote B b (l ++ 60 :: (tag.data.toList ++ attrsH (attrs.take k))) w (wr.alloc (.cells #[.string a.nm, .string a.vl, .bool a.st] 73))) := Lib.hid (HW.out.alloc hBr _)
      have hBw : B ≤ (wr.alloc (.cells #[.string a.nm, .string a.vl, .bool a.st] 73)).heap.size := by simp; omega
      generalize wr.alloc (.cells #[.string a.nm, .string a.vl, .bool a.st] 73) = W1 at K1 V1 hBw ⊢
      clear h0 h1 h2
      generalize hx : l ++ 60 :: (tag.data.toList ++ attrsH (attrs.take k)) = x at V1 LN
      have HX := Lib.hid hx
      clear hx
      have hxl : x.length ≤ 2000030000 := LN.out
      go_wp2_with fail
      refine (Bd.write_any B b x ⟨#[32]⟩ w W1 V1.out (by show _ + 1 ≤ _; omega) hBw).mono ?_
      rintro e w4 ⟨rfl, h5, k5, z5⟩
      have V2 := Lib.hid h5
      have K2 := Lib.hid (blk_keeps K1.out k5)
      have hB2 : B ≤ w4.heap.size := by omega
      clear h5 k5 z5
      have c0 : w4.cell? ⟨wr.heap.size, 0, none⟩ = some (.string a.nm) := K2.out.c0
      go_wp2_with fail
      refine (Bd.write_any B b _ a.nm w w4 V2.out (by rw [List.length_append]; show _ + 1 + _ ≤ _; omega) hB2).mono ?_
      rintro e w5 ⟨rfl, h5, k5, z5⟩
      have V3 := Lib.hid h5
      have K3 := Lib.hid (blk_keeps K2.out k5)
      have hB3 : B ≤ w5.heap.size := by omega
      clear h5 k5 z5 c0
      go_wp2_with fail
      refine (Bd.write_any B b _ ⟨#[61, 34]⟩ w w5 V3.out (by rw [List.length_append, List.length_append, str_len]; show _ + 1 + _ + 2 ≤ _; omega) hB3).mono ?_
      rintro e w6 ⟨rfl, h5, k5, z5⟩
      have V4 := Lib.hid h5
      have K4 := Lib.hid (blk_keeps K3.out k5)
      have hB4 : B ≤ w6.heap.size := by omega
      clear h5 k5 z5
      have c1 : w6.cell? ⟨wr.heap.size, 1, none⟩ = some (.string a.vl) := K4.out.c1
      go_wp2_with fail
      refine (P2.put_any a.vl w6 (by omega)).mono ?_
      rintro e w7 ⟨rfl, b7⟩
      have V5 := Lib.hid (V4.out.on b7 (Nat.le_refl _) hB4)
      have hB5 : B ≤ w7.heap.size := by have := b7.size; omega
      have hps := P2.putB_size a.vl
      clear b7 c1
      go_wp2_with fail
      refine (Bd.write_any B b _ (P2.putB a.vl) w w7 V5.out (by rw [List.length_append, List.length_append, List.length_append, str_len]; show _ + 1 + _ + 2 + _ ≤ _; omega) hB5).mono ?_
      rintro e w8 ⟨rfl, h5, k5, z5⟩
      have V6 := Lib.hid h5
      have hB6 : B ≤ w8.heap.size := by omega
      clear h5 k5 z5
      go_wp2_with fail
      refine (Bd.write_any B b _ ⟨#[34]⟩ w w8 V6.out (by rw [List.length_append, List.length_append, List.length_append, List.length_append, str_len, str_len]; show _ + 1 + _ + 2 + _ + 1 ≤ _; omega) hB6).mono ?_
      rintro e w9 ⟨rfl, h5, k5, z5⟩
      have V7 := Lib.hid h5
      clear h5 k5 z5
      go_wp2_with fail
      go_roundw
      case rel => exact ⟨k + 1, by omega, by go_num, Lib.hid (wrote_eq V7.out (by rw [← HX.out, SN.out]; simp [attrH, P2.putB]))⟩
      case measure => simp [intOf]; omega
    · obtain rfl : k = n := by omega
      have hxl := LN.out
      go_wp2_with fail
      refine (Bd.write_any B b _ ⟨#[62]⟩ w wr HW.out (by show _ + 1 ≤ _; omega) hBr).mono ?_
      rintro e w4 ⟨rfl, h5, k5, z5⟩
      have V2 : Hid (Bd.Wrote B b (l ++ openH tag.data.toList attrs) w w4) := Lib.hid (wrote_eq h5 (by rw [← AL.out, List.take_length]; simp [openH]))
      clear h5 k5 z5
      go_wp2_with fail
      go_end0
      exact ⟨rfl, V2.out⟩
end Go.Proofs.Ytbdcbjeeaebfeaa.P9
