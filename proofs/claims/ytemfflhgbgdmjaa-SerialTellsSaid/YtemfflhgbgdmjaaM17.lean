/- What package serial answers: each tree's HTML. No condition but those stated. -/
import Derived.Deep.Cut
import Derived.Test.YtemfflhgbgdmjaaM10
import Derived.Test.YtemfflhgbgdmjaaM15
import Derived.Test.YtemfflhgbgdmjaaM16
set_option linter.unusedVariables false
set_option linter.unusedSimpArgs false
namespace Go.Proofs.Ytemfflhgbgdmjaa.P9
open Go.RowKit Kd P4 P5 P8

theorem tb_keeps {w w' : World} {s : Nat} {t : TV} (h : TB w s t) (hk : Bd.Keeps w w') : TB w' s t := hk _ _ _ _ h (by decide) (by decide)
theorem blk_keeps {w w' : World} {s : Nat} {a : P3.At} (h : P3.Blk w s a) (hk : Bd.Keeps w w') : P3.Blk w' s a := hk _ _ _ _ h (by decide) (by decide)
theorem wrote_eq {B b : Nat} {l m : List UInt8} {w w' : World} (h : Bd.Wrote B b l w w') (e : l = m) : Bd.Wrote B b m w w' := e ▸ h
theorem str_len (s : ByteArray) : s.data.toList.length = s.size := by simp

set_option maxHeartbeats 2000000 in
theorem open_any (t : TV) (B b : Nat) (l : List UInt8) (w : World) (hb : Bd.IsB B b l w) (hB : B ≤ w.heap.size) (h : TOk w B t) (ht : t.tag.size ≤ 100) (ha : P3.fewA t.attrs = true) (hl : l.length ≤ 2000000000) :
    Calls Try.prog 27 #[.pointer (some ⟨b, 0, none⟩), .agg #[.string t.tag, .string t.txt, .string t.key, .slice t.sa.A t.sa.n t.sa.c, .slice t.sk.A t.sk.n t.sk.c]] w fun e w' => e = .returned (.tuple #[]) ∧ Bd.Wrote B b (l ++ openH t.tag.data.toList t.attrs) w w' := by
  obtain ⟨tag, txt, key, sa, attrs, sk, kids⟩ := t
  obtain ⟨A, n, c⟩ := sa
  obtain ⟨A2, n2, c2⟩ := sk
  have al : attrs.length = n := h.al
  have AH : Hid (kA.Holds w B A attrs) := Lib.hid h.ah
  have AL := Lib.hid al
  have hz : tag.size ≤ 100 := ht
  have hfa : P3.fewA attrs = true := ha
  have HL : Hid ((attrsH attrs).length ≤ 20000) := Lib.hid (attrsH_few hfa)
  have SH : Hid (∀ k (hk : k < attrs.length), P3.shortA attrs[k] = true) := Lib.hid (fun k hk => by
    unfold P3.fewA at hfa
    rw [Bool.and_eq_true, List.all_eq_true] at hfa
    exact hfa.2 _ (List.getElem_mem hk))
  have hn : n ≤ 20 := by unfold P3.fewA at hfa; simp at hfa; omega
  have H1 : Hid (Bd.Wrote B b l w (w.alloc (.cells #[.string tag, .string txt, .string key, .slice A n c, .slice A2 n2 c2] 25))) := Lib.hid ((Bd.Wrote.start hb).alloc hB _)
  have N1 : Hid (TB (w.alloc (.cells #[.string tag, .string txt, .string key, .slice A n c, .slice A2 n2 c2] 25)) w.heap.size (.mk tag txt key ⟨A, n, c⟩ attrs ⟨A2, n2, c2⟩ kids)) := Lib.hid (TB.new w (.mk tag txt key ⟨A, n, c⟩ attrs ⟨A2, n2, c2⟩ kids))
  have ET : Hid (tag.data.toList.length = tag.size) := Lib.hid (str_len tag)
  clear h al ht ha hfa hb
  show Calls Try.prog 27 #[.pointer (some ⟨b, 0, none⟩), .agg #[.string tag, .string txt, .string key, .slice A n c, .slice A2 n2 c2]] w _
  show Calls _ _ _ _ fun e w' => e = .returned (.tuple #[]) ∧ Bd.Wrote B b (l ++ openH tag.data.toList attrs) w w'
  go_enter Try.func27, Try.ntmps27
  go_upto_region 1 with fail
  generalize w.alloc (.cells #[.string tag, .string txt, .string key, .slice A n c, .slice A2 n2 c2] 25) = W at H1 N1 ⊢
  go_wp2_with fail
  refine (Bd.write_any B b l _ w W H1.out (by show _ + 1 ≤ _; omega) (by have := H1.out.size; omega)).mono ?_
  rintro e w1 ⟨rfl, h2, k2, z2⟩
  have H2 := Lib.hid h2
  have N2 := Lib.hid (tb_keeps N1.out k2)
  clear h2 k2 z2
  have a0 : w1.cell? ⟨w.heap.size, 0, none⟩ = some (.string tag) := N2.out.c0
  go_wp2_with fail
  refine (Bd.write_any B b _ tag w w1 H2.out (by rw [List.length_append]; show _ + 1 + _ ≤ _; omega) (by have := H2.out.size; omega)).mono ?_
  rintro e w2 ⟨rfl, h3, k3, z3⟩
  have H3 : Hid (Bd.Wrote B b (l ++ 60 :: tag.data.toList) w w2) := Lib.hid (wrote_eq h3 (by simp))
  have N3 := Lib.hid (tb_keeps N2.out k3)
  clear h3 k3 z3 a0
  have a3 : w2.cell? ⟨w.heap.size, 3, none⟩ = some (.slice A n c) := N3.out.c3
  go_wp2_with fail
  go_loopw [15] (fun s wr => ∃ (k : Nat), k ≤ n ∧ s = .int .i64 k ∧ Hid (Bd.Wrote B b (l ++ 60 :: (tag.data.toList ++ attrsH (attrs.take k))) w wr)) (fun s _ => n - (intOf s).toNat)
  case atStart => exact ⟨0, by omega, rfl, Lib.hid (wrote_eq H3.out (by simp [attrsH]))⟩
  case round =>
    obtain ⟨k, hk, rfl, HW⟩ := hrel
    have hBr : B ≤ wr.heap.size := by have := HW.out.size; omega
    have LN : Hid ((l ++ 60 :: (tag.data.toList ++ attrsH (attrs.take k))).length ≤ 2000030000) := Lib.hid (by
      have h1 := attrsH_take_le attrs k
      have h2 := HL.out
      have h3 := ET.out
      simp only [List.length_append, List.length_cons]
      omega)
    by_cases hkn : k < n
    · have hkl : k < attrs.length := by have := AL.out; omega
      obtain ⟨b', o, rfl, hb', h0, h1, h2⟩ := (p3holds (AH.out.below HW.out.2.1 (Nat.le_refl _))) k hkl
      have SN : Hid (attrsH (attrs.take (k + 1)) = attrsH (attrs.take k) ++ attrH attrs[k]) := Lib.hid (attrsH_snoc hkl)
      have hsh : attrs[k].nm.size ≤ 100 ∧ attrs[k].vl.size ≤ 100 := by
        have := SH.out k hkl
        unfold P3.shortA at this
        simpa using this
      generalize attrs[k] = a at h0 h1 h2 SN hsh
      obtain ⟨ha1, ha2⟩ := hsh
      go_upto_region 6 with fail
      have K1 : Hid (P3.Blk (wr.alloc (.cells #[.string a.nm, .string a.vl, .bool a.st] 44)) wr.heap.size a) := Lib.hid (P3.Blk.new wr a)
      have V1 : Hid (Bd.Wrote B b (l ++ 60 :: (tag.data.toList ++ attrsH (attrs.take k))) w (wr.alloc (.cells #[.string a.nm, .string a.vl, .bool a.st] 44))) := Lib.hid (HW.out.alloc hBr _)
      have hBw : B ≤ (wr.alloc (.cells #[.string a.nm, .string a.vl, .bool a.st] 44)).heap.size := by simp; omega
      generalize wr.alloc (.cells #[.string a.nm, .string a.vl, .bool a.st] 44) = W1 at K1 V1 hBw ⊢
      clear h0 h1 h2
      generalize hx : l ++ 60 :: (tag.data.toList ++ attrsH (attrs.take k)) = x at V1 LN
      have HX := Lib.hid hx
      clear hx
      have hxl : x.length ≤ 2000030000 := LN.out
      go_wp2_with fail
      refine (Bd.write_any B b x ⟨#[32]⟩ w W1 V1.out (by show _ + 1 ≤ _; omega) hBw).mono ?_
      rintro e w4 ⟨rfl, h5, k5, z5⟩
      have V2 := Lib.hid h5
      have K2 := Lib.hid (blk_keeps K1.out k5)
      have hB2 : B ≤ w4.heap.size := by omega
      clear h5 k5 z5
      have c0 : w4.cell? ⟨wr.heap.size, 0, none⟩ = some (.string a.nm) := K2.out.c0
      go_wp2_with fail
      refine (Bd.write_any B b _ a.nm w w4 V2.out (by rw [List.length_append]; show _ + 1 + _ ≤ _; omega) hB2).mono ?_
      rintro e w5 ⟨rfl, h5, k5, z5⟩
      have V3 := Lib.hid h5
      have K3 := Lib.hid (blk_keeps K2.out k5)
      have hB3 : B ≤ w5.heap.size := by omega
      clear h5 k5 z5 c0
      go_wp2_with fail
      refine (Bd.write_any B b _ ⟨#[61, 34]⟩ w w5 V3.out (by rw [List.length_append, List.length_append, str_len]; show _ + 1 + _ + 2 ≤ _; omega) hB3).mono ?_
      rintro e w6 ⟨rfl, h5, k5, z5⟩
      have V4 := Lib.hid h5
      have K4 := Lib.hid (blk_keeps K3.out k5)
      have hB4 : B ≤ w6.heap.size := by omega
      clear h5 k5 z5
      have c1 : w6.cell? ⟨wr.heap.size, 1, none⟩ = some (.string a.vl) := K4.out.c1
      go_wp2_with fail
      refine (P2.put_any a.vl w6 (by omega)).mono ?_
      rintro e w7 ⟨rfl, b7⟩
      have V5 := Lib.hid (V4.out.on b7 (Nat.le_refl _) hB4)
      have hB5 : B ≤ w7.heap.size := by have := b7.size; omega
      have hps := P2.putB_size a.vl
      clear b7 c1
      go_wp2_with fail
      refine (Bd.write_any B b _ (P2.putB a.vl) w w7 V5.out (by rw [List.length_append, List.length_append, List.length_append, str_len]; show _ + 1 + _ + 2 + _ ≤ _; omega) hB5).mono ?_
      rintro e w8 ⟨rfl, h5, k5, z5⟩
      have V6 := Lib.hid h5
      have hB6 : B ≤ w8.heap.size := by omega
      clear h5 k5 z5
      go_wp2_with fail
      refine (Bd.write_any B b _ ⟨#[34]⟩ w w8 V6.out (by rw [List.length_append, List.length_append, List.length_append, List.length_append, str_len, str_len]; show _ + 1 + _ + 2 + _ + 1 ≤ _; omega) hB6).mono ?_
      rintro e w9 ⟨rfl, h5, k5, z5⟩
      have V7 := Lib.hid h5
      clear h5 k5 z5
      go_wp2_with fail
      go_roundw
      case rel => exact ⟨k + 1, by omega, by go_num, Lib.hid (wrote_eq V7.out (by rw [← HX.out, SN.out]; simp [attrH, P2.putB]))⟩
      case measure => simp [intOf]; omega
    · obtain rfl : k = n := by omega
      have hxl := LN.out
      go_wp2_with fail
      refine (Bd.write_any B b _ ⟨#[62]⟩ w wr HW.out (by show _ + 1 ≤ _; omega) hBr).mono ?_
      rintro e w4 ⟨rfl, h5, k5, z5⟩
      have V2 : Hid (Bd.Wrote B b (l ++ openH tag.data.toList attrs) w w4) := Lib.hid (wrote_eq h5 (by rw [← AL.out, List.take_length]; simp [openH]))
      clear h5 k5 z5
      go_wp2_with fail
      go_end0
      exact ⟨rfl, V2.out⟩
end Go.Proofs.Ytemfflhgbgdmjaa.P9
