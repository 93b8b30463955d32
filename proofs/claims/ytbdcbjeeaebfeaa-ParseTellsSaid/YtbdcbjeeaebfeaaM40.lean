/- What package serial answers, for trees whose texts and lists are not too long, and not too many. No condition but those stated. -/
import Derived.Deep.Cut
import Derived.Test.YtbdcbjeeaebfeaaM17
import Derived.Test.YtbdcbjeeaebfeaaM30
set_option linter.unusedVariables false
set_option linter.unusedSimpArgs false
namespace Go.Proofs.Ytbdcbjeeaebfeaa.P10
open Go.RowKit Kd P4 P5 P8 P9

set_option maxHeartbeats 2000000 in
theorem open_any (t : TV) (B b : Nat) (l : List UInt8) (w : World) (hb : Bd.IsB B b l w) (hB : B ≤ w.heap.size) (h : TOk w B t) (ht : t.tag.size ≤ 100000) (ha : okA t.attrs = true) (hl : l.length + (openH t.tag.data.toList t.attrs).length ≤ 2000000000) :
    Calls Try.prog 52 #[.pointer (some ⟨b, 0, none⟩), .agg #[.string t.tag, .string t.txt, .string t.key, .slice t.sa.A t.sa.n t.sa.c, .slice t.sk.A t.sk.n t.sk.c]] w fun e w' => e = .returned (.tuple #[]) ∧ Bd.Wrote B b (l ++ openH t.tag.data.toList t.attrs) w w' := by
  obtain ⟨tag, txt, key, sa, attrs, sk, kids⟩ := t
  obtain ⟨A, n, c⟩ := sa
  obtain ⟨A2, n2, c2⟩ := sk
  have al : attrs.length = n := h.al
  have AH : Hid (kA.Holds w B A attrs) := Lib.hid h.ah
  have AL := Lib.hid al
  have hz : tag.size ≤ 100000 := ht
  have hfa : okA attrs = true := ha
  have hl' : l.length + (openH tag.data.toList attrs).length ≤ 2000000000 := hl
  have hl : l.length ≤ 2000000000 := by omega
  have HL : Hid (l.length + tag.data.toList.length + (attrsH attrs).length ≤ 2000000000) := Lib.hid (by simp only [openH, List.length_cons, List.length_append, List.length_nil] at hl'; omega)
  have SH : Hid (∀ k (hk : k < attrs.length), attrs[k].nm.size ≤ 100000 ∧ attrs[k].vl.size ≤ 100000) := Lib.hid (fun k hk => okA_at hfa hk)
  have hn : n ≤ 100000 := by have := okA_len hfa; omega
  have H1 : Hid (Bd.Wrote B b l w (w.alloc (.cells #[.string tag, .string txt, .string key, .slice A n c, .slice A2 n2 c2] 38))) := Lib.hid ((Bd.Wrote.start hb).alloc hB _)
  have N1 : Hid (TB (w.alloc (.cells #[.string tag, .string txt, .string key, .slice A n c, .slice A2 n2 c2] 38)) w.heap.size (.mk tag txt key ⟨A, n, c⟩ attrs ⟨A2, n2, c2⟩ kids)) := Lib.hid (TB.new w (.mk tag txt key ⟨A, n, c⟩ attrs ⟨A2, n2, c2⟩ kids))
  have ET : Hid (tag.data.toList.length = tag.size) := Lib.hid (str_len tag)
  clear h al ht ha hfa hb hl'
  show Calls Try.prog 52 #[.pointer (some ⟨b, 0, none⟩), .agg #[.string tag, .string txt, .string key, .slice A n c, .slice A2 n2 c2]] w _
  show Calls _ _ _ _ fun e w' => e = .returned (.tuple #[]) ∧ Bd.Wrote B b (l ++ openH tag.data.toList attrs) w w'
  go_enter Try.func52, Try.ntmps52
  go_upto_region 1 with fail
  generalize w.alloc (.cells #[.string tag, .string txt, .string key, .slice A n c, .slice A2 n2 c2] 38) = W at H1 N1 ⊢
  go_wp2_with fail
  refine (Bd.write_any B b l _ w W H1.out (by show _ + 1 ≤ _; omega) (by have := H1.out.size; omega)).mono ?_
  rintro e w1 ⟨rfl, h2, k2, z2⟩
  have H2 := Lib.hid h2
  have N2 := Lib.hid (tb_keeps N1.out k2)
  clear h2 k2 z2
  have a0 : w1.cell? ⟨w.heap.size, 0, none⟩ = some (.string tag) := N2.out.c0
  go_wp2_with fail
  refine (Bd.write_any B b _ tag w w1 H2.out (by rw [List.length_append]; show _ + 1 + _ ≤ _; omega) (by have := H2.out.size; omega)).mono ?_
  rintro e w2 ⟨rfl, h3, k3, z3⟩
  have H3 : Hid (Bd.Wrote B b (l ++ 60 :: tag.data.toList) w w2) := Lib.hid (wrote_eq h3 (by simp))
  have N3 := Lib.hid (tb_keeps N2.out k3)
  clear h3 k3 z3 a0
  have a3 : w2.cell? ⟨w.heap.size, 3, none⟩ = some (.slice A n c) := N3.out.c3
  go_wp2_with fail
  go_loopw [15] (fun s wr => ∃ (k : Nat), k ≤ n ∧ s = .int .i64 k ∧ Hid (Bd.Wrote B b (l ++ 60 :: (tag.data.toList ++ attrsH (attrs.take k))) w wr)) (fun s _ => n - (intOf s).toNat)
  case atStart => exact ⟨0, by omega, rfl, Lib.hid (wrote_eq H3.out (by simp [attrsH]))⟩
  case round =>
    obtain ⟨k, hk, rfl, HW⟩ := hrel
    have hBr : B ≤ wr.heap.size := by have := HW.out.size; omega
    have LN : Hid ((l ++ 60 :: (tag.data.toList ++ attrsH (attrs.take k))).length ≤ 2000000001) := Lib.hid (by
      have h1 := attrsH_take_le attrs k
      have h2 := HL.out
      have h3 := ET.out
      simp only [List.length_append, List.length_cons]
      omega)
    by_cases hkn : k < n
    · have hkl : k < attrs.length := by have := AL.out; omega
      obtain ⟨b', o, rfl, hb', h0, h1, h2⟩ := (p3holds (AH.out.below HW.out.2.1 (Nat.le_refl _))) k hkl
      have SN : Hid (attrsH (attrs.take (k + 1)) = attrsH (attrs.take k) ++ attrH attrs[k]) := Lib.hid (attrsH_snoc hkl)
      have hsh := SH.out k hkl
      generalize attrs[k] = a at h0 h1 h2 SN hsh
      obtain ⟨ha1, ha2⟩ := hsh
      go_upto_region 6 with fail
      have K1 : Hid (P3.Blk (wr.alloc (.cells #[.string a.nm, .string a.vl, .bool a.st] 73)) wr.heap.size a) := Lib.hid (P3.Blk.new wr a)
      have V1 : Hid (Bd.Wrote B b (l ++ 60 :: (tag.data.toList ++ attrsH (attrs.take k))) w (wr.alloc (.cells #[.string a.nm, .string a.vl, .bool a.st] 73))) := Lib.hid (HW.out.alloc hBr _)
      have hBw : B ≤ (wr.alloc (.cells #[.string a.nm, .string a.vl, .bool a.st] 73)).heap.size := by simp; omega
      generalize wr.alloc (.cells #[.string a.nm, .string a.vl, .bool a.st] 73) = W1 at K1 V1 hBw ⊢
      clear h0 h1 h2
      generalize hx : l ++ 60 :: (tag.data.toList ++ attrsH (attrs.take k)) = x at V1 LN
      have HX := Lib.hid hx
      clear hx
      have hxl : x.length ≤ 2000000001 := LN.out
      go_wp2_with fail
      refine (Bd.write_any B b x ⟨#[32]⟩ w W1 V1.out (by show _ + 1 ≤ _; omega) hBw).mono ?_
      rintro e w4 ⟨rfl, h5, k5, z5⟩
      have V2 := Lib.hid h5
      have K2 := Lib.hid (blk_keeps K1.out k5)
      have hB2 : B ≤ w4.heap.size := by omega
      clear h5 k5 z5
      have c0 : w4.cell? ⟨wr.heap.size, 0, none⟩ = some (.string a.nm) := K2.out.c0
      go_wp2_with fail
      refine (Bd.write_any B b _ a.nm w w4 V2.out (by rw [List.length_append]; show _ + 1 + _ ≤ _; omega) hB2).mono ?_
      rintro e w5 ⟨rfl, h5, k5, z5⟩
      have V3 := Lib.hid h5
      have K3 := Lib.hid (blk_keeps K2.out k5)
      have hB3 : B ≤ w5.heap.size := by omega
      clear h5 k5 z5 c0
      go_wp2_with fail
      refine (Bd.write_any B b _ ⟨#[61, 34]⟩ w w5 V3.out (by rw [List.length_append, List.length_append, str_len]; show _ + 1 + _ + 2 ≤ _; omega) hB3).mono ?_
      rintro e w6 ⟨rfl, h5, k5, z5⟩
      have V4 := Lib.hid h5
      have K4 := Lib.hid (blk_keeps K3.out k5)
      have hB4 : B ≤ w6.heap.size := by omega
      clear h5 k5 z5
      have c1 : w6.cell? ⟨wr.heap.size, 1, none⟩ = some (.string a.vl) := K4.out.c1
      go_wp2_with fail
      refine (P2.put_any a.vl w6 (by omega)).mono ?_
      rintro e w7 ⟨rfl, b7⟩
      have V5 := Lib.hid (V4.out.on b7 (Nat.le_refl _) hB4)
      have hB5 : B ≤ w7.heap.size := by have := b7.size; omega
      have hps := P2.putB_size a.vl
      clear b7 c1
      go_wp2_with fail
      refine (Bd.write_any B b _ (P2.putB a.vl) w w7 V5.out (by rw [List.length_append, List.length_append, List.length_append, str_len]; show _ + 1 + _ + 2 + _ ≤ _; omega) hB5).mono ?_
      rintro e w8 ⟨rfl, h5, k5, z5⟩
      have V6 := Lib.hid h5
      have hB6 : B ≤ w8.heap.size := by omega
      clear h5 k5 z5
      go_wp2_with fail
      refine (Bd.write_any B b _ ⟨#[34]⟩ w w8 V6.out (by rw [List.length_append, List.length_append, List.length_append, List.length_append, str_len, str_len]; show _ + 1 + _ + 2 + _ + 1 ≤ _; omega) hB6).mono ?_
      rintro e w9 ⟨rfl, h5, k5, z5⟩
      have V7 := Lib.hid h5
      clear h5 k5 z5
      go_wp2_with fail
      go_roundw
      case rel => exact ⟨k + 1, by omega, by go_num, Lib.hid (wrote_eq V7.out (by rw [← HX.out, SN.out]; simp [attrH, P2.putB]))⟩
      case measure => simp [intOf]; omega
    · obtain rfl : k = n := by omega
      have hxl := LN.out
      go_wp2_with fail
      refine (Bd.write_any B b _ ⟨#[62]⟩ w wr HW.out (by show _ + 1 ≤ _; omega) hBr).mono ?_
      rintro e w4 ⟨rfl, h5, k5, z5⟩
      have V2 : Hid (Bd.Wrote B b (l ++ openH tag.data.toList attrs) w w4) := Lib.hid (wrote_eq h5 (by rw [← AL.out, List.take_length]; simp [openH]))
      clear h5 k5 z5
      go_wp2_with fail
      go_end0
      exact ⟨rfl, V2.out⟩
def PutC (t : TV) : Prop := ∀ (B b : Nat) (l : List UInt8) (w : World), Bd.IsB B b l w → B ≤ w.heap.size → TOk w B t → okP (er t) = true → l.length + (putH (er t)).length ≤ 1000000000 →
  Calls Try.prog 38 #[.pointer (some ⟨b, 0, none⟩), .agg #[.string t.tag, .string t.txt, .string t.key, .slice t.sa.A t.sa.n t.sa.c, .slice t.sk.A t.sk.n t.sk.c]] w fun e w' => e = .returned (.tuple #[]) ∧ Bd.Wrote B b (l ++ putH (er t)) w w'
def PutAllC (ts : List TV) : Prop := ∀ (B b : Nat) (l : List UInt8) (w : World) (A : Option Addr) (n c : Nat), Bd.IsB B b l w → B ≤ w.heap.size → kT.Holds w B A ts → ts.length = n → (∀ t ∈ ts, TOk w B t) → okL (erL ts) = true → ts.length ≤ 100000 → l.length + (allH (erL ts)).length ≤ 1000000000 →
  Calls Try.prog 22 #[.pointer (some ⟨b, 0, none⟩), .slice A n c] w fun e w' => e = .returned (.tuple #[]) ∧ Bd.Wrote B b (l ++ allH (erL ts)) w w'

set_option maxHeartbeats 2000000 in
theorem putAll_of (ts : List TV) (IH : ∀ t ∈ ts, PutC t) : PutAllC ts := by
  intro B b l w A n c hb hB hh hn hok hf hc hlen
  have KH : Hid (kT.Holds w B A ts) := Lib.hid hh
  have KL : Hid (ts.length = n) := Lib.hid hn
  have KS : Hid (∀ t ∈ ts, TOk w B t) := Lib.hid hok
  have HI : Hid (∀ t ∈ ts, PutC t) := Lib.hid IH
  have EL : Hid ((erL ts).length = n) := Lib.hid (by rw [erL_map]; simpa using hn)
  have F5 : Hid (∀ k (hk : k < ts.length), okP (er ts[k]) = true) := Lib.hid (fun k hk => by
    have hk' : k < (erL ts).length := by rw [erL_map]; simpa using hk
    have h1 := okL_at hk' hf
    have e : (erL ts)[k] = er ts[k] := by simp [erL_map]
    rw [e] at h1
    exact h1)
  have HLEN := Lib.hid hlen
  have hn1 : n ≤ 100000 := by omega
  have H0 : Hid (Bd.Wrote B b l w w) := Lib.hid (Bd.Wrote.start hb)
  clear hb hh hn hok hf hc hlen IH
  go_enter Try.func22, Try.ntmps22
  go_wp2_with fail
  go_loopw [8] (fun s wr => ∃ (k : Nat), k ≤ n ∧ s = .int .i64 k ∧ Hid (Bd.Wrote B b (l ++ allH ((erL ts).take k)) w wr)) (fun s _ => n - (intOf s).toNat)
  case atStart => exact ⟨0, by omega, rfl, Lib.hid (wrote_eq H0.out (by simp [allH]))⟩
  case round =>
    obtain ⟨k, hk, rfl, HW⟩ := hrel
    have hBr : B ≤ wr.heap.size := by have := HW.out.size; omega
    by_cases hkn : k < n
    · have hkl : k < ts.length := by have := KL.out; omega
      have hke : k < (erL ts).length := by have := EL.out; omega
      obtain ⟨b', o, rfl, hb', g0, g1, g2, g3, g4⟩ := cell_of_trees (KH.out.below HW.out.2.1 (Nat.le_refl _)) hkl
      have TK : Hid (TOk wr B ts[k]) := Lib.hid ((KS.out _ (List.getElem_mem hkl)).later HW.out.2.1 (Nat.le_refl _))
      have SN : Hid (allH ((erL ts).take (k + 1)) = allH ((erL ts).take k) ++ putH (er ts[k])) := Lib.hid (by
        rw [allH_snoc hke]
        simp [erL_map])
      have LN : Hid ((l ++ allH ((erL ts).take k)).length + (putH (er ts[k])).length ≤ 1000000000) := Lib.hid (by
        have h1 := congrArg List.length SN.out
        have h2 := allH_take_le (erL ts) (k + 1)
        have h3 := HLEN.out
        simp only [List.length_append] at h1 ⊢
        omega)
      have CK : Hid (PutC ts[k]) := Lib.hid (HI.out _ (List.getElem_mem hkl))
      have G1 := Lib.hid (F5.out k hkl)
      generalize ts[k] = d at g0 g1 g2 g3 g4 TK SN LN CK G1
      go_upto_region 3 with fail
      have NA : Hid (TB (wr.alloc (.cells #[.string d.tag, .string d.txt, .string d.key, .slice d.sa.A d.sa.n d.sa.c, .slice d.sk.A d.sk.n d.sk.c] 38)) wr.heap.size d) := Lib.hid (TB.new wr d)
      have BA : Hid (Below wr.heap.size wr (wr.alloc (.cells #[.string d.tag, .string d.txt, .string d.key, .slice d.sa.A d.sa.n d.sa.c, .slice d.sk.A d.sk.n d.sk.c] 38))) := Lib.hid ((Below.refl _ _).alloc (Nat.le_refl _) _)
      generalize wr.alloc (.cells #[.string d.tag, .string d.txt, .string d.key, .slice d.sa.A d.sa.n d.sa.c, .slice d.sk.A d.sk.n d.sk.c] 38) = wa at NA BA ⊢
      have VA := Lib.hid (HW.out.on BA.out (Nat.le_refl _) hBr)
      have hBa : B ≤ wa.heap.size := by have := BA.out.size; omega
      have TA := Lib.hid (TK.out.later BA.out hBr)
      have a0 := NA.out.c0; have a1 := NA.out.c1; have a2 := NA.out.c2; have a3 := NA.out.c3; have a4 := NA.out.c4
      clear g0 g1 g2 g3 g4
      go_wp2_with fail
      refine (CK.out B b _ wa VA.out.1 hBa TA.out G1.out LN.out).mono ?_
      rintro e w5 ⟨rfl, h5⟩
      have V5 := Lib.hid (VA.out.trans h5)
      clear h5
      go_wp2_with fail
      go_roundw
      case rel => exact ⟨k + 1, by omega, by go_num, Lib.hid (wrote_eq V5.out (by rw [SN.out, List.append_assoc]))⟩
      case measure => simp [intOf]; omega
    · obtain rfl : k = n := by omega
      go_wp2_with fail
      go_end0
      exact ⟨rfl, wrote_eq HW.out (by rw [← EL.out, List.take_length])⟩

set_option maxHeartbeats 2000000 in
theorem put_any : ∀ t : TV, PutC t := by
  intro t
  induction t using TV.ind with
  | h tag txt key sa attrs sk kids ih =>
    obtain ⟨A, n, c⟩ := sa
    obtain ⟨A2, n2, c2⟩ := sk
    intro B b l w hb hB h hf hlen
    have KA : Hid (PutAllC kids) := Lib.hid (putAll_of kids ih)
    have KL : Hid (kids.length = n2) := Lib.hid h.kl
    have KH : Hid (kT.Holds w B A2 kids) := Lib.hid h.kh
    have KS : Hid (∀ k ∈ kids, TOk w B k) := Lib.hid h.ks
    have TT : Hid (TOk w B (.mk tag txt key ⟨A, n, c⟩ attrs ⟨A2, n2, c2⟩ kids)) := Lib.hid h
    rw [er] at hlen hf ⊢
    have HP : Hid (putH (.mk tag txt key attrs (erL kids)) = putH (.mk tag txt key attrs (erL kids))) := Lib.hid rfl
    rw [okP] at hf
    simp only [Bool.and_eq_true, decide_eq_true_eq] at hf
    obtain ⟨⟨⟨⟨⟨f1, f2⟩, f3⟩, f4⟩, f6⟩, f5⟩ := hf
    have F4 := Lib.hid f4
    have F5 := Lib.hid f5
    have CL : Hid (kids.length ≤ 100000) := Lib.hid (by rw [erL_map, List.length_map] at f6; omega)
    have HLEN := Lib.hid hlen
    have H1 : Hid (Bd.Wrote B b l w (w.alloc (.cells #[.string tag, .string txt, .string key, .slice A n c, .slice A2 n2 c2] 38))) := Lib.hid ((Bd.Wrote.start hb).alloc hB _)
    have N1 : Hid (TB (w.alloc (.cells #[.string tag, .string txt, .string key, .slice A n c, .slice A2 n2 c2] 38)) w.heap.size (.mk tag txt key ⟨A, n, c⟩ attrs ⟨A2, n2, c2⟩ kids)) := Lib.hid (TB.new w (.mk tag txt key ⟨A, n, c⟩ attrs ⟨A2, n2, c2⟩ kids))
    have ET : Hid (tag.data.toList.length = tag.size) := Lib.hid (str_len tag)
    clear h ih hb hlen f4 f5 f6
    show Calls Try.prog 38 #[.pointer (some ⟨b, 0, none⟩), .agg #[.string tag, .string txt, .string key, .slice A n c, .slice A2 n2 c2]] w _
    go_enter Try.func38, Try.ntmps38
    go_upto_region 1 with fail
    generalize w.alloc (.cells #[.string tag, .string txt, .string key, .slice A n c, .slice A2 n2 c2] 38) = W at H1 N1 ⊢
    have hBW : B ≤ W.heap.size := by have := H1.out.size; omega
    have a0 : W.cell? ⟨w.heap.size, 0, none⟩ = some (.string tag) := N1.out.c0
    have a1 : W.cell? ⟨w.heap.size, 1, none⟩ = some (.string txt) := N1.out.c1
    have a2 : W.cell? ⟨w.heap.size, 2, none⟩ = some (.string key) := N1.out.c2
    have a3 : W.cell? ⟨w.heap.size, 3, none⟩ = some (.slice A n c) := N1.out.c3
    have a4 : W.cell? ⟨w.heap.size, 4, none⟩ = some (.slice A2 n2 c2) := N1.out.c4
    cases tE : tag.toList.isEmpty with
    | true =>
      have PE : Hid (putH (.mk tag txt key attrs (erL kids)) = P2.putL txt.data.toList) := Lib.hid (putH_text tE)
      go_wp2_with fail
      refine (P2.put_any txt W (by omega)).mono ?_
      rintro e w2 ⟨rfl, b2⟩
      have V2 := Lib.hid (H1.out.on b2 (Nat.le_refl _) hBW)
      have hB2 : B ≤ w2.heap.size := by have := b2.size; omega
      have hps := P2.putB_size txt
      have hll : l.length ≤ 1000000000 := by have := HLEN.out; omega
      clear b2 a0 a1 a2 a3 a4
      go_wp2_with fail
      refine (Bd.write_any B b l (P2.putB txt) w w2 V2.out (by omega) hB2).mono ?_
      rintro e w3 ⟨rfl, h3, k3, z3⟩
      have V3 := Lib.hid h3
      clear h3 k3 z3
      go_wp2_with fail
      first | go_ret | go_ret2 | (refine bodyPost_ret (v := .tuple #[]) (by simp [results, Try.results38, go_sem]) rfl ?_)
      exact ⟨rfl, wrote_eq V3.out (by rw [PE.out]; simp [P2.putB])⟩
    | false =>
      have hll : l.length ≤ 1000000000 := by have := HLEN.out; omega
      have TW := Lib.hid (TT.out.later H1.out.2.1 (Nat.le_refl _))
      have OL : Hid (l.length + (openH tag.data.toList attrs).length ≤ 2000000000) := Lib.hid (by
        have h1 := HLEN.out
        cases hvd : P1.voidB tag.data.toList with
        | true => rw [putH_void tE hvd] at h1; omega
        | false => rw [putH_el tE hvd, List.length_append] at h1; omega)
      go_wp2_with fail
      refine (open_any (.mk tag txt key ⟨A, n, c⟩ attrs ⟨A2, n2, c2⟩ kids) B b l W H1.out.1 hBW TW.out f1 F4.out OL.out).mono ?_
      rintro e w2 ⟨rfl, h2⟩
      have V2 : Hid (Bd.Wrote B b (l ++ openH tag.data.toList attrs) w w2) := Lib.hid (H1.out.trans h2)
      have N2 := Lib.hid (tb_keeps N1.out h2.2.2)
      have hB2 : B ≤ w2.heap.size := by have := h2.size; omega
      clear h2 a0 a1 a2 a3 a4
      have a0 : w2.cell? ⟨w.heap.size, 0, none⟩ = some (.string tag) := N2.out.c0
      have a4 : w2.cell? ⟨w.heap.size, 4, none⟩ = some (.slice A2 n2 c2) := N2.out.c4
      go_wp2_with fail
      refine (P1.void_any tag _).mono ?_
      rintro e w' ⟨rfl, rfl⟩
      obtain ⟨bv, hbv⟩ : ∃ b, P1.voidB tag.data.toList = b := ⟨_, rfl⟩
      rw [hbv]
      have HV := Lib.hid hbv
      clear hbv
      cases bv with
      | true =>
        go_wp2_with fail
        first | go_ret | go_ret2 | (refine bodyPost_ret (v := .tuple #[]) (by simp [results, Try.results38, go_sem]) rfl ?_)
        exact ⟨rfl, wrote_eq V2.out (by rw [putH_void tE HV.out])⟩
      | false =>
        have PE : Hid (putH (.mk tag txt key attrs (erL kids)) = openH tag.data.toList attrs ++ (allH (erL kids) ++ 60 :: 47 :: (tag.data.toList ++ [62]))) := Lib.hid (putH_el tE HV.out)
        have LN : Hid ((l ++ openH tag.data.toList attrs).length + (allH (erL kids)).length ≤ 1000000000) := Lib.hid (by
          have h1 := HLEN.out
          rw [PE.out] at h1
          simp only [List.length_append] at h1 ⊢
          omega)
        go_wp2_with fail
        refine (KA.out B b _ w2 A2 n2 c2 V2.out.1 hB2 (KH.out.below V2.out.2.1 (Nat.le_refl _)) KL.out (fun k hk => (KS.out k hk).later V2.out.2.1 (Nat.le_refl _)) F5.out CL.out LN.out).mono ?_
        rintro e w3 ⟨rfl, h3⟩
        have V3 := Lib.hid (V2.out.trans h3)
        have N3 := Lib.hid (tb_keeps N2.out h3.2.2)
        have hB3 : B ≤ w3.heap.size := by have := h3.size; omega
        clear h3 a0 a4
        generalize hx : l ++ openH tag.data.toList attrs ++ allH (erL kids) = x at V3
        have HX := Lib.hid hx
        have hxl : x.length ≤ 1000000000 := by rw [← hx, List.length_append]; exact LN.out
        clear hx
        go_wp2_with fail
        refine (Bd.write_any B b x ⟨#[60, 47]⟩ w w3 V3.out (by show _ + 2 ≤ _; omega) hB3).mono ?_
        rintro e w4 ⟨rfl, h4, k4, z4⟩
        have V4 := Lib.hid h4
        have N4 := Lib.hid (tb_keeps N3.out k4)
        have hB4 : B ≤ w4.heap.size := by omega
        clear h4 k4 z4
        have a0 : w4.cell? ⟨w.heap.size, 0, none⟩ = some (.string tag) := N4.out.c0
        go_wp2_with fail
        refine (Bd.write_any B b _ tag w w4 V4.out (by rw [List.length_append]; show _ + 2 + _ ≤ _; omega) hB4).mono ?_
        rintro e w5 ⟨rfl, h5, k5, z5⟩
        have V5 := Lib.hid h5
        have hB5 : B ≤ w5.heap.size := by omega
        clear h5 k5 z5 a0
        go_wp2_with fail
        refine (Bd.write_any B b _ ⟨#[62]⟩ w w5 V5.out (by rw [List.length_append, List.length_append, str_len]; show _ + 2 + _ + 1 ≤ _; omega) hB5).mono ?_
        rintro e w6 ⟨rfl, h6, k6, z6⟩
        have V6 := Lib.hid h6
        clear h6 k6 z6
        go_wp2_with fail
        go_end0
        exact ⟨rfl, wrote_eq V6.out (by rw [PE.out, ← HX.out]; simp)⟩

set_option maxHeartbeats 2000000 in
theorem sall_ok (ts : List TV) (A : Option Addr) (n c : Nat) (w : World) (hh : kT.Holds w w.heap.size A ts) (hn : ts.length = n) (hok : ∀ t ∈ ts, TOk w w.heap.size t) (hf : okL (erL ts) = true) (hc : ts.length ≤ 100000) (hl : (allH (erL ts)).length ≤ 1000000000) :
    Calls Try.prog 11 #[.slice A n c] w fun e w' => e = .returned (.string ((⟨(allH (erL ts)).toArray⟩ : ByteArray))) ∧ Below w.heap.size w w' := by
  have HL := Lib.hid hl
  have HH := Lib.hid hh
  have HN := Lib.hid hn
  have HT := Lib.hid hok
  have HF := Lib.hid hf
  have HC := Lib.hid hc
  have I1 : Hid (Bd.IsB w.heap.size w.heap.size [] (w.alloc (.cells #[.pointer none, .slice none 0 0] 51))) := Lib.hid (Bd.IsB.fresh w)
  have B2 : Hid (Below w.heap.size w (w.alloc (.cells #[.pointer none, .slice none 0 0] 51))) := Lib.hid ((Below.refl _ _).alloc (Nat.le_refl _) _)
  clear hh hn hok hf hc hl
  go_enter Try.func11, Try.ntmps11
  go_upto_region 2 with fail
  generalize w.alloc (.cells #[.pointer none, .slice none 0 0] 51) = W2 at I1 B2 ⊢
  go_wp2_with fail
  refine (putAll_of ts (fun t _ => put_any t) w.heap.size w.heap.size [] W2 A n c I1.out B2.out.size (HH.out.below B2.out (Nat.le_refl _)) HN.out (fun t ht => (HT.out t ht).later B2.out (Nat.le_refl _)) HF.out HC.out (by have := HL.out; simp only [List.length_nil]; omega)).mono ?_
  rintro e w3 ⟨rfl, h3⟩
  have V3 := Lib.hid h3
  clear h3
  go_wp2_with fail
  refine (Bd.read_any w.heap.size w.heap.size _ w3 V3.out.1 (by have := V3.out.size; have := B2.out.size; omega)).mono ?_
  rintro e w4 ⟨rfl, b4⟩
  have B4 := Lib.hid (B2.out.trans (V3.out.2.1.trans b4))
  clear b4
  go_wp2_with fail
  go_ret
  exact ⟨rfl, B4.out⟩
end Go.Proofs.Ytbdcbjeeaebfeaa.P10
