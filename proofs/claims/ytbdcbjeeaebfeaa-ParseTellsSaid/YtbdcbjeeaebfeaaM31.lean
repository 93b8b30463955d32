/- What serial.Put and serial.All answer. No condition but those stated. -/
import Derived.Test.YtbdcbjeeaebfeaaM16
import Derived.Test.YtbdcbjeeaebfeaaM30
set_option linter.unusedVariables false
set_option linter.unusedSimpArgs false
namespace Go.Proofs.Ytbdcbjeeaebfeaa.P9
open Go.RowKit Kd P4 P5 P8

def PutC (t : TV) : Prop := ∀ (B b : Nat) (l : List UInt8) (w : World), Bd.IsB B b l w → B ≤ w.heap.size → TOk w B t → fewP (er t) = true → countP (er t) ≤ 1000 → l.length + (putH (er t)).length ≤ 1000000000 →
  Calls Try.prog 38 #[.pointer (some ⟨b, 0, none⟩), .agg #[.string t.tag, .string t.txt, .string t.key, .slice t.sa.A t.sa.n t.sa.c, .slice t.sk.A t.sk.n t.sk.c]] w fun e w' => e = .returned (.tuple #[]) ∧ Bd.Wrote B b (l ++ putH (er t)) w w'
def PutAllC (ts : List TV) : Prop := ∀ (B b : Nat) (l : List UInt8) (w : World) (A : Option Addr) (n c : Nat), Bd.IsB B b l w → B ≤ w.heap.size → kT.Holds w B A ts → ts.length = n → (∀ t ∈ ts, TOk w B t) → fewL (erL ts) = true → countL (erL ts) ≤ 1000 → l.length + (allH (erL ts)).length ≤ 1000000000 →
  Calls Try.prog 22 #[.pointer (some ⟨b, 0, none⟩), .slice A n c] w fun e w' => e = .returned (.tuple #[]) ∧ Bd.Wrote B b (l ++ allH (erL ts)) w w'

set_option maxHeartbeats 2000000 in
theorem putAll_of (ts : List TV) (IH : ∀ t ∈ ts, PutC t) : PutAllC ts := by
  intro B b l w A n c hb hB hh hn hok hf hc hlen
  have KH : Hid (kT.Holds w B A ts) := Lib.hid hh
  have KL : Hid (ts.length = n) := Lib.hid hn
  have KS : Hid (∀ t ∈ ts, TOk w B t) := Lib.hid hok
  have HI : Hid (∀ t ∈ ts, PutC t) := Lib.hid IH
  have EL : Hid ((erL ts).length = n) := Lib.hid (by rw [erL_map]; simpa using hn)
  have F5 : Hid (∀ k (hk : k < ts.length), fewP (er ts[k]) = true ∧ countP (er ts[k]) ≤ 1000) := Lib.hid (fun k hk => by
    have hk' : k < (erL ts).length := by rw [erL_map]; simpa using hk
    have h1 := fewL_at hk' hf
    have h2 := countL_at hk'
    have e : (erL ts)[k] = er ts[k] := by simp [erL_map]
    rw [e] at h1 h2
    exact ⟨h1, by omega⟩)
  have HLEN := Lib.hid hlen
  have hn1 : n ≤ 1000 := by have := len_le_count (erL ts); have := EL.out; omega
  have H0 : Hid (Bd.Wrote B b l w w) := Lib.hid (Bd.Wrote.start hb)
  clear hb hh hn hok hf hc hlen IH
  go_enter Try.func22, Try.ntmps22
  go_wp2_with fail
  go_loopw [8] (fun s wr => ∃ (k : Nat), k ≤ n ∧ s = .int .i64 k ∧ Hid (Bd.Wrote B b (l ++ allH ((erL ts).take k)) w wr)) (fun s _ => n - (intOf s).toNat)
  case atStart => exact ⟨0, by omega, rfl, Lib.hid (wrote_eq H0.out (by simp [allH]))⟩
  case round =>
    obtain ⟨k, hk, rfl, HW⟩ := hrel
    have hBr : B ≤ wr.heap.size := by have := HW.out.size; omega
    by_cases hkn : k < n
    · have hkl : k < ts.length := by have := KL.out; omega
      have hke : k < (erL ts).length := by have := EL.out; omega
      obtain ⟨b', o, rfl, hb', g0, g1, g2, g3, g4⟩ := cell_of_trees (KH.out.below HW.out.2.1 (Nat.le_refl _)) hkl
      have TK : Hid (TOk wr B ts[k]) := Lib.hid ((KS.out _ (List.getElem_mem hkl)).later HW.out.2.1 (Nat.le_refl _))
      have SN : Hid (allH ((erL ts).take (k + 1)) = allH ((erL ts).take k) ++ putH (er ts[k])) := Lib.hid (by
        rw [allH_snoc hke]
        simp [erL_map])
      have LN : Hid ((l ++ allH ((erL ts).take k)).length + (putH (er ts[k])).length ≤ 1000000000) := Lib.hid (by
        have h1 := congrArg List.length SN.out
        have h2 := allH_take_le (erL ts) (k + 1)
        have h3 := HLEN.out
        simp only [List.length_append] at h1 ⊢
        omega)
      have CK : Hid (PutC ts[k]) := Lib.hid (HI.out _ (List.getElem_mem hkl))
      obtain ⟨f1, f2⟩ := F5.out k hkl
      have G1 := Lib.hid f1
      have G2 := Lib.hid f2
      clear f1 f2
      generalize ts[k] = d at g0 g1 g2 g3 g4 TK SN LN CK G1 G2
      go_upto_region 3 with fail
      have NA : Hid (TB (wr.alloc (.cells #[.string d.tag, .string d.txt, .string d.key, .slice d.sa.A d.sa.n d.sa.c, .slice d.sk.A d.sk.n d.sk.c] 38)) wr.heap.size d) := Lib.hid (TB.new wr d)
      have BA : Hid (Below wr.heap.size wr (wr.alloc (.cells #[.string d.tag, .string d.txt, .string d.key, .slice d.sa.A d.sa.n d.sa.c, .slice d.sk.A d.sk.n d.sk.c] 38))) := Lib.hid ((Below.refl _ _).alloc (Nat.le_refl _) _)
      generalize wr.alloc (.cells #[.string d.tag, .string d.txt, .string d.key, .slice d.sa.A d.sa.n d.sa.c, .slice d.sk.A d.sk.n d.sk.c] 38) = wa at NA BA ⊢
      have VA := Lib.hid (HW.out.on BA.out (Nat.le_refl _) hBr)
      have hBa : B ≤ wa.heap.size := by have := BA.out.size; omega
      have TA := Lib.hid (TK.out.later BA.out hBr)
      have a0 := NA.out.c0; have a1 := NA.out.c1; have a2 := NA.out.c2; have a3 := NA.out.c3; have a4 := NA.out.c4
      clear g0 g1 g2 g3 g4
      go_wp2_with fail
      refine (CK.out B b _ wa VA.out.1 hBa TA.out G1.out G2.out LN.out).mono ?_
      rintro e w5 ⟨rfl, h5⟩
      have V5 := Lib.hid (VA.out.trans h5)
      clear h5
      go_wp2_with fail
      go_roundw
      case rel => exact ⟨k + 1, by omega, by go_num, Lib.hid (wrote_eq V5.out (by rw [SN.out, List.append_assoc]))⟩
      case measure => simp [intOf]; omega
    · obtain rfl : k = n := by omega
      go_wp2_with fail
      go_end0
      exact ⟨rfl, wrote_eq HW.out (by rw [← EL.out, List.take_length])⟩

set_option maxHeartbeats 2000000 in
theorem put_any : ∀ t : TV, PutC t := by
  intro t
  induction t using TV.ind with
  | h tag txt key sa attrs sk kids ih =>
    obtain ⟨A, n, c⟩ := sa
    obtain ⟨A2, n2, c2⟩ := sk
    intro B b l w hb hB h hf hc hlen
    have KA : Hid (PutAllC kids) := Lib.hid (putAll_of kids ih)
    have KL : Hid (kids.length = n2) := Lib.hid h.kl
    have KH : Hid (kT.Holds w B A2 kids) := Lib.hid h.kh
    have KS : Hid (∀ k ∈ kids, TOk w B k) := Lib.hid h.ks
    have TT : Hid (TOk w B (.mk tag txt key ⟨A, n, c⟩ attrs ⟨A2, n2, c2⟩ kids)) := Lib.hid h
    rw [er] at hlen hf hc ⊢
    have HP : Hid (putH (.mk tag txt key attrs (erL kids)) = putH (.mk tag txt key attrs (erL kids))) := Lib.hid rfl
    rw [fewP] at hf
    rw [countP] at hc
    simp only [Bool.and_eq_true, decide_eq_true_eq] at hf
    obtain ⟨⟨⟨⟨f1, f2⟩, f3⟩, f4⟩, f5⟩ := hf
    have F4 := Lib.hid f4
    have F5 := Lib.hid f5
    have CL : Hid (countL (erL kids) ≤ 1000) := Lib.hid (by omega)
    have HLEN := Lib.hid hlen
    have H1 : Hid (Bd.Wrote B b l w (w.alloc (.cells #[.string tag, .string txt, .string key, .slice A n c, .slice A2 n2 c2] 38))) := Lib.hid ((Bd.Wrote.start hb).alloc hB _)
    have N1 : Hid (TB (w.alloc (.cells #[.string tag, .string txt, .string key, .slice A n c, .slice A2 n2 c2] 38)) w.heap.size (.mk tag txt key ⟨A, n, c⟩ attrs ⟨A2, n2, c2⟩ kids)) := Lib.hid (TB.new w (.mk tag txt key ⟨A, n, c⟩ attrs ⟨A2, n2, c2⟩ kids))
    have ET : Hid (tag.data.toList.length = tag.size) := Lib.hid (str_len tag)
    clear h ih hb hc hlen f4 f5
    show Calls Try.prog 38 #[.pointer (some ⟨b, 0, none⟩), .agg #[.string tag, .string txt, .string key, .slice A n c, .slice A2 n2 c2]] w _
    go_enter Try.func38, Try.ntmps38
    go_upto_region 1 with fail
    generalize w.alloc (.cells #[.string tag, .string txt, .string key, .slice A n c, .slice A2 n2 c2] 38) = W at H1 N1 ⊢
    have hBW : B ≤ W.heap.size := by have := H1.out.size; omega
    have a0 : W.cell? ⟨w.heap.size, 0, none⟩ = some (.string tag) := N1.out.c0
    have a1 : W.cell? ⟨w.heap.size, 1, none⟩ = some (.string txt) := N1.out.c1
    have a2 : W.cell? ⟨w.heap.size, 2, none⟩ = some (.string key) := N1.out.c2
    have a3 : W.cell? ⟨w.heap.size, 3, none⟩ = some (.slice A n c) := N1.out.c3
    have a4 : W.cell? ⟨w.heap.size, 4, none⟩ = some (.slice A2 n2 c2) := N1.out.c4
    cases tE : tag.toList.isEmpty with
    | true =>
      have PE : Hid (putH (.mk tag txt key attrs (erL kids)) = P2.putL txt.data.toList) := Lib.hid (putH_text tE)
      go_wp2_with fail
      refine (P2.put_any txt W (by omega)).mono ?_
      rintro e w2 ⟨rfl, b2⟩
      have V2 := Lib.hid (H1.out.on b2 (Nat.le_refl _) hBW)
      have hB2 : B ≤ w2.heap.size := by have := b2.size; omega
      have hps := P2.putB_size txt
      have hll : l.length ≤ 1000000000 := by have := HLEN.out; omega
      clear b2 a0 a1 a2 a3 a4
      go_wp2_with fail
      refine (Bd.write_any B b l (P2.putB txt) w w2 V2.out (by omega) hB2).mono ?_
      rintro e w3 ⟨rfl, h3, k3, z3⟩
      have V3 := Lib.hid h3
      clear h3 k3 z3
      go_wp2_with fail
      first | go_ret | go_ret2 | (refine bodyPost_ret (v := .tuple #[]) (by simp [results, Try.results38, go_sem]) rfl ?_)
      exact ⟨rfl, wrote_eq V3.out (by rw [PE.out]; simp [P2.putB])⟩
    | false =>
      have hll : l.length ≤ 1000000000 := by have := HLEN.out; omega
      have TW := Lib.hid (TT.out.later H1.out.2.1 (Nat.le_refl _))
      go_wp2_with fail
      refine (open_any (.mk tag txt key ⟨A, n, c⟩ attrs ⟨A2, n2, c2⟩ kids) B b l W H1.out.1 hBW TW.out f1 F4.out (by omega)).mono ?_
      rintro e w2 ⟨rfl, h2⟩
      have V2 : Hid (Bd.Wrote B b (l ++ openH tag.data.toList attrs) w w2) := Lib.hid (H1.out.trans h2)
      have N2 := Lib.hid (tb_keeps N1.out h2.2.2)
      have hB2 : B ≤ w2.heap.size := by have := h2.size; omega
      clear h2 a0 a1 a2 a3 a4
      have a0 : w2.cell? ⟨w.heap.size, 0, none⟩ = some (.string tag) := N2.out.c0
      have a4 : w2.cell? ⟨w.heap.size, 4, none⟩ = some (.slice A2 n2 c2) := N2.out.c4
      go_wp2_with fail
      refine (P1.void_any tag _).mono ?_
      rintro e w' ⟨rfl, rfl⟩
      obtain ⟨bv, hbv⟩ : ∃ b, P1.voidB tag.data.toList = b := ⟨_, rfl⟩
      rw [hbv]
      have HV := Lib.hid hbv
      clear hbv
      cases bv with
      | true =>
        go_wp2_with fail
        first | go_ret | go_ret2 | (refine bodyPost_ret (v := .tuple #[]) (by simp [results, Try.results38, go_sem]) rfl ?_)
        exact ⟨rfl, wrote_eq V2.out (by rw [putH_void tE HV.out])⟩
      | false =>
        have PE : Hid (putH (.mk tag txt key attrs (erL kids)) = openH tag.data.toList attrs ++ (allH (erL kids) ++ 60 :: 47 :: (tag.data.toList ++ [62]))) := Lib.hid (putH_el tE HV.out)
        have LN : Hid ((l ++ openH tag.data.toList attrs).length + (allH (erL kids)).length ≤ 1000000000) := Lib.hid (by
          have h1 := HLEN.out
          rw [PE.out] at h1
          simp only [List.length_append] at h1 ⊢
          omega)
        go_wp2_with fail
        refine (KA.out B b _ w2 A2 n2 c2 V2.out.1 hB2 (KH.out.below V2.out.2.1 (Nat.le_refl _)) KL.out (fun k hk => (KS.out k hk).later V2.out.2.1 (Nat.le_refl _)) F5.out CL.out LN.out).mono ?_
        rintro e w3 ⟨rfl, h3⟩
        have V3 := Lib.hid (V2.out.trans h3)
        have N3 := Lib.hid (tb_keeps N2.out h3.2.2)
        have hB3 : B ≤ w3.heap.size := by have := h3.size; omega
        clear h3 a0 a4
        generalize hx : l ++ openH tag.data.toList attrs ++ allH (erL kids) = x at V3
        have HX := Lib.hid hx
        have hxl : x.length ≤ 1000000000 := by rw [← hx, List.length_append]; exact LN.out
        clear hx
        go_wp2_with fail
        refine (Bd.write_any B b x ⟨#[60, 47]⟩ w w3 V3.out (by show _ + 2 ≤ _; omega) hB3).mono ?_
        rintro e w4 ⟨rfl, h4, k4, z4⟩
        have V4 := Lib.hid h4
        have N4 := Lib.hid (tb_keeps N3.out k4)
        have hB4 : B ≤ w4.heap.size := by omega
        clear h4 k4 z4
        have a0 : w4.cell? ⟨w.heap.size, 0, none⟩ = some (.string tag) := N4.out.c0
        go_wp2_with fail
        refine (Bd.write_any B b _ tag w w4 V4.out (by rw [List.length_append]; show _ + 2 + _ ≤ _; omega) hB4).mono ?_
        rintro e w5 ⟨rfl, h5, k5, z5⟩
        have V5 := Lib.hid h5
        have hB5 : B ≤ w5.heap.size := by omega
        clear h5 k5 z5 a0
        go_wp2_with fail
        refine (Bd.write_any B b _ ⟨#[62]⟩ w w5 V5.out (by rw [List.length_append, List.length_append, str_len]; show _ + 2 + _ + 1 ≤ _; omega) hB5).mono ?_
        rintro e w6 ⟨rfl, h6, k6, z6⟩
        have V6 := Lib.hid h6
        clear h6 k6 z6
        go_wp2_with fail
        go_end0
        exact ⟨rfl, wrote_eq V6.out (by rw [PE.out, ← HX.out]; simp)⟩

/-! ### Put and All -/
def htmlB (t : PT) : ByteArray := ⟨(putH t).toArray⟩
def htmlsB (l : List PT) : ByteArray := ⟨(allH l).toArray⟩
theorem sall_any (ts : List TV) (A : Option Addr) (n c : Nat) (w : World) (hh : kT.Holds w w.heap.size A ts) (hn : ts.length = n) (hok : ∀ t ∈ ts, TOk w w.heap.size t) (hf : fewL (erL ts) = true) (hc : countL (erL ts) ≤ 1000) :
    Calls Try.prog 11 #[.slice A n c] w fun e w' => e = .returned (.string (htmlsB (erL ts))) ∧ Below w.heap.size w w' := by
  have HL : Hid ((allH (erL ts)).length ≤ 30000000) := Lib.hid (by have := allH_len hf; omega)
  have HH := Lib.hid hh
  have HN := Lib.hid hn
  have HT := Lib.hid hok
  have HF := Lib.hid hf
  have HC := Lib.hid hc
  have I1 : Hid (Bd.IsB w.heap.size w.heap.size [] (w.alloc (.cells #[.pointer none, .slice none 0 0] 51))) := Lib.hid (Bd.IsB.fresh w)
  have B2 : Hid (Below w.heap.size w (w.alloc (.cells #[.pointer none, .slice none 0 0] 51))) := Lib.hid ((Below.refl _ _).alloc (Nat.le_refl _) _)
  clear hh hn hok hf hc
  go_enter Try.func11, Try.ntmps11
  go_upto_region 2 with fail
  generalize w.alloc (.cells #[.pointer none, .slice none 0 0] 51) = W2 at I1 B2 ⊢
  go_wp2_with fail
  refine (putAll_of ts (fun t _ => put_any t) w.heap.size w.heap.size [] W2 A n c I1.out B2.out.size (HH.out.below B2.out (Nat.le_refl _)) HN.out (fun t ht => (HT.out t ht).later B2.out (Nat.le_refl _)) HF.out HC.out (by have := HL.out; simp only [List.length_nil]; omega)).mono ?_
  rintro e w3 ⟨rfl, h3⟩
  have V3 := Lib.hid h3
  clear h3
  go_wp2_with fail
  refine (Bd.read_any w.heap.size w.heap.size _ w3 V3.out.1 (by have := V3.out.size; have := B2.out.size; omega)).mono ?_
  rintro e w4 ⟨rfl, b4⟩
  have B4 := Lib.hid (B2.out.trans (V3.out.2.1.trans b4))
  clear b4
  go_wp2_with fail
  go_ret
  exact ⟨rfl, B4.out⟩
end Go.Proofs.Ytbdcbjeeaebfeaa.P9

/- What placketref08.Put and placketref08.All answer: each tree's HTML. No condition but those stated. -/
namespace Go.Proofs.Ytbdcbjeeaebfeaa.P9
open Go.RowKit Kd P4 P5 P8

def RPutC (t : TV) : Prop := ∀ w : World, TOk w w.heap.size t → fewP (er t) = true → countP (er t) ≤ 1000 →
  Calls Try.prog 35 #[.agg #[.string t.tag, .string t.txt, .string t.key, .slice t.sa.A t.sa.n t.sa.c, .slice t.sk.A t.sk.n t.sk.c]] w fun e w' => e = .returned (.string (htmlB (er t))) ∧ Below w.heap.size w w'
def RAllC (ts : List TV) : Prop := ∀ (w : World) (A : Option Addr) (n c : Nat), kT.Holds w w.heap.size A ts → ts.length = n → (∀ t ∈ ts, TOk w w.heap.size t) → fewL (erL ts) = true → countL (erL ts) ≤ 1000 →
  Calls Try.prog 17 #[.slice A n c] w fun e w' => e = .returned (.string (htmlsB (erL ts))) ∧ Below w.heap.size w w'
theorem html_size {t : PT} (h : fewP t = true) (hc : countP t ≤ 1000) : (htmlB t).size ≤ 30000000 := by
  have := putH_len t h
  show (putH t).toArray.size ≤ _
  simp only [List.size_toArray]
  omega

set_option maxHeartbeats 2000000 in
theorem rall_of (ts : List TV) (IH : ∀ t ∈ ts, RPutC t) : RAllC ts := by
  intro w A n c hh hn hok hf hc
  have KH : Hid (kT.Holds w w.heap.size A ts) := Lib.hid hh
  have KL : Hid (ts.length = n) := Lib.hid hn
  have KS : Hid (∀ t ∈ ts, TOk w w.heap.size t) := Lib.hid hok
  have HI : Hid (∀ t ∈ ts, RPutC t) := Lib.hid IH
  have EL : Hid ((erL ts).length = n) := Lib.hid (by rw [erL_map]; simpa using hn)
  have F5 : Hid (∀ k (hk : k < ts.length), fewP (er ts[k]) = true ∧ countP (er ts[k]) ≤ 1000) := Lib.hid (fun k hk => by
    have hk' : k < (erL ts).length := by rw [erL_map]; simpa using hk
    have h1 := fewL_at hk' hf
    have h2 := countL_at hk'
    have e : (erL ts)[k] = er ts[k] := by simp [erL_map]
    rw [e] at h1 h2
    exact ⟨h1, by omega⟩)
  have HLEN : Hid ((allH (erL ts)).length ≤ 30000000) := Lib.hid (by have := allH_len hf; omega)
  have hn1 : n ≤ 1000 := by have := len_le_count (erL ts); have := EL.out; omega
  clear hh hn hok hf hc IH
  go_enter Try.func17, Try.ntmps17
  go_wp2_with fail
  go_loopw [3, 4] (fun s i wr => ∃ (k : Nat), k ≤ n ∧ i = .int .i64 k ∧ (∃ x : ByteArray, s = .string x ∧ x.size ≤ 30000000 ∧ Hid (x = ⟨(allH ((erL ts).take k)).toArray⟩)) ∧ Hid (Below w.heap.size w wr)) (fun _ i _ => n - (intOf i).toNat)
  case atStart => exact ⟨0, by omega, rfl, ⟨_, rfl, by decide, Lib.hid (by simp [allH])⟩, Lib.hid (Below.refl _ _)⟩
  case round =>
    obtain ⟨k, hk, rfl, ⟨x, rfl, hx, HX⟩, HW⟩ := hrel
    by_cases hkn : k < n
    · have hkl : k < ts.length := by have := KL.out; omega
      have hke : k < (erL ts).length := by have := EL.out; omega
      obtain ⟨b', o, rfl, hb', g0, g1, g2, g3, g4⟩ := cell_of_trees (KH.out.on HW.out) hkl
      have SN : Hid (allH ((erL ts).take (k + 1)) = allH ((erL ts).take k) ++ putH (er ts[k])) := Lib.hid (by
        rw [allH_snoc hke]
        simp [erL_map])
      obtain ⟨f1, f2⟩ := F5.out k hkl
      have hsz := html_size f1 f2
      have LE : Hid (x.size + (htmlB (er ts[k])).size ≤ 30000000) := Lib.hid (by
        have h1 := congrArg List.length SN.out
        have h2 := allH_take_le (erL ts) (k + 1)
        have h3 := HLEN.out
        have h4 : x.size = (allH ((erL ts).take k)).length := by rw [HX.out]; show (allH ((erL ts).take k)).toArray.size = _; simp
        have h5 : (htmlB (er ts[k])).size = (putH (er ts[k])).length := by show (putH (er ts[k])).toArray.size = _; simp
        rw [List.length_append] at h1
        omega)
      have CK : Hid (Calls Try.prog 35 #[.agg #[.string ts[k].tag, .string ts[k].txt, .string ts[k].key, .slice ts[k].sa.A ts[k].sa.n ts[k].sa.c, .slice ts[k].sk.A ts[k].sk.n ts[k].sk.c]] wr fun e w' => e = .returned (.string (htmlB (er ts[k]))) ∧ Below wr.heap.size wr w') := Lib.hid (HI.out _ (List.getElem_mem hkl) wr ((KS.out _ (List.getElem_mem hkl)).on HW.out) f1 f2)
      clear f1 f2
      generalize ts[k] = d at g0 g1 g2 g3 g4 SN CK hsz LE
      go_wp2_with fail
      refine CK.out.mono ?_
      rintro e w2 ⟨rfl, b2⟩
      have B2 := Lib.hid (HW.out.trans (b2.mono HW.out.size))
      clear b2
      go_wp2_with fail
      go_roundw
      case rel => exact ⟨k + 1, by omega, by go_num, ⟨_, rfl, by rw [ByteArray.size_append]; exact LE.out, Lib.hid (by rw [SN.out, HX.out]; exact P2.str_append _ _)⟩, B2⟩
      case measure => simp [intOf]; omega
    · obtain rfl : k = n := by omega
      go_wp2_with fail
      go_ret
      exact ⟨P2.ret_str (by rw [HX.out, ← EL.out, List.take_length]; rfl), HW.out⟩
end Go.Proofs.Ytbdcbjeeaebfeaa.P9
