/- What placketref08.Put and placketref08.All answer, for trees whose texts and lists are not too long, and not too many. No condition but those stated. -/
import Derived.Deep.RegionHeld3
import Derived.Deep.DeepCutAuto
import Derived.Deep.CutBlock
import Derived.Deep.DrawnRows
import Derived.Test.YtbdcbjeeaebfeaaM17
import Derived.Test.YtbdcbjeeaebfeaaM31
set_option linter.unusedVariables false
set_option linter.unusedSimpArgs false
namespace Go.Proofs.Ytbdcbjeeaebfeaa.P10
open Go.RowKit Kd P4 P5 P8 P9

def RPutK (t : TV) : Prop := ∀ w : World, TOk w w.heap.size t → okP (er t) = true → (putH (er t)).length ≤ 1000000000 →
  Calls Try.prog 35 #[.agg #[.string t.tag, .string t.txt, .string t.key, .slice t.sa.A t.sa.n t.sa.c, .slice t.sk.A t.sk.n t.sk.c]] w fun e w' => e = .returned (.string (htmlB (er t))) ∧ Below w.heap.size w w'
def RAllK (ts : List TV) : Prop := ∀ (w : World) (A : Option Addr) (n c : Nat), kT.Holds w w.heap.size A ts → ts.length = n → (∀ t ∈ ts, TOk w w.heap.size t) → okL (erL ts) = true → ts.length ≤ 100000 → (allH (erL ts)).length ≤ 1000000000 →
  Calls Try.prog 17 #[.slice A n c] w fun e w' => e = .returned (.string (htmlsB (erL ts))) ∧ Below w.heap.size w w'
theorem html_len (t : PT) : (htmlB t).size = (putH t).length := by show (putH t).toArray.size = _; simp
theorem htmls_len (l : List PT) : (htmlsB l).size = (allH l).length := by show (allH l).toArray.size = _; simp
set_option maxHeartbeats 2000000 in
theorem rallK_of (ts : List TV) (IH : ∀ t ∈ ts, RPutK t) : RAllK ts := by
  intro w A n c hh hn hok hf hc hl
  have KH : Hid (kT.Holds w w.heap.size A ts) := Lib.hid hh
  have KL : Hid (ts.length = n) := Lib.hid hn
  have KS : Hid (∀ t ∈ ts, TOk w w.heap.size t) := Lib.hid hok
  have HI : Hid (∀ t ∈ ts, RPutK t) := Lib.hid IH
  have EL : Hid ((erL ts).length = n) := Lib.hid (by rw [erL_map]; simpa using hn)
  have F5 : Hid (∀ k (hk : k < ts.length), okP (er ts[k]) = true ∧ (putH (er ts[k])).length ≤ 1000000000) := Lib.hid (fun k hk => by
    have hk' : k < (erL ts).length := by rw [erL_map]; simpa using hk
    have h1 := okL_at hk' hf
    have h2 := allH_at hk'
    have e : (erL ts)[k] = er ts[k] := by simp [erL_map]
    rw [e] at h1 h2
    exact ⟨h1, by omega⟩)
  have HLEN : Hid ((allH (erL ts)).length ≤ 1000000000) := Lib.hid hl
  have hn1 : n ≤ 100000 := by omega
  clear hh hn hok hf hc hl IH
  go_enter Try.func17, Try.ntmps17
  go_wp2_with fail
  go_loopw [3, 4] (fun s i wr => ∃ (k : Nat), k ≤ n ∧ i = .int .i64 k ∧ (∃ x : ByteArray, s = .string x ∧ x.size ≤ 1000000000 ∧ Hid (x = ⟨(allH ((erL ts).take k)).toArray⟩)) ∧ Hid (Below w.heap.size w wr)) (fun _ i _ => n - (intOf i).toNat)
  case atStart => exact ⟨0, by omega, rfl, ⟨_, rfl, by decide, Lib.hid (by simp [allH])⟩, Lib.hid (Below.refl _ _)⟩
  case round =>
    obtain ⟨k, hk, rfl, ⟨x, rfl, hx, HX⟩, HW⟩ := hrel
    by_cases hkn : k < n
    · have hkl : k < ts.length := by have := KL.out; omega
      have hke : k < (erL ts).length := by have := EL.out; omega
      obtain ⟨b', o, rfl, hb', g0, g1, g2, g3, g4⟩ := cell_of_trees (KH.out.on HW.out) hkl
      have SN : Hid (allH ((erL ts).take (k + 1)) = allH ((erL ts).take k) ++ putH (er ts[k])) := Lib.hid (by
        rw [allH_snoc hke]
        simp [erL_map])
      obtain ⟨f1, f2⟩ := F5.out k hkl
      have hsz : (htmlB (er ts[k])).size ≤ 1000000000 := by rw [html_len]; exact f2
      have LE : Hid (x.size + (htmlB (er ts[k])).size ≤ 1000000000) := Lib.hid (by
        have h1 := congrArg List.length SN.out
        have h2 := allH_take_le (erL ts) (k + 1)
        have h3 := HLEN.out
        have h4 : x.size = (allH ((erL ts).take k)).length := by rw [HX.out]; show (allH ((erL ts).take k)).toArray.size = _; simp
        have h5 : (htmlB (er ts[k])).size = (putH (er ts[k])).length := by show (putH (er ts[k])).toArray.size = _; simp
        rw [List.length_append] at h1
        omega)
      have CK : Hid (Calls Try.prog 35 #[.agg #[.string ts[k].tag, .string ts[k].txt, .string ts[k].key, .slice ts[k].sa.A ts[k].sa.n ts[k].sa.c, .slice ts[k].sk.A ts[k].sk.n ts[k].sk.c]] wr fun e w' => e = .returned (.string (htmlB (er ts[k]))) ∧ Below wr.heap.size wr w') := Lib.hid (HI.out _ (List.getElem_mem hkl) wr ((KS.out _ (List.getElem_mem hkl)).on HW.out) f1 f2)
      clear f1 f2
      generalize ts[k] = d at g0 g1 g2 g3 g4 SN CK hsz LE
      go_wp2_with fail
      refine CK.out.mono ?_
      rintro e w2 ⟨rfl, b2⟩
      have B2 := Lib.hid (HW.out.trans (b2.mono HW.out.size))
      clear b2
      go_wp2_with fail
      go_roundw
      case rel => exact ⟨k + 1, by omega, by go_num, ⟨_, rfl, by rw [ByteArray.size_append]; exact LE.out, Lib.hid (by rw [SN.out, HX.out]; exact P2.str_append _ _)⟩, B2⟩
      case measure => simp [intOf]; omega
    · obtain rfl : k = n := by omega
      go_wp2_with fail
      go_ret
      exact ⟨P2.ret_str (by rw [HX.out, ← EL.out, List.take_length]; rfl), HW.out⟩
theorem conv34 (W : World) (g : Nat) (h : W.heap[g]? = some (.cells #[.int .u8 34] 5 (0, 0))) : (convert 49 9 (.slice (some ⟨g, 0, none⟩) 1 1)).run Try.prog W = .ok (.string ⟨#[34]⟩) W := by
  refine (run_convert_bytes_back (P := Try.prog) _ 49 9 5 ⟨g, 0, none⟩ 1 [34] Try.underlying49 Try.underlying5 Try.underlying9 ?_).trans rfl
  intro j hj
  simp only [List.length_cons, List.length_nil] at hj
  obtain rfl : j = 0 := by omega
  simp [Addr.add, World.cell?, h]
theorem bl_alloc {a w : World} (h : Below a.heap.size a w) (o : Obj) : Below a.heap.size a (w.alloc o) := h.alloc h.size o
theorem bl_call {a w w5 : World} (b5 : Below w.heap.size w w5) (h : Below a.heap.size a w) : Below a.heap.size a w5 := h.trans (b5.mono h.size)
theorem bl_drew {B : Nat} {a w : World} (h : Below B a w) : Below B a w.drew := ⟨h.os, h.tape, h.output, h.size, h.block⟩
theorem up_call {w w5 : World} (b5 : Below w.heap.size w w5) {g : Nat} {x : Obj} (h : w.heap[g]? = some x) : w5.heap[g]? = some x := (b5.block g (heap_lt h)).trans h

set_option maxRecDepth 100000 in
set_option maxHeartbeats 4000000 in
theorem rputK_of (tag txt key : ByteArray) (A : Option Addr) (n c : Nat) (attrs : List P3.At) (A2 : Option Addr) (n2 c2 : Nat) (kids : List TV) (IH : RAllK kids) : RPutK (.mk tag txt key ⟨A, n, c⟩ attrs ⟨A2, n2, c2⟩ kids) := by
  intro w h hf hl
  have RA : Hid (RAllK kids) := Lib.hid IH
  have AL : Hid (attrs.length = n) := Lib.hid h.al
  have AH : Hid (kA.Holds w w.heap.size A attrs) := Lib.hid h.ah
  have KL : Hid (kids.length = n2) := Lib.hid h.kl
  have KH : Hid (kT.Holds w w.heap.size A2 kids) := Lib.hid h.kh
  have KS : Hid (∀ k ∈ kids, TOk w w.heap.size k) := Lib.hid h.ks
  have B1 : Hid (Below w.heap.size w (w.alloc (.cells #[.string tag, .string txt, .string key, .slice A n c, .slice A2 n2 c2] 38))) := Lib.hid ((Below.refl _ _).alloc (Nat.le_refl _) _)
  have N1 : Hid (TB (w.alloc (.cells #[.string tag, .string txt, .string key, .slice A n c, .slice A2 n2 c2] 38)) w.heap.size (.mk tag txt key ⟨A, n, c⟩ attrs ⟨A2, n2, c2⟩ kids)) := Lib.hid (TB.new w (.mk tag txt key ⟨A, n, c⟩ attrs ⟨A2, n2, c2⟩ kids))
  rw [er] at hf hl ⊢
  rw [okP] at hf
  simp only [Bool.and_eq_true, decide_eq_true_eq] at hf
  obtain ⟨⟨⟨⟨⟨f1, f2⟩, f3⟩, f4⟩, f6⟩, f5⟩ := hf
  have F5 := Lib.hid f5
  have CL : Hid (kids.length ≤ 100000) := Lib.hid (by rw [erL_map, List.length_map] at f6; omega)
  have SH : Hid (∀ k (hk : k < attrs.length), attrs[k].nm.size ≤ 100000 ∧ attrs[k].vl.size ≤ 100000) := Lib.hid (fun k hk => okA_at f4 hk)
  have hn : n ≤ 100000 := by have := AL.out; have := okA_len f4; omega
  have LL : Hid (tag.toList.isEmpty = false → (∀ k, (60 :: (tag.data.toList ++ attrsH (attrs.take k))).length ≤ 1000000000) ∧ (P1.voidB tag.data.toList = false → (allH (erL kids)).length ≤ 1000000000)) := Lib.hid (fun ht => by
    refine ⟨fun k => ?_, fun hv => ?_⟩
    · have h1 := attrsH_take_le attrs k
      have h2 : (openH tag.data.toList attrs).length ≤ 1000000000 := by
        cases hvd : P1.voidB tag.data.toList with
        | true => rw [putH_void ht hvd] at hl; exact hl
        | false => rw [putH_el ht hvd, List.length_append] at hl; omega
      simp only [openH, List.length_cons, List.length_append, List.length_nil] at h2 ⊢
      omega
    · rw [putH_el ht hv, List.length_append, List.length_append] at hl
      omega)
  clear h IH f4 f5 f6 hl
  show Calls Try.prog 35 #[.agg #[.string tag, .string txt, .string key, .slice A n c, .slice A2 n2 c2]] w _
  go_enter Try.func35, Try.ntmps35
  go_upto_region 1 with fail
  generalize w.alloc (.cells #[.string tag, .string txt, .string key, .slice A n c, .slice A2 n2 c2] 38) = W at B1 N1 ⊢
  have a0 : W.cell? ⟨w.heap.size, 0, none⟩ = some (.string tag) := N1.out.c0
  have a1 : W.cell? ⟨w.heap.size, 1, none⟩ = some (.string txt) := N1.out.c1
  have a2 : W.cell? ⟨w.heap.size, 2, none⟩ = some (.string key) := N1.out.c2
  have a3 : W.cell? ⟨w.heap.size, 3, none⟩ = some (.slice A n c) := N1.out.c3
  have a4 : W.cell? ⟨w.heap.size, 4, none⟩ = some (.slice A2 n2 c2) := N1.out.c4
  cases tE : tag.toList.isEmpty with
  | true =>
    have PE : Hid (putH (.mk tag txt key attrs (erL kids)) = P2.putL txt.data.toList) := Lib.hid (putH_text tE)
    go_wp2_with fail
    refine (P2.rput_any txt W (by omega)).mono ?_
    rintro e w2 ⟨rfl, b2⟩
    have B2 := Lib.hid (B1.out.trans (b2.mono B1.out.size))
    clear b2 a0 a1 a2 a3 a4
    go_wp2_with fail
    go_ret
    exact ⟨P2.ret_str (by unfold htmlB; rw [PE.out]; rfl), B2.out⟩
  | false =>
    have LT := Lib.hid (LL.out tE).1
    have LV := Lib.hid (LL.out tE).2
    clear LL
    go_wp2_with fail
    go_loopw [3, 4] (fun s i wr => ∃ (k : Nat), k ≤ n ∧ i = .int .i64 k ∧ (∃ x : ByteArray, s = .string x ∧ x.size ≤ 1000000000 ∧ Hid (x = ⟨(60 :: (tag.data.toList ++ attrsH (attrs.take k))).toArray⟩)) ∧ Hid (Below w.heap.size w wr) ∧ Hid (TB wr w.heap.size (.mk tag txt key ⟨A, n, c⟩ attrs ⟨A2, n2, c2⟩ kids))) (fun _ i _ => n - (intOf i).toNat)
    case atStart => exact ⟨0, by omega, rfl, ⟨_, rfl, by rw [ByteArray.size_append]; show 1 + _ ≤ _; omega, Lib.hid (by apply ByteArray.ext; simp [attrsH])⟩, B1, N1⟩
    case round =>
      obtain ⟨k, hk, rfl, ⟨x, rfl, hx, HX⟩, HW, NW⟩ := hrel
      have a3 : wr.cell? ⟨w.heap.size, 3, none⟩ = some (.slice A n c) := NW.out.c3
      by_cases hkn : k < n
      · have hkl : k < attrs.length := by have := AL.out; omega
        obtain ⟨b', o, rfl, hb', h0, h1, h2⟩ := (p3holds (AH.out.on HW.out)) k hkl
        have SN : Hid (attrsH (attrs.take (k + 1)) = attrsH (attrs.take k) ++ attrH attrs[k]) := Lib.hid (attrsH_snoc hkl)
        have hsh := SH.out k hkl
        generalize attrs[k] = a at h0 h1 h2 SN hsh
        obtain ⟨ha1, ha2⟩ := hsh
        have hps := P2.putB_size a.vl
        generalize hpv : P2.putB a.vl = pv at hps
        have HPV := Lib.hid hpv
        clear hpv
        obtain ⟨x1, hx1⟩ : ∃ y, x ++ ⟨#[32]⟩ = y := ⟨_, rfl⟩
        obtain ⟨x2, hx2⟩ : ∃ y, x1 ++ a.nm = y := ⟨_, rfl⟩
        obtain ⟨x3, hx3⟩ : ∃ y, x2 ++ ⟨#[61]⟩ = y := ⟨_, rfl⟩
        obtain ⟨x4, hx4⟩ : ∃ y, x3 ++ ⟨#[34]⟩ = y := ⟨_, rfl⟩
        obtain ⟨x5, hx5⟩ : ∃ y, x4 ++ pv = y := ⟨_, rfl⟩
        obtain ⟨x6, hx6⟩ : ∃ y, x5 ++ ⟨#[34]⟩ = y := ⟨_, rfl⟩
        have z1 : x1.size = x.size + 1 := by rw [← hx1, ByteArray.size_append]; rfl
        have z2 : x2.size = x1.size + a.nm.size := by rw [← hx2, ByteArray.size_append]
        have z3 : x3.size = x2.size + 1 := by rw [← hx3, ByteArray.size_append]; rfl
        have z4 : x4.size = x3.size + 1 := by rw [← hx4, ByteArray.size_append]; rfl
        have z5 : x5.size = x4.size + pv.size := by rw [← hx5, ByteArray.size_append]
        have z6 : x6.size = x5.size + 1 := by rw [← hx6, ByteArray.size_append]; rfl
        have s1 : ∀ W : World, (Op.stringOp .add x ⟨#[32]⟩).run Try.prog W = .ok (.string x1) W := fun W => hx1 ▸ run_string_add_sum W _ _ (by show _ + 1 ≤ _; omega)
        have s2 : ∀ W : World, (Op.stringOp .add x1 a.nm).run Try.prog W = .ok (.string x2) W := fun W => hx2 ▸ run_string_add_sum W _ _ (by omega)
        have s3 : ∀ W : World, (Op.stringOp .add x2 ⟨#[61]⟩).run Try.prog W = .ok (.string x3) W := fun W => hx3 ▸ run_string_add_sum W _ _ (by show _ + 1 ≤ _; omega)
        have s4 : ∀ W : World, (Op.stringOp .add x3 ⟨#[34]⟩).run Try.prog W = .ok (.string x4) W := fun W => hx4 ▸ run_string_add_sum W _ _ (by show _ + 1 ≤ _; omega)
        have s5 : ∀ W : World, (Op.stringOp .add x4 pv).run Try.prog W = .ok (.string x5) W := fun W => hx5 ▸ run_string_add_sum W _ _ (by omega)
        have s6 : ∀ W : World, (Op.stringOp .add x5 ⟨#[34]⟩).run Try.prog W = .ok (.string x6) W := fun W => hx6 ▸ run_string_add_sum W _ _ (by show _ + 1 ≤ _; omega)
        have X6 : Hid (x6 = ⟨(60 :: (tag.data.toList ++ attrsH (attrs.take (k + 1)))).toArray⟩) := Lib.hid (by
          rw [← hx6, ← hx5, ← hx4, ← hx3, ← hx2, ← hx1, ← HPV.out, SN.out, HX.out]
          apply ByteArray.ext
          simp [attrH, P2.putB, ByteArray.data_append])
        have zx : x6.size ≤ 1000000000 := by
          have := LT.out (k + 1)
          rw [X6.out]
          show (60 :: (tag.data.toList ++ attrsH (attrs.take (k + 1)))).toArray.size ≤ _
          rw [List.size_toArray]
          exact this
        clear hx1 hx2 hx3 hx4 hx5 hx6 z1 z2 z3 z4 z5 z6
        have cv : ∀ (W : World), Calls Try.prog 49 #[.string a.vl] W fun e w' => e = .returned (.string pv) ∧ Below W.heap.size W w' := fun W => by
          have := P2.rput_any a.vl W (by omega)
          rw [HPV.out] at this
          exact this
        have CV := Lib.hid cv
        clear cv
        have BR : Hid (Below w.heap.size w wr) := HW
        have SKEEP : Hid (∀ w', Below wr.heap.size wr w' → (w'.cell? ⟨w.heap.size, 3, none⟩ = some (.slice (some ⟨b', o, none⟩) n c) ∧ w'.cell? ⟨b', o + k * 3, none⟩ = some (.string a.nm) ∧ w'.cell? ⟨b', o + k * 3 + 1, none⟩ = some (.string a.vl))) := Lib.hid (fun w' h => ⟨(h.cell NW.out.lt).trans a3, (h.cell hb').trans h0, (h.cell hb').trans h1⟩)
        go_upto_block 1 with (fail)
        go_cut [3] (fun s wx => s = .string x6 ∧ Hid (Below wr.heap.size wr wx))
        case first =>
          go_upto_region 7 with fail
          refine wp_region_held_drew (S := fun w' => w'.cell? ⟨w.heap.size, 3, none⟩ = some (.slice (some ⟨b', o, none⟩) n c) ∧ w'.cell? ⟨b', o + k * 3, none⟩ = some (.string a.nm) ∧ w'.cell? ⟨b', o + k * 3 + 1, none⟩ = some (.string a.vl)) (by kernel_rfl) (SKEEP.out _ (bl_drew (Below.refl _ _))) (fun hHeld => ?_)
          refine wpAnyH_take (i := 0) (v := ?v1) rfl (by kernel_rfl) (by kernel_rfl) (by kernel_rfl) (fun _ _ _ h => h) (Or.inl ⟨by rfl, ?hy1⟩) (by assumption) ?hr1
          case hy1 => (intro w' hSw; (try dsimp only at hSw); go_simp; try with_reducible rfl)
          (try simp only [Act.put, List.setIfInBounds_toArray, List.set_cons_zero, List.set_cons_succ])
          refine wpAnyH_take (i := 1) (v := ?v2) rfl (by kernel_rfl) (by kernel_rfl) (by kernel_rfl) (fun _ _ _ h => h) (Or.inl ⟨by rfl, ?hy2⟩) (by assumption) ?hr2
          case hy2 => (intro w' hSw; (try dsimp only at hSw); go_simp; try with_reducible rfl)
          (try simp only [Act.put, List.setIfInBounds_toArray, List.set_cons_zero, List.set_cons_succ])
          refine wpAnyH_take (i := 2) (v := ?v3) rfl (by kernel_rfl) (by kernel_rfl) (by kernel_rfl) (fun _ _ _ h => h) (Or.inl ⟨by rfl, ?hy3⟩) (by assumption) ?hr3
          case hy3 => (intro w' hSw; (try dsimp only at hSw); go_simp; try with_reducible rfl)
          (try simp only [Act.put, List.setIfInBounds_toArray, List.set_cons_zero, List.set_cons_succ])
          refine wpAnyH_take (i := 3) (v := ?v4) rfl (by kernel_rfl) (by kernel_rfl) (by kernel_rfl) (fun _ _ _ h => h) (Or.inl ⟨by rfl, ?hy4⟩) (by assumption) ?hr4
          case hy4 => (intro w' hSw; (try dsimp only at hSw); go_simp; try with_reducible rfl)
          (try simp only [Act.put, List.setIfInBounds_toArray, List.set_cons_zero, List.set_cons_succ])
          refine wpAnyH_take (i := 4) (v := ?v5) rfl (by kernel_rfl) (by kernel_rfl) (by kernel_rfl) (fun _ _ _ h => h) (Or.inl ⟨by rfl, ?hy5⟩) (by assumption) ?hr5
          case hy5 => (intro w' hSw; (try dsimp only at hSw); go_simp; try with_reducible rfl)
          (try simp only [Act.put, List.setIfInBounds_toArray, List.set_cons_zero, List.set_cons_succ])
          refine wpAnyH_take (i := 5) (v := ?v6) rfl (by kernel_rfl) (by kernel_rfl) (by kernel_rfl) (fun _ _ _ h => h) (Or.inl ⟨by rfl, ?hy6⟩) (by assumption) ?hr6
          case hy6 => (intro w' hSw; (try dsimp only at hSw); go_simp; try with_reducible rfl)
          (try simp only [Act.put, List.setIfInBounds_toArray, List.set_cons_zero, List.set_cons_succ])
          refine wpAnyH_take (i := 6) (v := ?v7) rfl (by kernel_rfl) (by kernel_rfl) (by kernel_rfl) (fun _ _ _ h => h) (Or.inl ⟨by rfl, ?hy7⟩) (by assumption) ?hr7
          case hy7 => (intro w' hSw; (try dsimp only at hSw); go_simp; try with_reducible rfl)
          (try simp only [Act.put, List.setIfInBounds_toArray, List.set_cons_zero, List.set_cons_succ])
          refine wpAnyH_take (i := 7) (v := ?v8) rfl (by kernel_rfl) (by kernel_rfl) (by kernel_rfl) (fun _ _ _ h => h) (Or.inl ⟨by rfl, ?hy8⟩) (by assumption) ?hr8
          case hy8 => (intro w' hSw; (try dsimp only at hSw); go_simp; try with_reducible rfl)
          (try simp only [Act.put, List.setIfInBounds_toArray, List.set_cons_zero, List.set_cons_succ])
          refine wpAnyH_take (i := 8) (v := ?v9) rfl (by kernel_rfl) (by kernel_rfl) (by kernel_rfl) (fun _ _ _ h => h) (Or.inl ⟨by rfl, ?hy9⟩) (by assumption) ?hr9
          case hy9 => (intro w' hSw; (try dsimp only at hSw); go_simp; try with_reducible rfl)
          (try simp only [Act.put, List.setIfInBounds_toArray, List.set_cons_zero, List.set_cons_succ])
          refine wpAnyH_take (i := 9) (v := ?v10) rfl (by kernel_rfl) (by kernel_rfl) (by kernel_rfl) (fun _ _ _ h => h) (Or.inl ⟨by rfl, ?hy10⟩) (by assumption) ?hr10
          case hy10 => (intro w' hSw; (try dsimp only at hSw); go_simp; try with_reducible rfl)
          (try simp only [Act.put, List.setIfInBounds_toArray, List.set_cons_zero, List.set_cons_succ])
          refine wpAnyH_take (i := 13) (v := ?v11) rfl (by kernel_rfl) (by kernel_rfl) (by kernel_rfl) (fun _ _ _ h => h) (Or.inl ⟨by rfl, ?hy11⟩) (by assumption) ?hr11
          case hy11 => (intro w' hSw; (try dsimp only at hSw); go_simp; try with_reducible rfl)
          (try simp only [Act.put, List.setIfInBounds_toArray, List.set_cons_zero, List.set_cons_succ])
          refine wpAnyH_take (i := 14) (v := ?v12) rfl (by kernel_rfl) (by kernel_rfl) (by kernel_rfl) (fun _ _ _ h => h) (Or.inl ⟨by rfl, ?hy12⟩) (by assumption) ?hr12
          case hy12 => (intro w' hSw; (try dsimp only at hSw); go_simp; try with_reducible rfl)
          (try simp only [Act.put, List.setIfInBounds_toArray, List.set_cons_zero, List.set_cons_succ])
          refine wpAnyH_take (i := 15) (v := ?v13) rfl (by kernel_rfl) (by kernel_rfl) (by kernel_rfl) (fun _ _ _ h => h) (Or.inl ⟨by rfl, ?hy13⟩) (by assumption) ?hr13
          case hy13 => (intro w' hSw; (try dsimp only at hSw); go_simp; try with_reducible rfl)
          (try simp only [Act.put, List.setIfInBounds_toArray, List.set_cons_zero, List.set_cons_succ])
          refine wpAnyH_take (i := 16) (v := ?v14) rfl (by kernel_rfl) (by kernel_rfl) (by kernel_rfl) (fun _ _ _ h => h) (Or.inl ⟨by rfl, ?hy14⟩) (by assumption) ?hr14
          case hy14 => (intro w' hSw; (try dsimp only at hSw); go_simp; try with_reducible rfl)
          (try simp only [Act.put, List.setIfInBounds_toArray, List.set_cons_zero, List.set_cons_succ])
          refine wpAnyH_take (i := 17) (v := ?v15) rfl (by kernel_rfl) (by kernel_rfl) (by kernel_rfl) (fun _ _ _ h => h) (Or.inl ⟨by rfl, ?hy15⟩) (by assumption) ?hr15
          case hy15 => (intro w' hSw; (try dsimp only at hSw); go_simp; try with_reducible rfl)
          (try simp only [Act.put, List.setIfInBounds_toArray, List.set_cons_zero, List.set_cons_succ])
          refine wpAnyH_take (i := 18) (v := ?v16) rfl (by kernel_rfl) (by kernel_rfl) (by kernel_rfl) (fun _ _ _ h => h) (Or.inl ⟨by rfl, ?hy16⟩) (by assumption) ?hr16
          case hy16 => (intro w' hSw; (try dsimp only at hSw); go_simp; try with_reducible rfl)
          (try simp only [Act.put, List.setIfInBounds_toArray, List.set_cons_zero, List.set_cons_succ])
          refine wpAnyH_ready (rs := [10, 19, 21]) (by kernel_rfl) (by simp) ?_
          refine AllReadyH.cons rfl (fun K hK => ?_) ?_
          · go_simp
            refine hK.out _ _ ?_ (fun hHeld => ?_)
            · exact SKEEP.out _ (by repeat (first | exact Below.refl _ _ | refine bl_alloc ?_ _ | refine bl_call b5 ?_ | refine bl_drew ?_))
            clear hK K
            (try simp only [Act.put, List.setIfInBounds_toArray, List.set_cons_zero, List.set_cons_succ])
            refine wpAnyH_ready (rs := [11, 19, 21]) (by kernel_rfl) (by simp) ?_
            refine AllReadyH.cons rfl (fun K hK => ?_) ?_
            · rw [if_pos (by rfl)]
              go_simp
              rw [conv34]
              rotate_left
              · repeat (first | exact heap_top (by first | rfl | (simp; done) | omega) | refine heap_up ?_ | refine up_call b5 ?_ | refine heap_drew ?_)
              simp only [Result.andThen]
              rw [Oper.upon_value]
              refine hK.out _ _ ?_ (fun hHeld => ?_)
              · exact SKEEP.out _ (by repeat (first | exact Below.refl _ _ | refine bl_alloc ?_ _ | refine bl_call b5 ?_ | refine bl_drew ?_))
              clear hK K
              (try simp only [Act.put, List.setIfInBounds_toArray, List.set_cons_zero, List.set_cons_succ])
              refine wpAnyH_take (i := 12) (v := ?v17) rfl (by kernel_rfl) (by kernel_rfl) (by kernel_rfl) (fun _ _ _ h => h) (Or.inl ⟨by rfl, ?hy17⟩) (by assumption) ?hr17
              case hy17 => (intro w' hSw; (try dsimp only at hSw); go_simp; try with_reducible rfl)
              (try simp only [Act.put, List.setIfInBounds_toArray, List.set_cons_zero, List.set_cons_succ])
              refine wpAnyH_ready (rs := [19, 21]) (by kernel_rfl) (by simp) ?_
              refine AllReadyH.cons rfl (fun K hK => ?_) ?_
              · rw [if_pos (by rfl)]
                go_simp
                go_at_call 49
                refine (CV.out _).mono ?_
                rintro e w5 ⟨rfl, b5⟩
                refine hK.out _ _ ?_ (fun hHeld => ?_)
                · exact SKEEP.out _ (by repeat (first | exact Below.refl _ _ | refine bl_alloc ?_ _ | refine bl_call b5 ?_ | refine bl_drew ?_))
                clear hK K
                (try simp only [Act.put, List.setIfInBounds_toArray, List.set_cons_zero, List.set_cons_succ])
                refine wpAnyH_take (i := 20) (v := ?v18) rfl (by kernel_rfl) (by kernel_rfl) (by kernel_rfl) (fun _ _ _ h => h) (Or.inl ⟨by rfl, ?hy18⟩) (by assumption) ?hr18
                case hy18 => (intro w' hSw; (try dsimp only at hSw); go_simp; try with_reducible rfl)
                (try simp only [Act.put, List.setIfInBounds_toArray, List.set_cons_zero, List.set_cons_succ])
                refine wpAnyH_ready (rs := [21]) (by kernel_rfl) (by simp) ?_
                refine AllReadyH.cons rfl (fun K hK => ?_) ?_
                · go_simp
                  refine hK.out _ _ ?_ (fun hHeld => ?_)
                  · exact SKEEP.out _ (by repeat (first | exact Below.refl _ _ | refine bl_alloc ?_ _ | refine bl_call b5 ?_ | refine bl_drew ?_))
                  clear hK K
                  (try simp only [Act.put, List.setIfInBounds_toArray, List.set_cons_zero, List.set_cons_succ])
                  refine wpAnyH_ready (rs := [22]) (by kernel_rfl) (by simp) ?_
                  refine AllReadyH.cons rfl (fun K hK => ?_) ?_
                  · rw [if_pos (by rfl)]
                    go_simp
                    rw [conv34]
                    rotate_left
                    · repeat (first | exact heap_top (by first | rfl | (simp; done) | omega) | refine heap_up ?_ | refine up_call b5 ?_ | refine heap_drew ?_)
                    simp only [Result.andThen]
                    rw [Oper.upon_value]
                    refine hK.out _ _ ?_ (fun hHeld => ?_)
                    · exact SKEEP.out _ (by repeat (first | exact Below.refl _ _ | refine bl_alloc ?_ _ | refine bl_call b5 ?_ | refine bl_drew ?_))
                    clear hK K
                    (try simp only [Act.put, List.setIfInBounds_toArray, List.set_cons_zero, List.set_cons_succ])
                    refine wpAnyH_take (i := 23) (v := ?v19) rfl (by kernel_rfl) (by kernel_rfl) (by kernel_rfl) (fun _ _ _ h => h) (Or.inl ⟨by rfl, ?hy19⟩) (by assumption) ?hr19
                    case hy19 => (intro w' hSw; (try dsimp only at hSw); go_simp; try with_reducible rfl)
                    (try simp only [Act.put, List.setIfInBounds_toArray, List.set_cons_zero, List.set_cons_succ])
                    refine wpAnyH_take (i := 24) (v := ?v20) rfl (by kernel_rfl) (by kernel_rfl) (by kernel_rfl) (fun _ _ _ h => h) (Or.inl ⟨by rfl, ?hy20⟩) (by assumption) ?hr20
                    case hy20 => (intro w' hSw; (try dsimp only at hSw); go_simp; try with_reducible rfl)
                    (try simp only [Act.put, List.setIfInBounds_toArray, List.set_cons_zero, List.set_cons_succ])
                    refine wpAnyH_done (by kernel_rfl) ?_ _
                    simp only [Act.put, List.getElem_toArray, List.getElem_cons_succ, List.getElem_cons_zero, List.setIfInBounds_toArray, List.set_cons_zero, List.set_cons_succ]
                    go_wp2_with fail
                    go_meet
                    exact ⟨rfl, Lib.hid (by repeat (first | exact Below.refl _ _ | refine bl_alloc ?_ _ | refine bl_call b5 ?_ | refine bl_drew ?_))⟩
                  exact AllReadyH.nil
                exact AllReadyH.nil
              refine AllReadyH.cons rfl (fun K hK => ?_) ?_
              · go_simp
                refine hK.out _ _ ?_ (fun hHeld => ?_)
                · exact SKEEP.out _ (by repeat (first | exact Below.refl _ _ | refine bl_alloc ?_ _ | refine bl_call b5 ?_ | refine bl_drew ?_))
                clear hK K
                (try simp only [Act.put, List.setIfInBounds_toArray, List.set_cons_zero, List.set_cons_succ])
                refine wpAnyH_ready (rs := [19, 22]) (by kernel_rfl) (by simp) ?_
                refine AllReadyH.cons rfl (fun K hK => ?_) ?_
                · rw [if_pos (by rfl)]
                  go_simp
                  go_at_call 49
                  refine (CV.out _).mono ?_
                  rintro e w5 ⟨rfl, b5⟩
                  refine hK.out _ _ ?_ (fun hHeld => ?_)
                  · exact SKEEP.out _ (by repeat (first | exact Below.refl _ _ | refine bl_alloc ?_ _ | refine bl_call b5 ?_ | refine bl_drew ?_))
                  clear hK K
                  (try simp only [Act.put, List.setIfInBounds_toArray, List.set_cons_zero, List.set_cons_succ])
                  refine wpAnyH_take (i := 20) (v := ?v21) rfl (by kernel_rfl) (by kernel_rfl) (by kernel_rfl) (fun _ _ _ h => h) (Or.inl ⟨by rfl, ?hy21⟩) (by assumption) ?hr21
                  case hy21 => (intro w' hSw; (try dsimp only at hSw); go_simp; try with_reducible rfl)
                  (try simp only [Act.put, List.setIfInBounds_toArray, List.set_cons_zero, List.set_cons_succ])
                  refine wpAnyH_ready (rs := [22]) (by kernel_rfl) (by simp) ?_
                  refine AllReadyH.cons rfl (fun K hK => ?_) ?_
                  · rw [if_pos (by rfl)]
                    go_simp
                    rw [conv34]
                    rotate_left
                    · repeat (first | exact heap_top (by first | rfl | (simp; done) | omega) | refine heap_up ?_ | refine up_call b5 ?_ | refine heap_drew ?_)
                    simp only [Result.andThen]
                    rw [Oper.upon_value]
                    refine hK.out _ _ ?_ (fun hHeld => ?_)
                    · exact SKEEP.out _ (by repeat (first | exact Below.refl _ _ | refine bl_alloc ?_ _ | refine bl_call b5 ?_ | refine bl_drew ?_))
                    clear hK K
                    (try simp only [Act.put, List.setIfInBounds_toArray, List.set_cons_zero, List.set_cons_succ])
                    refine wpAnyH_take (i := 23) (v := ?v22) rfl (by kernel_rfl) (by kernel_rfl) (by kernel_rfl) (fun _ _ _ h => h) (Or.inl ⟨by rfl, ?hy22⟩) (by assumption) ?hr22
                    case hy22 => (intro w' hSw; (try dsimp only at hSw); go_simp; try with_reducible rfl)
                    (try simp only [Act.put, List.setIfInBounds_toArray, List.set_cons_zero, List.set_cons_succ])
                    refine wpAnyH_take (i := 24) (v := ?v23) rfl (by kernel_rfl) (by kernel_rfl) (by kernel_rfl) (fun _ _ _ h => h) (Or.inl ⟨by rfl, ?hy23⟩) (by assumption) ?hr23
                    case hy23 => (intro w' hSw; (try dsimp only at hSw); go_simp; try with_reducible rfl)
                    (try simp only [Act.put, List.setIfInBounds_toArray, List.set_cons_zero, List.set_cons_succ])
                    refine wpAnyH_done (by kernel_rfl) ?_ _
                    simp only [Act.put, List.getElem_toArray, List.getElem_cons_succ, List.getElem_cons_zero, List.setIfInBounds_toArray, List.set_cons_zero, List.set_cons_succ]
                    go_wp2_with fail
                    go_meet
                    exact ⟨rfl, Lib.hid (by repeat (first | exact Below.refl _ _ | refine bl_alloc ?_ _ | refine bl_call b5 ?_ | refine bl_drew ?_))⟩
                  exact AllReadyH.nil
                refine AllReadyH.cons rfl (fun K hK => ?_) ?_
                · rw [if_pos (by rfl)]
                  go_simp
                  rw [conv34]
                  rotate_left
                  · repeat (first | exact heap_top (by first | rfl | (simp; done) | omega) | refine heap_up ?_ | refine up_call b5 ?_ | refine heap_drew ?_)
                  simp only [Result.andThen]
                  rw [Oper.upon_value]
                  refine hK.out _ _ ?_ (fun hHeld => ?_)
                  · exact SKEEP.out _ (by repeat (first | exact Below.refl _ _ | refine bl_alloc ?_ _ | refine bl_call b5 ?_ | refine bl_drew ?_))
                  clear hK K
                  (try simp only [Act.put, List.setIfInBounds_toArray, List.set_cons_zero, List.set_cons_succ])
                  refine wpAnyH_ready (rs := [19]) (by kernel_rfl) (by simp) ?_
                  refine AllReadyH.cons rfl (fun K hK => ?_) ?_
                  · rw [if_pos (by rfl)]
                    go_simp
                    go_at_call 49
                    refine (CV.out _).mono ?_
                    rintro e w5 ⟨rfl, b5⟩
                    refine hK.out _ _ ?_ (fun hHeld => ?_)
                    · exact SKEEP.out _ (by repeat (first | exact Below.refl _ _ | refine bl_alloc ?_ _ | refine bl_call b5 ?_ | refine bl_drew ?_))
                    clear hK K
                    (try simp only [Act.put, List.setIfInBounds_toArray, List.set_cons_zero, List.set_cons_succ])
                    refine wpAnyH_take (i := 20) (v := ?v24) rfl (by kernel_rfl) (by kernel_rfl) (by kernel_rfl) (fun _ _ _ h => h) (Or.inl ⟨by rfl, ?hy24⟩) (by assumption) ?hr24
                    case hy24 => (intro w' hSw; (try dsimp only at hSw); go_simp; try with_reducible rfl)
                    (try simp only [Act.put, List.setIfInBounds_toArray, List.set_cons_zero, List.set_cons_succ])
                    refine wpAnyH_take (i := 23) (v := ?v25) rfl (by kernel_rfl) (by kernel_rfl) (by kernel_rfl) (fun _ _ _ h => h) (Or.inl ⟨by rfl, ?hy25⟩) (by assumption) ?hr25
                    case hy25 => (intro w' hSw; (try dsimp only at hSw); go_simp; try with_reducible rfl)
                    (try simp only [Act.put, List.setIfInBounds_toArray, List.set_cons_zero, List.set_cons_succ])
                    refine wpAnyH_take (i := 24) (v := ?v26) rfl (by kernel_rfl) (by kernel_rfl) (by kernel_rfl) (fun _ _ _ h => h) (Or.inl ⟨by rfl, ?hy26⟩) (by assumption) ?hr26
                    case hy26 => (intro w' hSw; (try dsimp only at hSw); go_simp; try with_reducible rfl)
                    (try simp only [Act.put, List.setIfInBounds_toArray, List.set_cons_zero, List.set_cons_succ])
                    refine wpAnyH_done (by kernel_rfl) ?_ _
                    simp only [Act.put, List.getElem_toArray, List.getElem_cons_succ, List.getElem_cons_zero, List.setIfInBounds_toArray, List.set_cons_zero, List.set_cons_succ]
                    go_wp2_with fail
                    go_meet
                    exact ⟨rfl, Lib.hid (by repeat (first | exact Below.refl _ _ | refine bl_alloc ?_ _ | refine bl_call b5 ?_ | refine bl_drew ?_))⟩
                  exact AllReadyH.nil
                exact AllReadyH.nil
              exact AllReadyH.nil
            refine AllReadyH.cons rfl (fun K hK => ?_) ?_
            · rw [if_pos (by rfl)]
              go_simp
              go_at_call 49
              refine (CV.out _).mono ?_
              rintro e w5 ⟨rfl, b5⟩
              refine hK.out _ _ ?_ (fun hHeld => ?_)
              · exact SKEEP.out _ (by repeat (first | exact Below.refl _ _ | refine bl_alloc ?_ _ | refine bl_call b5 ?_ | refine bl_drew ?_))
              clear hK K
              (try simp only [Act.put, List.setIfInBounds_toArray, List.set_cons_zero, List.set_cons_succ])
              refine wpAnyH_ready (rs := [11, 21]) (by kernel_rfl) (by simp) ?_
              refine AllReadyH.cons rfl (fun K hK => ?_) ?_
              · rw [if_pos (by rfl)]
                go_simp
                rw [conv34]
                rotate_left
                · repeat (first | exact heap_top (by first | rfl | (simp; done) | omega) | refine heap_up ?_ | refine up_call b5 ?_ | refine heap_drew ?_)
                simp only [Result.andThen]
                rw [Oper.upon_value]
                refine hK.out _ _ ?_ (fun hHeld => ?_)
                · exact SKEEP.out _ (by repeat (first | exact Below.refl _ _ | refine bl_alloc ?_ _ | refine bl_call b5 ?_ | refine bl_drew ?_))
                clear hK K
                (try simp only [Act.put, List.setIfInBounds_toArray, List.set_cons_zero, List.set_cons_succ])
                refine wpAnyH_take (i := 12) (v := ?v27) rfl (by kernel_rfl) (by kernel_rfl) (by kernel_rfl) (fun _ _ _ h => h) (Or.inl ⟨by rfl, ?hy27⟩) (by assumption) ?hr27
                case hy27 => (intro w' hSw; (try dsimp only at hSw); go_simp; try with_reducible rfl)
                (try simp only [Act.put, List.setIfInBounds_toArray, List.set_cons_zero, List.set_cons_succ])
                refine wpAnyH_take (i := 20) (v := ?v28) rfl (by kernel_rfl) (by kernel_rfl) (by kernel_rfl) (fun _ _ _ h => h) (Or.inl ⟨by rfl, ?hy28⟩) (by assumption) ?hr28
                case hy28 => (intro w' hSw; (try dsimp only at hSw); go_simp; try with_reducible rfl)
                (try simp only [Act.put, List.setIfInBounds_toArray, List.set_cons_zero, List.set_cons_succ])
                refine wpAnyH_ready (rs := [21]) (by kernel_rfl) (by simp) ?_
                refine AllReadyH.cons rfl (fun K hK => ?_) ?_
                · go_simp
                  refine hK.out _ _ ?_ (fun hHeld => ?_)
                  · exact SKEEP.out _ (by repeat (first | exact Below.refl _ _ | refine bl_alloc ?_ _ | refine bl_call b5 ?_ | refine bl_drew ?_))
                  clear hK K
                  (try simp only [Act.put, List.setIfInBounds_toArray, List.set_cons_zero, List.set_cons_succ])
                  refine wpAnyH_ready (rs := [22]) (by kernel_rfl) (by simp) ?_
                  refine AllReadyH.cons rfl (fun K hK => ?_) ?_
                  · rw [if_pos (by rfl)]
                    go_simp
                    rw [conv34]
                    rotate_left
                    · repeat (first | exact heap_top (by first | rfl | (simp; done) | omega) | refine heap_up ?_ | refine up_call b5 ?_ | refine heap_drew ?_)
                    simp only [Result.andThen]
                    rw [Oper.upon_value]
                    refine hK.out _ _ ?_ (fun hHeld => ?_)
                    · exact SKEEP.out _ (by repeat (first | exact Below.refl _ _ | refine bl_alloc ?_ _ | refine bl_call b5 ?_ | refine bl_drew ?_))
                    clear hK K
                    (try simp only [Act.put, List.setIfInBounds_toArray, List.set_cons_zero, List.set_cons_succ])
                    refine wpAnyH_take (i := 23) (v := ?v29) rfl (by kernel_rfl) (by kernel_rfl) (by kernel_rfl) (fun _ _ _ h => h) (Or.inl ⟨by rfl, ?hy29⟩) (by assumption) ?hr29
                    case hy29 => (intro w' hSw; (try dsimp only at hSw); go_simp; try with_reducible rfl)
                    (try simp only [Act.put, List.setIfInBounds_toArray, List.set_cons_zero, List.set_cons_succ])
                    refine wpAnyH_take (i := 24) (v := ?v30) rfl (by kernel_rfl) (by kernel_rfl) (by kernel_rfl) (fun _ _ _ h => h) (Or.inl ⟨by rfl, ?hy30⟩) (by assumption) ?hr30
                    case hy30 => (intro w' hSw; (try dsimp only at hSw); go_simp; try with_reducible rfl)
                    (try simp only [Act.put, List.setIfInBounds_toArray, List.set_cons_zero, List.set_cons_succ])
                    refine wpAnyH_done (by kernel_rfl) ?_ _
                    simp only [Act.put, List.getElem_toArray, List.getElem_cons_succ, List.getElem_cons_zero, List.setIfInBounds_toArray, List.set_cons_zero, List.set_cons_succ]
                    go_wp2_with fail
                    go_meet
                    exact ⟨rfl, Lib.hid (by repeat (first | exact Below.refl _ _ | refine bl_alloc ?_ _ | refine bl_call b5 ?_ | refine bl_drew ?_))⟩
                  exact AllReadyH.nil
                exact AllReadyH.nil
              refine AllReadyH.cons rfl (fun K hK => ?_) ?_
              · go_simp
                refine hK.out _ _ ?_ (fun hHeld => ?_)
                · exact SKEEP.out _ (by repeat (first | exact Below.refl _ _ | refine bl_alloc ?_ _ | refine bl_call b5 ?_ | refine bl_drew ?_))
                clear hK K
                (try simp only [Act.put, List.setIfInBounds_toArray, List.set_cons_zero, List.set_cons_succ])
                refine wpAnyH_ready (rs := [11, 22]) (by kernel_rfl) (by simp) ?_
                refine AllReadyH.cons rfl (fun K hK => ?_) ?_
                · rw [if_pos (by rfl)]
                  go_simp
                  rw [conv34]
                  rotate_left
                  · repeat (first | exact heap_top (by first | rfl | (simp; done) | omega) | refine heap_up ?_ | refine up_call b5 ?_ | refine heap_drew ?_)
                  simp only [Result.andThen]
                  rw [Oper.upon_value]
                  refine hK.out _ _ ?_ (fun hHeld => ?_)
                  · exact SKEEP.out _ (by repeat (first | exact Below.refl _ _ | refine bl_alloc ?_ _ | refine bl_call b5 ?_ | refine bl_drew ?_))
                  clear hK K
                  (try simp only [Act.put, List.setIfInBounds_toArray, List.set_cons_zero, List.set_cons_succ])
                  refine wpAnyH_take (i := 12) (v := ?v31) rfl (by kernel_rfl) (by kernel_rfl) (by kernel_rfl) (fun _ _ _ h => h) (Or.inl ⟨by rfl, ?hy31⟩) (by assumption) ?hr31
                  case hy31 => (intro w' hSw; (try dsimp only at hSw); go_simp; try with_reducible rfl)
                  (try simp only [Act.put, List.setIfInBounds_toArray, List.set_cons_zero, List.set_cons_succ])
                  refine wpAnyH_take (i := 20) (v := ?v32) rfl (by kernel_rfl) (by kernel_rfl) (by kernel_rfl) (fun _ _ _ h => h) (Or.inl ⟨by rfl, ?hy32⟩) (by assumption) ?hr32
                  case hy32 => (intro w' hSw; (try dsimp only at hSw); go_simp; try with_reducible rfl)
                  (try simp only [Act.put, List.setIfInBounds_toArray, List.set_cons_zero, List.set_cons_succ])
                  refine wpAnyH_ready (rs := [22]) (by kernel_rfl) (by simp) ?_
                  refine AllReadyH.cons rfl (fun K hK => ?_) ?_
                  · rw [if_pos (by rfl)]
                    go_simp
                    rw [conv34]
                    rotate_left
                    · repeat (first | exact heap_top (by first | rfl | (simp; done) | omega) | refine heap_up ?_ | refine up_call b5 ?_ | refine heap_drew ?_)
                    simp only [Result.andThen]
                    rw [Oper.upon_value]
                    refine hK.out _ _ ?_ (fun hHeld => ?_)
                    · exact SKEEP.out _ (by repeat (first | exact Below.refl _ _ | refine bl_alloc ?_ _ | refine bl_call b5 ?_ | refine bl_drew ?_))
                    clear hK K
                    (try simp only [Act.put, List.setIfInBounds_toArray, List.set_cons_zero, List.set_cons_succ])
                    refine wpAnyH_take (i := 23) (v := ?v33) rfl (by kernel_rfl) (by kernel_rfl) (by kernel_rfl) (fun _ _ _ h => h) (Or.inl ⟨by rfl, ?hy33⟩) (by assumption) ?hr33
                    case hy33 => (intro w' hSw; (try dsimp only at hSw); go_simp; try with_reducible rfl)
                    (try simp only [Act.put, List.setIfInBounds_toArray, List.set_cons_zero, List.set_cons_succ])
                    refine wpAnyH_take (i := 24) (v := ?v34) rfl (by kernel_rfl) (by kernel_rfl) (by kernel_rfl) (fun _ _ _ h => h) (Or.inl ⟨by rfl, ?hy34⟩) (by assumption) ?hr34
                    case hy34 => (intro w' hSw; (try dsimp only at hSw); go_simp; try with_reducible rfl)
                    (try simp only [Act.put, List.setIfInBounds_toArray, List.set_cons_zero, List.set_cons_succ])
                    refine wpAnyH_done (by kernel_rfl) ?_ _
                    simp only [Act.put, List.getElem_toArray, List.getElem_cons_succ, List.getElem_cons_zero, List.setIfInBounds_toArray, List.set_cons_zero, List.set_cons_succ]
                    go_wp2_with fail
                    go_meet
                    exact ⟨rfl, Lib.hid (by repeat (first | exact Below.refl _ _ | refine bl_alloc ?_ _ | refine bl_call b5 ?_ | refine bl_drew ?_))⟩
                  exact AllReadyH.nil
                refine AllReadyH.cons rfl (fun K hK => ?_) ?_
                · rw [if_pos (by rfl)]
                  go_simp
                  rw [conv34]
                  rotate_left
                  · repeat (first | exact heap_top (by first | rfl | (simp; done) | omega) | refine heap_up ?_ | refine up_call b5 ?_ | refine heap_drew ?_)
                  simp only [Result.andThen]
                  rw [Oper.upon_value]
                  refine hK.out _ _ ?_ (fun hHeld => ?_)
                  · exact SKEEP.out _ (by repeat (first | exact Below.refl _ _ | refine bl_alloc ?_ _ | refine bl_call b5 ?_ | refine bl_drew ?_))
                  clear hK K
                  (try simp only [Act.put, List.setIfInBounds_toArray, List.set_cons_zero, List.set_cons_succ])
                  refine wpAnyH_ready (rs := [11]) (by kernel_rfl) (by simp) ?_
                  refine AllReadyH.cons rfl (fun K hK => ?_) ?_
                  · rw [if_pos (by rfl)]
                    go_simp
                    rw [conv34]
                    rotate_left
                    · repeat (first | exact heap_top (by first | rfl | (simp; done) | omega) | refine heap_up ?_ | refine up_call b5 ?_ | refine heap_drew ?_)
                    simp only [Result.andThen]
                    rw [Oper.upon_value]
                    refine hK.out _ _ ?_ (fun hHeld => ?_)
                    · exact SKEEP.out _ (by repeat (first | exact Below.refl _ _ | refine bl_alloc ?_ _ | refine bl_call b5 ?_ | refine bl_drew ?_))
                    clear hK K
                    (try simp only [Act.put, List.setIfInBounds_toArray, List.set_cons_zero, List.set_cons_succ])
                    refine wpAnyH_take (i := 12) (v := ?v35) rfl (by kernel_rfl) (by kernel_rfl) (by kernel_rfl) (fun _ _ _ h => h) (Or.inl ⟨by rfl, ?hy35⟩) (by assumption) ?hr35
                    case hy35 => (intro w' hSw; (try dsimp only at hSw); go_simp; try with_reducible rfl)
                    (try simp only [Act.put, List.setIfInBounds_toArray, List.set_cons_zero, List.set_cons_succ])
                    refine wpAnyH_take (i := 20) (v := ?v36) rfl (by kernel_rfl) (by kernel_rfl) (by kernel_rfl) (fun _ _ _ h => h) (Or.inl ⟨by rfl, ?hy36⟩) (by assumption) ?hr36
                    case hy36 => (intro w' hSw; (try dsimp only at hSw); go_simp; try with_reducible rfl)
                    (try simp only [Act.put, List.setIfInBounds_toArray, List.set_cons_zero, List.set_cons_succ])
                    refine wpAnyH_take (i := 23) (v := ?v37) rfl (by kernel_rfl) (by kernel_rfl) (by kernel_rfl) (fun _ _ _ h => h) (Or.inl ⟨by rfl, ?hy37⟩) (by assumption) ?hr37
                    case hy37 => (intro w' hSw; (try dsimp only at hSw); go_simp; try with_reducible rfl)
                    (try simp only [Act.put, List.setIfInBounds_toArray, List.set_cons_zero, List.set_cons_succ])
                    refine wpAnyH_take (i := 24) (v := ?v38) rfl (by kernel_rfl) (by kernel_rfl) (by kernel_rfl) (fun _ _ _ h => h) (Or.inl ⟨by rfl, ?hy38⟩) (by assumption) ?hr38
                    case hy38 => (intro w' hSw; (try dsimp only at hSw); go_simp; try with_reducible rfl)
                    (try simp only [Act.put, List.setIfInBounds_toArray, List.set_cons_zero, List.set_cons_succ])
                    refine wpAnyH_done (by kernel_rfl) ?_ _
                    simp only [Act.put, List.getElem_toArray, List.getElem_cons_succ, List.getElem_cons_zero, List.setIfInBounds_toArray, List.set_cons_zero, List.set_cons_succ]
                    go_wp2_with fail
                    go_meet
                    exact ⟨rfl, Lib.hid (by repeat (first | exact Below.refl _ _ | refine bl_alloc ?_ _ | refine bl_call b5 ?_ | refine bl_drew ?_))⟩
                  exact AllReadyH.nil
                exact AllReadyH.nil
              exact AllReadyH.nil
            refine AllReadyH.cons rfl (fun K hK => ?_) ?_
            · go_simp
              refine hK.out _ _ ?_ (fun hHeld => ?_)
              · exact SKEEP.out _ (by repeat (first | exact Below.refl _ _ | refine bl_alloc ?_ _ | refine bl_call b5 ?_ | refine bl_drew ?_))
              clear hK K
              (try simp only [Act.put, List.setIfInBounds_toArray, List.set_cons_zero, List.set_cons_succ])
              refine wpAnyH_ready (rs := [11, 19, 22]) (by kernel_rfl) (by simp) ?_
              refine AllReadyH.cons rfl (fun K hK => ?_) ?_
              · rw [if_pos (by rfl)]
                go_simp
                rw [conv34]
                rotate_left
                · repeat (first | exact heap_top (by first | rfl | (simp; done) | omega) | refine heap_up ?_ | refine up_call b5 ?_ | refine heap_drew ?_)
                simp only [Result.andThen]
                rw [Oper.upon_value]
                refine hK.out _ _ ?_ (fun hHeld => ?_)
                · exact SKEEP.out _ (by repeat (first | exact Below.refl _ _ | refine bl_alloc ?_ _ | refine bl_call b5 ?_ | refine bl_drew ?_))
                clear hK K
                (try simp only [Act.put, List.setIfInBounds_toArray, List.set_cons_zero, List.set_cons_succ])
                refine wpAnyH_take (i := 12) (v := ?v39) rfl (by kernel_rfl) (by kernel_rfl) (by kernel_rfl) (fun _ _ _ h => h) (Or.inl ⟨by rfl, ?hy39⟩) (by assumption) ?hr39
                case hy39 => (intro w' hSw; (try dsimp only at hSw); go_simp; try with_reducible rfl)
                (try simp only [Act.put, List.setIfInBounds_toArray, List.set_cons_zero, List.set_cons_succ])
                refine wpAnyH_ready (rs := [19, 22]) (by kernel_rfl) (by simp) ?_
                refine AllReadyH.cons rfl (fun K hK => ?_) ?_
                · rw [if_pos (by rfl)]
                  go_simp
                  go_at_call 49
                  refine (CV.out _).mono ?_
                  rintro e w5 ⟨rfl, b5⟩
                  refine hK.out _ _ ?_ (fun hHeld => ?_)
                  · exact SKEEP.out _ (by repeat (first | exact Below.refl _ _ | refine bl_alloc ?_ _ | refine bl_call b5 ?_ | refine bl_drew ?_))
                  clear hK K
                  (try simp only [Act.put, List.setIfInBounds_toArray, List.set_cons_zero, List.set_cons_succ])
                  refine wpAnyH_take (i := 20) (v := ?v40) rfl (by kernel_rfl) (by kernel_rfl) (by kernel_rfl) (fun _ _ _ h => h) (Or.inl ⟨by rfl, ?hy40⟩) (by assumption) ?hr40
                  case hy40 => (intro w' hSw; (try dsimp only at hSw); go_simp; try with_reducible rfl)
                  (try simp only [Act.put, List.setIfInBounds_toArray, List.set_cons_zero, List.set_cons_succ])
                  refine wpAnyH_ready (rs := [22]) (by kernel_rfl) (by simp) ?_
                  refine AllReadyH.cons rfl (fun K hK => ?_) ?_
                  · rw [if_pos (by rfl)]
                    go_simp
                    rw [conv34]
                    rotate_left
                    · repeat (first | exact heap_top (by first | rfl | (simp; done) | omega) | refine heap_up ?_ | refine up_call b5 ?_ | refine heap_drew ?_)
                    simp only [Result.andThen]
                    rw [Oper.upon_value]
                    refine hK.out _ _ ?_ (fun hHeld => ?_)
                    · exact SKEEP.out _ (by repeat (first | exact Below.refl _ _ | refine bl_alloc ?_ _ | refine bl_call b5 ?_ | refine bl_drew ?_))
                    clear hK K
                    (try simp only [Act.put, List.setIfInBounds_toArray, List.set_cons_zero, List.set_cons_succ])
                    refine wpAnyH_take (i := 23) (v := ?v41) rfl (by kernel_rfl) (by kernel_rfl) (by kernel_rfl) (fun _ _ _ h => h) (Or.inl ⟨by rfl, ?hy41⟩) (by assumption) ?hr41
                    case hy41 => (intro w' hSw; (try dsimp only at hSw); go_simp; try with_reducible rfl)
                    (try simp only [Act.put, List.setIfInBounds_toArray, List.set_cons_zero, List.set_cons_succ])
                    refine wpAnyH_take (i := 24) (v := ?v42) rfl (by kernel_rfl) (by kernel_rfl) (by kernel_rfl) (fun _ _ _ h => h) (Or.inl ⟨by rfl, ?hy42⟩) (by assumption) ?hr42
                    case hy42 => (intro w' hSw; (try dsimp only at hSw); go_simp; try with_reducible rfl)
                    (try simp only [Act.put, List.setIfInBounds_toArray, List.set_cons_zero, List.set_cons_succ])
                    refine wpAnyH_done (by kernel_rfl) ?_ _
                    simp only [Act.put, List.getElem_toArray, List.getElem_cons_succ, List.getElem_cons_zero, List.setIfInBounds_toArray, List.set_cons_zero, List.set_cons_succ]
                    go_wp2_with fail
                    go_meet
                    exact ⟨rfl, Lib.hid (by repeat (first | exact Below.refl _ _ | refine bl_alloc ?_ _ | refine bl_call b5 ?_ | refine bl_drew ?_))⟩
                  exact AllReadyH.nil
                refine AllReadyH.cons rfl (fun K hK => ?_) ?_
                · rw [if_pos (by rfl)]
                  go_simp
                  rw [conv34]
                  rotate_left
                  · repeat (first | exact heap_top (by first | rfl | (simp; done) | omega) | refine heap_up ?_ | refine up_call b5 ?_ | refine heap_drew ?_)
                  simp only [Result.andThen]
                  rw [Oper.upon_value]
                  refine hK.out _ _ ?_ (fun hHeld => ?_)
                  · exact SKEEP.out _ (by repeat (first | exact Below.refl _ _ | refine bl_alloc ?_ _ | refine bl_call b5 ?_ | refine bl_drew ?_))
                  clear hK K
                  (try simp only [Act.put, List.setIfInBounds_toArray, List.set_cons_zero, List.set_cons_succ])
                  refine wpAnyH_ready (rs := [19]) (by kernel_rfl) (by simp) ?_
                  refine AllReadyH.cons rfl (fun K hK => ?_) ?_
                  · rw [if_pos (by rfl)]
                    go_simp
                    go_at_call 49
                    refine (CV.out _).mono ?_
                    rintro e w5 ⟨rfl, b5⟩
                    refine hK.out _ _ ?_ (fun hHeld => ?_)
                    · exact SKEEP.out _ (by repeat (first | exact Below.refl _ _ | refine bl_alloc ?_ _ | refine bl_call b5 ?_ | refine bl_drew ?_))
                    clear hK K
                    (try simp only [Act.put, List.setIfInBounds_toArray, List.set_cons_zero, List.set_cons_succ])
                    refine wpAnyH_take (i := 20) (v := ?v43) rfl (by kernel_rfl) (by kernel_rfl) (by kernel_rfl) (fun _ _ _ h => h) (Or.inl ⟨by rfl, ?hy43⟩) (by assumption) ?hr43
                    case hy43 => (intro w' hSw; (try dsimp only at hSw); go_simp; try with_reducible rfl)
                    (try simp only [Act.put, List.setIfInBounds_toArray, List.set_cons_zero, List.set_cons_succ])
                    refine wpAnyH_take (i := 23) (v := ?v44) rfl (by kernel_rfl) (by kernel_rfl) (by kernel_rfl) (fun _ _ _ h => h) (Or.inl ⟨by rfl, ?hy44⟩) (by assumption) ?hr44
                    case hy44 => (intro w' hSw; (try dsimp only at hSw); go_simp; try with_reducible rfl)
                    (try simp only [Act.put, List.setIfInBounds_toArray, List.set_cons_zero, List.set_cons_succ])
                    refine wpAnyH_take (i := 24) (v := ?v45) rfl (by kernel_rfl) (by kernel_rfl) (by kernel_rfl) (fun _ _ _ h => h) (Or.inl ⟨by rfl, ?hy45⟩) (by assumption) ?hr45
                    case hy45 => (intro w' hSw; (try dsimp only at hSw); go_simp; try with_reducible rfl)
                    (try simp only [Act.put, List.setIfInBounds_toArray, List.set_cons_zero, List.set_cons_succ])
                    refine wpAnyH_done (by kernel_rfl) ?_ _
                    simp only [Act.put, List.getElem_toArray, List.getElem_cons_succ, List.getElem_cons_zero, List.setIfInBounds_toArray, List.set_cons_zero, List.set_cons_succ]
                    go_wp2_with fail
                    go_meet
                    exact ⟨rfl, Lib.hid (by repeat (first | exact Below.refl _ _ | refine bl_alloc ?_ _ | refine bl_call b5 ?_ | refine bl_drew ?_))⟩
                  exact AllReadyH.nil
                exact AllReadyH.nil
              refine AllReadyH.cons rfl (fun K hK => ?_) ?_
              · rw [if_pos (by rfl)]
                go_simp
                go_at_call 49
                refine (CV.out _).mono ?_
                rintro e w5 ⟨rfl, b5⟩
                refine hK.out _ _ ?_ (fun hHeld => ?_)
                · exact SKEEP.out _ (by repeat (first | exact Below.refl _ _ | refine bl_alloc ?_ _ | refine bl_call b5 ?_ | refine bl_drew ?_))
                clear hK K
                (try simp only [Act.put, List.setIfInBounds_toArray, List.set_cons_zero, List.set_cons_succ])
                refine wpAnyH_ready (rs := [11, 22]) (by kernel_rfl) (by simp) ?_
                refine AllReadyH.cons rfl (fun K hK => ?_) ?_
                · rw [if_pos (by rfl)]
                  go_simp
                  rw [conv34]
                  rotate_left
                  · repeat (first | exact heap_top (by first | rfl | (simp; done) | omega) | refine heap_up ?_ | refine up_call b5 ?_ | refine heap_drew ?_)
                  simp only [Result.andThen]
                  rw [Oper.upon_value]
                  refine hK.out _ _ ?_ (fun hHeld => ?_)
                  · exact SKEEP.out _ (by repeat (first | exact Below.refl _ _ | refine bl_alloc ?_ _ | refine bl_call b5 ?_ | refine bl_drew ?_))
                  clear hK K
                  (try simp only [Act.put, List.setIfInBounds_toArray, List.set_cons_zero, List.set_cons_succ])
                  refine wpAnyH_take (i := 12) (v := ?v46) rfl (by kernel_rfl) (by kernel_rfl) (by kernel_rfl) (fun _ _ _ h => h) (Or.inl ⟨by rfl, ?hy46⟩) (by assumption) ?hr46
                  case hy46 => (intro w' hSw; (try dsimp only at hSw); go_simp; try with_reducible rfl)
                  (try simp only [Act.put, List.setIfInBounds_toArray, List.set_cons_zero, List.set_cons_succ])
                  refine wpAnyH_take (i := 20) (v := ?v47) rfl (by kernel_rfl) (by kernel_rfl) (by kernel_rfl) (fun _ _ _ h => h) (Or.inl ⟨by rfl, ?hy47⟩) (by assumption) ?hr47
                  case hy47 => (intro w' hSw; (try dsimp only at hSw); go_simp; try with_reducible rfl)
                  (try simp only [Act.put, List.setIfInBounds_toArray, List.set_cons_zero, List.set_cons_succ])
                  refine wpAnyH_ready (rs := [22]) (by kernel_rfl) (by simp) ?_
                  refine AllReadyH.cons rfl (fun K hK => ?_) ?_
                  · rw [if_pos (by rfl)]
                    go_simp
                    rw [conv34]
                    rotate_left
                    · repeat (first | exact heap_top (by first | rfl | (simp; done) | omega) | refine heap_up ?_ | refine up_call b5 ?_ | refine heap_drew ?_)
                    simp only [Result.andThen]
                    rw [Oper.upon_value]
                    refine hK.out _ _ ?_ (fun hHeld => ?_)
                    · exact SKEEP.out _ (by repeat (first | exact Below.refl _ _ | refine bl_alloc ?_ _ | refine bl_call b5 ?_ | refine bl_drew ?_))
                    clear hK K
                    (try simp only [Act.put, List.setIfInBounds_toArray, List.set_cons_zero, List.set_cons_succ])
                    refine wpAnyH_take (i := 23) (v := ?v48) rfl (by kernel_rfl) (by kernel_rfl) (by kernel_rfl) (fun _ _ _ h => h) (Or.inl ⟨by rfl, ?hy48⟩) (by assumption) ?hr48
                    case hy48 => (intro w' hSw; (try dsimp only at hSw); go_simp; try with_reducible rfl)
                    (try simp only [Act.put, List.setIfInBounds_toArray, List.set_cons_zero, List.set_cons_succ])
                    refine wpAnyH_take (i := 24) (v := ?v49) rfl (by kernel_rfl) (by kernel_rfl) (by kernel_rfl) (fun _ _ _ h => h) (Or.inl ⟨by rfl, ?hy49⟩) (by assumption) ?hr49
                    case hy49 => (intro w' hSw; (try dsimp only at hSw); go_simp; try with_reducible rfl)
                    (try simp only [Act.put, List.setIfInBounds_toArray, List.set_cons_zero, List.set_cons_succ])
                    refine wpAnyH_done (by kernel_rfl) ?_ _
                    simp only [Act.put, List.getElem_toArray, List.getElem_cons_succ, List.getElem_cons_zero, List.setIfInBounds_toArray, List.set_cons_zero, List.set_cons_succ]
                    go_wp2_with fail
                    go_meet
                    exact ⟨rfl, Lib.hid (by repeat (first | exact Below.refl _ _ | refine bl_alloc ?_ _ | refine bl_call b5 ?_ | refine bl_drew ?_))⟩
                  exact AllReadyH.nil
                refine AllReadyH.cons rfl (fun K hK => ?_) ?_
                · rw [if_pos (by rfl)]
                  go_simp
                  rw [conv34]
                  rotate_left
                  · repeat (first | exact heap_top (by first | rfl | (simp; done) | omega) | refine heap_up ?_ | refine up_call b5 ?_ | refine heap_drew ?_)
                  simp only [Result.andThen]
                  rw [Oper.upon_value]
                  refine hK.out _ _ ?_ (fun hHeld => ?_)
                  · exact SKEEP.out _ (by repeat (first | exact Below.refl _ _ | refine bl_alloc ?_ _ | refine bl_call b5 ?_ | refine bl_drew ?_))
                  clear hK K
                  (try simp only [Act.put, List.setIfInBounds_toArray, List.set_cons_zero, List.set_cons_succ])
                  refine wpAnyH_ready (rs := [11]) (by kernel_rfl) (by simp) ?_
                  refine AllReadyH.cons rfl (fun K hK => ?_) ?_
                  · rw [if_pos (by rfl)]
                    go_simp
                    rw [conv34]
                    rotate_left
                    · repeat (first | exact heap_top (by first | rfl | (simp; done) | omega) | refine heap_up ?_ | refine up_call b5 ?_ | refine heap_drew ?_)
                    simp only [Result.andThen]
                    rw [Oper.upon_value]
                    refine hK.out _ _ ?_ (fun hHeld => ?_)
                    · exact SKEEP.out _ (by repeat (first | exact Below.refl _ _ | refine bl_alloc ?_ _ | refine bl_call b5 ?_ | refine bl_drew ?_))
                    clear hK K
                    (try simp only [Act.put, List.setIfInBounds_toArray, List.set_cons_zero, List.set_cons_succ])
                    refine wpAnyH_take (i := 12) (v := ?v50) rfl (by kernel_rfl) (by kernel_rfl) (by kernel_rfl) (fun _ _ _ h => h) (Or.inl ⟨by rfl, ?hy50⟩) (by assumption) ?hr50
                    case hy50 => (intro w' hSw; (try dsimp only at hSw); go_simp; try with_reducible rfl)
                    (try simp only [Act.put, List.setIfInBounds_toArray, List.set_cons_zero, List.set_cons_succ])
                    refine wpAnyH_take (i := 20) (v := ?v51) rfl (by kernel_rfl) (by kernel_rfl) (by kernel_rfl) (fun _ _ _ h => h) (Or.inl ⟨by rfl, ?hy51⟩) (by assumption) ?hr51
                    case hy51 => (intro w' hSw; (try dsimp only at hSw); go_simp; try with_reducible rfl)
                    (try simp only [Act.put, List.setIfInBounds_toArray, List.set_cons_zero, List.set_cons_succ])
                    refine wpAnyH_take (i := 23) (v := ?v52) rfl (by kernel_rfl) (by kernel_rfl) (by kernel_rfl) (fun _ _ _ h => h) (Or.inl ⟨by rfl, ?hy52⟩) (by assumption) ?hr52
                    case hy52 => (intro w' hSw; (try dsimp only at hSw); go_simp; try with_reducible rfl)
                    (try simp only [Act.put, List.setIfInBounds_toArray, List.set_cons_zero, List.set_cons_succ])
                    refine wpAnyH_take (i := 24) (v := ?v53) rfl (by kernel_rfl) (by kernel_rfl) (by kernel_rfl) (fun _ _ _ h => h) (Or.inl ⟨by rfl, ?hy53⟩) (by assumption) ?hr53
                    case hy53 => (intro w' hSw; (try dsimp only at hSw); go_simp; try with_reducible rfl)
                    (try simp only [Act.put, List.setIfInBounds_toArray, List.set_cons_zero, List.set_cons_succ])
                    refine wpAnyH_done (by kernel_rfl) ?_ _
                    simp only [Act.put, List.getElem_toArray, List.getElem_cons_succ, List.getElem_cons_zero, List.setIfInBounds_toArray, List.set_cons_zero, List.set_cons_succ]
                    go_wp2_with fail
                    go_meet
                    exact ⟨rfl, Lib.hid (by repeat (first | exact Below.refl _ _ | refine bl_alloc ?_ _ | refine bl_call b5 ?_ | refine bl_drew ?_))⟩
                  exact AllReadyH.nil
                exact AllReadyH.nil
              refine AllReadyH.cons rfl (fun K hK => ?_) ?_
              · rw [if_pos (by rfl)]
                go_simp
                rw [conv34]
                rotate_left
                · repeat (first | exact heap_top (by first | rfl | (simp; done) | omega) | refine heap_up ?_ | refine up_call b5 ?_ | refine heap_drew ?_)
                simp only [Result.andThen]
                rw [Oper.upon_value]
                refine hK.out _ _ ?_ (fun hHeld => ?_)
                · exact SKEEP.out _ (by repeat (first | exact Below.refl _ _ | refine bl_alloc ?_ _ | refine bl_call b5 ?_ | refine bl_drew ?_))
                clear hK K
                (try simp only [Act.put, List.setIfInBounds_toArray, List.set_cons_zero, List.set_cons_succ])
                refine wpAnyH_ready (rs := [11, 19]) (by kernel_rfl) (by simp) ?_
                refine AllReadyH.cons rfl (fun K hK => ?_) ?_
                · rw [if_pos (by rfl)]
                  go_simp
                  rw [conv34]
                  rotate_left
                  · repeat (first | exact heap_top (by first | rfl | (simp; done) | omega) | refine heap_up ?_ | refine up_call b5 ?_ | refine heap_drew ?_)
                  simp only [Result.andThen]
                  rw [Oper.upon_value]
                  refine hK.out _ _ ?_ (fun hHeld => ?_)
                  · exact SKEEP.out _ (by repeat (first | exact Below.refl _ _ | refine bl_alloc ?_ _ | refine bl_call b5 ?_ | refine bl_drew ?_))
                  clear hK K
                  (try simp only [Act.put, List.setIfInBounds_toArray, List.set_cons_zero, List.set_cons_succ])
                  refine wpAnyH_take (i := 12) (v := ?v54) rfl (by kernel_rfl) (by kernel_rfl) (by kernel_rfl) (fun _ _ _ h => h) (Or.inl ⟨by rfl, ?hy54⟩) (by assumption) ?hr54
                  case hy54 => (intro w' hSw; (try dsimp only at hSw); go_simp; try with_reducible rfl)
                  (try simp only [Act.put, List.setIfInBounds_toArray, List.set_cons_zero, List.set_cons_succ])
                  refine wpAnyH_ready (rs := [19]) (by kernel_rfl) (by simp) ?_
                  refine AllReadyH.cons rfl (fun K hK => ?_) ?_
                  · rw [if_pos (by rfl)]
                    go_simp
                    go_at_call 49
                    refine (CV.out _).mono ?_
                    rintro e w5 ⟨rfl, b5⟩
                    refine hK.out _ _ ?_ (fun hHeld => ?_)
                    · exact SKEEP.out _ (by repeat (first | exact Below.refl _ _ | refine bl_alloc ?_ _ | refine bl_call b5 ?_ | refine bl_drew ?_))
                    clear hK K
                    (try simp only [Act.put, List.setIfInBounds_toArray, List.set_cons_zero, List.set_cons_succ])
                    refine wpAnyH_take (i := 20) (v := ?v55) rfl (by kernel_rfl) (by kernel_rfl) (by kernel_rfl) (fun _ _ _ h => h) (Or.inl ⟨by rfl, ?hy55⟩) (by assumption) ?hr55
                    case hy55 => (intro w' hSw; (try dsimp only at hSw); go_simp; try with_reducible rfl)
                    (try simp only [Act.put, List.setIfInBounds_toArray, List.set_cons_zero, List.set_cons_succ])
                    refine wpAnyH_take (i := 23) (v := ?v56) rfl (by kernel_rfl) (by kernel_rfl) (by kernel_rfl) (fun _ _ _ h => h) (Or.inl ⟨by rfl, ?hy56⟩) (by assumption) ?hr56
                    case hy56 => (intro w' hSw; (try dsimp only at hSw); go_simp; try with_reducible rfl)
                    (try simp only [Act.put, List.setIfInBounds_toArray, List.set_cons_zero, List.set_cons_succ])
                    refine wpAnyH_take (i := 24) (v := ?v57) rfl (by kernel_rfl) (by kernel_rfl) (by kernel_rfl) (fun _ _ _ h => h) (Or.inl ⟨by rfl, ?hy57⟩) (by assumption) ?hr57
                    case hy57 => (intro w' hSw; (try dsimp only at hSw); go_simp; try with_reducible rfl)
                    (try simp only [Act.put, List.setIfInBounds_toArray, List.set_cons_zero, List.set_cons_succ])
                    refine wpAnyH_done (by kernel_rfl) ?_ _
                    simp only [Act.put, List.getElem_toArray, List.getElem_cons_succ, List.getElem_cons_zero, List.setIfInBounds_toArray, List.set_cons_zero, List.set_cons_succ]
                    go_wp2_with fail
                    go_meet
                    exact ⟨rfl, Lib.hid (by repeat (first | exact Below.refl _ _ | refine bl_alloc ?_ _ | refine bl_call b5 ?_ | refine bl_drew ?_))⟩
                  exact AllReadyH.nil
                refine AllReadyH.cons rfl (fun K hK => ?_) ?_
                · rw [if_pos (by rfl)]
                  go_simp
                  go_at_call 49
                  refine (CV.out _).mono ?_
                  rintro e w5 ⟨rfl, b5⟩
                  refine hK.out _ _ ?_ (fun hHeld => ?_)
                  · exact SKEEP.out _ (by repeat (first | exact Below.refl _ _ | refine bl_alloc ?_ _ | refine bl_call b5 ?_ | refine bl_drew ?_))
                  clear hK K
                  (try simp only [Act.put, List.setIfInBounds_toArray, List.set_cons_zero, List.set_cons_succ])
                  refine wpAnyH_ready (rs := [11]) (by kernel_rfl) (by simp) ?_
                  refine AllReadyH.cons rfl (fun K hK => ?_) ?_
                  · rw [if_pos (by rfl)]
                    go_simp
                    rw [conv34]
                    rotate_left
                    · repeat (first | exact heap_top (by first | rfl | (simp; done) | omega) | refine heap_up ?_ | refine up_call b5 ?_ | refine heap_drew ?_)
                    simp only [Result.andThen]
                    rw [Oper.upon_value]
                    refine hK.out _ _ ?_ (fun hHeld => ?_)
                    · exact SKEEP.out _ (by repeat (first | exact Below.refl _ _ | refine bl_alloc ?_ _ | refine bl_call b5 ?_ | refine bl_drew ?_))
                    clear hK K
                    (try simp only [Act.put, List.setIfInBounds_toArray, List.set_cons_zero, List.set_cons_succ])
                    refine wpAnyH_take (i := 12) (v := ?v58) rfl (by kernel_rfl) (by kernel_rfl) (by kernel_rfl) (fun _ _ _ h => h) (Or.inl ⟨by rfl, ?hy58⟩) (by assumption) ?hr58
                    case hy58 => (intro w' hSw; (try dsimp only at hSw); go_simp; try with_reducible rfl)
                    (try simp only [Act.put, List.setIfInBounds_toArray, List.set_cons_zero, List.set_cons_succ])
                    refine wpAnyH_take (i := 20) (v := ?v59) rfl (by kernel_rfl) (by kernel_rfl) (by kernel_rfl) (fun _ _ _ h => h) (Or.inl ⟨by rfl, ?hy59⟩) (by assumption) ?hr59
                    case hy59 => (intro w' hSw; (try dsimp only at hSw); go_simp; try with_reducible rfl)
                    (try simp only [Act.put, List.setIfInBounds_toArray, List.set_cons_zero, List.set_cons_succ])
                    refine wpAnyH_take (i := 23) (v := ?v60) rfl (by kernel_rfl) (by kernel_rfl) (by kernel_rfl) (fun _ _ _ h => h) (Or.inl ⟨by rfl, ?hy60⟩) (by assumption) ?hr60
                    case hy60 => (intro w' hSw; (try dsimp only at hSw); go_simp; try with_reducible rfl)
                    (try simp only [Act.put, List.setIfInBounds_toArray, List.set_cons_zero, List.set_cons_succ])
                    refine wpAnyH_take (i := 24) (v := ?v61) rfl (by kernel_rfl) (by kernel_rfl) (by kernel_rfl) (fun _ _ _ h => h) (Or.inl ⟨by rfl, ?hy61⟩) (by assumption) ?hr61
                    case hy61 => (intro w' hSw; (try dsimp only at hSw); go_simp; try with_reducible rfl)
                    (try simp only [Act.put, List.setIfInBounds_toArray, List.set_cons_zero, List.set_cons_succ])
                    refine wpAnyH_done (by kernel_rfl) ?_ _
                    simp only [Act.put, List.getElem_toArray, List.getElem_cons_succ, List.getElem_cons_zero, List.setIfInBounds_toArray, List.set_cons_zero, List.set_cons_succ]
                    go_wp2_with fail
                    go_meet
                    exact ⟨rfl, Lib.hid (by repeat (first | exact Below.refl _ _ | refine bl_alloc ?_ _ | refine bl_call b5 ?_ | refine bl_drew ?_))⟩
                  exact AllReadyH.nil
                exact AllReadyH.nil
              exact AllReadyH.nil
            exact AllReadyH.nil
          refine AllReadyH.cons rfl (fun K hK => ?_) ?_
          · rw [if_pos (by rfl)]
            go_simp
            go_at_call 49
            refine (CV.out _).mono ?_
            rintro e w5 ⟨rfl, b5⟩
            refine hK.out _ _ ?_ (fun hHeld => ?_)
            · exact SKEEP.out _ (by repeat (first | exact Below.refl _ _ | refine bl_alloc ?_ _ | refine bl_call b5 ?_ | refine bl_drew ?_))
            clear hK K
            (try simp only [Act.put, List.setIfInBounds_toArray, List.set_cons_zero, List.set_cons_succ])
            refine wpAnyH_ready (rs := [10, 21]) (by kernel_rfl) (by simp) ?_
            refine AllReadyH.cons rfl (fun K hK => ?_) ?_
            · go_simp
              refine hK.out _ _ ?_ (fun hHeld => ?_)
              · exact SKEEP.out _ (by repeat (first | exact Below.refl _ _ | refine bl_alloc ?_ _ | refine bl_call b5 ?_ | refine bl_drew ?_))
              clear hK K
              (try simp only [Act.put, List.setIfInBounds_toArray, List.set_cons_zero, List.set_cons_succ])
              refine wpAnyH_ready (rs := [11, 21]) (by kernel_rfl) (by simp) ?_
              refine AllReadyH.cons rfl (fun K hK => ?_) ?_
              · rw [if_pos (by rfl)]
                go_simp
                rw [conv34]
                rotate_left
                · repeat (first | exact heap_top (by first | rfl | (simp; done) | omega) | refine heap_up ?_ | refine up_call b5 ?_ | refine heap_drew ?_)
                simp only [Result.andThen]
                rw [Oper.upon_value]
                refine hK.out _ _ ?_ (fun hHeld => ?_)
                · exact SKEEP.out _ (by repeat (first | exact Below.refl _ _ | refine bl_alloc ?_ _ | refine bl_call b5 ?_ | refine bl_drew ?_))
                clear hK K
                (try simp only [Act.put, List.setIfInBounds_toArray, List.set_cons_zero, List.set_cons_succ])
                refine wpAnyH_take (i := 12) (v := ?v62) rfl (by kernel_rfl) (by kernel_rfl) (by kernel_rfl) (fun _ _ _ h => h) (Or.inl ⟨by rfl, ?hy62⟩) (by assumption) ?hr62
                case hy62 => (intro w' hSw; (try dsimp only at hSw); go_simp; try with_reducible rfl)
                (try simp only [Act.put, List.setIfInBounds_toArray, List.set_cons_zero, List.set_cons_succ])
                refine wpAnyH_take (i := 20) (v := ?v63) rfl (by kernel_rfl) (by kernel_rfl) (by kernel_rfl) (fun _ _ _ h => h) (Or.inl ⟨by rfl, ?hy63⟩) (by assumption) ?hr63
                case hy63 => (intro w' hSw; (try dsimp only at hSw); go_simp; try with_reducible rfl)
                (try simp only [Act.put, List.setIfInBounds_toArray, List.set_cons_zero, List.set_cons_succ])
                refine wpAnyH_ready (rs := [21]) (by kernel_rfl) (by simp) ?_
                refine AllReadyH.cons rfl (fun K hK => ?_) ?_
                · go_simp
                  refine hK.out _ _ ?_ (fun hHeld => ?_)
                  · exact SKEEP.out _ (by repeat (first | exact Below.refl _ _ | refine bl_alloc ?_ _ | refine bl_call b5 ?_ | refine bl_drew ?_))
                  clear hK K
                  (try simp only [Act.put, List.setIfInBounds_toArray, List.set_cons_zero, List.set_cons_succ])
                  refine wpAnyH_ready (rs := [22]) (by kernel_rfl) (by simp) ?_
                  refine AllReadyH.cons rfl (fun K hK => ?_) ?_
                  · rw [if_pos (by rfl)]
                    go_simp
                    rw [conv34]
                    rotate_left
                    · repeat (first | exact heap_top (by first | rfl | (simp; done) | omega) | refine heap_up ?_ | refine up_call b5 ?_ | refine heap_drew ?_)
                    simp only [Result.andThen]
                    rw [Oper.upon_value]
                    refine hK.out _ _ ?_ (fun hHeld => ?_)
                    · exact SKEEP.out _ (by repeat (first | exact Below.refl _ _ | refine bl_alloc ?_ _ | refine bl_call b5 ?_ | refine bl_drew ?_))
                    clear hK K
                    (try simp only [Act.put, List.setIfInBounds_toArray, List.set_cons_zero, List.set_cons_succ])
                    refine wpAnyH_take (i := 23) (v := ?v64) rfl (by kernel_rfl) (by kernel_rfl) (by kernel_rfl) (fun _ _ _ h => h) (Or.inl ⟨by rfl, ?hy64⟩) (by assumption) ?hr64
                    case hy64 => (intro w' hSw; (try dsimp only at hSw); go_simp; try with_reducible rfl)
                    (try simp only [Act.put, List.setIfInBounds_toArray, List.set_cons_zero, List.set_cons_succ])
                    refine wpAnyH_take (i := 24) (v := ?v65) rfl (by kernel_rfl) (by kernel_rfl) (by kernel_rfl) (fun _ _ _ h => h) (Or.inl ⟨by rfl, ?hy65⟩) (by assumption) ?hr65
                    case hy65 => (intro w' hSw; (try dsimp only at hSw); go_simp; try with_reducible rfl)
                    (try simp only [Act.put, List.setIfInBounds_toArray, List.set_cons_zero, List.set_cons_succ])
                    refine wpAnyH_done (by kernel_rfl) ?_ _
                    simp only [Act.put, List.getElem_toArray, List.getElem_cons_succ, List.getElem_cons_zero, List.setIfInBounds_toArray, List.set_cons_zero, List.set_cons_succ]
                    go_wp2_with fail
                    go_meet
                    exact ⟨rfl, Lib.hid (by repeat (first | exact Below.refl _ _ | refine bl_alloc ?_ _ | refine bl_call b5 ?_ | refine bl_drew ?_))⟩
                  exact AllReadyH.nil
                exact AllReadyH.nil
              refine AllReadyH.cons rfl (fun K hK => ?_) ?_
              · go_simp
                refine hK.out _ _ ?_ (fun hHeld => ?_)
                · exact SKEEP.out _ (by repeat (first | exact Below.refl _ _ | refine bl_alloc ?_ _ | refine bl_call b5 ?_ | refine bl_drew ?_))
                clear hK K
                (try simp only [Act.put, List.setIfInBounds_toArray, List.set_cons_zero, List.set_cons_succ])
                refine wpAnyH_ready (rs := [11, 22]) (by kernel_rfl) (by simp) ?_
                refine AllReadyH.cons rfl (fun K hK => ?_) ?_
                · rw [if_pos (by rfl)]
                  go_simp
                  rw [conv34]
                  rotate_left
                  · repeat (first | exact heap_top (by first | rfl | (simp; done) | omega) | refine heap_up ?_ | refine up_call b5 ?_ | refine heap_drew ?_)
                  simp only [Result.andThen]
                  rw [Oper.upon_value]
                  refine hK.out _ _ ?_ (fun hHeld => ?_)
                  · exact SKEEP.out _ (by repeat (first | exact Below.refl _ _ | refine bl_alloc ?_ _ | refine bl_call b5 ?_ | refine bl_drew ?_))
                  clear hK K
                  (try simp only [Act.put, List.setIfInBounds_toArray, List.set_cons_zero, List.set_cons_succ])
                  refine wpAnyH_take (i := 12) (v := ?v66) rfl (by kernel_rfl) (by kernel_rfl) (by kernel_rfl) (fun _ _ _ h => h) (Or.inl ⟨by rfl, ?hy66⟩) (by assumption) ?hr66
                  case hy66 => (intro w' hSw; (try dsimp only at hSw); go_simp; try with_reducible rfl)
                  (try simp only [Act.put, List.setIfInBounds_toArray, List.set_cons_zero, List.set_cons_succ])
                  refine wpAnyH_take (i := 20) (v := ?v67) rfl (by kernel_rfl) (by kernel_rfl) (by kernel_rfl) (fun _ _ _ h => h) (Or.inl ⟨by rfl, ?hy67⟩) (by assumption) ?hr67
                  case hy67 => (intro w' hSw; (try dsimp only at hSw); go_simp; try with_reducible rfl)
                  (try simp only [Act.put, List.setIfInBounds_toArray, List.set_cons_zero, List.set_cons_succ])
                  refine wpAnyH_ready (rs := [22]) (by kernel_rfl) (by simp) ?_
                  refine AllReadyH.cons rfl (fun K hK => ?_) ?_
                  · rw [if_pos (by rfl)]
                    go_simp
                    rw [conv34]
                    rotate_left
                    · repeat (first | exact heap_top (by first | rfl | (simp; done) | omega) | refine heap_up ?_ | refine up_call b5 ?_ | refine heap_drew ?_)
                    simp only [Result.andThen]
                    rw [Oper.upon_value]
                    refine hK.out _ _ ?_ (fun hHeld => ?_)
                    · exact SKEEP.out _ (by repeat (first | exact Below.refl _ _ | refine bl_alloc ?_ _ | refine bl_call b5 ?_ | refine bl_drew ?_))
                    clear hK K
                    (try simp only [Act.put, List.setIfInBounds_toArray, List.set_cons_zero, List.set_cons_succ])
                    refine wpAnyH_take (i := 23) (v := ?v68) rfl (by kernel_rfl) (by kernel_rfl) (by kernel_rfl) (fun _ _ _ h => h) (Or.inl ⟨by rfl, ?hy68⟩) (by assumption) ?hr68
                    case hy68 => (intro w' hSw; (try dsimp only at hSw); go_simp; try with_reducible rfl)
                    (try simp only [Act.put, List.setIfInBounds_toArray, List.set_cons_zero, List.set_cons_succ])
                    refine wpAnyH_take (i := 24) (v := ?v69) rfl (by kernel_rfl) (by kernel_rfl) (by kernel_rfl) (fun _ _ _ h => h) (Or.inl ⟨by rfl, ?hy69⟩) (by assumption) ?hr69
                    case hy69 => (intro w' hSw; (try dsimp only at hSw); go_simp; try with_reducible rfl)
                    (try simp only [Act.put, List.setIfInBounds_toArray, List.set_cons_zero, List.set_cons_succ])
                    refine wpAnyH_done (by kernel_rfl) ?_ _
                    simp only [Act.put, List.getElem_toArray, List.getElem_cons_succ, List.getElem_cons_zero, List.setIfInBounds_toArray, List.set_cons_zero, List.set_cons_succ]
                    go_wp2_with fail
                    go_meet
                    exact ⟨rfl, Lib.hid (by repeat (first | exact Below.refl _ _ | refine bl_alloc ?_ _ | refine bl_call b5 ?_ | refine bl_drew ?_))⟩
                  exact AllReadyH.nil
                refine AllReadyH.cons rfl (fun K hK => ?_) ?_
                · rw [if_pos (by rfl)]
                  go_simp
                  rw [conv34]
                  rotate_left
                  · repeat (first | exact heap_top (by first | rfl | (simp; done) | omega) | refine heap_up ?_ | refine up_call b5 ?_ | refine heap_drew ?_)
                  simp only [Result.andThen]
                  rw [Oper.upon_value]
                  refine hK.out _ _ ?_ (fun hHeld => ?_)
                  · exact SKEEP.out _ (by repeat (first | exact Below.refl _ _ | refine bl_alloc ?_ _ | refine bl_call b5 ?_ | refine bl_drew ?_))
                  clear hK K
                  (try simp only [Act.put, List.setIfInBounds_toArray, List.set_cons_zero, List.set_cons_succ])
                  refine wpAnyH_ready (rs := [11]) (by kernel_rfl) (by simp) ?_
                  refine AllReadyH.cons rfl (fun K hK => ?_) ?_
                  · rw [if_pos (by rfl)]
                    go_simp
                    rw [conv34]
                    rotate_left
                    · repeat (first | exact heap_top (by first | rfl | (simp; done) | omega) | refine heap_up ?_ | refine up_call b5 ?_ | refine heap_drew ?_)
                    simp only [Result.andThen]
                    rw [Oper.upon_value]
                    refine hK.out _ _ ?_ (fun hHeld => ?_)
                    · exact SKEEP.out _ (by repeat (first | exact Below.refl _ _ | refine bl_alloc ?_ _ | refine bl_call b5 ?_ | refine bl_drew ?_))
                    clear hK K
                    (try simp only [Act.put, List.setIfInBounds_toArray, List.set_cons_zero, List.set_cons_succ])
                    refine wpAnyH_take (i := 12) (v := ?v70) rfl (by kernel_rfl) (by kernel_rfl) (by kernel_rfl) (fun _ _ _ h => h) (Or.inl ⟨by rfl, ?hy70⟩) (by assumption) ?hr70
                    case hy70 => (intro w' hSw; (try dsimp only at hSw); go_simp; try with_reducible rfl)
                    (try simp only [Act.put, List.setIfInBounds_toArray, List.set_cons_zero, List.set_cons_succ])
                    refine wpAnyH_take (i := 20) (v := ?v71) rfl (by kernel_rfl) (by kernel_rfl) (by kernel_rfl) (fun _ _ _ h => h) (Or.inl ⟨by rfl, ?hy71⟩) (by assumption) ?hr71
                    case hy71 => (intro w' hSw; (try dsimp only at hSw); go_simp; try with_reducible rfl)
                    (try simp only [Act.put, List.setIfInBounds_toArray, List.set_cons_zero, List.set_cons_succ])
                    refine wpAnyH_take (i := 23) (v := ?v72) rfl (by kernel_rfl) (by kernel_rfl) (by kernel_rfl) (fun _ _ _ h => h) (Or.inl ⟨by rfl, ?hy72⟩) (by assumption) ?hr72
                    case hy72 => (intro w' hSw; (try dsimp only at hSw); go_simp; try with_reducible rfl)
                    (try simp only [Act.put, List.setIfInBounds_toArray, List.set_cons_zero, List.set_cons_succ])
                    refine wpAnyH_take (i := 24) (v := ?v73) rfl (by kernel_rfl) (by kernel_rfl) (by kernel_rfl) (fun _ _ _ h => h) (Or.inl ⟨by rfl, ?hy73⟩) (by assumption) ?hr73
                    case hy73 => (intro w' hSw; (try dsimp only at hSw); go_simp; try with_reducible rfl)
                    (try simp only [Act.put, List.setIfInBounds_toArray, List.set_cons_zero, List.set_cons_succ])
                    refine wpAnyH_done (by kernel_rfl) ?_ _
                    simp only [Act.put, List.getElem_toArray, List.getElem_cons_succ, List.getElem_cons_zero, List.setIfInBounds_toArray, List.set_cons_zero, List.set_cons_succ]
                    go_wp2_with fail
                    go_meet
                    exact ⟨rfl, Lib.hid (by repeat (first | exact Below.refl _ _ | refine bl_alloc ?_ _ | refine bl_call b5 ?_ | refine bl_drew ?_))⟩
                  exact AllReadyH.nil
                exact AllReadyH.nil
              exact AllReadyH.nil
            refine AllReadyH.cons rfl (fun K hK => ?_) ?_
            · go_simp
              refine hK.out _ _ ?_ (fun hHeld => ?_)
              · exact SKEEP.out _ (by repeat (first | exact Below.refl _ _ | refine bl_alloc ?_ _ | refine bl_call b5 ?_ | refine bl_drew ?_))
              clear hK K
              (try simp only [Act.put, List.setIfInBounds_toArray, List.set_cons_zero, List.set_cons_succ])
              refine wpAnyH_ready (rs := [10, 22]) (by kernel_rfl) (by simp) ?_
              refine AllReadyH.cons rfl (fun K hK => ?_) ?_
              · go_simp
                refine hK.out _ _ ?_ (fun hHeld => ?_)
                · exact SKEEP.out _ (by repeat (first | exact Below.refl _ _ | refine bl_alloc ?_ _ | refine bl_call b5 ?_ | refine bl_drew ?_))
                clear hK K
                (try simp only [Act.put, List.setIfInBounds_toArray, List.set_cons_zero, List.set_cons_succ])
                refine wpAnyH_ready (rs := [11, 22]) (by kernel_rfl) (by simp) ?_
                refine AllReadyH.cons rfl (fun K hK => ?_) ?_
                · rw [if_pos (by rfl)]
                  go_simp
                  rw [conv34]
                  rotate_left
                  · repeat (first | exact heap_top (by first | rfl | (simp; done) | omega) | refine heap_up ?_ | refine up_call b5 ?_ | refine heap_drew ?_)
                  simp only [Result.andThen]
                  rw [Oper.upon_value]
                  refine hK.out _ _ ?_ (fun hHeld => ?_)
                  · exact SKEEP.out _ (by repeat (first | exact Below.refl _ _ | refine bl_alloc ?_ _ | refine bl_call b5 ?_ | refine bl_drew ?_))
                  clear hK K
                  (try simp only [Act.put, List.setIfInBounds_toArray, List.set_cons_zero, List.set_cons_succ])
                  refine wpAnyH_take (i := 12) (v := ?v74) rfl (by kernel_rfl) (by kernel_rfl) (by kernel_rfl) (fun _ _ _ h => h) (Or.inl ⟨by rfl, ?hy74⟩) (by assumption) ?hr74
                  case hy74 => (intro w' hSw; (try dsimp only at hSw); go_simp; try with_reducible rfl)
                  (try simp only [Act.put, List.setIfInBounds_toArray, List.set_cons_zero, List.set_cons_succ])
                  refine wpAnyH_take (i := 20) (v := ?v75) rfl (by kernel_rfl) (by kernel_rfl) (by kernel_rfl) (fun _ _ _ h => h) (Or.inl ⟨by rfl, ?hy75⟩) (by assumption) ?hr75
                  case hy75 => (intro w' hSw; (try dsimp only at hSw); go_simp; try with_reducible rfl)
                  (try simp only [Act.put, List.setIfInBounds_toArray, List.set_cons_zero, List.set_cons_succ])
                  refine wpAnyH_ready (rs := [22]) (by kernel_rfl) (by simp) ?_
                  refine AllReadyH.cons rfl (fun K hK => ?_) ?_
                  · rw [if_pos (by rfl)]
                    go_simp
                    rw [conv34]
                    rotate_left
                    · repeat (first | exact heap_top (by first | rfl | (simp; done) | omega) | refine heap_up ?_ | refine up_call b5 ?_ | refine heap_drew ?_)
                    simp only [Result.andThen]
                    rw [Oper.upon_value]
                    refine hK.out _ _ ?_ (fun hHeld => ?_)
                    · exact SKEEP.out _ (by repeat (first | exact Below.refl _ _ | refine bl_alloc ?_ _ | refine bl_call b5 ?_ | refine bl_drew ?_))
                    clear hK K
                    (try simp only [Act.put, List.setIfInBounds_toArray, List.set_cons_zero, List.set_cons_succ])
                    refine wpAnyH_take (i := 23) (v := ?v76) rfl (by kernel_rfl) (by kernel_rfl) (by kernel_rfl) (fun _ _ _ h => h) (Or.inl ⟨by rfl, ?hy76⟩) (by assumption) ?hr76
                    case hy76 => (intro w' hSw; (try dsimp only at hSw); go_simp; try with_reducible rfl)
                    (try simp only [Act.put, List.setIfInBounds_toArray, List.set_cons_zero, List.set_cons_succ])
                    refine wpAnyH_take (i := 24) (v := ?v77) rfl (by kernel_rfl) (by kernel_rfl) (by kernel_rfl) (fun _ _ _ h => h) (Or.inl ⟨by rfl, ?hy77⟩) (by assumption) ?hr77
                    case hy77 => (intro w' hSw; (try dsimp only at hSw); go_simp; try with_reducible rfl)
                    (try simp only [Act.put, List.setIfInBounds_toArray, List.set_cons_zero, List.set_cons_succ])
                    refine wpAnyH_done (by kernel_rfl) ?_ _
                    simp only [Act.put, List.getElem_toArray, List.getElem_cons_succ, List.getElem_cons_zero, List.setIfInBounds_toArray, List.set_cons_zero, List.set_cons_succ]
                    go_wp2_with fail
                    go_meet
                    exact ⟨rfl, Lib.hid (by repeat (first | exact Below.refl _ _ | refine bl_alloc ?_ _ | refine bl_call b5 ?_ | refine bl_drew ?_))⟩
                  exact AllReadyH.nil
                refine AllReadyH.cons rfl (fun K hK => ?_) ?_
                · rw [if_pos (by rfl)]
                  go_simp
                  rw [conv34]
                  rotate_left
                  · repeat (first | exact heap_top (by first | rfl | (simp; done) | omega) | refine heap_up ?_ | refine up_call b5 ?_ | refine heap_drew ?_)
                  simp only [Result.andThen]
                  rw [Oper.upon_value]
                  refine hK.out _ _ ?_ (fun hHeld => ?_)
                  · exact SKEEP.out _ (by repeat (first | exact Below.refl _ _ | refine bl_alloc ?_ _ | refine bl_call b5 ?_ | refine bl_drew ?_))
                  clear hK K
                  (try simp only [Act.put, List.setIfInBounds_toArray, List.set_cons_zero, List.set_cons_succ])
                  refine wpAnyH_ready (rs := [11]) (by kernel_rfl) (by simp) ?_
                  refine AllReadyH.cons rfl (fun K hK => ?_) ?_
                  · rw [if_pos (by rfl)]
                    go_simp
                    rw [conv34]
                    rotate_left
                    · repeat (first | exact heap_top (by first | rfl | (simp; done) | omega) | refine heap_up ?_ | refine up_call b5 ?_ | refine heap_drew ?_)
                    simp only [Result.andThen]
                    rw [Oper.upon_value]
                    refine hK.out _ _ ?_ (fun hHeld => ?_)
                    · exact SKEEP.out _ (by repeat (first | exact Below.refl _ _ | refine bl_alloc ?_ _ | refine bl_call b5 ?_ | refine bl_drew ?_))
                    clear hK K
                    (try simp only [Act.put, List.setIfInBounds_toArray, List.set_cons_zero, List.set_cons_succ])
                    refine wpAnyH_take (i := 12) (v := ?v78) rfl (by kernel_rfl) (by kernel_rfl) (by kernel_rfl) (fun _ _ _ h => h) (Or.inl ⟨by rfl, ?hy78⟩) (by assumption) ?hr78
                    case hy78 => (intro w' hSw; (try dsimp only at hSw); go_simp; try with_reducible rfl)
                    (try simp only [Act.put, List.setIfInBounds_toArray, List.set_cons_zero, List.set_cons_succ])
                    refine wpAnyH_take (i := 20) (v := ?v79) rfl (by kernel_rfl) (by kernel_rfl) (by kernel_rfl) (fun _ _ _ h => h) (Or.inl ⟨by rfl, ?hy79⟩) (by assumption) ?hr79
                    case hy79 => (intro w' hSw; (try dsimp only at hSw); go_simp; try with_reducible rfl)
                    (try simp only [Act.put, List.setIfInBounds_toArray, List.set_cons_zero, List.set_cons_succ])
                    refine wpAnyH_take (i := 23) (v := ?v80) rfl (by kernel_rfl) (by kernel_rfl) (by kernel_rfl) (fun _ _ _ h => h) (Or.inl ⟨by rfl, ?hy80⟩) (by assumption) ?hr80
                    case hy80 => (intro w' hSw; (try dsimp only at hSw); go_simp; try with_reducible rfl)
                    (try simp only [Act.put, List.setIfInBounds_toArray, List.set_cons_zero, List.set_cons_succ])
                    refine wpAnyH_take (i := 24) (v := ?v81) rfl (by kernel_rfl) (by kernel_rfl) (by kernel_rfl) (fun _ _ _ h => h) (Or.inl ⟨by rfl, ?hy81⟩) (by assumption) ?hr81
                    case hy81 => (intro w' hSw; (try dsimp only at hSw); go_simp; try with_reducible rfl)
                    (try simp only [Act.put, List.setIfInBounds_toArray, List.set_cons_zero, List.set_cons_succ])
                    refine wpAnyH_done (by kernel_rfl) ?_ _
                    simp only [Act.put, List.getElem_toArray, List.getElem_cons_succ, List.getElem_cons_zero, List.setIfInBounds_toArray, List.set_cons_zero, List.set_cons_succ]
                    go_wp2_with fail
                    go_meet
                    exact ⟨rfl, Lib.hid (by repeat (first | exact Below.refl _ _ | refine bl_alloc ?_ _ | refine bl_call b5 ?_ | refine bl_drew ?_))⟩
                  exact AllReadyH.nil
                exact AllReadyH.nil
              refine AllReadyH.cons rfl (fun K hK => ?_) ?_
              · rw [if_pos (by rfl)]
                go_simp
                rw [conv34]
                rotate_left
                · repeat (first | exact heap_top (by first | rfl | (simp; done) | omega) | refine heap_up ?_ | refine up_call b5 ?_ | refine heap_drew ?_)
                simp only [Result.andThen]
                rw [Oper.upon_value]
                refine hK.out _ _ ?_ (fun hHeld => ?_)
                · exact SKEEP.out _ (by repeat (first | exact Below.refl _ _ | refine bl_alloc ?_ _ | refine bl_call b5 ?_ | refine bl_drew ?_))
                clear hK K
                (try simp only [Act.put, List.setIfInBounds_toArray, List.set_cons_zero, List.set_cons_succ])
                refine wpAnyH_ready (rs := [10]) (by kernel_rfl) (by simp) ?_
                refine AllReadyH.cons rfl (fun K hK => ?_) ?_
                · go_simp
                  refine hK.out _ _ ?_ (fun hHeld => ?_)
                  · exact SKEEP.out _ (by repeat (first | exact Below.refl _ _ | refine bl_alloc ?_ _ | refine bl_call b5 ?_ | refine bl_drew ?_))
                  clear hK K
                  (try simp only [Act.put, List.setIfInBounds_toArray, List.set_cons_zero, List.set_cons_succ])
                  refine wpAnyH_ready (rs := [11]) (by kernel_rfl) (by simp) ?_
                  refine AllReadyH.cons rfl (fun K hK => ?_) ?_
                  · rw [if_pos (by rfl)]
                    go_simp
                    rw [conv34]
                    rotate_left
                    · repeat (first | exact heap_top (by first | rfl | (simp; done) | omega) | refine heap_up ?_ | refine up_call b5 ?_ | refine heap_drew ?_)
                    simp only [Result.andThen]
                    rw [Oper.upon_value]
                    refine hK.out _ _ ?_ (fun hHeld => ?_)
                    · exact SKEEP.out _ (by repeat (first | exact Below.refl _ _ | refine bl_alloc ?_ _ | refine bl_call b5 ?_ | refine bl_drew ?_))
                    clear hK K
                    (try simp only [Act.put, List.setIfInBounds_toArray, List.set_cons_zero, List.set_cons_succ])
                    refine wpAnyH_take (i := 12) (v := ?v82) rfl (by kernel_rfl) (by kernel_rfl) (by kernel_rfl) (fun _ _ _ h => h) (Or.inl ⟨by rfl, ?hy82⟩) (by assumption) ?hr82
                    case hy82 => (intro w' hSw; (try dsimp only at hSw); go_simp; try with_reducible rfl)
                    (try simp only [Act.put, List.setIfInBounds_toArray, List.set_cons_zero, List.set_cons_succ])
                    refine wpAnyH_take (i := 20) (v := ?v83) rfl (by kernel_rfl) (by kernel_rfl) (by kernel_rfl) (fun _ _ _ h => h) (Or.inl ⟨by rfl, ?hy83⟩) (by assumption) ?hr83
                    case hy83 => (intro w' hSw; (try dsimp only at hSw); go_simp; try with_reducible rfl)
                    (try simp only [Act.put, List.setIfInBounds_toArray, List.set_cons_zero, List.set_cons_succ])
                    refine wpAnyH_take (i := 23) (v := ?v84) rfl (by kernel_rfl) (by kernel_rfl) (by kernel_rfl) (fun _ _ _ h => h) (Or.inl ⟨by rfl, ?hy84⟩) (by assumption) ?hr84
                    case hy84 => (intro w' hSw; (try dsimp only at hSw); go_simp; try with_reducible rfl)
                    (try simp only [Act.put, List.setIfInBounds_toArray, List.set_cons_zero, List.set_cons_succ])
                    refine wpAnyH_take (i := 24) (v := ?v85) rfl (by kernel_rfl) (by kernel_rfl) (by kernel_rfl) (fun _ _ _ h => h) (Or.inl ⟨by rfl, ?hy85⟩) (by assumption) ?hr85
                    case hy85 => (intro w' hSw; (try dsimp only at hSw); go_simp; try with_reducible rfl)
                    (try simp only [Act.put, List.setIfInBounds_toArray, List.set_cons_zero, List.set_cons_succ])
                    refine wpAnyH_done (by kernel_rfl) ?_ _
                    simp only [Act.put, List.getElem_toArray, List.getElem_cons_succ, List.getElem_cons_zero, List.setIfInBounds_toArray, List.set_cons_zero, List.set_cons_succ]
                    go_wp2_with fail
                    go_meet
                    exact ⟨rfl, Lib.hid (by repeat (first | exact Below.refl _ _ | refine bl_alloc ?_ _ | refine bl_call b5 ?_ | refine bl_drew ?_))⟩
                  exact AllReadyH.nil
                exact AllReadyH.nil
              exact AllReadyH.nil
            exact AllReadyH.nil
          refine AllReadyH.cons rfl (fun K hK => ?_) ?_
          · go_simp
            refine hK.out _ _ ?_ (fun hHeld => ?_)
            · exact SKEEP.out _ (by repeat (first | exact Below.refl _ _ | refine bl_alloc ?_ _ | refine bl_call b5 ?_ | refine bl_drew ?_))
            clear hK K
            (try simp only [Act.put, List.setIfInBounds_toArray, List.set_cons_zero, List.set_cons_succ])
            refine wpAnyH_ready (rs := [10, 19, 22]) (by kernel_rfl) (by simp) ?_
            refine AllReadyH.cons rfl (fun K hK => ?_) ?_
            · go_simp
              refine hK.out _ _ ?_ (fun hHeld => ?_)
              · exact SKEEP.out _ (by repeat (first | exact Below.refl _ _ | refine bl_alloc ?_ _ | refine bl_call b5 ?_ | refine bl_drew ?_))
              clear hK K
              (try simp only [Act.put, List.setIfInBounds_toArray, List.set_cons_zero, List.set_cons_succ])
              refine wpAnyH_ready (rs := [11, 19, 22]) (by kernel_rfl) (by simp) ?_
              refine AllReadyH.cons rfl (fun K hK => ?_) ?_
              · rw [if_pos (by rfl)]
                go_simp
                rw [conv34]
                rotate_left
                · repeat (first | exact heap_top (by first | rfl | (simp; done) | omega) | refine heap_up ?_ | refine up_call b5 ?_ | refine heap_drew ?_)
                simp only [Result.andThen]
                rw [Oper.upon_value]
                refine hK.out _ _ ?_ (fun hHeld => ?_)
                · exact SKEEP.out _ (by repeat (first | exact Below.refl _ _ | refine bl_alloc ?_ _ | refine bl_call b5 ?_ | refine bl_drew ?_))
                clear hK K
                (try simp only [Act.put, List.setIfInBounds_toArray, List.set_cons_zero, List.set_cons_succ])
                refine wpAnyH_take (i := 12) (v := ?v86) rfl (by kernel_rfl) (by kernel_rfl) (by kernel_rfl) (fun _ _ _ h => h) (Or.inl ⟨by rfl, ?hy86⟩) (by assumption) ?hr86
                case hy86 => (intro w' hSw; (try dsimp only at hSw); go_simp; try with_reducible rfl)
                (try simp only [Act.put, List.setIfInBounds_toArray, List.set_cons_zero, List.set_cons_succ])
                refine wpAnyH_ready (rs := [19, 22]) (by kernel_rfl) (by simp) ?_
                refine AllReadyH.cons rfl (fun K hK => ?_) ?_
                · rw [if_pos (by rfl)]
                  go_simp
                  go_at_call 49
                  refine (CV.out _).mono ?_
                  rintro e w5 ⟨rfl, b5⟩
                  refine hK.out _ _ ?_ (fun hHeld => ?_)
                  · exact SKEEP.out _ (by repeat (first | exact Below.refl _ _ | refine bl_alloc ?_ _ | refine bl_call b5 ?_ | refine bl_drew ?_))
                  clear hK K
                  (try simp only [Act.put, List.setIfInBounds_toArray, List.set_cons_zero, List.set_cons_succ])
                  refine wpAnyH_take (i := 20) (v := ?v87) rfl (by kernel_rfl) (by kernel_rfl) (by kernel_rfl) (fun _ _ _ h => h) (Or.inl ⟨by rfl, ?hy87⟩) (by assumption) ?hr87
                  case hy87 => (intro w' hSw; (try dsimp only at hSw); go_simp; try with_reducible rfl)
                  (try simp only [Act.put, List.setIfInBounds_toArray, List.set_cons_zero, List.set_cons_succ])
                  refine wpAnyH_ready (rs := [22]) (by kernel_rfl) (by simp) ?_
                  refine AllReadyH.cons rfl (fun K hK => ?_) ?_
                  · rw [if_pos (by rfl)]
                    go_simp
                    rw [conv34]
                    rotate_left
                    · repeat (first | exact heap_top (by first | rfl | (simp; done) | omega) | refine heap_up ?_ | refine up_call b5 ?_ | refine heap_drew ?_)
                    simp only [Result.andThen]
                    rw [Oper.upon_value]
                    refine hK.out _ _ ?_ (fun hHeld => ?_)
                    · exact SKEEP.out _ (by repeat (first | exact Below.refl _ _ | refine bl_alloc ?_ _ | refine bl_call b5 ?_ | refine bl_drew ?_))
                    clear hK K
                    (try simp only [Act.put, List.setIfInBounds_toArray, List.set_cons_zero, List.set_cons_succ])
                    refine wpAnyH_take (i := 23) (v := ?v88) rfl (by kernel_rfl) (by kernel_rfl) (by kernel_rfl) (fun _ _ _ h => h) (Or.inl ⟨by rfl, ?hy88⟩) (by assumption) ?hr88
                    case hy88 => (intro w' hSw; (try dsimp only at hSw); go_simp; try with_reducible rfl)
                    (try simp only [Act.put, List.setIfInBounds_toArray, List.set_cons_zero, List.set_cons_succ])
                    refine wpAnyH_take (i := 24) (v := ?v89) rfl (by kernel_rfl) (by kernel_rfl) (by kernel_rfl) (fun _ _ _ h => h) (Or.inl ⟨by rfl, ?hy89⟩) (by assumption) ?hr89
                    case hy89 => (intro w' hSw; (try dsimp only at hSw); go_simp; try with_reducible rfl)
                    (try simp only [Act.put, List.setIfInBounds_toArray, List.set_cons_zero, List.set_cons_succ])
                    refine wpAnyH_done (by kernel_rfl) ?_ _
                    simp only [Act.put, List.getElem_toArray, List.getElem_cons_succ, List.getElem_cons_zero, List.setIfInBounds_toArray, List.set_cons_zero, List.set_cons_succ]
                    go_wp2_with fail
                    go_meet
                    exact ⟨rfl, Lib.hid (by repeat (first | exact Below.refl _ _ | refine bl_alloc ?_ _ | refine bl_call b5 ?_ | refine bl_drew ?_))⟩
                  exact AllReadyH.nil
                refine AllReadyH.cons rfl (fun K hK => ?_) ?_
                · rw [if_pos (by rfl)]
                  go_simp
                  rw [conv34]
                  rotate_left
                  · repeat (first | exact heap_top (by first | rfl | (simp; done) | omega) | refine heap_up ?_ | refine up_call b5 ?_ | refine heap_drew ?_)
                  simp only [Result.andThen]
                  rw [Oper.upon_value]
                  refine hK.out _ _ ?_ (fun hHeld => ?_)
                  · exact SKEEP.out _ (by repeat (first | exact Below.refl _ _ | refine bl_alloc ?_ _ | refine bl_call b5 ?_ | refine bl_drew ?_))
                  clear hK K
                  (try simp only [Act.put, List.setIfInBounds_toArray, List.set_cons_zero, List.set_cons_succ])
                  refine wpAnyH_ready (rs := [19]) (by kernel_rfl) (by simp) ?_
                  refine AllReadyH.cons rfl (fun K hK => ?_) ?_
                  · rw [if_pos (by rfl)]
                    go_simp
                    go_at_call 49
                    refine (CV.out _).mono ?_
                    rintro e w5 ⟨rfl, b5⟩
                    refine hK.out _ _ ?_ (fun hHeld => ?_)
                    · exact SKEEP.out _ (by repeat (first | exact Below.refl _ _ | refine bl_alloc ?_ _ | refine bl_call b5 ?_ | refine bl_drew ?_))
                    clear hK K
                    (try simp only [Act.put, List.setIfInBounds_toArray, List.set_cons_zero, List.set_cons_succ])
                    refine wpAnyH_take (i := 20) (v := ?v90) rfl (by kernel_rfl) (by kernel_rfl) (by kernel_rfl) (fun _ _ _ h => h) (Or.inl ⟨by rfl, ?hy90⟩) (by assumption) ?hr90
                    case hy90 => (intro w' hSw; (try dsimp only at hSw); go_simp; try with_reducible rfl)
                    (try simp only [Act.put, List.setIfInBounds_toArray, List.set_cons_zero, List.set_cons_succ])
                    refine wpAnyH_take (i := 23) (v := ?v91) rfl (by kernel_rfl) (by kernel_rfl) (by kernel_rfl) (fun _ _ _ h => h) (Or.inl ⟨by rfl, ?hy91⟩) (by assumption) ?hr91
                    case hy91 => (intro w' hSw; (try dsimp only at hSw); go_simp; try with_reducible rfl)
                    (try simp only [Act.put, List.setIfInBounds_toArray, List.set_cons_zero, List.set_cons_succ])
                    refine wpAnyH_take (i := 24) (v := ?v92) rfl (by kernel_rfl) (by kernel_rfl) (by kernel_rfl) (fun _ _ _ h => h) (Or.inl ⟨by rfl, ?hy92⟩) (by assumption) ?hr92
                    case hy92 => (intro w' hSw; (try dsimp only at hSw); go_simp; try with_reducible rfl)
                    (try simp only [Act.put, List.setIfInBounds_toArray, List.set_cons_zero, List.set_cons_succ])
                    refine wpAnyH_done (by kernel_rfl) ?_ _
                    simp only [Act.put, List.getElem_toArray, List.getElem_cons_succ, List.getElem_cons_zero, List.setIfInBounds_toArray, List.set_cons_zero, List.set_cons_succ]
                    go_wp2_with fail
                    go_meet
                    exact ⟨rfl, Lib.hid (by repeat (first | exact Below.refl _ _ | refine bl_alloc ?_ _ | refine bl_call b5 ?_ | refine bl_drew ?_))⟩
                  exact AllReadyH.nil
                exact AllReadyH.nil
              refine AllReadyH.cons rfl (fun K hK => ?_) ?_
              · rw [if_pos (by rfl)]
                go_simp
                go_at_call 49
                refine (CV.out _).mono ?_
                rintro e w5 ⟨rfl, b5⟩
                refine hK.out _ _ ?_ (fun hHeld => ?_)
                · exact SKEEP.out _ (by repeat (first | exact Below.refl _ _ | refine bl_alloc ?_ _ | refine bl_call b5 ?_ | refine bl_drew ?_))
                clear hK K
                (try simp only [Act.put, List.setIfInBounds_toArray, List.set_cons_zero, List.set_cons_succ])
                refine wpAnyH_ready (rs := [11, 22]) (by kernel_rfl) (by simp) ?_
                refine AllReadyH.cons rfl (fun K hK => ?_) ?_
                · rw [if_pos (by rfl)]
                  go_simp
                  rw [conv34]
                  rotate_left
                  · repeat (first | exact heap_top (by first | rfl | (simp; done) | omega) | refine heap_up ?_ | refine up_call b5 ?_ | refine heap_drew ?_)
                  simp only [Result.andThen]
                  rw [Oper.upon_value]
                  refine hK.out _ _ ?_ (fun hHeld => ?_)
                  · exact SKEEP.out _ (by repeat (first | exact Below.refl _ _ | refine bl_alloc ?_ _ | refine bl_call b5 ?_ | refine bl_drew ?_))
                  clear hK K
                  (try simp only [Act.put, List.setIfInBounds_toArray, List.set_cons_zero, List.set_cons_succ])
                  refine wpAnyH_take (i := 12) (v := ?v93) rfl (by kernel_rfl) (by kernel_rfl) (by kernel_rfl) (fun _ _ _ h => h) (Or.inl ⟨by rfl, ?hy93⟩) (by assumption) ?hr93
                  case hy93 => (intro w' hSw; (try dsimp only at hSw); go_simp; try with_reducible rfl)
                  (try simp only [Act.put, List.setIfInBounds_toArray, List.set_cons_zero, List.set_cons_succ])
                  refine wpAnyH_take (i := 20) (v := ?v94) rfl (by kernel_rfl) (by kernel_rfl) (by kernel_rfl) (fun _ _ _ h => h) (Or.inl ⟨by rfl, ?hy94⟩) (by assumption) ?hr94
                  case hy94 => (intro w' hSw; (try dsimp only at hSw); go_simp; try with_reducible rfl)
                  (try simp only [Act.put, List.setIfInBounds_toArray, List.set_cons_zero, List.set_cons_succ])
                  refine wpAnyH_ready (rs := [22]) (by kernel_rfl) (by simp) ?_
                  refine AllReadyH.cons rfl (fun K hK => ?_) ?_
                  · rw [if_pos (by rfl)]
                    go_simp
                    rw [conv34]
                    rotate_left
                    · repeat (first | exact heap_top (by first | rfl | (simp; done) | omega) | refine heap_up ?_ | refine up_call b5 ?_ | refine heap_drew ?_)
                    simp only [Result.andThen]
                    rw [Oper.upon_value]
                    refine hK.out _ _ ?_ (fun hHeld => ?_)
                    · exact SKEEP.out _ (by repeat (first | exact Below.refl _ _ | refine bl_alloc ?_ _ | refine bl_call b5 ?_ | refine bl_drew ?_))
                    clear hK K
                    (try simp only [Act.put, List.setIfInBounds_toArray, List.set_cons_zero, List.set_cons_succ])
                    refine wpAnyH_take (i := 23) (v := ?v95) rfl (by kernel_rfl) (by kernel_rfl) (by kernel_rfl) (fun _ _ _ h => h) (Or.inl ⟨by rfl, ?hy95⟩) (by assumption) ?hr95
                    case hy95 => (intro w' hSw; (try dsimp only at hSw); go_simp; try with_reducible rfl)
                    (try simp only [Act.put, List.setIfInBounds_toArray, List.set_cons_zero, List.set_cons_succ])
                    refine wpAnyH_take (i := 24) (v := ?v96) rfl (by kernel_rfl) (by kernel_rfl) (by kernel_rfl) (fun _ _ _ h => h) (Or.inl ⟨by rfl, ?hy96⟩) (by assumption) ?hr96
                    case hy96 => (intro w' hSw; (try dsimp only at hSw); go_simp; try with_reducible rfl)
                    (try simp only [Act.put, List.setIfInBounds_toArray, List.set_cons_zero, List.set_cons_succ])
                    refine wpAnyH_done (by kernel_rfl) ?_ _
                    simp only [Act.put, List.getElem_toArray, List.getElem_cons_succ, List.getElem_cons_zero, List.setIfInBounds_toArray, List.set_cons_zero, List.set_cons_succ]
                    go_wp2_with fail
                    go_meet
                    exact ⟨rfl, Lib.hid (by repeat (first | exact Below.refl _ _ | refine bl_alloc ?_ _ | refine bl_call b5 ?_ | refine bl_drew ?_))⟩
                  exact AllReadyH.nil
                refine AllReadyH.cons rfl (fun K hK => ?_) ?_
                · rw [if_pos (by rfl)]
                  go_simp
                  rw [conv34]
                  rotate_left
                  · repeat (first | exact heap_top (by first | rfl | (simp; done) | omega) | refine heap_up ?_ | refine up_call b5 ?_ | refine heap_drew ?_)
                  simp only [Result.andThen]
                  rw [Oper.upon_value]
                  refine hK.out _ _ ?_ (fun hHeld => ?_)
                  · exact SKEEP.out _ (by repeat (first | exact Below.refl _ _ | refine bl_alloc ?_ _ | refine bl_call b5 ?_ | refine bl_drew ?_))
                  clear hK K
                  (try simp only [Act.put, List.setIfInBounds_toArray, List.set_cons_zero, List.set_cons_succ])
                  refine wpAnyH_ready (rs := [11]) (by kernel_rfl) (by simp) ?_
                  refine AllReadyH.cons rfl (fun K hK => ?_) ?_
                  · rw [if_pos (by rfl)]
                    go_simp
                    rw [conv34]
                    rotate_left
                    · repeat (first | exact heap_top (by first | rfl | (simp; done) | omega) | refine heap_up ?_ | refine up_call b5 ?_ | refine heap_drew ?_)
                    simp only [Result.andThen]
                    rw [Oper.upon_value]
                    refine hK.out _ _ ?_ (fun hHeld => ?_)
                    · exact SKEEP.out _ (by repeat (first | exact Below.refl _ _ | refine bl_alloc ?_ _ | refine bl_call b5 ?_ | refine bl_drew ?_))
                    clear hK K
                    (try simp only [Act.put, List.setIfInBounds_toArray, List.set_cons_zero, List.set_cons_succ])
                    refine wpAnyH_take (i := 12) (v := ?v97) rfl (by kernel_rfl) (by kernel_rfl) (by kernel_rfl) (fun _ _ _ h => h) (Or.inl ⟨by rfl, ?hy97⟩) (by assumption) ?hr97
                    case hy97 => (intro w' hSw; (try dsimp only at hSw); go_simp; try with_reducible rfl)
                    (try simp only [Act.put, List.setIfInBounds_toArray, List.set_cons_zero, List.set_cons_succ])
                    refine wpAnyH_take (i := 20) (v := ?v98) rfl (by kernel_rfl) (by kernel_rfl) (by kernel_rfl) (fun _ _ _ h => h) (Or.inl ⟨by rfl, ?hy98⟩) (by assumption) ?hr98
                    case hy98 => (intro w' hSw; (try dsimp only at hSw); go_simp; try with_reducible rfl)
                    (try simp only [Act.put, List.setIfInBounds_toArray, List.set_cons_zero, List.set_cons_succ])
                    refine wpAnyH_take (i := 23) (v := ?v99) rfl (by kernel_rfl) (by kernel_rfl) (by kernel_rfl) (fun _ _ _ h => h) (Or.inl ⟨by rfl, ?hy99⟩) (by assumption) ?hr99
                    case hy99 => (intro w' hSw; (try dsimp only at hSw); go_simp; try with_reducible rfl)
                    (try simp only [Act.put, List.setIfInBounds_toArray, List.set_cons_zero, List.set_cons_succ])
                    refine wpAnyH_take (i := 24) (v := ?v100) rfl (by kernel_rfl) (by kernel_rfl) (by kernel_rfl) (fun _ _ _ h => h) (Or.inl ⟨by rfl, ?hy100⟩) (by assumption) ?hr100
                    case hy100 => (intro w' hSw; (try dsimp only at hSw); go_simp; try with_reducible rfl)
                    (try simp only [Act.put, List.setIfInBounds_toArray, List.set_cons_zero, List.set_cons_succ])
                    refine wpAnyH_done (by kernel_rfl) ?_ _
                    simp only [Act.put, List.getElem_toArray, List.getElem_cons_succ, List.getElem_cons_zero, List.setIfInBounds_toArray, List.set_cons_zero, List.set_cons_succ]
                    go_wp2_with fail
                    go_meet
                    exact ⟨rfl, Lib.hid (by repeat (first | exact Below.refl _ _ | refine bl_alloc ?_ _ | refine bl_call b5 ?_ | refine bl_drew ?_))⟩
                  exact AllReadyH.nil
                exact AllReadyH.nil
              refine AllReadyH.cons rfl (fun K hK => ?_) ?_
              · rw [if_pos (by rfl)]
                go_simp
                rw [conv34]
                rotate_left
                · repeat (first | exact heap_top (by first | rfl | (simp; done) | omega) | refine heap_up ?_ | refine up_call b5 ?_ | refine heap_drew ?_)
                simp only [Result.andThen]
                rw [Oper.upon_value]
                refine hK.out _ _ ?_ (fun hHeld => ?_)
                · exact SKEEP.out _ (by repeat (first | exact Below.refl _ _ | refine bl_alloc ?_ _ | refine bl_call b5 ?_ | refine bl_drew ?_))
                clear hK K
                (try simp only [Act.put, List.setIfInBounds_toArray, List.set_cons_zero, List.set_cons_succ])
                refine wpAnyH_ready (rs := [11, 19]) (by kernel_rfl) (by simp) ?_
                refine AllReadyH.cons rfl (fun K hK => ?_) ?_
                · rw [if_pos (by rfl)]
                  go_simp
                  rw [conv34]
                  rotate_left
                  · repeat (first | exact heap_top (by first | rfl | (simp; done) | omega) | refine heap_up ?_ | refine up_call b5 ?_ | refine heap_drew ?_)
                  simp only [Result.andThen]
                  rw [Oper.upon_value]
                  refine hK.out _ _ ?_ (fun hHeld => ?_)
                  · exact SKEEP.out _ (by repeat (first | exact Below.refl _ _ | refine bl_alloc ?_ _ | refine bl_call b5 ?_ | refine bl_drew ?_))
                  clear hK K
                  (try simp only [Act.put, List.setIfInBounds_toArray, List.set_cons_zero, List.set_cons_succ])
                  refine wpAnyH_take (i := 12) (v := ?v101) rfl (by kernel_rfl) (by kernel_rfl) (by kernel_rfl) (fun _ _ _ h => h) (Or.inl ⟨by rfl, ?hy101⟩) (by assumption) ?hr101
                  case hy101 => (intro w' hSw; (try dsimp only at hSw); go_simp; try with_reducible rfl)
                  (try simp only [Act.put, List.setIfInBounds_toArray, List.set_cons_zero, List.set_cons_succ])
                  refine wpAnyH_ready (rs := [19]) (by kernel_rfl) (by simp) ?_
                  refine AllReadyH.cons rfl (fun K hK => ?_) ?_
                  · rw [if_pos (by rfl)]
                    go_simp
                    go_at_call 49
                    refine (CV.out _).mono ?_
                    rintro e w5 ⟨rfl, b5⟩
                    refine hK.out _ _ ?_ (fun hHeld => ?_)
                    · exact SKEEP.out _ (by repeat (first | exact Below.refl _ _ | refine bl_alloc ?_ _ | refine bl_call b5 ?_ | refine bl_drew ?_))
                    clear hK K
                    (try simp only [Act.put, List.setIfInBounds_toArray, List.set_cons_zero, List.set_cons_succ])
                    refine wpAnyH_take (i := 20) (v := ?v102) rfl (by kernel_rfl) (by kernel_rfl) (by kernel_rfl) (fun _ _ _ h => h) (Or.inl ⟨by rfl, ?hy102⟩) (by assumption) ?hr102
                    case hy102 => (intro w' hSw; (try dsimp only at hSw); go_simp; try with_reducible rfl)
                    (try simp only [Act.put, List.setIfInBounds_toArray, List.set_cons_zero, List.set_cons_succ])
                    refine wpAnyH_take (i := 23) (v := ?v103) rfl (by kernel_rfl) (by kernel_rfl) (by kernel_rfl) (fun _ _ _ h => h) (Or.inl ⟨by rfl, ?hy103⟩) (by assumption) ?hr103
                    case hy103 => (intro w' hSw; (try dsimp only at hSw); go_simp; try with_reducible rfl)
                    (try simp only [Act.put, List.setIfInBounds_toArray, List.set_cons_zero, List.set_cons_succ])
                    refine wpAnyH_take (i := 24) (v := ?v104) rfl (by kernel_rfl) (by kernel_rfl) (by kernel_rfl) (fun _ _ _ h => h) (Or.inl ⟨by rfl, ?hy104⟩) (by assumption) ?hr104
                    case hy104 => (intro w' hSw; (try dsimp only at hSw); go_simp; try with_reducible rfl)
                    (try simp only [Act.put, List.setIfInBounds_toArray, List.set_cons_zero, List.set_cons_succ])
                    refine wpAnyH_done (by kernel_rfl) ?_ _
                    simp only [Act.put, List.getElem_toArray, List.getElem_cons_succ, List.getElem_cons_zero, List.setIfInBounds_toArray, List.set_cons_zero, List.set_cons_succ]
                    go_wp2_with fail
                    go_meet
                    exact ⟨rfl, Lib.hid (by repeat (first | exact Below.refl _ _ | refine bl_alloc ?_ _ | refine bl_call b5 ?_ | refine bl_drew ?_))⟩
                  exact AllReadyH.nil
                refine AllReadyH.cons rfl (fun K hK => ?_) ?_
                · rw [if_pos (by rfl)]
                  go_simp
                  go_at_call 49
                  refine (CV.out _).mono ?_
                  rintro e w5 ⟨rfl, b5⟩
                  refine hK.out _ _ ?_ (fun hHeld => ?_)
                  · exact SKEEP.out _ (by repeat (first | exact Below.refl _ _ | refine bl_alloc ?_ _ | refine bl_call b5 ?_ | refine bl_drew ?_))
                  clear hK K
                  (try simp only [Act.put, List.setIfInBounds_toArray, List.set_cons_zero, List.set_cons_succ])
                  refine wpAnyH_ready (rs := [11]) (by kernel_rfl) (by simp) ?_
                  refine AllReadyH.cons rfl (fun K hK => ?_) ?_
                  · rw [if_pos (by rfl)]
                    go_simp
                    rw [conv34]
                    rotate_left
                    · repeat (first | exact heap_top (by first | rfl | (simp; done) | omega) | refine heap_up ?_ | refine up_call b5 ?_ | refine heap_drew ?_)
                    simp only [Result.andThen]
                    rw [Oper.upon_value]
                    refine hK.out _ _ ?_ (fun hHeld => ?_)
                    · exact SKEEP.out _ (by repeat (first | exact Below.refl _ _ | refine bl_alloc ?_ _ | refine bl_call b5 ?_ | refine bl_drew ?_))
                    clear hK K
                    (try simp only [Act.put, List.setIfInBounds_toArray, List.set_cons_zero, List.set_cons_succ])
                    refine wpAnyH_take (i := 12) (v := ?v105) rfl (by kernel_rfl) (by kernel_rfl) (by kernel_rfl) (fun _ _ _ h => h) (Or.inl ⟨by rfl, ?hy105⟩) (by assumption) ?hr105
                    case hy105 => (intro w' hSw; (try dsimp only at hSw); go_simp; try with_reducible rfl)
                    (try simp only [Act.put, List.setIfInBounds_toArray, List.set_cons_zero, List.set_cons_succ])
                    refine wpAnyH_take (i := 20) (v := ?v106) rfl (by kernel_rfl) (by kernel_rfl) (by kernel_rfl) (fun _ _ _ h => h) (Or.inl ⟨by rfl, ?hy106⟩) (by assumption) ?hr106
                    case hy106 => (intro w' hSw; (try dsimp only at hSw); go_simp; try with_reducible rfl)
                    (try simp only [Act.put, List.setIfInBounds_toArray, List.set_cons_zero, List.set_cons_succ])
                    refine wpAnyH_take (i := 23) (v := ?v107) rfl (by kernel_rfl) (by kernel_rfl) (by kernel_rfl) (fun _ _ _ h => h) (Or.inl ⟨by rfl, ?hy107⟩) (by assumption) ?hr107
                    case hy107 => (intro w' hSw; (try dsimp only at hSw); go_simp; try with_reducible rfl)
                    (try simp only [Act.put, List.setIfInBounds_toArray, List.set_cons_zero, List.set_cons_succ])
                    refine wpAnyH_take (i := 24) (v := ?v108) rfl (by kernel_rfl) (by kernel_rfl) (by kernel_rfl) (fun _ _ _ h => h) (Or.inl ⟨by rfl, ?hy108⟩) (by assumption) ?hr108
                    case hy108 => (intro w' hSw; (try dsimp only at hSw); go_simp; try with_reducible rfl)
                    (try simp only [Act.put, List.setIfInBounds_toArray, List.set_cons_zero, List.set_cons_succ])
                    refine wpAnyH_done (by kernel_rfl) ?_ _
                    simp only [Act.put, List.getElem_toArray, List.getElem_cons_succ, List.getElem_cons_zero, List.setIfInBounds_toArray, List.set_cons_zero, List.set_cons_succ]
                    go_wp2_with fail
                    go_meet
                    exact ⟨rfl, Lib.hid (by repeat (first | exact Below.refl _ _ | refine bl_alloc ?_ _ | refine bl_call b5 ?_ | refine bl_drew ?_))⟩
                  exact AllReadyH.nil
                exact AllReadyH.nil
              exact AllReadyH.nil
            refine AllReadyH.cons rfl (fun K hK => ?_) ?_
            · rw [if_pos (by rfl)]
              go_simp
              go_at_call 49
              refine (CV.out _).mono ?_
              rintro e w5 ⟨rfl, b5⟩
              refine hK.out _ _ ?_ (fun hHeld => ?_)
              · exact SKEEP.out _ (by repeat (first | exact Below.refl _ _ | refine bl_alloc ?_ _ | refine bl_call b5 ?_ | refine bl_drew ?_))
              clear hK K
              (try simp only [Act.put, List.setIfInBounds_toArray, List.set_cons_zero, List.set_cons_succ])
              refine wpAnyH_ready (rs := [10, 22]) (by kernel_rfl) (by simp) ?_
              refine AllReadyH.cons rfl (fun K hK => ?_) ?_
              · go_simp
                refine hK.out _ _ ?_ (fun hHeld => ?_)
                · exact SKEEP.out _ (by repeat (first | exact Below.refl _ _ | refine bl_alloc ?_ _ | refine bl_call b5 ?_ | refine bl_drew ?_))
                clear hK K
                (try simp only [Act.put, List.setIfInBounds_toArray, List.set_cons_zero, List.set_cons_succ])
                refine wpAnyH_ready (rs := [11, 22]) (by kernel_rfl) (by simp) ?_
                refine AllReadyH.cons rfl (fun K hK => ?_) ?_
                · rw [if_pos (by rfl)]
                  go_simp
                  rw [conv34]
                  rotate_left
                  · repeat (first | exact heap_top (by first | rfl | (simp; done) | omega) | refine heap_up ?_ | refine up_call b5 ?_ | refine heap_drew ?_)
                  simp only [Result.andThen]
                  rw [Oper.upon_value]
                  refine hK.out _ _ ?_ (fun hHeld => ?_)
                  · exact SKEEP.out _ (by repeat (first | exact Below.refl _ _ | refine bl_alloc ?_ _ | refine bl_call b5 ?_ | refine bl_drew ?_))
                  clear hK K
                  (try simp only [Act.put, List.setIfInBounds_toArray, List.set_cons_zero, List.set_cons_succ])
                  refine wpAnyH_take (i := 12) (v := ?v109) rfl (by kernel_rfl) (by kernel_rfl) (by kernel_rfl) (fun _ _ _ h => h) (Or.inl ⟨by rfl, ?hy109⟩) (by assumption) ?hr109
                  case hy109 => (intro w' hSw; (try dsimp only at hSw); go_simp; try with_reducible rfl)
                  (try simp only [Act.put, List.setIfInBounds_toArray, List.set_cons_zero, List.set_cons_succ])
                  refine wpAnyH_take (i := 20) (v := ?v110) rfl (by kernel_rfl) (by kernel_rfl) (by kernel_rfl) (fun _ _ _ h => h) (Or.inl ⟨by rfl, ?hy110⟩) (by assumption) ?hr110
                  case hy110 => (intro w' hSw; (try dsimp only at hSw); go_simp; try with_reducible rfl)
                  (try simp only [Act.put, List.setIfInBounds_toArray, List.set_cons_zero, List.set_cons_succ])
                  refine wpAnyH_ready (rs := [22]) (by kernel_rfl) (by simp) ?_
                  refine AllReadyH.cons rfl (fun K hK => ?_) ?_
                  · rw [if_pos (by rfl)]
                    go_simp
                    rw [conv34]
                    rotate_left
                    · repeat (first | exact heap_top (by first | rfl | (simp; done) | omega) | refine heap_up ?_ | refine up_call b5 ?_ | refine heap_drew ?_)
                    simp only [Result.andThen]
                    rw [Oper.upon_value]
                    refine hK.out _ _ ?_ (fun hHeld => ?_)
                    · exact SKEEP.out _ (by repeat (first | exact Below.refl _ _ | refine bl_alloc ?_ _ | refine bl_call b5 ?_ | refine bl_drew ?_))
                    clear hK K
                    (try simp only [Act.put, List.setIfInBounds_toArray, List.set_cons_zero, List.set_cons_succ])
                    refine wpAnyH_take (i := 23) (v := ?v111) rfl (by kernel_rfl) (by kernel_rfl) (by kernel_rfl) (fun _ _ _ h => h) (Or.inl ⟨by rfl, ?hy111⟩) (by assumption) ?hr111
                    case hy111 => (intro w' hSw; (try dsimp only at hSw); go_simp; try with_reducible rfl)
                    (try simp only [Act.put, List.setIfInBounds_toArray, List.set_cons_zero, List.set_cons_succ])
                    refine wpAnyH_take (i := 24) (v := ?v112) rfl (by kernel_rfl) (by kernel_rfl) (by kernel_rfl) (fun _ _ _ h => h) (Or.inl ⟨by rfl, ?hy112⟩) (by assumption) ?hr112
                    case hy112 => (intro w' hSw; (try dsimp only at hSw); go_simp; try with_reducible rfl)
                    (try simp only [Act.put, List.setIfInBounds_toArray, List.set_cons_zero, List.set_cons_succ])
                    refine wpAnyH_done (by kernel_rfl) ?_ _
                    simp only [Act.put, List.getElem_toArray, List.getElem_cons_succ, List.getElem_cons_zero, List.setIfInBounds_toArray, List.set_cons_zero, List.set_cons_succ]
                    go_wp2_with fail
                    go_meet
                    exact ⟨rfl, Lib.hid (by repeat (first | exact Below.refl _ _ | refine bl_alloc ?_ _ | refine bl_call b5 ?_ | refine bl_drew ?_))⟩
                  exact AllReadyH.nil
                refine AllReadyH.cons rfl (fun K hK => ?_) ?_
                · rw [if_pos (by rfl)]
                  go_simp
                  rw [conv34]
                  rotate_left
                  · repeat (first | exact heap_top (by first | rfl | (simp; done) | omega) | refine heap_up ?_ | refine up_call b5 ?_ | refine heap_drew ?_)
                  simp only [Result.andThen]
                  rw [Oper.upon_value]
                  refine hK.out _ _ ?_ (fun hHeld => ?_)
                  · exact SKEEP.out _ (by repeat (first | exact Below.refl _ _ | refine bl_alloc ?_ _ | refine bl_call b5 ?_ | refine bl_drew ?_))
                  clear hK K
                  (try simp only [Act.put, List.setIfInBounds_toArray, List.set_cons_zero, List.set_cons_succ])
                  refine wpAnyH_ready (rs := [11]) (by kernel_rfl) (by simp) ?_
                  refine AllReadyH.cons rfl (fun K hK => ?_) ?_
                  · rw [if_pos (by rfl)]
                    go_simp
                    rw [conv34]
                    rotate_left
                    · repeat (first | exact heap_top (by first | rfl | (simp; done) | omega) | refine heap_up ?_ | refine up_call b5 ?_ | refine heap_drew ?_)
                    simp only [Result.andThen]
                    rw [Oper.upon_value]
                    refine hK.out _ _ ?_ (fun hHeld => ?_)
                    · exact SKEEP.out _ (by repeat (first | exact Below.refl _ _ | refine bl_alloc ?_ _ | refine bl_call b5 ?_ | refine bl_drew ?_))
                    clear hK K
                    (try simp only [Act.put, List.setIfInBounds_toArray, List.set_cons_zero, List.set_cons_succ])
                    refine wpAnyH_take (i := 12) (v := ?v113) rfl (by kernel_rfl) (by kernel_rfl) (by kernel_rfl) (fun _ _ _ h => h) (Or.inl ⟨by rfl, ?hy113⟩) (by assumption) ?hr113
                    case hy113 => (intro w' hSw; (try dsimp only at hSw); go_simp; try with_reducible rfl)
                    (try simp only [Act.put, List.setIfInBounds_toArray, List.set_cons_zero, List.set_cons_succ])
                    refine wpAnyH_take (i := 20) (v := ?v114) rfl (by kernel_rfl) (by kernel_rfl) (by kernel_rfl) (fun _ _ _ h => h) (Or.inl ⟨by rfl, ?hy114⟩) (by assumption) ?hr114
                    case hy114 => (intro w' hSw; (try dsimp only at hSw); go_simp; try with_reducible rfl)
                    (try simp only [Act.put, List.setIfInBounds_toArray, List.set_cons_zero, List.set_cons_succ])
                    refine wpAnyH_take (i := 23) (v := ?v115) rfl (by kernel_rfl) (by kernel_rfl) (by kernel_rfl) (fun _ _ _ h => h) (Or.inl ⟨by rfl, ?hy115⟩) (by assumption) ?hr115
                    case hy115 => (intro w' hSw; (try dsimp only at hSw); go_simp; try with_reducible rfl)
                    (try simp only [Act.put, List.setIfInBounds_toArray, List.set_cons_zero, List.set_cons_succ])
                    refine wpAnyH_take (i := 24) (v := ?v116) rfl (by kernel_rfl) (by kernel_rfl) (by kernel_rfl) (fun _ _ _ h => h) (Or.inl ⟨by rfl, ?hy116⟩) (by assumption) ?hr116
                    case hy116 => (intro w' hSw; (try dsimp only at hSw); go_simp; try with_reducible rfl)
                    (try simp only [Act.put, List.setIfInBounds_toArray, List.set_cons_zero, List.set_cons_succ])
                    refine wpAnyH_done (by kernel_rfl) ?_ _
                    simp only [Act.put, List.getElem_toArray, List.getElem_cons_succ, List.getElem_cons_zero, List.setIfInBounds_toArray, List.set_cons_zero, List.set_cons_succ]
                    go_wp2_with fail
                    go_meet
                    exact ⟨rfl, Lib.hid (by repeat (first | exact Below.refl _ _ | refine bl_alloc ?_ _ | refine bl_call b5 ?_ | refine bl_drew ?_))⟩
                  exact AllReadyH.nil
                exact AllReadyH.nil
              refine AllReadyH.cons rfl (fun K hK => ?_) ?_
              · rw [if_pos (by rfl)]
                go_simp
                rw [conv34]
                rotate_left
                · repeat (first | exact heap_top (by first | rfl | (simp; done) | omega) | refine heap_up ?_ | refine up_call b5 ?_ | refine heap_drew ?_)
                simp only [Result.andThen]
                rw [Oper.upon_value]
                refine hK.out _ _ ?_ (fun hHeld => ?_)
                · exact SKEEP.out _ (by repeat (first | exact Below.refl _ _ | refine bl_alloc ?_ _ | refine bl_call b5 ?_ | refine bl_drew ?_))
                clear hK K
                (try simp only [Act.put, List.setIfInBounds_toArray, List.set_cons_zero, List.set_cons_succ])
                refine wpAnyH_ready (rs := [10]) (by kernel_rfl) (by simp) ?_
                refine AllReadyH.cons rfl (fun K hK => ?_) ?_
                · go_simp
                  refine hK.out _ _ ?_ (fun hHeld => ?_)
                  · exact SKEEP.out _ (by repeat (first | exact Below.refl _ _ | refine bl_alloc ?_ _ | refine bl_call b5 ?_ | refine bl_drew ?_))
                  clear hK K
                  (try simp only [Act.put, List.setIfInBounds_toArray, List.set_cons_zero, List.set_cons_succ])
                  refine wpAnyH_ready (rs := [11]) (by kernel_rfl) (by simp) ?_
                  refine AllReadyH.cons rfl (fun K hK => ?_) ?_
                  · rw [if_pos (by rfl)]
                    go_simp
                    rw [conv34]
                    rotate_left
                    · repeat (first | exact heap_top (by first | rfl | (simp; done) | omega) | refine heap_up ?_ | refine up_call b5 ?_ | refine heap_drew ?_)
                    simp only [Result.andThen]
                    rw [Oper.upon_value]
                    refine hK.out _ _ ?_ (fun hHeld => ?_)
                    · exact SKEEP.out _ (by repeat (first | exact Below.refl _ _ | refine bl_alloc ?_ _ | refine bl_call b5 ?_ | refine bl_drew ?_))
                    clear hK K
                    (try simp only [Act.put, List.setIfInBounds_toArray, List.set_cons_zero, List.set_cons_succ])
                    refine wpAnyH_take (i := 12) (v := ?v117) rfl (by kernel_rfl) (by kernel_rfl) (by kernel_rfl) (fun _ _ _ h => h) (Or.inl ⟨by rfl, ?hy117⟩) (by assumption) ?hr117
                    case hy117 => (intro w' hSw; (try dsimp only at hSw); go_simp; try with_reducible rfl)
                    (try simp only [Act.put, List.setIfInBounds_toArray, List.set_cons_zero, List.set_cons_succ])
                    refine wpAnyH_take (i := 20) (v := ?v118) rfl (by kernel_rfl) (by kernel_rfl) (by kernel_rfl) (fun _ _ _ h => h) (Or.inl ⟨by rfl, ?hy118⟩) (by assumption) ?hr118
                    case hy118 => (intro w' hSw; (try dsimp only at hSw); go_simp; try with_reducible rfl)
                    (try simp only [Act.put, List.setIfInBounds_toArray, List.set_cons_zero, List.set_cons_succ])
                    refine wpAnyH_take (i := 23) (v := ?v119) rfl (by kernel_rfl) (by kernel_rfl) (by kernel_rfl) (fun _ _ _ h => h) (Or.inl ⟨by rfl, ?hy119⟩) (by assumption) ?hr119
                    case hy119 => (intro w' hSw; (try dsimp only at hSw); go_simp; try with_reducible rfl)
                    (try simp only [Act.put, List.setIfInBounds_toArray, List.set_cons_zero, List.set_cons_succ])
                    refine wpAnyH_take (i := 24) (v := ?v120) rfl (by kernel_rfl) (by kernel_rfl) (by kernel_rfl) (fun _ _ _ h => h) (Or.inl ⟨by rfl, ?hy120⟩) (by assumption) ?hr120
                    case hy120 => (intro w' hSw; (try dsimp only at hSw); go_simp; try with_reducible rfl)
                    (try simp only [Act.put, List.setIfInBounds_toArray, List.set_cons_zero, List.set_cons_succ])
                    refine wpAnyH_done (by kernel_rfl) ?_ _
                    simp only [Act.put, List.getElem_toArray, List.getElem_cons_succ, List.getElem_cons_zero, List.setIfInBounds_toArray, List.set_cons_zero, List.set_cons_succ]
                    go_wp2_with fail
                    go_meet
                    exact ⟨rfl, Lib.hid (by repeat (first | exact Below.refl _ _ | refine bl_alloc ?_ _ | refine bl_call b5 ?_ | refine bl_drew ?_))⟩
                  exact AllReadyH.nil
                exact AllReadyH.nil
              exact AllReadyH.nil
            refine AllReadyH.cons rfl (fun K hK => ?_) ?_
            · rw [if_pos (by rfl)]
              go_simp
              rw [conv34]
              rotate_left
              · repeat (first | exact heap_top (by first | rfl | (simp; done) | omega) | refine heap_up ?_ | refine up_call b5 ?_ | refine heap_drew ?_)
              simp only [Result.andThen]
              rw [Oper.upon_value]
              refine hK.out _ _ ?_ (fun hHeld => ?_)
              · exact SKEEP.out _ (by repeat (first | exact Below.refl _ _ | refine bl_alloc ?_ _ | refine bl_call b5 ?_ | refine bl_drew ?_))
              clear hK K
              (try simp only [Act.put, List.setIfInBounds_toArray, List.set_cons_zero, List.set_cons_succ])
              refine wpAnyH_ready (rs := [10, 19]) (by kernel_rfl) (by simp) ?_
              refine AllReadyH.cons rfl (fun K hK => ?_) ?_
              · go_simp
                refine hK.out _ _ ?_ (fun hHeld => ?_)
                · exact SKEEP.out _ (by repeat (first | exact Below.refl _ _ | refine bl_alloc ?_ _ | refine bl_call b5 ?_ | refine bl_drew ?_))
                clear hK K
                (try simp only [Act.put, List.setIfInBounds_toArray, List.set_cons_zero, List.set_cons_succ])
                refine wpAnyH_ready (rs := [11, 19]) (by kernel_rfl) (by simp) ?_
                refine AllReadyH.cons rfl (fun K hK => ?_) ?_
                · rw [if_pos (by rfl)]
                  go_simp
                  rw [conv34]
                  rotate_left
                  · repeat (first | exact heap_top (by first | rfl | (simp; done) | omega) | refine heap_up ?_ | refine up_call b5 ?_ | refine heap_drew ?_)
                  simp only [Result.andThen]
                  rw [Oper.upon_value]
                  refine hK.out _ _ ?_ (fun hHeld => ?_)
                  · exact SKEEP.out _ (by repeat (first | exact Below.refl _ _ | refine bl_alloc ?_ _ | refine bl_call b5 ?_ | refine bl_drew ?_))
                  clear hK K
                  (try simp only [Act.put, List.setIfInBounds_toArray, List.set_cons_zero, List.set_cons_succ])
                  refine wpAnyH_take (i := 12) (v := ?v121) rfl (by kernel_rfl) (by kernel_rfl) (by kernel_rfl) (fun _ _ _ h => h) (Or.inl ⟨by rfl, ?hy121⟩) (by assumption) ?hr121
                  case hy121 => (intro w' hSw; (try dsimp only at hSw); go_simp; try with_reducible rfl)
                  (try simp only [Act.put, List.setIfInBounds_toArray, List.set_cons_zero, List.set_cons_succ])
                  refine wpAnyH_ready (rs := [19]) (by kernel_rfl) (by simp) ?_
                  refine AllReadyH.cons rfl (fun K hK => ?_) ?_
                  · rw [if_pos (by rfl)]
                    go_simp
                    go_at_call 49
                    refine (CV.out _).mono ?_
                    rintro e w5 ⟨rfl, b5⟩
                    refine hK.out _ _ ?_ (fun hHeld => ?_)
                    · exact SKEEP.out _ (by repeat (first | exact Below.refl _ _ | refine bl_alloc ?_ _ | refine bl_call b5 ?_ | refine bl_drew ?_))
                    clear hK K
                    (try simp only [Act.put, List.setIfInBounds_toArray, List.set_cons_zero, List.set_cons_succ])
                    refine wpAnyH_take (i := 20) (v := ?v122) rfl (by kernel_rfl) (by kernel_rfl) (by kernel_rfl) (fun _ _ _ h => h) (Or.inl ⟨by rfl, ?hy122⟩) (by assumption) ?hr122
                    case hy122 => (intro w' hSw; (try dsimp only at hSw); go_simp; try with_reducible rfl)
                    (try simp only [Act.put, List.setIfInBounds_toArray, List.set_cons_zero, List.set_cons_succ])
                    refine wpAnyH_take (i := 23) (v := ?v123) rfl (by kernel_rfl) (by kernel_rfl) (by kernel_rfl) (fun _ _ _ h => h) (Or.inl ⟨by rfl, ?hy123⟩) (by assumption) ?hr123
                    case hy123 => (intro w' hSw; (try dsimp only at hSw); go_simp; try with_reducible rfl)
                    (try simp only [Act.put, List.setIfInBounds_toArray, List.set_cons_zero, List.set_cons_succ])
                    refine wpAnyH_take (i := 24) (v := ?v124) rfl (by kernel_rfl) (by kernel_rfl) (by kernel_rfl) (fun _ _ _ h => h) (Or.inl ⟨by rfl, ?hy124⟩) (by assumption) ?hr124
                    case hy124 => (intro w' hSw; (try dsimp only at hSw); go_simp; try with_reducible rfl)
                    (try simp only [Act.put, List.setIfInBounds_toArray, List.set_cons_zero, List.set_cons_succ])
                    refine wpAnyH_done (by kernel_rfl) ?_ _
                    simp only [Act.put, List.getElem_toArray, List.getElem_cons_succ, List.getElem_cons_zero, List.setIfInBounds_toArray, List.set_cons_zero, List.set_cons_succ]
                    go_wp2_with fail
                    go_meet
                    exact ⟨rfl, Lib.hid (by repeat (first | exact Below.refl _ _ | refine bl_alloc ?_ _ | refine bl_call b5 ?_ | refine bl_drew ?_))⟩
                  exact AllReadyH.nil
                refine AllReadyH.cons rfl (fun K hK => ?_) ?_
                · rw [if_pos (by rfl)]
                  go_simp
                  go_at_call 49
                  refine (CV.out _).mono ?_
                  rintro e w5 ⟨rfl, b5⟩
                  refine hK.out _ _ ?_ (fun hHeld => ?_)
                  · exact SKEEP.out _ (by repeat (first | exact Below.refl _ _ | refine bl_alloc ?_ _ | refine bl_call b5 ?_ | refine bl_drew ?_))
                  clear hK K
                  (try simp only [Act.put, List.setIfInBounds_toArray, List.set_cons_zero, List.set_cons_succ])
                  refine wpAnyH_ready (rs := [11]) (by kernel_rfl) (by simp) ?_
                  refine AllReadyH.cons rfl (fun K hK => ?_) ?_
                  · rw [if_pos (by rfl)]
                    go_simp
                    rw [conv34]
                    rotate_left
                    · repeat (first | exact heap_top (by first | rfl | (simp; done) | omega) | refine heap_up ?_ | refine up_call b5 ?_ | refine heap_drew ?_)
                    simp only [Result.andThen]
                    rw [Oper.upon_value]
                    refine hK.out _ _ ?_ (fun hHeld => ?_)
                    · exact SKEEP.out _ (by repeat (first | exact Below.refl _ _ | refine bl_alloc ?_ _ | refine bl_call b5 ?_ | refine bl_drew ?_))
                    clear hK K
                    (try simp only [Act.put, List.setIfInBounds_toArray, List.set_cons_zero, List.set_cons_succ])
                    refine wpAnyH_take (i := 12) (v := ?v125) rfl (by kernel_rfl) (by kernel_rfl) (by kernel_rfl) (fun _ _ _ h => h) (Or.inl ⟨by rfl, ?hy125⟩) (by assumption) ?hr125
                    case hy125 => (intro w' hSw; (try dsimp only at hSw); go_simp; try with_reducible rfl)
                    (try simp only [Act.put, List.setIfInBounds_toArray, List.set_cons_zero, List.set_cons_succ])
                    refine wpAnyH_take (i := 20) (v := ?v126) rfl (by kernel_rfl) (by kernel_rfl) (by kernel_rfl) (fun _ _ _ h => h) (Or.inl ⟨by rfl, ?hy126⟩) (by assumption) ?hr126
                    case hy126 => (intro w' hSw; (try dsimp only at hSw); go_simp; try with_reducible rfl)
                    (try simp only [Act.put, List.setIfInBounds_toArray, List.set_cons_zero, List.set_cons_succ])
                    refine wpAnyH_take (i := 23) (v := ?v127) rfl (by kernel_rfl) (by kernel_rfl) (by kernel_rfl) (fun _ _ _ h => h) (Or.inl ⟨by rfl, ?hy127⟩) (by assumption) ?hr127
                    case hy127 => (intro w' hSw; (try dsimp only at hSw); go_simp; try with_reducible rfl)
                    (try simp only [Act.put, List.setIfInBounds_toArray, List.set_cons_zero, List.set_cons_succ])
                    refine wpAnyH_take (i := 24) (v := ?v128) rfl (by kernel_rfl) (by kernel_rfl) (by kernel_rfl) (fun _ _ _ h => h) (Or.inl ⟨by rfl, ?hy128⟩) (by assumption) ?hr128
                    case hy128 => (intro w' hSw; (try dsimp only at hSw); go_simp; try with_reducible rfl)
                    (try simp only [Act.put, List.setIfInBounds_toArray, List.set_cons_zero, List.set_cons_succ])
                    refine wpAnyH_done (by kernel_rfl) ?_ _
                    simp only [Act.put, List.getElem_toArray, List.getElem_cons_succ, List.getElem_cons_zero, List.setIfInBounds_toArray, List.set_cons_zero, List.set_cons_succ]
                    go_wp2_with fail
                    go_meet
                    exact ⟨rfl, Lib.hid (by repeat (first | exact Below.refl _ _ | refine bl_alloc ?_ _ | refine bl_call b5 ?_ | refine bl_drew ?_))⟩
                  exact AllReadyH.nil
                exact AllReadyH.nil
              refine AllReadyH.cons rfl (fun K hK => ?_) ?_
              · rw [if_pos (by rfl)]
                go_simp
                go_at_call 49
                refine (CV.out _).mono ?_
                rintro e w5 ⟨rfl, b5⟩
                refine hK.out _ _ ?_ (fun hHeld => ?_)
                · exact SKEEP.out _ (by repeat (first | exact Below.refl _ _ | refine bl_alloc ?_ _ | refine bl_call b5 ?_ | refine bl_drew ?_))
                clear hK K
                (try simp only [Act.put, List.setIfInBounds_toArray, List.set_cons_zero, List.set_cons_succ])
                refine wpAnyH_ready (rs := [10]) (by kernel_rfl) (by simp) ?_
                refine AllReadyH.cons rfl (fun K hK => ?_) ?_
                · go_simp
                  refine hK.out _ _ ?_ (fun hHeld => ?_)
                  · exact SKEEP.out _ (by repeat (first | exact Below.refl _ _ | refine bl_alloc ?_ _ | refine bl_call b5 ?_ | refine bl_drew ?_))
                  clear hK K
                  (try simp only [Act.put, List.setIfInBounds_toArray, List.set_cons_zero, List.set_cons_succ])
                  refine wpAnyH_ready (rs := [11]) (by kernel_rfl) (by simp) ?_
                  refine AllReadyH.cons rfl (fun K hK => ?_) ?_
                  · rw [if_pos (by rfl)]
                    go_simp
                    rw [conv34]
                    rotate_left
                    · repeat (first | exact heap_top (by first | rfl | (simp; done) | omega) | refine heap_up ?_ | refine up_call b5 ?_ | refine heap_drew ?_)
                    simp only [Result.andThen]
                    rw [Oper.upon_value]
                    refine hK.out _ _ ?_ (fun hHeld => ?_)
                    · exact SKEEP.out _ (by repeat (first | exact Below.refl _ _ | refine bl_alloc ?_ _ | refine bl_call b5 ?_ | refine bl_drew ?_))
                    clear hK K
                    (try simp only [Act.put, List.setIfInBounds_toArray, List.set_cons_zero, List.set_cons_succ])
                    refine wpAnyH_take (i := 12) (v := ?v129) rfl (by kernel_rfl) (by kernel_rfl) (by kernel_rfl) (fun _ _ _ h => h) (Or.inl ⟨by rfl, ?hy129⟩) (by assumption) ?hr129
                    case hy129 => (intro w' hSw; (try dsimp only at hSw); go_simp; try with_reducible rfl)
                    (try simp only [Act.put, List.setIfInBounds_toArray, List.set_cons_zero, List.set_cons_succ])
                    refine wpAnyH_take (i := 20) (v := ?v130) rfl (by kernel_rfl) (by kernel_rfl) (by kernel_rfl) (fun _ _ _ h => h) (Or.inl ⟨by rfl, ?hy130⟩) (by assumption) ?hr130
                    case hy130 => (intro w' hSw; (try dsimp only at hSw); go_simp; try with_reducible rfl)
                    (try simp only [Act.put, List.setIfInBounds_toArray, List.set_cons_zero, List.set_cons_succ])
                    refine wpAnyH_take (i := 23) (v := ?v131) rfl (by kernel_rfl) (by kernel_rfl) (by kernel_rfl) (fun _ _ _ h => h) (Or.inl ⟨by rfl, ?hy131⟩) (by assumption) ?hr131
                    case hy131 => (intro w' hSw; (try dsimp only at hSw); go_simp; try with_reducible rfl)
                    (try simp only [Act.put, List.setIfInBounds_toArray, List.set_cons_zero, List.set_cons_succ])
                    refine wpAnyH_take (i := 24) (v := ?v132) rfl (by kernel_rfl) (by kernel_rfl) (by kernel_rfl) (fun _ _ _ h => h) (Or.inl ⟨by rfl, ?hy132⟩) (by assumption) ?hr132
                    case hy132 => (intro w' hSw; (try dsimp only at hSw); go_simp; try with_reducible rfl)
                    (try simp only [Act.put, List.setIfInBounds_toArray, List.set_cons_zero, List.set_cons_succ])
                    refine wpAnyH_done (by kernel_rfl) ?_ _
                    simp only [Act.put, List.getElem_toArray, List.getElem_cons_succ, List.getElem_cons_zero, List.setIfInBounds_toArray, List.set_cons_zero, List.set_cons_succ]
                    go_wp2_with fail
                    go_meet
                    exact ⟨rfl, Lib.hid (by repeat (first | exact Below.refl _ _ | refine bl_alloc ?_ _ | refine bl_call b5 ?_ | refine bl_drew ?_))⟩
                  exact AllReadyH.nil
                exact AllReadyH.nil
              exact AllReadyH.nil
            exact AllReadyH.nil
          exact AllReadyH.nil
        case rest =>
          obtain ⟨rfl, H5⟩ := hcut
          obtain ⟨w1, rfl⟩ : ∃ w1, w1 = wc := ⟨_, rfl⟩
          have B5 := Lib.hid (HW.out.trans (H5.out.mono HW.out.size))
          have N5 := Lib.hid (NW.out.below H5.out NW.out.lt)
          clear a3 h0 h1 h2
          go_wp2_with fail
          go_roundw
          case rel => exact ⟨k + 1, by omega, by go_num, ⟨_, rfl, zx, X6⟩, B5, N5⟩
          case measure => simp [intOf]; omega
      · obtain rfl : k = n := by omega
        have a0 : wr.cell? ⟨w.heap.size, 0, none⟩ = some (.string tag) := NW.out.c0
        obtain ⟨y, hy⟩ : ∃ y, x ++ ⟨#[62]⟩ = y := ⟨_, rfl⟩
        have zy : y.size ≤ 1000000001 := by rw [← hy, ByteArray.size_append]; show _ + 1 ≤ _; omega
        have sy : ∀ W : World, (Op.stringOp .add x ⟨#[62]⟩).run Try.prog W = .ok (.string y) W := fun W => hy ▸ run_string_add_sum W _ _ (by show _ + 1 ≤ _; omega)
        have HY : Hid (y.data.toList = openH tag.data.toList attrs) := Lib.hid (by rw [← hy, HX.out, ← AL.out, List.take_length]; simp [openH, ByteArray.data_append])
        clear hy
        obtain ⟨bv, hbv⟩ : ∃ b, P1.voidB tag.data.toList = b := ⟨_, rfl⟩
        have HV := Lib.hid hbv
        clear hbv
        go_wp2_with fail
        refine (P1.rvoid_any tag _).mono ?_
        rintro e w' ⟨rfl, rfl⟩
        rw [HV.out]
        cases bv with
        | true =>
          go_wp2_with fail
          go_ret
          exact ⟨P2.ret_str (by unfold htmlB; rw [putH_void tE HV.out, ← HY.out]), HW.out⟩
        | false =>
          have a4 : wr.cell? ⟨w.heap.size, 4, none⟩ = some (.slice A2 n2 c2) := NW.out.c4
          have hHA : (htmlsB (erL kids)).size ≤ 1000000000 := by rw [htmls_len]; exact LV.out HV.out
          generalize hH : htmlsB (erL kids) = hs at hHA
          have HH := Lib.hid hH
          clear hH
          obtain ⟨y1, hy1⟩ : ∃ z, y ++ hs = z := ⟨_, rfl⟩
          obtain ⟨y2, hy2⟩ : ∃ z, y1 ++ ⟨#[60, 47]⟩ = z := ⟨_, rfl⟩
          obtain ⟨y3, hy3⟩ : ∃ z, y2 ++ tag = z := ⟨_, rfl⟩
          obtain ⟨y4, hy4⟩ : ∃ z, y3 ++ ⟨#[62]⟩ = z := ⟨_, rfl⟩
          have z1 : y1.size = y.size + hs.size := by rw [← hy1, ByteArray.size_append]
          have z2 : y2.size = y1.size + 2 := by rw [← hy2, ByteArray.size_append]; rfl
          have z3 : y3.size = y2.size + tag.size := by rw [← hy3, ByteArray.size_append]
          have s1 : ∀ W : World, (Op.stringOp .add y hs).run Try.prog W = .ok (.string y1) W := fun W => hy1 ▸ run_string_add_sum W _ _ (by omega)
          have s2 : ∀ W : World, (Op.stringOp .add y1 ⟨#[60, 47]⟩).run Try.prog W = .ok (.string y2) W := fun W => hy2 ▸ run_string_add_sum W _ _ (by show _ + 2 ≤ _; omega)
          have s3 : ∀ W : World, (Op.stringOp .add y2 tag).run Try.prog W = .ok (.string y3) W := fun W => hy3 ▸ run_string_add_sum W _ _ (by omega)
          have s4 : ∀ W : World, (Op.stringOp .add y3 ⟨#[62]⟩).run Try.prog W = .ok (.string y4) W := fun W => hy4 ▸ run_string_add_sum W _ _ (by show _ + 1 ≤ _; omega)
          have Y4 : Hid (y4 = htmlB (.mk tag txt key attrs (erL kids))) := Lib.hid (by
            unfold htmlB
            rw [putH_el tE HV.out, ← HY.out, ← hy4, ← hy3, ← hy2, ← hy1, ← HH.out]
            apply ByteArray.ext
            simp [htmlsB, ByteArray.data_append])
          clear hy1 hy2 hy3 hy4 z1 z2 z3
          have CA : Hid (∀ w9, Below wr.heap.size wr w9 → Calls Try.prog 17 #[.slice A2 n2 c2] w9 fun e w' => e = .returned (.string hs) ∧ Below w9.heap.size w9 w') := Lib.hid (fun w9 h9 => by
            have hb9 := HW.out.trans (h9.mono HW.out.size)
            have := RA.out w9 A2 n2 c2 (KH.out.on hb9) KL.out (fun k hk => (KS.out k hk).on hb9) F5.out CL.out (LV.out HV.out)
            rw [HH.out] at this
            exact this)
          have SKEEP : Hid (∀ w', Below wr.heap.size wr w' → (w'.cell? ⟨w.heap.size, 0, none⟩ = some (.string tag) ∧ w'.cell? ⟨w.heap.size, 4, none⟩ = some (.slice A2 n2 c2))) := Lib.hid (fun w' h => ⟨(h.cell NW.out.lt).trans a0, (h.cell NW.out.lt).trans a4⟩)
          have BW : Hid (Below wr.heap.size wr wr) := Lib.hid (Below.refl _ _)
          go_upto_region 12 with fail
          go_region_held3 (fun w' => w'.cell? ⟨w.heap.size, 0, none⟩ = some (.string tag) ∧ w'.cell? ⟨w.heap.size, 4, none⟩ = some (.slice A2 n2 c2)) ((first | go_keep | exact SK)) ((first
            | (go_at_call 17; refine (CA.out _ (by first | exact BW.out | exact Below_drewN BW.out _ | exact bl_drew BW.out)).mono ?_; rintro e w5 ⟨rfl, b5⟩; have BW : Hid (Below wr.heap.size wr w5) := Lib.hid (by first | exact BW.out.trans (b5.mono BW.out.size) | exact (Below_drewN BW.out _).trans (b5.mono BW.out.size) | exact (bl_drew BW.out).trans (b5.mono BW.out.size)); have SK := SKEEP.out w5 BW.out; clear b5)
            | fail))
          all_goals
            go_wp2_with fail
            go_ret
            exact ⟨P2.ret_str Y4.out, HW.out.trans (BW.out.mono HW.out.size)⟩

theorem rputK_any : ∀ t : TV, RPutK t := by
  intro t
  induction t using TV.ind with
  | h tag txt key sa attrs sk kids ih => exact rputK_of tag txt key sa.A sa.n sa.c attrs sk.A sk.n sk.c kids (rallK_of kids ih)
theorem rallK_any (ts : List TV) : RAllK ts := rallK_of ts (fun t _ => rputK_any t)
end Go.Proofs.Ytbdcbjeeaebfeaa.P10
