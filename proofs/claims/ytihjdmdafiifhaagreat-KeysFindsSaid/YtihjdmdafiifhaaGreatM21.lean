/- The reference: all below one; a node that is set anew. -/
import Derived.Deep.MidRow
import Derived.Test.YtihjdmdafiifhaaGreatM20
set_option linter.unusedVariables false
set_option linter.unusedSimpArgs false
set_option linter.unusedVariables false
set_option linter.unusedSimpArgs false
namespace Go.Proofs.YtihjdmdafiifhaaGreat.P5
open Go.RowKit Kd P4
variable {B q : Nat} {y : Rx}

/-! ### All -/
theorem own_lit (w : World) (i : Int) : kI.Own (w.alloc (.cells #[.int .i64 i] 3)) w.heap.size (.slice (some ⟨w.heap.size, 0, none⟩) 1 1) [i] :=
  Kind.own_mk (K := kI) (cur := #[.int .i64 i]) rfl (Nat.le_refl _) (heap_alloc_new w _) (Nat.le_refl _) (by unfold maxLen; omega) rfl rfl
set_option maxHeartbeats 1000000 in
theorem all_any (hTr : Tr (fun z => hasL y.l z = true) (parOf y.l) (kidsOf y.l)) (ha : Asc y.l) (hl : y.rs.length ≤ 1000) (hsub : ∀ f c, hasL y.l c = true → (sub (kidsOf y.l) f c).length ≤ 1000) :
    ∀ (f : Nat) (i : Int) (w : World) (_ : Hb (kidsOf y.l) f i) (_ : hasL y.l i = true) (_ : Rf w B q y), Calls Tryz.prog 64 #[.pointer (some ⟨q, 0, none⟩), .int .i64 i] w (GotInts w (sub (kidsOf y.l) f i)) := by
  intro f
  induction f with
  | zero => intro i w hb _ _; exact hb.elim
  | succ f ih =>
    intro i w hb hi h
    have IH := Lib.hid ih
    have HB0 := Lib.hid hb
    have H := Lib.hid h
    have HA := Lib.hid ha
    have HT := Lib.hid hTr
    have HS := Lib.hid hsub
    have HI := Lib.hid hi
    obtain ⟨k, hk, hy, _⟩ := rplace ha hi
    have HY := Lib.hid hy
    clear h ha hi hy ih hb hTr hsub
    go_enter Tryz.func64, Tryz.ntmps64
    go_wp2_with fail
    refine (at_yes i w HA.out hl hk HY.out H.out).mono ?_
    rintro e w' ⟨rfl, rfl⟩
    go_wp2_with fail
    have O1 : Hid (kI.Own (w.alloc (.cells #[.int .i64 i] 3)) w.heap.size (.slice (some ⟨w.heap.size, 0, none⟩) 1 1) [i]) := Lib.hid (own_lit w i)
    have B1 : Hid (Below w.heap.size w (w.alloc (.cells #[.int .i64 i] 3))) := Lib.hid ((Below.refl _ _).alloc (Nat.le_refl _) _)
    generalize w.alloc (.cells #[.int .i64 i] 3) = W at O1 B1 ⊢
    refine (kids_any i W HA.out hl (H.out.below B1.out)).mono ?_
    rintro e w' ⟨⟨A, n, c, rfl, ok0, okf⟩, rfl⟩
    have ok := ok0.keep (w' := w) (fun g hg => (B1.out.block g (H.out.lt (okf g hg))).symm)
    obtain ⟨g1, g2, g3, g4, g5⟩ := own_nil_zero ok rfl
    have HN := Lib.hid g1
    have HK := Lib.hid g5
    have hn : n ≤ 1000 := by
      have h1 := nodup_len (kidsOf y.l i) (idsOf y.l) (HT.out.nod i) (fun c hc => has_ids.1 (HT.out.kid i c hc).2.1)
      simp only [idsOf, List.length_map, Rx.l] at h1
      have := HN.out
      simp only [Rx.l] at this
      omega
    have hz1 := B1.out.size
    clear ok ok0 okf g1 g2 g3 g4 g5
    go_wp2_with fail
    go_loopw [5, 7] (fun s5 s7 wr => ∃ j : Nat, j ≤ n ∧ s7 = .int .i64 j ∧ Hid (kI.Own wr w.heap.size s5 (i :: upto (kidsOf y.l) f i j)) ∧ Hid (Below w.heap.size w wr)) (fun _ s7 _ => n - (intOf s7).toNat)
    case atStart => exact ⟨0, by omega, rfl, Lib.hid (by simpa [upto] using O1.out), B1⟩
    case round =>
      obtain ⟨j, hj, rfl, HO, HW⟩ := hrel
      obtain ⟨A5, n5, c5, rfl, h5, _⟩ := HO.out.slice
      by_cases hjn : j < n
      · have hjl : j < (kidsOf y.l i).length := by have := HN.out; omega
        obtain ⟨gb, go, rfl, _, hc⟩ := cell_int (HK.out.on HW.out) hjl
        have hkid := HT.out.kid i _ (List.getElem_mem hjl)
        have IHJ := Lib.hid (IH.out (kidsOf y.l i)[j] wr (HB0.out _ (List.getElem_mem hjl)) hkid.2.1 (H.out.below HW.out))
        have HSL : Hid ((i :: upto (kidsOf y.l) f i (j + 1)).length ≤ 1000) := Lib.hid (by
          have h1 := HS.out (f + 1) i HI.out
          rw [sub] at h1
          have h2 : (upto (kidsOf y.l) f i (j + 1)).length ≤ ((kidsOf y.l i).flatMap (sub (kidsOf y.l) f)).length := by
            unfold upto
            have e : (kidsOf y.l i).flatMap (sub (kidsOf y.l) f) = ((kidsOf y.l i).take (j + 1)).flatMap (sub (kidsOf y.l) f) ++ ((kidsOf y.l i).drop (j + 1)).flatMap (sub (kidsOf y.l) f) := by rw [← List.flatMap_append, List.take_append_drop]
            rw [e, List.length_append]; omega
          simp only [List.length_cons] at h1 ⊢
          omega)
        have HUS := Lib.hid (upto_succ (f := f) hjl)
        generalize (kidsOf y.l i)[j] = kd at hc IHJ HUS
        clear hkid h5
        go_wp2_with fail
        refine IHJ.out.mono ?_
        rintro e w2 ⟨A6, n6, c6, rfl, o6, b6⟩
        obtain ⟨k1, k2, k3, k4, k5⟩ := own_nil_zero o6 rfl
        have K1 := Lib.hid k1
        have K4 : Hid (A6 = none → c6 = 0) := Lib.hid (fun e => (k4 e).1)
        have K5 := Lib.hid k5
        have HO2 := Lib.hid (HO.out.below b6 (Nat.le_refl _))
        have B6 := Lib.hid (HW.out.trans (b6.mono HW.out.size))
        have hz6 := B6.out.size
        clear o6 b6 k1 k2 k3 k4 k5
        go_wp2_with (at_builtin; refine kI.wp_app rfl _ _ rfl (v := .slice A5 n5 c5) (l := i :: upto (kidsOf y.l) f i j) (m := sub (kidsOf y.l) f kd) (B := w.heap.size) rfl HO2.out rfl K1.out K4.out K5.out (by have h1 := HSL.out; rw [HUS.out] at h1; simp only [List.length_cons, List.length_append] at h1 ⊢; have := K1.out; omega) (by omega) ?_; intro v' w3 hown hgrow hat; obtain ⟨A7, n7, c7, rfl, _, _, _, _, _⟩ := hown.slice)
        have HO3 : Hid (kI.Own w3 w.heap.size (.slice A7 n7 c7) (i :: upto (kidsOf y.l) f i (j + 1))) := Lib.hid (by rw [HUS.out]; exact hown)
        have HW3 : Hid (Below w.heap.size w w3) := Lib.hid (B6.out.grown hgrow (by have := B6.out.size; omega) (fun k hk => (HO2.out.lt hk).1))
        clear hown hgrow hat
        go_wp2_with fail
        go_roundw
        case rel => exact ⟨j + 1, by omega, by go_num, HO3, HW3⟩
        case measure => simp [intOf]; omega
      · have HE : Hid (i :: upto (kidsOf y.l) f i j = sub (kidsOf y.l) (f + 1) i) := Lib.hid (by rw [sub, ← upto_all, show j = (kidsOf y.l i).length by have := HN.out; omega])
        go_wp2_with fail
        go_ret
        exact ⟨_, _, _, rfl, by rw [← HE.out]; exact HO.out, HW.out⟩

/-! ### set -/
theorem Kind.Own.setE {P : Program} {α : Type} {K : Kind P α} {w : World} {g n c : Nat} {l : List α} (h : K.Own w B (.slice (some ⟨g, 0, none⟩) n c) l) {k : Nat} (hk : k < l.length) (a : α) :
    K.Own (w.setCells g (k * K.size) (K.cs a)) B (.slice (some ⟨g, 0, none⟩) n c) (l.set k a) := by
  rcases h.form with ⟨hv, _⟩ | ⟨g', c', cur, hv, _, hBg, hlt, hh, hnc, hcm, hcs, ht⟩
  · cases hv
  injection hv with e1 e2 e3
  injection e1 with e1
  injection e1 with e1
  subst e1; subst e2; subst e3
  obtain ⟨cur', h1, h2, h3⟩ := heap_setCells g (K.cs a) (k * K.size) w cur _ _ hh
  have hmul : l.length * K.size ≤ c * K.size := Nat.mul_le_mul_right _ hnc
  have hkm : (k + 1) * K.size ≤ l.length * K.size := Nat.mul_le_mul_right _ hk
  have hkm2 : (k + 1) * K.size = k * K.size + K.size := by rw [Nat.add_mul, Nat.one_mul]
  refine Kind.own_mk (by simp) hBg h1 hnc hcm (by rw [h2]; exact hcs) ?_
  apply List.ext_getElem?
  intro i
  have hpos := K.hpos
  rw [List.getElem?_take]
  by_cases hi : i < l.length * K.size
  · rw [if_pos hi, Array.getElem?_toList, h3 i (by omega), K.len]
    have hdm : i / K.size * K.size + i % K.size = i := by rw [Nat.mul_comm]; exact Nat.div_add_mod i K.size
    have hmod : i % K.size < K.size := Nat.mod_lt _ hpos
    have hdiv : i / K.size < l.length := by rw [Nat.div_lt_iff_lt_mul hpos]; exact hi
    have hat := K.cells_at (l.set k a) (i / K.size) (by simpa using hdiv) (i % K.size) hmod
    rw [hdm] at hat
    rw [hat, List.getElem_set]
    by_cases hik : k = i / K.size
    · subst hik
      rw [if_pos rfl, if_pos ⟨by omega, by omega⟩]
      congr 1
      omega
    · rw [if_neg hik]
      have hat2 := K.cells_at l (i / K.size) hdiv (i % K.size) hmod
      rw [hdm] at hat2
      rw [← hat2, ← ht, List.getElem?_take, if_pos hi, if_neg ?_, Array.getElem?_toList]
      rintro ⟨h5, h6⟩
      apply hik
      have h7 : k ≤ i / K.size := by rw [Nat.le_div_iff_mul_le hpos]; exact h5
      have h8 : i / K.size < k + 1 := by rw [Nat.div_lt_iff_lt_mul hpos]; omega
      omega
  · rw [if_neg hi, List.getElem?_eq_none]
    rw [Kind.cells_len, List.length_set]
    omega
structure Rset (w : World) (B q : Nat) (y y' : Rx) (r : Rn) (w' : World) : Prop where
  rf : Rf w' B q y'
  but : But (fun k => k = q) w w'
  ft : ∀ k, rfoot q y' k → rfoot q y k ∨ r.vk.val.ownBlock = some k ∨ w.heap.size ≤ k
theorem Rset.did {w0 w w' : World} {y' : Rx} {r : Rn} (h : Rset w B q y y' r w') (hb : Below w0.heap.size w0 w) (hg : ∀ g, r.vk.val.ownBlock = some g → rfoot q y g ∨ w0.heap.size ≤ g) : Rdid w0 B q y y' w' := by
  refine ⟨h.rf, (But.of_below hb _).trans h.but (fun _ _ h => h), fun k hk => ?_⟩
  have := hb.size
  rcases h.ft k hk with e | e | e
  · exact .inl e
  · exact hg k e
  · exact .inr (by omega)
def Set5 (w : World) (B q : Nat) (y : Rx) (k : Nat) (r : Rn) (e : Ending) (w' : World) : Prop := e = .returned (.tuple #[]) ∧ ∃ v, Rset w B q y { y with v := v, rs := y.rs.set k r } r w'
theorem set_end {w w2 w' : World} (h : Rf w B q y) {k : Nat} (hk : k < y.rs.length) {r : Rn} (hr : RNok w B r) {g c : Nat} (hb : Below w.heap.size w w2)
    (ho : kN.Own w2 (w.heap.size + 1) (.slice (some ⟨g, 0, none⟩) y.rs.length c) (y.rs.map Rn.rn)) (hw : w' = (w2.setCells g (k * 8) r.rn.cells).drew.setCell ⟨q, 0, none⟩ (.slice (some ⟨g, 0, none⟩) y.rs.length c)) :
    Rset w B q y { y with v := .slice (some ⟨g, 0, none⟩) y.rs.length c, rs := y.rs.set k r } r w' := by
  have hq := heap_lt h.blk
  have hg := (ho.lt (g := g) rfl).1
  have hb3 : Below w.heap.size w (w2.setCells g (k * 8) r.rn.cells).drew := by
    have := But.setCells (S := fun i => i = g) (a := w2) (g := g) (But.refl _ _) (fun _ => rfl) (k * 8) r.rn.cells
    exact (hb.trans (this.to_below (fun i _ hi => by omega) hb.size)).drew
  have ho3 : kN.Own (w2.setCells g (k * 8) r.rn.cells).drew (w.heap.size + 1) (.slice (some ⟨g, 0, none⟩) y.rs.length c) ((y.rs.map Rn.rn).set k r.rn) := (Kind.Own.setE (K := kN) ho (k := k) (by simpa using hk) r.rn).drew
  generalize (w2.setCells g (k * 8) r.rn.cells).drew = W at hw hb3 ho3
  have hbut : But (fun k => k = q) w w' := by
    rw [hw]
    exact But.setCell (S := fun k => k = q) (p := ⟨q, 0, none⟩) (But.of_below hb3 _) (fun _ => rfl) _
  have hmap : (y.rs.map Rn.rn).set k r.rn = (y.rs.set k r).map Rn.rn := by rw [List.map_set]
  rw [hmap] at ho3
  have hnA := q_noA h
  have hkq : ∀ s : Rn, (hs : RNok w B s) → ∀ i, s.vk.val.ownBlock = some i → i ≠ q := by
    rintro s hs i hi rfl
    obtain ⟨d, hd⟩ := hs.kids.ty hi
    exact heap_ne hd h.blk (by decide) rfl
  have hok : ∀ s : Rn, RNok w B s → RNok w' B s := fun s hs =>
    ⟨hs.att.but hbut hnA, hs.kids.keep (fun i hi => hbut.block i (hs.kids.lt hi).2 (hkq s hs i hi))⟩
  refine ⟨⟨by rw [hw]; exact heap_set ((hb3.block q hq).trans h.blk) 0 _, h.base, ?_, fun s hs => ?_⟩, hbut, fun i hi => ?_⟩
  · rw [hw]
    refine (ho3.keep fun i hi => Below.heap_setCell _ _ _ _ ?_).base_le (by have := h.base; omega)
    rintro rfl
    have := (ho3.lt hi).1
    omega
  · rcases mem_set_ (show s ∈ y.rs.set k r from hs) with rfl | ⟨j, hj, _, rfl⟩
    · exact hok _ hr
    · exact hok _ (h.nodes _ (List.getElem_mem hj))
  · rcases hi with e | e | ⟨s, hs, e⟩
    · exact .inl (.inl e)
    · simp only [Value.ownBlock, Option.some.injEq] at e
      exact .inr (.inr (by omega))
    · rcases mem_set_ (show s ∈ y.rs.set k r from hs) with rfl | ⟨j, hj, _, rfl⟩
      · exact .inr (.inl e)
      · exact .inl (.inr (.inr ⟨_, List.getElem_mem hj, e⟩))
set_option maxHeartbeats 2000000 in
theorem set_any (k : Nat) (nd : Nd) (A : Option Addr) (n c : Nat) (A2 : Option Addr) (n2 c2 : Nat) (w : World) (ha : Asc y.l) (hl : y.rs.length ≤ 1000) (hk : k < y.rs.length) (hi : y.rs[k].nd.id = nd.id) (hr : RNok w B ⟨⟨A, n, c⟩, ⟨A2, n2, c2⟩, nd⟩)
    (h : Rf w B q y) : Calls Tryz.prog 40 #[.pointer (some ⟨q, 0, none⟩), .agg #[.int .i64 nd.id, .int .i64 nd.par, .string nd.tag, .string nd.txt, .string nd.key, .slice A n c, .slice A2 n2 c2, .int .i64 nd.note]] w (Set5 w B q y k ⟨⟨A, n, c⟩, ⟨A2, n2, c2⟩, nd⟩) := by
  have H := Lib.hid h
  have HA := Lib.hid ha
  have HR := Lib.hid hr
  have HI := Lib.hid hi
  obtain ⟨AL, cL, hv, hc, hm, hz, hh⟩ := h.slice
  have HV := Lib.hid hv
  have HZ := Lib.hid hz
  have HH := Lib.hid hh
  have c0 := h.c0
  rw [hv] at c0
  have hqlt := heap_lt h.blk
  obtain ⟨nl, hnl⟩ : ∃ nl, y.rs.length = nl := ⟨_, rfl⟩
  have HNL := Lib.hid hnl
  rw [hnl] at c0
  have hnl2 : nl ≤ 1000 := by omega
  have hknl : k < nl := by omega
  have f0 := h.frozen 0
  have OM : Hid (kN.Own ((w.alloc (.cells #[.int .i64 nd.id, .int .i64 nd.par, .string nd.tag, .string nd.txt, .string nd.key, .slice A n c, .slice A2 n2 c2, .int .i64 nd.note] 34)).alloc (.cells #[] 34)) (w.heap.size + 1) (.slice (some ⟨w.heap.size + 1, 0, none⟩) 0 0) []) := Lib.hid (by
    have := Kind.Own.made kN (w.alloc (.cells #[.int .i64 nd.id, .int .i64 nd.par, .string nd.tag, .string nd.txt, .string nd.key, .slice A n c, .slice A2 n2 c2, .int .i64 nd.note] 34)) (w.heap.size + 1) (by simp)
    rw [show (w.alloc (.cells #[.int .i64 nd.id, .int .i64 nd.par, .string nd.tag, .string nd.txt, .string nd.key, .slice A n c, .slice A2 n2 c2, .int .i64 nd.note] 34)).heap.size = w.heap.size + 1 by simp] at this
    exact this)
  have BM : Hid (Below w.heap.size w ((w.alloc (.cells #[.int .i64 nd.id, .int .i64 nd.par, .string nd.tag, .string nd.txt, .string nd.key, .slice A n c, .slice A2 n2 c2, .int .i64 nd.note] 34)).alloc (.cells #[] 34))) := Lib.hid (((Below.refl _ _).alloc (Nat.le_refl _) _).alloc (by simp) _)
  have N0 : Hid (NdB ((w.alloc (.cells #[.int .i64 nd.id, .int .i64 nd.par, .string nd.tag, .string nd.txt, .string nd.key, .slice A n c, .slice A2 n2 c2, .int .i64 nd.note] 34)).alloc (.cells #[] 34)) w.heap.size nd A n c A2 n2 c2) := Lib.hid (heap_up (NdB.new w nd A n c A2 n2 c2))
  clear h ha hr hi hv hc hm hz hh hnl
  go_enter Tryz.func40, Tryz.ntmps40
  go_wp2_with (at_builtin; refine kN.wp_app rfl _ _ rfl (v := .slice (some ⟨w.heap.size + 1, 0, none⟩) 0 0) (l := []) (m := y.rs.map Rn.rn) (B := w.heap.size + 1) rfl OM.out rfl (by rw [List.length_map]; exact HNL.out) HZ.out (HH.out.on BM.out) (by simp; omega) (by simp) ?_; intro v' w2 hown hgrow hat)
  have hown2 : kN.Own w2 (w.heap.size + 1) v' (y.rs.map Rn.rn) := by simpa using hown
  obtain ⟨gN, cN, rfl⟩ : ∃ g c, v' = .slice (some ⟨g, 0, none⟩) nl c := by
    rcases hown2.form with ⟨_, hn⟩ | ⟨g, c, cur, rfl, _⟩
    · have : (y.rs.map Rn.rn).length = 0 := by rw [hn]; rfl
      rw [List.length_map] at this
      omega
    · exact ⟨g, c, by rw [List.length_map, HNL.out]⟩
  have HO := Lib.hid hown2
  have B2 : Hid (Below w.heap.size w w2) := Lib.hid (BM.out.grown hgrow (by simp; omega) (fun k hk => by simp only [Value.ownBlock, Option.some.injEq] at hk; omega))
  have hgN : w.heap.size + 1 ≤ gN := (hown2.lt (g := gN) rfl).1
  have hgN2 : gN < w2.heap.size := (hown2.lt (g := gN) rfl).2
  have hkc : nl ≤ cN := by
    obtain ⟨A', n', c', hv, _, h2, _⟩ := hown2.slice
    injection hv with e1 e2 e3
    omega
  have N2 : Hid (NdB w2 w.heap.size nd A n c A2 n2 c2) := Lib.hid ((hgrow.block _ (by simp; omega) (by simp [Value.ownBlock])).trans N0.out)
  have RF2 := Lib.hid (H.out.below B2.out)
  have e0 := N2.out.c0
  have e1 := N2.out.c1
  have e2 := N2.out.c2
  have e3 := N2.out.c3
  have e4 := N2.out.c4
  have e5 := N2.out.c5
  have e6 := N2.out.c6
  have e7 := N2.out.c7
  clear hown hgrow hat hown2 OM BM N0
  have hge : w.heap.size ≠ gN := by omega
  have hge' : gN ≠ w.heap.size := by omega
  have hqg : gN ≠ q := by omega
  have far : ∀ (W : World) (i j : Nat) (v : Value), (W.setCell ⟨gN, i, none⟩ v).cell? ⟨w.heap.size, j, none⟩ = W.cell? ⟨w.heap.size, j, none⟩ := fun W i j v => World.cell?_setCell_far _ _ _ _ hge'
  have T2 : w2.there gN (k * 8) 8 := by
    obtain ⟨A', n', c', hv, _⟩ := HO.out.slice
    rcases HO.out.form with ⟨hv, _⟩ | ⟨g', c', cur, hv, _, _, _, hh, _, _, hcs, _⟩
    · cases hv
    injection hv with e1 e2 e3
    injection e1 with e1
    injection e1 with e1
    subst e1; subst e3
    intro j hj
    have hj2 : k * 8 + j < cur.size := by rw [hcs]; show k * 8 + j < cN * 8; omega
    exact ⟨by rw [cell_of_row w2 gN (k * 8 + j) _ _ (0, 0) hh, Array.getElem?_eq_getElem hj2]; rfl, by simp [World.frozen?, hh]⟩
  obtain ⟨⟨u0, g0⟩, f0'⟩ : (∃ u, w2.cell? ⟨gN, k * 8, none⟩ = some u) ∧ w2.frozen? ⟨gN, k * 8, none⟩ = false := ⟨Option.isSome_iff_exists.1 (T2 0 (by omega)).1, (T2 0 (by omega)).2⟩
  obtain ⟨⟨u1, g1⟩, f1'⟩ : (∃ u, w2.cell? ⟨gN, k * 8 + 1, none⟩ = some u) ∧ w2.frozen? ⟨gN, k * 8 + 1, none⟩ = false := ⟨Option.isSome_iff_exists.1 (T2 1 (by omega)).1, (T2 1 (by omega)).2⟩
  obtain ⟨⟨u2, g2⟩, f2'⟩ : (∃ u, w2.cell? ⟨gN, k * 8 + 2, none⟩ = some u) ∧ w2.frozen? ⟨gN, k * 8 + 2, none⟩ = false := ⟨Option.isSome_iff_exists.1 (T2 2 (by omega)).1, (T2 2 (by omega)).2⟩
  obtain ⟨⟨u3, g3⟩, f3'⟩ : (∃ u, w2.cell? ⟨gN, k * 8 + 3, none⟩ = some u) ∧ w2.frozen? ⟨gN, k * 8 + 3, none⟩ = false := ⟨Option.isSome_iff_exists.1 (T2 3 (by omega)).1, (T2 3 (by omega)).2⟩
  obtain ⟨⟨u4, g4⟩, f4'⟩ : (∃ u, w2.cell? ⟨gN, k * 8 + 4, none⟩ = some u) ∧ w2.frozen? ⟨gN, k * 8 + 4, none⟩ = false := ⟨Option.isSome_iff_exists.1 (T2 4 (by omega)).1, (T2 4 (by omega)).2⟩
  obtain ⟨⟨u5, g5⟩, f5'⟩ : (∃ u, w2.cell? ⟨gN, k * 8 + 5, none⟩ = some u) ∧ w2.frozen? ⟨gN, k * 8 + 5, none⟩ = false := ⟨Option.isSome_iff_exists.1 (T2 5 (by omega)).1, (T2 5 (by omega)).2⟩
  obtain ⟨⟨u6, g6⟩, f6'⟩ : (∃ u, w2.cell? ⟨gN, k * 8 + 6, none⟩ = some u) ∧ w2.frozen? ⟨gN, k * 8 + 6, none⟩ = false := ⟨Option.isSome_iff_exists.1 (T2 6 (by omega)).1, (T2 6 (by omega)).2⟩
  obtain ⟨⟨u7, g7⟩, f7'⟩ : (∃ u, w2.cell? ⟨gN, k * 8 + 7, none⟩ = some u) ∧ w2.frozen? ⟨gN, k * 8 + 7, none⟩ = false := ⟨Option.isSome_iff_exists.1 (T2 7 (by omega)).1, (T2 7 (by omega)).2⟩
  clear T2
  go_region_held3 (fun w' => w'.cell? ⟨w.heap.size, 0, none⟩ = some (.int .i64 nd.id) ∧ w'.cell? ⟨w.heap.size, 1, none⟩ = some (.int .i64 nd.par) ∧ w'.cell? ⟨w.heap.size, 2, none⟩ = some (.string nd.tag) ∧ w'.cell? ⟨w.heap.size, 3, none⟩ = some (.string nd.txt) ∧
      w'.cell? ⟨w.heap.size, 4, none⟩ = some (.string nd.key) ∧ w'.cell? ⟨w.heap.size, 5, none⟩ = some (.slice A n c) ∧ w'.cell? ⟨w.heap.size, 6, none⟩ = some (.slice A2 n2 c2) ∧ w'.cell? ⟨w.heap.size, 7, none⟩ = some (.int .i64 nd.note)) (first | go_keep | (simp only [World.cell?_drew, far]; exact ⟨e0, e1, e2, e3, e4, e5, e6, e7⟩)) ((first
    | (go_at_call 8; refine (at_yes nd.id _ HA.out hl hk HI.out (by exact RF2.out.drewN _)).mono ?_; rintro e w3 ⟨rfl, rfl⟩)
    | fail))
  have hW : ((((((((w2.setCell ⟨gN, k * 8, none⟩ (.int .i64 nd.id)).setCell ⟨gN, k * 8 + 1, none⟩ (.int .i64 nd.par)).setCell ⟨gN, k * 8 + 2, none⟩ (.string nd.tag)).setCell ⟨gN, k * 8 + 3, none⟩ (.string nd.txt)).setCell ⟨gN, k * 8 + 4, none⟩ (.string nd.key)).setCell ⟨gN, k * 8 + 5, none⟩ (.slice A n c)).setCell ⟨gN, k * 8 + 6, none⟩ (.slice A2 n2 c2)).setCell ⟨gN, k * 8 + 7, none⟩ (.int .i64 nd.note)).drew = (w2.setCells gN (k * 8) (Rn.rn ⟨⟨A, n, c⟩, ⟨A2, n2, c2⟩, nd⟩).cells).drew := rfl
  generalize ((((((((w2.setCell ⟨gN, k * 8, none⟩ (.int .i64 nd.id)).setCell ⟨gN, k * 8 + 1, none⟩ (.int .i64 nd.par)).setCell ⟨gN, k * 8 + 2, none⟩ (.string nd.tag)).setCell ⟨gN, k * 8 + 3, none⟩ (.string nd.txt)).setCell ⟨gN, k * 8 + 4, none⟩ (.string nd.key)).setCell ⟨gN, k * 8 + 5, none⟩ (.slice A n c)).setCell ⟨gN, k * 8 + 6, none⟩ (.slice A2 n2 c2)).setCell ⟨gN, k * 8 + 7, none⟩ (.int .i64 nd.note)).drew = W at hW ⊢
  have b3 : Below w.heap.size w W := by
    rw [hW]
    have := But.setCells (S := fun i => i = gN) (a := w2) (g := gN) (But.refl _ _) (fun _ => rfl) (k * 8) (Rn.rn ⟨⟨A, n, c⟩, ⟨A2, n2, c2⟩, nd⟩).cells
    exact (B2.out.trans (this.to_below (fun i _ hi => by omega) B2.out.size)).drew
  have d0 : W.cell? ⟨q, 0, none⟩ = some (.slice AL nl cL) := (b3.cell (by exact hqlt)).trans c0
  have d1 : W.frozen? ⟨q, 0, none⟩ = false := (H.out.below b3).frozen 0
  have HW := Lib.hid hW
  clear hW b3 e0 e1 e2 e3 e4 e5 e6 e7 g0 g1 g2 g3 g4 g5 g6 g7 f0' f1' f2' f3' f4' f5' f6' f7' far
  go_wp2_with fail
  refine bodyPost_ret (results_none rfl _ _ _) rfl ?_
  refine ⟨rfl, _, set_end H.out hk HR.out B2.out (g := gN) (c := cN) (by rw [HNL.out]; exact HO.out) ?_⟩
  rw [← HW.out, HNL.out]
end Go.Proofs.YtihjdmdafiifhaaGreat.P5
