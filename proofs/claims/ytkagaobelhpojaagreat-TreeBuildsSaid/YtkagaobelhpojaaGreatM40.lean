/- The reference's Of: the tree of a node that is there. No condition but those stated. -/
import Derived.Deep.DrawnRows
import Derived.Deep.Cut
import Derived.Test.YtkagaobelhpojaaGreatM26
import Derived.Test.YtkagaobelhpojaaGreatM28
import Derived.Test.YtkagaobelhpojaaGreatM31
import Derived.Test.YtkagaobelhpojaaGreatM39
set_option linter.unusedVariables false
set_option linter.unusedSimpArgs false
namespace Go.Proofs.YtkagaobelhpojaaGreat.P8
open Go.RowKit Kd P4 P5
attribute [local go_sem ↓] Go.wp_at_zero Go.wp_at_succ
variable {B q : Nat} {y : Rx}
def RTold (w : World) (r : PT) (e : Ending) (w' : World) : Prop := ∃ tv : TV, e = .returned (.agg #[.string tv.tag, .string tv.txt, .string tv.key, .slice tv.sa.A tv.sa.n tv.sa.c, .slice tv.sk.A tv.sk.n tv.sk.c]) ∧ er tv = r ∧ TNew w' (fun b => w.heap.size ≤ b) tv ∧ Below w.heap.size w w'
def ROfRel (w : World) (g5 g6 : Nat) (nd : Nd) (Aa : Option Addr) (na ca : Nat) (Ak : Option Addr) (nk ck : Nat) (tr : Int → PT) (s7 : Value) (wr : World) : Prop :=
  ∃ (j : Nat) (A : Option Addr) (n c : Nat) (l : List TV), s7 = .int .i64 j ∧ j ≤ nk ∧ l.length = j ∧ Hid (Grew w wr g6 (g6 + 1) nd.tag nd.txt nd.key ⟨Aa, na, ca⟩ nd.attrs A n c l (fun b => g6 < b)) ∧ Hid (TB wr w.heap.size zTV) ∧ Hid (er (.mk nd.tag nd.txt nd.key ⟨Aa, na, ca⟩ nd.attrs ⟨A, n, c⟩ l) = .mk nd.tag nd.txt nd.key nd.attrs ((nd.kids.take j).map tr)) ∧ Hid (AOk wr ⟨Aa, na, ca⟩ nd.attrs) ∧ Hid (NdB wr g5 nd Aa na ca Ak nk ck) ∧ Hid (Below w.heap.size w wr)
set_option maxRecDepth 100000 in
set_option maxHeartbeats 20000000 in
theorem rof_any (hwf : WF y.d) : ∀ (f : Nat) (i : Int) (w : World), Hb (kidsOf y.l) f i → hasL y.l i = true → Rf w B q y → Calls Tryz.prog 19 #[.pointer (some ⟨q, 0, none⟩), .int .i64 i] w (RTold w (treeP y.l f i)) := by
  intro f
  induction f with
  | zero => intro i w hb; exact hb.elim
  | succ f ih =>
    intro i w hb hi h
    have ha : Asc y.l := hwf.asc
    have hl : y.rs.length ≤ 1000 := by have := hwf.len200; rw [show y.d.l = y.l from rfl, rl_len] at this; omega
    have IH := Lib.hid ih
    have HB0 := Lib.hid hb
    have H := Lib.hid h
    have HWF := Lib.hid hwf
    have HAS := Lib.hid ha
    obtain ⟨k, hk, hy, hfd⟩ := rplace ha hi
    have hkd : y.rs[k].nd.kids = kidsOf y.l i := (rtag_at ha hk hy).2.2.symm
    have HTR : Hid (treeP y.l (f + 1) i = .mk y.rs[k].nd.tag y.rs[k].nd.txt y.rs[k].nd.key y.rs[k].nd.attrs (y.rs[k].nd.kids.map (treeP y.l f))) := Lib.hid (treeP_succ hfd f)
    have HNKL : Hid (y.rs[k].nd.kids.length ≤ 1000) := Lib.hid (by
      rw [hkd]
      have h1 := nodup_len (kidsOf y.l i) (idsOf y.l) (hwf.tr.nod i) (fun c hc => has_ids.1 (hwf.tr.kid i c hc).2.1)
      simp only [idsOf, List.length_map, rl_len] at h1
      omega)
    have HY := Lib.hid hy
    have HKD := Lib.hid hkd
    have B0 : Hid (Below w.heap.size w (w.alloc (.cells #[.string ⟨#[]⟩, .string ⟨#[]⟩, .string ⟨#[]⟩, .slice none 0 0, .slice none 0 0] 26))) := Lib.hid ((Below.refl _ _).alloc (Nat.le_refl _) _)
    have Z0 : Hid (TB (w.alloc (.cells #[.string ⟨#[]⟩, .string ⟨#[]⟩, .string ⟨#[]⟩, .slice none 0 0, .slice none 0 0] 26)) w.heap.size zTV) := Lib.hid (TB.new w zTV)
    clear ih hb h hwf ha hy hi hfd hkd
    go_enter Tryz.func19, Tryz.ntmps19
    go_upto_region 1 with fail
    generalize w.alloc (.cells #[.string ⟨#[]⟩, .string ⟨#[]⟩, .string ⟨#[]⟩, .slice none 0 0, .slice none 0 0] 26) = W at B0 Z0 ⊢
    have H1 := Lib.hid (H.out.below B0.out)
    obtain ⟨b, o, cl, Aa, na, ca, Ak, nk, ck, hv, hcl, hb, d0, L, hva, hvk⟩ := H1.out.lies hk
    have HVA := Lib.hid hva
    have HVK := Lib.hid hvk
    obtain ⟨nl, hnl⟩ : ∃ nl, y.rs.length = nl := ⟨_, rfl⟩
    have hkn : k < nl := by omega
    have hl2 : nl ≤ 1000 := by omega
    rw [hnl] at d0 hcl
    have HR := Lib.hid (H1.out.nodes _ (List.getElem_mem hk))
    obtain ⟨nd, hnd⟩ : ∃ nd, y.rs[k].nd = nd := ⟨_, rfl⟩
    have A1 : Hid (AOk W ⟨Aa, na, ca⟩ nd.attrs) := Lib.hid (by rw [← hva, ← hnd]; exact HR.out.att)
    have K1 : Hid (∀ w9, Below w.heap.size w w9 → kI.Own w9 B (.slice Ak nk ck) nd.kids) := Lib.hid (fun w9 h9 => by
      have h1 := ((H.out.below h9).nodes _ (List.getElem_mem hk)).kids
      rw [hvk, hnd] at h1
      exact h1)
    rw [hnd] at L HTR HKD HNKL
    have l0 := L.c0
    have l1 := L.c1
    have l2 := L.c2
    have l3 := L.c3
    have l4 := L.c4
    have l5 := L.c5
    have l6 := L.c6
    have l7 := L.c7
    have hqlt := heap_lt H1.out.blk
    have HKL := Lib.hid hk
    clear hv hva hvk hnl hnd L HVA HVK HR
    go_cut [5] (fun s5 wx => s5 = .pointer (some ⟨W.heap.size, 0, none⟩) ∧ Hid (Below W.heap.size W wx) ∧ Hid (NdB wx W.heap.size nd Aa na ca Ak nk ck))
    case first =>
      go_region_held3 (fun w' => w'.cell? ⟨q, 0, none⟩ = some (.slice (some ⟨b, o, none⟩) nl cl) ∧ w'.cell? ⟨b, o + k * 8, none⟩ = some (.int .i64 nd.id) ∧ w'.cell? ⟨b, o + k * 8 + 1, none⟩ = some (.int .i64 nd.par) ∧ w'.cell? ⟨b, o + k * 8 + 2, none⟩ = some (.string nd.tag) ∧ w'.cell? ⟨b, o + k * 8 + 3, none⟩ = some (.string nd.txt) ∧ w'.cell? ⟨b, o + k * 8 + 4, none⟩ = some (.string nd.key) ∧ w'.cell? ⟨b, o + k * 8 + 5, none⟩ = some (.slice Aa na ca) ∧ w'.cell? ⟨b, o + k * 8 + 6, none⟩ = some (.slice Ak nk ck) ∧ w'.cell? ⟨b, o + k * 8 + 7, none⟩ = some (.int .i64 nd.note)) (go_keep) ((first
        | (go_at_call 17; refine (at_yes i _ HAS.out hl HKL.out HY.out (by exact H1.out.drewN _)).mono ?_; rintro e w3 ⟨rfl, rfl⟩)
        | (go_at_call 17; refine (at_yes i _ HAS.out hl HKL.out HY.out (by exact (H1.out.alloc _).drewN _)).mono ?_; rintro e w3 ⟨rfl, rfl⟩)
        | fail))
      all_goals
        go_wp2_with fail
        go_meet
        exact ⟨rfl, Lib.hid (((Below.refl _ _).alloc (Nat.le_refl _) _).drew), Lib.hid (P5.heap_drew (NdB.new W nd Aa na ca Ak nk ck))⟩
    case rest =>
      obtain ⟨rfl, b2, N2⟩ := hcut
      obtain ⟨w2, rfl⟩ : ∃ w2, w2 = wc := ⟨_, rfl⟩
      have B2 := Lib.hid (B0.out.trans (b2.out.mono B0.out.size))
      have A2 := Lib.hid (A1.out.below b2.out)
      have Z2 := Lib.hid (Z0.out.below b2.out Z0.out.lt)
      have hg5 : w.heap.size < W.heap.size := Z0.out.lt
      generalize W.heap.size = g5 at N2 hg5 ⊢
      clear l0 l1 l2 l3 l4 l5 l6 l7 d0 b2 A1 Z0 B0 H1 hqlt hb hcl
      have r2 := N2.out.c2
      have r3 := N2.out.c3
      have r4 := N2.out.c4
      have r5 := N2.out.c5
      go_upto_region 3 with fail
      have bb : Below w2.heap.size w2 (w2.alloc (.cells #[.string nd.tag, .string nd.txt, .string nd.key, .slice Aa na ca, .slice none 0 0] 26)) := (Below.refl _ _).alloc (Nat.le_refl _) _
      have B3 : Hid (Below w.heap.size w (w2.alloc (.cells #[.string nd.tag, .string nd.txt, .string nd.key, .slice Aa na ca, .slice none 0 0] 26))) := Lib.hid (B2.out.alloc B2.out.size _)
      have N3 := Lib.hid (N2.out.below bb N2.out.lt)
      have A3 := Lib.hid (A2.out.below bb)
      have Z3 := Lib.hid (Z2.out.below bb Z2.out.lt)
      have G3 : Hid (Grew w (w2.alloc (.cells #[.string nd.tag, .string nd.txt, .string nd.key, .slice Aa na ca, .slice none 0 0] 26)) w2.heap.size (w2.heap.size + 1) nd.tag nd.txt nd.key ⟨Aa, na, ca⟩ nd.attrs none 0 0 [] (fun b => w2.heap.size < b)) := Lib.hid ⟨TB.new w2 (.mk nd.tag nd.txt nd.key ⟨Aa, na, ca⟩ nd.attrs ⟨none, 0, 0⟩ []), Kind.Own.nil _ _ _, fun k hk => by cases hk⟩
      have hg6 : w.heap.size < w2.heap.size := Z2.out.lt
      generalize w2.alloc (.cells #[.string nd.tag, .string nd.txt, .string nd.key, .slice Aa na ca, .slice none 0 0] 26) = w3 at B3 N3 A3 Z3 G3 ⊢
      generalize w2.heap.size = g6 at G3 hg6 ⊢
      clear bb B2 N2 A2 Z2 r2 r3 r4 r5
      obtain ⟨g1, _, _, _, _⟩ := own_nil_zero (K1.out w3 B3.out) rfl
      have HNK : Hid (nd.kids.length = nk) := Lib.hid g1
      have hnk : nk ≤ 1000 := by have := HNKL.out; omega
      clear g1
      go_wp2_with fail
      go_loopw [7] (fun s7 wr => ROfRel w g5 g6 nd Aa na ca Ak nk ck (treeP y.l f) s7 wr) (fun s7 _ => nk - (intOf s7).toNat)
      case atStart => exact ⟨0, none, 0, 0, [], rfl, by omega, rfl, G3, Z3, Lib.hid (by rw [er, erL]; simp), A3, N3, B3⟩
      case round =>
        obtain ⟨j, A, n, c, l, rfl, hj, hlj, HG, HZ, HE, HA, HN, HB⟩ := hrel
        have r6 := HN.out.c6
        by_cases hjn : j < nk
        · have hjl : j < nd.kids.length := by have := HNK.out; omega
          have HO := Lib.hid (K1.out wr HB.out)
          obtain ⟨_, _, _, _, hhk⟩ := own_nil_zero HO.out rfl
          obtain ⟨gb, go, rfl, hgb, hc⟩ := cell_int hhk hjl
          have hmem : nd.kids[j] ∈ kidsOf y.l i := by rw [← HKD.out]; exact List.getElem_mem hjl
          have CK : Hid (∀ wz, Below wr.heap.size wr wz → Calls Tryz.prog 19 #[.pointer (some ⟨q, 0, none⟩), .int .i64 nd.kids[j]] wz fun e w' => ∃ tv : TV, e = .returned (.agg #[.string tv.tag, .string tv.txt, .string tv.key, .slice tv.sa.A tv.sa.n tv.sa.c, .slice tv.sk.A tv.sk.n tv.sk.c]) ∧ er tv = treeP y.l f nd.kids[j] ∧ TNew w' (fun b => wr.heap.size ≤ b) tv ∧ Below wz.heap.size wz w') := Lib.hid (fun wz hz => (IH.out nd.kids[j] wz (HB0.out _ hmem) (HWF.out.tr.kid i _ hmem).2.1 (H.out.below (HB.out.trans (hz.mono HB.out.size)))).mono fun e w' ⟨tv, h1, h2, h3, h4⟩ => ⟨tv, h1, h2, h3.mono fun b _ hb => Nat.le_trans hz.size hb, h4⟩)
          have HTK : Hid ((nd.kids.take (j + 1)).map (treeP y.l f) = (nd.kids.take j).map (treeP y.l f) ++ [treeP y.l f nd.kids[j]]) := Lib.hid (by rw [List.take_add_one, List.getElem?_eq_getElem hjl, List.map_append]; rfl)
          have GBLT := Lib.hid hgb
          have CKID : Hid (∀ wz, Below wr.heap.size wr wz → wz.cell? ⟨gb, go + j, none⟩ = some (.int .i64 nd.kids[j])) := Lib.hid (fun wz hz => (World.cell?_of_block (hz.block gb hgb)).trans hc)
          have GBNE : Hid (∀ wz, Below wr.heap.size wr wz → ∀ cur, wz.heap[gb]? = some (.cells cur 26 (0, 0)) → False) := Lib.hid (fun wz hz cur hcur => by
            rcases HO.out.form with ⟨hv, _⟩ | ⟨g', c', cur', hv, _, _, _, hh, _⟩
            · cases hv
            injection hv with e1
            injection e1 with e1
            injection e1 with e1
            subst e1
            exact heap_ne hcur ((hz.block _ hgb).trans hh) (by decide) rfl)
          generalize nd.kids[j] = kd at hc CK HTK CKID
          have hl6 : l.length ≤ 1000 := by omega
          have d4 : wr.cell? ⟨g6, 4, none⟩ = some (.slice A n c) := HG.out.tb.c4
          clear hmem hhk hgb HO
          go_upto_region 6 with fail
          refine Tl.region_last (S := (fun w' => w'.cell? ⟨g6, 4, none⟩ = some (.slice A n c) ∧ w'.cell? ⟨g5, 6, none⟩ = some (.slice (some ⟨gb, go, none⟩) nk ck) ∧ w'.cell? ⟨gb, go + j, none⟩ = some (.int .i64 kd))) (by kernel_rfl) 12 _ rfl rfl rfl (by kernel_rfl) (by go_keep) (fun hHeld => ?_)
          simp only [List.setIfInBounds_toArray, List.set_cons_zero, List.set_cons_succ, Tl.idle]
          refine wpAnyH_take (i := 0) (v := ?v1) rfl (by kernel_rfl) (by kernel_rfl) (by kernel_rfl) (fun _ _ _ h => h) (Or.inl ⟨by rfl, ?hy1⟩) (by assumption) ?hr1
          case hy1 => (intro w' hSw; (try dsimp only at hSw); go_simp; try with_reducible rfl)
          (try simp only [Act.put, List.setIfInBounds_toArray, List.set_cons_zero, List.set_cons_succ])
          refine wpAnyH_take (i := 1) (v := ?v2) rfl (by kernel_rfl) (by kernel_rfl) (by kernel_rfl) (fun _ _ _ h => h) (Or.inl ⟨by rfl, ?hy2⟩) (by assumption) ?hr2
          case hy2 => (intro w' hSw; (try dsimp only at hSw); go_simp; try with_reducible rfl)
          (try simp only [Act.put, List.setIfInBounds_toArray, List.set_cons_zero, List.set_cons_succ])
          refine wpAnyH_take (i := 2) (v := ?v3) rfl (by kernel_rfl) (by kernel_rfl) (by kernel_rfl) (fun _ _ _ h => h) (Or.inl ⟨by rfl, ?hy3⟩) (by assumption) ?hr3
          case hy3 => (intro w' hSw; (try dsimp only at hSw); go_simp; try with_reducible rfl)
          (try simp only [Act.put, List.setIfInBounds_toArray, List.set_cons_zero, List.set_cons_succ])
          refine wpAnyH_take (i := 3) (v := ?v4) rfl (by kernel_rfl) (by kernel_rfl) (by kernel_rfl) (fun _ _ _ h => h) (Or.inl ⟨by rfl, ?hy4⟩) (by assumption) ?hr4
          case hy4 => (intro w' hSw; (try dsimp only at hSw); go_simp; try with_reducible rfl)
          (try simp only [Act.put, List.setIfInBounds_toArray, List.set_cons_zero, List.set_cons_succ])
          refine wpAnyH_take (i := 4) (v := ?v5) rfl (by kernel_rfl) (by kernel_rfl) (by kernel_rfl) (fun _ _ _ h => h) (Or.inl ⟨by rfl, ?hy5⟩) (by assumption) ?hr5
          case hy5 => (intro w' hSw; (try dsimp only at hSw); go_simp; try with_reducible rfl)
          (try simp only [Act.put, List.setIfInBounds_toArray, List.set_cons_zero, List.set_cons_succ])
          refine wpAnyH_take (i := 5) (v := ?v6) rfl (by kernel_rfl) (by kernel_rfl) (by kernel_rfl) (fun _ _ _ h => h) (Or.inl ⟨by rfl, ?hy6⟩) (by assumption) ?hr6
          case hy6 => (intro w' hSw; (try dsimp only at hSw); go_simp; try with_reducible rfl)
          (try simp only [Act.put, List.setIfInBounds_toArray, List.set_cons_zero, List.set_cons_succ])
          refine wpAnyH_take (i := 6) (v := ?v7) rfl (by kernel_rfl) (by kernel_rfl) (by kernel_rfl) (fun _ _ _ h => h) (Or.inl ⟨by rfl, ?hy7⟩) (by assumption) ?hr7
          case hy7 => (intro w' hSw; (try dsimp only at hSw); go_simp; try with_reducible rfl)
          (try simp only [Act.put, List.setIfInBounds_toArray, List.set_cons_zero, List.set_cons_succ])
          refine wpAnyH_take (i := 7) (v := ?v8) rfl (by kernel_rfl) (by kernel_rfl) (by kernel_rfl) (fun _ _ _ h => h) (Or.inl ⟨by rfl, ?hy8⟩) (by assumption) ?hr8
          case hy8 => (intro w' hSw; (try dsimp only at hSw); go_simp; try with_reducible rfl)
          (try simp only [Act.put, List.setIfInBounds_toArray, List.set_cons_zero, List.set_cons_succ])
          refine wpAnyH_ready (rs := [8]) (by kernel_rfl) (by simp) ?_
          refine AllReadyH.cons rfl (fun K hK => ?_) ?_
          · go_simp; go_at_call 19; refine (CK.out _ (by first | exact Below.refl _ _ | exact Below.drew (Below.refl _ _) | exact Below_drewN (Below.refl _ _) _)).mono ?_; rintro e w6 ⟨tv, rfl, het, htn, b6⟩; have B6r : Hid (Below wr.heap.size wr w6) := Lib.hid (by first | exact b6 | exact (Below.drew (Below.refl _ _)).trans b6 | exact (Below_drewN (Below.refl _ _) _).trans b6); have HET := Lib.hid het; have T6 : Hid (TNew w6 (fun b => g6 < b ∧ (Value.slice A n c).ownBlock ≠ some b) tv) := Lib.hid (htn.mono fun b _ hb => ⟨by have h1 := HG.out.tb.lt; have h2 : wr.heap.size ≤ b := hb; omega, fun e => by have h1 := (HG.out.own.lt e).2; have h2 : wr.heap.size ≤ b := hb; omega⟩); have B6 := Lib.hid (HB.out.trans (B6r.out.mono HB.out.size)); have G6 : Hid (Grew w w6 g6 (g6 + 1) nd.tag nd.txt nd.key ⟨Aa, na, ca⟩ nd.attrs A n c l (fun b => g6 < b)) := Lib.hid ⟨HG.out.tb.below B6r.out HG.out.tb.lt, HG.out.own.below B6r.out (Nat.le_refl _), fun k hk => (HG.out.ks k hk).later B6r.out⟩; have Z6 := Lib.hid (HZ.out.below B6r.out HZ.out.lt); have A6 := Lib.hid (HA.out.below B6r.out); have N6 := Lib.hid (HN.out.below B6r.out HN.out.lt); have c6 : w6.cell? ⟨gb, go + j, none⟩ = some (.int .i64 kd) := CKID.out w6 B6r.out; have d6 : w6.cell? ⟨g6, 4, none⟩ = some (.slice A n c) := G6.out.tb.c4; have m6 : w6.cell? ⟨g5, 6, none⟩ = some (.slice (some ⟨gb, go, none⟩) nk ck) := N6.out.c6; clear het htn b6; go_wp2_with fail
            refine hK.out _ _ ?_ (fun hHeld => ?_)
            · exact ⟨d6, m6, c6⟩
            clear hK K
            (try simp only [Act.put, List.setIfInBounds_toArray, List.set_cons_zero, List.set_cons_succ])
            refine wpAnyH_ready (rs := [9]) (by kernel_rfl) (by simp) ?_
            refine AllReadyH.cons rfl (fun K hK => ?_) ?_
            · go_simp
              refine hK.out _ _ ?_ (fun hHeld => ?_)
              · go_keep
              clear hK K
              (try simp only [Act.put, List.setIfInBounds_toArray, List.set_cons_zero, List.set_cons_succ])
              refine wpAnyH_ready (rs := [10]) (by kernel_rfl) (by simp) ?_
              refine AllReadyH.cons rfl (fun K hK => ?_) ?_
              · refine kT.step_app rfl (.tmp 34) (.tmp 42) rfl (v := .slice A n c) (l := l) (m := [tv]) (B := g6 + 1) (A := some ⟨w6.heap.size, 0, none⟩) (n := 1) (c := 1) rfl (G6.out.own.alloc _) rfl rfl (fun e => by cases e) (Kind.Holds.lit (heap_alloc_new _ _) rfl) (by simp; omega) (by have := G6.out.tb.lt; simp; omega) ?_; intro v7 w7 hown7 hgrow7 hat7; obtain ⟨A7, n7, c7, rfl, _, _, _, _, _⟩ := hown7.slice; have e7 : w7.cell? ⟨g6, 4, none⟩ = some (.slice A n c) := (cell_of_row w7 g6 4 _ _ (0, 0) ((hgrow7.block g6 (by have := G6.out.tb.lt; simp; omega) (fun e => by have := (G6.out.own.lt e.symm).1; omega)).trans (heap_up G6.out.tb))).trans rfl; have f7 : w7.frozen? ⟨g6, 4, none⟩ = false := (by have hb := (hgrow7.block g6 (by have := G6.out.tb.lt; simp; omega) (fun e => by have := (G6.out.own.lt e.symm).1; omega)).trans (heap_up G6.out.tb); simp [World.frozen?, hb]); have m7 : w7.cell? ⟨g5, 6, none⟩ = some (.slice (some ⟨gb, go, none⟩) nk ck) := (cell_of_row w7 g5 6 _ _ (0, 0) ((hgrow7.block g5 (by have := N6.out.lt; simp; omega) (fun e => by obtain ⟨dd, hdd⟩ := G6.out.own.ty e.symm; exact heap_ne hdd N6.out (by decide) rfl)).trans (heap_up N6.out))).trans rfl; have c7' : w7.cell? ⟨gb, go + j, none⟩ = some (.int .i64 kd) := (by have hbb := hgrow7.block gb (by have := GBLT.out; have := B6r.out.size; simp; omega) (fun e => by obtain ⟨dd, hdd⟩ := G6.out.own.ty e.symm; exact GBNE.out w6 B6r.out _ hdd); exact (World.cell?_of_block hbb).trans ((World.cell?_of_block (Below.heap_alloc _ _ gb (by have := GBLT.out; have := B6r.out.size; omega))).trans c6)); have GB := kids_grew (Q := fun b => g6 < b) (k := tv) (fun b hb e => by have hb : g6 < b := hb; omega) (Nat.lt_succ_self g6) G6.out.tb G6.out.own G6.out.ks T6.out hgrow7 hown7 hat7; clear hown7 hgrow7 hat7
                refine hK.out _ _ ?_ (fun hHeld => ?_)
                · exact ⟨e7, m7, c7'⟩
                clear hK K
                (try simp only [Act.put, List.setIfInBounds_toArray, List.set_cons_zero, List.set_cons_succ])
                refine wpAnyH_take (i := 11) (v := ?v9) rfl (by kernel_rfl) (by kernel_rfl) (by kernel_rfl) (fun _ _ _ h => h) (Or.inl ⟨by rfl, ?hy9⟩) (by assumption) ?hr9
                case hy9 => (intro w' hSw; (try dsimp only at hSw); go_simp; try with_reducible rfl)
                (try simp only [Act.put, List.setIfInBounds_toArray, List.set_cons_zero, List.set_cons_succ])
                refine wpAnyH_take (i := 12) (v := ?v10) rfl (by kernel_rfl) (by kernel_rfl) (by kernel_rfl) (fun _ _ _ h => h) (Or.inl ⟨by rfl, ?hy10⟩) (by assumption) ?hr10
                case hy10 => (intro w' hSw; (try dsimp only at hSw); go_simp; try with_reducible rfl)
                (try simp only [Act.put, List.setIfInBounds_toArray, List.set_cons_zero, List.set_cons_succ])
                refine wpAnyH_done (by kernel_rfl) ?_ _
                intro K hK
                go_simp
                refine hK _ _ ?_
                clear hK K
                obtain ⟨g9, b9⟩ := GB
                have hS : ∀ b, (b = g6 ∨ (Value.slice A n c).ownBlock = some b) → ∃ cur, w6.heap[b]? = some (.cells cur 26 (0, 0)) := by
                  rintro b (rfl | e)
                  · exact ⟨_, G6.out.tb⟩
                  · exact G6.out.own.ty e
                have G9 : Hid (Grew w (w7.setCell ⟨g6, 4, none⟩ (.slice A7 n7 c7)) g6 (g6 + 1) nd.tag nd.txt nd.key ⟨Aa, na, ca⟩ nd.attrs A7 n7 c7 (l ++ [tv]) (fun b => g6 < b)) := Lib.hid ⟨g9.tb, g9.own, g9.ks⟩
                have B9 : Hid (Below w.heap.size w (w7.setCell ⟨g6, 4, none⟩ (.slice A7 n7 c7))) := Lib.hid (B6.out.trans (b9.to_below (fun b _ hb => by
                  rcases hb with rfl | e
                  · omega
                  · have := (G6.out.own.lt e).1; omega) B6.out.size))
                have Z9 : Hid (TB (w7.setCell ⟨g6, 4, none⟩ (.slice A7 n7 c7)) w.heap.size zTV) := Lib.hid ((b9.block _ Z6.out.lt (fun hb => by
                  rcases hb with e | e
                  · omega
                  · have := (G6.out.own.lt e).1; omega)).trans Z6.out)
                have A9 : Hid (AOk (w7.setCell ⟨g6, 4, none⟩ (.slice A7 n7 c7)) ⟨Aa, na, ca⟩ nd.attrs) := Lib.hid (A6.out.but b9 (tree_noA hS))
                have N9 : Hid (NdB (w7.setCell ⟨g6, 4, none⟩ (.slice A7 n7 c7)) g5 nd Aa na ca (some ⟨gb, go, none⟩) nk ck) := Lib.hid ((b9.block g5 N6.out.lt (fun hs => by
                  obtain ⟨d2, hd2⟩ := hS g5 hs
                  exact heap_ne hd2 N6.out (by decide) rfl)).trans N6.out)
                have E9 : Hid (er (.mk nd.tag nd.txt nd.key ⟨Aa, na, ca⟩ nd.attrs ⟨A7, n7, c7⟩ (l ++ [tv])) = .mk nd.tag nd.txt nd.key nd.attrs ((nd.kids.take (j + 1)).map (treeP y.l f))) := Lib.hid (by
                  have h1 := HE.out
                  rw [er, erL_map] at h1 ⊢
                  injection h1 with _ _ _ _ h1
                  rw [HTK.out, List.map_append, h1, ← HET.out]
                  rfl)
                generalize w7.setCell ⟨g6, 4, none⟩ (.slice A7 n7 c7) = w9 at G9 B9 Z9 A9 N9 ⊢
                clear g9 b9 hS e7 f7 m7 c7' c6 d6 m6 T6 B6 B6r G6 Z6 A6 N6
                go_wp2_with fail
                go_roundw
                case rel => exact ⟨j + 1, A7, n7, c7, l ++ [tv], by go_num, by omega, by simp; omega, G9, Z9, E9, A9, N9, B9⟩
                case measure => simp [intOf]; omega
              exact AllReadyH.nil
            exact AllReadyH.nil
          exact AllReadyH.nil
        · obtain rfl : j = nk := by omega
          have d0 := HG.out.tb.c0; have d1 := HG.out.tb.c1; have d2 := HG.out.tb.c2; have d3 := HG.out.tb.c3; have d4 := HG.out.tb.c4
          have z0 := HZ.out.c0; have z1 := HZ.out.c1; have z2 := HZ.out.c2; have z3 := HZ.out.c3; have z4 := HZ.out.c4
          simp only [TV.tag, TV.txt, TV.key, TV.sa, TV.sk, zTV] at d0 d1 d2 d3 d4 z0 z1 z2 z3 z4
          have zf : ∀ i, wr.frozen? ⟨w.heap.size, i, none⟩ = false := fun i => by have hb := HZ.out; simp [World.frozen?, (show wr.heap[w.heap.size]? = _ from hb)]
          have hzl : w.heap.size < wr.heap.size := HZ.out.lt
          have HEE : Hid (er (.mk nd.tag nd.txt nd.key ⟨Aa, na, ca⟩ nd.attrs ⟨A, n, c⟩ l) = treeP y.l (f + 1) i) := Lib.hid (by rw [HTR.out, HE.out, List.take_of_length_le (by have := HNK.out; omega)])
          go_wp2_with fail
          refine bodyPost_ret (v := .agg #[.string nd.tag, .string nd.txt, .string nd.key, .slice Aa na ca, .slice A n c]) (by simp [results, Tryz.results19, go_sem, z0, z1, z2, z3, z4, hzl]) rfl ⟨.mk nd.tag nd.txt nd.key ⟨Aa, na, ca⟩ nd.attrs ⟨A, n, c⟩ l, rfl, HEE.out, ?_, ?_⟩
          · refine TNew.but (S := fun b => b = w.heap.size) (w := wr) (TNew.mono (Q := fun b => g6 < b) ⟨HA.out, HG.out.own.base_le (Nat.zero_le _), fun b hb => by have := (HG.out.own.lt hb).1; omega, fun k hk => (HG.out.ks k hk).mono fun b _ hb => hb.1⟩ (fun b _ hb => (show w.heap.size < b by omega))) ?_ (fun b hb e => by omega) (fun b cur fr e hc => by
              subst e
              exact heap_ne hc HZ.out (by decide) rfl) |>.mono fun b _ hb => Nat.le_of_lt hb
            exact setOne (setOne (setOne (setOne (setOne (But.refl _ _)))))
          · exact one_end HB.out (setOne (setOne (setOne (setOne (setOne (But.refl _ _))))))
end Go.Proofs.YtkagaobelhpojaaGreat.P8
