/- The reference: a node that leaves. -/
import Derived.Deep.DeepCutAuto
import Derived.Deep.CutBlock
import Derived.Test.YtihjdmdafiifhaaGreatM21
set_option linter.unusedVariables false
set_option linter.unusedSimpArgs false
set_option linter.unusedVariables false
set_option linter.unusedSimpArgs false
namespace Go.Proofs.YtihjdmdafiifhaaGreat.P5
open Go.RowKit Kd P4
variable {B q : Nat} {y : Rx}

/-- a node of the list, as its cells lie -/
structure Lies (w : World) (b o : Nat) (nd : Nd) (A : Option Addr) (n c : Nat) (A2 : Option Addr) (n2 k2 : Nat) : Prop where
  c0 : w.cell? ⟨b, o, none⟩ = some (.int .i64 nd.id)
  c1 : w.cell? ⟨b, o + 1, none⟩ = some (.int .i64 nd.par)
  c2 : w.cell? ⟨b, o + 2, none⟩ = some (.string nd.tag)
  c3 : w.cell? ⟨b, o + 3, none⟩ = some (.string nd.txt)
  c4 : w.cell? ⟨b, o + 4, none⟩ = some (.string nd.key)
  c5 : w.cell? ⟨b, o + 5, none⟩ = some (.slice A n c)
  c6 : w.cell? ⟨b, o + 6, none⟩ = some (.slice A2 n2 k2)
  c7 : w.cell? ⟨b, o + 7, none⟩ = some (.int .i64 nd.note)
/-- the list and one of its nodes: where they lie -/
theorem Rf.lies {w : World} (h : Rf w B q y) {k : Nat} (hk : k < y.rs.length) : ∃ b o c A n ca A2 n2 c2, y.v = .slice (some ⟨b, o, none⟩) y.rs.length c ∧ y.rs.length ≤ c ∧ b < w.heap.size ∧ w.cell? ⟨q, 0, none⟩ = some (.slice (some ⟨b, o, none⟩) y.rs.length c) ∧ Lies w b (o + k * 8) y.rs[k].nd A n ca A2 n2 c2 ∧ y.rs[k].va = ⟨A, n, ca⟩ ∧ y.rs[k].vk = ⟨A2, n2, c2⟩ := by
  obtain ⟨A, c, hv, hc, hm, hz, hh⟩ := h.slice
  obtain ⟨b, o, rfl, hb, g0, g1, g2, g3, g4, g5, g6, g7⟩ := cell_of_nodes hh hk
  have c0 := h.c0
  rw [hv] at c0
  exact ⟨b, o, c, _, _, _, _, _, _, hv, hc, hb, c0, ⟨g0, g1, g2, g3, g4, g5, g6, g7⟩, rfl, rfl⟩
theorem Rf.drew {w : World} (h : Rf w B q y) : Rf w.drew B q y := h.below (Below.refl _ _).drew
theorem less_take {i : Int} {l : List Int} {j : Nat} (hj : j < l.length) : less i (l.take (j + 1)) = if l[j] = i then less i (l.take j) else less i (l.take j) ++ [l[j]] := by
  unfold less
  rw [List.take_succ_eq_append_getElem hj, List.filter_append]
  by_cases e : l[j] = i
  · rw [if_pos e]; simp [e]
  · rw [if_neg e]; simp [e]
theorem two_set {l : List Nd} (h : Asc l) {k k2 : Nat} (hk : k < l.length) (hk2 : k2 < l.length) (hne : k2 ≠ k) (f g : Nd → Nd) (hf : ∀ x, (f x).id = x.id) :
    (l.set k2 (f l[k2])).set k (g l[k]) = upd (upd l l[k2].id f) l[k].id g ∧ Asc (l.set k2 (f l[k2])) := by
  have e1 := h.set_upd hk2 f
  have e2 : (l.set k2 (f l[k2]))[k]'(by simpa using hk) = l[k] := List.getElem_set_ne hne _
  have hA : Asc (l.set k2 (f l[k2])) := asc_of_ids h (by
    unfold idsOf
    rw [List.map_set, hf]
    apply List.ext_getElem
    · simp
    · intro j h1 h2
      rw [List.getElem_set]
      by_cases e : k2 = j
      · subst e; rw [if_pos rfl, List.getElem_map]
      · rw [if_neg e])
  have := hA.set_upd (k := k) (by simpa using hk) g
  rw [e2] at this
  exact ⟨by rw [this, e1], hA⟩
theorem NdB.noA {w : World} {g : Nat} {nd : Nd} {A : Option Addr} {n c : Nat} {A2 : Option Addr} {n2 k2 : Nat} (h : NdB w g nd A n c A2 n2 k2) : NoA w (fun k => k = g) := by
  rintro k cu f rfl hk
  exact heap_ne h hk (by decide) rfl
theorem Rf.set_out {w : World} (h : Rf w B q y) {g : Nat} (hf : ¬ rfoot q y g) (hA : NoA w (fun k => k = g)) (j : Nat) (u : Value) : Rf (w.setCell ⟨g, j, none⟩ u) B q y :=
  h.but (But.setCell (S := fun k => k = g) (p := ⟨g, j, none⟩) (But.refl _ _) (fun _ => rfl) u) (fun k hk e => hf (e ▸ hk)) hA
theorem Rdid.set_out {w w' : World} {y' : Rx} (h : Rdid w B q y y' w') {g : Nat} (hge : w.heap.size ≤ g) (hf : ¬ rfoot q y' g) (hA : NoA w' (fun k => k = g)) (j : Nat) (u : Value) : Rdid w B q y y' (w'.setCell ⟨g, j, none⟩ u) :=
  ⟨h.rf.set_out hf hA j u, But.setCell (S := fun k => k = q) (p := ⟨g, j, none⟩) h.but (fun e => by simp only at e; omega) u, h.ft⟩
def RLeft (w : World) (B q : Nat) (y : Rx) (i : Int) (e : Ending) (w' : World) : Prop := e = .returned (.tuple #[]) ∧ ∃ v rs', Rdid w B q y { y with v := v, rs := rs' } w' ∧ rs'.map (·.nd) = leaveL y.l i
set_option maxHeartbeats 4000000 in
theorem rleave_any (i : Int) (w : World) (hwf : WF y.d) (hi : hasL y.l i = true) (h : Rf w B q y) : Calls Tryz.prog 63 #[.pointer (some ⟨q, 0, none⟩), .int .i64 i] w (RLeft w B q y i) := by
  have HA : Hid (Asc y.l) := Lib.hid hwf.asc
  have HT : Hid (Tr (fun z => hasL y.l z = true) (parOf y.l) (kidsOf y.l)) := Lib.hid hwf.tr
  have HWF := Lib.hid hwf
  have H := Lib.hid h
  have hl : y.rs.length ≤ 1000 := by have := hwf.len200; rw [show y.d.l = y.l from rfl, rl_len] at this; omega
  obtain ⟨k, hk, hy, _⟩ := rplace HA.out hi
  have hpar := (rtag_at HA.out hk hy).2.1
  obtain ⟨b, o, cl, A, n, ca, A2, n2, c2, hv, hcl, hb, d0, L, hva, hvk⟩ := h.lies hk
  have HVA := Lib.hid hva
  have HVK := Lib.hid hvk
  have HY := Lib.hid hy
  obtain ⟨nl, hnl⟩ : ∃ nl, y.rs.length = nl := ⟨_, rfl⟩
  have HNL := Lib.hid hnl
  have hkn : k < nl := by omega
  have hl2 : nl ≤ 1000 := by omega
  rw [hnl] at d0 hcl
  obtain ⟨m, hm⟩ : ∃ m, y.rs[k].nd = m := ⟨_, rfl⟩
  have HM := Lib.hid hm
  rw [hm] at L hpar hy
  have HP := Lib.hid hpar
  have HI := Lib.hid hi
  have l0 := L.c0
  have l1 := L.c1
  have l2 := L.c2
  have l3 := L.c3
  have l4 := L.c4
  have l5 := L.c5
  have l6 := L.c6
  have l7 := L.c7
  have hqlt := heap_lt h.blk
  clear h hv hva hvk hnl hm hpar L hwf hi hy
  go_enter Tryz.func63, Tryz.ntmps63
  go_upto_region 0 with fail
  go_cut [4] (fun s4 wx => s4 = .pointer (some ⟨w.heap.size, 0, none⟩) ∧ Hid (Below w.heap.size w wx) ∧ Hid (NdB wx w.heap.size m A n ca A2 n2 c2))
  case first =>
    go_region_held3 (fun w' => w'.cell? ⟨q, 0, none⟩ = some (.slice (some ⟨b, o, none⟩) nl cl) ∧ w'.cell? ⟨b, o + k * 8, none⟩ = some (.int .i64 m.id) ∧ w'.cell? ⟨b, o + k * 8 + 1, none⟩ = some (.int .i64 m.par) ∧ w'.cell? ⟨b, o + k * 8 + 2, none⟩ = some (.string m.tag) ∧ w'.cell? ⟨b, o + k * 8 + 3, none⟩ = some (.string m.txt) ∧ w'.cell? ⟨b, o + k * 8 + 4, none⟩ = some (.string m.key) ∧ w'.cell? ⟨b, o + k * 8 + 5, none⟩ = some (.slice A n ca) ∧ w'.cell? ⟨b, o + k * 8 + 6, none⟩ = some (.slice A2 n2 c2) ∧ w'.cell? ⟨b, o + k * 8 + 7, none⟩ = some (.int .i64 m.note)) (go_keep) ((first
    | (go_at_call 8; refine (at_yes i _ HA.out hl hk HY.out (by exact H.out.drewN _)).mono ?_; rintro e w3 ⟨rfl, rfl⟩)
    | (go_at_call 8; refine (at_yes i _ HA.out hl hk HY.out (by exact (H.out.alloc _).drewN _)).mono ?_; rintro e w3 ⟨rfl, rfl⟩)
    | fail))
    all_goals
      go_wp2_with fail
      go_meet
      exact ⟨rfl, Lib.hid (((Below.refl _ _).alloc (Nat.le_refl _) _).drew), Lib.hid (heap_drew (NdB.new w m A n ca A2 n2 c2))⟩
  case rest =>
    obtain ⟨rfl, B1, N1⟩ := hcut
    obtain ⟨w1, rfl⟩ : ∃ w1, w1 = wc := ⟨_, rfl⟩
    have e1 := N1.out.c1
    have hz1 : w.heap.size < w1.heap.size := N1.out.lt
    clear d0 l0 l1 l2 l3 l4 l5 l6 l7 hcl hb
    by_cases hq0 : m.par = 0
    · have HE : Hid (leaveL y.l i = y.l) := Lib.hid (by unfold leaveL; rw [HP.out, if_pos hq0])
      have hqq : (m.par == 0) = true := by simpa using hq0
      clear hq0
      go_wp2_with fail
      refine bodyPost_ret (results_none rfl _ _ _) rfl ?_
      exact ⟨rfl, y.v, y.rs, Rdid.below_ H.out B1.out, HE.out.symm⟩
    · have hqq : (m.par == 0) = false := by simpa using hq0
      have hpm : hasL y.l m.par = true := by rw [← HP.out]; exact HT.out.hpar (by rw [HP.out]; exact hq0)
      obtain ⟨k2, hk2, hy2, _⟩ := rplace HA.out hpm
      have HY2 := Lib.hid hy2
      have HKD := Lib.hid (rtag_at HA.out hk2 hy2).2.2
      have hne : k2 ≠ k := by
        rintro rfl
        refine HT.out.no_cycle (x := i) (j := 0) (HT.out.ne0 HI.out) ?_
        show parOf y.l i = i
        rw [HP.out, ← hy2, HY.out]
      have HNE := Lib.hid hne
      have HE : Hid (leaveL y.l i = upd (upd y.l m.par (withKids (less i))) i (withPar 0)) := Lib.hid (by unfold leaveL; rw [HP.out, if_neg hq0])
      have H1 := Lib.hid (H.out.below B1.out)
      have hkl : y.rs[k2].nd.kids.length ≤ 1000 := by have := HWF.out.kids_len (x := y.rs[k2].nd) (List.mem_map.2 ⟨_, List.getElem_mem hk2, rfl⟩); omega
      obtain ⟨b, o, cl, Ap, np, cap, A2p, n2p, c2p, hv, hcl, hb, d0, L, hvap, hvkp⟩ := H1.out.lies hk2
      have OK : kI.Own w B (.slice A2p n2p c2p) y.rs[k2].nd.kids := by have := (H.out.nodes _ (List.getElem_mem hk2)).kids; rw [hvkp] at this; exact this
      have HVAP := Lib.hid hvap
      have HVKP := Lib.hid hvkp
      obtain ⟨g1, g2, g3, g4, g5⟩ := own_nil_zero OK rfl
      have OKH := Lib.hid OK
      have HK := Lib.hid g5
      have HN := Lib.hid g1
      rw [HNL.out] at d0 hcl
      have hkn2 : k2 < nl := by have := HNL.out; omega
      obtain ⟨mp, hmp⟩ : ∃ m, y.rs[k2].nd = m := ⟨_, rfl⟩
      have HMP := Lib.hid hmp
      rw [hmp] at L hkl
      have hn2p : n2p ≤ 1000 := by have := HN.out; rw [hmp] at this; omega
      have l0 := L.c0
      have l1 := L.c1
      have l2 := L.c2
      have l3 := L.c3
      have l4 := L.c4
      have l5 := L.c5
      have l6 := L.c6
      have l7 := L.c7
      have hqlt1 : q < w1.heap.size := by omega
      clear hq0 hpm hy2 hne hv hvap hvkp OK g1 g2 g3 g4 g5 hmp L
      go_upto_region 2 with fail
      go_cut [5] (fun s5 wx => s5 = .pointer (some ⟨w1.heap.size, 0, none⟩) ∧ Hid (Below w1.heap.size w1 wx) ∧ Hid (NdB wx w1.heap.size mp Ap np cap A2p n2p c2p))
      case first =>
        go_region_held3 (fun w' => w'.cell? ⟨q, 0, none⟩ = some (.slice (some ⟨b, o, none⟩) nl cl) ∧ w'.cell? ⟨b, o + k2 * 8, none⟩ = some (.int .i64 mp.id) ∧ w'.cell? ⟨b, o + k2 * 8 + 1, none⟩ = some (.int .i64 mp.par) ∧ w'.cell? ⟨b, o + k2 * 8 + 2, none⟩ = some (.string mp.tag) ∧ w'.cell? ⟨b, o + k2 * 8 + 3, none⟩ = some (.string mp.txt) ∧ w'.cell? ⟨b, o + k2 * 8 + 4, none⟩ = some (.string mp.key) ∧ w'.cell? ⟨b, o + k2 * 8 + 5, none⟩ = some (.slice Ap np cap) ∧ w'.cell? ⟨b, o + k2 * 8 + 6, none⟩ = some (.slice A2p n2p c2p) ∧ w'.cell? ⟨b, o + k2 * 8 + 7, none⟩ = some (.int .i64 mp.note) ∧ w'.cell? ⟨w.heap.size, 1, none⟩ = some (.int .i64 m.par)) (go_keep) ((first
    | (go_at_call 8; refine (at_yes m.par _ HA.out hl hk2 HY2.out (by exact H1.out.drewN _)).mono ?_; rintro e w3 ⟨rfl, rfl⟩)
    | (go_at_call 8; refine (at_yes m.par _ HA.out hl hk2 HY2.out (by exact (H1.out.alloc _).drewN _)).mono ?_; rintro e w3 ⟨rfl, rfl⟩)
    | fail))
        all_goals
          go_wp2_with fail
          go_meet
          exact ⟨rfl, Lib.hid (((Below.refl _ _).alloc (Nat.le_refl _) _).drew), Lib.hid (heap_drew (NdB.new w1 mp Ap np cap A2p n2p c2p))⟩
      case rest =>
        obtain ⟨rfl, B2, N2⟩ := hcut
        obtain ⟨w2, rfl⟩ : ∃ w2, w2 = wc := ⟨_, rfl⟩
        have hz2 : w1.heap.size < w2.heap.size := N2.out.lt
        clear d0 l0 l1 l2 l3 l4 l5 l6 l7 hcl hb e1
        go_wp2_with fail
        go_loopw [6, 7] (fun s6 s7 wr => ∃ j : Nat, j ≤ n2p ∧ s7 = .int .i64 j ∧ Hid (kI.Own wr w2.heap.size s6 (less i (y.rs[k2].nd.kids.take j))) ∧ Hid (Below w2.heap.size w2 wr)) (fun _ s7 _ => n2p - (intOf s7).toNat)
        case atStart => exact ⟨0, by omega, rfl, Lib.hid (by simpa [less] using Kind.Own.nil kI w2 w2.heap.size), Lib.hid (Below.refl _ _)⟩
        case round =>
          obtain ⟨j, hj, rfl, HO, HW⟩ := hrel
          obtain ⟨A6, n6, c6, rfl, h6, _⟩ := HO.out.slice
          have hz3 := HW.out.size
          have HBW : Hid (Below w.heap.size w wr) := Lib.hid ((B1.out.trans (B2.out.mono (by omega))).trans (HW.out.mono (by omega)))
          have N3 : Hid (NdB wr w1.heap.size mp Ap np cap A2p n2p c2p) := Lib.hid (N2.out.below HW.out hz2)
          have e6 := N3.out.c6
          by_cases hjn : j < n2p
          · have hjl : j < y.rs[k2].nd.kids.length := by have := HN.out; omega
            obtain ⟨gb, go, rfl, _, hc⟩ := cell_int (HK.out.on HBW.out) hjl
            have HT1 := Lib.hid (less_take (i := i) hjl)
            have HL : Hid ((less i (y.rs[k2].nd.kids.take j)).length ≤ 1000) := Lib.hid (Nat.le_trans (List.length_filter_le _ _) (by rw [List.length_take]; omega))
            clear h6
            by_cases he : y.rs[k2].nd.kids[j] = i
            · have hq : (y.rs[k2].nd.kids[j] != i) = false := by simpa using he
              have HT2 : Hid (less i (y.rs[k2].nd.kids.take (j + 1)) = less i (y.rs[k2].nd.kids.take j)) := Lib.hid (by rw [HT1.out, if_pos he])
              clear he
              go_wp2_with fail
              go_roundw
              case rel => exact ⟨j + 1, by omega, by go_num, Lib.hid (by rw [HT2.out]; exact HO.out), HW⟩
              case measure => simp [intOf]; omega
            · have hq : (y.rs[k2].nd.kids[j] != i) = true := by simpa using he
              have HT2 : Hid (less i (y.rs[k2].nd.kids.take (j + 1)) = less i (y.rs[k2].nd.kids.take j) ++ [y.rs[k2].nd.kids[j]]) := Lib.hid (by rw [HT1.out, if_neg he])
              clear he
              generalize y.rs[k2].nd.kids[j] = kd at hc hq HT2
              go_wp2_with (at_builtin; refine kI.wp_app rfl _ _ rfl (v := .slice A6 n6 c6) (l := less i (y.rs[k2].nd.kids.take j)) (m := [kd]) (B := w2.heap.size) rfl (HO.out.alloc _) rfl rfl (fun e => by cases e) (Kind.Holds.lit (heap_alloc_new _ _) rfl) (by have := HL.out; simp; omega) (by simp; omega) ?_; intro v' w3 hown hgrow hat; obtain ⟨A7, n7, c7, rfl, _, _, _, _, _⟩ := hown.slice)
              have HO3 : Hid (kI.Own w3 w2.heap.size (.slice A7 n7 c7) (less i (y.rs[k2].nd.kids.take (j + 1)))) := Lib.hid (by rw [HT2.out]; exact hown)
              have HW3 : Hid (Below w2.heap.size w2 w3) := Lib.hid ((HW.out.alloc hz3 _).grown hgrow (by simp; omega) (fun k hk => (HO.out.lt hk).1))
              clear hown hgrow hat
              go_wp2_with fail
              go_roundw
              case rel => exact ⟨j + 1, by omega, by go_num, HO3, HW3⟩
              case measure => simp [intOf]; omega
          · obtain rfl : j = n2p := by omega
            have HO2 : Hid (kI.Own wr w2.heap.size (.slice A6 n6 c6) (less i y.rs[k2].nd.kids)) := Lib.hid (by have := HO.out; rwa [← HN.out, List.take_length] at this)
            have f6 := N3.out.frozen 6
            clear h6 hjn
            have N4 : Hid (NdB (wr.setCell ⟨w1.heap.size, 6, none⟩ (.slice A6 n6 c6)) w1.heap.size (withKids (less i) mp) Ap np cap A6 n6 c6) := Lib.hid (heap_set N3.out 6 (.slice A6 n6 c6))
            have B4 : Hid (Below w.heap.size w (wr.setCell ⟨w1.heap.size, 6, none⟩ (.slice A6 n6 c6))) := Lib.hid (Below.setCell HBW.out (by show w.heap.size ≤ w1.heap.size; omega) _)
            have O4 : Hid (kI.Own (wr.setCell ⟨w1.heap.size, 6, none⟩ (.slice A6 n6 c6)) w2.heap.size (.slice A6 n6 c6) (less i y.rs[k2].nd.kids)) := Lib.hid (HO2.out.keep fun g hg => Below.heap_setCell _ _ _ _ (by have := (HO2.out.lt hg).1; simp only [ne_eq]; omega))
            have M4 : Hid (NdB (wr.setCell ⟨w1.heap.size, 6, none⟩ (.slice A6 n6 c6)) w.heap.size m A n ca A2 n2 c2) := Lib.hid ((Below.heap_setCell wr ⟨w1.heap.size, 6, none⟩ (.slice A6 n6 c6) w.heap.size (by simp only; omega)).trans ((N1.out.below B2.out hz1).below HW.out (by omega)))
            have Z4 : (wr.setCell ⟨w1.heap.size, 6, none⟩ (.slice A6 n6 c6)).heap.size = wr.heap.size := by simp [World.setCell]
            go_upto_region 10 with fail
            generalize wr.setCell ⟨w1.heap.size, 6, none⟩ (.slice A6 n6 c6) = W4 at N4 B4 O4 M4 Z4 ⊢
            clear N3 e6 f6 HO HBW
            have a0 := N4.out.c0
            have a1 := N4.out.c1
            have a2 := N4.out.c2
            have a3 := N4.out.c3
            have a4 := N4.out.c4
            have a5 := N4.out.c5
            have a6 := N4.out.c6
            have a7 := N4.out.c7
            go_wp2_with fail
            refine (set_any k2 (withKids (less i) mp) Ap np cap A6 n6 c6 W4 HA.out hl hk2 (by rw [HMP.out]; rfl) ⟨by
              have := ((H.out.nodes _ (List.getElem_mem hk2)).att).below B4.out
              rw [HVAP.out, HMP.out] at this
              exact this, by have := O4.out.base_le (B' := B) (by have := H.out.base; omega); rw [HMP.out] at this; exact this⟩ (H.out.below B4.out)).mono ?_
            rintro e w5 ⟨rfl, v5, r5⟩
            have R5 := Lib.hid r5
            have D5 := Lib.hid (r5.did B4.out (fun g hg => .inr (by have := (O4.out.lt hg).1; omega)))
            have NF := Lib.hid (show ¬ rfoot q { y with v := v5, rs := y.rs.set k2 ⟨⟨Ap, np, cap⟩, ⟨A6, n6, c6⟩, withKids (less i) mp⟩ } w.heap.size from fun hf => by
              rcases R5.out.ft _ hf with e | e | e
              · have := H.out.lt e; omega
              · have := (O4.out.lt e).1; omega
              · omega)
            have N5 : Hid (NdB w5 w.heap.size m A n ca A2 n2 c2) := Lib.hid ((r5.but.block _ M4.out.lt (fun e => by omega)).trans M4.out)
            have e1 := N5.out.c1
            have f1 := N5.out.frozen 1
            have D6 := Lib.hid (D5.out.set_out (Nat.le_refl _) NF.out N5.out.noA 1 (.int .i64 0))
            have N6 : Hid (NdB (w5.setCell ⟨w.heap.size, 1, none⟩ (.int .i64 0)) w.heap.size (withPar 0 m) A n ca A2 n2 c2) := Lib.hid (heap_set N5.out 1 (.int .i64 0))
            clear r5 a0 a1 a2 a3 a4 a5 a6 a7
            go_upto_region 12 with fail
            generalize w5.setCell ⟨w.heap.size, 1, none⟩ (.int .i64 0) = W6 at N6 D6 ⊢
            clear e1 f1 N5 D5 R5 NF
            have a0 := N6.out.c0
            have a1 := N6.out.c1
            have a2 := N6.out.c2
            have a3 := N6.out.c3
            have a4 := N6.out.c4
            have a5 := N6.out.c5
            have a6 := N6.out.c6
            have a7 := N6.out.c7
            have hk6 : k < (y.rs.set k2 ⟨⟨Ap, np, cap⟩, ⟨A6, n6, c6⟩, withKids (less i) mp⟩).length := by simpa using hk
            have hg6 : (y.rs.set k2 ⟨⟨Ap, np, cap⟩, ⟨A6, n6, c6⟩, withKids (less i) mp⟩)[k] = y.rs[k] := List.getElem_set_ne HNE.out _
            have TS := two_set HA.out (k := k) (k2 := k2) (by rw [rl_len]; exact hk) (by rw [rl_len]; exact hk2) HNE.out (withKids (less i)) (withPar 0) (fun _ => rfl)
            simp only [Rx.l, List.getElem_map, HMP.out, HM.out, show mp.id = m.par by rw [← HMP.out]; exact HY2.out, show m.id = i by rw [← HM.out]; exact HY.out] at TS
            go_wp2_with fail
            refine (set_any (y := { y with v := v5, rs := y.rs.set k2 ⟨⟨Ap, np, cap⟩, ⟨A6, n6, c6⟩, withKids (less i) mp⟩ }) k (withPar 0 m) A n ca A2 n2 c2 W6 (by show Asc ((y.rs.set k2 _).map (·.nd)); rw [List.map_set]; exact TS.2) (by simpa using hl) hk6 (by show ((y.rs.set k2 _)[k]).nd.id = _; rw [hg6, HM.out]; rfl) ⟨by
              have := (D6.out.rf.nodes _ (List.getElem_mem hk6)).att
              rw [hg6, HVA.out, HM.out] at this
              exact this, by
              have := (D6.out.rf.nodes _ (List.getElem_mem hk6)).kids
              rw [hg6, HVK.out, HM.out] at this
              exact this⟩ D6.out.rf).mono ?_
            rintro e w7 ⟨rfl, v7, r7⟩
            have R7 := Lib.hid (D6.out.trans (r7.did (Below.refl _ _) (fun g hg => .inl (.inr (.inr ⟨_, List.getElem_mem hk6, by rw [hg6, HVK.out]; exact hg⟩)))))
            have HLL := Lib.hid TS.1
            clear r7 TS
            go_wp2_with fail
            go_end0
            refine ⟨rfl, v7, _, R7.out, ?_⟩
            show (((y.rs.set k2 _).set k _).map (·.nd)) = _
            rw [List.map_set, List.map_set, HE.out]
            exact HLL.out
end Go.Proofs.YtihjdmdafiifhaaGreat.P5

/- The reference: two nodes that are the same, are told so. -/
set_option linter.unusedVariables false
set_option linter.unusedSimpArgs false
namespace Go.Proofs.YtihjdmdafiifhaaGreat.P5
open Go.RowKit Kd P4

theorem sameA_refl : ∀ l : List P3.At, P3.sameA l l = true
  | [] => rfl
  | a :: l => by rw [P3.sameA, P3.atB_refl, sameA_refl l]; rfl
end Go.Proofs.YtihjdmdafiifhaaGreat.P5

/- Same documents are told so. -/
set_option linter.unusedVariables false
set_option linter.unusedSimpArgs false
namespace Go.Proofs.YtihjdmdafiifhaaGreat.P5
open Go.RowKit Kd P4
variable {B p q : Nat} {x : Dx} {y : Rx}
theorem drewN_drewN (w : World) (k j : Nat) : (w.drewN k).drewN j = w.drewN (k + j) := by simp [World.drewN, Nat.add_assoc]
end Go.Proofs.YtihjdmdafiifhaaGreat.P5

/- The reference: focus, note, a new document. -/
set_option linter.unusedVariables false
set_option linter.unusedSimpArgs false
namespace Go.Proofs.YtihjdmdafiifhaaGreat.P5
open Go.RowKit Kd P4
variable {B q : Nat} {y : Rx}

def RMade (w : World) (B q : Nat) (y : Rx) (c : Int) (d : D) (e : Ending) (w' : World) : Prop := e = .returned (.int .i64 c) ∧ ∃ y', Rdid w B q y y' w' ∧ y'.d = d
theorem RMade.same {w w' : World} {c : Int} {d : D} (h : Rf w B q y) (hb : Below w.heap.size w w') (hd : y.d = d) : RMade w B q y c d (.returned (.int .i64 c)) w' := ⟨rfl, y, Rdid.below_ h hb, hd⟩
theorem Rf.atq {w : World} (h : Rf w B q y) (j : Nat) (u : Value) : kN.Own (w.setCell ⟨q, j, none⟩ u) B y.v (y.rs.map Rn.rn) ∧ ∀ r ∈ y.rs, RNok (w.setCell ⟨q, j, none⟩ u) B r := by
  have hbut : But (fun k => k = q) w (w.setCell ⟨q, j, none⟩ u) := But.setCell (S := fun k => k = q) (p := ⟨q, j, none⟩) (But.refl _ _) (fun _ => rfl) u
  refine ⟨h.own.keep fun g hg => hbut.block g (h.own.lt hg).2 ?_, fun r hr => ⟨(h.nodes r hr).att.but hbut (q_noA h), (h.nodes r hr).kids.keep fun g hg => hbut.block g ((h.nodes r hr).kids.lt hg).2 ?_⟩⟩
  · rintro rfl
    obtain ⟨d, hd⟩ := h.own.ty hg
    exact heap_ne hd h.blk (by decide) rfl
  · rintro rfl
    obtain ⟨d, hd⟩ := (h.nodes r hr).kids.ty hg
    exact heap_ne hd h.blk (by decide) rfl
theorem Rf.focus {w : World} (h : Rf w B q y) (i : Int) : Rdid w B q y { y with foc := i } (w.setCell ⟨q, 3, none⟩ (.int .i64 i)) := by
  obtain ⟨h1, h2⟩ := h.atq 3 (.int .i64 i)
  exact ⟨⟨heap_set h.blk 3 _, h.base, h1, h2⟩, But.setCell (S := fun k => k = q) (p := ⟨q, 3, none⟩) (But.refl _ _) (fun _ => rfl) _, fun k hk => .inl hk⟩
theorem Rf.next {w : World} (h : Rf w B q y) (i : Int) : Rdid w B q y { y with n := i } (w.setCell ⟨q, 1, none⟩ (.int .i64 (i + 1))) := by
  obtain ⟨h1, h2⟩ := h.atq 1 (.int .i64 (i + 1))
  exact ⟨⟨heap_set h.blk 1 _, h.base, h1, h2⟩, But.setCell (S := fun k => k = q) (p := ⟨q, 1, none⟩) (But.refl _ _) (fun _ => rfl) _, fun k hk => .inl hk⟩
theorem set_list (ha : Asc y.l) {k : Nat} {i : Int} (hk : k < y.rs.length) (hy : y.rs[k].nd.id = i) (f : Nd → Nd) {r : Rn} (hr : r.nd = f y.rs[k].nd) : (y.rs.set k r).map (·.nd) = upd y.l i f := by
  rw [List.map_set, hr]
  have := ha.set_upd (k := k) (by rw [rl_len]; exact hk) f
  simp only [Rx.l, List.getElem_map] at this
  rw [this, hy]
  rfl

theorem Rset.made {w0 w w' : World} {r : Rn} {v : Value} {k : Nat} {i : Int} (h : Rset w B q y { y with v := v, rs := y.rs.set k r } r w') (hb : Below w0.heap.size w0 w) (hg : ∀ g, r.vk.val.ownBlock = some g → rfoot q y g) (ha : Asc y.l) (hk : k < y.rs.length) (hy : y.rs[k].nd.id = i) (f : Nd → Nd) (hr : r.nd = f y.rs[k].nd) :
    ∃ y', Rdid w0 B q y y' w' ∧ y'.d = { y.d with l := upd y.l i f } := by
  refine ⟨_, h.did hb (fun g e => .inl (hg g e)), ?_⟩
  show D.mk ((y.rs.set k r).map (·.nd)) _ _ _ = D.mk _ _ _ _
  rw [set_list ha hk hy f hr]
  rfl
theorem RNok.below {w w' : World} {r : Rn} (h : RNok w B r) (hb : Below w.heap.size w w') : RNok w' B r := ⟨h.att.below hb, h.kids.keep fun g hg => hb.block g (h.kids.lt hg).2⟩

/-! ### SetFocus -/
/-! ### Note -/
/-! ### New -/
def RNew (w : World) (R : Nat) (e : Ending) (w' : World) : Prop := ∃ (q : Nat) (y : Rx), e = .returned (.pointer (some ⟨q, 0, none⟩)) ∧ Rf w' w.heap.size q y ∧ y.d = newD R ∧ Below w.heap.size w w'
def nd1 : Nd := newN 1 ⟨#[114, 111, 111, 116]⟩ ⟨#[]⟩ ⟨#[]⟩
set_option maxHeartbeats 1000000 in
theorem rnew_any (R : Nat) (w : World) : Calls Tryz.prog 18 #[.int .i64 R] w (RNew w R) := by
  go_enter Tryz.func18, Tryz.ntmps18
  go_wp2_with fail
  go_ret
  have o1 : kN.Own (w.alloc (.cells #[.int .i64 1, .int .i64 0, .string ⟨#[114, 111, 111, 116]⟩, .string ⟨#[]⟩, .string ⟨#[]⟩, .slice none 0 0, .slice none 0 0, .int .i64 0] 34)) w.heap.size (.slice (some ⟨w.heap.size, 0, none⟩) 1 1) ([(⟨⟨none, 0, 0⟩, ⟨none, 0, 0⟩, nd1⟩ : Rn)].map Rn.rn) :=
    Kind.own_mk (K := kN) (cur := #[.int .i64 1, .int .i64 0, .string ⟨#[114, 111, 111, 116]⟩, .string ⟨#[]⟩, .string ⟨#[]⟩, .slice none 0 0, .slice none 0 0, .int .i64 0]) rfl (Nat.le_refl _) (heap_alloc_new w _) (Nat.le_refl _) (by unfold maxLen; omega) rfl rfl
  refine ⟨w.heap.size + 1, ⟨.slice (some ⟨w.heap.size, 0, none⟩) 1 1, 1, R, 0, [⟨⟨none, 0, 0⟩, ⟨none, 0, 0⟩, nd1⟩]⟩, rfl, ⟨heap_top (by simp), by omega, o1.alloc _, fun r hr => ?_⟩, rfl, ((Below.refl _ _).alloc (Nat.le_refl _) _).alloc (by simp) _⟩
  rw [List.mem_singleton] at hr
  subst hr
  exact ⟨AOk.nil_ _, Kind.Own.nil _ _ _⟩
end Go.Proofs.YtihjdmdafiifhaaGreat.P5

/- The reference: a change as it lies in memory. -/
set_option linter.unusedVariables false
set_option linter.unusedSimpArgs false
namespace Go.Proofs.YtihjdmdafiifhaaGreat.P5
open Go.RowKit Kd P4
/-- the change r lies at block g -/
def RcB (w : World) (g : Nat) (r : Rc) (A : Option Addr) (n c : Nat) : Prop := w.heap[g]? = some (.cells #[.int .i64 r.op, .int .i64 r.id, .int .i64 r.par, .int .i64 r.bef, .string r.tag, .string r.txt, .string r.key, .slice A n c] 54 (0, 0))
section
variable {w w' : World} {g : Nat} {r : Rc} {A : Option Addr} {n c : Nat}
theorem RcB.new (w : World) (r : Rc) (A : Option Addr) (n c : Nat) : RcB (w.alloc (.cells #[.int .i64 r.op, .int .i64 r.id, .int .i64 r.par, .int .i64 r.bef, .string r.tag, .string r.txt, .string r.key, .slice A n c] 54)) w.heap.size r A n c := heap_alloc_new w _
theorem RcB.below {C : Nat} (h : RcB w g r A n c) (hb : Below C w w') (hC : g < C) : RcB w' g r A n c := (hb.block g hC).trans h
theorem RcB.lt (h : RcB w g r A n c) : g < w.heap.size := heap_lt h
theorem RcB.c0 (h : RcB w g r A n c) : w.cell? ⟨g, 0, none⟩ = some (.int .i64 r.op) := cell_of_row w g 0 _ _ (0, 0) h
theorem RcB.c1 (h : RcB w g r A n c) : w.cell? ⟨g, 1, none⟩ = some (.int .i64 r.id) := cell_of_row w g 1 _ _ (0, 0) h
theorem RcB.c2 (h : RcB w g r A n c) : w.cell? ⟨g, 2, none⟩ = some (.int .i64 r.par) := cell_of_row w g 2 _ _ (0, 0) h
theorem RcB.c3 (h : RcB w g r A n c) : w.cell? ⟨g, 3, none⟩ = some (.int .i64 r.bef) := cell_of_row w g 3 _ _ (0, 0) h
theorem RcB.c4 (h : RcB w g r A n c) : w.cell? ⟨g, 4, none⟩ = some (.string r.tag) := cell_of_row w g 4 _ _ (0, 0) h
theorem RcB.c5 (h : RcB w g r A n c) : w.cell? ⟨g, 5, none⟩ = some (.string r.txt) := cell_of_row w g 5 _ _ (0, 0) h
theorem RcB.c6 (h : RcB w g r A n c) : w.cell? ⟨g, 6, none⟩ = some (.string r.key) := cell_of_row w g 6 _ _ (0, 0) h
theorem RcB.c7 (h : RcB w g r A n c) : w.cell? ⟨g, 7, none⟩ = some (.slice A n c) := cell_of_row w g 7 _ _ (0, 0) h
end
end Go.Proofs.YtihjdmdafiifhaaGreat.P5
