/- A node that is let go, and all below it. -/
import Derived.Test.YtihjdmdafiifhaaGreatM16
set_option linter.unusedVariables false
set_option linter.unusedSimpArgs false
set_option linter.unusedVariables false
set_option linter.unusedSimpArgs false
namespace Go.Proofs.YtihjdmdafiifhaaGreat.P5
open Go.RowKit Kd P4
variable {B p : Nat} {x : Dx}

def outR (s : List Int) (rs : List Rw) : List Rw := rs.filter fun r => !decide (r.nd.id ∈ s)
theorem outR_nd (s : List Int) (rs : List Rw) : (outR s rs).map (·.nd) = outA s (rs.map (·.nd)) := by
  unfold outR outA
  rw [List.filter_map]
  rfl
theorem outR_outR (s t : List Int) (rs : List Rw) : outR t (outR s rs) = outR (s ++ t) rs := by
  unfold outR
  rw [List.filter_filter]
  apply List.filter_congr
  intro r _
  by_cases h1 : r.nd.id ∈ s <;> by_cases h2 : r.nd.id ∈ t <;> simp [h1, h2]
theorem outR_nil (rs : List Rw) : outR [] rs = rs := by
  unfold outR
  rw [List.filter_eq_self]
  intro r _; simp
theorem outR_congr {s t : List Int} (h : ∀ c, c ∈ s ↔ c ∈ t) (rs : List Rw) : outR s rs = outR t rs := by
  unfold outR
  apply List.filter_congr
  intro r _
  simp [h]
theorem mem_outR {s : List Int} {rs : List Rw} {r : Rw} : r ∈ outR s rs ↔ r ∈ rs ∧ r.nd.id ∉ s := by unfold outR; simp
def fo (f : Int) (s : List Int) : Int := if f ∈ s then 0 else f
theorem fo_fo (f : Int) {s t : List Int} (h : (0 : Int) ∉ t) : fo (fo f s) t = fo f (s ++ t) := by
  unfold fo
  by_cases h1 : f ∈ s
  · rw [if_pos h1, if_neg h, if_pos (by simp [h1])]
  · rw [if_neg h1]
    by_cases h2 : f ∈ t
    · rw [if_pos h2, if_pos (by simp [h2])]
    · rw [if_neg h2, if_neg (by simp [h1, h2])]
theorem fo_nil (f : Int) : fo f [] = f := by simp [fo]
theorem fo_congr {s t : List Int} (h : ∀ c, c ∈ s ↔ c ∈ t) (f : Int) : fo f s = fo f t := by
  unfold fo; by_cases h1 : f ∈ s
  · rw [if_pos h1, if_pos ((h f).1 h1)]
  · rw [if_neg h1, if_neg (fun e => h1 ((h f).2 e))]
theorem outA_find (s : List Int) (l : List Nd) (y : Int) (h : y ∉ s) : hasL (outA s l) y = hasL l y ∧ kidsOf (outA s l) y = kidsOf l y := by
  unfold hasL kidsOf
  rw [out_find, if_neg h]
  exact ⟨rfl, rfl⟩

theorem erase_map {α β : Type} (f : α → β) : ∀ (l : List α) (k : Nat), (l.map f).eraseIdx k = (l.eraseIdx k).map f
  | [], _ => rfl
  | _ :: _, 0 => rfl
  | a :: l, k + 1 => by show f a :: (l.map f).eraseIdx k = f a :: (l.eraseIdx k).map f; rw [erase_map f l k]

/-! ### The last step: the node itself -/
theorem erase_out : ∀ {rs : List Rw} {k : Nat} (hk : k < rs.length), (rs.map (·.nd)).Pairwise (fun a b => a.id < b.id) → rs.eraseIdx k = outR [rs[k].nd.id] rs
  | [], _, hk, _ => absurd hk (by simp)
  | r :: rs, 0, _, h => by
    obtain ⟨h1, _⟩ := List.pairwise_cons.1 h
    show rs = outR [r.nd.id] (r :: rs)
    unfold outR
    rw [List.filter_cons]
    simp only [List.mem_singleton, decide_true, Bool.not_true, Bool.false_eq_true, if_false]
    exact (List.filter_eq_self.2 (fun s hs => by
      have : r.nd.id < s.nd.id := h1 s.nd (List.mem_map.2 ⟨s, hs, rfl⟩)
      have hne : ¬ s.nd.id = r.nd.id := by omega
      simp [hne])).symm
  | r :: rs, k + 1, hk, h => by
    obtain ⟨h1, h2⟩ := List.pairwise_cons.1 h
    have hk' : k < rs.length := by simpa using hk
    have ih := erase_out hk' h2
    have hne : ¬ r.nd.id = rs[k].nd.id := by
      have : r.nd.id < rs[k].nd.id := h1 rs[k].nd (List.mem_map.2 ⟨rs[k], List.getElem_mem hk', rfl⟩)
      omega
    show r :: rs.eraseIdx k = outR [rs[k].nd.id] (r :: rs)
    rw [ih]
    unfold outR
    rw [List.filter_cons]
    simp [hne]
theorem less_ids (i : Int) (rs : List Rw) : less i (idsOf (rs.map (·.nd))) = idsOf ((outR [i] rs).map (·.nd)) := by
  unfold less idsOf outR
  simp only [List.map_map, List.filter_map]
  congr 1
  apply List.filter_congr
  intro r _
  simp [Function.comp]
theorem drop_end {w w2 w3 : World} {y : Dx} {i : Int} (h : Dc w B p y) (hi : hasL y.l i = true) {v' : Value} {A3 : Option Addr} {n3 c3 : Nat}
    (hb2 : But (Arm y.a y.v) w w2) (ar : ArP w2 B y.a y.R y.n v' ((y.rs.map slotOf).eraseIdx (posA (y.rs.map slotOf) i))) (hv : v'.ownBlock = y.v.ownBlock)
    (hb3 : But (fun k => y.vi.ownBlock = some k) w2 w3) (hids : kI.Own w3 B (.slice A3 n3 c3) (less i (idsOf y.l))) (hvi : (Value.slice A3 n3 c3).ownBlock = y.vi.ownBlock) :
    Did w B p y ⟨y.a, v', .slice A3 n3 c3, y.R, y.n, y.foc, outR [i] y.rs⟩ (w3.setCell ⟨p, 1, none⟩ (.slice A3 n3 c3)) := by
  obtain ⟨k, hk, hy, _⟩ := h.place hi
  have hpos : posA (y.rs.map slotOf) i = k := by
    have := posA_at h.ar.asc (k := k) (by simpa using hk)
    simpa [slotOf, hy] using this
  have hpA : ¬ Arm y.a y.v p := h.ar.other h.blk (by decide) (by decide)
  have hviA : ∀ k, y.vi.ownBlock = some k → ¬ Arm y.a y.v k := fun k hk => by
    obtain ⟨d, hd⟩ := h.ids.ty hk
    exact h.ar.other hd (by decide) (by decide)
  have hp2 : w2.heap[p]? = _ := (hb2.block p (heap_lt h.blk) hpA).trans h.blk
  have hpvi : y.vi.ownBlock ≠ some p := fun e => own_not h.ids h.blk (by decide) e.symm
  have hp3 : w3.heap[p]? = _ := (hb3.block p (heap_lt hp2) hpvi).trans hp2
  have hb23 : But (fun k => Arm y.a y.v k ∨ y.vi.ownBlock = some k) w w3 := (hb2.mono fun _ _ h => .inl h).trans hb3 fun _ _ h => .inr h
  have hbf : But (fun k => k = p ∨ Arm y.a y.v k ∨ y.vi.ownBlock = some k) w (w3.setCell ⟨p, 1, none⟩ (.slice A3 n3 c3)) := But.setCell (hb23.mono fun _ _ h => .inr h) (fun _ => .inl rfl) _
  have he : y.rs.eraseIdx k = outR [i] y.rs := by
    have := erase_out hk h.asc
    rw [hy] at this
    exact this
  refine h.re hbf (heap_set hp3 1 _) ?_ ?_ (fun g hg => .inl (by rw [← hv]; exact hg)) (fun g hg => .inl (by rw [← hvi]; exact hg)) (fun r hr => .inl (mem_outR.1 hr).1) (h.pw.sublist List.filter_sublist)
  · rw [hpos, erase_map, he] at ar
    have hb3' : But (fun k => k = p ∨ y.vi.ownBlock = some k) w2 (w3.setCell ⟨p, 1, none⟩ (.slice A3 n3 c3)) := But.setCell (hb3.mono fun _ _ h => .inr h) (fun _ => .inl rfl) _
    refine ar.but hb3' ?_ (fun g hg => ?_)
    · rintro (e | e)
      · exact heap_ne h.ar.blk h.blk (by decide) e
      · exact hviA _ e (.inl rfl)
    · obtain ⟨d, hd⟩ := ar.own.ty hg
      rintro (rfl | e)
      · exact heap_ne hd hp2 (by decide) rfl
      · obtain ⟨d', hd'⟩ := h.ids.ty e
        exact heap_ne hd ((hb2.block g (heap_lt hd') (hviA g e)).trans hd') (by decide) rfl
  · rw [← less_ids]
    refine hids.keep fun g hg => Below.heap_setCell _ _ _ _ ?_
    rintro rfl
    obtain ⟨d, hd⟩ := hids.ty hg
    exact heap_ne hd hp3 (by decide) rfl

/-! ### drop -/
structure SubOk (l : List Nd) (K : Int → List Int) (f : Nat) (i : Int) : Prop where
  hb : Hb K f i
  nd : (sub K f i).Nodup
  at_ : ∀ c ∈ sub K f i, hasL l c = true ∧ kidsOf l c = K c
def upto (K : Int → List Int) (f : Nat) (i : Int) (j : Nat) : List Int := ((K i).take j).flatMap (sub K f)
theorem upto_succ {K : Int → List Int} {f : Nat} {i : Int} {j : Nat} (hj : j < (K i).length) : upto K f i (j + 1) = upto K f i j ++ sub K f (K i)[j] := by
  unfold upto
  rw [List.take_succ_eq_append_getElem hj, List.flatMap_append]
  simp
theorem upto_all (K : Int → List Int) (f : Nat) (i : Int) : upto K f i (K i).length = (K i).flatMap (sub K f) := by unfold upto; rw [List.take_length]
theorem SubOk.kid {l : List Nd} {K : Int → List Int} {f : Nat} {i : Int} (h : SubOk l K (f + 1) i) {j : Nat} (hj : j < (K i).length) : SubOk (outA (upto K f i j) l) K f (K i)[j] ∧ (∀ c ∈ sub K f (K i)[j], c ∉ upto K f i j) := by
  have hn := h.nd
  rw [sub, List.nodup_cons] at hn
  have hsplit : (K i).flatMap (sub K f) = upto K f i j ++ (sub K f (K i)[j] ++ ((K i).drop (j + 1)).flatMap (sub K f)) := by
    unfold upto
    have e : K i = (K i).take j ++ ((K i)[j] :: (K i).drop (j + 1)) := by rw [← List.drop_eq_getElem_cons hj, List.take_append_drop]
    have := congrArg (List.flatMap (sub K f)) e
    rw [List.flatMap_append, List.flatMap_cons] at this
    exact this
  rw [hsplit, List.nodup_append, List.nodup_append] at hn
  have hdis : ∀ c ∈ sub K f (K i)[j], c ∉ upto K f i j := fun c hc hu => hn.2.2.2 c hu c (by simp [hc]) rfl
  refine ⟨⟨h.hb _ (List.getElem_mem hj), hn.2.2.1.1, fun c hc => ?_⟩, hdis⟩
  have hin : c ∈ sub K (f + 1) i := by
    rw [sub, List.mem_cons, List.mem_flatMap]
    exact .inr ⟨_, List.getElem_mem hj, hc⟩
  obtain ⟨h1, h2⟩ := outA_find (upto K f i j) l c (hdis c hc)
  rw [h1, h2]
  exact h.at_ c hin
theorem SubOk.self_not {l : List Nd} {K : Int → List Int} {f : Nat} {i : Int} (h : SubOk l K (f + 1) i) (j : Nat) : i ∉ upto K f i j := by
  intro hm
  have hn := h.nd
  rw [sub, List.nodup_cons] at hn
  unfold upto at hm
  obtain ⟨c, hc, hm⟩ := List.mem_flatMap.1 hm
  exact hn.1 (List.mem_flatMap.2 ⟨c, List.mem_of_mem_take hc, hm⟩)
def Dropped (w : World) (B p : Nat) (x : Dx) (s : List Int) (e : Ending) (w' : World) : Prop :=
  e = .returned (.tuple #[]) ∧ ∃ v vi, Did w B p x ⟨x.a, v, vi, x.R, x.n, fo x.foc s, outR s x.rs⟩ w'
def SoFar (w : World) (B p : Nat) (x : Dx) (s : List Int) (w' : World) : Prop := ∃ v vi, Did w B p x ⟨x.a, v, vi, x.R, x.n, fo x.foc s, outR s x.rs⟩ w'
theorem SoFar.zero {w w' : World} (h : Dc w B p x) (hb : Below w.heap.size w w') : SoFar w B p x [] w' := ⟨x.v, x.vi, by
  rw [fo_nil, outR_nil]; exact Did.below_ h hb⟩
theorem SoFar.next {w w' w2 : World} {s t : List Int} {v vi : Value} (h : Did w B p x ⟨x.a, v, vi, x.R, x.n, fo x.foc s, outR s x.rs⟩ w') (ht : (0 : Int) ∉ t)
    (k : SoFar w' B p ⟨x.a, v, vi, x.R, x.n, fo x.foc s, outR s x.rs⟩ t w2) : SoFar w B p x (s ++ t) w2 := by
  obtain ⟨v2, vi2, hk⟩ := k
  refine ⟨v2, vi2, ?_⟩
  have := h.trans hk
  simp only [fo_fo _ ht, outR_outR] at this
  exact this
set_option maxHeartbeats 1000000 in
theorem drop_any (K : Int → List Int) (hz : ∀ f c, (0 : Int) ∉ sub K f c ∨ c = 0) (hk0 : ∀ x, (0 : Int) ∉ K x) (hkl : ∀ x, (K x).length ≤ 1000) : ∀ (f : Nat) (i : Int) {B p : Nat} {x : Dx} (w : World) (_ : i ≠ 0) (_ : x.rs.length ≤ 1000) (_ : SubOk x.l K f i) (_ : Dc w B p x), Calls Tryz.prog 54 #[.pointer (some ⟨p, 0, none⟩), .int .i64 i] w (Dropped w B p x (sub K f i)) := by
  intro f
  induction f with
  | zero => intro i B p x w _ _ hs _; exact hs.hb.elim
  | succ f ih =>
    intro i B p x w hi0 hl hs h
    have IH := Lib.hid ih
    have HS := Lib.hid hs
    have H := Lib.hid h
    have HZ := Lib.hid hz
    have HK0 := Lib.hid hk0
    obtain ⟨hh, hkk⟩ := hs.at_ i (by simp [sub])
    obtain ⟨k, hk, hy, _⟩ := h.place hh
    have hkd := (tag_at h hk hy).2.2
    rw [hkk] at hkd
    obtain ⟨b, hb⟩ : ∃ b, x.rs[k].b = b := ⟨_, rfl⟩
    obtain ⟨⟨A, n, c⟩, hv⟩ : ∃ v, x.rs[k].vk = v := ⟨_, rfl⟩
    have V : Hid (x.rs[k].vk.val = .slice A n c) := Lib.hid (by rw [hv]; rfl)
    have HY := Lib.hid hy
    have HB := Lib.hid hb
    have HKD : Hid (K i = x.rs[k].nd.kids) := Lib.hid hkd
    obtain ⟨g1, g2, g3, g4, g5⟩ := own_nil_zero ((h.nd hk).kids) V.out
    have HN : Hid ((K i).length = n) := Lib.hid (by rw [hkd]; exact g1)
    have hn1000 : n ≤ 1000 := by rw [← HN.out]; exact hkl i
    clear h hs hz hk0 ih hh hkk hy hkd hb hv g1 g2 g3 g4 g5
    go_enter Tryz.func54, Tryz.ntmps54
    go_wp2_with fail
    refine (node_at i w hk HY.out HB.out H.out).mono ?_
    rintro e w1 ⟨rfl, b1⟩
    have B1 := Lib.hid b1
    have d6 : w1.cell? ⟨b, 6, none⟩ = some (.slice A n c) := by have := ((H.out.below b1).nd hk).c6; rwa [HB.out, V.out] at this
    clear b1
    go_wp2_with fail
    go_loopw [13] (fun i13 wr => ∃ j : Nat, j ≤ n ∧ i13 = .int .i64 j ∧ Hid (SoFar w B p x (upto K f i j) wr)) (fun i13 _ => n - (intOf i13).toNat)
    case atStart => exact ⟨0, by omega, rfl, Lib.hid (by show SoFar w B p x (upto K f i 0) w1; exact SoFar.zero H.out B1.out)⟩
    case round =>
      obtain ⟨j, hj, rfl, HF⟩ := hrel
      obtain ⟨v, vi, hd⟩ := HF.out
      have DD := Lib.hid hd
      have hmem : x.rs[k] ∈ outR (upto K f i j) x.rs := mem_outR.2 ⟨List.getElem_mem hk, by rw [HY.out]; exact HS.out.self_not j⟩
      clear hd
      by_cases hlt : j < n
      · have hjl : j < (K i).length := by have := HN.out; omega
        obtain ⟨hs1, hs2⟩ := HS.out.kid hjl
        have HS1 := Lib.hid hs1
        have hown := (DD.out.dc.nodes _ hmem).kids
        rw [V.out, ← HKD.out] at hown
        obtain ⟨b', o, rfl, hb', hc⟩ := cell_int (own_nil_zero hown rfl).2.2.2.2 hjl
        have hlen : (outR (upto K f i j) x.rs).length ≤ 1000 := by
          have : (outR (upto K f i j) x.rs).length ≤ x.rs.length := List.length_filter_le _ _
          omega
        have hc0 : (K i)[j] ≠ 0 := fun e => HK0.out i (e ▸ List.getElem_mem hjl)
        have HC0 := Lib.hid hc0
        clear hs1 hs2 hown hmem hb' hc0
        go_wp2_with fail
        refine (IH.out (K i)[j] (x := ⟨x.a, v, vi, x.R, x.n, fo x.foc (upto K f i j), outR (upto K f i j) x.rs⟩) wr HC0.out hlen (by show SubOk ((outR (upto K f i j) x.rs).map (·.nd)) K f _; rw [outR_nd]; exact HS1.out) DD.out.dc).mono ?_
        rintro e w2 ⟨rfl, v2, vi2, d2⟩
        have NX : Hid (SoFar w B p x (upto K f i (j + 1)) w2) := Lib.hid (by
          rw [upto_succ hjl]
          exact SoFar.next DD.out ((HZ.out f _).resolve_right HC0.out) ⟨v2, vi2, d2⟩)
        clear d2
        go_wp2_with fail
        go_roundw
        case rel => exact ⟨j + 1, by omega, by go_num, NX⟩
        case measure => simp [intOf]; omega
      · obtain rfl : j = n := by omega
        have hall : upto K f i j = (K i).flatMap (sub K f) := by rw [← HN.out]; exact upto_all K f i
        have HALL := Lib.hid hall
        have hhas : hasL ((outR (upto K f i j) x.rs).map (·.nd)) i = true := has_iff.2 ⟨x.rs[k].nd, List.mem_map.2 ⟨_, hmem, rfl⟩, HY.out⟩
        have HH := Lib.hid hhas
        have hlen : (outR (upto K f i j) x.rs).length ≤ 1000 := by
          have : (outR (upto K f i j) x.rs).length ≤ x.rs.length := List.length_filter_le _ _
          omega
        have HX := Lib.hid DD.out.dc
        generalize hrs : outR (upto K f i j) x.rs = rs1 at DD HX HH hlen
        generalize hfc : fo x.foc (upto K f i j) = fc at DD HX
        have HRS := Lib.hid hrs
        have HFC := Lib.hid hfc
        have d0 := HX.out.c0
        have d1 := HX.out.c1
        have d2 := HX.out.c2
        simp only at d0 d1 d2
        have hplt := HX.out.lt (.inl rfl : foot p _ p)
        clear hhas hall hmem HF hrs hfc
        go_wp2_with fail
        refine (dropP_yes i wr (by rw [HX.out.has_slot]; exact HH.out) HX.out.ar).mono ?_
        rintro e w2 ⟨rfl, v', a2, b2, hv2⟩
        have A2 := Lib.hid a2
        have B2 := Lib.hid b2
        have V2 := Lib.hid hv2
        have hpA : ¬ Arm x.a v p := HX.out.ar.other HX.out.blk (by decide) (by decide)
        have k2 := (b2.block p hplt hpA).trans HX.out.blk
        have K2 := Lib.hid k2
        have e1 : w2.cell? ⟨p, 1, none⟩ = some vi := cell_of_row w2 p 1 _ _ (0, 0) k2
        have I2 : Hid (kI.Own w2 B vi (idsOf (rs1.map (·.nd)))) := Lib.hid (HX.out.ids.but b2 (fun g hg => by
          obtain ⟨d, hd⟩ := HX.out.ids.ty hg
          exact HX.out.ar.other hd (by decide) (by decide)))
        have hin : i ∈ idsOf (rs1.map (·.nd)) := has_ids.1 HH.out
        have hnd : (idsOf (rs1.map (·.nd))).Nodup := by
          have := HX.out.asc
          unfold Asc Dx.l at this
          unfold idsOf
          rw [List.Nodup, List.pairwise_map]
          exact this.imp (fun h e => by omega)
        have hil : (idsOf (rs1.map (·.nd))).length ≤ 1000000 := by simp [idsOf]; omega
        have HIN := Lib.hid hin
        have HND := Lib.hid hnd
        clear a2 b2 hv2 hpA k2 hin hnd d0 d1 d2
        go_wp2_with fail
        refine (without_any (idsOf (rs1.map (·.nd))) i w2 hil HIN.out HND.out I2.out).mono ?_
        rintro e w3 ⟨A3, n3, c3, rfl, o3, b3, hat⟩
        have O3 := Lib.hid o3
        have B3 := Lib.hid b3
        have AT3 := Lib.hid hat
        have k3 := (b3.block p (heap_lt K2.out) (fun e => own_not I2.out K2.out (by decide) e.symm)).trans K2.out
        have f1 : w3.cell? ⟨p, 1, none⟩ = some vi := cell_of_row w3 p 1 _ _ (0, 0) k3
        have g1 : w3.frozen? ⟨p, 1, none⟩ = false := by simp [World.frozen?, k3]
        have f2 : w3.cell? ⟨p, 2, none⟩ = some (.int .i64 fc) := cell_of_row w3 p 2 _ _ (0, 0) k3
        have g2 : w3.frozen? ⟨p, 2, none⟩ = false := by simp [World.frozen?, k3]
        have DE := Lib.hid (drop_end HX.out HH.out B2.out A2.out V2.out B3.out O3.out AT3.out)
        have hfin : ∀ W', Did wr B p ⟨x.a, v, vi, x.R, x.n, fc, rs1⟩ ⟨x.a, v', .slice A3 n3 c3, x.R, x.n, fo fc [i], outR [i] rs1⟩ W' → Dropped w B p x (sub K (f + 1) i) (.returned (.tuple #[])) W' := by
          intro W' hd
          have hd0 := DD.out
          rw [← HRS.out, ← HFC.out] at hd hd0
          obtain ⟨v9, vi9, h9⟩ := SoFar.next hd0 (t := [i]) (by simpa using Ne.symm hi0) ⟨v', _, hd⟩
          refine ⟨rfl, v9, vi9, ?_⟩
          have hm : ∀ c, c ∈ upto K f i j ++ [i] ↔ c ∈ sub K (f + 1) i := by
            intro c
            rw [HALL.out, sub]
            simp [or_comm]
          rw [fo_congr hm, outR_congr hm] at h9
          exact h9
        have HFIN := Lib.hid hfin
        clear o3 b3 hat k3 e1 hfin
        by_cases hfi : fc = i
        · have hq : (fc == i) = true := by simpa using hfi
          have HFI := Lib.hid hfi
          clear hfi
          go_wp2_with fail
          go_end0
          refine HFIN.out _ ?_
          have := DE.out.trans (DE.out.dc.focus_ 0)
          rw [show fo fc [i] = 0 by unfold fo; rw [if_pos (by rw [HFI.out]; simp)]]
          exact this
        · have hq : (fc == i) = false := by simpa using hfi
          have HFI := Lib.hid hfi
          clear hfi
          go_wp2_with fail
          go_end0
          refine HFIN.out _ ?_
          rw [show fo fc [i] = fc by unfold fo; rw [if_neg (by simpa using HFI.out)]]
          exact DE.out
end Go.Proofs.YtihjdmdafiifhaaGreat.P5
