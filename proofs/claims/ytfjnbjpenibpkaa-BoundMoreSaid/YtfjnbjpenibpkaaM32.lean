/- What the program's wish.get, getElement, getAll and Of answer. No condition but those stated. -/
import Derived.Test.YtfjnbjpenibpkaaM31
set_option linter.unusedVariables false
set_option linter.unusedSimpArgs false
set_option linter.unusedVariables false
set_option linter.unusedSimpArgs false
namespace Go.Proofs.Ytfjnbjpenibpkaa.P14
open Go.RowKit Kd P4 P5 P11 P12 P13
attribute [local go_sem ↓] Go.wp_at_zero Go.wp_at_succ

def zWV : WV := .mk 0 ⟨#[]⟩ ⟨#[]⟩ ⟨#[]⟩ ⟨none, 0, 0⟩ [] ⟨none, 0, 0⟩ []
def GotV (w : World) (C : Nat) (t : PW) (rest : List In) (e : Ending) (w' : World) : Prop := ∃ (tv : WV) (A2 : Option Addr) (n2 c2 : Nat), e = .returned (.tuple #[.agg #[.int .i64 tv.kind, .string tv.tag, .string tv.key, .string tv.txt, .slice tv.sa.A tv.sa.n tv.sa.c, .slice tv.sk.A tv.sk.n tv.sk.c], .slice A2 n2 c2]) ∧ er tv = t ∧ WNew kW w' (fun b => w.heap.size ≤ b) tv ∧ Rs w C A2 n2 c2 rest ∧ Below w.heap.size w w'
def GotA (w : World) (C : Nat) (ps : List PW) (rest : List In) (e : Ending) (w' : World) : Prop := ∃ (A : Option Addr) (n c : Nat) (ts : List WV) (A2 : Option Addr) (n2 c2 : Nat), e = .returned (.tuple #[.slice A n c, .slice A2 n2 c2]) ∧ erL ts = ps ∧ kW.Own w' w.heap.size (.slice A n c) ts ∧ (∀ t ∈ ts, WNew kW w' (fun b => w.heap.size ≤ b ∧ (Value.slice A n c).ownBlock ≠ some b) t) ∧ Rs w C A2 n2 c2 rest ∧ Below w.heap.size w w'
def Stop (l : List In) : Prop := ∀ x, l.head? = some x → x.op = 2
def GetC (ps : List PW) : Prop := ∀ (rest : List In) (A : Option Addr) (n c C : Nat) (w : World), (∀ t ∈ ps, WfW t) → Stop rest → Rs w C A n c (backL ps ++ rest) → C ≤ w.heap.size → Calls Try.prog 13 #[.slice A n c] w (GotA w C ps rest)
theorem el_fin {w wr wf : World} {tv : WV} (z : WB wr w.heap.size zWV) (new : WNew kW wr (fun b => w.heap.size < b) tv) (hb : Below w.heap.size w wr) (hs : But (fun b => b = w.heap.size) wr wf) : WNew kW wf (fun b => w.heap.size ≤ b) tv ∧ Below w.heap.size w wf := by
  refine ⟨(new.but hs (fun b hb e => by omega) (fun b cur fr e hc => ?_)).mono fun b _ hb => Nat.le_of_lt hb, one_end hb hs⟩
  subst e
  exact heap_ne hc z (by decide) rfl
/-- an element at hand: the result's block, the first instruction's, its own -/
structure ESt (w wr : World) (g1 g2 : Nat) (x : In) (tv : WV) : Prop where
  z : WB wr w.heap.size zWV
  l1 : w.heap.size < g1
  l2 : g1 < g2
  x : XB wr g1 x
  t : WB wr g2 tv
  hb : Below w.heap.size w wr
section
variable {w wr w2 : World} {x : In} {tag key txt : ByteArray} {sa sk : Sv} {ats : List P3.At} {ks : List WV} {kind : Int} {g1 g2 : Nat}
theorem ESt.later (h : ESt w wr g1 g2 x (.mk kind tag key txt sa ats sk ks)) (hb : Below wr.heap.size wr w2) : ESt w w2 g1 g2 x (.mk kind tag key txt sa ats sk ks) := ⟨h.z.below hb h.z.lt, h.l1, h.l2, h.x.below hb h.x.lt, h.t.below hb h.t.lt, h.hb.trans (hb.mono h.hb.size)⟩
theorem ESt.set4 (h : ESt w wr g1 g2 x (.mk kind tag key txt sa ats sk ks)) (sa' : Sv) (ats' : List P3.At) : ESt w (wr.setCell ⟨g2, 4, none⟩ (.slice sa'.A sa'.n sa'.c)) g1 g2 x (.mk kind tag key txt sa' ats' sk ks) := by
  have := h.l1; have := h.l2
  refine ⟨(Below.heap_setCell _ _ _ _ (by simp only; omega)).trans h.z, h.l1, h.l2, (Below.heap_setCell _ _ _ _ (by simp only; omega)).trans h.x, heap_set h.t 4 _, ?_⟩
  exact h.hb.trans ((But.setCell (S := fun b => b = g2) (p := ⟨g2, 4, none⟩) (But.refl _ wr) (fun _ => rfl) _).to_below (fun i _ hi => by omega) h.hb.size)
theorem ESt.set5 (h : ESt w wr g1 g2 x (.mk kind tag key txt sa ats sk ks)) (sk' : Sv) (ks' : List WV) : ESt w (wr.setCell ⟨g2, 5, none⟩ (.slice sk'.A sk'.n sk'.c)) g1 g2 x (.mk kind tag key txt sa ats sk' ks') := by
  have := h.l1; have := h.l2
  refine ⟨(Below.heap_setCell _ _ _ _ (by simp only; omega)).trans h.z, h.l1, h.l2, (Below.heap_setCell _ _ _ _ (by simp only; omega)).trans h.x, heap_set h.t 5 _, ?_⟩
  exact h.hb.trans ((But.setCell (S := fun b => b = g2) (p := ⟨g2, 5, none⟩) (But.refl _ wr) (fun _ => rfl) _).to_below (fun i _ hi => by omega) h.hb.size)
theorem but2 (w : World) (g i : Nat) (u : Value) : But (fun b => b = g) w (w.setCell ⟨g, i, none⟩ u) := But.setCell (S := fun b => b = g) (p := ⟨g, i, none⟩) (But.refl _ w) (fun _ => rfl) _
theorem ESt.noA (h : ESt w wr g1 g2 x (.mk kind tag key txt sa ats sk ks)) : NoA wr (fun b => b = g2) := fun b cur fr e hc => by
  subst e
  exact heap_ne hc h.t (by decide) rfl
end
/-- what an element is told as, in the end -/
theorem el_new {w wr : World} {g1 g2 : Nat} {x : In} {tag key : ByteArray} {sa sk : Sv} {ats : List P3.At} {ks : List WV} {D : Nat} (h : ESt w wr g1 g2 x (.mk 1 tag key zB sa ats sk ks)) (ha : AOk wr sa ats) (own : kW.Own wr D (.slice sk.A sk.n sk.c) ks) (hD : w.heap.size < D) (hks : ∀ t ∈ ks, WNew kW wr (fun b => w.heap.size < b) t) :
    WNew kW wr (fun b => w.heap.size < b) (.mk 1 tag key zB sa ats sk ks) := ⟨ha, own.base_le (Nat.zero_le _), fun b hb => by have := (own.lt hb).1; omega, hks⟩

set_option maxRecDepth 100000 in
set_option maxHeartbeats 16000000 in
theorem getOpen_any (tag key : ByteArray) (ats : List P3.At) (kids : List PW) (rest : List In) (A : Option Addr) (n c C : Nat) (w : World) (IH : GetC kids) (hk : ∀ k ∈ kids, WfW k) (h : Rs w C A n c (⟨1, tag, key⟩ :: (ats.map atI ++ (backL kids ++ (⟨2, z0, z0⟩ :: rest))))) (hC : C ≤ w.heap.size) :
    Calls Try.prog 27 #[.slice A n c] w (GotV w C (.mk 1 tag key z0 ats kids) rest) := by
  have HS := Lib.hid h
  obtain ⟨b, o, rfl, hb, g0', g1', g2', hl, h0, hR1, hR2⟩ := h.cons
  have HR1 := Lib.hid hR1
  have HR2 := Lib.hid hR2
  have hcap := h.cap
  have hcm := h.cm
  have HIH := Lib.hid IH
  have HK := Lib.hid hk
  have CG : Hid (∀ (wz : World) (A' : Option Addr) (n' c' : Nat), Below w.heap.size w wz → Rs w C A' n' c' (ats.map atI ++ (backL kids ++ (⟨2, z0, z0⟩ :: rest))) → Calls Try.prog 32 #[.slice A' n' c'] wz (GatV wz C ats (backL kids ++ (⟨2, z0, z0⟩ :: rest)))) := Lib.hid (fun wz A' n' c' hz hr =>
    getAttrs_any ats _ A' n' c' C wz (backL_head hk (HeadT.cons rfl)) (hr.below hz hC) (Nat.le_trans hC hz.size))
  have CA : Hid (∀ (wz : World) (A' : Option Addr) (n' c' : Nat), Below w.heap.size w wz → Rs wz C A' n' c' (backL kids ++ (⟨2, z0, z0⟩ :: rest)) → Calls Try.prog 13 #[.slice A' n' c'] wz (GotA wz C kids (⟨2, z0, z0⟩ :: rest))) := Lib.hid (fun wz A' n' c' hz hr =>
    HIH.out (⟨2, z0, z0⟩ :: rest) A' n' c' C wz hk (fun x hx => by injection hx with hx; rw [← hx]) hr (Nat.le_trans hC hz.size))
  clear h hR1 hR2 IH hk
  have hbw : b < w.heap.size := Nat.lt_of_lt_of_le hb hC
  have i1 : (1 : Int) ≤ (n : Int) := by omega
  have i2 : (n : Int) ≤ (c : Int) := by omega
  have hcm' : c ≤ 9223372036854775807 := by unfold maxLen at hcm; omega
  have hcap1 : ¬ c = 1 := by simp at hl; omega
  have HR := Lib.hid (HR2.out hcap1)
  have hcq : ¬ c - 1 = 0 := by omega
  clear HR1 HR2 HS HIH HK hl
  go_enter Try.func27, Try.ntmps27
  go_upto_region 1 with fail
  have Z0 : Hid (WB (w.alloc (.cells #[.int .i64 0, .string ⟨#[]⟩, .string ⟨#[]⟩, .string ⟨#[]⟩, .slice none 0 0, .slice none 0 0] 46)) w.heap.size zWV) := Lib.hid (WB.new w zWV)
  have B0 : Hid (Below w.heap.size w (w.alloc (.cells #[.int .i64 0, .string ⟨#[]⟩, .string ⟨#[]⟩, .string ⟨#[]⟩, .slice none 0 0, .slice none 0 0] 46))) := Lib.hid ((Below.refl _ _).alloc (Nat.le_refl _) _)
  generalize w.alloc (.cells #[.int .i64 0, .string ⟨#[]⟩, .string ⟨#[]⟩, .string ⟨#[]⟩, .slice none 0 0, .slice none 0 0] 46) = wa at Z0 B0 ⊢
  have g0 := (B0.out.cell (p := ⟨b, o, none⟩) hbw).trans g0'
  have g1 := (B0.out.cell (p := ⟨b, o + 1, none⟩) hbw).trans g1'
  have g2 := (B0.out.cell (p := ⟨b, o + 2, none⟩) hbw).trans g2'
  go_upto_region 2 with fail
  have X1 : Hid (XB (wa.alloc (.cells #[.int .i64 1, .string tag, .string key] 38)) wa.heap.size ⟨1, tag, key⟩) := Lib.hid (XB.new wa ⟨1, tag, key⟩)
  have b1 : Below wa.heap.size wa (wa.alloc (.cells #[.int .i64 1, .string tag, .string key] 38)) := (Below.refl _ _).alloc (Nat.le_refl _) _
  generalize wa.alloc (.cells #[.int .i64 1, .string tag, .string key] 38) = wb at X1 b1 ⊢
  have Z1 := Lib.hid (Z0.out.below b1 Z0.out.lt)
  have B1 := Lib.hid (B0.out.trans (b1.mono B0.out.size))
  have l1 : w.heap.size < wa.heap.size := Z0.out.lt
  generalize wa.heap.size = k1 at X1 l1 ⊢
  clear b1 g0 g1 g2 Z0 B0
  have x1 := X1.out.c1
  have x2 := X1.out.c2
  simp only at x1 x2
  go_upto_region 3 with fail
  have E2 : Hid (ESt w (wb.alloc (.cells #[.int .i64 1, .string tag, .string key, .string ⟨#[]⟩, .slice none 0 0, .slice none 0 0] 46)) k1 wb.heap.size ⟨1, tag, key⟩ (.mk 1 tag key zB ⟨none, 0, 0⟩ [] ⟨none, 0, 0⟩ [])) := Lib.hid (by
    have b2 : Below wb.heap.size wb (wb.alloc (.cells #[.int .i64 1, .string tag, .string key, .string ⟨#[]⟩, .slice none 0 0, .slice none 0 0] 46)) := (Below.refl _ _).alloc (Nat.le_refl _) _
    exact ⟨Z1.out.below b2 Z1.out.lt, l1, X1.out.lt, X1.out.below b2 X1.out.lt, WB.new wb (.mk 1 tag key zB ⟨none, 0, 0⟩ [] ⟨none, 0, 0⟩ []), B1.out.trans (b2.mono B1.out.size)⟩)
  generalize wb.alloc (.cells #[.int .i64 1, .string tag, .string key, .string ⟨#[]⟩, .slice none 0 0, .slice none 0 0] 46) = w2 at E2 ⊢
  generalize wb.heap.size = k2 at E2 ⊢
  clear X1 Z1 B1 x1 x2
  go_wp2_with fail
  refine (CG.out w2 _ _ _ E2.out.hb HR.out).mono ?_
  rintro e w3 ⟨A3, n3, c3, A4, n4, c4, rfl, o3, r4, b3⟩
  have E3 := Lib.hid (E2.out.later b3)
  have R4 := Lib.hid (r4.back E2.out.hb hC)
  obtain ⟨sa, hsa, aok⟩ := AOk.own o3
  obtain ⟨sA, sn, sc⟩ := sa
  injection hsa with e1 e2 e3
  subst e1; subst e2; subst e3
  have E4 := Lib.hid (E3.out.set4 ⟨A3, n3, c3⟩ ats)
  have A4k := Lib.hid (aok.but (but2 w3 k2 4 (.slice A3 n3 c3)) E3.out.noA)
  have t4 := E3.out.t.c4
  have tf := E3.out.t.fr
  simp only [WV.sa] at t4
  clear o3 r4 b3 aok E2 CG HR
  go_upto_region 4 with fail
  generalize w3.setCell ⟨k2, 4, none⟩ (.slice A3 n3 c3) = w4 at E4 A4k ⊢
  clear t4 tf E3
  have x0 := E4.out.x.c0
  simp only at x0
  go_wp2_with fail
  refine (CA.out w4 _ _ _ E4.out.hb (R4.out.below E4.out.hb hC)).mono ?_
  rintro e w5 ⟨A5, n5, c5, ks, A6, n6, c6, rfl, her, own5, new5, r6, b5⟩
  have E5 := Lib.hid (E4.out.later b5)
  have R6 := Lib.hid (r6.back E4.out.hb hC)
  have A5k := Lib.hid (A4k.out.below b5)
  have HER := Lib.hid her
  have OW5 := Lib.hid own5
  have NW5 := Lib.hid new5
  have lk : k2 < w4.heap.size := E4.out.t.lt
  have lw : w.heap.size < w4.heap.size := E4.out.z.lt
  have E6 := Lib.hid (E5.out.set5 ⟨A5, n5, c5⟩ ks)
  have N6 : Hid (WNew kW (w5.setCell ⟨k2, 5, none⟩ (.slice A5 n5 c5)) (fun b => w.heap.size < b) (.mk 1 tag key zB ⟨A3, n3, c3⟩ ats ⟨A5, n5, c5⟩ ks)) := Lib.hid (el_new E6.out (A5k.out.but (but2 w5 k2 5 _) E5.out.noA) (OW5.out.keep (fun b hb => Below.heap_setCell _ _ _ _ (show b ≠ k2 by have := (OW5.out.lt hb).1; omega))) lw (fun t ht => ((NW5.out t ht).but (but2 w5 k2 5 _) (fun b hb e => by have := hb.1; omega) E5.out.noA).mono (fun b _ hb => by have := hb.1; omega)))
  have t5 := E5.out.t.c5
  have tf := E5.out.t.fr
  simp only [WV.sk] at t5
  clear her own5 new5 r6 b5 x0 E4 A4k CA R4
  go_upto_region 6 with fail
  generalize w5.setCell ⟨k2, 5, none⟩ (.slice A5 n5 c5) = w6 at E6 N6 ⊢
  clear t5 tf E5 A5k OW5 NW5
  obtain ⟨b6, o6, rfl, hb6, _, _, _, hl6, h06, hR1, hR2⟩ := R6.out.cons
  have hnc6 := R6.out.cap
  have hcm6 := R6.out.cm
  have j1 : (1 : Int) ≤ (n6 : Int) := by omega
  have j2 : (n6 : Int) ≤ (c6 : Int) := by omega
  have hcm6' : c6 ≤ 9223372036854775807 := by unfold maxLen at hcm6; omega
  have t0 := E6.out.t.c0; have t1 := E6.out.t.c1; have t2 := E6.out.t.c2; have t3 := E6.out.t.c3; have t4 := E6.out.t.c4; have t5 := E6.out.t.c5
  have z0 := E6.out.z.c0; have z1 := E6.out.z.c1; have z2 := E6.out.z.c2; have z3 := E6.out.z.c3; have z4 := E6.out.z.c4; have z5 := E6.out.z.c5
  simp only [WV.kind, WV.tag, WV.key, WV.txt, WV.sa, WV.sk, zWV, zB] at t0 t1 t2 t3 t4 t5 z0 z1 z2 z3 z4 z5
  have zf := E6.out.z.fr
  have hzl : w.heap.size < w6.heap.size := E6.out.z.lt
  have hk2 : k2 ≠ w.heap.size := by have := E6.out.l1; have := E6.out.l2; omega
  by_cases hcap6 : c6 = 1
  · have HR6 := Lib.hid (hR1 hcap6)
    subst hcap6
    obtain rfl : n6 = 1 := by omega
    clear hR1 hR2
    go_wp2_with fail
    refine bodyPost_ret (v := .tuple #[.agg #[.int .i64 1, .string tag, .string key, .string ⟨#[]⟩, .slice A3 n3 c3, .slice A5 n5 c5], .slice (some ⟨b6, o6, none⟩) (0) (0)]) (by simp [results, Try.results27, go_sem, z0, z1, z2, z3, z4, z5, hzl]) rfl ⟨.mk 1 tag key zB ⟨A3, n3, c3⟩ ats ⟨A5, n5, c5⟩ ks, _, _, _, rfl, by rw [er, HER.out]; rfl, ?_, HR6.out, ?_⟩
    · exact (el_fin E6.out.z N6.out E6.out.hb (setOne (setOne (setOne (setOne (setOne (setOne (But.refl _ _)))))))).1
    · exact (el_fin E6.out.z N6.out E6.out.hb (setOne (setOne (setOne (setOne (setOne (setOne (But.refl _ _)))))))).2
  · have HR6 := Lib.hid (hR2 hcap6)
    have hcq6 : ¬ c6 - 1 = 0 := by omega
    clear hR1 hR2
    go_wp2_with fail
    refine bodyPost_ret (v := .tuple #[.agg #[.int .i64 1, .string tag, .string key, .string ⟨#[]⟩, .slice A3 n3 c3, .slice A5 n5 c5], .slice (some ⟨b6, o6 + 3, none⟩) (n6 - 1) (c6 - 1)]) (by simp [results, Try.results27, go_sem, z0, z1, z2, z3, z4, z5, hzl]) rfl ⟨.mk 1 tag key zB ⟨A3, n3, c3⟩ ats ⟨A5, n5, c5⟩ ks, _, _, _, rfl, by rw [er, HER.out]; rfl, ?_, HR6.out, ?_⟩
    · exact (el_fin E6.out.z N6.out E6.out.hb (setOne (setOne (setOne (setOne (setOne (setOne (But.refl _ _)))))))).1
    · exact (el_fin E6.out.z N6.out E6.out.hb (setOne (setOne (setOne (setOne (setOne (setOne (But.refl _ _)))))))).2

set_option maxRecDepth 100000 in
set_option maxHeartbeats 16000000 in
theorem getVoid_any (tag key : ByteArray) (ats : List P3.At) (rest : List In) (A : Option Addr) (n c C : Nat) (w : World) (hT : HeadT rest) (h : Rs w C A n c (⟨3, tag, key⟩ :: (ats.map atI ++ rest))) (hC : C ≤ w.heap.size) :
    Calls Try.prog 27 #[.slice A n c] w (GotV w C (.mk 1 tag key z0 ats []) rest) := by
  obtain ⟨b, o, rfl, hb, g0', g1', g2', hl, h0, hR1, hR2⟩ := h.cons
  have HR1 := Lib.hid hR1
  have HR2 := Lib.hid hR2
  have hcap := h.cap
  have hcm := h.cm
  have CG : Hid (∀ (wz : World) (A' : Option Addr) (n' c' : Nat), Below w.heap.size w wz → Rs w C A' n' c' (ats.map atI ++ rest) → Calls Try.prog 32 #[.slice A' n' c'] wz (GatV wz C ats rest)) := Lib.hid (fun wz A' n' c' hz hr =>
    getAttrs_any ats _ A' n' c' C wz hT (hr.below hz hC) (Nat.le_trans hC hz.size))
  clear h hR1 hR2 hT hl
  have hbw : b < w.heap.size := Nat.lt_of_lt_of_le hb hC
  have i1 : (1 : Int) ≤ (n : Int) := by omega
  have i2 : (n : Int) ≤ (c : Int) := by omega
  have hcm' : c ≤ 9223372036854775807 := by unfold maxLen at hcm; omega
  by_cases hcap1 : c = 1
  · have HR := Lib.hid (HR1.out hcap1)
    subst hcap1
    obtain rfl : n = 1 := by omega
    clear HR1 HR2
    go_enter Try.func27, Try.ntmps27
    go_upto_region 1 with fail
    have Z0 : Hid (WB (w.alloc (.cells #[.int .i64 0, .string ⟨#[]⟩, .string ⟨#[]⟩, .string ⟨#[]⟩, .slice none 0 0, .slice none 0 0] 46)) w.heap.size zWV) := Lib.hid (WB.new w zWV)
    have B0 : Hid (Below w.heap.size w (w.alloc (.cells #[.int .i64 0, .string ⟨#[]⟩, .string ⟨#[]⟩, .string ⟨#[]⟩, .slice none 0 0, .slice none 0 0] 46))) := Lib.hid ((Below.refl _ _).alloc (Nat.le_refl _) _)
    generalize w.alloc (.cells #[.int .i64 0, .string ⟨#[]⟩, .string ⟨#[]⟩, .string ⟨#[]⟩, .slice none 0 0, .slice none 0 0] 46) = wa at Z0 B0 ⊢
    have g0 := (B0.out.cell (p := ⟨b, o, none⟩) hbw).trans g0'
    have g1 := (B0.out.cell (p := ⟨b, o + 1, none⟩) hbw).trans g1'
    have g2 := (B0.out.cell (p := ⟨b, o + 2, none⟩) hbw).trans g2'
    go_upto_region 2 with fail
    have X1 : Hid (XB (wa.alloc (.cells #[.int .i64 3, .string tag, .string key] 38)) wa.heap.size ⟨3, tag, key⟩) := Lib.hid (XB.new wa ⟨3, tag, key⟩)
    have b1 : Below wa.heap.size wa (wa.alloc (.cells #[.int .i64 3, .string tag, .string key] 38)) := (Below.refl _ _).alloc (Nat.le_refl _) _
    generalize wa.alloc (.cells #[.int .i64 3, .string tag, .string key] 38) = wb at X1 b1 ⊢
    have Z1 := Lib.hid (Z0.out.below b1 Z0.out.lt)
    have B1 := Lib.hid (B0.out.trans (b1.mono B0.out.size))
    have l1 : w.heap.size < wa.heap.size := Z0.out.lt
    generalize wa.heap.size = k1 at X1 l1 ⊢
    clear b1 g0 g1 g2 Z0 B0
    have x1 := X1.out.c1
    have x2 := X1.out.c2
    simp only at x1 x2
    go_upto_region 3 with fail
    have E2 : Hid (ESt w (wb.alloc (.cells #[.int .i64 1, .string tag, .string key, .string ⟨#[]⟩, .slice none 0 0, .slice none 0 0] 46)) k1 wb.heap.size ⟨3, tag, key⟩ (.mk 1 tag key zB ⟨none, 0, 0⟩ [] ⟨none, 0, 0⟩ [])) := Lib.hid (by
      have b2 : Below wb.heap.size wb (wb.alloc (.cells #[.int .i64 1, .string tag, .string key, .string ⟨#[]⟩, .slice none 0 0, .slice none 0 0] 46)) := (Below.refl _ _).alloc (Nat.le_refl _) _
      exact ⟨Z1.out.below b2 Z1.out.lt, l1, X1.out.lt, X1.out.below b2 X1.out.lt, WB.new wb (.mk 1 tag key zB ⟨none, 0, 0⟩ [] ⟨none, 0, 0⟩ []), B1.out.trans (b2.mono B1.out.size)⟩)
    generalize wb.alloc (.cells #[.int .i64 1, .string tag, .string key, .string ⟨#[]⟩, .slice none 0 0, .slice none 0 0] 46) = w2 at E2 ⊢
    generalize wb.heap.size = k2 at E2 ⊢
    clear X1 Z1 B1 x1 x2
    go_wp2_with fail
    refine (CG.out w2 _ _ _ E2.out.hb HR.out).mono ?_
    rintro e w3 ⟨A3, n3, c3, A4, n4, c4, rfl, o3, r4, b3⟩
    have E3 := Lib.hid (E2.out.later b3)
    have R4 := Lib.hid (r4.back E2.out.hb hC)
    obtain ⟨sa, hsa, aok⟩ := AOk.own o3
    obtain ⟨sA, sn, sc⟩ := sa
    injection hsa with e1 e2 e3
    subst e1; subst e2; subst e3
    have E4 := Lib.hid (E3.out.set4 ⟨A3, n3, c3⟩ ats)
    have A4k := Lib.hid (aok.but (but2 w3 k2 4 (.slice A3 n3 c3)) E3.out.noA)
    have t4 := E3.out.t.c4
    have tf := E3.out.t.fr
    simp only [WV.sa] at t4
    clear o3 r4 b3 aok E2 CG HR
    go_upto_region 4 with fail
    generalize w3.setCell ⟨k2, 4, none⟩ (.slice A3 n3 c3) = w4 at E4 A4k ⊢
    clear t4 tf E3
    have x0 := E4.out.x.c0
    simp only at x0
    have N4 : Hid (WNew kW w4 (fun b => w.heap.size < b) (.mk 1 tag key zB ⟨A3, n3, c3⟩ ats ⟨none, 0, 0⟩ [])) := Lib.hid (el_new (D := w.heap.size + 1) E4.out A4k.out (Kind.Own.nil kW _ _) (Nat.lt_succ_self _) (fun t ht => by cases ht))
    have HR6 := R4
    have t0 := E4.out.t.c0; have t1 := E4.out.t.c1; have t2 := E4.out.t.c2; have t3 := E4.out.t.c3; have t4 := E4.out.t.c4; have t5 := E4.out.t.c5
    have z0 := E4.out.z.c0; have z1 := E4.out.z.c1; have z2 := E4.out.z.c2; have z3 := E4.out.z.c3; have z4 := E4.out.z.c4; have z5 := E4.out.z.c5
    simp only [WV.kind, WV.tag, WV.key, WV.txt, WV.sa, WV.sk, zWV, zB] at t0 t1 t2 t3 t4 t5 z0 z1 z2 z3 z4 z5
    have zf := E4.out.z.fr
    have hzl : w.heap.size < w4.heap.size := E4.out.z.lt
    have hk2 : k2 ≠ w.heap.size := by have := E4.out.l1; have := E4.out.l2; omega
    go_wp2_with fail
    refine bodyPost_ret (v := .tuple #[.agg #[.int .i64 1, .string tag, .string key, .string ⟨#[]⟩, .slice A3 n3 c3, .slice none 0 0], .slice A4 n4 c4]) (by simp [results, Try.results27, go_sem, z0, z1, z2, z3, z4, z5, hzl]) rfl ⟨.mk 1 tag key zB ⟨A3, n3, c3⟩ ats ⟨none, 0, 0⟩ [], _, _, _, rfl, by rw [er, erL]; rfl, ?_, HR6.out, ?_⟩
    · exact (el_fin E4.out.z N4.out E4.out.hb (setOne (setOne (setOne (setOne (setOne (setOne (But.refl _ _)))))))).1
    · exact (el_fin E4.out.z N4.out E4.out.hb (setOne (setOne (setOne (setOne (setOne (setOne (But.refl _ _)))))))).2
  · have HR := Lib.hid (HR2.out hcap1)
    have hcq : ¬ c - 1 = 0 := by omega
    clear HR1 HR2
    go_enter Try.func27, Try.ntmps27
    go_upto_region 1 with fail
    have Z0 : Hid (WB (w.alloc (.cells #[.int .i64 0, .string ⟨#[]⟩, .string ⟨#[]⟩, .string ⟨#[]⟩, .slice none 0 0, .slice none 0 0] 46)) w.heap.size zWV) := Lib.hid (WB.new w zWV)
    have B0 : Hid (Below w.heap.size w (w.alloc (.cells #[.int .i64 0, .string ⟨#[]⟩, .string ⟨#[]⟩, .string ⟨#[]⟩, .slice none 0 0, .slice none 0 0] 46))) := Lib.hid ((Below.refl _ _).alloc (Nat.le_refl _) _)
    generalize w.alloc (.cells #[.int .i64 0, .string ⟨#[]⟩, .string ⟨#[]⟩, .string ⟨#[]⟩, .slice none 0 0, .slice none 0 0] 46) = wa at Z0 B0 ⊢
    have g0 := (B0.out.cell (p := ⟨b, o, none⟩) hbw).trans g0'
    have g1 := (B0.out.cell (p := ⟨b, o + 1, none⟩) hbw).trans g1'
    have g2 := (B0.out.cell (p := ⟨b, o + 2, none⟩) hbw).trans g2'
    go_upto_region 2 with fail
    have X1 : Hid (XB (wa.alloc (.cells #[.int .i64 3, .string tag, .string key] 38)) wa.heap.size ⟨3, tag, key⟩) := Lib.hid (XB.new wa ⟨3, tag, key⟩)
    have b1 : Below wa.heap.size wa (wa.alloc (.cells #[.int .i64 3, .string tag, .string key] 38)) := (Below.refl _ _).alloc (Nat.le_refl _) _
    generalize wa.alloc (.cells #[.int .i64 3, .string tag, .string key] 38) = wb at X1 b1 ⊢
    have Z1 := Lib.hid (Z0.out.below b1 Z0.out.lt)
    have B1 := Lib.hid (B0.out.trans (b1.mono B0.out.size))
    have l1 : w.heap.size < wa.heap.size := Z0.out.lt
    generalize wa.heap.size = k1 at X1 l1 ⊢
    clear b1 g0 g1 g2 Z0 B0
    have x1 := X1.out.c1
    have x2 := X1.out.c2
    simp only at x1 x2
    go_upto_region 3 with fail
    have E2 : Hid (ESt w (wb.alloc (.cells #[.int .i64 1, .string tag, .string key, .string ⟨#[]⟩, .slice none 0 0, .slice none 0 0] 46)) k1 wb.heap.size ⟨3, tag, key⟩ (.mk 1 tag key zB ⟨none, 0, 0⟩ [] ⟨none, 0, 0⟩ [])) := Lib.hid (by
      have b2 : Below wb.heap.size wb (wb.alloc (.cells #[.int .i64 1, .string tag, .string key, .string ⟨#[]⟩, .slice none 0 0, .slice none 0 0] 46)) := (Below.refl _ _).alloc (Nat.le_refl _) _
      exact ⟨Z1.out.below b2 Z1.out.lt, l1, X1.out.lt, X1.out.below b2 X1.out.lt, WB.new wb (.mk 1 tag key zB ⟨none, 0, 0⟩ [] ⟨none, 0, 0⟩ []), B1.out.trans (b2.mono B1.out.size)⟩)
    generalize wb.alloc (.cells #[.int .i64 1, .string tag, .string key, .string ⟨#[]⟩, .slice none 0 0, .slice none 0 0] 46) = w2 at E2 ⊢
    generalize wb.heap.size = k2 at E2 ⊢
    clear X1 Z1 B1 x1 x2
    go_wp2_with fail
    refine (CG.out w2 _ _ _ E2.out.hb HR.out).mono ?_
    rintro e w3 ⟨A3, n3, c3, A4, n4, c4, rfl, o3, r4, b3⟩
    have E3 := Lib.hid (E2.out.later b3)
    have R4 := Lib.hid (r4.back E2.out.hb hC)
    obtain ⟨sa, hsa, aok⟩ := AOk.own o3
    obtain ⟨sA, sn, sc⟩ := sa
    injection hsa with e1 e2 e3
    subst e1; subst e2; subst e3
    have E4 := Lib.hid (E3.out.set4 ⟨A3, n3, c3⟩ ats)
    have A4k := Lib.hid (aok.but (but2 w3 k2 4 (.slice A3 n3 c3)) E3.out.noA)
    have t4 := E3.out.t.c4
    have tf := E3.out.t.fr
    simp only [WV.sa] at t4
    clear o3 r4 b3 aok E2 CG HR
    go_upto_region 4 with fail
    generalize w3.setCell ⟨k2, 4, none⟩ (.slice A3 n3 c3) = w4 at E4 A4k ⊢
    clear t4 tf E3
    have x0 := E4.out.x.c0
    simp only at x0
    have N4 : Hid (WNew kW w4 (fun b => w.heap.size < b) (.mk 1 tag key zB ⟨A3, n3, c3⟩ ats ⟨none, 0, 0⟩ [])) := Lib.hid (el_new (D := w.heap.size + 1) E4.out A4k.out (Kind.Own.nil kW _ _) (Nat.lt_succ_self _) (fun t ht => by cases ht))
    have HR6 := R4
    have t0 := E4.out.t.c0; have t1 := E4.out.t.c1; have t2 := E4.out.t.c2; have t3 := E4.out.t.c3; have t4 := E4.out.t.c4; have t5 := E4.out.t.c5
    have z0 := E4.out.z.c0; have z1 := E4.out.z.c1; have z2 := E4.out.z.c2; have z3 := E4.out.z.c3; have z4 := E4.out.z.c4; have z5 := E4.out.z.c5
    simp only [WV.kind, WV.tag, WV.key, WV.txt, WV.sa, WV.sk, zWV, zB] at t0 t1 t2 t3 t4 t5 z0 z1 z2 z3 z4 z5
    have zf := E4.out.z.fr
    have hzl : w.heap.size < w4.heap.size := E4.out.z.lt
    have hk2 : k2 ≠ w.heap.size := by have := E4.out.l1; have := E4.out.l2; omega
    go_wp2_with fail
    refine bodyPost_ret (v := .tuple #[.agg #[.int .i64 1, .string tag, .string key, .string ⟨#[]⟩, .slice A3 n3 c3, .slice none 0 0], .slice A4 n4 c4]) (by simp [results, Try.results27, go_sem, z0, z1, z2, z3, z4, z5, hzl]) rfl ⟨.mk 1 tag key zB ⟨A3, n3, c3⟩ ats ⟨none, 0, 0⟩ [], _, _, _, rfl, by rw [er, erL]; rfl, ?_, HR6.out, ?_⟩
    · exact (el_fin E4.out.z N4.out E4.out.hb (setOne (setOne (setOne (setOne (setOne (setOne (But.refl _ _)))))))).1
    · exact (el_fin E4.out.z N4.out E4.out.hb (setOne (setOne (setOne (setOne (setOne (setOne (But.refl _ _)))))))).2
end Go.Proofs.Ytfjnbjpenibpkaa.P14
