/- What parse.readElement answers, if read does below. No condition but those stated. -/
import Derived.Deep.RegionHeld3
import Derived.Deep.Cut
import Derived.Test.YtbdcbjeeaebfeaaM35
set_option linter.unusedVariables false
set_option linter.unusedSimpArgs false
namespace Go.Proofs.Ytbdcbjeeaebfeaa.P10
open Go.RowKit Kd P4 P5 P8 P9

def rdAt (f : Nat) (s : List UInt8) : List PT × List UInt8 := rdF f s []
def ReadC (f : Nat) : Prop := ∀ (s : ByteArray) (w : World), s.size < f → s.size ≤ 10000 → Bd.ML w → Calls Try.prog 12 #[.string s] w (Gv w (rdF f s.data.toList []))
def ReC (f : Nat) : Prop := ∀ (s : ByteArray) (w : World), s.size ≤ f → s.size ≤ 10000 → 0 < s.size → Bd.ML w → Calls Try.prog 25 #[.string s] w (Ev w (reF (rdAt f) s.data.toList))
/-- a tree without children is made -/
theorem KSt.start {w w4 : World} {tag : ByteArray} {A : Option Addr} {n c : Nat} {ats : List P3.At} {B : Nat} (z : TB w4 w.heap.size zTV) (own : kA.Own w4 B (.slice A n c) ats) (hb : Below w.heap.size w w4) :
    KSt w (w4.alloc (.cells #[.string tag, .string ⟨#[]⟩, .string ⟨#[]⟩, .slice A n c, .slice none 0 0] 38)) w4.heap.size (.mk tag ⟨#[]⟩ ⟨#[]⟩ ⟨A, n, c⟩ ats ⟨none, 0, 0⟩ []) := by
  obtain ⟨s, hv, ha⟩ := AOk.own (own.alloc (.cells #[.string tag, .string ⟨#[]⟩, .string ⟨#[]⟩, .slice A n c, .slice none 0 0] 38))
  have e : s = ⟨A, n, c⟩ := by
    obtain ⟨A', n', c'⟩ := s
    unfold Sv.val at hv
    injection hv with e1 e2 e3
    subst e1; subst e2; subst e3
    rfl
  subst e
  exact ⟨heap_up z, TB.new w4 (.mk tag ⟨#[]⟩ ⟨#[]⟩ ⟨A, n, c⟩ ats ⟨none, 0, 0⟩ []), TNew.mk (sk := ⟨none, 0, 0⟩) ha (Kind.Own.nil kT _ 0) (fun b hb => by cases hb) (fun k hk => by cases hk), hb.alloc hb.size _⟩
theorem KSt.below {w W W' : World} {g : Nat} {tv : TV} (h : KSt w W g tv) (hb : Below W.heap.size W W') : KSt w W' g tv :=
  ⟨h.z.below hb h.z.lt, h.tb.below hb h.tb.lt, h.new.later hb, h.hb.trans (hb.mono h.hb.size)⟩
/-- the children are laid -/
theorem KSt.kids {w wr w2 : World} {g : Nat} {tag : ByteArray} {A Ak : Option Addr} {n c nk ck : Nat} {ats : List P3.At} {ks : List TV} (h : KSt w wr g (.mk tag ⟨#[]⟩ ⟨#[]⟩ ⟨A, n, c⟩ ats ⟨none, 0, 0⟩ [])) (hgg : w.heap.size < g) (hb : Below wr.heap.size wr w2) (own : kT.Own w2 wr.heap.size (.slice Ak nk ck) ks) (new : ∀ t ∈ ks, TNew w2 (fun b => wr.heap.size ≤ b ∧ (Value.slice Ak nk ck).ownBlock ≠ some b) t) :
    KSt w (w2.setCell ⟨g, 4, none⟩ (.slice Ak nk ck)) g (.mk tag ⟨#[]⟩ ⟨#[]⟩ ⟨A, n, c⟩ ats ⟨Ak, nk, ck⟩ ks) := by
  have h2 := h.below hb
  have hgl := h.tb.lt
  have hwl := h.z.lt
  have b3 : But (fun b => b = g) w2 (w2.setCell ⟨g, 4, none⟩ (.slice Ak nk ck)) := But.setCell (S := fun b => b = g) (p := ⟨g, 4, none⟩) (But.refl _ _) (fun _ => rfl) _
  have hS : ∀ b, b = g → ∃ cur, w2.heap[b]? = some (.cells cur 38 (0, 0)) := fun b e => by subst e; exact ⟨_, h2.tb⟩
  have ha : AOk w2 ⟨A, n, c⟩ ats := h2.new.at_
  refine ⟨(Below.heap_setCell w2 _ _ _ (by show w.heap.size ≠ g; omega)).trans h2.z, heap_set h2.tb 4 _, TNew.mk (sk := ⟨Ak, nk, ck⟩) (ha.but b3 (tree_noA hS)) ((own.but b3 (fun b e => by have := (own.lt e).1; omega)).base_le (Nat.zero_le _)) (fun b e => by have := (own.lt e).1; omega) (fun k hk => ?_), h2.hb.trans (b3.to_below (fun i _ hi => by omega) h2.hb.size)⟩
  exact ((new k hk).but b3 (fun b hq e => by have := hq.1; omega) (tree_noA hS)).mono fun b _ hq => by have := hq.1; omega
theorem trim_at (s p : ByteArray) (l m : List UInt8) (w : World) (h1 : s.data.toList = l) (h2 : p.data.toList = m) :
    Calls Try.prog 43 #[.string s, .string p] w fun e w' => e = .returned (.string (bs (Lib.trimPrefix l m))) ∧ w = w' := by
  subst h1; subst h2
  refine (Bd.trim_any s p w).mono ?_
  rintro e w' ⟨rfl, rfl⟩
  exact ⟨rfl, rfl⟩
set_option maxRecDepth 100000 in
set_option maxHeartbeats 8000000 in
theorem re_of (f : Nat) (RC : ReadC f) : ReC f := by
  intro s w hsf hs hs0 hm
  have HR := Lib.hid RC
  have HM := Lib.hid hm
  have hxs : (s.extract 1 s.size).size = s.size - 1 := by rw [ByteArray.size_extract]; omega
  have C1 : Hid (∀ w9, Below w.heap.size w w9 → Calls Try.prog 40 #[.string (s.extract 1 s.size), .string ⟨#[62]⟩] w9 fun e w' => e = .returned (.tuple #[.string (bs (Lib.cut (s.data.toList.drop 1) [62]).1), .string (bs (Lib.cut (s.data.toList.drop 1) [62]).2.1), .bool (Lib.cut (s.data.toList.drop 1) [62]).2.2]) ∧ Below w9.heap.size w9 w') := Lib.hid (fun w9 h => cut_at _ _ _ _ w9 (HM.out.on h) (ex_tail s 1) rfl (by omega))
  have HE : Hid (reF (rdAt f) s.data.toList = if P1.voidB (Lib.cut (Lib.cut (s.data.toList.drop 1) [62]).1 [32]).1 then (elT (Lib.cut (Lib.cut (s.data.toList.drop 1) [62]).1 [32]).1 (attrsR ((Lib.cut (s.data.toList.drop 1) [62]).1.drop (Lib.cut (Lib.cut (s.data.toList.drop 1) [62]).1 [32]).1.length)) [], (Lib.cut (s.data.toList.drop 1) [62]).2.1)
    else (elT (Lib.cut (Lib.cut (s.data.toList.drop 1) [62]).1 [32]).1 (attrsR ((Lib.cut (s.data.toList.drop 1) [62]).1.drop (Lib.cut (Lib.cut (s.data.toList.drop 1) [62]).1 [32]).1.length)) (rdAt f (Lib.cut (s.data.toList.drop 1) [62]).2.1).1, Lib.trimPrefix (rdAt f (Lib.cut (s.data.toList.drop 1) [62]).2.1).2 (60 :: 47 :: ((Lib.cut (Lib.cut (s.data.toList.drop 1) [62]).1 [32]).1 ++ [62])))) := Lib.hid rfl
  have hcl := cut_len (s.data.toList.drop 1) [62]
  rw [List.length_drop, size_len] at hcl
  generalize Lib.cut (s.data.toList.drop 1) [62] = p at C1 HE hcl
  obtain ⟨p1, p2, p3⟩ := p
  simp only at C1 HE hcl
  have hp1 : (bs p1).size = p1.length := bs_size p1
  have hp2 : (bs p2).size = p2.length := bs_size p2
  have C2 : Hid (∀ w9, Below w.heap.size w w9 → Calls Try.prog 40 #[.string (bs p1), .string ⟨#[32]⟩] w9 fun e w' => e = .returned (.tuple #[.string (bs (Lib.cut p1 [32]).1), .string (bs (Lib.cut p1 [32]).2.1), .bool (Lib.cut p1 [32]).2.2]) ∧ Below w9.heap.size w9 w') := Lib.hid (fun w9 h => cut_at _ _ _ _ w9 (HM.out.on h) (bs_data p1) rfl (by omega))
  have hcl2 := cut_len p1 [32]
  generalize Lib.cut p1 [32] = q at C2 HE hcl2
  obtain ⟨q1, q2, q3⟩ := q
  simp only at C2 HE hcl2
  have hq1 : (bs q1).size = q1.length := bs_size q1
  have hxa : ((bs p1).extract (bs q1).size (bs p1).size).size ≤ 10000 := by rw [ByteArray.size_extract]; omega
  have C3 : Hid (∀ w9, Below w.heap.size w w9 → Calls Try.prog 41 #[.string ((bs p1).extract (bs q1).size (bs p1).size)] w9 (Ra w9 (attrsR (p1.drop q1.length)))) := Lib.hid (fun w9 h => by
    have := ra_any ((bs p1).extract (bs q1).size (bs p1).size) w9 hxa (HM.out.on h)
    rw [ex_tail, bs_data, hq1] at this
    exact this)
  have C4 : Hid (∀ w9, Below w.heap.size w w9 → Calls Try.prog 12 #[.string (bs p2)] w9 (Gv w9 (rdAt f p2))) := Lib.hid (fun w9 h => by
    have := HR.out (bs p2) w9 (by omega) (by omega) (HM.out.on h)
    rw [bs_data] at this
    exact this)
  have HQ : Hid ((bs q1).data.toList = q1) := Lib.hid (bs_data q1)
  have HQ2 : Hid (bs q1 = bs q1) := Lib.hid rfl
  have hql : q1.length ≤ 10000 := by omega
  generalize attrsR (p1.drop q1.length) = ats at C3 HE
  obtain ⟨tag, htag⟩ : ∃ tag, bs q1 = tag := ⟨_, rfl⟩
  rw [htag] at C2 C3 HQ hq1
  have HTG := Lib.hid htag
  generalize bs p1 = b1 at C1 C2 C3 hp1
  obtain ⟨b2, hb2⟩ : ∃ b, bs p2 = b := ⟨_, rfl⟩
  rw [hb2] at C1 C4 hp2
  have HB2 := Lib.hid hb2
  generalize bs q2 = c2 at C2
  have Z : Hid (TB (w.alloc (.cells #[.string ⟨#[]⟩, .string ⟨#[]⟩, .string ⟨#[]⟩, .slice none 0 0, .slice none 0 0] 38)) w.heap.size zTV) := Lib.hid (TB.new w zTV)
  have BZ : Hid (Below w.heap.size w (w.alloc (.cells #[.string ⟨#[]⟩, .string ⟨#[]⟩, .string ⟨#[]⟩, .slice none 0 0, .slice none 0 0] 38))) := Lib.hid ((Below.refl _ _).alloc (Nat.le_refl _) _)
  have k1 : (1 : Int) ≤ (s.size : Int) := by omega
  have j0 : (0 : Int) ≤ (tag.size : Int) := by omega
  have j1 : (tag.size : Int) ≤ (b1.size : Int) := by omega
  have hts : tag.size ≤ 10000 := by omega
  clear hm RC hxa htag hb2 hxs HR hp1 hp2 hq1 hcl hcl2 hql HQ2
  go_enter Try.func25, Try.ntmps25
  go_upto_region 1 with fail
  generalize w.alloc (.cells #[.string ⟨#[]⟩, .string ⟨#[]⟩, .string ⟨#[]⟩, .slice none 0 0, .slice none 0 0] 38) = W0 at Z BZ ⊢
  go_wp2_with fail
  refine (C1.out W0 BZ.out).mono ?_
  rintro e w1 ⟨rfl, m1⟩
  have Z1 : Hid (TB w1 w.heap.size zTV) := Lib.hid (Z.out.below m1 Z.out.lt)
  have B1 : Hid (Below w.heap.size w w1) := Lib.hid (BZ.out.trans (m1.mono BZ.out.size))
  clear m1 C1 Z BZ
  go_wp2_with fail
  refine (C2.out w1 B1.out).mono ?_
  rintro e w2 ⟨rfl, m2⟩
  have Z2 : Hid (TB w2 w.heap.size zTV) := Lib.hid (Z1.out.below m2 Z1.out.lt)
  have B2 : Hid (Below w.heap.size w w2) := Lib.hid (B1.out.trans (m2.mono B1.out.size))
  clear m2 C2 Z1 B1
  go_wp2_with fail
  refine (C3.out w2 B2.out).mono ?_
  rintro e w3 ⟨A, n, c, rfl, own, m3⟩
  have Z3 : Hid (TB w3 w.heap.size zTV) := Lib.hid (Z2.out.below m3 Z2.out.lt)
  have B3 : Hid (Below w.heap.size w w3) := Lib.hid (B2.out.trans (m3.mono B2.out.size))
  have K3 := Lib.hid (KSt.start (tag := tag) Z3.out own B3.out)
  have hgg : w.heap.size < w3.heap.size := Z3.out.lt
  clear own m3 C3 Z2 B2
  go_upto_region 4 with fail
  generalize hg3 : w3.heap.size = g at K3 hgg ⊢
  generalize w3.alloc (.cells #[.string tag, .string ⟨#[]⟩, .string ⟨#[]⟩, .slice A n c, .slice none 0 0] 38) = W at K3 ⊢
  clear hg3 Z3 B3
  obtain ⟨bv, hbv⟩ : ∃ b, P1.voidB q1 = b := ⟨_, rfl⟩
  have HV : Hid (P1.voidB tag.data.toList = bv) := Lib.hid (by rw [HQ.out]; exact hbv)
  rw [hbv] at HE
  clear hbv
  go_wp2_with fail
  refine (P1.void_any tag W).mono ?_
  rintro e w' ⟨rfl, rfl⟩
  rw [HV.out]
  cases bv with
  | true =>
    have HEL : Hid (reF (rdAt f) s.data.toList = (elT q1 ats [], p2)) := Lib.hid HE.out
    have KST := K3
    have z0 := KST.out.z.c0; have z1 := KST.out.z.c1; have z2 := KST.out.z.c2; have z3 := KST.out.z.c3; have z4 := KST.out.z.c4
    have t0 := KST.out.tb.c0; have t1 := KST.out.tb.c1; have t2 := KST.out.tb.c2; have t3 := KST.out.tb.c3; have t4 := KST.out.tb.c4
    simp only [TV.tag, TV.txt, TV.key, TV.sa, TV.sk, zTV] at z0 z1 z2 z3 z4 t0 t1 t2 t3 t4
    have zf := KST.out.zf
    have hzl : w.heap.size < W.heap.size := KST.out.z.lt
    go_wp2_with fail
    refine bodyPost_ret (v := .tuple #[.agg #[.string tag, .string ⟨#[]⟩, .string ⟨#[]⟩, .slice A n c, .slice none 0 0], .string b2]) (by simp [results, Try.results25, go_sem, z0, z1, z2, z3, z4, hzl]) rfl ⟨.mk tag ⟨#[]⟩ ⟨#[]⟩ ⟨A, n, c⟩ ats ⟨none, 0, 0⟩ [], by rw [HEL.out]; exact ret_el HB2.out.symm, by rw [HEL.out, er, erL, elT, HTG.out], ?_, ?_⟩
    · exact (el_end KST.out.z KST.out.new KST.out.hb).1
    · exact (el_end KST.out.z KST.out.new KST.out.hb).2
  | false =>
    have CG := Lib.hid (C4.out W K3.out.hb)
    generalize rdAt f p2 = r at CG HE
    obtain ⟨r1, r2⟩ := r
    simp only at HE
    go_wp2_with fail
    refine CG.out.mono ?_
    rintro e w4 ⟨Ak, nk, ck, ks, rfl, her, own, new, m4⟩
    have KST := Lib.hid (K3.out.kids hgg m4 own new)
    have K4 := Lib.hid (K3.out.below m4)
    have t4 := K4.out.tb.c4
    simp only [TV.sk] at t4
    have gf := tb_frozen K4.out.tb
    have HER : Hid (erL ks = r1) := Lib.hid her
    have HRD : Hid ((bs r2).data.toList = r2) := Lib.hid (bs_data r2)
    
    simp only
    generalize bs r2 = rp at HRD
    clear her own new m4 CG C4
    go_upto_region 7 with fail
    generalize w4.setCell ⟨g, 4, none⟩ (.slice Ak nk ck) = W3 at KST ⊢
    have hgne : g ≠ w.heap.size := by omega
    have hgn2 : w.heap.size ≠ g := by omega
    clear t4 gf K4 K3
    obtain ⟨y1, hy1⟩ : ∃ y, (⟨#[60, 47]⟩ : ByteArray) ++ tag = y := ⟨_, rfl⟩
    have hy1s : y1.size ≤ 10002 := by rw [← hy1, ByteArray.size_append]; show 2 + _ ≤ _; omega
    obtain ⟨y2, hy2⟩ : ∃ y, y1 ++ (⟨#[62]⟩ : ByteArray) = y := ⟨_, rfl⟩
    have s1 : ∀ W : World, (Op.stringOp .add ⟨#[60, 47]⟩ tag).run Try.prog W = .ok (.string y1) W := fun W => hy1 ▸ run_string_add_sum W _ _ (by show 2 + _ ≤ _; omega)
    have s2 : ∀ W : World, (Op.stringOp .add y1 ⟨#[62]⟩).run Try.prog W = .ok (.string y2) W := fun W => hy2 ▸ run_string_add_sum W _ _ (by show _ + 1 ≤ _; omega)
    have HY : Hid (y2.data.toList = 60 :: 47 :: (q1 ++ [62])) := Lib.hid (by rw [← hy2, ← hy1]; simp [HQ.out])
    have CT : Hid (∀ w9, Calls Try.prog 43 #[.string rp, .string y2] w9 fun e w' => e = .returned (.string (bs (Lib.trimPrefix r2 (60 :: 47 :: (q1 ++ [62]))))) ∧ w9 = w') := Lib.hid (fun w9 => trim_at _ _ _ _ w9 HRD.out HY.out)
    have HEL : Hid (reF (rdAt f) s.data.toList = (elT q1 ats (erL ks), Lib.trimPrefix r2 (60 :: 47 :: (q1 ++ [62])))) := Lib.hid (by rw [HER.out]; exact HE.out)
    obtain ⟨tr, htr⟩ : ∃ y, bs (Lib.trimPrefix r2 (60 :: 47 :: (q1 ++ [62]))) = y := ⟨_, rfl⟩
    rw [htr] at CT
    have HTR := Lib.hid htr
    clear hy1 hy2 htr HE
    have z0 := KST.out.z.c0; have z1 := KST.out.z.c1; have z2 := KST.out.z.c2; have z3 := KST.out.z.c3; have z4 := KST.out.z.c4
    have t0 := KST.out.tb.c0; have t1 := KST.out.tb.c1; have t2 := KST.out.tb.c2; have t3 := KST.out.tb.c3; have t4 := KST.out.tb.c4
    simp only [TV.tag, TV.txt, TV.key, TV.sa, TV.sk, zTV] at z0 z1 z2 z3 z4 t0 t1 t2 t3 t4
    have zf := KST.out.zf
    have hzl : w.heap.size < W3.heap.size := KST.out.z.lt
    go_region_held3 (fun w' => w'.cell? ⟨g, 0, none⟩ = some (.string tag) ∧ w'.cell? ⟨g, 1, none⟩ = some (.string ⟨#[]⟩) ∧ w'.cell? ⟨g, 2, none⟩ = some (.string ⟨#[]⟩) ∧ w'.cell? ⟨g, 3, none⟩ = some (.slice A n c) ∧ w'.cell? ⟨g, 4, none⟩ = some (.slice Ak nk ck)) (first | go_keep | (simp [World.cell?_setCell_other, hgne, hgn2, *]; done)) ((first
      | (go_at_call 43; refine (CT.out _).mono ?_; rintro e w' ⟨rfl, rfl⟩)
      | fail))
    all_goals (go_wp2_with fail)
    all_goals (refine bodyPost_ret (v := .tuple #[.agg #[.string tag, .string ⟨#[]⟩, .string ⟨#[]⟩, .slice A n c, .slice Ak nk ck], .string tr]) (by simp [results, Try.results25, go_sem, z0, z1, z2, z3, z4, hzl]) rfl ⟨.mk tag ⟨#[]⟩ ⟨#[]⟩ ⟨A, n, c⟩ ats ⟨Ak, nk, ck⟩ ks, by rw [HEL.out]; exact ret_el HTR.out.symm, by rw [HEL.out, er, elT, HTG.out], ?_, ?_⟩)
    all_goals first
      | exact (el_end KST.out.z KST.out.new KST.out.hb).1
      | exact (el_end KST.out.z KST.out.new KST.out.hb).2
      | exact (el_endd KST.out.z KST.out.new KST.out.hb).1
      | exact (el_endd KST.out.z KST.out.new KST.out.hb).2
end Go.Proofs.Ytbdcbjeeaebfeaa.P10
