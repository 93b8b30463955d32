/- The walk of CodeBack, over the contracts of the program's Put and Get. No condition but those stated. -/
import Derived.Test.YtmddlcnogckmdaaLaw12b
import Derived.Laws.OwnMore
set_option linter.unusedVariables false
set_option linter.unusedSimpArgs false
namespace Go.Proofs.Ytmddlcnogckmdaa.P12
open Go.RowKit Kd P4 P5 P11

theorem Kd_own_setK {P : Program} {α : Type} {K : Kind P α} {w : World} {B g n c : Nat} {l : List α} (h : K.Own w B (.slice (some ⟨g, 0, none⟩) n c) l) {k : Nat} (hk : k < l.length) (a : α) :
    K.Own (w.setCells g (k * K.size) (K.cs a)) B (.slice (some ⟨g, 0, none⟩) n c) (l.set k a) := by
  rcases h.form with ⟨hv, _⟩ | ⟨g', c', cur, hv, _, hBg, hlt, hh, hnc, hcm, hcs, ht⟩
  · cases hv
  injection hv with e1 e2 e3
  injection e1 with e1
  injection e1 with e1
  subst e1; subst e2; subst e3
  obtain ⟨cur', h1, h2, h3⟩ := heap_setCells g (K.cs a) (k * K.size) w cur _ _ hh
  have hmul : l.length * K.size ≤ c * K.size := Nat.mul_le_mul_right _ hnc
  have hkm : (k + 1) * K.size ≤ l.length * K.size := Nat.mul_le_mul_right _ hk
  have hkm2 : (k + 1) * K.size = k * K.size + K.size := by rw [Nat.add_mul, Nat.one_mul]
  refine Kind.own_mk (by simp) hBg h1 hnc hcm (by rw [h2]; exact hcs) ?_
  apply List.ext_getElem?
  intro i
  have hpos := K.hpos
  rw [List.getElem?_take]
  by_cases hi : i < l.length * K.size
  · rw [if_pos hi, Array.getElem?_toList, h3 i (by omega), K.len]
    have hdm : i / K.size * K.size + i % K.size = i := by rw [Nat.mul_comm]; exact Nat.div_add_mod i K.size
    have hmod : i % K.size < K.size := Nat.mod_lt _ hpos
    have hdiv : i / K.size < l.length := by rw [Nat.div_lt_iff_lt_mul hpos]; exact hi
    have hat := K.cells_at (l.set k a) (i / K.size) (by simpa using hdiv) (i % K.size) hmod
    rw [hdm] at hat
    rw [hat, List.getElem_set]
    by_cases hik : k = i / K.size
    · subst hik
      rw [if_pos rfl, if_pos ⟨by omega, by omega⟩]
      congr 1
      omega
    · rw [if_neg hik]
      have hat2 := K.cells_at l (i / K.size) hdiv (i % K.size) hmod
      rw [hdm] at hat2
      rw [← hat2, ← ht, List.getElem?_take, if_pos hi, if_neg ?_, Array.getElem?_toList]
      rintro ⟨h5, h6⟩
      apply hik
      have h7 : k ≤ i / K.size := by rw [Nat.le_div_iff_mul_le hpos]; exact h5
      have h8 : i / K.size < k + 1 := by rw [Nat.div_lt_iff_lt_mul hpos]; omega
      omega
  · rw [if_neg hi, List.getElem?_eq_none]
    rw [Kind.cells_len, List.length_set]
    omega
theorem own_there {P : Program} {α : Type} {K : Kind P α} {w : World} {B g n c : Nat} {l : List α} (h : K.Own w B (.slice (some ⟨g, 0, none⟩) n c) l) {k : Nat} (hk : k < l.length) :
    ∀ j, j < K.size → (∃ u, w.cell? ⟨g, k * K.size + j, none⟩ = some u) ∧ w.frozen? ⟨g, k * K.size + j, none⟩ = false := by
  rcases h.form with ⟨hv, _⟩ | ⟨g', c', cur, hv, _, _, _, hh, hnc, _, hcs, _⟩
  · cases hv
  injection hv with e1 e2 e3
  injection e1 with e1
  injection e1 with e1
  subst e1; subst e3
  intro j hj
  have hkm : (k + 1) * K.size ≤ c * K.size := Nat.mul_le_mul_right _ (by omega)
  have hkm2 : (k + 1) * K.size = k * K.size + K.size := by rw [Nat.add_mul, Nat.one_mul]
  have hj2 : k * K.size + j < cur.size := by rw [hcs]; omega
  exact ⟨⟨_, by rw [cell_of_row w g (k * K.size + j) _ _ (0, 0) hh, Array.getElem?_eq_getElem hj2]⟩, by simp [World.frozen?, hh]⟩
theorem made_cells {P : Program} {α : Type} (K : Kind P α) (z : Array Value) (a : α) (hz : z.toList = K.cs a) (n : Nat) : (madeCells z (n * K.size)).toList = K.cells (List.replicate n a) := by
  have hzs : z.size = K.size := by rw [← Array.length_toList, hz, K.len]
  apply List.ext_getElem?
  intro i
  have hpos := K.hpos
  by_cases hi : i < n * K.size
  · have hdm : i / K.size * K.size + i % K.size = i := by rw [Nat.mul_comm]; exact Nat.div_add_mod i K.size
    have hmod : i % K.size < K.size := Nat.mod_lt _ hpos
    have hdiv : i / K.size < n := by rw [Nat.div_lt_iff_lt_mul hpos]; exact hi
    have hat := K.cells_at (List.replicate n a) (i / K.size) (by simpa using hdiv) (i % K.size) hmod
    rw [hdm, List.getElem_replicate] at hat
    rw [hat, ← hz, Array.getElem?_toList, Array.getElem?_toList]
    simp only [madeCells, Array.getElem?_map, Array.getElem?_range, hi, if_true, Option.map_some, hzs]
    rw [Array.getElem?_eq_getElem (by omega), getElem!_pos z _ (by omega)]
  · rw [List.getElem?_eq_none, List.getElem?_eq_none]
    · rw [Kind.cells_len, List.length_replicate]; omega
    · simp [madeCells]; omega
def zeroI : In := ⟨0, ⟨#[]⟩, ⟨#[]⟩⟩
def skipI : In := ⟨7, ⟨#[]⟩, ⟨#[]⟩⟩
theorem skip_may : mayI skipI = true := by
  simp only [skipI, mayI, c0]
  decide
def manyL (M k : Nat) : List In := List.replicate k skipI ++ List.replicate (M - k) zeroI
theorem manyL_len {M k : Nat} (h : k ≤ M) : (manyL M k).length = M := by simp [manyL]; omega
theorem manyL_set {M k : Nat} (h : k < M) : (manyL M k).set k skipI = manyL M (k + 1) := by
  unfold manyL
  obtain ⟨r, hr⟩ : ∃ r, M - k = r + 1 := ⟨M - k - 1, by omega⟩
  rw [hr, show M - (k + 1) = r by omega, List.set_append_right _ _ (by simp), List.length_replicate, Nat.sub_self, List.replicate_succ, List.set_cons_zero, List.replicate_succ', List.append_assoc]
  rfl
theorem make_many (W : World) (B M : Nat) (hB : B ≤ W.heap.size) (hM : M ≤ 1000) :
    ∃ w', (Instr.makeSlice 22 (.int .i64 (M : Int)) (.int .i64 (M : Int))).run Try.prog W = .ok (.slice (some ⟨W.heap.size, 0, none⟩) M M) w' ∧
      kX.Own w' B (.slice (some ⟨W.heap.size, 0, none⟩) M M) (manyL M 0) ∧ W.grownBy w' none := by
  obtain ⟨i0, hi, hz0, hz1, hz2⟩ := kX.info
  have hb : kX.bytes = 40 := rfl
  obtain ⟨w', h1, h2, h3⟩ := run_make_full (P := Try.prog) W B 22 32 i0 kX.z kX.size Try.underlying22 hi hz0 hz1 .i64 .i64 M (by rw [hz2, hb]; omega) (by unfold maxLen; omega) hB
  refine ⟨w', h1, ?_, h3⟩
  have e := made_cells kX kX.z.cells zeroI (by rfl) M
  rw [e] at h2
  have : manyL M 0 = List.replicate M zeroI := by simp [manyL]
  rw [this]
  show w'.ownsRow B kX.e kX.size _ (List.replicate M zeroI).length _
  rw [List.length_replicate]
  exact h2
def LRel (w : World) (g M : Nat) (lv s : Value) (wr : World) : Prop := ∃ (k : Nat) (A : Option Addr) (n c : Nat), k ≤ M ∧ s = .int .i64 k ∧ lv = .slice A n c ∧ Hid (kB.Own wr w.heap.size lv (List.replicate k 7)) ∧ Hid (kX.Own wr w.heap.size (.slice (some ⟨g, 0, none⟩) M M) (manyL M k)) ∧ Hid (Below w.heap.size w wr)
theorem putI_skips : ∀ M : Nat, putI (List.replicate M skipI) = List.replicate M 7
  | 0 => rfl
  | M + 1 => by
    rw [List.replicate_succ, putI_cons, putI_skips M, List.replicate_succ]
    rfl
theorem skips_put {M : Nat} (h : 120 < M) : putR (List.replicate M skipI) = ([], 13) := by
  rw [putR, if_pos (by rw [List.all_eq_true]; intro i hi; rw [(List.mem_replicate.1 hi).2]; exact skip_may), if_pos (by simpa using h)]
theorem skips_get {M : Nat} (h : 120 < M) : getP (List.replicate M 7) = ([], 13) := by
  rw [← putI_skips, getP]
  exact get_many _ _ [] (by intro i hi; rw [(List.mem_replicate.1 hi).2]; exact skip_may) (by simp) (by simpa using h) (by omega)
theorem putR_fine {l : List In} (h : (putR l).2 = 0) : (∀ i ∈ l, mayI i = true) ∧ l.length ≤ 120 ∧ putR l = (putI l, 0) := by
  unfold putR at h ⊢
  split at h
  · rename_i h1
    rw [if_pos h1]
    split at h
    · simp at h
    · rename_i h2
      rw [if_neg h2]
      exact ⟨fun i hi => List.all_eq_true.1 h1 i hi, by omega, rfl⟩
  · simp at h
theorem putR_codes (l : List In) : (putR l).2 = 0 ∨ (putR l).2 = 1 ∨ (putR l).2 = 13 := by
  unfold putR
  split
  · split <;> simp
  · simp
theorem getP_codes (b : List UInt8) : (getP b).2 = 0 ∨ (getP b).2 = 7 ∨ (getP b).2 = 13 := by
  unfold getP
  rcases getI_code (b.length + 1) b [] with h | h | h
  · exact .inl h
  · rw [h]; exact .inr (.inl rfl)
  · rw [h]; exact .inr (.inr rfl)
theorem ownB_form {w : World} {B : Nat} {A : Option Addr} {n c : Nat} {l : List UInt8} (h : kB.Own w B (.slice A n c) l) : l.length = n ∧ n ≤ c ∧ c ≤ maxLen ∧ (A = none → c = 0) ∧ kB.Holds w w.heap.size A l := by
  obtain ⟨A', n', c', hv, e1, e2, e3, e4, e5⟩ := h.slice
  injection hv with h1 h2 h3
  subst h1; subst h2; subst h3
  exact ⟨e1, e2, e3, e4, e5⟩
theorem skip_set {W : World} {B g M k : Nat} (h : kX.Own W B (.slice (some ⟨g, 0, none⟩) M M) (manyL M k)) (hk : k < M) :
    kX.Own (((W.setCell ⟨g, k * 3, none⟩ (.int .i64 7)).setCell ⟨g, k * 3 + 1, none⟩ (.string ⟨#[]⟩)).setCell ⟨g, k * 3 + 2, none⟩ (.string ⟨#[]⟩)) B (.slice (some ⟨g, 0, none⟩) M M) (manyL M (k + 1)) := by
  rw [← manyL_set hk]
  exact Kd_own_setK h (by rw [manyL_len (by omega)]; exact hk) skipI
theorem skip_but {W : World} {g k : Nat} : But (fun i => i = g) W (((W.setCell ⟨g, k * 3, none⟩ (.int .i64 7)).setCell ⟨g, k * 3 + 1, none⟩ (.string ⟨#[]⟩)).setCell ⟨g, k * 3 + 2, none⟩ (.string ⟨#[]⟩)) :=
  (((But.refl (fun i => i = g) W).setCell (S := fun i => i = g) (p := ⟨g, k * 3, none⟩) (fun _ => rfl) _).setCell (S := fun i => i = g) (p := ⟨g, k * 3 + 1, none⟩) (fun _ => rfl) _).setCell (S := fun i => i = g) (p := ⟨g, k * 3 + 2, none⟩) (fun _ => rfl) _
set_option maxRecDepth 100000 in
set_option maxHeartbeats 8000000 in
theorem backs12_any (PP : PutC) (PG : GetC) (l : List In) (A : Option Addr) (n c : Nat) (b : List UInt8) (A2 : Option Addr) (n2 c2 : Nat) (more : Int) (w : World) (hh : kX.Holds w w.heap.size A l) (hn : l.length = n) (hnc : n ≤ c) (hcm : c ≤ maxLen)
    (hh2 : kB.Holds w w.heap.size A2 b) (hn2 : b.length = n2) (hnc2 : n2 ≤ c2) (hcm2 : c2 ≤ maxLen) (hz2 : A2 = none → c2 = 0) :
    Calls Try.prog 5 #[.slice A n c, .slice A2 n2 c2, .int .i64 more] w fun e w' => e = .returned (.bool true) ∧ Below w.heap.size w w' := by
  have q1 := err_eql
  have q2 := err_eql_nil
  have q3 := err_neq_nil
  have q4 := nil_eql_nil
  have q5 := nil_neq_nil
  have HU := Lib.hid (up12_any PP PG)
  have KH := Lib.hid hh
  have KN := Lib.hid hn
  have KC := Lib.hid hcm
  have HP := Lib.hid PP
  have HG := Lib.hid PG
  have BH := Lib.hid hh2
  have BN := Lib.hid hn2
  have BC := Lib.hid hcm2
  have BZ := Lib.hid hz2
  have hcm' : c ≤ 9223372036854775807 := by unfold maxLen at hcm; omega
  have hcm2' : c2 ≤ 9223372036854775807 := by unfold maxLen at hcm2; omega
  have hnm : n ≤ maxLen := by omega
  clear hh hn hcm hh2 hn2 hcm2 hz2
  go_enter Try.func5, Try.ntmps5
  go_wp2_with fail
  refine (HU.out w).mono ?_
  rintro e w1 ⟨rfl, b1⟩
  have B1 := Lib.hid b1
  clear b1 HU
  go_wp2_with fail
  refine (fewX_any l A n c w1 KN.out hnm (KH.out.on B1.out)).mono ?_
  rintro e w' ⟨hv, rfl⟩
  rcases hv with rfl | ⟨rfl, hl150, hsm⟩
  · go_wp2_with fail
    go_ret
    exact ⟨rfl, B1.out⟩
  have HSM := Lib.hid hsm
  have h150 : n ≤ 150 := by have := KN.out; omega
  clear hl150 hsm
  by_cases h3 : 3000 < n2
  · go_wp2_with fail
    go_ret
    exact ⟨rfl, B1.out⟩
  by_cases hm1 : more < 1
  · go_wp2_with fail
    go_ret
    exact ⟨rfl, B1.out⟩
  by_cases hm2 : 20 < more
  · go_wp2_with fail
    go_ret
    exact ⟨rfl, B1.out⟩
  obtain ⟨M, hM⟩ : ∃ M : Nat, 120 + more = (M : Int) := ⟨(120 + more).toNat, by omega⟩
  have hM1000 : M ≤ 1000 := by omega
  have hM120 : 120 < M := by omega
  obtain ⟨q, hq⟩ : ∃ q, putR l = q := ⟨_, rfl⟩
  have CP : Hid (Calls Try.prog 8 #[.slice A n c] w1 (PutV w1 q)) := Lib.hid (by
    have := HP.out l A n c w1 (KH.out.on B1.out) KN.out hnc KC.out (by omega) HSM.out
    rw [hq] at this
    exact this)
  have HQ := Lib.hid hq
  have hqc : q.2 = 0 ∨ q.2 = 1 ∨ q.2 = 13 := hq ▸ putR_codes l
  clear hq
  obtain ⟨ql, qc⟩ := q
  simp only at hqc
  go_wp2_with fail
  refine CP.out.mono ?_
  rintro e w2 ⟨A3, n3, c3, rfl, e1, e2, e3, e4, e5, b2⟩
  have B2 := Lib.hid (B1.out.trans (b2.mono B1.out.size))
  have E1 : Hid (ql.length = n3) := Lib.hid e1
  have E5 : Hid (kB.Holds w2 w2.heap.size A3 ql) := Lib.hid e5
  have E3 := Lib.hid e3
  clear e1 e3 e4 e5 b2 CP
  simp only
  obtain ⟨ev, hev⟩ : ∃ v, errV (qc : Int) = v := ⟨_, rfl⟩
  rw [hev]
  go_upto_region 5 with (fail)
  go_cut [47] (fun s wx => s = .bool (decide (qc = 0)) ∧ Hid (wx = w2))
  case first =>
    by_cases hpz : qc = 0
    · obtain rfl : ev = .nilIface := by rw [← hev, hpz]; rfl
      go_wp2_with fail
      go_meet
      exact ⟨by simp [hpz], Lib.hid rfl⟩
    · obtain rfl : ev = .iface 33 (.int .i64 qc) := by rw [← hev]; unfold errV; rw [if_neg (by omega)]
      go_wp2_with fail
      go_meet
      exact ⟨by simp [hpz], Lib.hid rfl⟩
  case rest =>
  obtain ⟨rfl, hwx⟩ := hcut
  rw [hwx.out]
  clear hwx
  go_upto_if 47 with (fail)
  go_cut [] (fun wx => Hid (Below w.heap.size w wx))
  case first =>
   by_cases hqz : qc = 0
   · subst hqz
     obtain rfl : ev = .nilIface := hev.symm
     obtain ⟨f1, f2, f3⟩ := putR_fine (l := l) (by rw [HQ.out])
     have f4 : ql = putI l := by have := f3; rw [HQ.out] at this; injection this
     subst f4
     have hlen : n3 ≤ 100000 := by have := putI_len f1; have := E1.out; omega
     have CG : Hid (Calls Try.prog 11 #[.slice A3 n3 c3] w2 (GetV w2 (l, 0))) := Lib.hid (by
       have := HG.out (putI l) A3 n3 c3 w2 E5.out E1.out e2 E3.out hlen
       rw [show getP (putI l) = (l, 0) by rw [getP, get_put l _ [] f1 (by simpa using f2) (by omega)]; rfl] at this
       exact this)
     have e0 : errV (((0 : Nat)) : Int) = .nilIface := rfl
     go_wp2_with fail
     refine CG.out.mono ?_
     rintro e w3 ⟨A4, n4, c4, rfl, g1, g2, g3, g4, g5, b3⟩
     have B3 := Lib.hid (B2.out.trans (b3.mono B2.out.size))
     have G1 : Hid (l.length = n4) := Lib.hid g1
     have CS : Hid (Calls Try.prog 14 #[.slice A4 n4 c4, .slice A n c] w3 fun e w' => e = .returned (.bool true) ∧ Below w3.heap.size w3 w') := Lib.hid (by
       have := rsame_any l l A4 A n4 n c4 c w3 G1.out KN.out (by have := G1.out; have := KN.out; omega) (by omega) g5 (KH.out.on B3.out)
       rw [sameI_refl] at this
       exact this)
     simp only
     rw [e0]
     clear e0 g1 g3 g4 g5 b3 CG
     go_wp2_with fail
     refine CS.out.mono ?_
     rintro e w4 ⟨rfl, b4⟩
     have B4 := Lib.hid (B3.out.trans (b4.mono B3.out.size))
     clear b4 CS
     go_wp2_with fail
     go_meet
     exact B4
   · obtain rfl : ev = .iface 33 (.int .i64 qc) := by rw [← hev]; unfold errV; rw [if_neg (by omega)]
     go_wp2_with fail
     go_meet
     exact B2
  case rest =>
   obtain ⟨W, rfl⟩ : ∃ x, x = wc := ⟨_, rfl⟩
   have BW := hcut
   obtain ⟨p, hp⟩ : ∃ p, getP b = p := ⟨_, rfl⟩
   have CG : Hid (∀ w9, Below W.heap.size W w9 → Calls Try.prog 11 #[.slice A2 n2 c2] w9 (GetV w9 p)) := Lib.hid (fun w9 h9 => by
     have := HG.out b A2 n2 c2 w9 (BH.out.on (BW.out.trans (h9.mono BW.out.size))) BN.out hnc2 BC.out (by omega)
     rw [hp] at this
     exact this)
   have HPB := Lib.hid hp
   have hpc : p.2 = 0 ∨ p.2 = 7 ∨ p.2 = 13 := hp ▸ getP_codes b
   clear hp
   obtain ⟨pl, pc⟩ := p
   simp only at hpc
   go_wp2_with fail
   refine (CG.out W (Below.refl _ _)).mono ?_
   rintro e w5 ⟨A5, n5, c5, rfl, e1, e2, e3, e4, e5, b5⟩
   have B5 := Lib.hid (BW.out.trans (b5.mono BW.out.size))
   have E1 : Hid (pl.length = n5) := Lib.hid e1
   have E5 : Hid (kX.Holds w5 w5.heap.size A5 pl) := Lib.hid e5
   have E3 := Lib.hid e3
   clear e1 e3 e4 e5 b5 CG
   simp only
   obtain ⟨ev, hev⟩ : ∃ v, errV (pc : Int) = v := ⟨_, rfl⟩
   rw [hev]
   go_upto_region 10 with (fail)
   go_cut [67] (fun s wx => s = .bool (decide (pc = 0)) ∧ Hid (wx = w5))
   case first =>
     by_cases hpz : pc = 0
     · obtain rfl : ev = .nilIface := by rw [← hev, hpz]; rfl
       go_wp2_with fail
       go_meet
       exact ⟨by simp [hpz], Lib.hid rfl⟩
     · obtain rfl : ev = .iface 33 (.int .i64 pc) := by rw [← hev]; unfold errV; rw [if_neg (by omega)]
       go_wp2_with fail
       go_meet
       exact ⟨by simp [hpz], Lib.hid rfl⟩
   case rest =>
   obtain ⟨rfl, hwx⟩ := hcut
   rw [hwx.out]
   clear hwx
   go_upto_if 67 with (fail)
   go_cut [] (fun wx => Hid (Below w.heap.size w wx))
   case first =>
     by_cases hpz : pc = 0
     · subst hpz
       obtain rfl : ev = .nilIface := hev.symm
       obtain ⟨m, f1, f2, f3, f4⟩ := get_back (b.length + 1) b [] pl (by have := HPB.out; unfold getP at this; exact this) (by omega) (by simp)
       rw [List.nil_append] at f1
       subst f1
       have h120 : n5 ≤ 120 := by have := E1.out; omega
       have CP : Hid (Calls Try.prog 8 #[.slice A5 n5 c5] w5 (PutV w5 (b, 0))) := Lib.hid (by
         have := HP.out pl A5 n5 c5 w5 E5.out E1.out e2 E3.out (by omega) (fun i hi => by have := may_small (f3 i hi); omega)
         rw [show putR pl = (b, 0) by rw [putR, if_pos (by rw [List.all_eq_true]; exact f3), if_neg (by omega), f2]] at this
         exact this)
       have e0 : errV (((0 : Nat)) : Int) = .nilIface := rfl
       go_wp2_with fail
       refine CP.out.mono ?_
       rintro e w6 ⟨A6', n6', c6', rfl, g1, g2, g3, g4, g5, b6⟩
       have B6 := Lib.hid (B5.out.trans (b6.mono B5.out.size))
       have kc1 := conv_all g5 g1 g4 g2
       have kc2 := conv_all (BH.out.on B6.out) BN.out BZ.out hnc2
       have qs : (bs b).toList == (bs b).toList := by simp
       simp only
       rw [e0]
       clear e0 g1 g3 g4 g5 b6 CP
       go_wp2_with fail
       go_meet
       exact B6
     · obtain rfl : ev = .iface 33 (.int .i64 pc) := by rw [← hev]; unfold errV; rw [if_neg (by omega)]
       go_wp2_with fail
       go_meet
       exact B5
   case rest =>
     obtain ⟨W2, rfl⟩ : ∃ x, x = wc := ⟨_, rfl⟩
     have BX := hcut
     obtain ⟨wm, hmk, ownM, grM⟩ := make_many W2 W2.heap.size M (Nat.le_refl _) hM1000
     have BM : Hid (Below w.heap.size w wm) := Lib.hid (BX.out.grown grM BX.out.size (fun k hk => by cases hk))
     have BMW : Hid (Below W2.heap.size W2 wm) := Lib.hid ((Below.refl _ _).grown grM (Nat.le_refl _) (fun k hk => by cases hk))
     have gE : ∃ g, g = W2.heap.size := ⟨_, rfl⟩
     obtain ⟨g, hg⟩ := gE
     rw [← hg] at hmk ownM
     have ST : Hid (LRel W2 g M (.slice none 0 0) (.int .i64 0) wm) := Lib.hid ⟨0, none, 0, 0, by omega, rfl, rfl, Lib.hid ((Kind.Own.nil kB wm _)), Lib.hid (by rw [← hg]; exact ownM), BMW⟩
     have HGE := Lib.hid hg
     clear ownM grM hg
     go_wp2_with fail
     go_loopw [17, 18] (fun lv s wr => LRel W2 g M lv s wr) (fun _ s _ => M - (intOf s).toNat)
     case atStart => exact ST.out
     case round =>
       obtain ⟨k, A6, n6, c6, hk, rfl, rfl, OB, OX, HW⟩ := hrel
       clear ST hmk
       by_cases hkm : k < M
       · have KM := Lib.hid hkm
         have T := own_there OX.out (k := k) (by rw [manyL_len (by omega)]; exact hkm)
         obtain ⟨⟨u0, g0⟩, f0⟩ := T 0 (by decide)
         obtain ⟨⟨u1, g1⟩, f1⟩ := T 1 (by decide)
         obtain ⟨⟨u2, g2⟩, f2⟩ := T 2 (by decide)
         have g0 : wr.cell? ⟨g, k * 3, none⟩ = some u0 := g0
         have f0 : wr.frozen? ⟨g, k * 3, none⟩ = false := f0
         have g1 : wr.cell? ⟨g, k * 3 + 1, none⟩ = some u1 := g1
         have f1 : wr.frozen? ⟨g, k * 3 + 1, none⟩ = false := f1
         have g2 : wr.cell? ⟨g, k * 3 + 2, none⟩ = some u2 := g2
         have f2 : wr.frozen? ⟨g, k * 3 + 2, none⟩ = false := f2
         have O2 := Lib.hid (skip_set OX.out hkm)
         have hgw : W2.heap.size ≤ g := by have := HGE.out; omega
         have HW2 : Hid (Below W2.heap.size W2 (((wr.setCell ⟨g, k * 3, none⟩ (.int .i64 7)).setCell ⟨g, k * 3 + 1, none⟩ (.string ⟨#[]⟩)).setCell ⟨g, k * 3 + 2, none⟩ (.string ⟨#[]⟩))) := Lib.hid (HW.out.trans (skip_but.to_below (fun i _ hi => hi ▸ hgw) HW.out.size))
         have OB2 : Hid (kB.Own (((wr.setCell ⟨g, k * 3, none⟩ (.int .i64 7)).setCell ⟨g, k * 3 + 1, none⟩ (.string ⟨#[]⟩)).setCell ⟨g, k * 3 + 2, none⟩ (.string ⟨#[]⟩)) W2.heap.size (.slice A6 n6 c6) (List.replicate k 7)) := Lib.hid (OB.out.but skip_but (fun i hi e => by
           have hne := Kind.Own.ne_ OB.out OX.out (by decide)
           exact hne i hi (by rw [e]; rfl)))
         clear T OB OX hgw
         go_upto_region 20 with fail
         generalize (((wr.setCell ⟨g, k * 3, none⟩ (.int .i64 7)).setCell ⟨g, k * 3 + 1, none⟩ (.string ⟨#[]⟩)).setCell ⟨g, k * 3 + 2, none⟩ (.string ⟨#[]⟩)) = wx at O2 HW2 OB2 ⊢
         clear g0 g1 g2 f0 f1 f2
         have LD : Hid (kB.Holds (wx.alloc (.cells #[.int .u8 7] 5)) (wx.heap.size + 1) (some ⟨wx.heap.size, 0, none⟩) [7]) := Lib.hid (Kind.Holds.lit (heap_alloc_new wx _) (by simp [Kind.cells, kB]))
         have hwz := HW2.out.size
         go_upto_region 18 with (at_builtin; refine kB.wp_app rfl _ _ rfl (v := .slice A6 n6 c6) (l := List.replicate k 7) (m := [7]) (B := W2.heap.size) rfl (OB2.out.alloc _) rfl rfl (fun e => by cases e) LD.out (by simp; omega) (by simp; omega) ?_; intro v' w4 hown' hgrow hat; have HW4 : Hid (Below W2.heap.size W2 w4) := Lib.hid (below_app HW2.out OB2.out hwz hgrow); have OX4 : Hid (kX.Own w4 W2.heap.size (.slice (some ⟨g, 0, none⟩) M M) (manyL M (k + 1))) := Lib.hid ((O2.out.alloc _).grown hgrow (fun i hi e => (Kind.Own.ne_ O2.out OB2.out (by decide)) i hi e)); obtain ⟨A4, n4, c4, rfl, e1, e2, e3, e4, e5⟩ := hown'.slice; have O4 := Lib.hid hown'; clear hown' hgrow hat e1 e2 e3 e4 e5)
         go_wp2_with fail
         go_roundw
         case rel => exact ⟨k + 1, A4, n4, c4, by omega, by go_num, rfl, Lib.hid (by have := O4.out; rwa [← List.replicate_succ'] at this), OX4, HW4⟩
         case measure => simp [intOf]; omega
       · obtain rfl : k = M := by omega
         have BR := Lib.hid (BX.out.trans (HW.out.mono BX.out.size))
         have FX := ownX_is OX.out
         have hml : manyL k k = List.replicate k skipI := by simp [manyL]
         rw [hml] at FX
         have FB := ownB_form OB.out
         have CP : Hid (∀ w9, Below wr.heap.size wr w9 → Calls Try.prog 8 #[.slice (some ⟨g, 0, none⟩) k k] w9 (PutV w9 ([], 13))) := Lib.hid (fun w9 h9 => by
           have := HP.out (List.replicate k skipI) (some ⟨g, 0, none⟩) k k w9 (FX.2.2.2.2.on h9) (by simp) (Nat.le_refl _) (by unfold maxLen; omega) (by omega) (fun i hi => by rw [(List.mem_replicate.1 hi).2]; decide)
           rw [skips_put (by omega)] at this
           exact this)
         have CG : Hid (∀ w9, Below wr.heap.size wr w9 → Calls Try.prog 11 #[.slice A6 n6 c6] w9 (GetV w9 ([], 13))) := Lib.hid (fun w9 h9 => by
           have hl : n6 = k := by rw [← FB.1]; simp
           have := HG.out (List.replicate k 7) A6 n6 c6 w9 (FB.2.2.2.2.on h9) FB.1 FB.2.1 FB.2.2.1 (by omega)
           rw [skips_get (by omega)] at this
           exact this)
         have e13 : errV (((13 : Nat)) : Int) = .iface 33 (.int .i64 13) := rfl
         clear FX FB OB OX HW hml
         go_wp2_with fail
         refine (CP.out wr (Below.refl _ _)).mono ?_
         rintro e w7 ⟨A7, n7, c7, rfl, _, _, _, _, _, b7⟩
         have B7 := Lib.hid b7
         rw [e13]
         clear b7 CP
         go_wp2_with fail
         refine (CG.out w7 B7.out).mono ?_
         rintro e w8 ⟨A8, n8, c8, rfl, _, _, _, _, _, b8⟩
         have B8 := Lib.hid (BR.out.trans ((B7.out.trans (b8.mono B7.out.size)).mono BR.out.size))
         rw [e13]
         clear b8 CG B7
         go_wp2_with fail
         go_ret
         exact ⟨rfl, B8.out⟩

end Go.Proofs.Ytmddlcnogckmdaa.P12
