/- What an arena's calls answer (of *placket/api.Node), and what they leave. -/
import Derived.Deep.RegionHeld3
import Derived.Test.YtihjdmdafiifhaaGreatM3
set_option linter.unusedVariables false
set_option linter.unusedSimpArgs false
set_option linter.unusedVariables false
set_option linter.unusedSimpArgs false
namespace Go.Proofs.YtihjdmdafiifhaaGreat.P4
open Go.RowKit Kd

/-! ### New -/
def NewP (w : World) (R : Nat) (e : Ending) (w' : World) : Prop :=
  ∃ p : Nat, e = .returned (.tuple #[.pointer (some ⟨p, 0, none⟩), .nilIface]) ∧ ArP w' w.heap.size p R 0 (.slice none 0 0) [] ∧ Below w.heap.size w w'
set_option maxHeartbeats 400000 in
theorem newP_no (r : Int) (w : World) (h : r < 1 ∨ 200 < r) : Calls Tryz.prog 32 #[.int .i64 r] w fun e w' =>
    e = .returned (.tuple #[.pointer none, .iface 97 (.int .i64 1)]) ∧ w = w' := by
  by_cases h1 : r < 1
  · go_enter Tryz.func32, Tryz.ntmps32
    go_wp2
    go_ret2
    exact ⟨rfl, rfl⟩
  · have h2 : 200 < r := by omega
    go_enter Tryz.func32, Tryz.ntmps32
    go_wp2
    go_ret2
    exact ⟨rfl, rfl⟩
set_option maxHeartbeats 400000 in
theorem newP_yes (r : Int) (w : World) (h1 : 1 ≤ r) (h2 : r ≤ 200) : Calls Tryz.prog 32 #[.int .i64 r] w (NewP w r.toNat) := by
  obtain ⟨R, rfl⟩ := Int.eq_ofNat_of_zero_le (show 0 ≤ r by omega)
  have h3 : ¬ (R : Int) < 1 := by omega
  have h4 : ¬ 200 < (R : Int) := by omega
  have h5 : R ≤ 200 := by omega
  go_enter Tryz.func32, Tryz.ntmps32
  go_wp2
  go_ret2
  exact ⟨_, rfl, ⟨heap_alloc_new w _, Kind.Own.nil _ _ _, Nat.le_refl _, asc_nil, by omega, by simp, h5⟩, (Below.refl _ _).alloc (Nat.le_refl _) _⟩

/-! ### Live, Next, Room -/
section
variable {B p R : Nat} {n : Int} {v : Value} {l : List (Sl Nat)}
theorem nextP_any {m : Int} (w : World) (hn : n ≤ 100000) (hm : m = n + 1) (h : ArP w B p R n v l) : Calls Tryz.prog 58 #[.pointer (some ⟨p, 0, none⟩)] w fun e w' => e = .returned (.int .i64 m) ∧ w = w' := by
  subst hm
  have c1 := h.c1
  have hp := h.pos
  clear h
  go_enter Tryz.func58, Tryz.ntmps58
  go_wp2_with fail
  refine (load_any _ _ _ _ c1).mono ?_
  rintro e w' ⟨rfl, rfl⟩
  go_wp2
  go_ret
  exact ⟨rfl, rfl⟩
/-! ### Put -/
def PutP (w : World) (B p R : Nat) (n : Int) (v : Value) (l : List (Sl Nat)) (x : Nat) (e : Ending) (w' : World) : Prop :=
  e = .returned (.tuple #[.int .i64 (n + 1), .nilIface]) ∧ ∃ v', ArP w' B p R (n + 1) v' (l ++ [⟨n + 1, x⟩]) ∧ But (Arm p v) w w' ∧ ∀ g, v'.ownBlock = some g → v.ownBlock = some g ∨ w.heap.size ≤ g
set_option maxHeartbeats 1000000 in
theorem putP_full (x : Nat) (w : World) (hl : l.length = R) (h : ArP w B p R n v l) : Calls Tryz.prog 57 #[.pointer (some ⟨p, 0, none⟩), (.pointer (some ⟨x, 0, none⟩))] w fun e w' =>
    e = .returned (.tuple #[.int .i64 0, .iface 97 (.int .i64 6)]) ∧ Below w.heap.size w w' := by
  obtain ⟨A, k, c, rfl, hk, hkc, hcm, hz, hh⟩ := h.own.slice
  have c0 := h.c0
  have c2 := h.c2
  have hk2 : R ≤ k := by omega
  have hR : R ≤ 200 := h.room
  clear hh hz hcm hkc h hk hl
  go_enter Tryz.func57, Tryz.ntmps57
  go_wp2_with fail
  go_quiet (fail)
  go_wp2_with fail
  go_ret2
  exact ⟨rfl, Below_drewN (Below.refl _ _) _⟩
set_option maxHeartbeats 1000000 in
theorem putP_yes (x : Nat) (w : World) (hl : l.length < R) (hn : n ≤ 100000) (h : ArP w B p R n v l) : Calls Tryz.prog 57 #[.pointer (some ⟨p, 0, none⟩), (.pointer (some ⟨x, 0, none⟩))] w (PutP w B p R n v l x) := by
  obtain ⟨A, k, c, rfl, hk, hkc, hcm, hz, hh⟩ := h.own.slice
  have c0 := h.c0
  have c1 := h.c1
  have c2 := h.c2
  have f1 := h.frozen 1
  have H := Lib.hid h
  have hp := h.pos
  have hk2 : k < R := by omega
  have hR : R ≤ 200 := h.room
  have hkl := Lib.hid hk
  clear hh hz hcm hkc h hk hl
  go_enter Tryz.func57, Tryz.ntmps57
  go_wp2_with fail
  go_quiet (fail)
  go_wp2_with fail
  refine (add_any _ _ _ _ hp (by omega) (by exact c1) (by exact f1)).mono ?_
  rintro e w1 ⟨rfl, hw1⟩
  have blk1 : w1.heap[p]? = some (.cells #[.int .i64 R, .int .i64 (n + 1), .slice A k c] 116 (0, 0)) := by
    rw [← hw1]
    exact heap_set (by exact H.out.blk) 1 _
  have BLK := Lib.hid blk1
  have OWN : Hid (kSP.Own w1 B (.slice A k c) l) := Lib.hid (H.out.own.keep fun g hg => by
    rw [← hw1]
    exact Below.heap_setCell _ _ _ _ (by rintro rfl; exact H.out.apart hg))
  have BUT : Hid (But (Arm p (.slice A k c)) w w1) := Lib.hid (by
    rw [← hw1]
    exact But.setCell (But.drewN (But.refl _ _) _) (fun _ => .inl rfl) _)
  have c2' : w1.cell? ⟨p, 2, none⟩ = some (.slice A k c) := cell_of_row w1 p 2 _ _ (0, 0) blk1
  have hBw : B ≤ w1.heap.size := by have := H.out.base; have := H.out.lt; have := BUT.out.size; omega
  clear hw1 blk1 c0 c1 c2 f1
  go_wp2_with (at_builtin; refine kSP.wp_app rfl _ _ rfl (v := .slice A k c) (l := l) (m := [⟨n + 1, x⟩]) (B := B) rfl (OWN.out.alloc _) rfl rfl (fun e => by cases e) (Kind.Holds.lit (heap_alloc_new _ _) rfl) (by have := hkl.out; simp; omega) (by simp; omega) ?_; intro v' w2 hown hgrow hat; have blk2 : Hid (w2.heap[p]? = some (.cells #[.int .i64 R, .int .i64 (n + 1), .slice A k c] 116 (0, 0))) := Lib.hid ((hgrow.block p (heap_lt (heap_up BLK.out)) (fun e => H.out.apart e.symm)).trans (heap_up BLK.out)); have d2 : w2.cell? ⟨p, 2, none⟩ = some (.slice A k c) := cell_of_row w2 p 2 _ _ (0, 0) blk2.out; have g2 : w2.frozen? ⟨p, 2, none⟩ = false := (by have hb := blk2.out; simp [World.frozen?, hb]); obtain ⟨A2, k2, c2, rfl, _, _, _, _, _⟩ := hown.slice; have OWN2 := Lib.hid hown; have GROW := Lib.hid hgrow; have HAT : Hid (∀ g, (Value.slice A2 k2 c2).ownBlock = some g → (Value.slice A k c).ownBlock = some g ∨ w.heap.size ≤ g) := Lib.hid (by intro g hg; rcases hat with e | e <;> rw [e] at hg; (exact .inl hg); (have := BUT.out.size; simp at hg; exact .inr (by omega))); clear hown hgrow hat)
  go_ret2
  have hap : Hid (∀ g, Value.ownBlock (.slice A2 k2 c2) = some g → g ≠ p) := Lib.hid fun g hg e => by
    subst e
    obtain ⟨d, hd⟩ := OWN2.out.ty hg
    exact heap_ne hd blk2.out (by decide) rfl
  refine ⟨rfl, _, ⟨heap_set blk2.out 2 _, OWN2.out.keep fun g hg => Below.heap_setCell _ _ _ _ (hap.out g hg), H.out.base, asc_put H.out.asc hp x, by omega, by have := hkl.out; simp; omega, hR⟩, ?_, HAT.out⟩
  exact But.setCell (But.trans (BUT.out.alloc _) (But.of_grown (S := Arm p (.slice A k c)) GROW.out (fun g hg _ => .inr hg)) (fun _ _ h => h)) (fun _ => .inl rfl) _
end
end Go.Proofs.YtihjdmdafiifhaaGreat.P4

/- What an arena's Get, Set and Drop answer (of *placket/api.Node), and what they leave. -/
set_option linter.unusedVariables false
set_option linter.unusedSimpArgs false
namespace Go.Proofs.YtihjdmdafiifhaaGreat.P4
open Go.RowKit Kd
variable {B p R : Nat} {n : Int} {v : Value} {l : List (Sl Nat)}

theorem findP_at {t : Int} {k : Nat} {b : Bool} (w : World) (hk : posA l t = k) (hb : hasA l t = b) (h : ArP w B p R n v l) :
    Calls Tryz.prog 44 #[.pointer (some ⟨p, 0, none⟩), .int .i64 t] w fun e w' => e = .returned (.tuple #[.int .i64 k, .bool b]) ∧ Below w.heap.size w w' := by
  subst hk; subst hb
  exact findP_any t w h

theorem cellsP_set : ∀ (l : List (Sl Nat)) (k : Nat) (t : Int) (x : Nat), atB l k t = true → kSP.cells (l.set k ⟨t, x⟩) = (kSP.cells l).set (k * 2 + 1) (.pointer (some ⟨x, 0, none⟩))
  | [], k, t, x, h => by simp [atB] at h
  | s :: r, 0, t, x, h => by
    have : s.id = t := by simpa [atB] using h
    subst this
    rfl
  | s :: r, k + 1, t, x, h => by
    have := cellsP_set r k t x (by simpa [atB] using h)
    rw [show (k + 1) * 2 + 1 = (k * 2 + 1) + 1 + 1 by omega, List.set_cons_succ]
    simp only [Kind.cells, List.flatMap_cons] at this ⊢
    rw [this]
    rfl

/-! ### Get -/
set_option maxHeartbeats 400000 in
theorem getP_no (t : Int) (w : World) (ht : hasA l t = false) (h : ArP w B p R n v l) :
    Calls Tryz.prog 25 #[.pointer (some ⟨p, 0, none⟩), .int .i64 t] w fun e w' => e = .returned (.tuple #[(.pointer none), .bool false]) ∧ Below w.heap.size w w' := by
  have HT := Lib.hid ht
  have H := Lib.hid h
  clear ht h
  go_enter Tryz.func25, Tryz.ntmps25
  go_wp2_with fail
  refine (findP_at w rfl HT.out H.out).mono ?_
  rintro e w1 ⟨rfl, b1⟩
  have B1 := Lib.hid b1
  clear b1
  go_wp2_with fail
  go_ret2
  exact ⟨rfl, B1.out⟩
set_option maxHeartbeats 400000 in
theorem getP_at (t : Int) (k : Nat) {x : Nat} (w : World) (hk : k < l.length) (ht : l[k].id = t) (hx : l[k].x = x) (h : ArP w B p R n v l) :
    Calls Tryz.prog 25 #[.pointer (some ⟨p, 0, none⟩), .int .i64 t] w fun e w' => e = .returned (.tuple #[(.pointer (some ⟨x, 0, none⟩)), .bool true]) ∧ Below w.heap.size w w' := by
  subst hx
  have HP : Hid (posA l t = k) := by subst ht; exact posA_at h.asc hk
  have HT : Hid (hasA l t = true) := by subst ht; exact hasA_at h.asc hk
  obtain ⟨A, m, c, rfl, hm, hmc, hcm, hz, hh⟩ := h.own.slice
  have H := Lib.hid h
  have HH := Lib.hid hh
  have hkm : k < m := by omega
  have hm2 : m ≤ 200 := by have := h.len; have := h.room; omega
  clear ht h hh hz hm hcm
  go_enter Tryz.func25, Tryz.ntmps25
  go_wp2_with fail
  refine (findP_at w HP.out HT.out H.out).mono ?_
  rintro e w1 ⟨rfl, b1⟩
  have B1 := Lib.hid b1
  have c2 := (H.out.below b1 (Nat.le_refl _)).c2
  obtain ⟨b, o, rfl, hb, h0, h1⟩ := atP (HH.out.on b1) hk
  clear b1
  go_wp2_with fail
  go_ret2
  exact ⟨rfl, B1.out⟩

/-! ### Set -/
def SetP (w : World) (B p R : Nat) (n : Int) (v : Value) (l : List (Sl Nat)) (t : Int) (x : Nat) (e : Ending) (w' : World) : Prop :=
  e = .returned (.bool true) ∧ ArP w' B p R n v (l.set (posA l t) ⟨t, x⟩) ∧ But (Arm p v) w w'
/-! ### Drop -/
def DropP (w : World) (B p R : Nat) (n : Int) (v : Value) (l : List (Sl Nat)) (t : Int) (e : Ending) (w' : World) : Prop :=
  e = .returned (.bool true) ∧ ∃ v', ArP w' B p R n v' (l.eraseIdx (posA l t)) ∧ But (Arm p v) w w' ∧ v'.ownBlock = v.ownBlock
set_option maxHeartbeats 400000 in
theorem dropP_no (t : Int) (w : World) (ht : hasA l t = false) (h : ArP w B p R n v l) :
    Calls Tryz.prog 76 #[.pointer (some ⟨p, 0, none⟩), .int .i64 t] w fun e w' => e = .returned (.bool false) ∧ Below w.heap.size w w' := by
  have HT := Lib.hid ht
  have H := Lib.hid h
  clear ht h
  go_enter Tryz.func76, Tryz.ntmps76
  go_wp2_with fail
  refine (findP_at w rfl HT.out H.out).mono ?_
  rintro e w1 ⟨rfl, b1⟩
  have B1 := Lib.hid b1
  clear b1
  go_wp2_with fail
  go_ret
  exact ⟨rfl, B1.out⟩
set_option maxHeartbeats 400000 in
theorem dropP_yes (t : Int) (w : World) (ht : hasA l t = true) (h : ArP w B p R n v l) :
    Calls Tryz.prog 76 #[.pointer (some ⟨p, 0, none⟩), .int .i64 t] w (DropP w B p R n v l t) := by
  have HT := Lib.hid ht
  have hk : posA l t < l.length := atB_lt ht
  obtain ⟨k, hkp⟩ : ∃ k, k = posA l t := ⟨_, rfl⟩
  rw [← hkp] at hk
  have HP := Lib.hid hkp.symm
  rcases h.own.form with ⟨_, rfl⟩ | ⟨g, c, cur, rfl, _⟩
  · simp at hk
  obtain ⟨r, hr⟩ : ∃ r, l.length = k + 1 + r := ⟨l.length - (k + 1), by omega⟩
  rw [hr] at h ⊢
  have H := Lib.hid h
  have HR := Lib.hid hr
  have hm2 : k + 1 + r ≤ 200 := by have := h.len; have := h.room; omega
  clear ht h hr hkp hk
  go_enter Tryz.func76, Tryz.ntmps76
  go_wp2_with fail
  refine (findP_at w HP.out HT.out H.out).mono ?_
  rintro e w1 ⟨rfl, b1⟩
  have B1 := Lib.hid b1
  have H1 := Lib.hid (H.out.below b1 (Nat.le_refl _))
  have c2 := H1.out.c2
  clear b1
  go_wp2_with fail
  refine (deleteP_any g k r c w1 HR.out (by omega) H1.out.own).mono ?_
  rintro e w2 ⟨rfl, o2, b2⟩
  have hgp : Hid (¬ p = g) := Lib.hid fun e => H1.out.apart (by rw [e]; rfl)
  have B2 := Lib.hid b2
  have O2 := Lib.hid o2
  have blk2 : Hid (w2.heap[p]? = some (.cells #[.int .i64 R, .int .i64 n, .slice (some ⟨g, 0, none⟩) (k + 1 + r) c] 116 (0, 0))) := Lib.hid ((b2.block p H1.out.lt hgp.out).trans H1.out.blk)
  have d2 : w2.cell? ⟨p, 2, none⟩ = some (.slice (some ⟨g, 0, none⟩) (k + 1 + r) c) := cell_of_row w2 p 2 _ _ (0, 0) blk2.out
  have f2 : w2.frozen? ⟨p, 2, none⟩ = false := by have hb := blk2.out; simp [World.frozen?, hb]
  clear b2 o2 c2
  go_wp2_with fail
  go_ret
  refine ⟨rfl, _, ⟨heap_set blk2.out 2 _, ?_, H.out.base, asc_drop H.out.asc _, H.out.pos, ?_, H.out.room⟩, ?_, rfl⟩
  · rw [HP.out]
    exact O2.out.keep fun g' hg => Below.heap_setCell _ _ _ _ (by simp only [Value.ownBlock, Option.some.injEq] at hg; subst hg; exact fun e => hgp.out e.symm)
  · have := H.out.len
    have := List.length_eraseIdx_le l (posA l t)
    omega
  · exact But.setCell (But.trans (But.of_below B1.out (Arm p _)) B2.out (fun i _ hi => .inr (by subst hi; rfl))) (fun _ => .inl rfl) _
end Go.Proofs.YtihjdmdafiifhaaGreat.P4

/- An arena's Clone: another one, of the same slots, whose memory is all new. -/
set_option linter.unusedVariables false
set_option linter.unusedSimpArgs false
namespace Go.Proofs.YtihjdmdafiifhaaGreat.P4
open Go.RowKit Kd
variable {B p R : Nat} {n : Int} {v : Value} {l : List (Sl Nat)}

def CloneP (w : World) (R : Nat) (n : Int) (l : List (Sl Nat)) (e : Ending) (w' : World) : Prop :=
  ∃ (p : Nat) (v : Value), e = .returned (.pointer (some ⟨p, 0, none⟩)) ∧ ArP w' w.heap.size p R n v l ∧ Below w.heap.size w w'
end Go.Proofs.YtihjdmdafiifhaaGreat.P4

/- Trees told by functions: who is there, whose parent is who, whose children are who; leaving, coming, going; all below one. No condition. -/
set_option linter.unusedVariables false
set_option linter.unusedSimpArgs false
namespace Go.Proofs.YtihjdmdafiifhaaGreat.P5

/-- k steps up -/
def it (P : Int → Int) : Nat → Int → Int
  | 0, y => y
  | k + 1, y => it P k (P y)
theorem it_succ (P : Int → Int) : ∀ (k : Nat) (y : Int), it P (k + 1) y = P (it P k y)
  | 0, _ => rfl
  | k + 1, y => it_succ P k (P y)
theorem it_add (P : Int → Int) : ∀ (j k : Nat) (y : Int), it P (j + k) y = it P k (it P j y)
  | 0, k, y => by rw [Nat.zero_add]; rfl
  | j + 1, k, y => by rw [show j + 1 + k = (j + k) + 1 by omega]; exact it_add P j k (P y)

structure Tr (H : Int → Prop) (P : Int → Int) (K : Int → List Int) : Prop where
  z : ¬ H 0
  p0 : ∀ y, ¬ H y → P y = 0
  kid : ∀ x c, c ∈ K x → H x ∧ H c ∧ P c = x
  par : ∀ y, P y ≠ 0 → y ∈ K (P y)
  nod : ∀ x, (K x).Nodup
  acy : ∀ y, ∃ k, it P k y = 0

theorem nodup_len : ∀ (xs L : List Int), xs.Nodup → (∀ x ∈ xs, x ∈ L) → xs.length ≤ L.length
  | [], _, _, _ => by simp
  | x :: r, L, hn, hs => by
    have hx : x ∈ L := hs x (by simp)
    obtain ⟨h1, h2⟩ := List.nodup_cons.1 hn
    have := nodup_len r (L.erase x) h2 (fun y hy => (List.mem_erase_of_ne (by rintro rfl; exact h1 hy)).2 (hs y (by simp [hy])))
    rw [List.length_erase_of_mem hx] at this
    have hp : 0 < L.length := List.length_pos_of_mem hx
    simp only [List.length_cons]
    omega

section
variable {H : Int → Prop} {P : Int → Int} {K : Int → List Int}
theorem Tr.zero (h : Tr H P K) : P 0 = 0 := h.p0 0 h.z
theorem Tr.it0 (h : Tr H P K) : ∀ k, it P k 0 = 0
  | 0 => rfl
  | k + 1 => by show it P k (P 0) = 0; rw [h.zero]; exact h.it0 k
theorem Tr.it_ge (h : Tr H P K) {k j : Nat} {y : Int} (hk : it P k y = 0) (hj : k ≤ j) : it P j y = 0 := by
  obtain ⟨d, rfl⟩ := Nat.exists_eq_add_of_le hj
  rw [it_add, hk, h.it0]
theorem Tr.ne0 (h : Tr H P K) {y : Int} (hy : H y) : y ≠ 0 := fun e => h.z (e ▸ hy)
theorem Tr.hpar (h : Tr H P K) {y : Int} (hy : P y ≠ 0) : H (P y) := (h.kid _ _ (h.par y hy)).1
theorem Tr.h_of (h : Tr H P K) {y : Int} (hy : P y ≠ 0) : H y := (h.kid _ _ (h.par y hy)).2.1
theorem Tr.k0 (h : Tr H P K) {x : Int} (hx : ¬ H x) : K x = [] := by
  cases e : K x with
  | nil => rfl
  | cons c r => exact absurd (h.kid x c (by rw [e]; simp)).1 hx
theorem Tr.h_it (h : Tr H P K) {y : Int} (hy : H y) : ∀ i, it P i y ≠ 0 → H (it P i y)
  | 0, _ => hy
  | i + 1, hi => by rw [it_succ] at hi ⊢; exact h.hpar hi

/-- the first step at which nothing is above -/
def Dep (P : Int → Int) (y : Int) (k : Nat) : Prop := it P k y = 0 ∧ ∀ i, i < k → it P i y ≠ 0
theorem dep_of (P : Int → Int) : ∀ (k : Nat) (y : Int), it P k y = 0 → ∃ j, j ≤ k ∧ Dep P y j
  | 0, y, h => ⟨0, Nat.le_refl _, h, fun i hi => absurd hi (by omega)⟩
  | k + 1, y, h => by
    by_cases hy : y = 0
    · exact ⟨0, by omega, hy, fun i hi => absurd hi (by omega)⟩
    · obtain ⟨j, hj, h1, h2⟩ := dep_of P k (P y) h
      refine ⟨j + 1, by omega, h1, fun i hi => ?_⟩
      cases i with
      | zero => exact hy
      | succ i => exact h2 i (by omega)
theorem Tr.dep (h : Tr H P K) (y : Int) : ∃ k, Dep P y k := by
  obtain ⟨k, hk⟩ := h.acy y
  obtain ⟨j, _, hj⟩ := dep_of P k y hk
  exact ⟨j, hj⟩
theorem Tr.dep_inj (h : Tr H P K) {y : Int} {k : Nat} (hd : Dep P y k) {i j : Nat} (hij : i < j) (hj : j < k) : it P i y ≠ it P j y := by
  intro e
  have e2 : it P (i + (k - j)) y = it P (j + (k - j)) y := by rw [it_add, it_add, e]
  rw [show j + (k - j) = k by omega, hd.1] at e2
  exact hd.2 _ (by omega) e2
theorem Tr.dep_le (h : Tr H P K) {L : List Int} (hL : ∀ y, H y → y ∈ L) {y : Int} (hy : H y) {k : Nat} (hd : Dep P y k) : k ≤ L.length := by
  have := nodup_len ((List.range k).map fun i => it P i y) L ?_ ?_
  · simpa using this
  · rw [List.Nodup, List.pairwise_map]
    refine List.Pairwise.imp_of_mem ?_ List.pairwise_lt_range
    intro i j hi hj hij
    exact h.dep_inj hd hij (List.mem_range.1 hj)
  · intro x hx
    obtain ⟨i, hi, rfl⟩ := List.mem_map.1 hx
    exact hL _ (h.h_it hy i (hd.2 i (List.mem_range.1 hi)))
theorem Dep.kid {c y : Int} {k : Nat} (hc : c ≠ 0) (hp : P c = y) (hd : Dep P y k) : Dep P c (k + 1) := by
  subst hp
  refine ⟨hd.1, fun i hi => ?_⟩
  cases i with
  | zero => exact hc
  | succ i => exact hd.2 i (by omega)

/-! ### Leaving, coming, going -/
def setF {α : Type} (F : Int → α) (i : Int) (v : α) (y : Int) : α := if y = i then v else F y
theorem setF_same {α : Type} (F : Int → α) (i : Int) (v : α) : setF F i v i = v := by simp [setF]
theorem setF_ne {α : Type} (F : Int → α) {i y : Int} (v : α) (h : y ≠ i) : setF F i v y = F y := by simp [setF, h]
theorem acy_to (P Q : Int → Int) (i : Int) (hi : ∃ k, it Q k i = 0) (hQ : ∀ y, y ≠ i → Q y = P y) : ∀ (k : Nat) (y : Int), it P k y = 0 → ∃ j, it Q j y = 0
  | 0, y, h => ⟨0, h⟩
  | k + 1, y, h => by
    by_cases e : y = i
    · subst e; exact hi
    · obtain ⟨j, hj⟩ := acy_to P Q i hi hQ k (P y) h
      exact ⟨j + 1, by show it Q j (Q y) = 0; rw [hQ y e]; exact hj⟩
theorem Tr.leave (h : Tr H P K) (i : Int) : Tr H (setF P i 0) (setF K (P i) ((K (P i)).filter fun c => decide (c ≠ i))) := by
  have key : ∀ x c, c ∈ setF K (P i) ((K (P i)).filter fun c => decide (c ≠ i)) x ↔ c ∈ K x ∧ c ≠ i := by
    intro x c
    by_cases e : x = P i
    · subst e; rw [setF_same]; simp
    · rw [setF_ne _ _ e]
      refine ⟨fun hc => ⟨hc, ?_⟩, fun hc => hc.1⟩
      rintro rfl
      exact e (h.kid _ _ hc).2.2.symm
  refine ⟨h.z, fun y hy => ?_, fun x c hc => ?_, fun y hy => ?_, fun x => ?_, fun y => ?_⟩
  · by_cases e : y = i
    · subst e; rw [setF_same]
    · rw [setF_ne _ _ e]; exact h.p0 y hy
  · obtain ⟨h1, h2⟩ := (key x c).1 hc
    obtain ⟨a, b, d⟩ := h.kid x c h1
    exact ⟨a, b, by rw [setF_ne _ _ h2]; exact d⟩
  · by_cases e : y = i
    · subst e; rw [setF_same] at hy; exact absurd rfl hy
    · rw [setF_ne _ _ e] at hy ⊢
      exact (key _ _).2 ⟨h.par y hy, e⟩
  · by_cases e : x = P i
    · subst e; rw [setF_same]; exact (h.nod _).filter _
    · rw [setF_ne _ _ e]; exact h.nod x
  · obtain ⟨k, hk⟩ := h.acy y
    refine acy_to P _ i ⟨1, ?_⟩ (fun z hz => setF_ne _ _ hz) k y hk
    show setF P i 0 i = 0
    exact setF_same _ _ _
theorem Tr.come (h : Tr H P K) {i p : Int} (hi : H i) (hp : H p) (h0 : P i = 0) (hno : ∀ j, it P j p ≠ i) {L : List Int} (hL : ∀ c, c ∈ L ↔ c = i ∨ c ∈ K p) (hn : L.Nodup) : Tr H (setF P i p) (setF K p L) := by
  have hp0 := h.ne0 hp
  refine ⟨h.z, fun y hy => ?_, fun x c hc => ?_, fun y hy => ?_, fun x => ?_, fun y => ?_⟩
  · by_cases e : y = i
    · subst e; exact absurd hi hy
    · rw [setF_ne _ _ e]; exact h.p0 y hy
  · by_cases e : x = p
    · subst e
      rw [setF_same] at hc
      rcases (hL c).1 hc with rfl | hc
      · exact ⟨hp, hi, setF_same _ _ _⟩
      · obtain ⟨a, b, d⟩ := h.kid x c hc
        exact ⟨a, b, by rw [setF_ne _ _ (by rintro rfl; exact hp0 (d.symm.trans h0))]; exact d⟩
    · rw [setF_ne _ _ e] at hc
      obtain ⟨a, b, d⟩ := h.kid x c hc
      exact ⟨a, b, by rw [setF_ne _ _ (by rintro rfl; rw [h0] at d; subst d; exact h.z a)]; exact d⟩
  · by_cases e : y = i
    · subst e; rw [setF_same, setF_same]; exact (hL y).2 (.inl rfl)
    · rw [setF_ne _ _ e] at hy ⊢
      have := h.par y hy
      by_cases e2 : P y = p
      · rw [e2, setF_same]; exact (hL y).2 (.inr (e2 ▸ this))
      · rw [setF_ne _ _ e2]; exact this
  · by_cases e : x = p
    · subst e; rw [setF_same]; exact hn
    · rw [setF_ne _ _ e]; exact h.nod x
  · have same : ∀ j, it (setF P i p) j p = it P j p := by
      intro j
      induction j with
      | zero => rfl
      | succ j ih => rw [it_succ, it_succ, ih, setF_ne _ _ (hno j)]
    obtain ⟨kp, hkp⟩ := h.acy p
    obtain ⟨k, hk⟩ := h.acy y
    refine acy_to P _ i ⟨kp + 1, ?_⟩ (fun z hz => setF_ne _ _ hz) k y hk
    show it (setF P i p) kp (setF P i p i) = 0
    rw [setF_same, same]; exact hkp
theorem Tr.go (h : Tr H P K) {i : Int} (S : Int → Prop) (h0 : P i = 0) (hk : ∀ x c, S x → c ∈ K x → S c) (hp : ∀ c, S c → c ≠ i → S (P c))
    {P' : Int → Int} {K' : Int → List Int} (hP1 : ∀ y, S y → P' y = 0) (hP2 : ∀ y, ¬ S y → P' y = P y) (hK1 : ∀ y, S y → K' y = []) (hK2 : ∀ y, ¬ S y → K' y = K y) : Tr (fun y => H y ∧ ¬ S y) P' K' := by
  have dec : ∀ y, S y ∨ ¬ S y := fun y => Classical.em _
  refine ⟨fun h1 => h.z h1.1, fun y hy => ?_, fun x c hc => ?_, fun y hy => ?_, fun x => ?_, fun y => ?_⟩
  · rcases dec y with e | e
    · exact hP1 y e
    · rw [hP2 y e]; exact h.p0 y (fun hh => hy ⟨hh, e⟩)
  · rcases dec x with e | e
    · rw [hK1 x e] at hc; simp at hc
    · rw [hK2 x e] at hc
      obtain ⟨a, b, d⟩ := h.kid x c hc
      have hs : ¬ S c := by
        intro hs
        by_cases e2 : c = i
        · subst e2; rw [h0] at d; subst d; exact h.z a
        · exact e (d ▸ hp c hs e2)
      exact ⟨⟨a, e⟩, ⟨b, hs⟩, by rw [hP2 c hs]; exact d⟩
  · rcases dec y with e | e
    · exact absurd (hP1 y e) hy
    · rw [hP2 y e] at hy ⊢
      have hm := h.par y hy
      have : ¬ S (P y) := fun hs => e (hk _ _ hs hm)
      rw [hK2 _ this]; exact hm
  · rcases dec x with e | e
    · rw [hK1 x e]; exact List.nodup_nil
    · rw [hK2 x e]; exact h.nod x
  · have : ∀ (k : Nat) (y : Int), it P k y = 0 → ∃ j, it P' j y = 0 := by
      intro k
      induction k with
      | zero => exact fun y hy => ⟨0, hy⟩
      | succ k ih =>
        intro y hy
        rcases dec y with e | e
        · exact ⟨1, hP1 y e⟩
        · obtain ⟨j, hj⟩ := ih (P y) hy
          exact ⟨j + 1, by show it P' j (P' y) = 0; rw [hP2 y e]; exact hj⟩
    obtain ⟨k, hk'⟩ := h.acy y
    exact this k y hk'

/-! ### All below one -/
def sub (K : Int → List Int) : Nat → Int → List Int
  | 0, _ => []
  | f + 1, x => x :: (K x).flatMap (sub K f)
/-- what is below x ends within f steps -/
def Hb (K : Int → List Int) : Nat → Int → Prop
  | 0, _ => False
  | f + 1, x => ∀ c ∈ K x, Hb K f c
theorem sub_self {f : Nat} {x : Int} (h : Hb K f x) : x ∈ sub K f x := by
  cases f with
  | zero => exact h.elim
  | succ f => simp [sub]
theorem sub_kid : ∀ (f : Nat) (x y c : Int), Hb K f x → y ∈ sub K f x → c ∈ K y → c ∈ sub K f x
  | 0, _, _, _, h, _, _ => h.elim
  | f + 1, x, y, c, h, hy, hc => by
    simp only [sub, List.mem_cons, List.mem_flatMap] at hy ⊢
    rcases hy with rfl | ⟨d, hd, hy⟩
    · exact .inr ⟨c, hc, sub_self (h c hc)⟩
    · exact .inr ⟨d, hd, sub_kid f d y c (h d hd) hy hc⟩
theorem Tr.sub_par (h : Tr H P K) : ∀ (f : Nat) (x y : Int), Hb K f x → y ∈ sub K f x → y ≠ x → P y ∈ sub K f x
  | 0, _, _, hb, _, _ => hb.elim
  | f + 1, x, y, hb, hy, hne => by
    simp only [sub, List.mem_cons, List.mem_flatMap] at hy ⊢
    rcases hy with rfl | ⟨d, hd, hy⟩
    · exact absurd rfl hne
    · by_cases e : y = d
      · subst e; exact .inl (h.kid _ _ hd).2.2
      · exact .inr ⟨d, hd, h.sub_par f d y (hb d hd) hy e⟩
theorem Tr.sub_it (h : Tr H P K) : ∀ (f : Nat) (x y : Int), y ∈ sub K f x → ∃ j, it P j y = x
  | 0, _, _, hy => by simp [sub] at hy
  | f + 1, x, y, hy => by
    simp only [sub, List.mem_cons, List.mem_flatMap] at hy
    rcases hy with rfl | ⟨d, hd, hy⟩
    · exact ⟨0, rfl⟩
    · obtain ⟨j, hj⟩ := h.sub_it f d y hy
      exact ⟨j + 1, by rw [it_succ, hj]; exact (h.kid _ _ hd).2.2⟩
theorem Tr.sub_h (h : Tr H P K) : ∀ (f : Nat) (x y : Int), H x → y ∈ sub K f x → H y
  | 0, _, _, _, hy => by simp [sub] at hy
  | f + 1, x, y, hx, hy => by
    simp only [sub, List.mem_cons, List.mem_flatMap] at hy
    rcases hy with rfl | ⟨d, hd, hy⟩
    · exact hx
    · exact h.sub_h f d y (h.kid _ _ hd).2.1 hy
/-- none is above itself -/
theorem Tr.no_cycle (h : Tr H P K) {x : Int} (hx : x ≠ 0) {j : Nat} (hj : it P (j + 1) x = x) : False := by
  have : ∀ m, it P (m * (j + 1)) x = x := by
    intro m
    induction m with
    | zero => rw [Nat.zero_mul]; rfl
    | succ m ih => rw [Nat.succ_mul, it_add, ih, hj]
  obtain ⟨k, hk⟩ := h.acy x
  have h2 := h.it_ge (j := k * (j + 1)) hk (Nat.le_mul_of_pos_right _ (by omega))
  rw [this] at h2
  exact hx h2
theorem Tr.sub_apart (h : Tr H P K) {x c d e : Int} {i j : Nat} (hc : c ∈ K x) (hd : d ∈ K x) (hi : it P i e = c) (hj : it P j e = d) (hij : i < j) : False := by
  obtain ⟨m, rfl⟩ : ∃ m, j = i + (m + 1) := ⟨j - i - 1, by omega⟩
  rw [it_add, hi] at hj
  obtain ⟨hx, hcH, hcx⟩ := h.kid _ _ hc
  obtain ⟨_, _, hdx⟩ := h.kid _ _ hd
  have h1 : it P (m + 1) x = x := by
    have : it P (m + 1 + 1) c = x := by rw [it_succ, hj, hdx]
    have h2 : it P (1 + (m + 1)) c = x := by rw [Nat.add_comm]; exact this
    rw [it_add] at h2
    have h3 : it P 1 c = x := hcx
    rwa [h3] at h2
  exact h.no_cycle (h.ne0 hx) h1
theorem Tr.sub_nodup (h : Tr H P K) : ∀ (f : Nat) (x : Int), H x → (sub K f x).Nodup
  | 0, _, _ => List.nodup_nil
  | f + 1, x, hx => by
    rw [sub, List.nodup_cons]
    refine ⟨fun hm => ?_, ?_⟩
    · obtain ⟨c, hc, hm⟩ := List.mem_flatMap.1 hm
      obtain ⟨j, hj⟩ := h.sub_it f c x hm
      exact h.no_cycle (h.ne0 hx) (j := j) (by rw [it_succ, hj]; exact (h.kid _ _ hc).2.2)
    · have : ∀ L : List Int, (∀ c ∈ L, c ∈ K x) → L.Nodup → (L.flatMap (sub K f)).Nodup := by
        intro L
        induction L with
        | nil => intro _ _; exact List.nodup_nil
        | cons c r ih =>
          intro hL hn
          obtain ⟨h1, h2⟩ := List.nodup_cons.1 hn
          rw [List.flatMap_cons, List.nodup_append]
          refine ⟨h.sub_nodup f c (h.kid _ _ (hL c (by simp))).2.1, ih (fun d hd => hL d (by simp [hd])) h2, fun a ha b hb => ?_⟩
          rintro rfl
          obtain ⟨d, hd, hb⟩ := List.mem_flatMap.1 hb
          obtain ⟨i, hi⟩ := h.sub_it f c a ha
          obtain ⟨j, hj⟩ := h.sub_it f d a hb
          rcases Nat.lt_trichotomy i j with hl | hl | hl
          · exact h.sub_apart (hL c (by simp)) (hL d (by simp [hd])) hi hj hl
          · subst hl; rw [hi] at hj; subst hj; exact h1 hd
          · exact h.sub_apart (hL d (by simp [hd])) (hL c (by simp)) hj hi hl
      exact this _ (fun c hc => hc) (h.nod x)
theorem Tr.hb (h : Tr H P K) {L : List Int} (hL : ∀ y, H y → y ∈ L) : ∀ (f : Nat) (y : Int) (k : Nat), H y → Dep P y k → L.length < f + k → Hb K f y
  | 0, y, k, hy, hd, hf => by have := h.dep_le hL hy hd; omega
  | f + 1, y, k, hy, hd, hf => fun c hc => by
    obtain ⟨_, hcH, hcp⟩ := h.kid _ _ hc
    exact h.hb hL f c (k + 1) hcH (hd.kid (h.ne0 hcH) hcp) (by omega)
theorem Tr.hb_all (h : Tr H P K) {L : List Int} (hL : ∀ y, H y → y ∈ L) {y : Int} (hy : H y) : Hb K (L.length + 1) y := by
  obtain ⟨k, hk⟩ := h.dep y
  exact h.hb hL _ y k hy hk (by omega)

/-! ### All above one -/
def up (H : Int → Bool) (P : Int → Int) : Nat → Int → List Int
  | 0, _ => []
  | f + 1, x => if H x = true then x :: up H P f (P x) else []
end
section
variable {H : Int → Bool} {P : Int → Int} {K : Int → List Int}
theorem up_it : ∀ (f : Nat) (a b : Int), b ∈ up H P f a → ∃ j, it P j a = b ∧ H b = true
  | 0, _, _, h => by simp [up] at h
  | f + 1, a, b, h => by
    rw [up] at h
    split at h
    · rename_i ha
      rcases List.mem_cons.1 h with rfl | h
      · exact ⟨0, rfl, ha⟩
      · obtain ⟨j, hj, hb⟩ := up_it f (P a) b h
        exact ⟨j + 1, hj, hb⟩
    · simp at h
theorem Tr.it_up (h : Tr (fun y => H y = true) P K) : ∀ (f : Nat) (a : Int) (k j : Nat), H a = true → Dep P a k → j < k → j < f → it P j a ∈ up H P f a
  | 0, _, _, _, _, _, _, hf => absurd hf (by omega)
  | f + 1, a, k, j, ha, hd, hj, hf => by
    rw [up, if_pos ha]
    cases j with
    | zero => exact List.mem_cons.2 (.inl rfl)
    | succ j =>
      have hp : P a ≠ 0 := hd.2 1 (by omega)
      cases k with
      | zero => omega
      | succ k =>
        exact List.mem_cons.2 (.inr (h.it_up f (P a) k j (h.hpar hp) ⟨hd.1, fun i hi => hd.2 (i + 1) (by omega)⟩ (by omega) (by omega)))
/-- what isn't above a, told by the list, isn't above it -/
theorem Tr.not_up (h : Tr (fun y => H y = true) P K) {L : List Int} (hL : ∀ y, H y = true → y ∈ L) {a b : Int} (ha : H a = true) (hb : H b = true) (hn : b ∉ up H P (L.length + 1) a) (j : Nat) : it P j a ≠ b := by
  intro e
  obtain ⟨k, hk⟩ := h.dep a
  have hkl := h.dep_le hL ha hk
  by_cases hj : j < k
  · exact hn (e ▸ h.it_up _ a k j ha hk hj (by omega))
  · have := h.it_ge hk.1 (by omega : k ≤ j)
    rw [this] at e
    subst e
    exact h.z hb
end
end Go.Proofs.YtihjdmdafiifhaaGreat.P5
