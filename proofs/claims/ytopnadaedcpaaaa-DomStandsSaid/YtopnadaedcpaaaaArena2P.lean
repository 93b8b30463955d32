/- What an arena's Get, Set and Drop answer (of *placket/api.Node), and what they leave. -/
import Derived.Test.YtopnadaedcpaaaaArenaP
namespace Go.Proofs.Ytopnadaedcpaaaa.P4
open Go.RowKit Kd
variable {B p R : Nat} {n : Int} {v : Value} {l : List (Sl Nat)}

theorem findP_at {t : Int} {k : Nat} {b : Bool} (w : World) (hk : posA l t = k) (hb : hasA l t = b) (h : ArP w B p R n v l) :
    Calls Try.prog 52 #[.pointer (some ⟨p, 0, none⟩), .int .i64 t] w fun e w' => e = .returned (.tuple #[.int .i64 k, .bool b]) ∧ Below w.heap.size w w' := by
  subst hk; subst hb
  exact findP_any t w h

theorem cellsP_set : ∀ (l : List (Sl Nat)) (k : Nat) (t : Int) (x : Nat), atB l k t = true → kSP.cells (l.set k ⟨t, x⟩) = (kSP.cells l).set (k * 2 + 1) (.pointer (some ⟨x, 0, none⟩))
  | [], k, t, x, h => by simp [atB] at h
  | s :: r, 0, t, x, h => by
    have : s.id = t := by simpa [atB] using h
    subst this
    rfl
  | s :: r, k + 1, t, x, h => by
    have := cellsP_set r k t x (by simpa [atB] using h)
    rw [show (k + 1) * 2 + 1 = (k * 2 + 1) + 1 + 1 by omega, List.set_cons_succ]
    simp only [Kind.cells, List.flatMap_cons] at this ⊢
    rw [this]
    rfl

/-! ### Get -/
set_option maxHeartbeats 400000 in
theorem getP_no (t : Int) (w : World) (ht : hasA l t = false) (h : ArP w B p R n v l) :
    Calls Try.prog 30 #[.pointer (some ⟨p, 0, none⟩), .int .i64 t] w fun e w' => e = .returned (.tuple #[(.pointer none), .bool false]) ∧ Below w.heap.size w w' := by
  have HT := Lib.hid ht
  have H := Lib.hid h
  clear ht h
  go_enter Try.func30, Try.ntmps30
  go_wp2_with fail
  refine (findP_at w rfl HT.out H.out).mono ?_
  rintro e w1 ⟨rfl, b1⟩
  have B1 := Lib.hid b1
  clear b1
  go_wp2_with fail
  go_ret2
  exact ⟨rfl, B1.out⟩
set_option maxHeartbeats 400000 in
theorem getP_at (t : Int) (k : Nat) {x : Nat} (w : World) (hk : k < l.length) (ht : l[k].id = t) (hx : l[k].x = x) (h : ArP w B p R n v l) :
    Calls Try.prog 30 #[.pointer (some ⟨p, 0, none⟩), .int .i64 t] w fun e w' => e = .returned (.tuple #[(.pointer (some ⟨x, 0, none⟩)), .bool true]) ∧ Below w.heap.size w w' := by
  subst hx
  have HP : Hid (posA l t = k) := by subst ht; exact posA_at h.asc hk
  have HT : Hid (hasA l t = true) := by subst ht; exact hasA_at h.asc hk
  obtain ⟨A, m, c, rfl, hm, hmc, hcm, hz, hh⟩ := h.own.slice
  have H := Lib.hid h
  have HH := Lib.hid hh
  have hkm : k < m := by omega
  have hm2 : m ≤ 200 := by have := h.len; have := h.room; omega
  clear ht h hh hz hm hcm
  go_enter Try.func30, Try.ntmps30
  go_wp2_with fail
  refine (findP_at w HP.out HT.out H.out).mono ?_
  rintro e w1 ⟨rfl, b1⟩
  have B1 := Lib.hid b1
  have c2 := (H.out.below b1 (Nat.le_refl _)).c2
  obtain ⟨b, o, rfl, hb, h0, h1⟩ := atP (HH.out.on b1) hk
  clear b1
  go_wp2_with fail
  go_ret2
  exact ⟨rfl, B1.out⟩

/-! ### Set -/
def SetP (w : World) (B p R : Nat) (n : Int) (v : Value) (l : List (Sl Nat)) (t : Int) (x : Nat) (e : Ending) (w' : World) : Prop :=
  e = .returned (.bool true) ∧ ArP w' B p R n v (l.set (posA l t) ⟨t, x⟩) ∧ But (Arm p v) w w'
set_option maxHeartbeats 400000 in
theorem setP_no (t : Int) (x : Nat) (w : World) (ht : hasA l t = false) (h : ArP w B p R n v l) :
    Calls Try.prog 36 #[.pointer (some ⟨p, 0, none⟩), .int .i64 t, (.pointer (some ⟨x, 0, none⟩))] w fun e w' => e = .returned (.bool false) ∧ Below w.heap.size w w' := by
  have HT := Lib.hid ht
  have H := Lib.hid h
  clear ht h
  go_enter Try.func36, Try.ntmps36
  go_wp2_with fail
  refine (findP_at w rfl HT.out H.out).mono ?_
  rintro e w1 ⟨rfl, b1⟩
  have B1 := Lib.hid b1
  clear b1
  go_wp2_with fail
  go_ret
  exact ⟨rfl, B1.out⟩
set_option maxHeartbeats 400000 in
theorem setP_yes (t : Int) (x : Nat) (w : World) (ht : hasA l t = true) (h : ArP w B p R n v l) :
    Calls Try.prog 36 #[.pointer (some ⟨p, 0, none⟩), .int .i64 t, (.pointer (some ⟨x, 0, none⟩))] w (SetP w B p R n v l t x) := by
  have HT := Lib.hid ht
  have hk : posA l t < l.length := atB_lt ht
  obtain ⟨k, hkp⟩ : ∃ k, k = posA l t := ⟨_, rfl⟩
  rw [← hkp] at hk
  have HP := Lib.hid hkp.symm
  rcases h.own.form with ⟨_, rfl⟩ | ⟨g, c, cur, rfl, hv, hBg, hlt, hh, hnc, hcm, hcs, hta⟩
  · simp at hk
  obtain ⟨m, hm⟩ : ∃ m, l.length = m := ⟨_, rfl⟩
  rw [hm] at hk hnc h ⊢
  have H := Lib.hid h
  have HM := Lib.hid hm
  have HC := Lib.hid hh
  have hcs' : cur.size = c * 2 := hcs
  have hck : k * 2 + 1 < cur.size := by omega
  have HS := Lib.hid hck
  have hm2 : m ≤ 200 := by have := h.len; have := h.room; omega
  clear ht h hcm hcs hcs' hta hm hh hkp hck hv
  go_enter Try.func36, Try.ntmps36
  go_wp2_with fail
  refine (findP_at w HP.out HT.out H.out).mono ?_
  rintro e w1 ⟨rfl, b1⟩
  have B1 := Lib.hid b1
  have H1 := Lib.hid (H.out.below b1 (Nat.le_refl _))
  have c2 := H1.out.c2
  have HC1 : Hid (w1.heap[g]? = some (.cells cur kSP.e (0, 0))) := Lib.hid ((b1.block g hlt).trans HC.out)
  obtain ⟨u0, d1⟩ : ∃ u, w1.cell? ⟨g, k * 2 + 1, none⟩ = some u := ⟨cur[k * 2 + 1]'HS.out, by rw [cell_of_row w1 g _ _ _ (0, 0) HC1.out]; exact Array.getElem?_eq_getElem HS.out⟩
  have f1 : w1.frozen? ⟨g, k * 2 + 1, none⟩ = false := by have hb := HC1.out; simp [World.frozen?, hb]
  clear b1
  go_wp2_with fail
  go_ret
  have hgp : p ≠ g := fun e => heap_ne H1.out.blk HC1.out (by decide) e
  refine ⟨rfl, ⟨(Below.heap_setCell _ _ _ _ hgp).trans H1.out.blk, ?_, H.out.base, asc_set H.out.asc HT.out x, H.out.pos, by rw [List.length_set]; exact H.out.len, H.out.room⟩, ?_⟩
  · exact Kind.Own.set_ H1.out.own HM.out (by simp) (by rw [cellsP_set l _ t x HT.out, HP.out])
  · exact But.setCell (But.of_below B1.out _) (fun _ => .inr rfl) _

/-! ### Drop -/
def DropP (w : World) (B p R : Nat) (n : Int) (v : Value) (l : List (Sl Nat)) (t : Int) (e : Ending) (w' : World) : Prop :=
  e = .returned (.bool true) ∧ ∃ v', ArP w' B p R n v' (l.eraseIdx (posA l t)) ∧ But (Arm p v) w w' ∧ v'.ownBlock = v.ownBlock
set_option maxHeartbeats 400000 in
theorem dropP_no (t : Int) (w : World) (ht : hasA l t = false) (h : ArP w B p R n v l) :
    Calls Try.prog 84 #[.pointer (some ⟨p, 0, none⟩), .int .i64 t] w fun e w' => e = .returned (.bool false) ∧ Below w.heap.size w w' := by
  have HT := Lib.hid ht
  have H := Lib.hid h
  clear ht h
  go_enter Try.func84, Try.ntmps84
  go_wp2_with fail
  refine (findP_at w rfl HT.out H.out).mono ?_
  rintro e w1 ⟨rfl, b1⟩
  have B1 := Lib.hid b1
  clear b1
  go_wp2_with fail
  go_ret
  exact ⟨rfl, B1.out⟩
set_option maxHeartbeats 400000 in
theorem dropP_yes (t : Int) (w : World) (ht : hasA l t = true) (h : ArP w B p R n v l) :
    Calls Try.prog 84 #[.pointer (some ⟨p, 0, none⟩), .int .i64 t] w (DropP w B p R n v l t) := by
  have HT := Lib.hid ht
  have hk : posA l t < l.length := atB_lt ht
  obtain ⟨k, hkp⟩ : ∃ k, k = posA l t := ⟨_, rfl⟩
  rw [← hkp] at hk
  have HP := Lib.hid hkp.symm
  rcases h.own.form with ⟨_, rfl⟩ | ⟨g, c, cur, rfl, _⟩
  · simp at hk
  obtain ⟨r, hr⟩ : ∃ r, l.length = k + 1 + r := ⟨l.length - (k + 1), by omega⟩
  rw [hr] at h ⊢
  have H := Lib.hid h
  have HR := Lib.hid hr
  have hm2 : k + 1 + r ≤ 200 := by have := h.len; have := h.room; omega
  clear ht h hr hkp hk
  go_enter Try.func84, Try.ntmps84
  go_wp2_with fail
  refine (findP_at w HP.out HT.out H.out).mono ?_
  rintro e w1 ⟨rfl, b1⟩
  have B1 := Lib.hid b1
  have H1 := Lib.hid (H.out.below b1 (Nat.le_refl _))
  have c2 := H1.out.c2
  clear b1
  go_wp2_with fail
  refine (deleteP_any g k r c w1 HR.out (by omega) H1.out.own).mono ?_
  rintro e w2 ⟨rfl, o2, b2⟩
  have hgp : Hid (¬ p = g) := Lib.hid fun e => H1.out.apart (by rw [e]; rfl)
  have B2 := Lib.hid b2
  have O2 := Lib.hid o2
  have blk2 : Hid (w2.heap[p]? = some (.cells #[.int .i64 R, .int .i64 n, .slice (some ⟨g, 0, none⟩) (k + 1 + r) c] 90 (0, 0))) := Lib.hid ((b2.block p H1.out.lt hgp.out).trans H1.out.blk)
  have d2 : w2.cell? ⟨p, 2, none⟩ = some (.slice (some ⟨g, 0, none⟩) (k + 1 + r) c) := cell_of_row w2 p 2 _ _ (0, 0) blk2.out
  have f2 : w2.frozen? ⟨p, 2, none⟩ = false := by have hb := blk2.out; simp [World.frozen?, hb]
  clear b2 o2 c2
  go_wp2_with fail
  go_ret
  refine ⟨rfl, _, ⟨heap_set blk2.out 2 _, ?_, H.out.base, asc_drop H.out.asc _, H.out.pos, ?_, H.out.room⟩, ?_, rfl⟩
  · rw [HP.out]
    exact O2.out.keep fun g' hg => Below.heap_setCell _ _ _ _ (by simp only [Value.ownBlock, Option.some.injEq] at hg; subst hg; exact fun e => hgp.out e.symm)
  · have := H.out.len
    have := List.length_eraseIdx_le l (posA l t)
    omega
  · exact But.setCell (But.trans (But.of_below B1.out (Arm p _)) B2.out (fun i _ hi => .inr (by subst hi; rfl))) (fun _ => .inl rfl) _
end Go.Proofs.Ytopnadaedcpaaaa.P4
