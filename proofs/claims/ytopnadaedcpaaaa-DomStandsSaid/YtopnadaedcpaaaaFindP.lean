/- What find tells of an arena's slots (of *placket/api.Node): the place of an identity, and whether it is there. -/
import Derived.Test.YtopnadaedcpaaaaKinds5
namespace Go.Proofs.Ytopnadaedcpaaaa.P4
open Go.RowKit Kd

theorem atP {w : World} {B : Nat} {A : Option Addr} {l : List (Sl Nat)} (h : kSP.Holds w B A l) {k : Nat} (hk : k < l.length) :
    ∃ b o, A = some ⟨b, o, none⟩ ∧ b < B ∧ w.cell? ⟨b, o + k * 2, none⟩ = some (.int .i64 l[k].id) ∧ w.cell? ⟨b, o + k * 2 + 1, none⟩ = some (.pointer (some ⟨l[k].x, 0, none⟩)) := by
  obtain ⟨b, o, rfl, hb, hc⟩ := h.at hk
  exact ⟨b, o, rfl, hb, hc 0 _ rfl, hc 1 _ rfl⟩

set_option maxHeartbeats 400000 in
theorem keyP_any (s : Sl Nat) (t : Int) (w : World) : Calls Try.prog 76 #[.agg #[.int .i64 s.id, (.pointer (some ⟨s.x, 0, none⟩))], .int .i64 t] w fun e w' => e = .returned (.int .i64 (cmpA s.id t)) ∧ Below w.heap.size w w' := by
  go_enter Try.func76, Try.ntmps76
  go_wp2_with fail
  refine (compare_any _ _ _).mono ?_
  rintro e w' ⟨rfl, rfl⟩
  go_wp2
  go_ret
  exact ⟨rfl, (Below.refl _ _).alloc (Nat.le_refl _) _⟩

def SearchP (w : World) (l : List (Sl Nat)) (t : Int) (e : Ending) (w' : World) : Prop :=
  e = .returned (.tuple #[.int .i64 (posA l t), .bool (hasA l t)]) ∧ Below w.heap.size w w'

set_option maxHeartbeats 1000000 in
theorem searchP_any (l : List (Sl Nat)) (N : Int) (A : Option Addr) (n c : Nat) (t : Int) (w : World) (hn : l.length = n) (hn2 : n ≤ 1000000) (hl : Asc N l) (H : kSP.Holds w w.heap.size A l) :
    Calls Try.prog 75 #[.slice A n c, .int .i64 t, .func (.func 76) #[] #[]] w (SearchP w l t) := by
  have HH := Lib.hid H
  have HN := Lib.hid hn
  have HL := Lib.hid hl
  clear H hn hl
  go_enter Try.func75, Try.ntmps75
  go_wp2_with fail
  go_loopw [9, 10] (fun i j wr => ∃ a b : Nat, a ≤ b ∧ b ≤ n ∧ i = .int .i64 a ∧ j = .int .i64 b ∧ Hid (∀ k (h : k < l.length), k < a → l[k].id < t) ∧ Hid (∀ k (h : k < l.length), b ≤ k → t ≤ l[k].id) ∧ Hid (Below w.heap.size w wr)) (fun i j _ => (intOf j - intOf i).toNat)
  case atStart => exact ⟨0, n, by omega, by omega, rfl, rfl, Lib.hid (fun k _ h => by omega), Lib.hid (fun k h hb => by have := HN.out; omega), Lib.hid (Below.refl _ _)⟩
  case round =>
    obtain ⟨a, b, hab, hbn, rfl, rfl, HA, HB, HW⟩ := hrel
    by_cases hlt : a < b
    · obtain ⟨h, hh⟩ : ∃ h : Nat, ((a : Int) + b) / 2 = h := ⟨(a + b) / 2, by omega⟩
      have ha : a ≤ h := by omega
      have hb : h < b := by omega
      have hn : h < n := by omega
      have hl : h < l.length := by have := HN.out; omega
      obtain ⟨g, o, rfl, hg, h0, h1⟩ := atP (HH.out.below HW.out (Nat.le_refl _)) hl
      by_cases hc : l[h].id < t
      · have hlss : cmpA l[h].id t < 0 := by unfold cmpA; rw [if_pos hc]; decide
        go_wp2_with fail
        refine (keyP_any l[h] t _).mono ?_
        rintro e w1 ⟨rfl, b1⟩
        have B1 := Lib.hid b1
        clear b1
        go_wp2_with fail
        go_roundw
        case rel => exact ⟨h + 1, b, by omega, by omega, by go_num, rfl, Lib.hid (fun k hk hkh => below_at HL.out hl hc hk (by omega)), HB, Lib.hid (HW.out.trans (B1.out.mono HW.out.size))⟩
        case measure => simp [intOf]; omega
      · have hge : ¬ cmpA l[h].id t < 0 := by unfold cmpA; rw [if_neg hc]; split <;> decide
        go_wp2_with fail
        refine (keyP_any l[h] t _).mono ?_
        rintro e w1 ⟨rfl, b1⟩
        have B1 := Lib.hid b1
        clear b1
        go_wp2_with fail
        go_roundw
        case rel => exact ⟨a, h, by omega, by omega, rfl, rfl, HA, Lib.hid (fun k hk hkh => above_at HL.out hl (by omega) hk hkh), Lib.hid (HW.out.trans (B1.out.mono HW.out.size))⟩
        case measure => simp [intOf]; omega
    · obtain rfl : a = b := by omega
      have hp : posA l t = a := posA_of l t a (by have := HN.out; omega) HA.out HB.out
      have HP := Lib.hid hp
      clear hp HA HB
      by_cases ha : a < n
      · have hl : a < l.length := by have := HN.out; omega
        obtain ⟨g, o, rfl, hg, h0, h1⟩ := atP (HH.out.below HW.out (Nat.le_refl _)) hl
        go_wp2_with fail
        refine (keyP_any l[a] t _).mono ?_
        rintro e w1 ⟨rfl, b1⟩
        have B1 := Lib.hid b1
        clear b1
        go_wp2_with fail
        go_ret2
        exact ⟨ret_two HP.out (by unfold hasA; rw [HP.out, atB_at hl]; exact cmp_zero _ _), HW.out.trans (B1.out.mono HW.out.size)⟩
      · go_wp2_with fail
        go_ret2
        exact ⟨ret_two HP.out (by unfold hasA; rw [HP.out, atB_none (by have := HN.out; omega)]), HW.out⟩

/-- an arena at block p: room R, last identity n, its slots l in the slice v, none of it below block B -/
structure ArP (w : World) (B p R : Nat) (n : Int) (v : Value) (l : List (Sl Nat)) : Prop where
  blk : w.heap[p]? = some (.cells #[.int .i64 R, .int .i64 n, v] 90 (0, 0))
  own : kSP.Own w B v l
  base : B ≤ p
  asc : Asc n l
  pos : 0 ≤ n
  len : l.length ≤ R
  room : R ≤ 200
section
variable {w w' : World} {B p R : Nat} {n : Int} {v : Value} {l : List (Sl Nat)}
theorem ArP.lt (h : ArP w B p R n v l) : p < w.heap.size := heap_lt h.blk
theorem ArP.c0 (h : ArP w B p R n v l) : w.cell? ⟨p, 0, none⟩ = some (.int .i64 R) := cell_of_row w p 0 _ _ (0, 0) h.blk
theorem ArP.c1 (h : ArP w B p R n v l) : w.cell? ⟨p, 1, none⟩ = some (.int .i64 n) := cell_of_row w p 1 _ _ (0, 0) h.blk
theorem ArP.c2 (h : ArP w B p R n v l) : w.cell? ⟨p, 2, none⟩ = some v := cell_of_row w p 2 _ _ (0, 0) h.blk
theorem ArP.frozen (h : ArP w B p R n v l) (i : Nat) : w.frozen? ⟨p, i, none⟩ = false := by
  have := h.blk
  simp [World.frozen?, this]
theorem ArP.keep (h : ArP w B p R n v l) (hp : w'.heap[p]? = w.heap[p]?) (hv : ∀ g, v.ownBlock = some g → w'.heap[g]? = w.heap[g]?) : ArP w' B p R n v l :=
  ⟨hp.trans h.blk, h.own.keep hv, h.base, h.asc, h.pos, h.len, h.room⟩
theorem ArP.but {S : Nat → Prop} (h : ArP w B p R n v l) (hb : But S w w') (hp : ¬ S p) (hv : ∀ g, v.ownBlock = some g → ¬ S g) : ArP w' B p R n v l :=
  h.keep (hb.block p h.lt hp) (fun g hg => hb.block g (h.own.lt hg).2 (hv g hg))
theorem ArP.below {C : Nat} (h : ArP w B p R n v l) (hb : Below C w w') (hC : w.heap.size ≤ C) : ArP w' B p R n v l :=
  h.keep (hb.block p (by have := h.lt; omega)) (fun g hg => hb.block g (by have := (h.own.lt hg).2; omega))
theorem ArP.base_le {B' : Nat} (h : ArP w B p R n v l) (hB : B' ≤ B) : ArP w B' p R n v l := ⟨h.blk, h.own.base_le hB, by have := h.base; omega, h.asc, h.pos, h.len, h.room⟩
theorem ArP.drewN (h : ArP w B p R n v l) (k : Nat) : ArP (w.drewN k) B p R n v l := ⟨h.blk, h.own, h.base, h.asc, h.pos, h.len, h.room⟩
theorem ArP.ge (h : ArP w B p R n v l) {k : Nat} (hk : Arm p v k) : B ≤ k := by
  rcases hk with rfl | hk
  · exact h.base
  · exact (h.own.lt hk).1
theorem ArP.lt_arm (h : ArP w B p R n v l) {k : Nat} (hk : Arm p v k) : k < w.heap.size := by
  rcases hk with rfl | hk
  · exact h.lt
  · exact (h.own.lt hk).2
theorem ArP.step (h : ArP w B p R n v l) (hb : But (Arm p v) w w') : Below B w w' := hb.to_below (fun _ _ hi => h.ge hi) (by have := h.base; have := h.lt; omega)
/-- the arena's own block is not its slots' -/
theorem ArP.apart (h : ArP w B p R n v l) : v.ownBlock ≠ some p := fun e => by
  obtain ⟨c, hc⟩ := h.own.ty e
  exact heap_ne hc h.blk (by decide) rfl
/-- what is of neither type is none of the arena's blocks -/
theorem ArP.other (h : ArP w B p R n v l) {g : Nat} {c : Array Value} {t : TypeId} {f : Nat × Nat} (hg : w.heap[g]? = some (.cells c t f)) (h1 : t ≠ 90) (h2 : t ≠ 98) : ¬ Arm p v g := by
  rintro (rfl | hv)
  · exact heap_ne hg h.blk h1 rfl
  · obtain ⟨d, hd⟩ := h.own.ty hv
    exact heap_ne hg hd h2 rfl
end

set_option maxHeartbeats 400000 in
theorem findP_any (t : Int) {B p R : Nat} {n : Int} {v : Value} {l : List (Sl Nat)} (w : World) (h : ArP w B p R n v l) :
    Calls Try.prog 52 #[.pointer (some ⟨p, 0, none⟩), .int .i64 t] w (SearchP w l t) := by
  obtain ⟨A, k, c, rfl, hk, hkc, hcm, hz, hh⟩ := h.own.slice
  have HK := Lib.hid hk
  have HH := Lib.hid hh
  have HA := Lib.hid h.asc
  have c2 := h.c2
  have hk2 : k ≤ 1000000 := by have := h.len; have := h.room; omega
  clear hk hh hz hcm hkc h
  go_enter Try.func52, Try.ntmps52
  go_wp2_with fail
  refine (searchP_any l n A k c t w HK.out hk2 HA.out HH.out).mono ?_
  rintro e w1 ⟨rfl, b1⟩
  have B1 := Lib.hid b1
  clear b1
  go_wp2_with fail
  go_ret2
  exact ⟨rfl, B1.out⟩
end Go.Proofs.Ytopnadaedcpaaaa.P4
