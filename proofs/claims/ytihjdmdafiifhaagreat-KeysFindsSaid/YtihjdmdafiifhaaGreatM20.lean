/- The reference's document as it lies in memory; where one stands, its children, its parent, all above it, whether it is inside another. -/
import Derived.Test.YtihjdmdafiifhaaGreatM19
set_option linter.unusedVariables false
set_option linter.unusedSimpArgs false
set_option linter.unusedVariables false
set_option linter.unusedSimpArgs false
namespace Go.Proofs.YtihjdmdafiifhaaGreat.P5
open Go.RowKit Kd P4

structure Rn where
  va : Sv
  vk : Sv
  nd : Nd
def Rn.rn (r : Rn) : RN := ⟨r.nd.id, r.nd.par, r.nd.tag, r.nd.txt, r.nd.key, r.va, r.vk, r.nd.note⟩
structure Rx where
  v : Value
  n : Int
  R : Nat
  foc : Int
  rs : List Rn
def Rx.l (y : Rx) : List Nd := y.rs.map (·.nd)
def Rx.d (y : Rx) : D := ⟨y.l, y.n, y.R, y.foc⟩
def rfoot (q : Nat) (y : Rx) (k : Nat) : Prop := k = q ∨ y.v.ownBlock = some k ∨ ∃ r ∈ y.rs, r.vk.val.ownBlock = some k
structure RNok (w : World) (B : Nat) (r : Rn) : Prop where
  att : AOk w r.va r.nd.attrs
  kids : kI.Own w B r.vk.val r.nd.kids
structure Rf (w : World) (B q : Nat) (y : Rx) : Prop where
  blk : w.heap[q]? = some (.cells #[y.v, .int .i64 (y.n + 1), .int .i64 y.R, .int .i64 y.foc] 37 (0, 0))
  base : B ≤ q
  own : kN.Own w B y.v (y.rs.map Rn.rn)
  nodes : ∀ r ∈ y.rs, RNok w B r
variable {B q : Nat} {y : Rx}
section
variable {w w' : World}
theorem Rf.lt (h : Rf w B q y) {k : Nat} (hk : rfoot q y k) : k < w.heap.size := by
  rcases hk with rfl | hk | ⟨r, hr, hk⟩
  · exact heap_lt h.blk
  · exact (h.own.lt hk).2
  · exact ((h.nodes r hr).kids.lt hk).2
theorem Rf.ge (h : Rf w B q y) {k : Nat} (hk : rfoot q y k) : B ≤ k := by
  rcases hk with rfl | hk | ⟨r, hr, hk⟩
  · exact h.base
  · exact (h.own.lt hk).1
  · exact ((h.nodes r hr).kids.lt hk).1
theorem Rf.but {S : Nat → Prop} (h : Rf w B q y) (hb : But S w w') (hS : ∀ k, rfoot q y k → ¬ S k) (hA : NoA w S) : Rf w' B q y := by
  have kb : ∀ k, rfoot q y k → w'.heap[k]? = w.heap[k]? := fun k hk => hb.block k (h.lt hk) (hS k hk)
  refine ⟨(kb q (.inl rfl)).trans h.blk, h.base, h.own.keep (fun g hg => kb g (.inr (.inl hg))), fun r hr => ⟨(h.nodes r hr).att.but hb hA, (h.nodes r hr).kids.keep (fun g hg => kb g (.inr (.inr ⟨r, hr, hg⟩)))⟩⟩
theorem Rf.below (h : Rf w B q y) (hb : Below w.heap.size w w') : Rf w' B q y := h.but (But.of_below hb (fun _ => False)) (fun _ _ h => h) (NoA.none w)
theorem Rf.drewN (h : Rf w B q y) (n : Nat) : Rf (w.drewN n) B q y := h.below (Below_drewN (Below.refl _ _) n)
theorem Rf.alloc (h : Rf w B q y) (o : Obj) : Rf (w.alloc o) B q y := h.below ((Below.refl _ _).alloc (Nat.le_refl _) o)
theorem Rf.c0 (h : Rf w B q y) : w.cell? ⟨q, 0, none⟩ = some y.v := cell_of_row w q 0 _ _ (0, 0) h.blk
theorem Rf.c1 (h : Rf w B q y) : w.cell? ⟨q, 1, none⟩ = some (.int .i64 (y.n + 1)) := cell_of_row w q 1 _ _ (0, 0) h.blk
theorem Rf.c2 (h : Rf w B q y) : w.cell? ⟨q, 2, none⟩ = some (.int .i64 y.R) := cell_of_row w q 2 _ _ (0, 0) h.blk
theorem Rf.c3 (h : Rf w B q y) : w.cell? ⟨q, 3, none⟩ = some (.int .i64 y.foc) := cell_of_row w q 3 _ _ (0, 0) h.blk
theorem Rf.frozen (h : Rf w B q y) (i : Nat) : w.frozen? ⟨q, i, none⟩ = false := by
  have := h.blk
  simp [World.frozen?, this]
theorem Rf.slice (h : Rf w B q y) : ∃ A c, y.v = .slice A y.rs.length c ∧ y.rs.length ≤ c ∧ c ≤ maxLen ∧ (A = none → c = 0) ∧ kN.Holds w w.heap.size A (y.rs.map Rn.rn) := by
  obtain ⟨A, n, c, hv, h1, h2, h3, h4, h5⟩ := h.own.slice
  rw [List.length_map] at h1
  subst h1
  exact ⟨A, c, hv, h2, h3, h4, h5⟩
theorem cell_of_nodes {A : Option Addr} {rs : List Rn} {C : Nat} (h : kN.Holds w C A (rs.map Rn.rn)) {k : Nat} (hk : k < rs.length) : ∃ b o, A = some ⟨b, o, none⟩ ∧ b < C ∧
    w.cell? ⟨b, o + k * 8, none⟩ = some (.int .i64 rs[k].nd.id) ∧ w.cell? ⟨b, o + k * 8 + 1, none⟩ = some (.int .i64 rs[k].nd.par) ∧ w.cell? ⟨b, o + k * 8 + 2, none⟩ = some (.string rs[k].nd.tag) ∧ w.cell? ⟨b, o + k * 8 + 3, none⟩ = some (.string rs[k].nd.txt) ∧
    w.cell? ⟨b, o + k * 8 + 4, none⟩ = some (.string rs[k].nd.key) ∧ w.cell? ⟨b, o + k * 8 + 5, none⟩ = some (.slice rs[k].va.A rs[k].va.n rs[k].va.c) ∧ w.cell? ⟨b, o + k * 8 + 6, none⟩ = some (.slice rs[k].vk.A rs[k].vk.n rs[k].vk.c) ∧ w.cell? ⟨b, o + k * 8 + 7, none⟩ = some (.int .i64 rs[k].nd.note) := by
  have hk' : k < (rs.map Rn.rn).length := by simpa using hk
  obtain ⟨b, o, hA, hb, hc⟩ := h.at hk'
  have e : (rs.map Rn.rn)[k] = rs[k].rn := by simp
  rw [e] at hc
  exact ⟨b, o, hA, hb, hc 0 _ rfl, hc 1 _ rfl, hc 2 _ rfl, hc 3 _ rfl, hc 4 _ rfl, hc 5 _ rfl, hc 6 _ rfl, hc 7 _ rfl⟩
theorem rl_len (y : Rx) : y.l.length = y.rs.length := by simp [Rx.l]
theorem rplace {i : Int} (ha : Asc y.l) (hi : hasL y.l i = true) : ∃ k, ∃ hk : k < y.rs.length, y.rs[k].nd.id = i ∧ find y.l i = some y.rs[k].nd := by
  obtain ⟨z, hz, rfl⟩ := has_iff.1 hi
  obtain ⟨r, hr, rfl⟩ := List.mem_map.1 hz
  obtain ⟨k, hk, rfl⟩ := List.mem_iff_getElem.1 hr
  exact ⟨k, hk, rfl, ha.find hz⟩
structure Rdid (w : World) (B q : Nat) (y y' : Rx) (w' : World) : Prop where
  rf : Rf w' B q y'
  but : But (fun k => k = q) w w'
  ft : ∀ k, rfoot q y' k → rfoot q y k ∨ w.heap.size ≤ k
theorem Rdid.trans {w2 : World} {y1 y2 : Rx} (h : Rdid w B q y y1 w') (k : Rdid w' B q y1 y2 w2) : Rdid w B q y y2 w2 := by
  have hs := h.but.size
  refine ⟨k.rf, h.but.trans k.but (fun _ _ h => h), fun i hi => ?_⟩
  rcases k.ft i hi with e | e
  · exact h.ft i e
  · exact .inr (by omega)
theorem Rdid.below_ (h : Rf w B q y) (hb : Below w.heap.size w w') : Rdid w B q y y w' := ⟨h.below hb, But.of_below hb _, fun _ h => .inl h⟩
theorem Rdid.below {y' : Rx} {w2 : World} (h : Rdid w B q y y' w') (hb : Below w'.heap.size w' w2) : Rdid w B q y y' w2 := h.trans (Rdid.below_ h.rf hb)
theorem Rdid.to_below {y' : Rx} (h : Rf w B q y) (k : Rdid w B q y y' w') : Below B w w' := k.but.to_below (fun i _ hi => by have := h.base; omega) (by have := h.base; have := h.lt (.inl rfl : rfoot q y q); omega)
/-- none of a reference's blocks, but its own, is written -/
theorem q_noA (h : Rf w B q y) : NoA w (fun k => k = q) := by
  rintro k c f rfl hk
  exact heap_ne h.blk hk (by decide) rfl
end

/-! ### At -/
set_option maxHeartbeats 1000000 in
theorem at_yes (i : Int) {k : Nat} (w : World) (ha : Asc y.l) (hl : y.rs.length ≤ 1000) (hk : k < y.rs.length) (hi : y.rs[k].nd.id = i) (h : Rf w B q y) : Calls Tryz.prog 8 #[.pointer (some ⟨q, 0, none⟩), .int .i64 i] w fun e w' => e = .returned (.int .i64 k) ∧ w = w' := by
  obtain ⟨A, c, hv, hc, hm, hz, hh⟩ := h.slice
  have c0 := h.c0
  rw [hv] at c0
  have HH := Lib.hid hh
  have hne : ∀ j (hj : j < y.rs.length), j < k → y.rs[j].nd.id ≠ i := by
    intro j hj hjk e
    have := List.pairwise_iff_getElem.1 ha j k (by rw [rl_len]; exact hj) (by rw [rl_len]; exact hk) hjk
    simp only [Rx.l, List.getElem_map] at this
    omega
  have HNE := Lib.hid hne
  have HI := Lib.hid hi
  obtain ⟨n, hn⟩ : ∃ n, y.rs.length = n := ⟨_, rfl⟩
  have HN := Lib.hid hn
  rw [hn] at c0 hl hk
  clear h hv hc hm hz hh hne hi ha hn
  go_enter Tryz.func8, Tryz.ntmps8
  go_wp2_with fail
  go_loop [5] (fun s => ∃ j : Nat, j ≤ k ∧ s = .int .i64 j) (fun s => n - (intOf s).toNat)
  case atStart => exact ⟨0, by omega, rfl⟩
  case round =>
    obtain ⟨j, hj, rfl⟩ := hrel
    have hjl : j < y.rs.length := by have := HN.out; omega
    obtain ⟨b, o, rfl, hb, g0, _⟩ := cell_of_nodes HH.out hjl
    by_cases he : j = k
    · subst he
      have hq : (y.rs[j].nd.id == i) = true := by rw [HI.out]; simp
      go_wp2
      go_ret
      exact ⟨rfl, rfl⟩
    · have hq : (y.rs[j].nd.id == i) = false := by simpa using HNE.out j hjl (by omega)
      go_wp2
      go_round
      case rel => exact ⟨j + 1, by omega, by go_num⟩
      case measure => simp [intOf]; omega
set_option maxHeartbeats 1000000 in
theorem at_no (i : Int) (w : World) (hl : y.rs.length ≤ 1000) (hi : hasL y.l i = false) (h : Rf w B q y) : Calls Tryz.prog 8 #[.pointer (some ⟨q, 0, none⟩), .int .i64 i] w fun e w' => e = .returned (.int .i64 (-1)) ∧ w = w' := by
  obtain ⟨A, c, hv, hc, hm, hz, hh⟩ := h.slice
  have c0 := h.c0
  rw [hv] at c0
  have HH := Lib.hid hh
  have hne : ∀ j (hj : j < y.rs.length), y.rs[j].nd.id ≠ i := fun j hj => has_no.1 hi _ (List.mem_map.2 ⟨_, List.getElem_mem hj, rfl⟩)
  have HNE := Lib.hid hne
  obtain ⟨n, hn⟩ : ∃ n, y.rs.length = n := ⟨_, rfl⟩
  have HN := Lib.hid hn
  rw [hn] at c0 hl
  clear h hv hc hm hz hh hne hi hn
  go_enter Tryz.func8, Tryz.ntmps8
  go_wp2_with fail
  go_loop [5] (fun s => ∃ j : Nat, j ≤ n ∧ s = .int .i64 j) (fun s => n - (intOf s).toNat)
  case atStart => exact ⟨0, by omega, rfl⟩
  case round =>
    obtain ⟨j, hj, rfl⟩ := hrel
    by_cases hjn : j < n
    · have hjl : j < y.rs.length := by have := HN.out; omega
      obtain ⟨b, o, rfl, hb, g0, _⟩ := cell_of_nodes HH.out hjl
      have hq : (y.rs[j].nd.id == i) = false := by simpa using HNE.out j hjl
      go_wp2
      go_round
      case rel => exact ⟨j + 1, by omega, by go_num⟩
      case measure => simp [intOf]; omega
    · go_wp2
      go_ret
      exact ⟨rfl, rfl⟩

/-! ### Kids, Parent -/
theorem rtag_at {k : Nat} {i : Int} (ha : Asc y.l) (hk : k < y.rs.length) (hy : y.rs[k].nd.id = i) : tagOf y.l i = y.rs[k].nd.tag ∧ parOf y.l i = y.rs[k].nd.par ∧ kidsOf y.l i = y.rs[k].nd.kids := by
  have hm : y.rs[k].nd ∈ y.l := List.mem_map.2 ⟨y.rs[k], List.getElem_mem hk, rfl⟩
  have hf := ha.find hm
  rw [hy] at hf
  unfold tagOf parOf kidsOf
  rw [hf]
  exact ⟨rfl, rfl, rfl⟩
theorem no_at {l : List Nd} {i : Int} (h : hasL l i = false) : parOf l i = 0 ∧ kidsOf l i = [] := by
  have : find l i = none := by simpa [hasL] using h
  unfold parOf kidsOf
  rw [this]
  exact ⟨rfl, rfl⟩
set_option maxHeartbeats 1000000 in
theorem kids_any (i : Int) (w : World) (ha : Asc y.l) (hl : y.rs.length ≤ 1000) (h : Rf w B q y) : Calls Tryz.prog 82 #[.pointer (some ⟨q, 0, none⟩), .int .i64 i] w fun e w' => (∃ A n c, e = .returned (.slice A n c) ∧ kI.Own w B (.slice A n c) (kidsOf y.l i) ∧ ∀ g, (Value.slice A n c).ownBlock = some g → rfoot q y g) ∧ w = w' := by
  have H := Lib.hid h
  have HA := Lib.hid ha
  cases hi : hasL y.l i with
  | false =>
    have HI := Lib.hid hi
    have HK := Lib.hid (no_at hi).2
    clear h ha hi
    go_enter Tryz.func82, Tryz.ntmps82
    go_wp2_with fail
    refine (at_no i w hl HI.out H.out).mono ?_
    rintro e w' ⟨rfl, rfl⟩
    go_wp2_with fail
    go_ret
    rw [HK.out]
    exact ⟨⟨none, 0, 0, rfl, Kind.Own.nil _ _ _, fun g e => by cases e⟩, rfl⟩
  | true =>
    obtain ⟨k, hk, hy, _⟩ := rplace ha hi
    have HK := Lib.hid (rtag_at ha hk hy).2.2
    have HY := Lib.hid hy
    obtain ⟨A, c, hv, hc, hm, hz, hh⟩ := h.slice
    have c0 := h.c0
    rw [hv] at c0
    obtain ⟨b, o, rfl, hb, g0, g1, g2, g3, g4, g5, g6, g7⟩ := cell_of_nodes hh hk
    have OW := Lib.hid (h.nodes _ (List.getElem_mem hk)).kids
    obtain ⟨n, hn⟩ : ∃ n, y.rs.length = n := ⟨_, rfl⟩
    have hkn : k < n := by omega
    rw [hn] at c0
    have hl2 : n ≤ 1000 := by omega
    clear h ha hi hv hc hm hz hh hy g0 g1 g2 g3 g4 g5 g7 hn
    go_enter Tryz.func82, Tryz.ntmps82
    go_wp2_with fail
    refine (at_yes i w HA.out hl hk HY.out H.out).mono ?_
    rintro e w' ⟨rfl, rfl⟩
    go_wp2_with fail
    go_ret
    rw [HK.out]
    exact ⟨⟨_, _, _, rfl, OW.out, fun g e => .inr (.inr ⟨_, List.getElem_mem hk, e⟩)⟩, rfl⟩
set_option maxHeartbeats 1000000 in
theorem parent_any (i : Int) (w : World) (ha : Asc y.l) (hl : y.rs.length ≤ 1000) (h : Rf w B q y) : Calls Tryz.prog 61 #[.pointer (some ⟨q, 0, none⟩), .int .i64 i] w fun e w' => e = .returned (.int .i64 (parOf y.l i)) ∧ w = w' := by
  have H := Lib.hid h
  have HA := Lib.hid ha
  cases hi : hasL y.l i with
  | false =>
    have HI := Lib.hid hi
    have HK := Lib.hid (no_at hi).1
    clear h ha hi
    go_enter Tryz.func61, Tryz.ntmps61
    go_wp2_with fail
    refine (at_no i w hl HI.out H.out).mono ?_
    rintro e w' ⟨rfl, rfl⟩
    go_wp2_with fail
    go_ret
    exact ⟨ret_int HK.out.symm, rfl⟩
  | true =>
    obtain ⟨k, hk, hy, _⟩ := rplace ha hi
    have HK := Lib.hid (rtag_at ha hk hy).2.1
    have HY := Lib.hid hy
    obtain ⟨A, c, hv, hc, hm, hz, hh⟩ := h.slice
    have c0 := h.c0
    rw [hv] at c0
    obtain ⟨b, o, rfl, hb, g0, g1, g2, g3, g4, g5, g6, g7⟩ := cell_of_nodes hh hk
    obtain ⟨n, hn⟩ : ∃ n, y.rs.length = n := ⟨_, rfl⟩
    have hkn : k < n := by omega
    rw [hn] at c0
    have hl2 : n ≤ 1000 := by omega
    clear h ha hi hv hc hm hz hh hy g0 g2 g3 g4 g5 g6 g7 hn
    go_enter Tryz.func61, Tryz.ntmps61
    go_wp2_with fail
    refine (at_yes i w HA.out hl hk HY.out H.out).mono ?_
    rintro e w' ⟨rfl, rfl⟩
    go_wp2_with fail
    go_ret
    exact ⟨ret_int HK.out.symm, rfl⟩

/-! ### Up, Inside -/
theorem up_step {l : List Nd} {f : Nat} {x : Int} (h : hasL l x = true) : up (hasL l) (parOf l) (f + 1) x = x :: up (hasL l) (parOf l) f (parOf l x) := by rw [up, if_pos h]
theorem up_stop {l : List Nd} {f : Nat} {x : Int} (h : hasL l x = false) : up (hasL l) (parOf l) f x = [] := by
  cases f with
  | zero => rfl
  | succ f => rw [up, if_neg (by rw [h]; simp)]
def GotInts (w : World) (l : List Int) (e : Ending) (w' : World) : Prop := ∃ A n c, e = .returned (.slice A n c) ∧ kI.Own w' w.heap.size (.slice A n c) l ∧ Below w.heap.size w w'
set_option maxHeartbeats 1000000 in
theorem up_any_ (i : Int) (w : World) (ha : Asc y.l) (hl : y.rs.length ≤ 1000) (h : Rf w B q y) : Calls Tryz.prog 81 #[.pointer (some ⟨q, 0, none⟩), .int .i64 i] w (GotInts w (aboveL y.l i)) := by
  have H := Lib.hid h
  have HA := Lib.hid ha
  obtain ⟨n, hn⟩ : ∃ n, y.rs.length = n := ⟨_, rfl⟩
  have HAB : Hid (aboveL y.l i = up (hasL y.l) (parOf y.l) (n + 1) i) := Lib.hid (by unfold aboveL; rw [rl_len, hn])
  obtain ⟨A, c, hv, hc, hm, hz, hh⟩ := h.slice
  rw [hn] at hv
  have HV := Lib.hid hv
  have hl2 : n ≤ 1000 := by omega
  have HN := Lib.hid hn
  clear h ha hv hc hm hz hh hn
  go_enter Tryz.func81, Tryz.ntmps81
  go_wp2_with fail
  go_loopw [1, 5, 6] (fun s1 s5 s6 wr => ∃ (cur : Int) (j : Nat) (acc : List Int), j ≤ n + 1 ∧ s1 = .int .i64 cur ∧ s6 = .int .i64 j ∧ acc.length = j ∧ Hid (kI.Own wr w.heap.size s5 acc) ∧ Hid (aboveL y.l i = acc ++ up (hasL y.l) (parOf y.l) (n + 1 - j) cur) ∧ Hid (Below w.heap.size w wr)) (fun _ _ s6 _ => n + 1 - (intOf s6).toNat)
  case atStart => exact ⟨i, 0, [], by omega, rfl, rfl, rfl, Lib.hid (Kind.Own.nil _ _ _), Lib.hid (by rw [HAB.out]; rfl), Lib.hid (Below.refl _ _)⟩
  case round =>
    obtain ⟨cur, j, acc, hj, rfl, rfl, hacc, HO, HU, HB⟩ := hrel
    have HACC := Lib.hid hacc
    clear hacc
    have H1 := Lib.hid (H.out.below HB.out)
    have c0 := H1.out.c0
    rw [HV.out] at c0
    obtain ⟨A5, n5, c5, rfl, h5, _⟩ := HO.out.slice
    have H5 : Hid (n5 = j) := Lib.hid (by rw [← h5]; exact HACC.out)
    clear h5
    by_cases hjn : j ≤ n
    · cases hc : hasL y.l cur with
      | false =>
        have HC := Lib.hid hc
        have HE : Hid (aboveL y.l i = acc) := Lib.hid (by rw [HU.out, up_stop hc, List.append_nil])
        clear hc
        go_wp2_with fail
        refine (at_no cur wr hl HC.out H1.out).mono ?_
        rintro e w' ⟨rfl, rfl⟩
        go_wp2_with fail
        go_ret
        rw [HE.out]
        exact ⟨_, _, _, rfl, HO.out, HB.out⟩
      | true =>
        obtain ⟨k, hk, hy, _⟩ := rplace HA.out hc
        have HC := Lib.hid hc
        have HY := Lib.hid hy
        have HU2 : Hid (aboveL y.l i = (acc ++ [cur]) ++ up (hasL y.l) (parOf y.l) (n + 1 - (j + 1)) (parOf y.l cur)) := Lib.hid (by
          rw [HU.out, show n + 1 - j = (n + 1 - (j + 1)) + 1 by omega, up_step hc]; simp)
        clear hc hy
        have hz := HB.out.size
        have hj2 : j ≤ 1000 := by omega
        go_wp2_with fail
        refine (at_yes cur wr HA.out hl hk HY.out H1.out).mono ?_
        rintro e w' ⟨rfl, rfl⟩
        go_wp2_with (at_builtin; refine kI.wp_app rfl _ _ rfl (v := .slice A5 n5 c5) (l := acc) (m := [cur]) (B := w.heap.size) rfl (HO.out.alloc _) rfl rfl (fun e => by cases e) (Kind.Holds.lit (heap_alloc_new _ _) rfl) (by have := HACC.out; simp; omega) (by simp; omega) ?_; intro v' w2 hown hgrow hat; obtain ⟨A6, n6, c6, rfl, _, _, _, _, _⟩ := hown.slice)
        have HO2 := Lib.hid hown
        have HB2 : Hid (Below w.heap.size w w2) := Lib.hid ((HB.out.alloc hz _).grown hgrow (by simp; omega) (fun k hk => by have := (HO.out.lt hk).1; omega))
        have H2 := Lib.hid (H.out.below HB2.out)
        clear hown hgrow hat
        refine (parent_any cur w2 HA.out hl H2.out).mono ?_
        rintro e w' ⟨rfl, rfl⟩
        go_wp2_with fail
        go_roundw
        case rel => exact ⟨_, j + 1, acc ++ [cur], by omega, rfl, by go_num, by simp [HACC.out], HO2, HU2, HB2⟩
        case measure => simp [intOf]; omega
    · have HE : Hid (aboveL y.l i = acc) := Lib.hid (by rw [HU.out, show n + 1 - j = 0 by omega]; simp [up])
      go_wp2_with fail
      go_ret
      rw [HE.out]
      exact ⟨_, _, _, rfl, HO.out, HB.out⟩
theorem above_len {l : List Nd} : ∀ (f : Nat) (x : Int), (up (hasL l) (parOf l) f x).length ≤ f
  | 0, _ => by simp [up]
  | f + 1, x => by
    rw [up]
    split
    · simp only [List.length_cons]; have := above_len (l := l) f (parOf l x); omega
    · simp
set_option maxHeartbeats 1000000 in
theorem rinside_any (a b : Int) (w : World) (ha : Asc y.l) (hl : y.rs.length ≤ 1000) (h : Rf w B q y) : Calls Tryz.prog 62 #[.pointer (some ⟨q, 0, none⟩), .int .i64 a, .int .i64 b] w fun e w' => e = .returned (.bool (inside y.l a b)) ∧ Below w.heap.size w w' := by
  have H := Lib.hid h
  have HA := Lib.hid ha
  have hlen : (aboveL y.l a).length ≤ 1001 := by have := above_len (l := y.l) (y.l.length + 1) a; rw [rl_len] at this; unfold aboveL; rw [rl_len]; omega
  have HL := Lib.hid hlen
  clear h ha hlen
  go_enter Tryz.func62, Tryz.ntmps62
  go_wp2_with fail
  refine (up_any_ a w HA.out hl H.out).mono ?_
  rintro e w1 ⟨A, n, c, rfl, o1, b1⟩
  obtain ⟨g1, g2, g3, g4, g5⟩ := own_nil_zero o1 rfl
  have HN := Lib.hid g1
  have HO := Lib.hid g5
  have B1 := Lib.hid b1
  have hn : n ≤ 1001 := by have := HL.out; omega
  clear o1 b1 g1 g2 g3 g4 g5
  go_wp2_with fail
  go_loop [8] (fun s => ∃ j : Nat, j ≤ n ∧ s = .int .i64 j ∧ Hid (∀ m (h : m < (aboveL y.l a).length), m < j → (aboveL y.l a)[m] ≠ b)) (fun s => n - (intOf s).toNat)
  case atStart => exact ⟨0, by omega, rfl, Lib.hid (fun m _ h => by omega)⟩
  case round =>
    obtain ⟨j, hj, rfl, HJ⟩ := hrel
    by_cases hjn : j < n
    · have hjl : j < (aboveL y.l a).length := by have := HN.out; omega
      obtain ⟨gb, go, rfl, _, hc⟩ := cell_int HO.out hjl
      by_cases he : (aboveL y.l a)[j] = b
      · have hq : ((aboveL y.l a)[j] == b) = true := by simpa using he
        have HI : Hid (inside y.l a b = true) := Lib.hid (by unfold inside; rw [decide_eq_true_iff, ← he]; exact List.getElem_mem hjl)
        clear he
        go_wp2
        go_ret
        exact ⟨ret_bool HI.out.symm, B1.out⟩
      · have hq : ((aboveL y.l a)[j] == b) = false := by simpa using he
        have HE := Lib.hid he
        clear he
        go_wp2
        go_round
        case rel =>
          refine ⟨j + 1, by omega, by go_num, Lib.hid (fun m hm hmj => ?_)⟩
          by_cases e : m = j
          · subst e; exact HE.out
          · exact HJ.out m hm (by omega)
        case measure => simp [intOf]; omega
    · have HI : Hid (inside y.l a b = false) := Lib.hid (by
        unfold inside
        rw [decide_eq_false_iff_not]
        intro hm
        obtain ⟨m, hm, e⟩ := List.mem_iff_getElem.1 hm
        exact HJ.out m hm (by have := HN.out; omega) e)
      go_wp2
      go_ret
      exact ⟨ret_bool HI.out.symm, B1.out⟩
end Go.Proofs.YtihjdmdafiifhaaGreat.P5
