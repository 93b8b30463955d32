/- The program's ways up: node, Up, Contains, Inside. -/
import Derived.Test.YtmcnmgkfloidpaaM30
set_option linter.unusedVariables false
set_option linter.unusedSimpArgs false
namespace Go.Proofs.Ytmcnmgkfloidpaa.P6
open Go.RowKit Kd P4 P5
variable {B p : Nat} {x : Dx}
def NoNode (w : World) (e : Ending) (w' : World) : Prop := e = .returned (.tuple #[.agg #[.int .i64 0, .int .i64 0, .string ⟨#[]⟩, .string ⟨#[]⟩, .string ⟨#[]⟩, .slice none 0 0, .slice none 0 0, .int .i64 0], .bool false]) ∧ Below w.heap.size w w'
set_option maxHeartbeats 1000000 in
theorem pnode_yes (y : Int) {k : Nat} {nd : Nd} (w : World) (hk : k < x.rs.length) (hy : x.rs[k].nd.id = y) (hn : x.rs[k].nd = nd) (hal : nd.attrs.length ≤ 1000) (hkl : nd.kids.length ≤ 1000) (h : Dc w B p x) : Calls Try.prog 62 #[.pointer (some ⟨p, 0, none⟩), .int .i64 y] w (Tells w nd) := by
  have H := Lib.hid h
  have HY := Lib.hid hy
  have HN := Lib.hid hn
  clear h hy hn
  go_enter Try.func62, Try.ntmps62
  go_wp2_with fail
  refine (tell_yes y _ hk HY.out HN.out hal hkl (H.out.alloc _)).mono ?_
  rintro e w1 ⟨A, n, c, A2, n2, c2, rfl, a1, o1, b1⟩
  have B1 := Lib.hid (((Below.refl _ w).alloc (Nat.le_refl _) (.cells #[.int .i64 0, .int .i64 0, .string ⟨#[]⟩, .string ⟨#[]⟩, .string ⟨#[]⟩, .slice none 0 0, .slice none 0 0, .int .i64 0] 52)).trans (b1.mono (by simp)))
  have BLK : Hid (w1.heap[w.heap.size]? = some (.cells #[.int .i64 0, .int .i64 0, .string ⟨#[]⟩, .string ⟨#[]⟩, .string ⟨#[]⟩, .slice none 0 0, .slice none 0 0, .int .i64 0] 52 (0, 0))) := Lib.hid ((b1.block _ (by simp)).trans (heap_alloc_new w _))
  have HA1 := Lib.hid a1
  have HK1 := Lib.hid o1
  have hz4 : w.heap.size < w1.heap.size := heap_lt BLK.out
  have r0 : w1.cell? ⟨w.heap.size, 0, none⟩ = some (.int .i64 0) := cell_of_row w1 _ 0 _ _ (0, 0) BLK.out
  have r1 : w1.cell? ⟨w.heap.size, 1, none⟩ = some (.int .i64 0) := cell_of_row w1 _ 1 _ _ (0, 0) BLK.out
  have r2 : w1.cell? ⟨w.heap.size, 2, none⟩ = some (.string ⟨#[]⟩) := cell_of_row w1 _ 2 _ _ (0, 0) BLK.out
  have r3 : w1.cell? ⟨w.heap.size, 3, none⟩ = some (.string ⟨#[]⟩) := cell_of_row w1 _ 3 _ _ (0, 0) BLK.out
  have r4 : w1.cell? ⟨w.heap.size, 4, none⟩ = some (.string ⟨#[]⟩) := cell_of_row w1 _ 4 _ _ (0, 0) BLK.out
  have r5 : w1.cell? ⟨w.heap.size, 5, none⟩ = some (.slice none 0 0) := cell_of_row w1 _ 5 _ _ (0, 0) BLK.out
  have r6 : w1.cell? ⟨w.heap.size, 6, none⟩ = some (.slice none 0 0) := cell_of_row w1 _ 6 _ _ (0, 0) BLK.out
  have r7 : w1.cell? ⟨w.heap.size, 7, none⟩ = some (.int .i64 0) := cell_of_row w1 _ 7 _ _ (0, 0) BLK.out
  have rf : ∀ i, w1.frozen? ⟨w.heap.size, i, none⟩ = false := fun i => by have hb := BLK.out; simp [World.frozen?, hb]
  clear a1 o1 b1
  go_wp2_with fail
  refine bodyPost_ret (v := .tuple #[.agg #[.int .i64 nd.id, .int .i64 nd.par, .string nd.tag, .string nd.txt, .string nd.key, .slice A n c, .slice A2 n2 c2, .int .i64 nd.note], .bool true]) (by simp [results, Try.results62, go_sem, r0, r1, r2, r3, r4, r5, r6, r7, hz4]) rfl ?_
  refine tell_end B1.out (D := (w.alloc (.cells #[.int .i64 0, .int .i64 0, .string ⟨#[]⟩, .string ⟨#[]⟩, .string ⟨#[]⟩, .slice none 0 0, .slice none 0 0, .int .i64 0] 52)).heap.size) (by simp) HA1.out HK1.out ⟨_, BLK.out⟩ ?_
  exact setOne (setOne (setOne (setOne (setOne (setOne (setOne (setOne (But.refl _ _))))))))
set_option maxHeartbeats 1000000 in
theorem pnode_no (y : Int) (w : World) (hy : hasL x.l y = false) (h : Dc w B p x) : Calls Try.prog 62 #[.pointer (some ⟨p, 0, none⟩), .int .i64 y] w (NoNode w) := by
  have H := Lib.hid h
  have HY := Lib.hid hy
  clear h hy
  go_enter Try.func62, Try.ntmps62
  go_wp2_with fail
  refine (tell_no y _ HY.out (H.out.alloc _)).mono ?_
  rintro e w1 ⟨rfl, b1⟩
  have B1 := Lib.hid (((Below.refl _ w).alloc (Nat.le_refl _) (.cells #[.int .i64 0, .int .i64 0, .string ⟨#[]⟩, .string ⟨#[]⟩, .string ⟨#[]⟩, .slice none 0 0, .slice none 0 0, .int .i64 0] 52)).trans (b1.mono (by simp)))
  have BLK : Hid (w1.heap[w.heap.size]? = some (.cells #[.int .i64 0, .int .i64 0, .string ⟨#[]⟩, .string ⟨#[]⟩, .string ⟨#[]⟩, .slice none 0 0, .slice none 0 0, .int .i64 0] 52 (0, 0))) := Lib.hid ((b1.block _ (by simp)).trans (heap_alloc_new w _))
  have hz4 : w.heap.size < w1.heap.size := heap_lt BLK.out
  have r0 : w1.cell? ⟨w.heap.size, 0, none⟩ = some (.int .i64 0) := cell_of_row w1 _ 0 _ _ (0, 0) BLK.out
  have r1 : w1.cell? ⟨w.heap.size, 1, none⟩ = some (.int .i64 0) := cell_of_row w1 _ 1 _ _ (0, 0) BLK.out
  have r2 : w1.cell? ⟨w.heap.size, 2, none⟩ = some (.string ⟨#[]⟩) := cell_of_row w1 _ 2 _ _ (0, 0) BLK.out
  have r3 : w1.cell? ⟨w.heap.size, 3, none⟩ = some (.string ⟨#[]⟩) := cell_of_row w1 _ 3 _ _ (0, 0) BLK.out
  have r4 : w1.cell? ⟨w.heap.size, 4, none⟩ = some (.string ⟨#[]⟩) := cell_of_row w1 _ 4 _ _ (0, 0) BLK.out
  have r5 : w1.cell? ⟨w.heap.size, 5, none⟩ = some (.slice none 0 0) := cell_of_row w1 _ 5 _ _ (0, 0) BLK.out
  have r6 : w1.cell? ⟨w.heap.size, 6, none⟩ = some (.slice none 0 0) := cell_of_row w1 _ 6 _ _ (0, 0) BLK.out
  have r7 : w1.cell? ⟨w.heap.size, 7, none⟩ = some (.int .i64 0) := cell_of_row w1 _ 7 _ _ (0, 0) BLK.out
  have rf : ∀ i, w1.frozen? ⟨w.heap.size, i, none⟩ = false := fun i => by have hb := BLK.out; simp [World.frozen?, hb]
  clear b1
  go_wp2_with fail
  refine bodyPost_ret (v := .tuple #[.agg #[.int .i64 0, .int .i64 0, .string ⟨#[]⟩, .string ⟨#[]⟩, .string ⟨#[]⟩, .slice none 0 0, .slice none 0 0, .int .i64 0], .bool false]) (by simp [results, Try.results62, go_sem, r0, r1, r2, r3, r4, r5, r6, r7, hz4]) rfl ⟨rfl, one_end B1.out ?_⟩
  exact setOne (setOne (setOne (setOne (setOne (setOne (setOne (setOne (But.refl _ _))))))))
set_option maxHeartbeats 1000000 in
theorem pnode_nil (y : Int) (w : World) : Calls Try.prog 62 #[.pointer none, .int .i64 y] w (NoNode w) := by
  have BLK : Hid ((w.alloc (.cells #[.int .i64 0, .int .i64 0, .string ⟨#[]⟩, .string ⟨#[]⟩, .string ⟨#[]⟩, .slice none 0 0, .slice none 0 0, .int .i64 0] 52)).heap[w.heap.size]? = some (.cells #[.int .i64 0, .int .i64 0, .string ⟨#[]⟩, .string ⟨#[]⟩, .string ⟨#[]⟩, .slice none 0 0, .slice none 0 0, .int .i64 0] 52 (0, 0))) := Lib.hid (heap_alloc_new w _)
  go_enter Try.func62, Try.ntmps62
  go_wp2_with fail
  refine bodyPost_ret (v := .tuple #[.agg #[.int .i64 0, .int .i64 0, .string ⟨#[]⟩, .string ⟨#[]⟩, .string ⟨#[]⟩, .slice none 0 0, .slice none 0 0, .int .i64 0], .bool false]) (by simp [results, Try.results62, go_sem]) rfl ⟨rfl, ?_⟩
  exact (Below.refl _ w).alloc (Nat.le_refl _) _

/-! ### Contains -/
set_option maxHeartbeats 400000 in
theorem index_no (l : List Int) (t : Int) (A : Option Addr) (n c : Nat) (w : World) (hn : l.length = n) (hn2 : n ≤ 1000000) (ht : t ∉ l) (H : kI.Holds w w.heap.size A l) :
    Calls Try.prog 79 #[.slice A n c, .int .i64 t] w fun e w' => e = .returned (.int .i64 (-1)) ∧ w = w' := by
  have HH := Lib.hid H
  have HN := Lib.hid hn
  have HT := Lib.hid ht
  clear H hn ht
  go_enter Try.func79, Try.ntmps79
  go_wp2_with fail
  go_loop [8] (fun i => ∃ k : Nat, k ≤ n ∧ i = .int .i64 k) (fun i => n - (intOf i).toNat)
  case atStart => exact ⟨0, by omega, rfl⟩
  case round =>
    obtain ⟨k, hk, rfl⟩ := hrel
    by_cases hlt : k < n
    · have hkl : k < l.length := by have := HN.out; omega
      obtain ⟨b, o, rfl, hb, hc⟩ := cell_int HH.out hkl
      have hq : (t == l[k]) = false := beq_eq_false_iff_ne.2 (fun e => HT.out (e ▸ List.getElem_mem hkl))
      go_wp2
      go_round
      case rel => exact ⟨k + 1, by omega, by go_num⟩
      case measure => simp [intOf]; omega
    · go_wp2
      go_ret
      exact ⟨rfl, rfl⟩
theorem idx_mem {l : List Int} {t : Int} (h : t ∈ l) : (0 : Int) ≤ (idxA l t : Int) := by omega
set_option maxHeartbeats 400000 in
theorem contains_any (l : List Int) (t : Int) (A : Option Addr) (n c : Nat) (w : World) (hn : l.length = n) (hn2 : n ≤ 1000000) (H : kI.Holds w w.heap.size A l) :
    Calls Try.prog 64 #[.slice A n c, .int .i64 t] w fun e w' => e = .returned (.bool (decide (t ∈ l))) ∧ w = w' := by
  have HH := Lib.hid H
  have HN := Lib.hid hn
  clear H hn
  by_cases ht : t ∈ l
  · have HT := Lib.hid ht
    have HD := Lib.hid (decide_eq_true ht)
    clear ht
    go_enter Try.func64, Try.ntmps64
    go_wp2_with fail
    refine (index_any l t A n c w HN.out hn2 HT.out HH.out).mono ?_
    rintro e w' ⟨rfl, rfl⟩
    go_wp2_with fail
    go_ret
    exact ⟨ret_bool HD.out.symm, rfl⟩
  · have HT := Lib.hid ht
    have HD := Lib.hid (decide_eq_false ht)
    clear ht
    go_enter Try.func64, Try.ntmps64
    go_wp2_with fail
    refine (index_no l t A n c w HN.out hn2 HT.out HH.out).mono ?_
    rintro e w' ⟨rfl, rfl⟩
    go_wp2_with fail
    go_ret
    exact ⟨ret_bool HD.out.symm, rfl⟩

/-! ### A node in a block of its own -/
/-- the block holds the node of that identity, if there is one; its children lie in memory that is new since C -/
structure Box (w : World) (C g : Nat) (l : List Nd) (cur : Int) : Prop where
  ge : C ≤ g
  at_ : ∃ nd A n c A2 n2 c2, NdB w g nd A n c A2 n2 c2 ∧ kI.Own w C (.slice A2 n2 c2) nd.kids ∧ (hasL l cur = true → nd.id = cur ∧ nd.par = parOf l cur ∧ nd.kids = kidsOf l cur)
theorem Box.below {w w' : World} {C g : Nat} {l : List Nd} {cur : Int} (h : Box w C g l cur) (hb : Below w.heap.size w w') : Box w' C g l cur := by
  obtain ⟨nd, A, n, c, A2, n2, c2, h1, h2, h3⟩ := h.at_
  exact ⟨h.ge, nd, A, n, c, A2, n2, c2, h1.below hb h1.lt, h2.below hb (Nat.le_refl _), h3⟩
theorem wf_kids (hwf : WF x.d) {w : World} (h : Dc w B p x) {k : Nat} (hk : k < x.rs.length) {i : Int} (hy : x.rs[k].nd.id = i) : x.rs[k].nd.id = i ∧ x.rs[k].nd.par = parOf x.l i ∧ x.rs[k].nd.kids = kidsOf x.l i ∧ x.rs[k].nd.attrs.length ≤ 1000 ∧ x.rs[k].nd.kids.length ≤ 1000 := by
  have h1 := tag_at h hk hy
  have h2 := nd_kids h hwf hk
  exact ⟨hy, h1.2.1.symm, h1.2.2.symm, h2.1, h2.2.1⟩
def zNd : Nd := ⟨0, 0, ⟨#[]⟩, ⟨#[]⟩, ⟨#[]⟩, [], [], 0⟩

/-! ### Up -/
def UpRel (w : World) (x : Dx) (i : Int) (N : Nat) (s5 s6 s7 : Value) (wr : World) : Prop := ∃ (g j : Nat) (ok : Bool) (acc : List Int), s6 = .pointer (some ⟨g, 0, none⟩) ∧ s7 = .bool ok ∧ acc.length = j ∧ j ≤ N + 1 ∧ Hid (ok = hasL x.l (it (parOf x.l) j i)) ∧ Hid (Box wr w.heap.size g x.l (it (parOf x.l) j i)) ∧ Hid (kI.Own wr w.heap.size s5 acc) ∧ Hid (aboveL x.l i = acc ++ up (hasL x.l) (parOf x.l) (N + 1 - j) (it (parOf x.l) j i)) ∧ Hid (0 < j → hasL x.l i = true) ∧ Hid (Below w.heap.size w wr)
set_option maxHeartbeats 4000000 in
theorem pup_any (i : Int) (w : World) (hwf : WF x.d) (h : Dc w B p x) : Calls Try.prog 30 #[.pointer (some ⟨p, 0, none⟩), .int .i64 i] w (GotInts w (aboveL x.l i)) := by
  have H := Lib.hid h
  have HWF := Lib.hid hwf
  obtain ⟨N, hN⟩ : ∃ N, x.rs.length = N := ⟨_, rfl⟩
  have HAB : Hid (aboveL x.l i = up (hasL x.l) (parOf x.l) (N + 1) i) := Lib.hid (by unfold aboveL; rw [l_len, hN])
  have hN2 : N ≤ 1000 := by have := hwf.len200; rw [show x.d.l = x.l from rfl, l_len] at this; omega
  have HST : Hid (∀ j, hasL x.l (it (parOf x.l) j i) = true → hasL x.l i = true → j ≤ N) := Lib.hid (fun j hj hi => by
    obtain ⟨k, hk⟩ := hwf.tr.dep i
    have hkl := hwf.tr.dep_le (L := idsOf x.l) (fun y hy => has_ids.1 hy) hi hk
    have hkn : k ≤ N := by rw [← hN]; simpa [idsOf, Dx.l] using hkl
    rcases Nat.lt_or_ge j k with e | e
    · omega
    · have h0 := hwf.tr.it_ge hk.1 e
      rw [show parOf x.d.l = parOf x.l from rfl] at h0
      rw [h0] at hj
      have := hwf.no0
      rw [show hasL x.d.l 0 = hasL x.l 0 from rfl, hj] at this
      cases this)
  clear h hwf hN
  have NODE : Hid (∀ (W : World) (y : Int), Below w.heap.size w W → Calls Try.prog 62 #[.pointer (some ⟨p, 0, none⟩), .int .i64 y] W fun e w' => ∃ (nd : Nd) (A : Option Addr) (n c : Nat) (A2 : Option Addr) (n2 c2 : Nat) (ok : Bool), e = .returned (.tuple #[.agg #[.int .i64 nd.id, .int .i64 nd.par, .string nd.tag, .string nd.txt, .string nd.key, .slice A n c, .slice A2 n2 c2, .int .i64 nd.note], .bool ok]) ∧ ok = hasL x.l y ∧ kI.Own w' W.heap.size (.slice A2 n2 c2) nd.kids ∧ (hasL x.l y = true → nd.id = y ∧ nd.par = parOf x.l y ∧ nd.kids = kidsOf x.l y) ∧ Below W.heap.size W w') := Lib.hid (fun W y hb => by
    have HX := H.out.below hb
    cases hy : hasL x.l y with
    | true =>
      obtain ⟨k, hk, e, _⟩ := HX.place hy
      obtain ⟨q1, q2, q3, q4, q5⟩ := wf_kids HWF.out HX hk e
      refine (pnode_yes y W hk e rfl q4 q5 HX).mono ?_
      rintro e w' ⟨A, n, c, A2, n2, c2, rfl, _, o, b⟩
      exact ⟨_, A, n, c, A2, n2, c2, true, rfl, rfl, o, fun _ => ⟨q1, q2, q3⟩, b⟩
    | false =>
      refine (pnode_no y W hy HX).mono ?_
      rintro e w' ⟨rfl, b⟩
      exact ⟨zNd, none, 0, 0, none, 0, 0, false, rfl, rfl, Kind.Own.nil _ _ _, fun h => (by cases h), b⟩)
  go_enter Try.func30, Try.ntmps30
  go_wp2_with fail
  refine (NODE.out w i (Below.refl _ _)).mono ?_
  rintro e w1 ⟨nd, A, n, c, A2, n2, c2, ok, rfl, hok, o1, hnd, b1⟩
  have BX : Hid (Box (w1.alloc (.cells #[.int .i64 nd.id, .int .i64 nd.par, .string nd.tag, .string nd.txt, .string nd.key, .slice A n c, .slice A2 n2 c2, .int .i64 nd.note] 52)) w.heap.size w1.heap.size x.l i) := Lib.hid ⟨b1.size, nd, A, n, c, A2, n2, c2, NdB.new _ _ _ _ _ _ _ _, o1.alloc _, hnd⟩
  have B1 : Hid (Below w.heap.size w (w1.alloc (.cells #[.int .i64 nd.id, .int .i64 nd.par, .string nd.tag, .string nd.txt, .string nd.key, .slice A n c, .slice A2 n2 c2, .int .i64 nd.note] 52))) := Lib.hid (b1.alloc b1.size _)
  have HOK := Lib.hid hok
  clear o1 hnd b1 hok
  go_upto_block 0 with fail
  generalize w1.alloc (.cells #[.int .i64 nd.id, .int .i64 nd.par, .string nd.tag, .string nd.txt, .string nd.key, .slice A n c, .slice A2 n2 c2, .int .i64 nd.note] 52) = W1 at BX B1 ⊢
  generalize w1.heap.size = g1 at BX ⊢
  go_wp2_with fail
  go_loopw [5, 6, 7] (fun s5 s6 s7 wr => UpRel w x i N s5 s6 s7 wr) (fun s5 _ _ _ => match s5 with | .slice _ n _ => N + 1 - n | _ => 0)
  case atStart => exact ⟨g1, 0, ok, [], rfl, rfl, rfl, by omega, HOK, BX, Lib.hid (Kind.Own.nil _ _ _), Lib.hid (by rw [HAB.out]; rfl), Lib.hid (fun h => absurd h (by omega)), B1⟩
  case round =>
    obtain ⟨g, j, ok, acc, rfl, rfl, hacc, hj, HOKJ, HBX, HO, HU, H0, HB⟩ := hrel
    have HACC := Lib.hid hacc
    clear hacc
    obtain ⟨A5, n5, c5, rfl, h5, _⟩ := HO.out.slice
    obtain rfl : n5 = j := by rw [← h5]; exact HACC.out
    clear h5
    cases ok with
    | false =>
      have HE : Hid (aboveL x.l i = acc) := Lib.hid (by rw [HU.out, up_stop HOKJ.out.symm, List.append_nil])
      go_wp2_with fail
      go_ret
      rw [HE.out]
      exact ⟨_, _, _, rfl, HO.out, HB.out⟩
    | true =>
      have hi : hasL x.l i = true := by
        by_cases e : 0 < n5
        · exact H0.out e
        · obtain rfl : n5 = 0 := by omega
          exact HOKJ.out.symm
      have hjN := HST.out n5 HOKJ.out.symm hi
      have HI := Lib.hid hi
      have HUP : Hid (aboveL x.l i = (acc ++ [it (parOf x.l) n5 i]) ++ up (hasL x.l) (parOf x.l) (N + 1 - (n5 + 1)) (it (parOf x.l) (n5 + 1) i)) := Lib.hid (by
        rw [HU.out, show N + 1 - n5 = (N + 1 - (n5 + 1)) + 1 by omega, up_step HOKJ.out.symm, it_succ]
        simp)
      obtain ⟨nd, A, n, c, A2, n2, c2, nb, o2, hnd⟩ := HBX.out.at_
      obtain ⟨q1, q2, q3⟩ := hnd HOKJ.out.symm
      have HGE := Lib.hid HBX.out.ge
      have NB := Lib.hid nb
      have OK2 := Lib.hid o2
      have Q1 := Lib.hid q1
      have Q2 : Hid (nd.par = it (parOf x.l) (n5 + 1) i) := Lib.hid (by rw [it_succ]; exact q2)
      have z0 := nb.c0
      have hzr := HB.out.size
      clear hi nb o2 hnd q1 q2 q3
      go_upto_region 6 with (at_builtin; refine kI.wp_app rfl _ _ rfl (v := .slice A5 n5 c5) (l := acc) (m := [nd.id]) (B := w.heap.size) rfl (HO.out.alloc _) rfl rfl (fun e => by cases e) (Kind.Holds.lit (heap_alloc_new _ _) rfl) (by have := HACC.out; simp; omega) (by simp; omega) ?_; intro v' w3 hown hgrow hat; obtain ⟨A6, n6, c6, rfl, h6, _, _, _, _⟩ := hown.slice)
      have HO3 : Hid (kI.Own w3 w.heap.size (.slice A6 n6 c6) (acc ++ [it (parOf x.l) n5 i])) := Lib.hid (by rw [← Q1.out]; exact hown)
      have HN6 : Hid (n6 = n5 + 1) := Lib.hid (by rw [← h6, List.length_append, HACC.out]; rfl)
      have hB3 : But (fun k => (Value.slice A5 n5 c5).ownBlock = some k) wr w3 := ((But.refl _ wr).alloc _).trans (But.of_grown (S := fun k => (Value.slice A5 n5 c5).ownBlock = some k) hgrow (fun g hg _ => hg)) (fun _ _ h => h)
      have HB3 : Hid (Below w.heap.size w w3) := Lib.hid ((HB.out.alloc hzr _).grown hgrow (by simp; omega) (fun k hk => (HO.out.lt hk).1))
      have N3 : Hid (NdB w3 g nd A n c A2 n2 c2) := Lib.hid (NB.out.by_ hB3 (fun e => by obtain ⟨d, hd⟩ := HO.out.ty e; exact heap_ne hd NB.out (by decide) rfl))
      clear hown hgrow hat hB3 h6 z0
      have z0 := N3.out.c0
      have z1 := N3.out.c1
      have z2 := N3.out.c2
      have z3 := N3.out.c3
      have z4 := N3.out.c4
      have z5 := N3.out.c5
      have z6 := N3.out.c6
      have z7 := N3.out.c7
      have N4 : Hid (NdB (w3.alloc (.cells #[.int .i64 nd.id, .int .i64 nd.par, .string nd.tag, .string nd.txt, .string nd.key, .slice A n c, .slice A2 n2 c2, .int .i64 nd.note] 52)) w3.heap.size nd A n c A2 n2 c2) := Lib.hid (NdB.new _ _ _ _ _ _ _ _)
      have B4 : Hid (Below w.heap.size w (w3.alloc (.cells #[.int .i64 nd.id, .int .i64 nd.par, .string nd.tag, .string nd.txt, .string nd.key, .slice A n c, .slice A2 n2 c2, .int .i64 nd.note] 52))) := Lib.hid (HB3.out.alloc HB3.out.size _)
      have O4 := Lib.hid (HO3.out.alloc (.cells #[.int .i64 nd.id, .int .i64 nd.par, .string nd.tag, .string nd.txt, .string nd.key, .slice A n c, .slice A2 n2 c2, .int .i64 nd.note] 52))
      have G4 : Hid (w.heap.size ≤ w3.heap.size) := Lib.hid HB3.out.size
      go_upto_region 4 with fail
      generalize w3.alloc (.cells #[.int .i64 nd.id, .int .i64 nd.par, .string nd.tag, .string nd.txt, .string nd.key, .slice A n c, .slice A2 n2 c2, .int .i64 nd.note] 52) = w4 at N4 B4 O4 ⊢
      generalize w3.heap.size = g4 at N4 G4 ⊢
      clear z0 z1 z2 z3 z4 z5 z6 z7 N3 HB3 HO3
      have y1 := N4.out.c1
      go_wp2_with fail
      refine (NODE.out w4 nd.par B4.out).mono ?_
      rintro e w5 ⟨nd', A', n', c', A2', n2', c2', ok', rfl, hok', o5, hnd', b5⟩
      have N5 := Lib.hid (N4.out.below b5 N4.out.lt)
      have B5 := Lib.hid (B4.out.trans (b5.mono B4.out.size))
      have O5 := Lib.hid (O4.out.below b5 (Nat.le_refl _))
      have HOK5 := Lib.hid hok'
      have HN5 := Lib.hid hnd'
      have K5 := Lib.hid o5
      have hg5 : g4 < w4.heap.size := N4.out.lt
      clear hok' hnd' o5 b5 y1
      have u0 := N5.out.c0
      have f0 := N5.out.frozen 0
      have u1 := N5.out.c1
      have f1 := N5.out.frozen 1
      have u2 := N5.out.c2
      have f2 := N5.out.frozen 2
      have u3 := N5.out.c3
      have f3 := N5.out.frozen 3
      have u4 := N5.out.c4
      have f4 := N5.out.frozen 4
      have u5 := N5.out.c5
      have f5 := N5.out.frozen 5
      have u6 := N5.out.c6
      have f6 := N5.out.frozen 6
      have u7 := N5.out.c7
      have f7 := N5.out.frozen 7
      have N6 : Hid (NdB ((((((((w5.setCell ⟨g4, 0, none⟩ (.int .i64 nd'.id)).setCell ⟨g4, 1, none⟩ (.int .i64 nd'.par)).setCell ⟨g4, 2, none⟩ (.string nd'.tag)).setCell ⟨g4, 3, none⟩ (.string nd'.txt)).setCell ⟨g4, 4, none⟩ (.string nd'.key)).setCell ⟨g4, 5, none⟩ (.slice A' n' c')).setCell ⟨g4, 6, none⟩ (.slice A2' n2' c2')).setCell ⟨g4, 7, none⟩ (.int .i64 nd'.note)) g4 nd' A' n' c' A2' n2' c2') := Lib.hid (N5.out.set8 (nd' := nd'))
      have BT6 : Hid (But (fun k => k = g4) w5 ((((((((w5.setCell ⟨g4, 0, none⟩ (.int .i64 nd'.id)).setCell ⟨g4, 1, none⟩ (.int .i64 nd'.par)).setCell ⟨g4, 2, none⟩ (.string nd'.tag)).setCell ⟨g4, 3, none⟩ (.string nd'.txt)).setCell ⟨g4, 4, none⟩ (.string nd'.key)).setCell ⟨g4, 5, none⟩ (.slice A' n' c')).setCell ⟨g4, 6, none⟩ (.slice A2' n2' c2')).setCell ⟨g4, 7, none⟩ (.int .i64 nd'.note))) := Lib.hid (setOne (setOne (setOne (setOne (setOne (setOne (setOne (setOne (But.refl _ _)))))))))
      go_upto_block 0 with fail
      generalize ((((((((w5.setCell ⟨g4, 0, none⟩ (.int .i64 nd'.id)).setCell ⟨g4, 1, none⟩ (.int .i64 nd'.par)).setCell ⟨g4, 2, none⟩ (.string nd'.tag)).setCell ⟨g4, 3, none⟩ (.string nd'.txt)).setCell ⟨g4, 4, none⟩ (.string nd'.key)).setCell ⟨g4, 5, none⟩ (.slice A' n' c')).setCell ⟨g4, 6, none⟩ (.slice A2' n2' c2')).setCell ⟨g4, 7, none⟩ (.int .i64 nd'.note)) = w6 at N6 BT6 ⊢
      have B6 : Hid (Below w.heap.size w w6) := Lib.hid (B5.out.trans (BT6.out.to_below (fun k _ e => by have := G4.out; omega) B5.out.size))
      have O6 : Hid (kI.Own w6 w.heap.size (.slice A6 n6 c6) (acc ++ [it (parOf x.l) n5 i])) := Lib.hid (O5.out.but BT6.out (fun k hk e => by obtain ⟨d, hd⟩ := O5.out.ty hk; exact heap_ne hd (e ▸ N5.out) (by decide) rfl))
      have K6 : Hid (kI.Own w6 w.heap.size (.slice A2' n2' c2') nd'.kids) := Lib.hid ((K5.out.but BT6.out (fun k hk e => by obtain ⟨d, hd⟩ := K5.out.ty hk; exact heap_ne hd (e ▸ N5.out) (by decide) rfl)).base_le B4.out.size)
      clear u0 u1 u2 u3 u4 u5 u6 u7 f0 f1 f2 f3 f4 f5 f6 f7
      go_wp2_with fail
      go_roundw
      case rel => exact ⟨g4, n5 + 1, ok', acc ++ [it (parOf x.l) n5 i], rfl, rfl, by rw [List.length_append, HACC.out]; rfl, by omega, Lib.hid (by rw [← Q2.out]; exact HOK5.out), Lib.hid ⟨G4.out, nd', A', n', c', A2', n2', c2', N6.out, K6.out, by rw [← Q2.out]; exact HN5.out⟩, O6, HUP, Lib.hid (fun _ => HI.out), B6⟩
      case measure => rw [HN6.out]; omega
/-! ### Inside -/
set_option maxHeartbeats 400000 in
theorem pinside_any (a b : Int) (w : World) (hwf : WF x.d) (h : Dc w B p x) : Calls Try.prog 32 #[.pointer (some ⟨p, 0, none⟩), .int .i64 a, .int .i64 b] w fun e w' => e = .returned (.bool (inside x.l a b)) ∧ Below w.heap.size w w' := by
  have H := Lib.hid h
  have HWF := Lib.hid hwf
  have hl : (aboveL x.l a).length ≤ 1000000 := by
    have h1 : ∀ (f : Nat) (i : Int), (up (hasL x.l) (parOf x.l) f i).length ≤ f := by
      intro f
      induction f with
      | zero => intro i; simp [up]
      | succ f ih => intro i; rw [up]; split <;> simp; exact ih _
    have h2 := h1 (x.l.length + 1) a
    have h3 := hwf.len200
    rw [show x.d.l = x.l from rfl] at h3
    unfold aboveL
    omega
  have HL := Lib.hid hl
  clear h hwf hl
  go_enter Try.func32, Try.ntmps32
  go_wp2_with fail
  refine (pup_any a w HWF.out H.out).mono ?_
  rintro e w1 ⟨A, n, c, rfl, o1, b1⟩
  obtain ⟨g1, _, _, _, g5⟩ := own_nil_zero o1 rfl
  have B1 := Lib.hid b1
  have G1 := Lib.hid g1
  have G5 := Lib.hid g5
  clear o1 b1 g1 g5
  go_wp2_with fail
  refine (contains_any (aboveL x.l a) b A n c w1 G1.out (by rw [← G1.out]; exact HL.out) G5.out).mono ?_
  rintro e w' ⟨rfl, rfl⟩
  go_wp2_with fail
  go_ret
  exact ⟨rfl, B1.out⟩
end Go.Proofs.Ytmcnmgkfloidpaa.P6
