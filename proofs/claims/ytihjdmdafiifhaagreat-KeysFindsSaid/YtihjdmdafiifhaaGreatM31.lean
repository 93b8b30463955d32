/- The reference: put, whole; Apply. -/
import Derived.Deep.RegionHeld3
import Derived.Deep.DeepCutAuto
import Derived.Deep.CutBlock
import Derived.Test.YtihjdmdafiifhaaGreatM19
import Derived.Test.YtihjdmdafiifhaaGreatM22
import Derived.Test.YtihjdmdafiifhaaGreatM25
import Derived.Test.YtihjdmdafiifhaaGreatM26
import Derived.Test.YtihjdmdafiifhaaGreatM27
import Derived.Test.YtihjdmdafiifhaaGreatM28
import Derived.Test.YtihjdmdafiifhaaGreatM30
set_option linter.unusedVariables false
set_option linter.unusedSimpArgs false
set_option linter.unusedVariables false
set_option linter.unusedSimpArgs false
namespace Go.Proofs.YtihjdmdafiifhaaGreat.P5
open Go.RowKit Kd P4
variable {B q : Nat} {y : Rx}
theorem rput_any (r : Rc) (A : Option Addr) (n c : Nat) (w : World) (hwf : WF y.d) (h : Rf w B q y) : Calls Tryz.prog 36 #[.pointer (some ⟨q, 0, none⟩), .agg #[.int .i64 r.op, .int .i64 r.id, .int .i64 r.par, .int .i64 r.bef, .string r.tag, .string r.txt, .string r.key, .slice A n c]] w (RMade w B q y (putD y.d r.id r.par r.bef).1 (putD y.d r.id r.par r.bef).2) := by
  have hl : y.rs.length ≤ 1000 := by have := hwf.len200; rw [show y.d.l = y.l from rfl, rl_len] at this; omega
  by_cases h0 : putErr y.l r.id r.par r.bef = 0
  · have e : putD y.d r.id r.par r.bef = (0, { y.d with l := putL y.l r.id r.par r.bef }) := by unfold putD; rw [if_pos (show putErr y.d.l r.id r.par r.bef = 0 from h0)]; rfl
    rw [e]
    have hk := putErr_ok h0
    have h1 : (r.id == 1) = false := by simpa using hk.h1
    by_cases hb : r.bef = 0
    · exact rput_y0 r A n c w hwf.asc hl hk.hi hk.hp (by simpa using hb) h1 hwf hk.hk hk.hn hb h
    · obtain ⟨b1, b2, b3⟩ := hk.hb.resolve_left hb
      exact rput_y1 r A n c w hwf.asc hl hk.hi hk.hp (by simpa using hb) b1 h1 hwf hk.hk hk.hn hb (by simpa using b2) (by simpa using b3) h
  · have e : putD y.d r.id r.par r.bef = (putErr y.l r.id r.par r.bef, y.d) := by unfold putD; rw [if_neg (show ¬ putErr y.d.l r.id r.par r.bef = 0 from h0)]; rfl
    rw [e]
    exact rput_no r A n c w hwf.asc hl h0 h
set_option maxRecDepth 100000 in
set_option maxHeartbeats 1000000 in
theorem rapply_make (r : Rc) (A : Option Addr) (n c : Nat) (w : World) (hwf : WF y.d) (hn : y.n ≤ 100000) (h1 : r.tag.size ≤ maxLen) (h2 : r.txt.size ≤ maxLen) (h3 : r.key.size ≤ maxLen) (q1 : (r.op == 1) = true) (h : Rf w B q y) : Calls Tryz.prog 20 #[.pointer (some ⟨q, 0, none⟩), .agg #[.int .i64 r.op, .int .i64 r.id, .int .i64 r.par, .int .i64 r.bef, .string r.tag, .string r.txt, .string r.key, .slice A n c]] w (RMade w B q y (makeD y.d r).1 (makeD y.d r).2) := by
  have B1 : Hid (Below w.heap.size w (w.alloc (.cells #[.int .i64 r.op, .int .i64 r.id, .int .i64 r.par, .int .i64 r.bef, .string r.tag, .string r.txt, .string r.key, .slice A n c] 54))) := Lib.hid ((Below.refl _ _).alloc (Nat.le_refl _) _)
  have N1 : Hid (RcB (w.alloc (.cells #[.int .i64 r.op, .int .i64 r.id, .int .i64 r.par, .int .i64 r.bef, .string r.tag, .string r.txt, .string r.key, .slice A n c] 54)) w.heap.size r A n c) := Lib.hid (RcB.new w r A n c)
  have H0 := Lib.hid h
  have HWF := Lib.hid hwf
  clear h hwf
  go_enter Tryz.func20, Tryz.ntmps20
  go_upto_region 1 with fail
  generalize w.alloc (.cells #[.int .i64 r.op, .int .i64 r.id, .int .i64 r.par, .int .i64 r.bef, .string r.tag, .string r.txt, .string r.key, .slice A n c] 54) = W at B1 N1 ⊢
  have H := Lib.hid (H0.out.below B1.out)
  have b0 := N1.out.c0
  have b1 := N1.out.c1
  have b5 := N1.out.c5
  have b7 := N1.out.c7
  have b2 := N1.out.c2
  have b3 := N1.out.c3
  have b4 := N1.out.c4
  have b6 := N1.out.c6
  go_wp2_with fail
  refine (rmake_any r A n c W HWF.out hn h1 h2 h3 H.out).mono ?_
  rintro e w' ⟨rfl, y', d', e'⟩
  have D' := Lib.hid ((Rdid.below_ H0.out B1.out).trans d')
  have E' := Lib.hid e'
  clear d' e'
  go_wp2_with fail
  go_ret
  exact ⟨rfl, _, D'.out, E'.out⟩
set_option maxRecDepth 100000 in
set_option maxHeartbeats 1000000 in
theorem rapply_put (r : Rc) (A : Option Addr) (n c : Nat) (w : World) (hwf : WF y.d) (q1 : (r.op == 1) = false) (q2 : (r.op == 2) = true) (h : Rf w B q y) : Calls Tryz.prog 20 #[.pointer (some ⟨q, 0, none⟩), .agg #[.int .i64 r.op, .int .i64 r.id, .int .i64 r.par, .int .i64 r.bef, .string r.tag, .string r.txt, .string r.key, .slice A n c]] w (RMade w B q y (putD y.d r.id r.par r.bef).1 (putD y.d r.id r.par r.bef).2) := by
  have B1 : Hid (Below w.heap.size w (w.alloc (.cells #[.int .i64 r.op, .int .i64 r.id, .int .i64 r.par, .int .i64 r.bef, .string r.tag, .string r.txt, .string r.key, .slice A n c] 54))) := Lib.hid ((Below.refl _ _).alloc (Nat.le_refl _) _)
  have N1 : Hid (RcB (w.alloc (.cells #[.int .i64 r.op, .int .i64 r.id, .int .i64 r.par, .int .i64 r.bef, .string r.tag, .string r.txt, .string r.key, .slice A n c] 54)) w.heap.size r A n c) := Lib.hid (RcB.new w r A n c)
  have H0 := Lib.hid h
  have HWF := Lib.hid hwf
  clear h hwf
  go_enter Tryz.func20, Tryz.ntmps20
  go_upto_region 1 with fail
  generalize w.alloc (.cells #[.int .i64 r.op, .int .i64 r.id, .int .i64 r.par, .int .i64 r.bef, .string r.tag, .string r.txt, .string r.key, .slice A n c] 54) = W at B1 N1 ⊢
  have H := Lib.hid (H0.out.below B1.out)
  have b0 := N1.out.c0
  have b1 := N1.out.c1
  have b5 := N1.out.c5
  have b7 := N1.out.c7
  have b2 := N1.out.c2
  have b3 := N1.out.c3
  have b4 := N1.out.c4
  have b6 := N1.out.c6
  go_wp2_with fail
  refine (rput_any r A n c W HWF.out H.out).mono ?_
  rintro e w' ⟨rfl, y', d', e'⟩
  have D' := Lib.hid ((Rdid.below_ H0.out B1.out).trans d')
  have E' := Lib.hid e'
  clear d' e'
  go_wp2_with fail
  go_ret
  exact ⟨rfl, _, D'.out, E'.out⟩
set_option maxRecDepth 100000 in
set_option maxHeartbeats 1000000 in
theorem rapply_gone (r : Rc) (A : Option Addr) (n c : Nat) (w : World) (hwf : WF y.d) (q1 : (r.op == 1) = false) (q2 : (r.op == 2) = false) (q3 : (r.op == 3) = true) (h : Rf w B q y) : Calls Tryz.prog 20 #[.pointer (some ⟨q, 0, none⟩), .agg #[.int .i64 r.op, .int .i64 r.id, .int .i64 r.par, .int .i64 r.bef, .string r.tag, .string r.txt, .string r.key, .slice A n c]] w (RMade w B q y (goneD y.d r.id).1 (goneD y.d r.id).2) := by
  have B1 : Hid (Below w.heap.size w (w.alloc (.cells #[.int .i64 r.op, .int .i64 r.id, .int .i64 r.par, .int .i64 r.bef, .string r.tag, .string r.txt, .string r.key, .slice A n c] 54))) := Lib.hid ((Below.refl _ _).alloc (Nat.le_refl _) _)
  have N1 : Hid (RcB (w.alloc (.cells #[.int .i64 r.op, .int .i64 r.id, .int .i64 r.par, .int .i64 r.bef, .string r.tag, .string r.txt, .string r.key, .slice A n c] 54)) w.heap.size r A n c) := Lib.hid (RcB.new w r A n c)
  have H0 := Lib.hid h
  have HWF := Lib.hid hwf
  clear h hwf
  go_enter Tryz.func20, Tryz.ntmps20
  go_upto_region 1 with fail
  generalize w.alloc (.cells #[.int .i64 r.op, .int .i64 r.id, .int .i64 r.par, .int .i64 r.bef, .string r.tag, .string r.txt, .string r.key, .slice A n c] 54) = W at B1 N1 ⊢
  have H := Lib.hid (H0.out.below B1.out)
  have b0 := N1.out.c0
  have b1 := N1.out.c1
  have b5 := N1.out.c5
  have b7 := N1.out.c7
  have b2 := N1.out.c2
  have b3 := N1.out.c3
  have b4 := N1.out.c4
  have b6 := N1.out.c6
  go_wp2_with fail
  refine (rgone_any r.id W HWF.out H.out).mono ?_
  rintro e w' ⟨rfl, y', d', e'⟩
  have D' := Lib.hid ((Rdid.below_ H0.out B1.out).trans d')
  have E' := Lib.hid e'
  clear d' e'
  go_wp2_with fail
  go_ret
  exact ⟨rfl, _, D'.out, E'.out⟩
theorem rapply_any (r : Rc) (A : Option Addr) (n c : Nat) (w : World) (hwf : WF y.d) (hn : y.n ≤ 100000) (h1 : r.tag.size ≤ maxLen) (h2 : r.txt.size ≤ maxLen) (h3 : r.key.size ≤ maxLen) (ht : ArgA w A n c r.attrs) (h : Rf w B q y) : Calls Tryz.prog 20 #[.pointer (some ⟨q, 0, none⟩), .agg #[.int .i64 r.op, .int .i64 r.id, .int .i64 r.par, .int .i64 r.bef, .string r.tag, .string r.txt, .string r.key, .slice A n c]] w (RMade w B q y (applyD y.d r).1 (applyD y.d r).2) := by
  have hl : y.rs.length ≤ 1000 := by have := hwf.len200; rw [show y.d.l = y.l from rfl, rl_len] at this; omega
  unfold applyD
  by_cases e1 : r.op = 1
  · rw [if_pos e1]
    exact rapply_make r A n c w hwf hn h1 h2 h3 (by simpa using e1) h
  rw [if_neg e1]
  by_cases e2 : r.op = 2
  · rw [if_pos e2]
    exact rapply_put r A n c w hwf (by simpa using e1) (by simpa using e2) h
  rw [if_neg e2]
  by_cases e3 : r.op = 3
  · rw [if_pos e3]
    exact rapply_gone r A n c w hwf (by simpa using e1) (by simpa using e2) (by simpa using e3) h
  rw [if_neg e3]
  by_cases e4 : r.op = 4
  · rw [if_pos e4]
    exact rapply_attrs r A n c w hwf.asc hl ht (by simpa using e1) (by simpa using e2) (by simpa using e3) (by simpa using e4) (by simpa using e4) h
  rw [if_neg e4]
  by_cases e5 : r.op = 5
  · rw [if_pos e5]
    exact rapply_data r A n c w hwf.asc hl h2 (by simpa using e1) (by simpa using e2) (by simpa using e3) (by simpa using e4) (by simpa using e5) (by simpa using e4) h
  rw [if_neg e5]
  exact rapply_none r A n c w (by simpa using e1) (by simpa using e2) (by simpa using e3) (by simpa using e4) (by simpa using e5) h
end Go.Proofs.YtihjdmdafiifhaaGreat.P5

/- A document's clone: half way it shares the old one's nodes. -/
set_option linter.unusedVariables false
set_option linter.unusedSimpArgs false
namespace Go.Proofs.YtihjdmdafiifhaaGreat.P5
open Go.RowKit Kd P4
variable {B p : Nat} {x : Dx}
/-- a node is found where the arena alone is known -/
theorem node_ar (y : Int) {k b a R : Nat} {n : Int} {v : Value} {rs : List Rw} (w : World) (hk : k < rs.length) (hy : rs[k].nd.id = y) (hb : rs[k].b = b) (hc : w.cell? ⟨p, 0, none⟩ = some (.pointer (some ⟨a, 0, none⟩))) (har : ArP w B a R n v (rs.map slotOf)) :
    Calls Tryz.prog 49 #[.pointer (some ⟨p, 0, none⟩), .int .i64 y] w fun e w' => e = .returned (.pointer (some ⟨b, 0, none⟩)) ∧ Below w.heap.size w w' := by
  have H := Lib.hid har
  have HY := Lib.hid hy
  have HB := Lib.hid hb
  clear har hy hb
  go_enter Tryz.func49, Tryz.ntmps49
  go_wp2_with fail
  refine (getP_at y k (x := b) w (l := rs.map slotOf) (by simpa using hk) (by simp [slotOf, HY.out]) (by simp [slotOf, HB.out]) H.out).mono ?_
  rintro e w1 ⟨rfl, b1⟩
  have B1 := Lib.hid b1
  clear b1
  go_wp2_with fail
  go_ret
  exact ⟨rfl, B1.out⟩
/-- the clone, as far as it has got: p' its block, a' its arena, the rows below j new -/
structure Cl (w0 w : World) (x : Dx) (p' a' : Nat) (v' vi' : Value) (rs : List Rw) (j : Nat) : Prop where
  blk : w.heap[p']? = some (.cells #[.pointer (some ⟨a', 0, none⟩), vi', .int .i64 x.foc] 90 (0, 0))
  base : w0.heap.size ≤ p'
  ar : ArP w w0.heap.size a' x.R x.n v' (rs.map slotOf)
  ids : kI.Own w w0.heap.size vi' (idsOf x.l)
  len : rs.length = x.rs.length
  same : ∀ (k : Nat) (h : k < rs.length) (h' : k < x.rs.length), rs[k].nd = x.rs[k].nd ∧ (j ≤ k → rs[k] = x.rs[k])
  new : ∀ (k : Nat) (h : k < rs.length), k < j → NdAt w w0.heap.size rs[k]
  apV : ∀ (k : Nat) (h : k < rs.length), k < j → Apart vi' rs[k].vk.val
  pw : ∀ (k m : Nat) (h : k < rs.length) (h' : m < rs.length), k < m → m < j → rs[k].b ≠ rs[m].b ∧ Apart rs[k].vk.val rs[m].vk.val
  below : Below w0.heap.size w0 w
/-- all rows are new: a document of its own -/
theorem Cl.done {w0 w : World} {p' a' : Nat} {v' vi' : Value} {rs : List Rw} (h : Cl w0 w x p' a' v' vi' rs x.rs.length) : Dc w w0.heap.size p' ⟨a', v', vi', x.R, x.n, x.foc, rs⟩ ∧ (Dx.mk a' v' vi' x.R x.n x.foc rs).d = x.d := by
  have hl : (Dx.mk a' v' vi' x.R x.n x.foc rs).l = x.l := by
    show rs.map (·.nd) = x.rs.map (·.nd)
    apply List.ext_getElem
    · simp [h.len]
    · intro k h1 h2
      simp only [List.getElem_map]
      exact (h.same k (by simpa using h1) (by simpa using h2)).1
  refine ⟨⟨h.blk, h.base, h.ar, by rw [hl]; exact h.ids, fun r hr => ?_, fun r hr => ?_, ?_⟩, by unfold Dx.d; rw [hl]⟩
  · obtain ⟨k, hk, rfl⟩ := List.mem_iff_getElem.1 hr
    exact h.new k hk (by rw [← h.len]; exact hk)
  · obtain ⟨k, hk, rfl⟩ := List.mem_iff_getElem.1 hr
    exact h.apV k hk (by rw [← h.len]; exact hk)
  · rw [List.pairwise_iff_getElem]
    intro k m hk hm hkm
    exact h.pw k m hk hm hkm (by rw [← h.len]; exact hm)
theorem NdAt.but {S : Nat → Prop} {w w' : World} {r : Rw} (h : NdAt w B r) (hb : But S w w') (h1 : ¬ S r.b) (h2 : ∀ g, r.vk.val.ownBlock = some g → ¬ S g) (hA : NoA w S) : NdAt w' B r :=
  h.keep (hb.block _ h.lt h1) (fun g hg => hb.block g (h.kids.lt hg).2 (h2 g hg)) (h.att.but hb hA)
theorem NdAt.below_ {w w' : World} {r : Rw} (h : NdAt w B r) (hb : Below w.heap.size w w') : NdAt w' B r := h.but (But.of_below hb (fun _ => False)) (fun h => h) (fun _ _ h => h) (NoA.none w)
/-- one row more is new -/
theorem Cl.step {w0 w w2 w4 : World} {p' a' : Nat} {v' vi' : Value} {rs : List Rw} {j : Nat} (h : Cl w0 w x p' a' v' vi' rs j) (hj : j < rs.length) {A A2 : Option Addr} {n c n2 c2 : Nat} {C : Nat} (hb : Below w.heap.size w w2) (ha : AOk w2 ⟨A, n, c⟩ rs[j].nd.attrs)
    (hC : w.heap.size ≤ C) (hk : kI.Own w2 C (.slice A2 n2 c2) rs[j].nd.kids)
    (h4 : ArP w4 w0.heap.size a' x.R x.n v' ((rs.map slotOf).set (posA (rs.map slotOf) rs[j].nd.id) ⟨rs[j].nd.id, w2.heap.size⟩)) (hbut : But (Arm a' v') (w2.alloc (.cells (rs[j].nd.cells ⟨A, n, c⟩ ⟨A2, n2, c2⟩) 34)) w4) :
    Cl w0 w4 x p' a' v' vi' (rs.set j ⟨w2.heap.size, ⟨A, n, c⟩, ⟨A2, n2, c2⟩, rs[j].nd⟩) (j + 1) := by
  have hz : w.heap.size ≤ w2.heap.size := hb.size
  have hz0 : w0.heap.size ≤ w.heap.size := h.below.size
  have hb3 : Below w.heap.size w (w2.alloc (.cells (rs[j].nd.cells ⟨A, n, c⟩ ⟨A2, n2, c2⟩) 34)) := hb.alloc hz _
  have blk3 : (w2.alloc (.cells (rs[j].nd.cells ⟨A, n, c⟩ ⟨A2, n2, c2⟩) 34)).heap[w2.heap.size]? = some (.cells (rs[j].nd.cells ⟨A, n, c⟩ ⟨A2, n2, c2⟩) 34 (0, 0)) := heap_alloc_new w2 _
  have ha3 : AOk (w2.alloc (.cells (rs[j].nd.cells ⟨A, n, c⟩ ⟨A2, n2, c2⟩) 34)) ⟨A, n, c⟩ rs[j].nd.attrs := ha.below ((Below.refl _ _).alloc (Nat.le_refl _) _)
  have hk3 : kI.Own (w2.alloc (.cells (rs[j].nd.cells ⟨A, n, c⟩ ⟨A2, n2, c2⟩) 34)) C (.slice A2 n2 c2) rs[j].nd.kids := hk.alloc _
  have hz3 : (w2.alloc (.cells (rs[j].nd.cells ⟨A, n, c⟩ ⟨A2, n2, c2⟩) 34)).heap.size = w2.heap.size + 1 := by simp
  generalize w2.alloc (.cells (rs[j].nd.cells ⟨A, n, c⟩ ⟨A2, n2, c2⟩) 34) = W at hb3 blk3 ha3 hk3 hz3 hbut
  have ar3 : ArP W w0.heap.size a' x.R x.n v' (rs.map slotOf) := h.ar.below hb3 (Nat.le_refl _)
  have armT : ∀ g, Arm a' v' g → ∃ cur t, W.heap[g]? = some (.cells cur t (0, 0)) ∧ (t = 116 ∨ t = 110) := by
    rintro g (rfl | e)
    · exact ⟨_, _, ar3.blk, .inl rfl⟩
    · obtain ⟨d, hd⟩ := ar3.own.ty e
      exact ⟨_, _, hd, .inr rfl⟩
  have nArm : ∀ {g : Nat} {cur : Array Value} {t : TypeId} {fr : Nat × Nat}, W.heap[g]? = some (.cells cur t fr) → t ≠ 116 → t ≠ 110 → ¬ Arm a' v' g := by
    intro g cur t fr hg h1 h2 ha
    obtain ⟨c', t', hc, ht⟩ := armT g ha
    rw [hg] at hc
    injection hc with hc
    injection hc with _ e
    subst e
    rcases ht with e | e <;> contradiction
  have noA : NoA W (Arm a' v') := fun k cur fr hk hc => nArm hc (by decide) (by decide) hk
  have armGe : ∀ g, Arm a' v' g → w0.heap.size ≤ g := by
    rintro g (rfl | e)
    · exact ar3.base
    · exact (ar3.own.lt e).1
  have hids : vi'.ownBlock ≠ none → True := fun _ => trivial
  have ids3 : kI.Own W w0.heap.size vi' (idsOf x.l) := h.ids.below hb3 (Nat.le_refl _)
  have newJ : NdAt w4 w0.heap.size ⟨w2.heap.size, ⟨A, n, c⟩, ⟨A2, n2, c2⟩, rs[j].nd⟩ := by
    have : NdAt W w0.heap.size ⟨w2.heap.size, ⟨A, n, c⟩, ⟨A2, n2, c2⟩, rs[j].nd⟩ := ⟨blk3, by show w0.heap.size ≤ w2.heap.size; omega, ha3, hk3.base_le (by omega)⟩
    refine this.but hbut (nArm blk3 (by decide) (by decide)) (fun g hg => ?_) noA
    obtain ⟨d, hd⟩ := this.kids.ty hg
    exact nArm hd (by decide) (by decide)
  have get : ∀ (k : Nat) (h1 : k < (rs.set j ⟨w2.heap.size, ⟨A, n, c⟩, ⟨A2, n2, c2⟩, rs[j].nd⟩).length), k ≠ j → (rs.set j ⟨w2.heap.size, ⟨A, n, c⟩, ⟨A2, n2, c2⟩, rs[j].nd⟩)[k] = rs[k]'(by simpa using h1) := fun k h1 hk => List.getElem_set_ne (Ne.symm hk) _
  have getJ : ∀ (h1 : j < (rs.set j ⟨w2.heap.size, ⟨A, n, c⟩, ⟨A2, n2, c2⟩, rs[j].nd⟩).length), (rs.set j ⟨w2.heap.size, ⟨A, n, c⟩, ⟨A2, n2, c2⟩, rs[j].nd⟩)[j] = ⟨w2.heap.size, ⟨A, n, c⟩, ⟨A2, n2, c2⟩, rs[j].nd⟩ := fun h1 => List.getElem_set_self _
  refine ⟨?_, h.base, ?_, ?_, by rw [List.length_set]; exact h.len, fun k h1 h1' => ?_, fun k h1 hkj => ?_, fun k h1 hkj => ?_, fun k m h1 h2 hkm hmj => ?_, ?_⟩
  · have b : W.heap[p']? = _ := (hb3.block p' (heap_lt h.blk)).trans h.blk
    exact (hbut.block p' (heap_lt b) (nArm b (by decide) (by decide))).trans b
  · have e : (rs.set j ⟨w2.heap.size, ⟨A, n, c⟩, ⟨A2, n2, c2⟩, rs[j].nd⟩).map slotOf = (rs.map slotOf).set (posA (rs.map slotOf) rs[j].nd.id) ⟨rs[j].nd.id, w2.heap.size⟩ := by
      have hp := posA_at h.ar.asc (k := j) (by simpa using hj)
      rw [List.getElem_map] at hp
      rw [show rs[j].nd.id = (slotOf rs[j]).id from rfl, hp, List.map_set]
      rfl
    rw [e]
    exact h4
  · refine ids3.keep fun g hg => hbut.block g (ids3.lt hg).2 ?_
    obtain ⟨d, hd⟩ := ids3.ty hg
    exact nArm hd (by decide) (by decide)
  · by_cases e : k = j
    · subst e
      rw [getJ]
      exact ⟨(h.same k hj h1').1, fun hk => absurd hk (by omega)⟩
    · rw [get k h1 e]
      exact ⟨(h.same k (by simpa using h1) h1').1, fun hk => (h.same k (by simpa using h1) h1').2 (by omega)⟩
  · by_cases e : k = j
    · subst e
      rw [getJ]
      exact newJ
    · rw [get k h1 e]
      have hn := (h.new k (by simpa using h1) (by omega)).below_ hb3
      refine hn.but hbut (nArm hn.blk (by decide) (by decide)) (fun g hg => ?_) noA
      obtain ⟨d, hd⟩ := hn.kids.ty hg
      exact nArm hd (by decide) (by decide)
  · by_cases e : k = j
    · subst e
      rw [getJ]
      intro g hg e2
      have := (h.ids.lt hg).2
      have := (hk.lt e2).1
      omega
    · rw [get k h1 e]
      exact h.apV k (by simpa using h1) (by omega)
  · have hkj : k ≠ j := by omega
    rw [get k h1 hkj]
    have hn := h.new k (by simpa using h1) (by omega)
    by_cases e : m = j
    · subst e
      rw [getJ]
      refine ⟨?_, fun g hg e2 => ?_⟩
      · have := hn.lt
        show (rs[k]'(by simpa using h1)).b ≠ w2.heap.size
        omega
      · have := (hn.kids.lt hg).2
        have := (hk.lt e2).1
        omega
    · rw [get m h2 e]
      exact h.pw k m (by simpa using h1) (by simpa using h2) hkm (by omega)
  · have := hbut.to_below (B := w0.heap.size) (fun i _ hi => armGe i hi) (by omega)
    exact (h.below.trans (hb3.mono hz0)).trans this
end Go.Proofs.YtihjdmdafiifhaaGreat.P5

/- A document's clone: the walk. -/
set_option linter.unusedVariables false
set_option linter.unusedSimpArgs false
namespace Go.Proofs.YtihjdmdafiifhaaGreat.P5
open Go.RowKit Kd P4
variable {B p : Nat} {x : Dx}
def Clone5 (w : World) (x : Dx) (e : Ending) (w' : World) : Prop := ∃ (p' : Nat) (x' : Dx), e = .returned (.pointer (some ⟨p', 0, none⟩)) ∧ Dc w' w.heap.size p' x' ∧ x'.d = x.d ∧ Below w.heap.size w w'
theorem Cl.start {w w3 : World} {a' : Nat} {v' vi' : Value} (h : Dc w B p x) (hb : Below w.heap.size w w3) (ha : ArP w3 w.heap.size a' x.R x.n v' (x.rs.map slotOf)) (hi : kI.Own w3 w.heap.size vi' (idsOf x.l)) :
    Cl w (w3.alloc (.cells #[.pointer (some ⟨a', 0, none⟩), vi', .int .i64 x.foc] 90)) x w3.heap.size a' v' vi' x.rs 0 :=
  ⟨heap_alloc_new w3 _, hb.size, ha.below ((Below.refl _ _).alloc (Nat.le_refl _) _) (Nat.le_refl _), hi.alloc _, rfl, fun k _ _ => ⟨rfl, fun _ => rfl⟩, fun k _ hk => absurd hk (by omega), fun k _ hk => absurd hk (by omega), fun k m _ _ _ hm => absurd hm (by omega), hb.alloc hb.size _⟩
end Go.Proofs.YtihjdmdafiifhaaGreat.P5

/- A document of the program's beside the reference's: what one does leaves the other as it was; the codes of errors. -/
set_option linter.unusedVariables false
set_option linter.unusedSimpArgs false
namespace Go.Proofs.YtihjdmdafiifhaaGreat.P5
open Go.RowKit Kd P4
variable {B p q : Nat} {x x' : Dx} {y y' : Rx}
section
variable {w w' : World}
structure Par (w : World) (B p q : Nat) (x : Dx) (y : Rx) : Prop where
  dc : Dc w B p x
  rf : Rf w B q y
  ap : ∀ k, foot p x k → ¬ rfoot q y k
theorem Par.below (h : Par w B p q x y) (hb : Below w.heap.size w w') : Par w' B p q x y := ⟨h.dc.below hb, h.rf.below hb, h.ap⟩
theorem Par.drewN (h : Par w B p q x y) (n : Nat) : Par (w.drewN n) B p q x y := h.below (Below_drewN (Below.refl _ _) n)
theorem Par.did (h : Par w B p q x y) (k : Did w B p x x' w') : Par w' B p q x' y := by
  refine ⟨k.dc, h.rf.but k.but (fun i hi hf => h.ap i hf hi) h.dc.noA, fun i hi hr => ?_⟩
  rcases k.ft i hi with e | e
  · exact h.ap i e hr
  · have := h.rf.lt hr; omega
theorem Par.rdid (h : Par w B p q x y) (k : Rdid w B q y y' w') : Par w' B p q x y' := by
  refine ⟨h.dc.but k.but (fun i hi e => h.ap i hi (e ▸ .inl rfl)) (q_noA h.rf), k.rf, fun i hi hr => ?_⟩
  rcases k.ft i hr with e | e
  · exact h.ap i hi e
  · have := h.dc.lt hi; omega
/-- it is gone on with a document that is all new -/
theorem Par.fresh (h : Par w B p q x y) (hb : Below w.heap.size w w') {p' : Nat} (hd : Dc w' w.heap.size p' x') : Par w' B p' q x' y :=
  ⟨hd.base_le (by have := h.dc.base; have := heap_lt h.dc.blk; omega), h.rf.below hb, fun i hi hr => by have := hd.ge hi; have := h.rf.lt hr; omega⟩
/-- and the old one may change -/
theorem Par.old {p' : Nat} {x2 : Dx} (h : Par w B p' q x' y) {C : Nat} (hC : ∀ i, foot p x i → i < C) (hg : ∀ i, foot p' x' i → C ≤ i) (ho : ∀ i, foot p x i → ¬ rfoot q y i) (hx : Dc w B p x) (k : Did w B p x x2 w') : Par w' B p' q x' y :=
  ⟨h.dc.but k.but (fun i hi e => by have := hC i e; have := hg i hi; omega) hx.noA, h.rf.but k.but (fun i hi e => ho i e hi) hx.noA, h.ap⟩
/-- a deed in a block of its own -/
def DE (w : World) (g : Nat) (d : RE) : Prop := w.heap[g]? = some (.cells #[.int .i64 d.what, .bool d.next, .int .i64 d.op, .int .i64 d.rid, .int .i64 d.par, .int .i64 d.bef, .string d.tag, .string d.txt, .string d.key, .slice d.va.A d.va.n d.va.c, .int .i64 d.id, .int .i64 d.n] 59 (0, 0))
variable {g : Nat} {d : RE}
theorem DE.new (w : World) (d : RE) : DE (w.alloc (.cells #[.int .i64 d.what, .bool d.next, .int .i64 d.op, .int .i64 d.rid, .int .i64 d.par, .int .i64 d.bef, .string d.tag, .string d.txt, .string d.key, .slice d.va.A d.va.n d.va.c, .int .i64 d.id, .int .i64 d.n] 59)) w.heap.size d := heap_alloc_new w _
theorem DE.below {C : Nat} (h : DE w g d) (hb : Below C w w') (hC : g < C) : DE w' g d := (hb.block g hC).trans h
theorem DE.lt (h : DE w g d) : g < w.heap.size := heap_lt h
theorem DE.did (h : DE w g d) (hx : Dc w B p x) (k : Did w B p x x' w') : DE w' g d := (k.but.block g h.lt (hx.other h (by decide) (by decide) (by decide) (by decide) (by decide))).trans h
theorem DE.rdid (h : DE w g d) (hy : Rf w B q y) (k : Rdid w B q y y' w') : DE w' g d := (k.but.block g h.lt (fun e => by subst e; exact heap_ne hy.blk h (by decide) rfl)).trans h
theorem DE.c0 (h : DE w g d) : w.cell? ⟨g, 0, none⟩ = some (.int .i64 d.what) := cell_of_row w g 0 _ _ (0, 0) h
theorem DE.c1 (h : DE w g d) : w.cell? ⟨g, 1, none⟩ = some (.bool d.next) := cell_of_row w g 1 _ _ (0, 0) h
theorem DE.c2 (h : DE w g d) : w.cell? ⟨g, 2, none⟩ = some (.int .i64 d.op) := cell_of_row w g 2 _ _ (0, 0) h
theorem DE.c3 (h : DE w g d) : w.cell? ⟨g, 3, none⟩ = some (.int .i64 d.rid) := cell_of_row w g 3 _ _ (0, 0) h
theorem DE.c4 (h : DE w g d) : w.cell? ⟨g, 4, none⟩ = some (.int .i64 d.par) := cell_of_row w g 4 _ _ (0, 0) h
theorem DE.c5 (h : DE w g d) : w.cell? ⟨g, 5, none⟩ = some (.int .i64 d.bef) := cell_of_row w g 5 _ _ (0, 0) h
theorem DE.c6 (h : DE w g d) : w.cell? ⟨g, 6, none⟩ = some (.string d.tag) := cell_of_row w g 6 _ _ (0, 0) h
theorem DE.c7 (h : DE w g d) : w.cell? ⟨g, 7, none⟩ = some (.string d.txt) := cell_of_row w g 7 _ _ (0, 0) h
theorem DE.c8 (h : DE w g d) : w.cell? ⟨g, 8, none⟩ = some (.string d.key) := cell_of_row w g 8 _ _ (0, 0) h
theorem DE.c9 (h : DE w g d) : w.cell? ⟨g, 9, none⟩ = some (.slice d.va.A d.va.n d.va.c) := cell_of_row w g 9 _ _ (0, 0) h
theorem DE.c10 (h : DE w g d) : w.cell? ⟨g, 10, none⟩ = some (.int .i64 d.id) := cell_of_row w g 10 _ _ (0, 0) h
theorem DE.c11 (h : DE w g d) : w.cell? ⟨g, 11, none⟩ = some (.int .i64 d.n) := cell_of_row w g 11 _ _ (0, 0) h

theorem RcB.did {r : Rc} {A : Option Addr} {n c : Nat} (h : RcB w g r A n c) (hx : Dc w B p x) (k : Did w B p x x' w') : RcB w' g r A n c := (k.but.block g h.lt (hx.other h (by decide) (by decide) (by decide) (by decide) (by decide))).trans h
end
/-! ### Codes -/
theorem focus_code (d : D) (i : Int) : 0 ≤ (focusD d i).1 ∧ (focusD d i).1 ≤ 13 := by unfold focusD; split <;> exact ⟨by simp, by simp⟩
theorem note_code (d : D) (i n : Int) : 0 ≤ (noteD d i n).1 ∧ (noteD d i n).1 ≤ 13 := by unfold noteD; split <;> exact ⟨by simp, by simp⟩
theorem put_code (l : List Nd) (i p b : Int) : 0 ≤ putErr l i p b ∧ putErr l i p b ≤ 13 := by
  unfold putErr
  split
  · omega
  split
  · omega
  split
  · omega
  split
  · omega
  split <;> omega
theorem apply_code (d : D) (r : Rc) : 0 ≤ (applyD d r).1 ∧ (applyD d r).1 ≤ 13 := by
  unfold applyD
  split
  · unfold makeD
    split
    · exact ⟨by simp, by simp⟩
    · split <;> exact ⟨by simp, by simp⟩
  split
  · unfold putD
    have := put_code d.l r.id r.par r.bef
    split <;> simp <;> omega
  split
  · unfold goneD
    split
    · exact ⟨by simp, by simp⟩
    · split <;> exact ⟨by simp, by simp⟩
  split
  · unfold attrsD
    split
    · exact ⟨by simp, by simp⟩
    split
    · exact ⟨by simp, by simp⟩
    split <;> exact ⟨by simp, by simp⟩
  split
  · unfold dataD
    split
    · exact ⟨by simp, by simp⟩
    split
    · exact ⟨by simp, by simp⟩
    split <;> exact ⟨by simp, by simp⟩
  exact ⟨by simp, by simp⟩
theorem note_n (d : D) (i v : Int) : (noteD d i v).2.n = d.n := by unfold noteD; split <;> rfl
/-! ### The calls, of a code that has a name -/
theorem apply_c {c' : Int} (r : Rc) (A : Option Addr) (n c : Nat) (w : World) (hc : (applyD x.d r).1 = c') (hwf : WF x.d) (hn : x.n ≤ 100000) (ha : ArgR w A n c r) (h : Dc w B p x) : Calls Tryz.prog 15 #[.pointer (some ⟨p, 0, none⟩), .agg #[.int .i64 r.op, .int .i64 r.id, .int .i64 r.par, .int .i64 r.bef, .string r.tag, .string r.txt, .string r.key, .slice A n c]] w (Made w B p x (errV c') (applyD x.d r).2) := by subst hc; exact apply_any r A n c w hwf hn ha h
theorem rapply_c {c' : Int} (r : Rc) (A : Option Addr) (n c : Nat) (w : World) (hc : (applyD y.d r).1 = c') (hwf : WF y.d) (hn : y.n ≤ 100000) (ha : ArgR w A n c r) (h : Rf w B q y) : Calls Tryz.prog 20 #[.pointer (some ⟨q, 0, none⟩), .agg #[.int .i64 r.op, .int .i64 r.id, .int .i64 r.par, .int .i64 r.bef, .string r.tag, .string r.txt, .string r.key, .slice A n c]] w (RMade w B q y c' (applyD y.d r).2) := by
  subst hc; exact rapply_any r A n c w hwf hn ha.tag ha.txt ha.key ha.at_ h
end Go.Proofs.YtihjdmdafiifhaaGreat.P5

/- The contracts of the program's keys: a map, as it lies in memory (Mp), and what its calls do. No condition. -/
set_option linter.unusedVariables false
set_option linter.unusedSimpArgs false
namespace Go.Proofs.YtihjdmdafiifhaaGreat.P15
open Go.RowKit Kd P4 P5

def dptr (p : Option Nat) : Value := .pointer (p.map fun p => ⟨p, 0, none⟩)
/-- what a map is read from, and what it writes, behind a call: Rd reads, Wr is written -/
def AfterM (Mp : World → Nat → MS → (Nat → Prop) → (Nat → Prop) → Prop) (w : World) (g : Nat) (Rd Wr : Nat → Prop) (S : MS) (w' : World) : Prop :=
  ∃ Rd' Wr' : Nat → Prop, Mp w' g S Rd' Wr' ∧ But Wr w w' ∧ (∀ k, Wr' k → Wr k ∨ w.heap.size ≤ k) ∧ ∀ k, Rd' k → Rd k ∨ Wr k ∨ w.heap.size ≤ k
/-- the document that a map asks is there -/
def AskOk (w : World) (S : MS) (l : List Nd) : Prop := S.asked = false → ∀ p, S.doc = some p → ∃ B x, Dc w B p x ∧ WF x.d ∧ x.d.l = l ∧ ∀ z ∈ l, z.id ≤ 1000000
structure KeysK (Mp : World → Nat → MS → (Nat → Prop) → (Nat → Prop) → Prop) : Prop where
  rd : ∀ {w g S Rd Wr k}, Mp w g S Rd Wr → Rd k → k < w.heap.size
  wr : ∀ {w g S Rd Wr k}, Mp w g S Rd Wr → Wr k → k < w.heap.size
  noA : ∀ {w g S Rd Wr}, Mp w g S Rd Wr → NoA w Wr
  keep : ∀ {w w' g S Rd Wr} {T : Nat → Prop}, Mp w g S Rd Wr → But T w w' → (∀ k, Rd k → ¬ T k) → (∀ k, Wr k → ¬ T k) → Mp w' g S Rd Wr
  new : ∀ (p : Option Nat) (ids : List Int) (A : Option Addr) (n c : Nat) (w : World), kI.Holds w w.heap.size A ids → ids.length = n → n ≤ c → c ≤ maxLen → (A = none → c = 0) → n ≤ 1000 →
    Calls Tryz.prog 9 #[dptr p, .slice A n c] w fun e w' => ∃ (g : Nat) (Rd Wr : Nat → Prop), e = .returned (.pointer (some ⟨g, 0, none⟩)) ∧ Mp w' g ⟨false, p, ids, []⟩ Rd Wr ∧ Below w.heap.size w w' ∧ (∀ k, Wr k → w.heap.size ≤ k) ∧ ∀ k, Rd k → (∃ o, A = some ⟨k, o, none⟩ ∧ ids ≠ []) ∨ w.heap.size ≤ k
  find : ∀ (tag key : ByteArray) (l : List Nd) (S : MS) (Rd Wr : Nat → Prop) (g : Nat) (w : World), Mp w g S Rd Wr → S.ids.length ≤ 1000 → S.ids.Nodup → AskOk w S l → tag.size ≤ 100000 → key.size ≤ 100000 →
    Calls Tryz.prog 11 #[.pointer (some ⟨g, 0, none⟩), .string tag, .string key] w fun e w' => e = .returned (.tuple #[.int .i64 (findM (asks S l).left tag key).1, .bool (findM (asks S l).left tag key).2]) ∧ AfterM Mp w g Rd Wr (asks S l) w'
  drop : ∀ (i : Int) (l : List Nd) (S : MS) (Rd Wr : Nat → Prop) (g : Nat) (w : World), Mp w g S Rd Wr → S.ids.length ≤ 1000 → S.ids.Nodup → AskOk w S l →
    Calls Tryz.prog 10 #[.pointer (some ⟨g, 0, none⟩), .int .i64 i] w fun e w' => e = .returned (.bool (hasM (asks S l).left i)) ∧ AfterM Mp w g Rd Wr { asks S l with left := dropM (asks S l).left i } w'
  len : ∀ (l : List Nd) (S : MS) (Rd Wr : Nat → Prop) (g : Nat) (w : World), Mp w g S Rd Wr → S.ids.length ≤ 1000 → S.ids.Nodup → AskOk w S l →
    Calls Tryz.prog 13 #[.pointer (some ⟨g, 0, none⟩)] w fun e w' => e = .returned (.int .i64 ((asks S l).left.length : Nat)) ∧ AfterM Mp w g Rd Wr (asks S l) w'
def KeysC : Prop := ∃ Mp, KeysK Mp
variable {Mp : World → Nat → MS → (Nat → Prop) → (Nat → Prop) → Prop}
theorem KeysK.below (K : KeysK Mp) {w w' : World} {g : Nat} {S : MS} {Rd Wr : Nat → Prop} (h : Mp w g S Rd Wr) (hb : Below w.heap.size w w') : Mp w' g S Rd Wr := K.keep h (But.of_below hb (fun _ => False)) (fun _ _ h => h) (fun _ _ h => h)
/-- a document, and a map that writes nothing of it: the map's call leaves it -/
theorem dc_after (K : KeysK Mp) {w w' : World} {g : Nat} {S S' : MS} {Rd Wr : Nat → Prop} {B p : Nat} {x : Dx} (h : Mp w g S Rd Wr) (hx : Dc w B p x) (hap : ∀ k, foot p x k → ¬ Wr k) (ha : AfterM Mp w g Rd Wr S' w') : Dc w' B p x := by
  obtain ⟨Rd', Wr', _, hb, _⟩ := ha
  exact hx.but hb hap (K.noA h)
end Go.Proofs.YtihjdmdafiifhaaGreat.P15
