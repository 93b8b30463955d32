/- The reference: put, whole; Apply. -/
import Derived.Test.YtkagaobelhpojaaM24
import Derived.Test.YtkagaobelhpojaaM30
import Derived.Test.YtkagaobelhpojaaM31
import Derived.Test.YtkagaobelhpojaaM32
import Derived.Test.YtkagaobelhpojaaM33
import Derived.Test.YtkagaobelhpojaaM34
set_option linter.unusedVariables false
set_option linter.unusedSimpArgs false
namespace Go.Proofs.Ytkagaobelhpojaa.P5
open Go.RowKit Kd P4
variable {B q : Nat} {y : Rx}
theorem rput_any (r : Rc) (A : Option Addr) (n c : Nat) (w : World) (hwf : WF y.d) (h : Rf w B q y) : Calls Try.prog 60 #[.pointer (some ⟨q, 0, none⟩), .agg #[.int .i64 r.op, .int .i64 r.id, .int .i64 r.par, .int .i64 r.bef, .string r.tag, .string r.txt, .string r.key, .slice A n c]] w (RMade w B q y (putD y.d r.id r.par r.bef).1 (putD y.d r.id r.par r.bef).2) := by
  have hl : y.rs.length ≤ 1000 := by have := hwf.len200; rw [show y.d.l = y.l from rfl, rl_len] at this; omega
  by_cases h0 : putErr y.l r.id r.par r.bef = 0
  · have e : putD y.d r.id r.par r.bef = (0, { y.d with l := putL y.l r.id r.par r.bef }) := by unfold putD; rw [if_pos (show putErr y.d.l r.id r.par r.bef = 0 from h0)]; rfl
    rw [e]
    have hk := putErr_ok h0
    have h1 : (r.id == 1) = false := by simpa using hk.h1
    by_cases hb : r.bef = 0
    · exact rput_y0 r A n c w hwf.asc hl hk.hi hk.hp (by simpa using hb) h1 hwf hk.hk hk.hn hb h
    · obtain ⟨b1, b2, b3⟩ := hk.hb.resolve_left hb
      exact rput_y1 r A n c w hwf.asc hl hk.hi hk.hp (by simpa using hb) b1 h1 hwf hk.hk hk.hn hb (by simpa using b2) (by simpa using b3) h
  · have e : putD y.d r.id r.par r.bef = (putErr y.l r.id r.par r.bef, y.d) := by unfold putD; rw [if_neg (show ¬ putErr y.d.l r.id r.par r.bef = 0 from h0)]; rfl
    rw [e]
    exact rput_no r A n c w hwf.asc hl h0 h
set_option maxRecDepth 100000 in
set_option maxHeartbeats 1000000 in
theorem rapply_make (r : Rc) (A : Option Addr) (n c : Nat) (w : World) (hwf : WF y.d) (hn : y.n ≤ 100000) (h1 : r.tag.size ≤ maxLen) (h2 : r.txt.size ≤ maxLen) (h3 : r.key.size ≤ maxLen) (q1 : (r.op == 1) = true) (h : Rf w B q y) : Calls Try.prog 21 #[.pointer (some ⟨q, 0, none⟩), .agg #[.int .i64 r.op, .int .i64 r.id, .int .i64 r.par, .int .i64 r.bef, .string r.tag, .string r.txt, .string r.key, .slice A n c]] w (RMade w B q y (makeD y.d r).1 (makeD y.d r).2) := by
  have B1 : Hid (Below w.heap.size w (w.alloc (.cells #[.int .i64 r.op, .int .i64 r.id, .int .i64 r.par, .int .i64 r.bef, .string r.tag, .string r.txt, .string r.key, .slice A n c] 35))) := Lib.hid ((Below.refl _ _).alloc (Nat.le_refl _) _)
  have N1 : Hid (RcB (w.alloc (.cells #[.int .i64 r.op, .int .i64 r.id, .int .i64 r.par, .int .i64 r.bef, .string r.tag, .string r.txt, .string r.key, .slice A n c] 35)) w.heap.size r A n c) := Lib.hid (RcB.new w r A n c)
  have H0 := Lib.hid h
  have HWF := Lib.hid hwf
  clear h hwf
  go_enter Try.func21, Try.ntmps21
  go_upto_region 1 with fail
  generalize w.alloc (.cells #[.int .i64 r.op, .int .i64 r.id, .int .i64 r.par, .int .i64 r.bef, .string r.tag, .string r.txt, .string r.key, .slice A n c] 35) = W at B1 N1 ⊢
  have H := Lib.hid (H0.out.below B1.out)
  have b0 := N1.out.c0
  have b1 := N1.out.c1
  have b5 := N1.out.c5
  have b7 := N1.out.c7
  have b2 := N1.out.c2
  have b3 := N1.out.c3
  have b4 := N1.out.c4
  have b6 := N1.out.c6
  go_wp2_with fail
  refine (rmake_any r A n c W HWF.out hn h1 h2 h3 H.out).mono ?_
  rintro e w' ⟨rfl, y', d', e'⟩
  have D' := Lib.hid ((Rdid.below_ H0.out B1.out).trans d')
  have E' := Lib.hid e'
  clear d' e'
  go_wp2_with fail
  go_ret
  exact ⟨rfl, _, D'.out, E'.out⟩
set_option maxRecDepth 100000 in
set_option maxHeartbeats 1000000 in
theorem rapply_put (r : Rc) (A : Option Addr) (n c : Nat) (w : World) (hwf : WF y.d) (q1 : (r.op == 1) = false) (q2 : (r.op == 2) = true) (h : Rf w B q y) : Calls Try.prog 21 #[.pointer (some ⟨q, 0, none⟩), .agg #[.int .i64 r.op, .int .i64 r.id, .int .i64 r.par, .int .i64 r.bef, .string r.tag, .string r.txt, .string r.key, .slice A n c]] w (RMade w B q y (putD y.d r.id r.par r.bef).1 (putD y.d r.id r.par r.bef).2) := by
  have B1 : Hid (Below w.heap.size w (w.alloc (.cells #[.int .i64 r.op, .int .i64 r.id, .int .i64 r.par, .int .i64 r.bef, .string r.tag, .string r.txt, .string r.key, .slice A n c] 35))) := Lib.hid ((Below.refl _ _).alloc (Nat.le_refl _) _)
  have N1 : Hid (RcB (w.alloc (.cells #[.int .i64 r.op, .int .i64 r.id, .int .i64 r.par, .int .i64 r.bef, .string r.tag, .string r.txt, .string r.key, .slice A n c] 35)) w.heap.size r A n c) := Lib.hid (RcB.new w r A n c)
  have H0 := Lib.hid h
  have HWF := Lib.hid hwf
  clear h hwf
  go_enter Try.func21, Try.ntmps21
  go_upto_region 1 with fail
  generalize w.alloc (.cells #[.int .i64 r.op, .int .i64 r.id, .int .i64 r.par, .int .i64 r.bef, .string r.tag, .string r.txt, .string r.key, .slice A n c] 35) = W at B1 N1 ⊢
  have H := Lib.hid (H0.out.below B1.out)
  have b0 := N1.out.c0
  have b1 := N1.out.c1
  have b5 := N1.out.c5
  have b7 := N1.out.c7
  have b2 := N1.out.c2
  have b3 := N1.out.c3
  have b4 := N1.out.c4
  have b6 := N1.out.c6
  go_wp2_with fail
  refine (rput_any r A n c W HWF.out H.out).mono ?_
  rintro e w' ⟨rfl, y', d', e'⟩
  have D' := Lib.hid ((Rdid.below_ H0.out B1.out).trans d')
  have E' := Lib.hid e'
  clear d' e'
  go_wp2_with fail
  go_ret
  exact ⟨rfl, _, D'.out, E'.out⟩
set_option maxRecDepth 100000 in
set_option maxHeartbeats 1000000 in
theorem rapply_gone (r : Rc) (A : Option Addr) (n c : Nat) (w : World) (hwf : WF y.d) (q1 : (r.op == 1) = false) (q2 : (r.op == 2) = false) (q3 : (r.op == 3) = true) (h : Rf w B q y) : Calls Try.prog 21 #[.pointer (some ⟨q, 0, none⟩), .agg #[.int .i64 r.op, .int .i64 r.id, .int .i64 r.par, .int .i64 r.bef, .string r.tag, .string r.txt, .string r.key, .slice A n c]] w (RMade w B q y (goneD y.d r.id).1 (goneD y.d r.id).2) := by
  have B1 : Hid (Below w.heap.size w (w.alloc (.cells #[.int .i64 r.op, .int .i64 r.id, .int .i64 r.par, .int .i64 r.bef, .string r.tag, .string r.txt, .string r.key, .slice A n c] 35))) := Lib.hid ((Below.refl _ _).alloc (Nat.le_refl _) _)
  have N1 : Hid (RcB (w.alloc (.cells #[.int .i64 r.op, .int .i64 r.id, .int .i64 r.par, .int .i64 r.bef, .string r.tag, .string r.txt, .string r.key, .slice A n c] 35)) w.heap.size r A n c) := Lib.hid (RcB.new w r A n c)
  have H0 := Lib.hid h
  have HWF := Lib.hid hwf
  clear h hwf
  go_enter Try.func21, Try.ntmps21
  go_upto_region 1 with fail
  generalize w.alloc (.cells #[.int .i64 r.op, .int .i64 r.id, .int .i64 r.par, .int .i64 r.bef, .string r.tag, .string r.txt, .string r.key, .slice A n c] 35) = W at B1 N1 ⊢
  have H := Lib.hid (H0.out.below B1.out)
  have b0 := N1.out.c0
  have b1 := N1.out.c1
  have b5 := N1.out.c5
  have b7 := N1.out.c7
  have b2 := N1.out.c2
  have b3 := N1.out.c3
  have b4 := N1.out.c4
  have b6 := N1.out.c6
  go_wp2_with fail
  refine (rgone_any r.id W HWF.out H.out).mono ?_
  rintro e w' ⟨rfl, y', d', e'⟩
  have D' := Lib.hid ((Rdid.below_ H0.out B1.out).trans d')
  have E' := Lib.hid e'
  clear d' e'
  go_wp2_with fail
  go_ret
  exact ⟨rfl, _, D'.out, E'.out⟩
theorem rapply_any (r : Rc) (A : Option Addr) (n c : Nat) (w : World) (hwf : WF y.d) (hn : y.n ≤ 100000) (h1 : r.tag.size ≤ maxLen) (h2 : r.txt.size ≤ maxLen) (h3 : r.key.size ≤ maxLen) (ht : ArgA w A n c r.attrs) (h : Rf w B q y) : Calls Try.prog 21 #[.pointer (some ⟨q, 0, none⟩), .agg #[.int .i64 r.op, .int .i64 r.id, .int .i64 r.par, .int .i64 r.bef, .string r.tag, .string r.txt, .string r.key, .slice A n c]] w (RMade w B q y (applyD y.d r).1 (applyD y.d r).2) := by
  have hl : y.rs.length ≤ 1000 := by have := hwf.len200; rw [show y.d.l = y.l from rfl, rl_len] at this; omega
  unfold applyD
  by_cases e1 : r.op = 1
  · rw [if_pos e1]
    exact rapply_make r A n c w hwf hn h1 h2 h3 (by simpa using e1) h
  rw [if_neg e1]
  by_cases e2 : r.op = 2
  · rw [if_pos e2]
    exact rapply_put r A n c w hwf (by simpa using e1) (by simpa using e2) h
  rw [if_neg e2]
  by_cases e3 : r.op = 3
  · rw [if_pos e3]
    exact rapply_gone r A n c w hwf (by simpa using e1) (by simpa using e2) (by simpa using e3) h
  rw [if_neg e3]
  by_cases e4 : r.op = 4
  · rw [if_pos e4]
    exact rapply_attrs r A n c w hwf.asc hl ht (by simpa using e1) (by simpa using e2) (by simpa using e3) (by simpa using e4) (by simpa using e4) h
  rw [if_neg e4]
  by_cases e5 : r.op = 5
  · rw [if_pos e5]
    exact rapply_data r A n c w hwf.asc hl h2 (by simpa using e1) (by simpa using e2) (by simpa using e3) (by simpa using e4) (by simpa using e5) (by simpa using e4) h
  rw [if_neg e5]
  exact rapply_none r A n c w (by simpa using e1) (by simpa using e2) (by simpa using e3) (by simpa using e4) (by simpa using e5) h
end Go.Proofs.Ytkagaobelhpojaa.P5

/- A document's clone: half way it shares the old one's nodes. -/
namespace Go.Proofs.Ytkagaobelhpojaa.P5
open Go.RowKit Kd P4
variable {B p : Nat} {x : Dx}
/-- a node is found where the arena alone is known -/
theorem node_ar (y : Int) {k b a R : Nat} {n : Int} {v : Value} {rs : List Rw} (w : World) (hk : k < rs.length) (hy : rs[k].nd.id = y) (hb : rs[k].b = b) (hc : w.cell? ⟨p, 0, none⟩ = some (.pointer (some ⟨a, 0, none⟩))) (har : ArP w B a R n v (rs.map slotOf)) :
    Calls Try.prog 51 #[.pointer (some ⟨p, 0, none⟩), .int .i64 y] w fun e w' => e = .returned (.pointer (some ⟨b, 0, none⟩)) ∧ Below w.heap.size w w' := by
  have H := Lib.hid har
  have HY := Lib.hid hy
  have HB := Lib.hid hb
  clear har hy hb
  go_enter Try.func51, Try.ntmps51
  go_wp2_with fail
  refine (getP_at y k (x := b) w (l := rs.map slotOf) (by simpa using hk) (by simp [slotOf, HY.out]) (by simp [slotOf, HB.out]) H.out).mono ?_
  rintro e w1 ⟨rfl, b1⟩
  have B1 := Lib.hid b1
  clear b1
  go_wp2_with fail
  go_ret
  exact ⟨rfl, B1.out⟩
/-- the clone, as far as it has got: p' its block, a' its arena, the rows below j new -/
structure Cl (w0 w : World) (x : Dx) (p' a' : Nat) (v' vi' : Value) (rs : List Rw) (j : Nat) : Prop where
  blk : w.heap[p']? = some (.cells #[.pointer (some ⟨a', 0, none⟩), vi', .int .i64 x.foc] 78 (0, 0))
  base : w0.heap.size ≤ p'
  ar : ArP w w0.heap.size a' x.R x.n v' (rs.map slotOf)
  ids : kI.Own w w0.heap.size vi' (idsOf x.l)
  len : rs.length = x.rs.length
  same : ∀ (k : Nat) (h : k < rs.length) (h' : k < x.rs.length), rs[k].nd = x.rs[k].nd ∧ (j ≤ k → rs[k] = x.rs[k])
  new : ∀ (k : Nat) (h : k < rs.length), k < j → NdAt w w0.heap.size rs[k]
  apV : ∀ (k : Nat) (h : k < rs.length), k < j → Apart vi' rs[k].vk.val
  pw : ∀ (k m : Nat) (h : k < rs.length) (h' : m < rs.length), k < m → m < j → rs[k].b ≠ rs[m].b ∧ Apart rs[k].vk.val rs[m].vk.val
  below : Below w0.heap.size w0 w
/-- all rows are new: a document of its own -/
theorem Cl.done {w0 w : World} {p' a' : Nat} {v' vi' : Value} {rs : List Rw} (h : Cl w0 w x p' a' v' vi' rs x.rs.length) : Dc w w0.heap.size p' ⟨a', v', vi', x.R, x.n, x.foc, rs⟩ ∧ (Dx.mk a' v' vi' x.R x.n x.foc rs).d = x.d := by
  have hl : (Dx.mk a' v' vi' x.R x.n x.foc rs).l = x.l := by
    show rs.map (·.nd) = x.rs.map (·.nd)
    apply List.ext_getElem
    · simp [h.len]
    · intro k h1 h2
      simp only [List.getElem_map]
      exact (h.same k (by simpa using h1) (by simpa using h2)).1
  refine ⟨⟨h.blk, h.base, h.ar, by rw [hl]; exact h.ids, fun r hr => ?_, fun r hr => ?_, ?_⟩, by unfold Dx.d; rw [hl]⟩
  · obtain ⟨k, hk, rfl⟩ := List.mem_iff_getElem.1 hr
    exact h.new k hk (by rw [← h.len]; exact hk)
  · obtain ⟨k, hk, rfl⟩ := List.mem_iff_getElem.1 hr
    exact h.apV k hk (by rw [← h.len]; exact hk)
  · rw [List.pairwise_iff_getElem]
    intro k m hk hm hkm
    exact h.pw k m hk hm hkm (by rw [← h.len]; exact hm)
theorem NdAt.but {S : Nat → Prop} {w w' : World} {r : Rw} (h : NdAt w B r) (hb : But S w w') (h1 : ¬ S r.b) (h2 : ∀ g, r.vk.val.ownBlock = some g → ¬ S g) (hA : NoA w S) : NdAt w' B r :=
  h.keep (hb.block _ h.lt h1) (fun g hg => hb.block g (h.kids.lt hg).2 (h2 g hg)) (h.att.but hb hA)
theorem NdAt.below_ {w w' : World} {r : Rw} (h : NdAt w B r) (hb : Below w.heap.size w w') : NdAt w' B r := h.but (But.of_below hb (fun _ => False)) (fun h => h) (fun _ _ h => h) (NoA.none w)
/-- one row more is new -/
theorem Cl.step {w0 w w2 w4 : World} {p' a' : Nat} {v' vi' : Value} {rs : List Rw} {j : Nat} (h : Cl w0 w x p' a' v' vi' rs j) (hj : j < rs.length) {A A2 : Option Addr} {n c n2 c2 : Nat} {C : Nat} (hb : Below w.heap.size w w2) (ha : AOk w2 ⟨A, n, c⟩ rs[j].nd.attrs)
    (hC : w.heap.size ≤ C) (hk : kI.Own w2 C (.slice A2 n2 c2) rs[j].nd.kids)
    (h4 : ArP w4 w0.heap.size a' x.R x.n v' ((rs.map slotOf).set (posA (rs.map slotOf) rs[j].nd.id) ⟨rs[j].nd.id, w2.heap.size⟩)) (hbut : But (Arm a' v') (w2.alloc (.cells (rs[j].nd.cells ⟨A, n, c⟩ ⟨A2, n2, c2⟩) 52)) w4) :
    Cl w0 w4 x p' a' v' vi' (rs.set j ⟨w2.heap.size, ⟨A, n, c⟩, ⟨A2, n2, c2⟩, rs[j].nd⟩) (j + 1) := by
  have hz : w.heap.size ≤ w2.heap.size := hb.size
  have hz0 : w0.heap.size ≤ w.heap.size := h.below.size
  have hb3 : Below w.heap.size w (w2.alloc (.cells (rs[j].nd.cells ⟨A, n, c⟩ ⟨A2, n2, c2⟩) 52)) := hb.alloc hz _
  have blk3 : (w2.alloc (.cells (rs[j].nd.cells ⟨A, n, c⟩ ⟨A2, n2, c2⟩) 52)).heap[w2.heap.size]? = some (.cells (rs[j].nd.cells ⟨A, n, c⟩ ⟨A2, n2, c2⟩) 52 (0, 0)) := heap_alloc_new w2 _
  have ha3 : AOk (w2.alloc (.cells (rs[j].nd.cells ⟨A, n, c⟩ ⟨A2, n2, c2⟩) 52)) ⟨A, n, c⟩ rs[j].nd.attrs := ha.below ((Below.refl _ _).alloc (Nat.le_refl _) _)
  have hk3 : kI.Own (w2.alloc (.cells (rs[j].nd.cells ⟨A, n, c⟩ ⟨A2, n2, c2⟩) 52)) C (.slice A2 n2 c2) rs[j].nd.kids := hk.alloc _
  have hz3 : (w2.alloc (.cells (rs[j].nd.cells ⟨A, n, c⟩ ⟨A2, n2, c2⟩) 52)).heap.size = w2.heap.size + 1 := by simp
  generalize w2.alloc (.cells (rs[j].nd.cells ⟨A, n, c⟩ ⟨A2, n2, c2⟩) 52) = W at hb3 blk3 ha3 hk3 hz3 hbut
  have ar3 : ArP W w0.heap.size a' x.R x.n v' (rs.map slotOf) := h.ar.below hb3 (Nat.le_refl _)
  have armT : ∀ g, Arm a' v' g → ∃ cur t, W.heap[g]? = some (.cells cur t (0, 0)) ∧ (t = 114 ∨ t = 121) := by
    rintro g (rfl | e)
    · exact ⟨_, _, ar3.blk, .inl rfl⟩
    · obtain ⟨d, hd⟩ := ar3.own.ty e
      exact ⟨_, _, hd, .inr rfl⟩
  have nArm : ∀ {g : Nat} {cur : Array Value} {t : TypeId} {fr : Nat × Nat}, W.heap[g]? = some (.cells cur t fr) → t ≠ 114 → t ≠ 121 → ¬ Arm a' v' g := by
    intro g cur t fr hg h1 h2 ha
    obtain ⟨c', t', hc, ht⟩ := armT g ha
    rw [hg] at hc
    injection hc with hc
    injection hc with _ e
    subst e
    rcases ht with e | e <;> contradiction
  have noA : NoA W (Arm a' v') := fun k cur fr hk hc => nArm hc (by decide) (by decide) hk
  have armGe : ∀ g, Arm a' v' g → w0.heap.size ≤ g := by
    rintro g (rfl | e)
    · exact ar3.base
    · exact (ar3.own.lt e).1
  have hids : vi'.ownBlock ≠ none → True := fun _ => trivial
  have ids3 : kI.Own W w0.heap.size vi' (idsOf x.l) := h.ids.below hb3 (Nat.le_refl _)
  have newJ : NdAt w4 w0.heap.size ⟨w2.heap.size, ⟨A, n, c⟩, ⟨A2, n2, c2⟩, rs[j].nd⟩ := by
    have : NdAt W w0.heap.size ⟨w2.heap.size, ⟨A, n, c⟩, ⟨A2, n2, c2⟩, rs[j].nd⟩ := ⟨blk3, by show w0.heap.size ≤ w2.heap.size; omega, ha3, hk3.base_le (by omega)⟩
    refine this.but hbut (nArm blk3 (by decide) (by decide)) (fun g hg => ?_) noA
    obtain ⟨d, hd⟩ := this.kids.ty hg
    exact nArm hd (by decide) (by decide)
  have get : ∀ (k : Nat) (h1 : k < (rs.set j ⟨w2.heap.size, ⟨A, n, c⟩, ⟨A2, n2, c2⟩, rs[j].nd⟩).length), k ≠ j → (rs.set j ⟨w2.heap.size, ⟨A, n, c⟩, ⟨A2, n2, c2⟩, rs[j].nd⟩)[k] = rs[k]'(by simpa using h1) := fun k h1 hk => List.getElem_set_ne (Ne.symm hk) _
  have getJ : ∀ (h1 : j < (rs.set j ⟨w2.heap.size, ⟨A, n, c⟩, ⟨A2, n2, c2⟩, rs[j].nd⟩).length), (rs.set j ⟨w2.heap.size, ⟨A, n, c⟩, ⟨A2, n2, c2⟩, rs[j].nd⟩)[j] = ⟨w2.heap.size, ⟨A, n, c⟩, ⟨A2, n2, c2⟩, rs[j].nd⟩ := fun h1 => List.getElem_set_self _
  refine ⟨?_, h.base, ?_, ?_, by rw [List.length_set]; exact h.len, fun k h1 h1' => ?_, fun k h1 hkj => ?_, fun k h1 hkj => ?_, fun k m h1 h2 hkm hmj => ?_, ?_⟩
  · have b : W.heap[p']? = _ := (hb3.block p' (heap_lt h.blk)).trans h.blk
    exact (hbut.block p' (heap_lt b) (nArm b (by decide) (by decide))).trans b
  · have e : (rs.set j ⟨w2.heap.size, ⟨A, n, c⟩, ⟨A2, n2, c2⟩, rs[j].nd⟩).map slotOf = (rs.map slotOf).set (posA (rs.map slotOf) rs[j].nd.id) ⟨rs[j].nd.id, w2.heap.size⟩ := by
      have hp := posA_at h.ar.asc (k := j) (by simpa using hj)
      rw [List.getElem_map] at hp
      rw [show rs[j].nd.id = (slotOf rs[j]).id from rfl, hp, List.map_set]
      rfl
    rw [e]
    exact h4
  · refine ids3.keep fun g hg => hbut.block g (ids3.lt hg).2 ?_
    obtain ⟨d, hd⟩ := ids3.ty hg
    exact nArm hd (by decide) (by decide)
  · by_cases e : k = j
    · subst e
      rw [getJ]
      exact ⟨(h.same k hj h1').1, fun hk => absurd hk (by omega)⟩
    · rw [get k h1 e]
      exact ⟨(h.same k (by simpa using h1) h1').1, fun hk => (h.same k (by simpa using h1) h1').2 (by omega)⟩
  · by_cases e : k = j
    · subst e
      rw [getJ]
      exact newJ
    · rw [get k h1 e]
      have hn := (h.new k (by simpa using h1) (by omega)).below_ hb3
      refine hn.but hbut (nArm hn.blk (by decide) (by decide)) (fun g hg => ?_) noA
      obtain ⟨d, hd⟩ := hn.kids.ty hg
      exact nArm hd (by decide) (by decide)
  · by_cases e : k = j
    · subst e
      rw [getJ]
      intro g hg e2
      have := (h.ids.lt hg).2
      have := (hk.lt e2).1
      omega
    · rw [get k h1 e]
      exact h.apV k (by simpa using h1) (by omega)
  · have hkj : k ≠ j := by omega
    rw [get k h1 hkj]
    have hn := h.new k (by simpa using h1) (by omega)
    by_cases e : m = j
    · subst e
      rw [getJ]
      refine ⟨?_, fun g hg e2 => ?_⟩
      · have := hn.lt
        show (rs[k]'(by simpa using h1)).b ≠ w2.heap.size
        omega
      · have := (hn.kids.lt hg).2
        have := (hk.lt e2).1
        omega
    · rw [get m h2 e]
      exact h.pw k m (by simpa using h1) (by simpa using h2) hkm (by omega)
  · have := hbut.to_below (B := w0.heap.size) (fun i _ hi => armGe i hi) (by omega)
    exact (h.below.trans (hb3.mono hz0)).trans this
end Go.Proofs.Ytkagaobelhpojaa.P5
