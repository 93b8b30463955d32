/- The reference: focus, note, a new document. -/
import Derived.Test.YtkagaobelhpojaaM26
set_option linter.unusedVariables false
set_option linter.unusedSimpArgs false
namespace Go.Proofs.Ytkagaobelhpojaa.P5
open Go.RowKit Kd P4
variable {B q : Nat} {y : Rx}

def RMade (w : World) (B q : Nat) (y : Rx) (c : Int) (d : D) (e : Ending) (w' : World) : Prop := e = .returned (.int .i64 c) ∧ ∃ y', Rdid w B q y y' w' ∧ y'.d = d
theorem RMade.same {w w' : World} {c : Int} {d : D} (h : Rf w B q y) (hb : Below w.heap.size w w') (hd : y.d = d) : RMade w B q y c d (.returned (.int .i64 c)) w' := ⟨rfl, y, Rdid.below_ h hb, hd⟩
theorem Rf.atq {w : World} (h : Rf w B q y) (j : Nat) (u : Value) : kN.Own (w.setCell ⟨q, j, none⟩ u) B y.v (y.rs.map Rn.rn) ∧ ∀ r ∈ y.rs, RNok (w.setCell ⟨q, j, none⟩ u) B r := by
  have hbut : But (fun k => k = q) w (w.setCell ⟨q, j, none⟩ u) := But.setCell (S := fun k => k = q) (p := ⟨q, j, none⟩) (But.refl _ _) (fun _ => rfl) u
  refine ⟨h.own.keep fun g hg => hbut.block g (h.own.lt hg).2 ?_, fun r hr => ⟨(h.nodes r hr).att.but hbut (q_noA h), (h.nodes r hr).kids.keep fun g hg => hbut.block g ((h.nodes r hr).kids.lt hg).2 ?_⟩⟩
  · rintro rfl
    obtain ⟨d, hd⟩ := h.own.ty hg
    exact heap_ne hd h.blk (by decide) rfl
  · rintro rfl
    obtain ⟨d, hd⟩ := (h.nodes r hr).kids.ty hg
    exact heap_ne hd h.blk (by decide) rfl
theorem Rf.focus {w : World} (h : Rf w B q y) (i : Int) : Rdid w B q y { y with foc := i } (w.setCell ⟨q, 3, none⟩ (.int .i64 i)) := by
  obtain ⟨h1, h2⟩ := h.atq 3 (.int .i64 i)
  exact ⟨⟨heap_set h.blk 3 _, h.base, h1, h2⟩, But.setCell (S := fun k => k = q) (p := ⟨q, 3, none⟩) (But.refl _ _) (fun _ => rfl) _, fun k hk => .inl hk⟩
theorem Rf.next {w : World} (h : Rf w B q y) (i : Int) : Rdid w B q y { y with n := i } (w.setCell ⟨q, 1, none⟩ (.int .i64 (i + 1))) := by
  obtain ⟨h1, h2⟩ := h.atq 1 (.int .i64 (i + 1))
  exact ⟨⟨heap_set h.blk 1 _, h.base, h1, h2⟩, But.setCell (S := fun k => k = q) (p := ⟨q, 1, none⟩) (But.refl _ _) (fun _ => rfl) _, fun k hk => .inl hk⟩
theorem set_list (ha : Asc y.l) {k : Nat} {i : Int} (hk : k < y.rs.length) (hy : y.rs[k].nd.id = i) (f : Nd → Nd) {r : Rn} (hr : r.nd = f y.rs[k].nd) : (y.rs.set k r).map (·.nd) = upd y.l i f := by
  rw [List.map_set, hr]
  have := ha.set_upd (k := k) (by rw [rl_len]; exact hk) f
  simp only [Rx.l, List.getElem_map] at this
  rw [this, hy]
  rfl

theorem Rset.made {w0 w w' : World} {r : Rn} {v : Value} {k : Nat} {i : Int} (h : Rset w B q y { y with v := v, rs := y.rs.set k r } r w') (hb : Below w0.heap.size w0 w) (hg : ∀ g, r.vk.val.ownBlock = some g → rfoot q y g) (ha : Asc y.l) (hk : k < y.rs.length) (hy : y.rs[k].nd.id = i) (f : Nd → Nd) (hr : r.nd = f y.rs[k].nd) :
    ∃ y', Rdid w0 B q y y' w' ∧ y'.d = { y.d with l := upd y.l i f } := by
  refine ⟨_, h.did hb (fun g e => .inl (hg g e)), ?_⟩
  show D.mk ((y.rs.set k r).map (·.nd)) _ _ _ = D.mk _ _ _ _
  rw [set_list ha hk hy f hr]
  rfl
theorem RNok.below {w w' : World} {r : Rn} (h : RNok w B r) (hb : Below w.heap.size w w') : RNok w' B r := ⟨h.att.below hb, h.kids.keep fun g hg => hb.block g (h.kids.lt hg).2⟩

/-! ### SetFocus -/
set_option maxHeartbeats 1000000 in
theorem rfocus_any (i : Int) (w : World) (ha : Asc y.l) (hl : y.rs.length ≤ 1000) (h : Rf w B q y) : Calls Try.prog 14 #[.pointer (some ⟨q, 0, none⟩), .int .i64 i] w (RMade w B q y (focusD y.d i).1 (focusD y.d i).2) := by
  have H := Lib.hid h
  have HA := Lib.hid ha
  have c3 := h.c3
  have f3 := h.frozen 3
  by_cases h0 : i = 0
  · have hq : (i != 0) = false := by simpa using h0
    have HD : Hid (focusD y.d i = (0, { y.d with foc := i })) := Lib.hid (by unfold focusD; rw [if_neg (fun e => e.1 h0)])
    clear h ha h0
    go_enter Try.func14, Try.ntmps14
    go_wp2_with fail
    go_ret
    rw [HD.out]
    exact ⟨rfl, _, H.out.focus i, rfl⟩
  · have hq : (i != 0) = true := by simpa using h0
    cases hi : hasL y.l i with
    | false =>
      have HD : Hid (focusD y.d i = (2, y.d)) := Lib.hid (by unfold focusD; rw [if_pos ⟨h0, hi⟩])
      have HI := Lib.hid hi
      clear h ha h0 hi
      go_enter Try.func14, Try.ntmps14
      go_wp2_with fail
      refine (at_no i w hl HI.out H.out).mono ?_
      rintro e w' ⟨rfl, rfl⟩
      go_wp2_with fail
      go_ret
      rw [HD.out]
      exact RMade.same H.out (Below.refl _ _) rfl
    | true =>
      have HD : Hid (focusD y.d i = (0, { y.d with foc := i })) := Lib.hid (by unfold focusD; rw [if_neg (fun e => by have := e.2; rw [show y.d.l = y.l from rfl, hi] at this; cases this)])
      obtain ⟨k, hk, hy, _⟩ := rplace ha hi
      have HY := Lib.hid hy
      clear h ha h0 hi hy
      go_enter Try.func14, Try.ntmps14
      go_wp2_with fail
      refine (at_yes i w HA.out hl hk HY.out H.out).mono ?_
      rintro e w' ⟨rfl, rfl⟩
      go_wp2_with fail
      go_ret
      rw [HD.out]
      exact ⟨rfl, _, H.out.focus i, rfl⟩

/-! ### Note -/
set_option maxHeartbeats 2000000 in
theorem rnote_any (i v : Int) (w : World) (ha : Asc y.l) (hl : y.rs.length ≤ 1000) (h : Rf w B q y) : Calls Try.prog 16 #[.pointer (some ⟨q, 0, none⟩), .int .i64 i, .int .i64 v] w (RMade w B q y (noteD y.d i v).1 (noteD y.d i v).2) := by
  have H := Lib.hid h
  have HA := Lib.hid ha
  cases hi : hasL y.l i with
  | false =>
    have HD : Hid (noteD y.d i v = (2, y.d)) := Lib.hid (by unfold noteD; rw [if_pos (show hasL y.d.l i = false from hi)])
    have HI := Lib.hid hi
    clear h ha hi
    go_enter Try.func16, Try.ntmps16
    go_wp2_with fail
    refine (at_no i w hl HI.out H.out).mono ?_
    rintro e w' ⟨rfl, rfl⟩
    go_wp2_with fail
    go_ret
    rw [HD.out]
    exact RMade.same H.out (Below.refl _ _) rfl
  | true =>
    have HD : Hid (noteD y.d i v = (0, { y.d with l := upd y.l i (withNote v) })) := Lib.hid (by unfold noteD; rw [if_neg (by rw [show y.d.l = y.l from rfl, hi]; simp)]; rfl)
    obtain ⟨k, hk, hy, _⟩ := rplace HA.out hi
    obtain ⟨b, o, cl, A, nn, ca, A2, n2, c2, hv, hcl, hb, d0, L, hva, hvk⟩ := h.lies hk
    have HVA := Lib.hid hva
    have HVK := Lib.hid hvk
    have HY := Lib.hid hy
    obtain ⟨nl, hnl⟩ : ∃ nl, y.rs.length = nl := ⟨_, rfl⟩
    have HNL := Lib.hid hnl
    have hkn : k < nl := by omega
    have hl2 : nl ≤ 1000 := by omega
    rw [hnl] at d0 hcl
    obtain ⟨m, hm⟩ : ∃ m, y.rs[k].nd = m := ⟨_, rfl⟩
    have HM := Lib.hid hm
    rw [hm] at L
    have l0 := L.c0
    have l1 := L.c1
    have l2 := L.c2
    have l3 := L.c3
    have l4 := L.c4
    have l5 := L.c5
    have l6 := L.c6
    have l7 := L.c7
    have hqlt := heap_lt h.blk
    have hgA : ∀ g, (Value.slice A2 n2 c2).ownBlock = some g → rfoot q y g := fun g hg => .inr (.inr ⟨_, List.getElem_mem hk, by rw [hvk]; exact hg⟩)
    have HGA := Lib.hid hgA
    have hR := h.nodes _ (List.getElem_mem hk)
    rw [show y.rs[k] = (⟨⟨A, nn, ca⟩, ⟨A2, n2, c2⟩, m⟩ : Rn) by cases e : y.rs[k]; rw [e] at hva hvk hm; cases hva; cases hvk; cases hm; rfl] at hR
    have HR := Lib.hid hR
    clear hv hva hvk hnl hm L hgA hR
    clear h ha hi hy
    go_enter Try.func16, Try.ntmps16
    go_wp2_with fail
    refine (at_yes i w HA.out hl hk HY.out H.out).mono ?_
    rintro e w' ⟨rfl, rfl⟩
    have N1 : Hid (NdB (w.alloc (.cells #[.int .i64 m.id, .int .i64 m.par, .string m.tag, .string m.txt, .string m.key, .slice A nn ca, .slice A2 n2 c2, .int .i64 v] 52)) w.heap.size (withNote v m) A nn ca A2 n2 c2) := Lib.hid (NdB.new w (withNote v m) A nn ca A2 n2 c2)
    have B1 : Hid (Below w.heap.size w (w.alloc (.cells #[.int .i64 m.id, .int .i64 m.par, .string m.tag, .string m.txt, .string m.key, .slice A nn ca, .slice A2 n2 c2, .int .i64 v] 52))) := Lib.hid ((Below.refl _ _).alloc (Nat.le_refl _) _)
    go_upto_region 6 with fail
    generalize w.alloc (.cells #[.int .i64 m.id, .int .i64 m.par, .string m.tag, .string m.txt, .string m.key, .slice A nn ca, .slice A2 n2 c2, .int .i64 v] 52) = W at N1 B1 ⊢
    have a0 := N1.out.c0
    have a1 := N1.out.c1
    have a2 := N1.out.c2
    have a3 := N1.out.c3
    have a4 := N1.out.c4
    have a5 := N1.out.c5
    have a6 := N1.out.c6
    have a7 := N1.out.c7
    go_wp2_with fail
    refine (set_any k (withNote v m) A nn ca A2 n2 c2 W HA.out hl hk (by rw [HM.out]; rfl) ⟨(HR.out.below B1.out).att, (HR.out.below B1.out).kids⟩ (H.out.below B1.out)).mono ?_
    rintro e w5 ⟨rfl, v5, r5⟩
    have R5 := Lib.hid (r5.made B1.out HGA.out HA.out hk HY.out (withNote v) (by rw [HM.out]))
    clear r5
    go_wp2_with fail
    go_ret
    rw [HD.out]
    exact ⟨rfl, R5.out⟩

/-! ### New -/
def RNew (w : World) (R : Nat) (e : Ending) (w' : World) : Prop := ∃ (q : Nat) (y : Rx), e = .returned (.pointer (some ⟨q, 0, none⟩)) ∧ Rf w' w.heap.size q y ∧ y.d = newD R ∧ Below w.heap.size w w'
def nd1 : Nd := newN 1 ⟨#[114, 111, 111, 116]⟩ ⟨#[]⟩ ⟨#[]⟩
set_option maxHeartbeats 1000000 in
theorem rnew_any (R : Nat) (w : World) : Calls Try.prog 10 #[.int .i64 R] w (RNew w R) := by
  go_enter Try.func10, Try.ntmps10
  go_wp2_with fail
  go_ret
  have o1 : kN.Own (w.alloc (.cells #[.int .i64 1, .int .i64 0, .string ⟨#[114, 111, 111, 116]⟩, .string ⟨#[]⟩, .string ⟨#[]⟩, .slice none 0 0, .slice none 0 0, .int .i64 0] 52)) w.heap.size (.slice (some ⟨w.heap.size, 0, none⟩) 1 1) ([(⟨⟨none, 0, 0⟩, ⟨none, 0, 0⟩, nd1⟩ : Rn)].map Rn.rn) :=
    Kind.own_mk (K := kN) (cur := #[.int .i64 1, .int .i64 0, .string ⟨#[114, 111, 111, 116]⟩, .string ⟨#[]⟩, .string ⟨#[]⟩, .slice none 0 0, .slice none 0 0, .int .i64 0]) rfl (Nat.le_refl _) (heap_alloc_new w _) (Nat.le_refl _) (by unfold maxLen; omega) rfl rfl
  refine ⟨w.heap.size + 1, ⟨.slice (some ⟨w.heap.size, 0, none⟩) 1 1, 1, R, 0, [⟨⟨none, 0, 0⟩, ⟨none, 0, 0⟩, nd1⟩]⟩, rfl, ⟨heap_top (by simp), by omega, o1.alloc _, fun r hr => ?_⟩, rfl, ((Below.refl _ _).alloc (Nat.le_refl _) _).alloc (by simp) _⟩
  rw [List.mem_singleton] at hr
  subst hr
  exact ⟨AOk.nil_ _, Kind.Own.nil _ _ _⟩
end Go.Proofs.Ytkagaobelhpojaa.P5

/- The reference: a change as it lies in memory. -/
namespace Go.Proofs.Ytkagaobelhpojaa.P5
open Go.RowKit Kd P4
/-- the change r lies at block g -/
def RcB (w : World) (g : Nat) (r : Rc) (A : Option Addr) (n c : Nat) : Prop := w.heap[g]? = some (.cells #[.int .i64 r.op, .int .i64 r.id, .int .i64 r.par, .int .i64 r.bef, .string r.tag, .string r.txt, .string r.key, .slice A n c] 35 (0, 0))
section
variable {w w' : World} {g : Nat} {r : Rc} {A : Option Addr} {n c : Nat}
theorem RcB.new (w : World) (r : Rc) (A : Option Addr) (n c : Nat) : RcB (w.alloc (.cells #[.int .i64 r.op, .int .i64 r.id, .int .i64 r.par, .int .i64 r.bef, .string r.tag, .string r.txt, .string r.key, .slice A n c] 35)) w.heap.size r A n c := heap_alloc_new w _
theorem RcB.below {C : Nat} (h : RcB w g r A n c) (hb : Below C w w') (hC : g < C) : RcB w' g r A n c := (hb.block g hC).trans h
theorem RcB.lt (h : RcB w g r A n c) : g < w.heap.size := heap_lt h
theorem RcB.c0 (h : RcB w g r A n c) : w.cell? ⟨g, 0, none⟩ = some (.int .i64 r.op) := cell_of_row w g 0 _ _ (0, 0) h
theorem RcB.c1 (h : RcB w g r A n c) : w.cell? ⟨g, 1, none⟩ = some (.int .i64 r.id) := cell_of_row w g 1 _ _ (0, 0) h
theorem RcB.c2 (h : RcB w g r A n c) : w.cell? ⟨g, 2, none⟩ = some (.int .i64 r.par) := cell_of_row w g 2 _ _ (0, 0) h
theorem RcB.c3 (h : RcB w g r A n c) : w.cell? ⟨g, 3, none⟩ = some (.int .i64 r.bef) := cell_of_row w g 3 _ _ (0, 0) h
theorem RcB.c4 (h : RcB w g r A n c) : w.cell? ⟨g, 4, none⟩ = some (.string r.tag) := cell_of_row w g 4 _ _ (0, 0) h
theorem RcB.c5 (h : RcB w g r A n c) : w.cell? ⟨g, 5, none⟩ = some (.string r.txt) := cell_of_row w g 5 _ _ (0, 0) h
theorem RcB.c6 (h : RcB w g r A n c) : w.cell? ⟨g, 6, none⟩ = some (.string r.key) := cell_of_row w g 6 _ _ (0, 0) h
theorem RcB.c7 (h : RcB w g r A n c) : w.cell? ⟨g, 7, none⟩ = some (.slice A n c) := cell_of_row w g 7 _ _ (0, 0) h
end
end Go.Proofs.Ytkagaobelhpojaa.P5

/- The reference's put: what it refuses first. -/
namespace Go.Proofs.Ytkagaobelhpojaa.P5
open Go.RowKit Kd P4
variable {B q : Nat} {y : Rx}
set_option maxRecDepth 100000 in
set_option maxHeartbeats 1000000 in
theorem rput_2a (r : Rc) (A : Option Addr) (n c : Nat) (w : World) (ha : Asc y.l) (hl : y.rs.length ≤ 1000) (hi : hasL y.l r.id = false) (h : Rf w B q y) : Calls Try.prog 60 #[.pointer (some ⟨q, 0, none⟩), .agg #[.int .i64 r.op, .int .i64 r.id, .int .i64 r.par, .int .i64 r.bef, .string r.tag, .string r.txt, .string r.key, .slice A n c]] w (RMade w B q y 2 y.d) := by
  have B1 : Hid (Below w.heap.size w (w.alloc (.cells #[.int .i64 r.op, .int .i64 r.id, .int .i64 r.par, .int .i64 r.bef, .string r.tag, .string r.txt, .string r.key, .slice A n c] 35))) := Lib.hid ((Below.refl _ _).alloc (Nat.le_refl _) _)
  have N1 : Hid (RcB (w.alloc (.cells #[.int .i64 r.op, .int .i64 r.id, .int .i64 r.par, .int .i64 r.bef, .string r.tag, .string r.txt, .string r.key, .slice A n c] 35)) w.heap.size r A n c) := Lib.hid (RcB.new w r A n c)
  have H0 := Lib.hid h
  have HA := Lib.hid ha
  have HI := Lib.hid hi
  clear h
  go_enter Try.func60, Try.ntmps60
  go_upto_region 1 with fail
  generalize w.alloc (.cells #[.int .i64 r.op, .int .i64 r.id, .int .i64 r.par, .int .i64 r.bef, .string r.tag, .string r.txt, .string r.key, .slice A n c] 35) = W at B1 N1 ⊢
  have H := Lib.hid (H0.out.below B1.out)
  have b1 := N1.out.c1
  have b2 := N1.out.c2
  have b3 := N1.out.c3
  go_wp2_with fail
  refine (at_no r.id W hl HI.out H.out).mono ?_
  rintro e w' ⟨rfl, rfl⟩
  go_wp2_with fail
  go_ret
  exact RMade.same H0.out B1.out rfl
set_option maxRecDepth 100000 in
set_option maxHeartbeats 1000000 in
theorem rput_2b (r : Rc) (A : Option Addr) (n c : Nat) (w : World) (ha : Asc y.l) (hl : y.rs.length ≤ 1000) (hi : hasL y.l r.id = true) (hp : hasL y.l r.par = false) (h : Rf w B q y) : Calls Try.prog 60 #[.pointer (some ⟨q, 0, none⟩), .agg #[.int .i64 r.op, .int .i64 r.id, .int .i64 r.par, .int .i64 r.bef, .string r.tag, .string r.txt, .string r.key, .slice A n c]] w (RMade w B q y 2 y.d) := by
  have B1 : Hid (Below w.heap.size w (w.alloc (.cells #[.int .i64 r.op, .int .i64 r.id, .int .i64 r.par, .int .i64 r.bef, .string r.tag, .string r.txt, .string r.key, .slice A n c] 35))) := Lib.hid ((Below.refl _ _).alloc (Nat.le_refl _) _)
  have N1 : Hid (RcB (w.alloc (.cells #[.int .i64 r.op, .int .i64 r.id, .int .i64 r.par, .int .i64 r.bef, .string r.tag, .string r.txt, .string r.key, .slice A n c] 35)) w.heap.size r A n c) := Lib.hid (RcB.new w r A n c)
  have H0 := Lib.hid h
  have HA := Lib.hid ha
  obtain ⟨ki, hki, hyki, _⟩ := rplace ha hi
  have HYki := Lib.hid hyki
  have HI := Lib.hid hp
  clear h
  go_enter Try.func60, Try.ntmps60
  go_upto_region 1 with fail
  generalize w.alloc (.cells #[.int .i64 r.op, .int .i64 r.id, .int .i64 r.par, .int .i64 r.bef, .string r.tag, .string r.txt, .string r.key, .slice A n c] 35) = W at B1 N1 ⊢
  have H := Lib.hid (H0.out.below B1.out)
  have b1 := N1.out.c1
  have b2 := N1.out.c2
  have b3 := N1.out.c3
  go_wp2_with fail
  refine (at_yes r.id W HA.out hl hki HYki.out H.out).mono ?_
  rintro e w' ⟨rfl, rfl⟩
  go_wp2_with fail
  refine (at_no r.par W hl HI.out H.out).mono ?_
  rintro e w' ⟨rfl, rfl⟩
  go_wp2_with fail
  go_ret
  exact RMade.same H0.out B1.out rfl
set_option maxRecDepth 100000 in
set_option maxHeartbeats 1000000 in
theorem rput_2c (r : Rc) (A : Option Addr) (n c : Nat) (w : World) (ha : Asc y.l) (hl : y.rs.length ≤ 1000) (hi : hasL y.l r.id = true) (hp : hasL y.l r.par = true) (hq : (r.bef != 0) = true) (hb : hasL y.l r.bef = false) (h : Rf w B q y) : Calls Try.prog 60 #[.pointer (some ⟨q, 0, none⟩), .agg #[.int .i64 r.op, .int .i64 r.id, .int .i64 r.par, .int .i64 r.bef, .string r.tag, .string r.txt, .string r.key, .slice A n c]] w (RMade w B q y 2 y.d) := by
  have B1 : Hid (Below w.heap.size w (w.alloc (.cells #[.int .i64 r.op, .int .i64 r.id, .int .i64 r.par, .int .i64 r.bef, .string r.tag, .string r.txt, .string r.key, .slice A n c] 35))) := Lib.hid ((Below.refl _ _).alloc (Nat.le_refl _) _)
  have N1 : Hid (RcB (w.alloc (.cells #[.int .i64 r.op, .int .i64 r.id, .int .i64 r.par, .int .i64 r.bef, .string r.tag, .string r.txt, .string r.key, .slice A n c] 35)) w.heap.size r A n c) := Lib.hid (RcB.new w r A n c)
  have H0 := Lib.hid h
  have HA := Lib.hid ha
  obtain ⟨ki, hki, hyki, _⟩ := rplace ha hi
  have HYki := Lib.hid hyki
  obtain ⟨kp, hkp, hykp, _⟩ := rplace ha hp
  have HYkp := Lib.hid hykp
  have HI := Lib.hid hb
  clear h
  go_enter Try.func60, Try.ntmps60
  go_upto_region 1 with fail
  generalize w.alloc (.cells #[.int .i64 r.op, .int .i64 r.id, .int .i64 r.par, .int .i64 r.bef, .string r.tag, .string r.txt, .string r.key, .slice A n c] 35) = W at B1 N1 ⊢
  have H := Lib.hid (H0.out.below B1.out)
  have b1 := N1.out.c1
  have b2 := N1.out.c2
  have b3 := N1.out.c3
  go_wp2_with fail
  refine (at_yes r.id W HA.out hl hki HYki.out H.out).mono ?_
  rintro e w' ⟨rfl, rfl⟩
  go_wp2_with fail
  refine (at_yes r.par W HA.out hl hkp HYkp.out H.out).mono ?_
  rintro e w' ⟨rfl, rfl⟩
  go_wp2_with fail
  refine (at_no r.bef W hl HI.out H.out).mono ?_
  rintro e w' ⟨rfl, rfl⟩
  go_wp2_with fail
  go_ret
  exact RMade.same H0.out B1.out rfl
set_option maxRecDepth 100000 in
set_option maxHeartbeats 1000000 in
theorem rput_40 (r : Rc) (A : Option Addr) (n c : Nat) (w : World) (ha : Asc y.l) (hl : y.rs.length ≤ 1000) (hi : hasL y.l r.id = true) (hp : hasL y.l r.par = true) (hq : (r.bef != 0) = false) (h1 : (r.id == 1) = true) (h : Rf w B q y) : Calls Try.prog 60 #[.pointer (some ⟨q, 0, none⟩), .agg #[.int .i64 r.op, .int .i64 r.id, .int .i64 r.par, .int .i64 r.bef, .string r.tag, .string r.txt, .string r.key, .slice A n c]] w (RMade w B q y 4 y.d) := by
  have B1 : Hid (Below w.heap.size w (w.alloc (.cells #[.int .i64 r.op, .int .i64 r.id, .int .i64 r.par, .int .i64 r.bef, .string r.tag, .string r.txt, .string r.key, .slice A n c] 35))) := Lib.hid ((Below.refl _ _).alloc (Nat.le_refl _) _)
  have N1 : Hid (RcB (w.alloc (.cells #[.int .i64 r.op, .int .i64 r.id, .int .i64 r.par, .int .i64 r.bef, .string r.tag, .string r.txt, .string r.key, .slice A n c] 35)) w.heap.size r A n c) := Lib.hid (RcB.new w r A n c)
  have H0 := Lib.hid h
  have HA := Lib.hid ha
  obtain ⟨ki, hki, hyki, _⟩ := rplace ha hi
  have HYki := Lib.hid hyki
  obtain ⟨kp, hkp, hykp, _⟩ := rplace ha hp
  have HYkp := Lib.hid hykp
  clear h
  go_enter Try.func60, Try.ntmps60
  go_upto_region 1 with fail
  generalize w.alloc (.cells #[.int .i64 r.op, .int .i64 r.id, .int .i64 r.par, .int .i64 r.bef, .string r.tag, .string r.txt, .string r.key, .slice A n c] 35) = W at B1 N1 ⊢
  have H := Lib.hid (H0.out.below B1.out)
  have b1 := N1.out.c1
  have b2 := N1.out.c2
  have b3 := N1.out.c3
  go_wp2_with fail
  refine (at_yes r.id W HA.out hl hki HYki.out H.out).mono ?_
  rintro e w' ⟨rfl, rfl⟩
  go_wp2_with fail
  refine (at_yes r.par W HA.out hl hkp HYkp.out H.out).mono ?_
  rintro e w' ⟨rfl, rfl⟩
  go_wp2_with fail
  go_ret
  exact RMade.same H0.out B1.out rfl
set_option maxRecDepth 100000 in
set_option maxHeartbeats 1000000 in
theorem rput_41 (r : Rc) (A : Option Addr) (n c : Nat) (w : World) (ha : Asc y.l) (hl : y.rs.length ≤ 1000) (hi : hasL y.l r.id = true) (hp : hasL y.l r.par = true) (hq : (r.bef != 0) = true) (hb : hasL y.l r.bef = true) (h1 : (r.id == 1) = true) (h : Rf w B q y) : Calls Try.prog 60 #[.pointer (some ⟨q, 0, none⟩), .agg #[.int .i64 r.op, .int .i64 r.id, .int .i64 r.par, .int .i64 r.bef, .string r.tag, .string r.txt, .string r.key, .slice A n c]] w (RMade w B q y 4 y.d) := by
  have B1 : Hid (Below w.heap.size w (w.alloc (.cells #[.int .i64 r.op, .int .i64 r.id, .int .i64 r.par, .int .i64 r.bef, .string r.tag, .string r.txt, .string r.key, .slice A n c] 35))) := Lib.hid ((Below.refl _ _).alloc (Nat.le_refl _) _)
  have N1 : Hid (RcB (w.alloc (.cells #[.int .i64 r.op, .int .i64 r.id, .int .i64 r.par, .int .i64 r.bef, .string r.tag, .string r.txt, .string r.key, .slice A n c] 35)) w.heap.size r A n c) := Lib.hid (RcB.new w r A n c)
  have H0 := Lib.hid h
  have HA := Lib.hid ha
  obtain ⟨ki, hki, hyki, _⟩ := rplace ha hi
  have HYki := Lib.hid hyki
  obtain ⟨kp, hkp, hykp, _⟩ := rplace ha hp
  have HYkp := Lib.hid hykp
  obtain ⟨kb, hkb, hykb, _⟩ := rplace ha hb
  have HYkb := Lib.hid hykb
  clear h
  go_enter Try.func60, Try.ntmps60
  go_upto_region 1 with fail
  generalize w.alloc (.cells #[.int .i64 r.op, .int .i64 r.id, .int .i64 r.par, .int .i64 r.bef, .string r.tag, .string r.txt, .string r.key, .slice A n c] 35) = W at B1 N1 ⊢
  have H := Lib.hid (H0.out.below B1.out)
  have b1 := N1.out.c1
  have b2 := N1.out.c2
  have b3 := N1.out.c3
  go_wp2_with fail
  refine (at_yes r.id W HA.out hl hki HYki.out H.out).mono ?_
  rintro e w' ⟨rfl, rfl⟩
  go_wp2_with fail
  refine (at_yes r.par W HA.out hl hkp HYkp.out H.out).mono ?_
  rintro e w' ⟨rfl, rfl⟩
  go_wp2_with fail
  refine (at_yes r.bef W HA.out hl hkb HYkb.out H.out).mono ?_
  rintro e w' ⟨rfl, rfl⟩
  go_wp2_with fail
  go_ret
  exact RMade.same H0.out B1.out rfl
set_option maxRecDepth 100000 in
set_option maxHeartbeats 2000000 in
theorem rput_30 (r : Rc) (A : Option Addr) (n c : Nat) (w : World) (ha : Asc y.l) (hl : y.rs.length ≤ 1000) (hi : hasL y.l r.id = true) (hp : hasL y.l r.par = true) (hq : (r.bef != 0) = false) (h1 : (r.id == 1) = false) (hnk : noKids (tagOf y.l r.par) = true) (h : Rf w B q y) : Calls Try.prog 60 #[.pointer (some ⟨q, 0, none⟩), .agg #[.int .i64 r.op, .int .i64 r.id, .int .i64 r.par, .int .i64 r.bef, .string r.tag, .string r.txt, .string r.key, .slice A n c]] w (RMade w B q y 3 y.d) := by
  have B1 : Hid (Below w.heap.size w (w.alloc (.cells #[.int .i64 r.op, .int .i64 r.id, .int .i64 r.par, .int .i64 r.bef, .string r.tag, .string r.txt, .string r.key, .slice A n c] 35))) := Lib.hid ((Below.refl _ _).alloc (Nat.le_refl _) _)
  have N1 : Hid (RcB (w.alloc (.cells #[.int .i64 r.op, .int .i64 r.id, .int .i64 r.par, .int .i64 r.bef, .string r.tag, .string r.txt, .string r.key, .slice A n c] 35)) w.heap.size r A n c) := Lib.hid (RcB.new w r A n c)
  have H0 := Lib.hid h
  have HA := Lib.hid ha
  obtain ⟨ki, hki, hyki, _⟩ := rplace ha hi
  have HYki := Lib.hid hyki
  clear h
  go_enter Try.func60, Try.ntmps60
  go_upto_region 1 with fail
  generalize w.alloc (.cells #[.int .i64 r.op, .int .i64 r.id, .int .i64 r.par, .int .i64 r.bef, .string r.tag, .string r.txt, .string r.key, .slice A n c] 35) = W at B1 N1 ⊢
  have H := Lib.hid (H0.out.below B1.out)
  have b1 := N1.out.c1
  have b2 := N1.out.c2
  have b3 := N1.out.c3
  obtain ⟨k, hk, hy, _⟩ := rplace HA.out hp
  obtain ⟨b, o, cl, A1, nn, ca, A2, n2, c2, hv, hcl, hb, d0, L, hva, hvk⟩ := H.out.lies hk
  have HVA := Lib.hid hva
  have HVK := Lib.hid hvk
  have HY := Lib.hid hy
  obtain ⟨nl, hnl⟩ : ∃ nl, y.rs.length = nl := ⟨_, rfl⟩
  have HNL := Lib.hid hnl
  have hkn : k < nl := by omega
  have hl2 : nl ≤ 1000 := by omega
  rw [hnl] at d0 hcl
  obtain ⟨m, hm⟩ : ∃ m, y.rs[k].nd = m := ⟨_, rfl⟩
  have HM := Lib.hid hm
  rw [hm] at L
  have l0 := L.c0
  have l1 := L.c1
  have l2 := L.c2
  have l3 := L.c3
  have l4 := L.c4
  have l5 := L.c5
  have l6 := L.c6
  have l7 := L.c7
  have hqlt := heap_lt H.out.blk
  have hgA : ∀ g, (Value.slice A2 n2 c2).ownBlock = some g → rfoot q y g := fun g hg => .inr (.inr ⟨_, List.getElem_mem hk, by rw [hvk]; exact hg⟩)
  have HGA := Lib.hid hgA
  have hR := H.out.nodes _ (List.getElem_mem hk)
  rw [show y.rs[k] = (⟨⟨A1, nn, ca⟩, ⟨A2, n2, c2⟩, m⟩ : Rn) by cases e : y.rs[k]; rw [e] at hva hvk hm; cases hva; cases hvk; cases hm; rfl] at hR
  have HR := Lib.hid hR
  clear hv hva hvk hnl hm L hgA hR
  have HNK : Hid (noKids m.tag = true) := Lib.hid (by rw [← HM.out, ← (rtag_at HA.out hk HY.out).1]; exact hnk)
  clear hnk
  go_wp2_with fail
  refine (at_yes r.id W HA.out hl hki HYki.out H.out).mono ?_
  rintro e w' ⟨rfl, rfl⟩
  go_wp2_with fail
  refine (at_yes r.par W HA.out hl hk HY.out H.out).mono ?_
  rintro e w' ⟨rfl, rfl⟩
  go_upto_region 5 with fail
  go_cut [5] (fun s5 wx => s5 = .pointer (some ⟨W.heap.size, 0, none⟩) ∧ Hid (Below W.heap.size W wx) ∧ Hid (NdB wx W.heap.size m A1 nn ca A2 n2 c2))
  case first =>
    go_region_held3 (fun w' => w'.cell? ⟨q, 0, none⟩ = some (.slice (some ⟨b, o, none⟩) nl cl) ∧ w'.cell? ⟨b, o + k * 8, none⟩ = some (.int .i64 m.id) ∧ w'.cell? ⟨b, o + k * 8 + 1, none⟩ = some (.int .i64 m.par) ∧ w'.cell? ⟨b, o + k * 8 + 2, none⟩ = some (.string m.tag) ∧ w'.cell? ⟨b, o + k * 8 + 3, none⟩ = some (.string m.txt) ∧ w'.cell? ⟨b, o + k * 8 + 4, none⟩ = some (.string m.key) ∧ w'.cell? ⟨b, o + k * 8 + 5, none⟩ = some (.slice A1 nn ca) ∧ w'.cell? ⟨b, o + k * 8 + 6, none⟩ = some (.slice A2 n2 c2) ∧ w'.cell? ⟨b, o + k * 8 + 7, none⟩ = some (.int .i64 m.note) ∧ w'.cell? ⟨w.heap.size, 2, none⟩ = some (.int .i64 r.par)) (go_keep) ((first
      | (go_at_call 24; refine (at_yes r.par _ HA.out hl hk HY.out (by exact H.out.drewN _)).mono ?_; rintro e w3 ⟨rfl, rfl⟩)
      | (go_at_call 24; refine (at_yes r.par _ HA.out hl hk HY.out (by exact (H.out.alloc _).drewN _)).mono ?_; rintro e w3 ⟨rfl, rfl⟩)
      | fail))
    all_goals
      go_wp2_with fail
      go_meet
      exact ⟨rfl, Lib.hid (((Below.refl _ _).alloc (Nat.le_refl _) _).drew), Lib.hid (heap_drew (NdB.new W m A1 nn ca A2 n2 c2))⟩
  case rest =>
    obtain ⟨rfl, B2, N2⟩ := hcut
    obtain ⟨w2, rfl⟩ : ∃ w2, w2 = wc := ⟨_, rfl⟩
    clear l0 l1 l2 l3 l4 l5 l6 l7 d0 b1 b2 b3
    have a2 := N2.out.c2
    have BB2 := Lib.hid (B1.out.trans (B2.out.mono B1.out.size))
    have H2 := Lib.hid (H0.out.below BB2.out)
    have R2 := Lib.hid (N1.out.below B2.out N1.out.lt)
    have hz2 : W.heap.size < w2.heap.size := N2.out.lt
    go_wp2_with fail
    refine (P1.rvoid_any m.tag w2).mono ?_
    rintro e w' ⟨rfl, rfl⟩
    cases tE : m.tag.toList.isEmpty with
    | true =>
      go_wp2_with fail
      go_ret
      exact RMade.same H0.out BB2.out rfl
    | false =>
      have hv : P1.voidB m.tag.data.toList = true := by
        have := HNK.out
        unfold noKids at this
        rcases Bool.or_eq_true _ _ |>.mp this with e | e
        · rw [decide_eq_true_iff] at e; rw [e] at tE; cases tE
        · exact e
      rw [hv]
      go_wp2_with fail
      go_ret
      exact RMade.same H0.out BB2.out rfl
set_option maxRecDepth 100000 in
set_option maxHeartbeats 2000000 in
theorem rput_31 (r : Rc) (A : Option Addr) (n c : Nat) (w : World) (ha : Asc y.l) (hl : y.rs.length ≤ 1000) (hi : hasL y.l r.id = true) (hp : hasL y.l r.par = true) (hq : (r.bef != 0) = true) (hb : hasL y.l r.bef = true) (h1 : (r.id == 1) = false) (hnk : noKids (tagOf y.l r.par) = true) (h : Rf w B q y) : Calls Try.prog 60 #[.pointer (some ⟨q, 0, none⟩), .agg #[.int .i64 r.op, .int .i64 r.id, .int .i64 r.par, .int .i64 r.bef, .string r.tag, .string r.txt, .string r.key, .slice A n c]] w (RMade w B q y 3 y.d) := by
  have B1 : Hid (Below w.heap.size w (w.alloc (.cells #[.int .i64 r.op, .int .i64 r.id, .int .i64 r.par, .int .i64 r.bef, .string r.tag, .string r.txt, .string r.key, .slice A n c] 35))) := Lib.hid ((Below.refl _ _).alloc (Nat.le_refl _) _)
  have N1 : Hid (RcB (w.alloc (.cells #[.int .i64 r.op, .int .i64 r.id, .int .i64 r.par, .int .i64 r.bef, .string r.tag, .string r.txt, .string r.key, .slice A n c] 35)) w.heap.size r A n c) := Lib.hid (RcB.new w r A n c)
  have H0 := Lib.hid h
  have HA := Lib.hid ha
  obtain ⟨ki, hki, hyki, _⟩ := rplace ha hi
  have HYki := Lib.hid hyki
  obtain ⟨kb, hkb, hykb, _⟩ := rplace ha hb
  have HYkb := Lib.hid hykb
  clear h
  go_enter Try.func60, Try.ntmps60
  go_upto_region 1 with fail
  generalize w.alloc (.cells #[.int .i64 r.op, .int .i64 r.id, .int .i64 r.par, .int .i64 r.bef, .string r.tag, .string r.txt, .string r.key, .slice A n c] 35) = W at B1 N1 ⊢
  have H := Lib.hid (H0.out.below B1.out)
  have b1 := N1.out.c1
  have b2 := N1.out.c2
  have b3 := N1.out.c3
  obtain ⟨k, hk, hy, _⟩ := rplace HA.out hp
  obtain ⟨b, o, cl, A1, nn, ca, A2, n2, c2, hv, hcl, hb, d0, L, hva, hvk⟩ := H.out.lies hk
  have HVA := Lib.hid hva
  have HVK := Lib.hid hvk
  have HY := Lib.hid hy
  obtain ⟨nl, hnl⟩ : ∃ nl, y.rs.length = nl := ⟨_, rfl⟩
  have HNL := Lib.hid hnl
  have hkn : k < nl := by omega
  have hl2 : nl ≤ 1000 := by omega
  rw [hnl] at d0 hcl
  obtain ⟨m, hm⟩ : ∃ m, y.rs[k].nd = m := ⟨_, rfl⟩
  have HM := Lib.hid hm
  rw [hm] at L
  have l0 := L.c0
  have l1 := L.c1
  have l2 := L.c2
  have l3 := L.c3
  have l4 := L.c4
  have l5 := L.c5
  have l6 := L.c6
  have l7 := L.c7
  have hqlt := heap_lt H.out.blk
  have hgA : ∀ g, (Value.slice A2 n2 c2).ownBlock = some g → rfoot q y g := fun g hg => .inr (.inr ⟨_, List.getElem_mem hk, by rw [hvk]; exact hg⟩)
  have HGA := Lib.hid hgA
  have hR := H.out.nodes _ (List.getElem_mem hk)
  rw [show y.rs[k] = (⟨⟨A1, nn, ca⟩, ⟨A2, n2, c2⟩, m⟩ : Rn) by cases e : y.rs[k]; rw [e] at hva hvk hm; cases hva; cases hvk; cases hm; rfl] at hR
  have HR := Lib.hid hR
  clear hv hva hvk hnl hm L hgA hR
  have HNK : Hid (noKids m.tag = true) := Lib.hid (by rw [← HM.out, ← (rtag_at HA.out hk HY.out).1]; exact hnk)
  clear hnk
  go_wp2_with fail
  refine (at_yes r.id W HA.out hl hki HYki.out H.out).mono ?_
  rintro e w' ⟨rfl, rfl⟩
  go_wp2_with fail
  refine (at_yes r.par W HA.out hl hk HY.out H.out).mono ?_
  rintro e w' ⟨rfl, rfl⟩
  go_wp2_with fail
  refine (at_yes r.bef W HA.out hl hkb HYkb.out H.out).mono ?_
  rintro e w' ⟨rfl, rfl⟩
  go_upto_region 5 with fail
  go_cut [5] (fun s5 wx => s5 = .pointer (some ⟨W.heap.size, 0, none⟩) ∧ Hid (Below W.heap.size W wx) ∧ Hid (NdB wx W.heap.size m A1 nn ca A2 n2 c2))
  case first =>
    go_region_held3 (fun w' => w'.cell? ⟨q, 0, none⟩ = some (.slice (some ⟨b, o, none⟩) nl cl) ∧ w'.cell? ⟨b, o + k * 8, none⟩ = some (.int .i64 m.id) ∧ w'.cell? ⟨b, o + k * 8 + 1, none⟩ = some (.int .i64 m.par) ∧ w'.cell? ⟨b, o + k * 8 + 2, none⟩ = some (.string m.tag) ∧ w'.cell? ⟨b, o + k * 8 + 3, none⟩ = some (.string m.txt) ∧ w'.cell? ⟨b, o + k * 8 + 4, none⟩ = some (.string m.key) ∧ w'.cell? ⟨b, o + k * 8 + 5, none⟩ = some (.slice A1 nn ca) ∧ w'.cell? ⟨b, o + k * 8 + 6, none⟩ = some (.slice A2 n2 c2) ∧ w'.cell? ⟨b, o + k * 8 + 7, none⟩ = some (.int .i64 m.note) ∧ w'.cell? ⟨w.heap.size, 2, none⟩ = some (.int .i64 r.par)) (go_keep) ((first
      | (go_at_call 24; refine (at_yes r.par _ HA.out hl hk HY.out (by exact H.out.drewN _)).mono ?_; rintro e w3 ⟨rfl, rfl⟩)
      | (go_at_call 24; refine (at_yes r.par _ HA.out hl hk HY.out (by exact (H.out.alloc _).drewN _)).mono ?_; rintro e w3 ⟨rfl, rfl⟩)
      | fail))
    all_goals
      go_wp2_with fail
      go_meet
      exact ⟨rfl, Lib.hid (((Below.refl _ _).alloc (Nat.le_refl _) _).drew), Lib.hid (heap_drew (NdB.new W m A1 nn ca A2 n2 c2))⟩
  case rest =>
    obtain ⟨rfl, B2, N2⟩ := hcut
    obtain ⟨w2, rfl⟩ : ∃ w2, w2 = wc := ⟨_, rfl⟩
    clear l0 l1 l2 l3 l4 l5 l6 l7 d0 b1 b2 b3
    have a2 := N2.out.c2
    have BB2 := Lib.hid (B1.out.trans (B2.out.mono B1.out.size))
    have H2 := Lib.hid (H0.out.below BB2.out)
    have R2 := Lib.hid (N1.out.below B2.out N1.out.lt)
    have hz2 : W.heap.size < w2.heap.size := N2.out.lt
    go_wp2_with fail
    refine (P1.rvoid_any m.tag w2).mono ?_
    rintro e w' ⟨rfl, rfl⟩
    cases tE : m.tag.toList.isEmpty with
    | true =>
      go_wp2_with fail
      go_ret
      exact RMade.same H0.out BB2.out rfl
    | false =>
      have hv : P1.voidB m.tag.data.toList = true := by
        have := HNK.out
        unfold noKids at this
        rcases Bool.or_eq_true _ _ |>.mp this with e | e
        · rw [decide_eq_true_iff] at e; rw [e] at tE; cases tE
        · exact e
      rw [hv]
      go_wp2_with fail
      go_ret
      exact RMade.same H0.out BB2.out rfl
end Go.Proofs.Ytkagaobelhpojaa.P5
