/- A slice of integers that comes in. No condition. -/
import Derived.Test.YtmcnmgkfloidpaaM3
import Derived.Test.YtmcnmgkfloidpaaM21
import Derived.Test.YtmcnmgkfloidpaaM22
set_option linter.unusedVariables false
set_option linter.unusedSimpArgs false
namespace Go.Proofs.Ytmcnmgkfloidpaa.P4
open Go.RowKit Go.ChangeShapes Go.WideShapes Go.Deep Kd
theorem cellsI_ : Try.prog.cellsOf 3 = 1 := by kernel_rfl
set_option maxRecDepth 100000 in
theorem open_ints {H : Type} {enc : TypeId × Value → H} {w : World} {v : Value} {d : DataW H} {p : List MemPlace} {base : Nat}
    (hv : Value.okWide Try.prog w .any base 50 v) (h : DataW.Trod enc Try.prog w 0 (fun _ => true) true 50 v d p) :
    ∃ A n c l, v = .slice A n c ∧ l.length = n ∧ n ≤ c ∧ c ≤ maxLen ∧ kI.Holds w w.heap.size A l := by
  obtain ⟨A, n, c, l, h1, h2, h3, h4, _, h5⟩ := kI.open_ (base := base) (0 : Int) (fun _ => True) cellsI_ (fun fuel cs x hx _ => by
    obtain ⟨z, rfl, _⟩ := DataW.trod_int Try.underlying3 hx
    exact ⟨z, rfl, trivial⟩) hv h
  exact ⟨A, n, c, l, h1, h2, h3, h4, h5⟩
end Go.Proofs.Ytmcnmgkfloidpaa.P4

/- The document's example of layer 5, at the head of both laws: it answers true. -/
namespace Go.Proofs.Ytmcnmgkfloidpaa.P5
open Go.RowKit Kd P4

theorem newDoc_at (r : Int) (R : Nat) (w : World) (hr : r = R) (h1 : 1 ≤ r) (h2 : r ≤ 200) : Calls Try.prog 8 #[.int .i64 r] w (NewDoc w R) := by
  subst hr; exact newDoc_yes R w (by omega) (by omega)
def rec1 : Rc := ⟨1, 2, 0, 0, ⟨#[112]⟩, ⟨#[]⟩, ⟨#[]⟩, []⟩
def rec2 : Rc := ⟨2, 2, 1, 0, ⟨#[]⟩, ⟨#[]⟩, ⟨#[]⟩, []⟩
def nodeR : Nd := newN 1 ⟨#[114, 111, 111, 116]⟩ ⟨#[]⟩ ⟨#[]⟩
def nodeP : Nd := newN 2 ⟨#[112]⟩ ⟨#[]⟩ ⟨#[]⟩
theorem list1 : (⟨#[112]⟩ : ByteArray).toList = [112] := by rw [ByteArray.toList_eq]
theorem list0 : (⟨#[]⟩ : ByteArray).toList = [] := by rw [ByteArray.toList_eq]
theorem listR : (⟨#[114, 111, 111, 116]⟩ : ByteArray).toList = [114, 111, 111, 116] := by rw [ByteArray.toList_eq]
theorem ex1 : applyD (newD 9) rec1 = (0, ⟨[nodeR, nodeP], 2, 9, 0⟩) := by
  have hm : mayMake ⟨#[112]⟩ ⟨#[]⟩ ⟨#[]⟩ = true := by
    unfold mayMake
    rw [list1, list0]
    decide
  unfold applyD
  rw [if_pos (show rec1.op = 1 from rfl)]
  unfold makeD
  rw [if_neg (by rintro (e | e); (exact e rfl); (rw [show mayMake rec1.tag rec1.txt rec1.key = true from hm] at e; cases e)), if_neg (by decide)]
  rfl
theorem ex2 : applyD ⟨[nodeR, nodeP], 2, 9, 0⟩ rec2 = (0, ⟨[withKids (insA 2 0) nodeR, withPar 1 nodeP], 2, 9, 0⟩) := by
  have hk : noKids nodeR.tag = false := by
    unfold noKids
    rw [show nodeR.tag.toList = [114, 111, 111, 116] from listR]
    decide
  have he : putErr [nodeR, nodeP] 2 1 0 = 0 := by
    unfold putErr
    rw [if_neg (by decide), if_neg (by decide), if_neg (by rw [show tagOf [nodeR, nodeP] 1 = nodeR.tag from rfl, hk]; decide), if_neg (by decide), if_neg (by decide)]
  unfold applyD
  rw [if_neg (by decide), if_pos (show rec2.op = 2 from rfl)]
  unfold putD
  rw [if_pos (show putErr [nodeR, nodeP] rec2.id rec2.par rec2.bef = 0 from he)]
  rfl
theorem argNil (w : World) : ArgA w none 0 0 [] := ⟨rfl, Nat.le_refl _, fun _ => rfl, by omega, fun a h => absurd h (by simp), Kind.Holds.nil _ _ _⟩
theorem size_nil : (⟨#[]⟩ : ByteArray).size ≤ maxLen := by unfold maxLen; decide
theorem size_one : (⟨#[112]⟩ : ByteArray).size ≤ maxLen := by unfold maxLen; decide
theorem errV0 : errV 0 = .nilIface := rfl
set_option maxHeartbeats 2000000 in
theorem up_any (w : World) : Calls Try.prog 7 #[] w fun e w' => e = .returned (.bool true) ∧ Below w.heap.size w w' := by
  have q1 := err_eql_nil
  have q2 := err_eql
  have q3 := err_neq_nil
  have q4 := nil_eql_nil
  have q5 := nil_neq_nil
  go_enter Try.func7, Try.ntmps7
  go_wp2_with fail
  refine (newDoc_at 9 9 w rfl (by omega) (by omega)).mono ?_
  rintro e w1 ⟨p, x, rfl, dc1, hd1, b1⟩
  have D1 := Lib.hid dc1
  have E1 := Lib.hid hd1
  have B1 := Lib.hid b1
  clear dc1 hd1 b1
  go_wp2_with fail
  refine (newDoc_no 0 _ (by omega)).mono ?_
  rintro e w' ⟨rfl, rfl⟩
  go_wp2_with fail
  have hn1 : x.n ≤ 100000 := by have : x.d.n = 1 := by rw [E1.out]; rfl
                                have h2 : x.n = 1 := this
                                omega
  refine (apply_any rec1 none 0 0 w1 (by rw [E1.out]; exact wf_newD (by omega) (by omega)) hn1 ⟨argNil w1, size_one, size_nil, size_nil⟩ D1.out).mono ?_
  rintro e w2 ⟨rfl, x2, d2, hd2⟩
  rw [E1.out, ex1] at hd2 ⊢
  rw [errV0]
  have D2 := Lib.hid d2
  have E2 := Lib.hid hd2
  clear d2 hd2
  go_wp2_with fail
  have hn2 : x2.n ≤ 100000 := by have : x2.d.n = 2 := by rw [E2.out]
                                 have h2 : x2.n = 2 := this
                                 omega
  have hw2 : WF x2.d := by
    have := wf_apply (wf_newD (R := 9) (by omega) (by omega)) rec1
    rw [ex1] at this
    rw [E2.out]; exact this
  refine (apply_any rec2 none 0 0 w2 hw2 hn2 ⟨argNil w2, size_nil, size_nil, size_nil⟩ D2.out.dc).mono ?_
  rintro e w3 ⟨rfl, x3, d3, hd3⟩
  rw [E2.out, ex2] at hd3 ⊢
  rw [errV0]
  have D3 := Lib.hid (D2.out.trans d3)
  have E3 := Lib.hid hd3
  clear d3 hd3 hw2
  go_wp2_with fail
  have hl3 : x3.l = [withKids (insA 2 0) nodeR, withPar 1 nodeP] := by have := congrArg D.l E3.out; exact this
  have hlen : x3.rs.length = 2 := by have := congrArg List.length hl3; rw [l_len] at this; exact this
  have hk0 : 0 < x3.rs.length := by omega
  have hnd0 : x3.rs[0].nd = withKids (insA 2 0) nodeR := by
    have := l_at x3 hk0
    rw [← this]
    simp [hl3]
  have B3 := Lib.hid (B1.out.trans (D3.out.to_below D1.out))
  refine (tell_yes 1 (k := 0) (nd := withKids (insA 2 0) nodeR) w3 hk0 (by rw [hnd0]; rfl) hnd0 (by decide) (by decide) D3.out.dc).mono ?_
  rintro e w4 ⟨A, n, c, A2, n2, c2, rfl, ha, ho, b4⟩
  obtain ⟨g1, g2, g3, g4, g5⟩ := own_nil_zero ho rfl
  have hn1 : n2 = 1 := by rw [← g1]; rfl
  subst hn1
  obtain ⟨gb, go, rfl, hgb, hc⟩ := cell_int g5 (k := 0) (by decide)
  have hc' : w4.cell? ⟨gb, go, none⟩ = some (.int .i64 2) := hc
  have B4 := Lib.hid (B3.out.trans (b4.mono B3.out.size))
  have HLEN := Lib.hid hlen
  have D4 := Lib.hid (D3.out.below b4)
  have htag : (withKids (insA 2 0) nodeR).tag = ⟨#[114, 111, 111, 116]⟩ := rfl
  rw [htag]
  clear g1 g4 g5 ho ha hc b4 hl3 hlen hnd0 htag
  have hls : (⟨#[114, 111, 111, 116]⟩ : ByteArray).toList = [114, 111, 111, 116] := listR
  have hR : x3.R = 9 := by have : x3.d.R = 9 := by rw [E3.out]
                           exact this
  have HR := Lib.hid hR
  have hf : ∀ W, Below w4.heap.size w4 W → Calls Try.prog 38 #[.pointer (some ⟨p, 0, none⟩)] W fun e w' => e = .returned (.int .i64 7) ∧ Below W.heap.size W w' := fun W hb => (free_any (m := 2) W HLEN.out (D4.out.dc.below hb)).mono fun e w' h => by rw [HR.out] at h; exact h
  have HFr := Lib.hid hf
  clear hR hf
  go_wp2_with fail
  refine (HFr.out _ ((Below.refl _ _).alloc (Nat.le_refl _) _)).mono ?_
  rintro e w5 ⟨rfl, b5⟩
  have B5 := Lib.hid ((B4.out.alloc B4.out.size (.cells #[.int .i64 (withKids (insA 2 0) nodeR).id, .int .i64 (withKids (insA 2 0) nodeR).par, .string ⟨#[114, 111, 111, 116]⟩, .string (withKids (insA 2 0) nodeR).txt, .string (withKids (insA 2 0) nodeR).key, .slice A n c, .slice (some ⟨gb, go, none⟩) 1 c2, .int .i64 (withKids (insA 2 0) nodeR).note] 52)).trans (b5.mono (by have := B4.out.size; simp; omega)))
  clear b5
  go_wp2_with fail
  go_ret
  exact ⟨rfl, B5.out⟩
end Go.Proofs.Ytmcnmgkfloidpaa.P5

/- What the laws of layer 5 are told of a node; what a change leaves of the last identity. -/
namespace Go.Proofs.Ytmcnmgkfloidpaa.P5
open Go.RowKit Kd P4
variable {B p : Nat} {x : Dx}

/-! ### What a change leaves of the last identity -/
theorem apply_n (d : D) (r : Rc) : d.n ≤ (applyD d r).2.n ∧ (applyD d r).2.n ≤ d.n + 1 := by
  unfold applyD
  split
  · unfold makeD
    split
    · exact ⟨Int.le_refl _, by show d.n ≤ d.n + 1; omega⟩
    · split
      · exact ⟨Int.le_refl _, by show d.n ≤ d.n + 1; omega⟩
      · show d.n ≤ d.n + 1 ∧ d.n + 1 ≤ d.n + 1
        omega
  · split
    · unfold putD; split <;> exact ⟨Int.le_refl _, by show d.n ≤ d.n + 1; omega⟩
    · split
      · unfold goneD
        split
        · exact ⟨Int.le_refl _, by show d.n ≤ d.n + 1; omega⟩
        · split <;> exact ⟨Int.le_refl _, by show d.n ≤ d.n + 1; omega⟩
      · split
        · unfold attrsD
          split
          · exact ⟨Int.le_refl _, by show d.n ≤ d.n + 1; omega⟩
          · split
            · exact ⟨Int.le_refl _, by show d.n ≤ d.n + 1; omega⟩
            · split <;> exact ⟨Int.le_refl _, by show d.n ≤ d.n + 1; omega⟩
        · split
          · unfold dataD
            split
            · exact ⟨Int.le_refl _, by show d.n ≤ d.n + 1; omega⟩
            · split
              · exact ⟨Int.le_refl _, by show d.n ≤ d.n + 1; omega⟩
              · split <;> exact ⟨Int.le_refl _, by show d.n ≤ d.n + 1; omega⟩
          · exact ⟨Int.le_refl _, by show d.n ≤ d.n + 1; omega⟩
theorem focus_n (d : D) (i : Int) : (focusD d i).2.n = d.n := by
  unfold focusD; split <;> rfl

/-! ### A node that has been told, in a block of its own -/
def NdB (w : World) (g : Nat) (nd : Nd) (A : Option Addr) (n c : Nat) (A2 : Option Addr) (n2 k2 : Nat) : Prop :=
  w.heap[g]? = some (.cells #[.int .i64 nd.id, .int .i64 nd.par, .string nd.tag, .string nd.txt, .string nd.key, .slice A n c, .slice A2 n2 k2, .int .i64 nd.note] 52 (0, 0))
section
variable {w w' : World} {g : Nat} {nd : Nd} {A A2 : Option Addr} {n c n2 k2 : Nat}
theorem NdB.lt (h : NdB w g nd A n c A2 n2 k2) : g < w.heap.size := heap_lt h
theorem NdB.below {C : Nat} (h : NdB w g nd A n c A2 n2 k2) (hb : Below C w w') (hC : g < C) : NdB w' g nd A n c A2 n2 k2 := (hb.block g hC).trans h
theorem NdB.new (w : World) (nd : Nd) (A : Option Addr) (n c : Nat) (A2 : Option Addr) (n2 k2 : Nat) : NdB (w.alloc (.cells #[.int .i64 nd.id, .int .i64 nd.par, .string nd.tag, .string nd.txt, .string nd.key, .slice A n c, .slice A2 n2 k2, .int .i64 nd.note] 52)) w.heap.size nd A n c A2 n2 k2 := heap_alloc_new w _
theorem NdB.c0 (h : NdB w g nd A n c A2 n2 k2) : w.cell? ⟨g, 0, none⟩ = some (.int .i64 nd.id) := cell_of_row w g 0 _ _ (0, 0) h
theorem NdB.c1 (h : NdB w g nd A n c A2 n2 k2) : w.cell? ⟨g, 1, none⟩ = some (.int .i64 nd.par) := cell_of_row w g 1 _ _ (0, 0) h
theorem NdB.c2 (h : NdB w g nd A n c A2 n2 k2) : w.cell? ⟨g, 2, none⟩ = some (.string nd.tag) := cell_of_row w g 2 _ _ (0, 0) h
theorem NdB.c3 (h : NdB w g nd A n c A2 n2 k2) : w.cell? ⟨g, 3, none⟩ = some (.string nd.txt) := cell_of_row w g 3 _ _ (0, 0) h
theorem NdB.c4 (h : NdB w g nd A n c A2 n2 k2) : w.cell? ⟨g, 4, none⟩ = some (.string nd.key) := cell_of_row w g 4 _ _ (0, 0) h
theorem NdB.c5 (h : NdB w g nd A n c A2 n2 k2) : w.cell? ⟨g, 5, none⟩ = some (.slice A n c) := cell_of_row w g 5 _ _ (0, 0) h
theorem NdB.c6 (h : NdB w g nd A n c A2 n2 k2) : w.cell? ⟨g, 6, none⟩ = some (.slice A2 n2 k2) := cell_of_row w g 6 _ _ (0, 0) h
theorem NdB.c7 (h : NdB w g nd A n c A2 n2 k2) : w.cell? ⟨g, 7, none⟩ = some (.int .i64 nd.note) := cell_of_row w g 7 _ _ (0, 0) h
theorem NdB.frozen (h : NdB w g nd A n c A2 n2 k2) (i : Nat) : w.frozen? ⟨g, i, none⟩ = false := by
  unfold NdB at h
  simp [World.frozen?, h]
end
theorem next_quiet (w : World) (hn : x.n ≤ 100000) (h : Dc w B p x) (k : Nat) : Calls Try.prog 19 #[.pointer (some ⟨p, 0, none⟩)] (w.drewN k) fun e w' => e = .returned (.int .i64 (x.n + 1)) ∧ ∃ m, w' = w.drewN m :=
  (next_any (w.drewN k) hn rfl (h.drewN k)).mono fun _ _ ⟨he, hw⟩ => ⟨he, k, hw.symm⟩
theorem nd_kids {w : World} (h : Dc w B p x) (hwf : WF x.d) {k : Nat} (hk : k < x.rs.length) : x.rs[k].nd.attrs.length ≤ 1000 ∧ x.rs[k].nd.kids.length ≤ 1000 ∧ x.rs[k].nd.kids.Nodup ∧ (∀ c ∈ x.rs[k].nd.kids, ∃ j, ∃ hj : j < x.rs.length, x.rs[j].nd.id = c ∧ x.rs[j].nd.par = x.rs[k].nd.id) ∧ 1 ≤ x.rs[k].nd.id ∧ x.rs[k].nd.id ≤ x.n ∧ (x.rs[k].nd.tag.toList = [] → x.rs[k].nd.kids = []) := by
  have hm : x.rs[k].nd ∈ x.d.l := List.mem_map.2 ⟨_, List.getElem_mem hk, rfl⟩
  have hkd := (tag_at h hk rfl).2.2
  have hr := hwf.rng _ hm
  refine ⟨by have := hwf.att _ hm; omega, by have := hwf.kids_len hm; omega, by rw [← hkd]; exact hwf.tr.nod _, fun c hc => ?_, hr.1, hr.2, hwf.elem _ hm⟩
  obtain ⟨h1, h2⟩ := hwf.kid_has hm hc
  obtain ⟨j, hj, e1, _⟩ := h.place h1
  exact ⟨j, hj, e1, by rw [← (tag_at h hj e1).2.1]; exact h2⟩
theorem par_place {w : World} (h : Dc w B p x) (hwf : WF x.d) {k : Nat} (hk : k < x.rs.length) (h0 : x.rs[k].nd.par ≠ 0) : ∃ j, ∃ hj : j < x.rs.length, x.rs[j].nd.id = x.rs[k].nd.par := by
  have hp := (tag_at h hk rfl).2.1
  have : hasL x.d.l (parOf x.d.l x.rs[k].nd.id) = true := hwf.tr.hpar (by rw [show parOf x.d.l x.rs[k].nd.id = x.rs[k].nd.par from hp]; exact h0)
  rw [show parOf x.d.l x.rs[k].nd.id = x.rs[k].nd.par from hp] at this
  obtain ⟨j, hj, e, _⟩ := h.place this
  exact ⟨j, hj, e⟩

/-- what the law has told it of a node: its block, its children, all new -/
structure Seen (wc : World) (g : Nat) (nd : Nd) (A : Option Addr) (n c : Nat) (A2 : Option Addr) (n2 k2 : Nat) (w : World) : Prop where
  nb : NdB w g nd A n c A2 n2 k2
  hk : kI.Holds w w.heap.size A2 nd.kids
  bl : Below wc.heap.size wc w
theorem Seen.below {wc w w' : World} {g : Nat} {nd : Nd} {A A2 : Option Addr} {n c n2 k2 : Nat} (h : Seen wc g nd A n c A2 n2 k2 w) (hb : Below w.heap.size w w') : Seen wc g nd A n c A2 n2 k2 w' :=
  ⟨h.nb.below hb h.nb.lt, h.hk.on hb, h.bl.trans (hb.mono h.bl.size)⟩
theorem Seen.drewN {wc w : World} {g : Nat} {nd : Nd} {A A2 : Option Addr} {n c n2 k2 : Nat} (h : Seen wc g nd A n c A2 n2 k2 w) (k : Nat) : Seen wc g nd A n c A2 n2 k2 (w.drewN k) := ⟨h.nb, h.hk, Below_drewN h.bl k⟩
theorem NdB.set8 {w : World} {g : Nat} {nd nd' : Nd} {A A2 A' A2' : Option Addr} {n c n2 k2 n' c' n2' k2' : Nat} (h : NdB w g nd A n c A2 n2 k2) :
    NdB ((((((((w.setCell ⟨g, 0, none⟩ (.int .i64 nd'.id)).setCell ⟨g, 1, none⟩ (.int .i64 nd'.par)).setCell ⟨g, 2, none⟩ (.string nd'.tag)).setCell ⟨g, 3, none⟩ (.string nd'.txt)).setCell ⟨g, 4, none⟩ (.string nd'.key)).setCell ⟨g, 5, none⟩ (.slice A' n' c')).setCell ⟨g, 6, none⟩ (.slice A2' n2' k2')).setCell ⟨g, 7, none⟩ (.int .i64 nd'.note)) g nd' A' n' c' A2' n2' k2' := by
  unfold NdB at h ⊢
  simp [World.setCell, Array.getElem?_modify, h]
theorem dep_len {l : List Nd} (h : Tr (fun y => hasL l y = true) (parOf l) (kidsOf l)) {y : Int} (hy : hasL l y = true) : depOf (parOf l) y ≤ l.length := by
  obtain ⟨k, hk⟩ := h.dep y
  have := h.dep_le (L := idsOf l) (fun y hy => has_ids.1 hy) hy hk
  rw [depOf_is hk]
  simpa [idsOf] using this
/-- on the way up: the node in the block, and how many steps are left -/
def UpAt (wc : World) (x : Dx) (g : Nat) (s N : Nat) (w : World) : Prop :=
  ∃ (j : Nat) (hj : j < x.rs.length) (A : Option Addr) (n c : Nat) (A2 : Option Addr) (n2 k2 : Nat), NdB w g x.rs[j].nd A n c A2 n2 k2 ∧ s + depOf (parOf x.l) x.rs[j].nd.id ≤ N ∧ Below wc.heap.size wc w ∧ wc.heap.size ≤ g
theorem one_of {l : List Int} (h : l.Nodup) {i j : Nat} (hi : i < l.length) (hj : j < l.length) (hij : i < j) : (l[i] == l[j]) = false := by
  rw [beq_eq_false_iff_ne]
  have := List.pairwise_iff_getElem.1 h i j hi hj hij
  exact this
end Go.Proofs.Ytmcnmgkfloidpaa.P5
