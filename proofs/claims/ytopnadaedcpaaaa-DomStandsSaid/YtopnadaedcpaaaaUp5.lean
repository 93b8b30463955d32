/- The document's example of layer 5, at the head of both laws: it answers true. -/
import Derived.Test.YtopnadaedcpaaaaFew5
namespace Go.Proofs.Ytopnadaedcpaaaa.P5
open Go.RowKit Kd P4

theorem newDoc_at (r : Int) (R : Nat) (w : World) (hr : r = R) (h1 : 1 ≤ r) (h2 : r ≤ 200) : Calls Try.prog 6 #[.int .i64 r] w (NewDoc w R) := by
  subst hr; exact newDoc_yes R w (by omega) (by omega)
def rec1 : Rc := ⟨1, 2, 0, 0, ⟨#[112]⟩, ⟨#[]⟩, ⟨#[]⟩, []⟩
def rec2 : Rc := ⟨2, 2, 1, 0, ⟨#[]⟩, ⟨#[]⟩, ⟨#[]⟩, []⟩
def nodeR : Nd := newN 1 ⟨#[114, 111, 111, 116]⟩ ⟨#[]⟩ ⟨#[]⟩
def nodeP : Nd := newN 2 ⟨#[112]⟩ ⟨#[]⟩ ⟨#[]⟩
theorem list1 : (⟨#[112]⟩ : ByteArray).toList = [112] := by rw [ByteArray.toList_eq]
theorem list0 : (⟨#[]⟩ : ByteArray).toList = [] := by rw [ByteArray.toList_eq]
theorem listR : (⟨#[114, 111, 111, 116]⟩ : ByteArray).toList = [114, 111, 111, 116] := by rw [ByteArray.toList_eq]
theorem ex1 : applyD (newD 9) rec1 = (0, ⟨[nodeR, nodeP], 2, 9, 0⟩) := by
  have hm : mayMake ⟨#[112]⟩ ⟨#[]⟩ ⟨#[]⟩ = true := by
    unfold mayMake
    rw [list1, list0]
    decide
  unfold applyD
  rw [if_pos (show rec1.op = 1 from rfl)]
  unfold makeD
  rw [if_neg (by rintro (e | e); (exact e rfl); (rw [show mayMake rec1.tag rec1.txt rec1.key = true from hm] at e; cases e)), if_neg (by decide)]
  rfl
theorem ex2 : applyD ⟨[nodeR, nodeP], 2, 9, 0⟩ rec2 = (0, ⟨[withKids (insA 2 0) nodeR, withPar 1 nodeP], 2, 9, 0⟩) := by
  have hk : noKids nodeR.tag = false := by
    unfold noKids
    rw [show nodeR.tag.toList = [114, 111, 111, 116] from listR]
    decide
  have he : putErr [nodeR, nodeP] 2 1 0 = 0 := by
    unfold putErr
    rw [if_neg (by decide), if_neg (by decide), if_neg (by rw [show tagOf [nodeR, nodeP] 1 = nodeR.tag from rfl, hk]; decide), if_neg (by decide), if_neg (by decide)]
  unfold applyD
  rw [if_neg (by decide), if_pos (show rec2.op = 2 from rfl)]
  unfold putD
  rw [if_pos (show putErr [nodeR, nodeP] rec2.id rec2.par rec2.bef = 0 from he)]
  rfl
theorem argNil (w : World) : ArgA w none 0 0 [] := ⟨rfl, Nat.le_refl _, fun _ => rfl, by omega, fun a h => absurd h (by simp), Kind.Holds.nil _ _ _⟩
theorem size_nil : (⟨#[]⟩ : ByteArray).size ≤ maxLen := by unfold maxLen; decide
theorem size_one : (⟨#[112]⟩ : ByteArray).size ≤ maxLen := by unfold maxLen; decide
theorem errV0 : errV 0 = .nilIface := rfl
set_option maxHeartbeats 2000000 in
theorem up_any (w : World) : Calls Try.prog 5 #[] w fun e w' => e = .returned (.bool true) ∧ Below w.heap.size w w' := by
  have q1 := err_eql_nil
  have q2 := err_eql
  have q3 := err_neq_nil
  have q4 := nil_eql_nil
  have q5 := nil_neq_nil
  go_enter Try.func5, Try.ntmps5
  go_wp2_with fail
  refine (newDoc_at 9 9 w rfl (by omega) (by omega)).mono ?_
  rintro e w1 ⟨p, x, rfl, dc1, hd1, b1⟩
  have D1 := Lib.hid dc1
  have E1 := Lib.hid hd1
  have B1 := Lib.hid b1
  clear dc1 hd1 b1
  go_wp2_with fail
  refine (newDoc_no 0 _ (by omega)).mono ?_
  rintro e w' ⟨rfl, rfl⟩
  go_wp2_with fail
  have hn1 : x.n ≤ 100000 := by have : x.d.n = 1 := by rw [E1.out]; rfl
                                have h2 : x.n = 1 := this
                                omega
  refine (apply_any rec1 none 0 0 w1 (by rw [E1.out]; exact wf_newD (by omega) (by omega)) hn1 ⟨argNil w1, size_one, size_nil, size_nil⟩ D1.out).mono ?_
  rintro e w2 ⟨rfl, x2, d2, hd2⟩
  rw [E1.out, ex1] at hd2 ⊢
  rw [errV0]
  have D2 := Lib.hid d2
  have E2 := Lib.hid hd2
  clear d2 hd2
  go_wp2_with fail
  have hn2 : x2.n ≤ 100000 := by have : x2.d.n = 2 := by rw [E2.out]
                                 have h2 : x2.n = 2 := this
                                 omega
  have hw2 : WF x2.d := by
    have := wf_apply (wf_newD (R := 9) (by omega) (by omega)) rec1
    rw [ex1] at this
    rw [E2.out]; exact this
  refine (apply_any rec2 none 0 0 w2 hw2 hn2 ⟨argNil w2, size_nil, size_nil, size_nil⟩ D2.out.dc).mono ?_
  rintro e w3 ⟨rfl, x3, d3, hd3⟩
  rw [E2.out, ex2] at hd3 ⊢
  rw [errV0]
  have D3 := Lib.hid (D2.out.trans d3)
  have E3 := Lib.hid hd3
  clear d3 hd3 hw2
  go_wp2_with fail
  have hl3 : x3.l = [withKids (insA 2 0) nodeR, withPar 1 nodeP] := by have := congrArg D.l E3.out; exact this
  have hlen : x3.rs.length = 2 := by have := congrArg List.length hl3; rw [l_len] at this; exact this
  have hk0 : 0 < x3.rs.length := by omega
  have hnd0 : x3.rs[0].nd = withKids (insA 2 0) nodeR := by
    have := l_at x3 hk0
    rw [← this]
    simp [hl3]
  have B3 := Lib.hid (B1.out.trans (D3.out.to_below D1.out))
  refine (tell_yes 1 (k := 0) (nd := withKids (insA 2 0) nodeR) w3 hk0 (by rw [hnd0]; rfl) hnd0 (by decide) (by decide) D3.out.dc).mono ?_
  rintro e w4 ⟨A, n, c, A2, n2, c2, rfl, ha, ho, b4⟩
  obtain ⟨g1, g2, g3, g4, g5⟩ := own_nil_zero ho rfl
  have hn1 : n2 = 1 := by rw [← g1]; rfl
  subst hn1
  obtain ⟨gb, go, rfl, hgb, hc⟩ := cell_int g5 (k := 0) (by decide)
  have hc' : w4.cell? ⟨gb, go, none⟩ = some (.int .i64 2) := hc
  have B4 := Lib.hid (B3.out.trans (b4.mono B3.out.size))
  have HLEN := Lib.hid hlen
  have D4 := Lib.hid (D3.out.below b4)
  have htag : (withKids (insA 2 0) nodeR).tag = ⟨#[114, 111, 111, 116]⟩ := rfl
  rw [htag]
  clear g1 g4 g5 ho ha hc b4 hl3 hlen hnd0 htag
  have hls : (⟨#[114, 111, 111, 116]⟩ : ByteArray).toList = [114, 111, 111, 116] := listR
  have hR : x3.R = 9 := by have : x3.d.R = 9 := by rw [E3.out]
                           exact this
  have HR := Lib.hid hR
  have hf : ∀ W, Below w4.heap.size w4 W → Calls Try.prog 25 #[.pointer (some ⟨p, 0, none⟩)] W fun e w' => e = .returned (.int .i64 7) ∧ Below W.heap.size W w' := fun W hb => (free_any (m := 2) W HLEN.out (D4.out.dc.below hb)).mono fun e w' h => by rw [HR.out] at h; exact h
  have HFr := Lib.hid hf
  clear hR hf
  go_wp2_with fail
  refine (HFr.out _ ((Below.refl _ _).alloc (Nat.le_refl _) _)).mono ?_
  rintro e w5 ⟨rfl, b5⟩
  have B5 := Lib.hid ((B4.out.alloc B4.out.size (.cells #[.int .i64 (withKids (insA 2 0) nodeR).id, .int .i64 (withKids (insA 2 0) nodeR).par, .string ⟨#[114, 111, 111, 116]⟩, .string (withKids (insA 2 0) nodeR).txt, .string (withKids (insA 2 0) nodeR).key, .slice A n c, .slice (some ⟨gb, go, none⟩) 1 c2, .int .i64 (withKids (insA 2 0) nodeR).note] 52)).trans (b5.mono (by have := B4.out.size; simp; omega)))
  clear b5
  go_wp2_with fail
  go_ret
  exact ⟨rfl, B5.out⟩
end Go.Proofs.Ytopnadaedcpaaaa.P5
