/-
  For any room and any steps the law SessStill answers true: a step that failed, and one that asks, changed nothing; a copy of the document is its own.
  Conditions: none (the statement as it is given).
-/
import Derived.Test.YtimfajmknmlajaaGreatDoorRows
import Derived.WalkKit
import Derived.ProofKit
import Derived.OpenShut
import Derived.ShutString
import Derived.SevenTiedAt
import Derived.Test.YtimfajmknmlajaaGreatDoorM1
import Derived.Test.YtimfajmknmlajaaGreatDoorM6
import Derived.Test.YtimfajmknmlajaaGreatDoorM18
import Derived.Test.YtimfajmknmlajaaGreatDoorM22
import Derived.Test.YtimfajmknmlajaaGreatDoorM25
import Derived.Test.YtimfajmknmlajaaGreatDoorCards
import Derived.Test.YtimfajmknmlajaaGreatDoorTie
set_option maxRecDepth 100000
namespace Go.Proofs.YtimfajmknmlajaaGreatDoor.sessStill
open Go.ChangeShapes Go.WideShapes Go.ChangeAt Go.RowKit
open Go.ChangeMaps (open_string shut_string)
set_option linter.unusedVariables false
set_option linter.unusedSimpArgs false

theorem own : ownKnob Tryz.prog.godebug = none := by kernel_rfl

set_option maxRecDepth 100000 in
theorem lifted (os : Os) (started : os.Started) (H : Type) (enc : TypeId × Value → H) :
    ReturnsInHanded {} Tryz.checked os 4 .any (fun w args => (Rows.sessStillSpec.pre enc Tryz.prog Tryz.f4 [] false w args ∧ laidMetH Tryz.prog P21.tiedL w) ∧ sizedMet enc Tryz.prog Tryz.f4 (OpenSpec.ofChange Rows.sessStillSpec) false w args)
      (Rows.sessStillSpec.post enc Tryz.prog Tryz.f4 false true false false) := by
  refine P21.of_change_tied (C := Tryz.checked) (X := fun w => laidMetH Tryz.prog P21.tiedL w) (fun _ _ hh h => h.of_heap hh) own started (by kernel_rfl) Tryz.func4
    (ChangeSpec.witness_at (enc := enc) (C := Tryz.checked) (os := os) (X := fun w _ => laidMetH Tryz.prog P21.tiedL w) false (P21.tiedW os) #[.int .i64 0, .slice none 0 0] 8 rfl (by kernel_rfl) (by kernel_rfl) (by kernel_rfl) (by kernel_rfl) (by kernel_rfl) (P21.tiedW_met os _)) ?_
  intro W base args ds gs before hval0 hW hsh hL
  have EE := P21.errT_of hL
  have hval : ∀ (j : Nat) t v, Tryz.f4.params[j]? = some t → args[j]? = some v → Value.okWide Tryz.prog W .any base t v := hval0
  have hW' := hW
  obtain ⟨p, q, hA0, hV, rfl, hfz, hnd⟩ := hW
  have hA : DataW.TrodAll enc Tryz.prog W 0 (fun _ => true) true Tryz.f4.params.toList args.toList ds p := hA0
  rw [Tryz.params4] at hA hval
  obtain ⟨v0, vs0, d0, ds0, p0, q0, hargs, rfl, rfl, h0, r0⟩ := trodAll_cons hA
  obtain ⟨v1, vs1, d1, ds1, p1, q1, rfl, rfl, rfl, h1, r1⟩ := trodAll_cons r0
  obtain ⟨rfl, rfl, rfl⟩ := trodAll_nil r1
  obtain rfl : args = #[v0, v1] := by cases args; simp_all
  obtain ⟨rfl, rfl⟩ := trodVars_none hV
  have k1 := h1
  have l1 : ∀ x ∈ p1, x.block < W.heap.size := fun x hx => hW'.lt x (by simp [hx])
  obtain ⟨a0, rfl, rfl, rfl, w0⟩ := open_int Tryz.underlying3 (hval 0 3 v0 rfl rfl) h0
  obtain ⟨A1, n1, c1, m1, rfl, hn1, hc1, hm1, hz1, hk1, hh1⟩ := P21.my (hval 1 22 v1 rfl rfl) h1
  clear hA0 hval0
  simp only [List.append_nil, List.nil_append] at hW'
  refine (P21.py P21.qy a0 m1 A1 n1 c1 W (P21.ry EE hsh) hn1 hc1 hm1 hk1 hh1).mono fun e W' ⟨he, hg⟩ => ?_
  subst he
  exact ⟨_, rfl, Kd.ny hW' (trodAll_cons_mk (shut_bool Tryz.underlying4 _) trodAll_mk0)
    (by have ha := (trodAll_cons_mk (shut_int Tryz.underlying3 w0) (trodAll_cons_mk (Below.trod P11.laidOut (by kernel_rfl) (of_decide_eq_true (by kernel_rfl)) k1 hg l1) trodAll_mk0)); simp only [List.append_nil, List.nil_append] at ha; exact ha) rfl hg⟩

theorem over : Rows.sessStillRow.holds Tryz.pinned (OpenSpec.ofChange Rows.sessStillSpec) :=
  OpenClaim.holds_of_wide 4 Tryz.f4 rfl rfl rfl rfl rfl rfl rfl ⟨rfl, rfl, rfl, rfl, rfl⟩ rfl rfl rfl rfl rfl (by kernel_rfl) Tryz.func4 (by kernel_rfl)
    (of_decide_eq_true (by kernel_rfl)) (by unfold Func.isWrapper; first | (rw [if_pos (by decide +kernel)]; kernel_rfl) | (rw [if_neg (by decide +kernel)]; exact ⟨rfl, rfl⟩))
    (fun os started H enc _ => lifted os started H enc)

theorem proved : Rows.SessStillCardSaid :=
  Claim7.holds_tied_plain_at .later [] [.handle] true Rows.sessStillCard.stood.harness true
    over (fun _ h => by cases h) (by kernel_rfl) (fun _ h => by cases h) sessStill_row_tie rfl ⟨rfl, rfl⟩ (by kernel_rfl) rfl
    (fun f fn hf hfn => by
      obtain rfl : f = 4 := Option.some.inj ((show Tryz.prog.funcNamed "placket/placketlaw21.SessStill" = some 4 by kernel_rfl).symm.trans hf) |>.symm
      obtain rfl : fn = Tryz.f4 := (Option.some.inj (Tryz.func4.symm.trans hfn)).symm
      refine ⟨by kernel_rfl, fun j t ht => ?_⟩
      have hm : t ∈ Tryz.f4.params.toList := by
        obtain ⟨hj, e⟩ := Array.getElem?_eq_some_iff.1 ht
        exact e ▸ Array.getElem_mem_toList hj
      have all : ∀ t ∈ Tryz.f4.params.toList, Tryz.prog.wantsStandIn t = false := by
        rw [Tryz.params4]
        intro t ht
        simp only [List.mem_cons, List.not_mem_nil, or_false] at ht
        rcases ht with rfl | rfl <;> kernel_rfl
      exact all t hm)
    (by kernel_rfl)
#print axioms proved
end Go.Proofs.YtimfajmknmlajaaGreatDoor.sessStill
