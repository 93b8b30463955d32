/- The reference's put: all that it refuses. -/
import Derived.Test.YtaodfilkmdeebaaM29
set_option linter.unusedVariables false
set_option linter.unusedSimpArgs false
namespace Go.Proofs.Ytaodfilkmdeebaa.P5
open Go.RowKit Kd P4
variable {B q : Nat} {y : Rx}
theorem rput_no (r : Rc) (A : Option Addr) (n c : Nat) (w : World) (ha : Asc y.l) (hl : y.rs.length ≤ 1000) (h0 : putErr y.l r.id r.par r.bef ≠ 0) (h : Rf w B q y) : Calls Try.prog 47 #[.pointer (some ⟨q, 0, none⟩), .agg #[.int .i64 r.op, .int .i64 r.id, .int .i64 r.par, .int .i64 r.bef, .string r.tag, .string r.txt, .string r.key, .slice A n c]] w (RMade w B q y (putErr y.l r.id r.par r.bef) y.d) := by
  cases hi : hasL y.l r.id with
  | false =>
    have he : putErr y.l r.id r.par r.bef = 2 := by unfold putErr; rw [if_pos (.inl hi)]
    rw [he]; exact rput_2a r A n c w ha hl hi h
  | true =>
  cases hp : hasL y.l r.par with
  | false =>
    have he : putErr y.l r.id r.par r.bef = 2 := by unfold putErr; rw [if_pos (.inr (.inl hp))]
    rw [he]; exact rput_2b r A n c w ha hl hi hp h
  | true =>
  by_cases hbb : r.bef ≠ 0 ∧ hasL y.l r.bef = false
  · have he : putErr y.l r.id r.par r.bef = 2 := by unfold putErr; rw [if_pos (.inr (.inr hbb))]
    rw [he]; exact rput_2c r A n c w ha hl hi hp (by simpa using hbb.1) hbb.2 h
  have c1 : ¬ (hasL y.l r.id = false ∨ hasL y.l r.par = false ∨ r.bef ≠ 0 ∧ hasL y.l r.bef = false) := by rw [hi, hp]; simpa using hbb
  have hb0 : r.bef = 0 ∨ r.bef ≠ 0 ∧ hasL y.l r.bef = true := by
    by_cases e : r.bef = 0
    · exact .inl e
    · exact .inr ⟨e, by simpa [e] using hbb⟩
  by_cases h1 : r.id = 1
  · have he : putErr y.l r.id r.par r.bef = 4 := by unfold putErr; rw [if_neg c1, if_pos h1]
    rw [he]
    rcases hb0 with e | ⟨e, hb⟩
    · exact rput_40 r A n c w ha hl hi hp (by simpa using e) (by simpa using h1) h
    · exact rput_41 r A n c w ha hl hi hp (by simpa using e) hb (by simpa using h1) h
  have hi1 : (r.id == 1) = false := by simpa using h1
  cases hnk : noKids (tagOf y.l r.par) with
  | true =>
    have he : putErr y.l r.id r.par r.bef = 3 := by unfold putErr; rw [if_neg c1, if_neg h1, if_pos hnk]
    rw [he]
    rcases hb0 with e | ⟨e, hb⟩
    · exact rput_30 r A n c w ha hl hi hp (by simpa using e) hi1 hnk h
    · exact rput_31 r A n c w ha hl hi hp (by simpa using e) hb hi1 hnk h
  | false =>
  have c3 : ¬ noKids (tagOf y.l r.par) = true := by rw [hnk]; simp
  by_cases h4 : r.bef ≠ 0 ∧ (parOf y.l r.bef ≠ r.par ∨ r.bef = r.id)
  · have he : putErr y.l r.id r.par r.bef = 1 := by unfold putErr; rw [if_neg c1, if_neg h1, if_neg c3, if_pos h4]
    rw [he]
    obtain ⟨e, hb⟩ := hb0.resolve_left h4.1
    by_cases hpp : parOf y.l r.bef = r.par
    · exact rput_1b r A n c w ha hl hi hp (by simpa using e) hb hi1 hnk (by simpa using hpp) (by simpa using h4.2.resolve_left (fun k => k hpp)) h
    · exact rput_1a r A n c w ha hl hi hp (by simpa using e) hb hi1 hnk (by simpa using hpp) h
  cases hin : inside y.l r.par r.id with
  | true =>
    have he : putErr y.l r.id r.par r.bef = 5 := by unfold putErr; rw [if_neg c1, if_neg h1, if_neg c3, if_neg h4, if_pos hin]
    rw [he]
    rcases hb0 with e | ⟨e, hb⟩
    · exact rput_50 r A n c w ha hl hi hp (by simpa using e) hi1 hnk hin h
    · simp only [not_and, not_or] at h4
      exact rput_51 r A n c w ha hl hi hp (by simpa using e) hb hi1 hnk (by simpa using (h4 e).1) (by simpa using (h4 e).2) hin h
  | false => exact absurd (by unfold putErr; rw [if_neg c1, if_neg h1, if_neg c3, if_neg h4, if_neg (by rw [hin]; simp)]) h0
end Go.Proofs.Ytaodfilkmdeebaa.P5

/- The reference's put: what its done way stands on. -/
namespace Go.Proofs.Ytaodfilkmdeebaa.P5
open Go.RowKit Kd P4
variable {B q : Nat} {y : Rx}
section
variable {w w' w2 : World} {y' y2 : Rx}
theorem Rdid.outcells (h : Rdid w B q y y' w') {g : Nat} (hge : w.heap.size ≤ g) (hf : ¬ rfoot q y' g) (hA : NoA w' (fun k => k = g)) (j : Nat) (vs : List Value) : Rdid w B q y y' (w'.setCells g j vs).drew := by
  have b := (But.setCells (S := fun i => i = g) (a := w') (g := g) (But.refl _ _) (fun _ => rfl) j vs).drew
  exact ⟨h.rf.but b (fun k hk e => hf (e ▸ hk)) hA, h.but.trans b (fun i hi e => by omega), h.ft⟩
theorem Rdid.then_set {r : Rn} (h : Rdid w B q y y' w') (k : Rset w' B q y' y2 r w2) (hg : ∀ g, r.vk.val.ownBlock = some g → rfoot q y' g ∨ w.heap.size ≤ g) : Rdid w B q y y2 w2 := by
  have hs := h.but.size
  refine ⟨k.rf, h.but.trans k.but (fun _ _ h => h), fun i hi => ?_⟩
  rcases k.ft i hi with e | e | e
  · exact h.ft i e
  · rcases hg i e with e | e
    · exact h.ft i e
    · exact .inr e
  · exact .inr (by omega)
theorem RcB.by_ {g : Nat} {r : Rc} {A : Option Addr} {n c : Nat} {S : Nat → Prop} (h : RcB w g r A n c) (hb : But S w w') (hS : ¬ S g) : RcB w' g r A n c := (hb.block g h.lt hS).trans h
theorem NdB.by_ {g : Nat} {nd : Nd} {A : Option Addr} {n c : Nat} {A2 : Option Addr} {n2 k2 : Nat} {S : Nat → Prop} (h : NdB w g nd A n c A2 n2 k2) (hb : But S w w') (hS : ¬ S g) : NdB w' g nd A n c A2 n2 k2 := (hb.block g h.lt hS).trans h
/-- the list's block is its own -/
theorem Rf.vblock (h : Rf w B q y) {b o n c : Nat} (hv : y.v = .slice (some ⟨b, o, none⟩) n c) : rfoot q y b := by
  rcases h.own.form with ⟨e, _⟩ | ⟨g, c', cur, e, e2, _⟩
  · rw [hv] at e; cases e
  · rw [hv] at e
    injection e with e1
    injection e1 with e1
    injection e1 with e1
    subst e1
    exact .inr (.inl e2)
end
def insF (i b : Int) (l : List Int) : List Int := l.flatMap fun c => if c = b then [i, c] else [c]
theorem insF_take {i b : Int} {l : List Int} {j : Nat} (hj : j < l.length) : insF i b (l.take (j + 1)) = insF i b (l.take j) ++ if l[j] = b then [i, l[j]] else [l[j]] := by
  unfold insF
  rw [List.take_succ_eq_append_getElem hj, List.flatMap_append]
  simp
theorem insF_len (i b : Int) (l : List Int) : (insF i b l).length ≤ 2 * l.length := by
  unfold insF
  induction l with
  | nil => simp
  | cons a l ih =>
    rw [List.flatMap_cons, List.length_append, List.length_cons]
    have e : ∀ x : List Int, (x = [i, a] ∨ x = [a]) → x.length ≤ 2 := fun x hx => by rcases hx with rfl | rfl <;> simp
    have := e (if a = b then [i, a] else [a]) (by split <;> simp)
    omega
theorem insF_none {i b : Int} {l : List Int} (h : b ∉ l) : insF i b l = l := by
  unfold insF
  induction l with
  | nil => rfl
  | cons a l ih =>
    rw [List.mem_cons, not_or] at h
    rw [List.flatMap_cons, if_neg (Ne.symm h.1), ih h.2]
    rfl
theorem insF_some {i b : Int} {l : List Int} (h : b ≠ 0) : insF i b l = insA i b l := by unfold insA; rw [if_neg h]; rfl
theorem insF_end {i : Int} {l : List Int} (h : (0 : Int) ∉ l) : insF i 0 l ++ [i] = insA i 0 l := by rw [insF_none h]; unfold insA; rw [if_pos rfl]
theorem leave_kids_len {d : D} (h : WF d) (i p : Int) : (kidsOf (leaveL d.l i) p).length ≤ 1000 ∧ (0 : Int) ∉ kidsOf (leaveL d.l i) p := by
  have ht := leave_tr (i := i) h.tr
  refine ⟨?_, fun h0 => ?_⟩
  · have h1 := nodup_len (kidsOf (leaveL d.l i) p) (idsOf (leaveL d.l i)) (ht.nod p) (fun c hc => has_ids.1 (ht.kid p c hc).2.1)
    rw [leave_ids] at h1
    have := h.len200
    simp only [idsOf, List.length_map] at h1
    omega
  · have h1 := (ht.kid p 0 h0).2.1
    rw [leave_has, h.no0] at h1
    cases h1
end Go.Proofs.Ytaodfilkmdeebaa.P5
