/- Where what is wanted ends in a program, plain. No condition. -/
import Derived.Test.YtfjnbjpenibpkaaM17
set_option linter.unusedVariables false
set_option linter.unusedSimpArgs false
set_option linter.unusedVariables false
set_option linter.unusedSimpArgs false
namespace Go.Proofs.Ytfjnbjpenibpkaa.P14
open Go.RowKit Kd P4 P5 P11 P12 P13

/-- no attribute is told first -/
def HeadT (l : List In) : Prop := ∀ x, l.head? = some x → tellsO x.op = false
theorem backW_head {e : PW} (h : WfW e) : ∃ x r, backW e = x :: r ∧ tellsO x.op = false := by
  cases h with
  | el hm ha hk => exact ⟨_, _, back_open (may_open hm), rfl⟩
  | vo hm ha => exact ⟨_, _, back_void (may_void hm), rfl⟩
  | tx hm => exact ⟨_, _, by rw [backW, if_neg (by decide), if_pos rfl], rfl⟩
  | nd => exact ⟨_, _, by rw [backW, if_neg (by decide), if_neg (by decide), if_pos rfl], rfl⟩
  | al => exact ⟨_, _, by rw [backW, if_neg (by decide), if_neg (by decide), if_neg (by decide), if_pos rfl], rfl⟩
theorem backW_pos {e : PW} (h : WfW e) : 1 ≤ (backW e).length := by
  obtain ⟨x, r, h1, _⟩ := backW_head h
  rw [h1]
  simp
theorem backL_head {l : List PW} {r : List In} (h : ∀ t ∈ l, WfW t) (hr : HeadT r) : HeadT (backL l ++ r) := by
  cases l with
  | nil => rw [backL, List.nil_append]; exact hr
  | cons a l =>
    obtain ⟨x, q, h1, h2⟩ := backW_head (h a (by simp))
    intro y hy
    rw [backL, h1] at hy
    simp only [List.cons_append, List.head?_cons, Option.some.injEq] at hy
    rw [← hy]
    exact h2
theorem HeadT.nil : HeadT [] := fun x h => by cases h
theorem HeadT.cons {x : In} {r : List In} (h : tellsO x.op = false) : HeadT (x :: r) := fun y hy => by
  simp only [List.head?_cons, Option.some.injEq] at hy
  rw [← hy]
  exact h
def ds : List In → Int
  | [] => 0
  | x :: l => deltaO x.op + ds l
theorem ds_append : ∀ l m : List In, ds (l ++ m) = ds l + ds m
  | [], m => by simp [ds]
  | a :: l, m => by simp [ds, ds_append l m]; omega
theorem ds_ats : ∀ (l : List P3.At) (i : Nat), ds ((l.map atI).take i) = 0
  | [], i => by simp [ds]
  | a :: l, 0 => by simp [ds]
  | a :: l, i + 1 => by
    rw [List.map_cons, List.take_succ_cons, ds, ds_ats l i]
    cases h : a.st <;> simp [atI, h, deltaO]
theorem ds_ats_all (l : List P3.At) : ds (l.map atI) = 0 := by
  have := ds_ats l (l.map atI).length
  rwa [List.take_length] at this
structure Lvl (l : List In) : Prop where
  all : ds l = 0
  pre : ∀ i, 0 ≤ ds (l.take i)
theorem Lvl.append {l m : List In} (h : Lvl l) (k : Lvl m) : Lvl (l ++ m) :=
  ⟨by rw [ds_append, h.all, k.all]; rfl, fun i => by
    rw [List.take_append, ds_append]
    have := h.pre i
    have := k.pre (i - l.length)
    omega⟩
theorem lvl_list {l : List PW} (h : ∀ t ∈ l, Lvl (backW t)) : Lvl (backL l) := by
  induction l with
  | nil => exact ⟨rfl, fun i => by simp [backL, ds]⟩
  | cons a l ih => exact (h a (by simp)).append (ih (fun t ht => h t (by simp [ht])))
theorem ds_take1 (x : In) (l : List In) (i : Nat) : ds ((x :: l).take (i + 1)) = deltaO x.op + ds (l.take i) := by rw [List.take_succ_cons, ds]
theorem ds_small {l : List In} (h : ∀ x ∈ l, deltaO x.op = 0) : ∀ i, ds (l.take i) = 0 := by
  induction l with
  | nil => intro i; simp [ds]
  | cons a l ih =>
    intro i
    cases i with
    | zero => simp [ds]
    | succ i => rw [ds_take1, h a (by simp), ih (fun x hx => h x (by simp [hx])) i]; rfl
theorem lvl_flat {l : List In} (h : ∀ x ∈ l, deltaO x.op = 0) : Lvl l :=
  ⟨by have := ds_small h l.length; rwa [List.take_length] at this, fun i => by rw [ds_small h i]; omega⟩
/-- the front of what an Open begins is open -/
theorem open_front {tag key : ByteArray} {attrs : List P3.At} {kids : List PW} (hk : Lvl (backL kids)) {i : Nat} (h1 : 1 ≤ i) (h2 : i < (backW (.mk 1 tag key z0 attrs kids)).length) (hv : P1.voidB tag.data.toList = false) : 1 ≤ ds ((backW (.mk 1 tag key z0 attrs kids)).take i) := by
  rw [back_open hv] at h2 ⊢
  obtain ⟨j, rfl⟩ : ∃ j, i = j + 1 := ⟨i - 1, by omega⟩
  simp only [List.length_cons, List.length_append, List.length_map, List.length_nil] at h2
  rw [ds_take1, List.take_append, ds_append, ds_ats, List.take_append, ds_append]
  have h3 := hk.pre (j - (attrs.map atI).length)
  have : (List.take (j - (List.map atI attrs).length - (backL kids).length) [(⟨2, z0, z0⟩ : In)]) = [] := by
    rw [List.length_map]
    have : j - attrs.length - (backL kids).length = 0 := by omega
    rw [this]
    rfl
  rw [this]
  simp only [deltaO, ds, if_true]
  omega
theorem lvl_wf (e : PW) (h : WfW e) : Lvl (backW e) := by
  induction e using PW.ind with
  | h kind tag key txt attrs kids ih =>
    cases h with
    | el hm ha hk =>
      have hv := may_open hm
      have hL := lvl_list (fun t ht => ih t ht (hk t ht))
      refine ⟨?_, fun i => ?_⟩
      · rw [back_open hv, ds, ds_append, ds_append, ds_ats_all, hL.all]
        rfl
      · rcases Nat.lt_or_ge i (backW (.mk 1 tag key z0 attrs kids)).length with h2 | h2
        · rcases Nat.eq_zero_or_pos i with h0 | h0
          · rw [h0]; simp [ds]
          · have := open_front hL h0 h2 hv; omega
        · rw [List.take_of_length_le h2, back_open hv, ds, ds_append, ds_append, ds_ats_all, hL.all]
          simp [deltaO, ds]
    | vo hm ha =>
      rw [back_void (may_void hm)]
      exact lvl_flat (fun x hx => by
        rcases List.mem_cons.1 hx with rfl | hx
        · rfl
        · obtain ⟨a, _, rfl⟩ := List.mem_map.1 hx
          cases hst : a.st <;> simp [atI, hst, deltaO])
    | tx hm => rw [backW, if_neg (by decide), if_pos rfl]; exact lvl_flat (fun x hx => by rw [List.mem_singleton.1 hx]; rfl)
    | nd => rw [backW, if_neg (by decide), if_neg (by decide), if_pos rfl]; exact lvl_flat (fun x hx => by rw [List.mem_singleton.1 hx]; rfl)
    | al => rw [backW, if_neg (by decide), if_neg (by decide), if_neg (by decide), if_pos rfl]; exact lvl_flat (fun x hx => by rw [List.mem_singleton.1 hx]; rfl)
/-- what an Open begins ends at its Close, and not ahead of it -/
theorem open_ends {tag key : ByteArray} {attrs : List P3.At} {kids : List PW} (hm : mayI ⟨1, tag, key⟩ = true) (hk : ∀ k ∈ kids, WfW k) : ds (backW (.mk 1 tag key z0 attrs kids)) = 0 ∧ ∀ i, 1 ≤ i → i < (backW (.mk 1 tag key z0 attrs kids)).length → 1 ≤ ds ((backW (.mk 1 tag key z0 attrs kids)).take i) := by
  have hL := lvl_list (fun t ht => lvl_wf t (hk t ht))
  have hv := may_open hm
  exact ⟨by rw [back_open hv, ds, ds_append, ds_append, ds_ats_all, hL.all]; rfl, fun i h1 h2 => open_front hL h1 h2 hv⟩
theorem ds_bound : ∀ l : List In, -(l.length : Int) ≤ ds l ∧ ds l ≤ l.length
  | [] => by simp [ds]
  | x :: l => by
    have := ds_bound l
    rw [ds, List.length_cons, deltaO]
    split
    · omega
    · split <;> omega
/-- how many nodes a program makes -/
def makesN (op : Int) : Bool := decide (op = 1 ∨ op = 3 ∨ op = 4)
theorem countP_ats (l : List P3.At) : (l.map atI).countP (fun x => makesN x.op) = 0 := by
  rw [List.countP_eq_zero]
  intro x hx
  obtain ⟨a, _, rfl⟩ := List.mem_map.1 hx
  cases hst : a.st <;> simp [atI, hst, makesN]
theorem count_list {l : List PW} (h : ∀ t ∈ l, (backW t).countP (fun x => makesN x.op) = cntW t) : (backL l).countP (fun x => makesN x.op) = cntL l := by
  induction l with
  | nil => rfl
  | cons a l ih => rw [backL, List.countP_append, h a (by simp), ih (fun t ht => h t (by simp [ht])), cntL]
theorem count_wf (e : PW) (h : WfW e) : (backW e).countP (fun x => makesN x.op) = cntW e := by
  induction e using PW.ind with
  | h kind tag key txt attrs kids ih =>
    cases h with
    | el hm ha hk =>
      rw [back_open (may_open hm), List.countP_cons, List.countP_append, List.countP_append, countP_ats, count_list (fun t ht => ih t ht (hk t ht)), cntW]
      simp [makesN]
      omega
    | vo hm ha =>
      rw [back_void (may_void hm), List.countP_cons, countP_ats, cntW]
      simp [makesN, cntL]
    | tx hm => rw [backW, if_neg (by decide), if_pos rfl, cntW]; rfl
    | nd => rw [backW, if_neg (by decide), if_neg (by decide), if_pos rfl, cntW]; rfl
    | al => rw [backW, if_neg (by decide), if_neg (by decide), if_neg (by decide), if_pos rfl, cntW]; rfl
theorem count_back {l : List PW} (h : ∀ t ∈ l, WfW t) : (backL l).countP (fun x => makesN x.op) = cntL l := count_list (fun t ht => count_wf t (h t ht))
/-- it weighs no more than it is told in -/
theorem wt_list {l : List PW} (h : ∀ t ∈ l, wtW t ≤ (backW t).length) : wtL l ≤ (backL l).length := by
  induction l with
  | nil => simp [wtL]
  | cons a l ih =>
    have h1 := h a (by simp)
    have h2 := ih (fun t ht => h t (by simp [ht]))
    rw [backL, List.length_append, wtL]
    omega
theorem wt_wf (e : PW) (h : WfW e) : wtW e ≤ (backW e).length := by
  induction e using PW.ind with
  | h kind tag key txt attrs kids ih =>
    cases h with
    | el hm ha hk =>
      have := wt_list (fun t ht => ih t ht (hk t ht))
      rw [back_open (may_open hm), wtW]
      simp only [List.length_cons, List.length_append, List.length_map, List.length_nil]
      omega
    | vo hm ha => rw [back_void (may_void hm), wtW]; simp [wtL]; omega
    | tx hm => rw [backW, if_neg (by decide), if_pos rfl, wtW]; simp [wtL]
    | nd => rw [backW, if_neg (by decide), if_neg (by decide), if_pos rfl, wtW]; simp [wtL]
    | al => rw [backW, if_neg (by decide), if_neg (by decide), if_neg (by decide), if_pos rfl, wtW]; simp [wtL]
theorem wt_back {l : List PW} (h : ∀ t ∈ l, WfW t) : wtL l ≤ (backL l).length := wt_list (fun t ht => wt_wf t (h t ht))
end Go.Proofs.Ytfjnbjpenibpkaa.P14
