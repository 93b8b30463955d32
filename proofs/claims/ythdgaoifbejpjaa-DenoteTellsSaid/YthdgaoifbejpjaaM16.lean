/- Attributes in a slice of the call's own; append. No condition. -/
import Derived.Test.YthdgaoifbejpjaaM2
set_option linter.unusedVariables false
set_option linter.unusedSimpArgs false
set_option linter.unusedVariables false
set_option linter.unusedSimpArgs false
namespace Go.Proofs.Ythdgaoifbejpjaa.P3
open Go.RowKit

/-! ### A slice of the call's own -/
theorem infoA : (Try.prog.info? 85).map (fun i => (i.zero, i.size, i.bytes)) = some (some (.agg #[.string ⟨#[]⟩, .string ⟨#[]⟩, .bool false]), 3, 40) := by kernel_rfl
def cellsA (l : List At) : List Value := l.flatMap fun a => [.string a.nm, .string a.vl, .bool a.st]
theorem cellsA_len (l : List At) : (cellsA l).length = l.length * 3 := by
  induction l with
  | nil => rfl
  | cons a l ih => simp only [cellsA, List.flatMap_cons, List.length_append, List.length_cons, List.length_nil] at ih ⊢; omega
theorem cellsA_append (l m : List At) : cellsA (l ++ m) = cellsA l ++ cellsA m := by simp [cellsA]
theorem cellsA_take (l : List At) (k : Nat) : cellsA (l.take k) = (cellsA l).take (k * 3) := by
  induction l generalizing k with
  | nil => simp [cellsA]
  | cons a l ih =>
    cases k with
    | zero => simp [cellsA]
    | succ k =>
      have := ih k
      rw [show (k + 1) * 3 = k * 3 + 3 by omega]
      simp only [List.take_succ_cons, cellsA, List.flatMap_cons] at this ⊢
      rw [this]
      simp
theorem cellsA_at (l : List At) (k : Nat) (h : k < l.length) : (cellsA l)[k * 3]? = some (.string l[k].nm) ∧ (cellsA l)[k * 3 + 1]? = some (.string l[k].vl) ∧ (cellsA l)[k * 3 + 2]? = some (.bool l[k].st) := by
  induction l generalizing k with
  | nil => simp at h
  | cons a l ih =>
    cases k with
    | zero => simp [cellsA]
    | succ k =>
      have := ih k (by simpa using h)
      rw [show (k + 1) * 3 = k * 3 + 3 by omega]
      simp only [cellsA, List.flatMap_cons, List.cons_append, List.nil_append, List.getElem_cons_succ] at this ⊢
      simpa using this
theorem cellsA_one (l : List At) : ∀ u ∈ cellsA l, u.oneCell' = true := by
  intro u hu
  simp only [cellsA, List.mem_flatMap] at hu
  obtain ⟨a, _, ha⟩ := hu
  simp only [List.mem_cons, List.not_mem_nil, or_false] at ha
  rcases ha with rfl | rfl | rfl <;> rfl

def Own (w : World) (base : Nat) (v : Value) (l : List At) : Prop := w.ownsRow base 85 3 v l.length (cellsA l)
section
variable {w w' : World} {base : Nat} {v : Value} {l : List At}
theorem Own.nil (w : World) (base : Nat) : Own w base (.slice none 0 0) [] := World.ownsRow_nil w base 85 3
theorem Own.kept {row : Option Nat} (h : Own w base v l) (hg : w.grownBy w' row) (hne : v.ownBlock = none ∨ v.ownBlock ≠ row) : Own w' base v l := World.ownsRow.kept h hg hne
theorem Own.alloc (h : Own w base v l) (o : Obj) : Own (w.alloc o) base v l := World.ownsRow.alloc h o
theorem Own.drewN (h : Own w base v l) (n : Nat) : Own (w.drewN n) base v l := h
theorem Own.below {B : Nat} (h : Own w base v l) (hb : Below B w w') (hB : w.heap.size ≤ B) : Own w' base v l := by
  obtain ⟨h1, h2⟩ := h
  refine ⟨h1, ?_⟩
  rcases h2 with h2 | ⟨g, cap, cur, hv, hg, hh, r⟩
  · exact .inl h2
  · have hlt : g < w.heap.size := by
      rcases Nat.lt_or_ge g w.heap.size with hlt | hge
      · exact hlt
      · rw [Array.getElem?_eq_none hge] at hh; cases hh
    exact .inr ⟨g, cap, cur, hv, hg, (hb.block g (by omega)).trans hh, r⟩
theorem Own.base_le {base' : Nat} (h : Own w base v l) (hb : base' ≤ base) : Own w base' v l := by
  obtain ⟨h1, h2⟩ := h
  refine ⟨h1, ?_⟩
  rcases h2 with h2 | ⟨g, cap, cur, hv, hg, r⟩
  · exact .inl h2
  · exact .inr ⟨g, cap, cur, hv, by omega, r⟩
/-- a slice of one's own, as a slice that is read -/
theorem Own.slice (h : Own w base v l) : ∃ A n c, v = .slice A n c ∧ l.length = n ∧ n ≤ c ∧ c ≤ maxLen ∧ (A = Option.none → c = 0) ∧ (∀ b o, A = some ⟨b, o, Option.none⟩ → base ≤ b ∧ b < w.heap.size) ∧ Holds w w.heap.size A l := by
  obtain ⟨h1, h2⟩ := h
  rcases h2 with ⟨rfl, hn⟩ | ⟨g, cap, cur, rfl, hg, hh, hnc, hcm, hcs, ht⟩
  · refine ⟨Option.none, 0, 0, rfl, hn, by omega, by unfold maxLen; omega, fun _ => rfl, fun _ _ e => (by cases e), fun k hk => absurd hk (by omega)⟩
  · have hlt : g < w.heap.size := by
      rcases Nat.lt_or_ge g w.heap.size with hlt | hge
      · exact hlt
      · rw [Array.getElem?_eq_none hge] at hh; cases hh
    refine ⟨_, l.length, cap, rfl, rfl, hnc, hcm, fun e => (by cases e), fun b o e => (by injection e with e; injection e with e1; subst e1; exact ⟨hg, hlt⟩), fun k hk => ⟨g, 0, rfl, hlt, ?_⟩⟩
    · have key : ∀ (j : Nat) (u : Value), (cellsA l)[j]? = some u → w.cell? ⟨g, j, none⟩ = some u := by
        intro j u hj
        rw [cell_of_row w g j _ _ _ hh, ← Array.getElem?_toList]
        rw [← ht, List.getElem?_take] at hj
        split at hj
        · exact hj
        · cases hj
      obtain ⟨k0, k1, k2⟩ := cellsA_at l k hk
      rw [Nat.zero_add]
      exact ⟨key _ _ k0, key _ _ k1, key _ _ k2⟩
/-- cut at k -/
theorem Own.cut {A : Option Addr} {n c k : Nat} (h : Own w base (.slice A n c) l) (hk : k ≤ l.length) : Own w base (.slice A k c) (l.take k) := by
  obtain ⟨h1, h2⟩ := h
  have hl : (l.take k).length = k := by rw [List.length_take]; omega
  refine ⟨cellsA_len _, ?_⟩
  rw [hl]
  rcases h2 with ⟨hv, hn⟩ | ⟨g, cap, cur, hv, hg, hh, hnc, hcm, hcs, ht⟩
  · simp only [Value.slice.injEq] at hv
    obtain ⟨rfl, rfl, rfl⟩ := hv
    have : k = 0 := by omega
    subst this
    exact .inl ⟨rfl, rfl⟩
  · simp only [Value.slice.injEq] at hv
    obtain ⟨rfl, rfl, rfl⟩ := hv
    refine .inr ⟨g, c, cur, rfl, hg, hh, by omega, hcm, hcs, ?_⟩
    rw [cellsA_take, ← ht, List.take_take]
    congr 1
    have := Nat.mul_le_mul_right 3 hk
    omega
end
set_option maxRecDepth 100000 in
/-- append onto a slice of one's own, whatever is appended: nil, or not -/
theorem wp_app {ops : Array Oper} {rest : List Oper} {o : Oper} {a : Act} {Q : Exit → Act → World → Prop} (hgd : o.guard = none) (s x : Operand)
    (ho : o.op = .call { callee := .builtin .append, args := #[s, x], argTypes := #[35, 35] })
    {w : World} {base B n c : Nat} {v : Value} {l m : List At} {A : Option Addr} (hs : a.eval s = v) (hown : Own w base v l) (hx : a.eval x = .slice A n c) (hn : m.length = n) (hc : A = none → c = 0) (hm : Holds w B A m)
    (hl : l.length + n ≤ 10000000) (hbase : base ≤ w.heap.size)
    (h : ∀ v' w', Own w' base v' (l ++ m) → w.grownBy w' v.ownBlock → (v'.ownBlock = v.ownBlock ∨ v'.ownBlock = some w.heap.size) → wpList Try.prog ops Q rest (a.put o.dst v') w') : wpList Try.prog ops Q (o :: rest) a w := by
  obtain ⟨i0, hi, hz0, hz1, hz2⟩ := info_parts infoA
  cases A with
  | none =>
    have hm0 : m = [] := by
      cases m with
      | nil => rfl
      | cons b r => obtain ⟨b, o, hA, _⟩ := hm 0 (by simp); cases hA
    subst hm0
    subst hn
    rw [hc rfl] at hx
    refine wpList_append_own_none hgd s x 35 ho base 85 i0 3 Try.underlying35 hi v _ _ hs hown hx ?_
    exact h v w (by simpa using hown) (World.grownBy.refl _ _) (.inl rfl)
  | some ad =>
    subst hn
    refine wpList_append_own_at w hgd s x 35 ho base 85 i0 _ 3 40 Try.underlying35 hi hz0 hz1 hz2 rfl (by decide) v _ _ hs hown ad m.length c (cellsA m) hx (cellsA_len m) ?_ (cellsA_one m) (by unfold maxLen; omega) (by omega) hbase ?_
    · intro j u hj
      have hj3 : j < m.length * 3 := by
        rw [← cellsA_len]
        exact (List.getElem?_eq_some_iff.1 hj).1
      obtain ⟨b, o, hA, hlt, h0, h1, h2⟩ := hm (j / 3) (by omega)
      obtain ⟨k0, k1, k2⟩ := cellsA_at m (j / 3) (by omega)
      injection hA with hA
      subst hA
      have hadd : (⟨b, o, Option.none⟩ : Addr).add j = ⟨b, o + j, Option.none⟩ := by
        unfold Addr.add
        split
        · rename_i e; subst e; rfl
        · rfl
      rw [hadd]
      have h3 : j = j / 3 * 3 ∨ j = j / 3 * 3 + 1 ∨ j = j / 3 * 3 + 2 := by omega
      rcases h3 with e | e | e
      · rw [← e] at k0 h0; rw [h0, ← k0, hj]
      · rw [← e] at k1; rw [show o + j = o + j / 3 * 3 + 1 by omega, h1, ← k1, hj]
      · rw [← e] at k2; rw [show o + j = o + j / 3 * 3 + 2 by omega, h2, ← k2, hj]
    · intro v' w' hown' hg _ hat
      refine h v' w' ?_ hg hat
      unfold Own
      rw [List.length_append, cellsA_append]
      exact hown'
/-- a post: a slice of one's own that holds l; what was there before is as it was -/
def GivesA (w : World) (l : List At) (e : Ending) (w' : World) : Prop := ∃ v, e = .returned v ∧ Own w' w.heap.size v l ∧ Below w.heap.size w w'
end Go.Proofs.Ythdgaoifbejpjaa.P3

/- What attr.those, attr.New and attr.Join answer, for every list that isn't too long. -/
set_option linter.unusedVariables false
set_option linter.unusedSimpArgs false
namespace Go.Proofs.Ythdgaoifbejpjaa.P3
open Go.RowKit

set_option maxHeartbeats 400000 in
theorem those_any (l : List At) (A : Option Addr) (n c : Nat) (s : Bool) (w : World) (hn : l.length = n) (hl : n ≤ 1000000) (H : Holds w w.heap.size A l) :
    Calls Try.prog 56 #[.slice A n c, .bool s] w (GivesA w (thoseA l s)) := by
  have HH := Lib.hid H
  have HN0 := Lib.hid hn
  clear H hn
  go_enter Try.func56, Try.ntmps56
  go_wp2_with fail
  go_loopw [5, 10] (fun v i wr => ∃ k : Nat, k ≤ n ∧ i = .int .i64 k ∧ Hid (Below w.heap.size w wr) ∧ Hid (Own wr w.heap.size v (thoseA (l.take k) s))) (fun _ i _ => n - (intOf i).toNat)
  case atStart => exact ⟨0, by omega, rfl, Lib.hid (Below.refl _ _), Lib.hid (Own.nil _ _)⟩
  case round =>
    obtain ⟨k, hk, rfl, HW, HO⟩ := hrel
    have hz : w.heap.size ≤ wr.heap.size := HW.out.size
    by_cases hlt : k < n
    · have hlt' : k < l.length := by have := HN0.out; omega
      obtain ⟨b, o, rfl, hb, h0, h1, h2⟩ := (HH.out.below HW.out (Nat.le_refl _)) k hlt'
      cases hs : (l[k].st == s)
      · have HS := Lib.hid hs
        go_wp2_with fail
        go_roundw
        case rel => exact ⟨k + 1, by omega, by go_num, Lib.hid (HW.out.alloc (by omega) _), Lib.hid (by rw [thoseA_no hlt' HS.out]; exact HO.out.alloc _)⟩
        case measure => simp [intOf]; omega
      · have HS := Lib.hid hs
        have hle := thoseA_take_len l s k
        have hln : l.length ≤ 1000000 := by have := HN0.out; omega
        go_wp2_with (at_builtin; refine wp_app rfl _ _ rfl (v := u5) (l := thoseA (l.take k) s) (m := [l[k]]) (base := w.heap.size) rfl ((HO.out.alloc _).alloc _) rfl rfl (fun e => by cases e) (Holds.one (Blk.new2 _ _ _)) (by simp; omega) (by simp; omega) ?_; intro v' w1 hown' hgrow _)
        go_roundw
        case rel => exact ⟨k + 1, by omega, by go_num, Lib.hid (((HW.out.alloc (by omega) _).alloc (by simp; omega) _).grown hgrow (by simp; omega) (fun j hj => (World.ownsRow.lt HO.out j hj).1)), Lib.hid (by rw [thoseA_yes hlt' HS.out]; exact hown')⟩
        case measure => simp [intOf]; omega
    · obtain rfl : k = n := by omega
      go_wp2_with fail
      go_ret
      exact ⟨_, rfl, by rw [thoseA_all HN0.out] at HO; exact HO.out, HW.out⟩
set_option maxHeartbeats 400000 in
theorem new_any (l : List At) (A : Option Addr) (n c : Nat) (w : World) (hn : l.length = n) (hl : n ≤ 1000000) (H : Holds w w.heap.size A l) :
    Calls Try.prog 38 #[.slice A n c] w (GivesA w (newA l)) := by
  have HH := Lib.hid H
  have HN0 := Lib.hid hn
  clear H hn
  go_enter Try.func38, Try.ntmps38
  go_wp2_with fail
  refine (those_any l A n c true _ HN0.out hl HH.out).mono ?_
  rintro e w1 ⟨v1, rfl, o1, b1⟩
  have O1 := Lib.hid o1
  have B1 := Lib.hid b1
  clear o1 b1
  go_wp2_with fail
  refine (those_any l A n c false _ HN0.out hl (HH.out.on B1.out)).mono ?_
  rintro e w2 ⟨v2, rfl, o2, b2⟩
  obtain ⟨A2, n2, c2, rfl, hn2, hc2, hm2, hz2, hb2, h2⟩ := o2.slice
  have O1' := Lib.hid (O1.out.below b2 (Nat.le_refl _))
  have B2 := Lib.hid (B1.out.trans (b2.mono B1.out.size))
  have HN2 := Lib.hid hn2
  have HZ2 := Lib.hid hz2
  have H2 := Lib.hid h2
  have hs2 : n2 ≤ 1000000 := by have := thoseA_len l false; have := HN0.out; omega
  have hs1 : (thoseA l true).length ≤ 1000000 := by have := thoseA_len l true; have := HN0.out; omega
  clear o2 b2 hn2 hz2 hb2 h2 hm2 hc2
  have hB : w.heap.size ≤ w2.heap.size := B2.out.size
  go_wp2_with (at_builtin; refine wp_app rfl _ _ rfl (v := v1) (l := thoseA l true) (m := thoseA l false) (base := w.heap.size) rfl O1'.out rfl HN2.out HZ2.out H2.out (by omega) hB ?_; intro v' w3 hown' hgrow _)
  go_ret
  exact ⟨_, rfl, hown', B2.out.grown hgrow hB (fun j hj => (World.ownsRow.lt O1'.out j hj).1)⟩

/-- two slices of the call's own that don't share a block -/
def Apart (v : Value) (A : Option Addr) : Prop := ∀ b o, A = some ⟨b, o, none⟩ → some b ≠ v.ownBlock

theorem apart_holds {w w' : World} {o : Obj} {A : Option Addr} {l : List At} {v : Value} (h : Holds w w.heap.size A l) (ha : Apart v A) (hg : (w.alloc o).grownBy w' v.ownBlock) : Holds w' w'.heap.size A l := by
  have h1 := h.on ((Below.refl _ _).alloc (Nat.le_refl _) o)
  exact (h1.grown hg (Nat.le_refl _) ha).more hg.size
theorem apart_next {w : World} {o : Obj} {A : Option Addr} {l : List At} {v v' : Value} {k : Nat} (h : Holds w w.heap.size A l) (hk : k < l.length) (ha : Apart v A) (hat : v'.ownBlock = v.ownBlock ∨ v'.ownBlock = some (w.alloc o).heap.size) : Apart v' A := by
  intro b off hA
  obtain ⟨b', o', hA', hlt, _⟩ := h k hk
  rcases hat with e | e
  · rw [e]; exact ha b off hA
  · rw [e]
    intro e'
    rw [hA] at hA'
    injection hA' with e1
    injection e1 with e2 _
    injection e' with e3
    have : (w.alloc o).heap.size = w.heap.size + 1 := by simp
    omega
theorem join_done {W : World} {base n5 c5 r : Nat} {A5 : Option Addr} {L J : List At} (h : Own W base (.slice A5 n5 c5) L) (hn : L.length = n5) (hr : r = min n5 8) (hJ : J = L.take 8) : Own W base (.slice A5 r c5) J := by
  subst hr
  subst hJ
  have := h.cut (k := min n5 8) (by omega)
  have e : L.take (min n5 8) = L.take 8 := by
    subst hn
    by_cases h8 : L.length ≤ 8
    · rw [Nat.min_eq_left h8, List.take_of_length_le (Nat.le_refl _), List.take_of_length_le h8]
    · rw [Nat.min_eq_right (by omega)]
  rwa [e] at this
theorem join_full {l m : List At} {k n5 : Nat} (hn : (addA (thoseA l true) ((thoseA m false).take k)).length = n5) (h8 : 8 ≤ n5) : joinA l m = (addA (thoseA l true) ((thoseA m false).take k)).take 8 :=
  addA_full (by omega)
theorem join_all {l m : List At} {k : Nat} (hn : (thoseA m false).length = k) : joinA l m = (addA (thoseA l true) ((thoseA m false).take k)).take 8 := by
  subst hn; simp [joinA]

set_option maxHeartbeats 1000000 in
theorem join_any (l m : List At) (A B : Option Addr) (n n' c d : Nat) (w : World) (hn : l.length = n) (hn' : m.length = n') (hl : n ≤ 1000000) (hm : n' ≤ 1000000) (H : Holds w w.heap.size A l) (H2 : Holds w w.heap.size B m) :
    Calls Try.prog 39 #[.slice A n c, .slice B n' d] w (GivesA w (joinA l m)) := by
  have HH := Lib.hid H
  have HH2 := Lib.hid H2
  have HN := Lib.hid hn
  have HN' := Lib.hid hn'
  clear H H2 hn hn'
  go_enter Try.func39, Try.ntmps39
  go_wp2_with fail
  refine (those_any l A n c true _ HN.out hl HH.out).mono ?_
  rintro e w1 ⟨v1, rfl, o1, b1⟩
  have O1 := Lib.hid o1
  have B1 := Lib.hid b1
  clear o1 b1
  go_wp2_with fail
  refine (those_any m B n' d false _ HN'.out hm (HH2.out.on B1.out)).mono ?_
  rintro e w2 ⟨v2, rfl, o2, b2⟩
  obtain ⟨A2, n2, c2, rfl, hn2, hc2, hm2, hz2, hb2, h2⟩ := o2.slice
  have O1' := Lib.hid (O1.out.below b2 (Nat.le_refl _))
  have AP : Hid (Apart v1 A2) := Lib.hid (fun b o hA e => by
    have e1 := (World.ownsRow.lt O1.out b e.symm).2
    have e2 := (hb2 b o hA).1
    omega)
  have B2 := Lib.hid (B1.out.trans (b2.mono B1.out.size))
  have HN2 := Lib.hid hn2
  have H2 := Lib.hid h2
  have hs2 : n2 ≤ 1000000 := by have := thoseA_len m false; have := HN'.out; omega
  have hs1 : (thoseA l true).length ≤ 1000000 := by have := thoseA_len l true; have := HN.out; omega
  clear o2 b2 hn2 hz2 hb2 h2 hm2 hc2
  have hB : w.heap.size ≤ w2.heap.size := B2.out.size
  go_wp2_with fail
  go_loopw [5, 13] (fun v i wr => ∃ k : Nat, k ≤ n2 ∧ i = .int .i64 k ∧ Hid (Below w.heap.size w wr) ∧ Hid (Own wr w.heap.size v (addA (thoseA l true) ((thoseA m false).take k))) ∧ Hid (Holds wr wr.heap.size A2 (thoseA m false)) ∧ Hid (Apart v A2)) (fun _ i _ => n2 - (intOf i).toNat)
  case atStart => exact ⟨0, by omega, rfl, B2, O1', H2, AP⟩
  case round =>
    obtain ⟨k, hk, rfl, HW, HO, HA2, HAP⟩ := hrel
    have hz : w.heap.size ≤ wr.heap.size := HW.out.size
    obtain ⟨A5, n5, c5, rfl, hn5, hc5, hm5, hz5, hb5, h5⟩ := HO.out.slice
    have HN5 := Lib.hid hn5
    have hs5 : n5 ≤ 2000000 := by have := addA_take_len (thoseA l true) (thoseA m false) k; have := HN2.out; omega
    have HB5 := Lib.hid hb5
    have H5 := Lib.hid h5
    unfold maxLen at hm5
    clear hn5 hz5 hb5 h5
    by_cases hlt : k < n2
    · have hlt' : k < (thoseA m false).length := by have := HN2.out; omega
      obtain ⟨b, o, rfl, hb, h0, h1, h2⟩ := HA2.out k hlt'
      by_cases h8 : 8 ≤ n5
      · go_wp2_with fail
        all_goals
          go_ret
          exact ⟨_, rfl, join_done (HO.out.alloc _) HN5.out (by omega) (join_full HN5.out h8), HW.out.alloc hz _⟩
      · have h8' : n5 < 8 := by omega
        cases hh : hasA (addA (thoseA l true) ((thoseA m false).take k)) (thoseA m false)[k].nm
        · have HS := Lib.hid hh
          clear hh
          go_wp2_with fail
          refine (has_at (addA (thoseA l true) ((thoseA m false).take k)) A5 n5 c5 _ _ HS.out HN5.out (by omega) (H5.out.on ((Below.refl _ _).alloc (Nat.le_refl _) _))).mono ?_
          rintro e w3 ⟨rfl, b3⟩
          have B3 := Lib.hid b3
          clear b3
          have B0 := Lib.hid ((Below.refl wr.heap.size wr).alloc (Nat.le_refl _) (.cells #[.string (thoseA m false)[k].nm, .string (thoseA m false)[k].vl, .bool (thoseA m false)[k].st] 85))
          have K3 := Lib.hid ((Blk.new wr (thoseA m false)[k]).below B3.out (by simp))
          have c0 := K3.out.c0
          have c1 := K3.out.c1
          have c2 := K3.out.c2
          have hz3 : wr.heap.size < w3.heap.size := K3.out.lt
          have O3 := Lib.hid ((HO.out.alloc (.cells #[.string (thoseA m false)[k].nm, .string (thoseA m false)[k].vl, .bool (thoseA m false)[k].st] 85)).below B3.out (Nat.le_refl _))
          have A3 := Lib.hid ((HA2.out.on B0.out).on B3.out)
          have W3 := Lib.hid ((HW.out.alloc hz _).trans (B3.out.mono (by simp; omega)))
          have hz4 : w.heap.size ≤ w3.heap.size := W3.out.size
          go_wp2_with (at_builtin; refine wp_app rfl _ _ rfl (v := .slice A5 n5 c5) (l := addA (thoseA l true) ((thoseA m false).take k)) (m := [(thoseA m false)[k]]) (base := w.heap.size) rfl (O3.out.alloc _) rfl rfl (fun e => by cases e) (Holds.one (Blk.new _ _)) (by have := HN5.out; simp; omega) (by simp; omega) ?_; intro v' w4 hown' hgrow hat)
          go_roundw
          case rel => exact ⟨k + 1, by omega, by go_num, Lib.hid ((W3.out.alloc hz4 _).grown hgrow (by simp; omega) (fun j hj => (World.ownsRow.lt O3.out j hj).1)), Lib.hid (by rw [addA_take_snoc_no hlt' HS.out]; exact hown'), Lib.hid (apart_holds A3.out HAP.out hgrow), Lib.hid (apart_next A3.out hlt' HAP.out hat)⟩
          case measure => simp [intOf]; omega
        · have HS := Lib.hid hh
          clear hh
          go_wp2_with fail
          refine (has_at (addA (thoseA l true) ((thoseA m false).take k)) A5 n5 c5 _ _ HS.out HN5.out (by omega) (H5.out.on ((Below.refl _ _).alloc (Nat.le_refl _) _))).mono ?_
          rintro e w3 ⟨rfl, b3⟩
          have B3 := Lib.hid b3
          clear b3
          go_wp2_with fail
          go_roundw
          case rel => exact ⟨k + 1, by omega, by go_num, Lib.hid ((HW.out.alloc hz _).trans (B3.out.mono (by simp; omega))), Lib.hid (by rw [addA_take_snoc_yes hlt' HS.out]; exact (HO.out.alloc _).below B3.out (Nat.le_refl _)), Lib.hid ((HA2.out.on ((Below.refl _ _).alloc (Nat.le_refl _) _)).on B3.out), HAP⟩
          case measure => simp [intOf]; omega
    · obtain rfl : k = n2 := by omega
      by_cases h8 : n5 ≤ 8
      · go_wp2_with fail
        all_goals
          go_ret
          exact ⟨_, rfl, join_done HO.out HN5.out (by omega) (join_all HN2.out), HW.out⟩
      · go_wp2_with fail
        all_goals
          go_ret
          exact ⟨_, rfl, join_done HO.out HN5.out (by omega) (join_all HN2.out), HW.out⟩
end Go.Proofs.Ythdgaoifbejpjaa.P3

/- What attr.Same (by slices.Equal) answers, for every list that isn't too long. -/
set_option linter.unusedVariables false
set_option linter.unusedSimpArgs false
namespace Go.Proofs.Ythdgaoifbejpjaa.P3
open Go.RowKit

end Go.Proofs.Ythdgaoifbejpjaa.P3

/- What the reference's New and Join answer, for every list that isn't too long. -/
set_option linter.unusedVariables false
set_option linter.unusedSimpArgs false
namespace Go.Proofs.Ythdgaoifbejpjaa.P3
open Go.RowKit

set_option maxHeartbeats 1000000 in
theorem rnew_any (l : List At) (A : Option Addr) (n c : Nat) (w : World) (hn : l.length = n) (hl : n ≤ 1000000) (H : Holds w w.heap.size A l) :
    Calls Try.prog 26 #[.slice A n c] w (GivesA w (newA l)) := by
  have HH := Lib.hid H
  have HN := Lib.hid hn
  clear H hn
  have hln : l.length ≤ 1000000 := by have := HN.out; omega
  have hst := thoseA_len l true
  go_enter Try.func26, Try.ntmps26
  go_wp2_with fail
  go_loopw [3, 4] (fun v i wr => ∃ k : Nat, k ≤ n ∧ i = .int .i64 k ∧ Hid (Below w.heap.size w wr) ∧ Hid (Own wr w.heap.size v (thoseA (l.take k) true))) (fun _ i _ => n - (intOf i).toNat)
  case atStart => exact ⟨0, by omega, rfl, Lib.hid (Below.refl _ _), Lib.hid (Own.nil _ _)⟩
  case round =>
    obtain ⟨k, hk, rfl, HW, HO⟩ := hrel
    have hz : w.heap.size ≤ wr.heap.size := HW.out.size
    by_cases hlt : k < n
    · have hlt' : k < l.length := by have := HN.out; omega
      obtain ⟨b, o, rfl, hb, h0, h1, h2⟩ := (HH.out.below HW.out (Nat.le_refl _)) k hlt'
      have hle := thoseA_take_len l true k
      cases hs : l[k].st
      · have HS : Hid ((l[k].st == true) = false) := Lib.hid (by rw [hs]; rfl)
        rw [hs] at h2
        clear hs
        go_wp2_with fail
        go_roundw
        case rel => exact ⟨k + 1, by omega, by go_num, HW, Lib.hid (by rw [thoseA_no hlt' HS.out]; exact HO.out)⟩
        case measure => simp [intOf]; omega
      · have HS : Hid ((l[k].st == true) = true) := Lib.hid (by rw [hs]; rfl)
        have HE : Hid (l[k].st = true) := Lib.hid hs
        rw [hs] at h2
        clear hs
        have hbk : Blk (wr.alloc (.cells #[.string l[k].nm, .string l[k].vl, .bool true] 85)) wr.heap.size l[k] := Blk.newS wr HE.out
        go_wp2_with (at_builtin; refine wp_app rfl _ _ rfl (v := u3) (l := thoseA (l.take k) true) (m := [l[k]]) (base := w.heap.size) rfl (HO.out.alloc _) rfl rfl (fun e => by cases e) (Holds.one hbk) (by simp; omega) (by simp; omega) ?_; intro v' w1 hown' hgrow _)
        go_roundw
        case rel => exact ⟨k + 1, by omega, by go_num, Lib.hid ((HW.out.alloc (by omega) _).grown hgrow (by simp; omega) (fun j hj => (World.ownsRow.lt HO.out j hj).1)), Lib.hid (by rw [thoseA_yes hlt' HS.out]; exact hown')⟩
        case measure => simp [intOf]; omega
    · obtain rfl : k = n := by omega
      go_wp2_with fail
      obtain ⟨wo, rfl⟩ : ∃ wo : World, wo = wr := ⟨_, rfl⟩
      have HO' : Hid (Own wo w.heap.size u3 (thoseA l true)) := Lib.hid (by have := HO.out; rwa [thoseA_all HN.out] at this)
      go_loopw [3, 5] (fun v i wr => ∃ j : Nat, j ≤ k ∧ i = .int .i64 j ∧ Hid (Below w.heap.size w wr) ∧ Hid (Own wr w.heap.size v (thoseA l true ++ thoseA (l.take j) false))) (fun _ i _ => k - (intOf i).toNat)
      case atStart => exact ⟨0, by omega, rfl, HW, Lib.hid (by simpa [thoseA] using HO'.out)⟩
      case round =>
        obtain ⟨j, hj, rfl, HWi, HOi⟩ := hrel
        have hz : w.heap.size ≤ wr.heap.size := HWi.out.size
        by_cases hjn : j < k
        · have hlt' : j < l.length := by have := HN.out; omega
          obtain ⟨b, o, rfl, hb, h0, h1, h2⟩ := (HH.out.below HWi.out (Nat.le_refl _)) j hlt'
          have hle := thoseA_take_len l false j
          cases hs : l[j].st
          · have HS : Hid ((l[j].st == false) = true) := Lib.hid (by rw [hs]; rfl)
            have HE : Hid (l[j].st = false) := Lib.hid hs
            rw [hs] at h2
            clear hs
            have hbk : Blk (wr.alloc (.cells #[.string l[j].nm, .string l[j].vl, .bool false] 85)) wr.heap.size l[j] := Blk.newS wr HE.out
            go_wp2_with (at_builtin; refine wp_app rfl _ _ rfl (v := u3) (l := thoseA l true ++ thoseA (l.take j) false) (m := [l[j]]) (base := w.heap.size) rfl (HOi.out.alloc _) rfl rfl (fun e => by cases e) (Holds.one hbk) (by simp; omega) (by simp; omega) ?_; intro v' w1 hown' hgrow _)
            go_roundw
            case rel => exact ⟨j + 1, by omega, by go_num, Lib.hid ((HWi.out.alloc (by omega) _).grown hgrow (by simp; omega) (fun i hi => (World.ownsRow.lt HOi.out i hi).1)), Lib.hid (by rw [thoseA_yes hlt' HS.out, ← List.append_assoc]; exact hown')⟩
            case measure => simp [intOf]; omega
          · have HS : Hid ((l[j].st == false) = false) := Lib.hid (by rw [hs]; rfl)
            rw [hs] at h2
            clear hs
            go_wp2_with fail
            go_roundw
            case rel => exact ⟨j + 1, by omega, by go_num, HWi, Lib.hid (by rw [thoseA_no hlt' HS.out]; exact HOi.out)⟩
            case measure => simp [intOf]; omega
        · obtain rfl : j = k := by omega
          go_wp2_with fail
          go_ret
          exact ⟨_, rfl, by have := HOi.out; rwa [thoseA_all HN.out] at this, HWi.out⟩
theorem rjoin_all {l m : List At} {n' : Nat} (hn : m.length = n') : joinA l m = (addA (thoseA l true) (thoseA (m.take n') false)).take 8 := by
  subst hn; simp [joinA]

set_option maxHeartbeats 2000000 in
set_option maxRecDepth 100000 in
theorem rjoin_any (l m : List At) (A B : Option Addr) (n n' c d : Nat) (w : World) (hn : l.length = n) (hn' : m.length = n') (hl : n ≤ 1000000) (hm : n' ≤ 1000000) (H : Holds w w.heap.size A l) (H2 : Holds w w.heap.size B m) :
    Calls Try.prog 25 #[.slice A n c, .slice B n' d] w (GivesA w (joinA l m)) := by
  have HH := Lib.hid H
  have HH2 := Lib.hid H2
  have HN := Lib.hid hn
  have HN' := Lib.hid hn'
  clear H H2 hn hn'
  have hln : l.length ≤ 1000000 := by have := HN.out; omega
  have hmn : m.length ≤ 1000000 := by have := HN'.out; omega
  have hst := thoseA_len l true
  go_enter Try.func25, Try.ntmps25
  go_wp2_with fail
  go_loopw [5, 6] (fun v i wr => ∃ k : Nat, k ≤ n ∧ i = .int .i64 k ∧ Hid (Below w.heap.size w wr) ∧ Hid (Own wr w.heap.size v (thoseA (l.take k) true))) (fun _ i _ => n - (intOf i).toNat)
  case atStart => exact ⟨0, by omega, rfl, Lib.hid (Below.refl _ _), Lib.hid (Own.nil _ _)⟩
  case round =>
    obtain ⟨k, hk, rfl, HW, HO⟩ := hrel
    have hz : w.heap.size ≤ wr.heap.size := HW.out.size
    by_cases hlt : k < n
    · have hlt' : k < l.length := by have := HN.out; omega
      obtain ⟨b, o, rfl, hb, h0, h1, h2⟩ := (HH.out.below HW.out (Nat.le_refl _)) k hlt'
      have hle := thoseA_take_len l true k
      cases hs : l[k].st
      · have HS : Hid ((l[k].st == true) = false) := Lib.hid (by rw [hs]; rfl)
        rw [hs] at h2
        clear hs
        go_wp2_with fail
        go_roundw
        case rel => exact ⟨k + 1, by omega, by go_num, HW, Lib.hid (by rw [thoseA_no hlt' HS.out]; exact HO.out)⟩
        case measure => simp [intOf]; omega
      · have HS : Hid ((l[k].st == true) = true) := Lib.hid (by rw [hs]; rfl)
        have HE : Hid (l[k].st = true) := Lib.hid hs
        rw [hs] at h2
        clear hs
        go_wp2_with (at_builtin; refine wp_app rfl _ _ rfl (v := u5) (l := thoseA (l.take k) true) (m := [l[k]]) (base := w.heap.size) rfl (HO.out.alloc _) rfl rfl (fun e => by cases e) (Holds.one (Blk.newS wr HE.out)) (by simp; omega) (by simp; omega) ?_; intro v' w1 hown' hgrow _)
        go_roundw
        case rel => exact ⟨k + 1, by omega, by go_num, Lib.hid ((HW.out.alloc (by omega) _).grown hgrow (by simp; omega) (fun j hj => (World.ownsRow.lt HO.out j hj).1)), Lib.hid (by rw [thoseA_yes hlt' HS.out]; exact hown')⟩
        case measure => simp [intOf]; omega
    · obtain rfl : k = n := by omega
      go_wp2_with fail
      obtain ⟨wo, rfl⟩ : ∃ wo : World, wo = wr := ⟨_, rfl⟩
      have HO' : Hid (Own wo w.heap.size u5 (thoseA l true)) := Lib.hid (by have := HO.out; rwa [thoseA_all HN.out] at this)
      go_loopw [5, 7] (fun v i wr => ∃ j : Nat, j ≤ n' ∧ i = .int .i64 j ∧ Hid (Below w.heap.size w wr) ∧ Hid (Own wr w.heap.size v (addA (thoseA l true) (thoseA (m.take j) false)))) (fun _ i _ => n' - (intOf i).toNat)
      case atStart => exact ⟨0, by omega, rfl, HW, Lib.hid (by simpa [thoseA, addA] using HO'.out)⟩
      case round =>
        obtain ⟨j, hj, rfl, HWi, HOi⟩ := hrel
        have hz : w.heap.size ≤ wr.heap.size := HWi.out.size
        obtain ⟨A5, n5, c5, rfl, hn5, hc5, hm5, hz5, hb5, h5⟩ := HOi.out.slice
        have HN5 := Lib.hid hn5
        have hs5 : n5 ≤ 2000000 := by have := radd_len (thoseA l true) m j; omega
        have H5 := Lib.hid h5
        unfold maxLen at hm5
        clear hn5 hz5 hb5 h5
        by_cases hjn : j < n'
        · have hlt' : j < m.length := by have := HN'.out; omega
          obtain ⟨b, o, rfl, hb, h0, h1, h2⟩ := (HH2.out.below HWi.out (Nat.le_refl _)) j hlt'
          go_wp2_with fail
          obtain ⟨wi, rfl⟩ : ∃ wi : World, wi = wr := ⟨_, rfl⟩
          go_loopw [8, 9] (fun u i wr => ∃ (q : Nat) (met : Bool), q ≤ n5 ∧ u = .bool met ∧ i = .int .i64 q ∧ Hid (met = (m[j].st || hasA ((addA (thoseA l true) (thoseA (m.take j) false)).take q) m[j].nm)) ∧ Hid (Below wi.heap.size wi wr)) (fun _ i _ => n5 - (intOf i).toNat)
          case atStart => exact ⟨0, _, by omega, rfl, rfl, Lib.hid (by simp [hasA, findA]), Lib.hid (Below.refl _ _)⟩
          case round =>
            obtain ⟨q, met, hq, rfl, rfl, HM, HWq⟩ := hrel
            have hzq : wi.heap.size ≤ wr.heap.size := HWq.out.size
            by_cases hqn : q < n5
            · have hql : q < (addA (thoseA l true) (thoseA (m.take j) false)).length := by have := HN5.out; omega
              obtain ⟨b5, o5, rfl, hb5, p0, p1, p2⟩ := (H5.out.below HWq.out (Nat.le_refl _)) q hql
              have g0 : wr.cell? ⟨b, o + j * 3, none⟩ = some (.string m[j].nm) := by rw [HWq.out.cell (by show b < wi.heap.size; omega)]; exact h0
              have hsucc := hasA_take_succ (s := m[j].nm) hql
              have HSU := Lib.hid hsucc
              clear hsucc h0 h1 h2 p1 p2
              cases met
              · cases he : ((addA (thoseA l true) (thoseA (m.take j) false))[q].nm.toList == m[j].nm.toList)
                · have HE := Lib.hid he
                  go_wp2_with fail
                  go_quiet (fail)
                  go_wp2_with fail
                  go_roundw
                  case rel => exact ⟨q + 1, false, by omega, rfl, by go_num, Lib.hid (by rw [HSU.out, HE.out, Bool.or_false]; exact HM.out), Lib.hid (Below_drewN HWq.out _)⟩
                  case measure => simp [intOf]; omega
                · have HE := Lib.hid he
                  go_wp2_with fail
                  go_quiet (fail)
                  go_wp2_with fail
                  go_roundw
                  case rel => exact ⟨q + 1, true, by omega, rfl, by go_num, Lib.hid (by rw [HSU.out, HE.out]; simp), Lib.hid (Below_drewN HWq.out _)⟩
                  case measure => simp [intOf]; omega
              · go_wp2_with fail
                go_quiet (fail)
                go_wp2_with fail
                go_roundw
                case rel => exact ⟨q + 1, true, by omega, rfl, by go_num, Lib.hid (by rw [HSU.out, ← Bool.or_assoc, ← HM.out]; rfl), Lib.hid (Below_drewN HWq.out _)⟩
                case measure => simp [intOf]; omega
            · obtain rfl : q = n5 := by omega
              have HM' : Hid (met = (m[j].st || hasA (addA (thoseA l true) (thoseA (m.take j) false)) m[j].nm)) := Lib.hid (by have := HM.out; rwa [List.take_of_length_le (by have := HN5.out; omega)] at this)
              have HO6 := Lib.hid (HOi.out.below HWq.out (Nat.le_refl _))
              have HW6 := Lib.hid (HWi.out.trans (HWq.out.mono hz))
              obtain ⟨b', o', hA', hb', g0, g1, g2⟩ := (HH2.out.below HW6.out (Nat.le_refl _)) j hlt'
              injection hA' with hA'
              injection hA' with e1 e2
              subst e1; subst e2
              clear h0 h1 h2
              cases met
              · have hh5 : (addA (thoseA l true) (thoseA (m.take j) false)).length = q := HN5.out
                have HH5 := Lib.hid hh5
                clear hh5
                go_wp2_with (at_builtin; refine wp_app rfl _ _ rfl (v := .slice A5 q c5) (l := addA (thoseA l true) (thoseA (m.take j) false)) (m := [m[j]]) (base := w.heap.size) rfl (HO6.out.alloc _) rfl rfl (fun e => by cases e) (Holds.one (Blk.new _ _)) (by have := HH5.out; simp; omega) (by simp; omega) ?_; intro v' w1 hown' hgrow _)
                go_roundw
                case rel => exact ⟨j + 1, by omega, by go_num, Lib.hid ((HW6.out.alloc (by omega) _).grown hgrow (by simp; omega) (fun i hi => (World.ownsRow.lt HO6.out i hi).1)), Lib.hid (by rw [radd_no hlt' HM'.out]; exact hown')⟩
                case measure => simp [intOf]; omega
              · go_wp2_with fail
                go_roundw
                case rel => exact ⟨j + 1, by omega, by go_num, HW6, Lib.hid (by rw [radd_yes hlt' HM'.out]; exact HO6.out)⟩
                case measure => simp [intOf]; omega
        · obtain rfl : j = n' := by omega
          by_cases h8 : n5 ≤ 8
          · go_wp2_with fail
            go_ret
            exact ⟨_, rfl, join_done HOi.out HN5.out (by omega) (rjoin_all HN'.out), HWi.out⟩
          · go_wp2_with fail
            go_ret
            exact ⟨_, rfl, join_done HOi.out HN5.out (by omega) (rjoin_all HN'.out), HWi.out⟩
end Go.Proofs.Ythdgaoifbejpjaa.P3
