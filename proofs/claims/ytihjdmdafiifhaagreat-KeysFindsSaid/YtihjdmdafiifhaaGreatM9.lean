/- slices.Insert of one integer, laid by the shelf: at whatever place, with room or without. -/
import Derived.Shelf.Spec.SlicesInsertGrow
import Derived.Test.YtihjdmdafiifhaaGreatChecked
import Derived.WalkKit
import Derived.ProofKit
import Derived.Outline
import Derived.WalkLawsBesides
import Derived.WalkSpells
import Derived.Lib.Hide
import Derived.Test.YtihjdmdafiifhaaGreatM2
import Derived.Test.YtihjdmdafiifhaaGreatM6
import Derived.Test.YtihjdmdafiifhaaGreatM8
set_option linter.unusedVariables false
set_option linter.unusedSimpArgs false
set_option linter.unusedVariables false
set_option linter.unusedSimpArgs false
namespace Go.Proofs.YtihjdmdafiifhaaGreat.P5
open Go.RowKit Kd P4

def ren21 : Go.Shelf.Ren := ⟨fun | 21 => 53 | 27 => 74 | 28 => 75 | 35 => 90 | 39 => 103 | n => n, fun | 0 => 0 | 3 => 3 | 4 => 4 | 22 => 23 | n => n, fun | n => n⟩
theorem lays21 : Go.Proofs.Lays2.n21 Tryz.prog ren21 := {
  mixed := by kernel_rfl
  f21 := Tryz.func53.trans (congrArg some (by kernel_rfl))
  f27 := Tryz.func74.trans (congrArg some (by kernel_rfl))
  f28 := Tryz.func75.trans (congrArg some (by kernel_rfl))
  f35 := Tryz.func90.trans (congrArg some (by kernel_rfl))
  f39 := Tryz.func103.trans (congrArg some (by kernel_rfl))
  t0 := Tryz.underlying0
  a0 := Tryz.isAgg0
  z0 := Tryz.sizeOf0
  v0 := Tryz.zeroValue0
  t3 := Tryz.underlying3
  a3 := Tryz.isAgg3
  z3 := Tryz.sizeOf3
  v3 := Tryz.zeroValue3
  t4 := Tryz.underlying4
  a4 := Tryz.isAgg4
  z4 := Tryz.sizeOf4
  v4 := Tryz.zeroValue4
  t22 := Tryz.underlying23
  a22 := Tryz.isAgg23
  z22 := Tryz.sizeOf23
  v22 := Tryz.zeroValue23
  i3 := infoI }

theorem ins_row {c2 : Array Value} {C : List Value} {n i : Nat} {u : Value} (hC : C.length = n) (hi : i ≤ n) (hs : n + 1 ≤ c2.size) (h : ∀ k, k < n + 1 → c2[k]? = if k < i then C[k]? else if k = i then some u else C[k - 1]?) :
    c2.toList.take (n + 1) = C.take i ++ u :: C.drop i := by
  apply List.ext_getElem?
  intro k
  rw [List.getElem?_take]
  have hti : (C.take i).length = i := by rw [List.length_take]; omega
  by_cases hk : k < n + 1
  · rw [if_pos hk, Array.getElem?_toList, h k hk]
    by_cases h1 : k < i
    · rw [if_pos h1, List.getElem?_append_left (by omega), List.getElem?_take, if_pos h1]
    · rw [if_neg h1, List.getElem?_append_right (by omega), hti]
      by_cases h2 : k = i
      · subst h2; simp
      · obtain ⟨m, rfl⟩ : ∃ m, k = i + (m + 1) := ⟨k - i - 1, by omega⟩
        rw [if_neg h2, show i + (m + 1) - i = m + 1 by omega, List.getElem?_cons_succ, List.getElem?_drop, show i + (m + 1) - 1 = i + m by omega]
  · rw [if_neg hk, List.getElem?_eq_none]
    simp only [List.length_append, List.length_cons, List.length_drop, hti]
    omega
theorem cells_ins (l : List Int) (i : Nat) (t : Int) : kI.cells (l.take i ++ t :: l.drop i) = (kI.cells l).take i ++ .int .i64 t :: (kI.cells l).drop i := by
  rw [Kind.cells_append]
  show _ ++ kI.cells ([t] ++ l.drop i) = _
  rw [Kind.cells_append, Kind.cells_take, Kind.cells_drop]
  have : i * kI.size = i := Nat.mul_one i
  rw [this]
  rfl
theorem kI_len (l : List Int) : (kI.cells l).length = l.length := by rw [Kind.cells_len]; exact Nat.mul_one _

def Inserted (w : World) (B : Nat) (v : Value) (l : List Int) (e : Ending) (w' : World) : Prop :=
  ∃ A n c, e = .returned (.slice A n c) ∧ kI.Own w' B (.slice A n c) l ∧ But (fun k => v.ownBlock = some k) w w' ∧ ∀ g, (Value.slice A n c).ownBlock = some g → v.ownBlock = some g ∨ w.heap.size ≤ g
set_option maxHeartbeats 1000000 in
theorem insert_any (l : List Int) (t : Int) (i : Nat) {B vb : Nat} {v : Value} (w : World) (hi : i ≤ l.length) (hl : l.length ≤ 1000000) (hB : B ≤ w.heap.size) (h : kI.Own w B v l)
    (hb : w.heap[vb]? = some (.cells #[.int .i64 t] 3 (0, 0))) (hne : v.ownBlock ≠ some vb) :
    Calls Tryz.prog 53 #[v, .int .i64 i, .slice (some ⟨vb, 0, none⟩) 1 1] w (Inserted w B v (l.take i ++ t :: l.drop i)) := by
  have hvs : ∀ j u, ([.int .i64 t] : List Value)[j]? = some u → w.cell? ⟨vb, 0 + j, none⟩ = some u := by
    intro j u hj
    cases j with
    | zero =>
      have : Value.int .i64 t = u := by simpa using hj
      subst this
      exact cell_of_row w vb 0 _ _ (0, 0) hb
    | succ j => simp at hj
  have h1v : ∀ u ∈ ([.int .i64 t] : List Value), u.oneCell' = true := by intro u hu; simp at hu; subst hu; rfl
  have h1c : ∀ u ∈ kI.cells l, u.oneCell' = true := Kind.cells_one _ _
  have grow : ∀ (W : World) (g : Nat) (cur : Array Value) (c : Nat), B ≤ g → W.heap[g]? = some (.cells cur 3 (0, 0)) → l.length + 1 ≤ c → c ≤ maxLen → cur.size = c → (∀ k, k < l.length + 1 → cur[k]? = if k < i then (kI.cells l)[k]? else if k = i then some (.int .i64 t) else (kI.cells l)[k - 1]?) →
      kI.Own W B (.slice (some ⟨g, 0, none⟩) (l.length + 1) c) (l.take i ++ t :: l.drop i) := by
    intro W g cur c hg hh h1 h2 h3 h4
    refine Kind.own_mk (cur := cur) (by simp; omega) hg hh h1 h2 (by rw [h3]; exact (Nat.mul_one c).symm) ?_
    rw [show (l.length + 1) * kI.size = l.length + 1 from Nat.mul_one _, ins_row (kI_len l) hi (by omega) h4, cells_ins]
  have hG63 : ∀ c, grownCap w (l.length + 1) c 3 ≤ maxLen := fun c => grownCap_le_maxLen w _ c _ (by unfold maxLen; omega)
  have hGn : ∀ c, l.length + 1 ≤ grownCap w (l.length + 1) c 3 := fun c => grownCap_ge w _ c _
  have hzc : ∀ k, (Builtin.zeroCells (Value.int .i64 0).cells k).size = k := fun k => by simp [Builtin.zeroCells, Value.cells]
  have happ : ∀ (c : Nat) (k : Nat), k < l.length + 1 → i = l.length → ((kI.cells l ++ [Value.int .i64 t]).toArray ++ Builtin.zeroCells (Value.int .i64 0).cells c)[k]? = if k < i then (kI.cells l)[k]? else if k = i then some (.int .i64 t) else (kI.cells l)[k - 1]? := by
    intro c k hk hil
    have hsz : (kI.cells l ++ [Value.int .i64 t]).toArray.size = l.length + 1 := by simp [kI_len]
    rw [Array.getElem?_append_left (by omega), List.getElem?_toArray]
    by_cases h1 : k < i
    · rw [if_pos h1, List.getElem?_append_left (by rw [kI_len]; omega)]
    · rw [if_neg h1, List.getElem?_append_right (by rw [kI_len]; omega), kI_len, if_pos (by omega), show k - l.length = 0 by omega]
      rfl
  rcases h.form with ⟨rfl, rfl⟩ | ⟨g, c, cur, rfl, _, hBg, hlt, hh, hnc, hcm, hcs, hta⟩
  · obtain rfl : i = 0 := by simpa using hi
    refine (Any2.slices_Insert_int_end_grow lays21 none 0 0 vb 0 1 1 [] [.int .i64 t] w (by omega) (by omega) (by omega) (by omega) rfl rfl (fun _ => rfl) (fun a ha => by cases ha) hvs h1v).mono ?_
    rintro e w' ⟨rfl, rfl⟩
    have hsz := happ (grownCap w 1 0 3 - 1)
    refine ⟨some ⟨w.heap.size, 0, none⟩, 1, grownCap w 1 0 3, rfl, ?_, But.alloc (But.drew (But.refl _ _)) _, fun g hg => .inr (by simp [Value.ownBlock] at hg; omega)⟩
    exact grow _ w.heap.size _ _ hB (heap_alloc_new w.drew _) (hGn 0) (hG63 0) (by have := hGn 0; simp at this; simp [hzc, show ren21.t 3 = 3 from rfl]; omega) (fun k hk => hsz k hk rfl)
  · have hcs' : cur.size = c := hcs.trans (Nat.mul_one c)
    have hta' : cur.toList.take l.length = kI.cells l := by rw [← hta]; exact congrArg (fun m => cur.toList.take m) (Nat.mul_one _).symm
    have hcur : ∀ k, k < l.length → (kI.cells l)[k]? = cur[k]? := fun k hk => by rw [← hta', List.getElem?_take, if_pos hk, Array.getElem?_toList]
    have hcc : ∀ j u, (kI.cells l)[j]? = some u → w.cell? ⟨g, 0 + j, none⟩ = some u := by
      intro j u hj
      have hjl := (List.getElem?_eq_some_iff.1 hj).1
      rw [kI_len] at hjl
      rw [Nat.zero_add, cell_of_row w g j _ _ _ hh, ← hcur j hjl]
      exact hj
    have hcell : ∀ k, w.cell? ⟨g, k, none⟩ = cur[k]? := fun k => cell_of_row w g k _ _ _ hh
    have hfz : ∀ k, w.frozen? ⟨g, k, none⟩ = false := fun k => by simp [World.frozen?, hh]
    have hhi : w.heap[g]? = some (.cells cur 3 (0, 0)) := hh
    have hgv : vb ≠ g := fun e => hne (by rw [e]; rfl)
    by_cases hil : i = l.length
    · subst hil
      by_cases hroom : l.length + 1 ≤ c
      · refine (Any2.slices_Insert_int_end_room lays21 g 0 l.length c vb 0 1 1 [.int .i64 t] w (by omega) hroom (by unfold maxLen at hcm; omega) rfl (fun j hj => by rw [hcell, Array.getElem?_eq_getElem (by omega)]; rfl) (fun j _ => hfz _) hvs h1v).mono ?_
        rintro e w' ⟨rfl, rfl⟩
        obtain ⟨c1, k1, k2, k3⟩ := heap_setCells g [.int .i64 t] (0 + l.length) w cur _ _ hh
        refine ⟨some ⟨g, 0, none⟩, l.length + 1, c, rfl, ?_, But.setCells (S := fun k => (Value.slice (some ⟨g, 0, none⟩) l.length c).ownBlock = some k) (But.refl _ _) (fun _ => rfl) _ _, fun g' hg => .inl hg⟩
        refine grow _ g c1 c hBg k1 hroom hcm (by omega) (fun k hk => ?_)
        rw [k3 k (by omega)]
        by_cases h1 : k < l.length
        · rw [if_neg (by simp; omega), if_pos h1, hcur k h1]
        · rw [if_pos (by simp; omega), if_neg h1, if_pos (by omega), show k - (0 + l.length) = 0 by omega]
          rfl
      · refine (Any2.slices_Insert_int_end_grow lays21 (some ⟨g, 0, none⟩) l.length c vb 0 1 1 (kI.cells l) [.int .i64 t] w (by omega) hnc (by omega) (by omega) (kI_len l) rfl (fun e => by cases e) (fun a ha j u hj => by injection ha with ha; subst ha; rw [Addr.add_lit]; exact hcc j u hj) hvs h1v).mono ?_
        rintro e w' ⟨rfl, rfl⟩
        refine ⟨some ⟨w.heap.size, 0, none⟩, l.length + 1, grownCap w (l.length + 1) c 3, rfl, ?_, But.alloc (But.drew (But.refl _ _)) _, fun g hg => .inr (by simp [Value.ownBlock] at hg; omega)⟩
        exact grow _ w.heap.size _ _ hB (heap_alloc_new w.drew _) (hGn c) (hG63 c) (by have := hGn c; simp [hzc, kI_len, show ren21.t 3 = 3 from rfl]; omega) (fun k hk => happ _ k hk rfl)
    · have hil' : i < l.length := by omega
      by_cases hroom : l.length + 1 ≤ c
      · refine (Any2.slices_Insert_int_shift lays21 g 0 l.length c i vb 0 1 1 (kI.cells l) [.int .i64 t] w hil' (by omega) hroom (by unfold maxLen at hcm; omega) hgv (kI_len l) rfl hcc (fun j hj => by rw [hcell, Array.getElem?_eq_getElem (by omega)]; rfl) (fun j _ => hfz _) hvs h1c h1v 3 3 1 c (by simp [World.shape?, hb]) (by simp [World.shape?, hhi, hcs']) (by omega) (by simp [World.frozen?, hb]) (by simp [World.frozen?, hb])).mono ?_
        rintro e w' ⟨rfl, rfl⟩
        obtain ⟨c1, k1, k2, k3⟩ := heap_setCells g ((kI.cells l).drop i) (0 + (i + 1)) w.drew cur _ _ hh
        obtain ⟨c2, m1, m2, m3⟩ := heap_setCells g [.int .i64 t] (0 + i) _ c1 _ _ k1
        refine ⟨some ⟨g, 0, none⟩, l.length + 1, c, rfl, ?_, But.setCells (S := fun k => (Value.slice (some ⟨g, 0, none⟩) l.length c).ownBlock = some k) (But.setCells (S := fun k => (Value.slice (some ⟨g, 0, none⟩) l.length c).ownBlock = some k) (But.drew (But.refl _ _)) (fun _ => rfl) _ _) (fun _ => rfl) _ _, fun g' hg => .inl hg⟩
        refine grow _ g c2 c hBg m1 hroom hcm (by omega) (fun k hk => ?_)
        rw [m3 k (by omega)]
        by_cases h1 : k < i
        · rw [if_neg (by simp; omega), if_pos h1, k3 k (by omega), if_neg (by omega), hcur k (by omega)]
        · rw [if_neg h1]
          by_cases h2 : k = i
          · rw [if_pos (by simp; omega), if_pos h2, show k - (0 + i) = 0 by omega]
            rfl
          · rw [if_neg (by simp; omega), if_neg h2, k3 k (by omega), if_pos (by rw [List.length_drop, kI_len]; omega), List.getElem?_drop, show i + (k - (0 + (i + 1))) = k - 1 by omega]
      · refine (Any2.slices_Insert_int_grow lays21 g 0 l.length c i vb 0 1 1 (kI.cells l) [.int .i64 t] w hil' (by omega) hnc (by omega) (by omega) (kI_len l) rfl hcc hvs h1c h1v).mono ?_
        rintro e w' ⟨rfl, rfl⟩
        obtain ⟨G, hG⟩ : ∃ G, G = grownCap w (l.length + 1) c 3 := ⟨_, rfl⟩
        have hGn' := hGn c
        have hG63' := hG63 c
        simp only [show ren21.t 3 = 3 from rfl]
        rw [← hG] at hGn' hG63' ⊢
        obtain ⟨row, hrow⟩ : ∃ row, row = ((kI.cells l).take i).toArray ++ Builtin.zeroCells (Value.int .i64 0).cells (l.length + 1 - i) ++ Builtin.zeroCells (Value.int .i64 0).cells (G - (l.length + 1)) := ⟨_, rfl⟩
        rw [← hrow]
        have hrs : row.size = G := by
          rw [hrow]; simp [hzc, kI_len]; omega
        have hr1 : ∀ k, k < i → row[k]? = (kI.cells l)[k]? := by
          intro k hk
          rw [hrow, Array.getElem?_append_left (by simp [hzc, kI_len]; omega), Array.getElem?_append_left (by simp [kI_len]; omega), List.getElem?_toArray, List.getElem?_take, if_pos hk]
        have hh0 : (w.alloc (.cells row 3)).drew.heap[w.heap.size]? = some (.cells row 3 (0, 0)) := heap_alloc_new w _
        obtain ⟨c1, k1, k2, k3⟩ := heap_setCells w.heap.size [.int .i64 t] i _ row _ _ hh0
        have k1' : ((w.alloc (.cells row 3)).drew.setCells w.heap.size i [.int .i64 t]).drew.heap[w.heap.size]? = some (.cells c1 3 (0, 0)) := k1
        obtain ⟨c2, m1, m2, m3⟩ := heap_setCells w.heap.size ((kI.cells l).drop i) (i + 1) _ c1 _ _ k1'
        refine ⟨some ⟨w.heap.size, 0, none⟩, l.length + 1, G, rfl, ?_, ?_, fun g hg => .inr (by simp [Value.ownBlock] at hg; omega)⟩
        · refine grow _ w.heap.size c2 G hB m1 hGn' hG63' (by omega) (fun k hk => ?_)
          rw [m3 k (by omega)]
          by_cases h1 : k < i
          · rw [if_neg (by omega), if_pos h1, k3 k (by omega), if_neg (by simp; omega), hr1 k h1]
          · rw [if_neg h1]
            by_cases h2 : k = i
            · rw [if_neg (by omega), if_pos h2, k3 k (by omega), if_pos (by simp; omega), show k - i = 0 by omega]
              rfl
            · rw [if_pos (by rw [List.length_drop, kI_len]; omega), if_neg h2, List.getElem?_drop, show i + (k - (i + 1)) = k - 1 by omega]
        · exact But.setCells (But.drew (But.setCells (But.drew (But.alloc (But.refl _ _) _)) (fun e => absurd e (by omega)) _ _)) (fun e => absurd e (by omega)) _ _
end Go.Proofs.YtihjdmdafiifhaaGreat.P5

/- What attr.Find and attr.has answer, for every list that isn't too long. -/
set_option linter.unusedVariables false
set_option linter.unusedSimpArgs false
namespace Go.Proofs.YtihjdmdafiifhaaGreat.P3
open Go.RowKit

theorem ret_find {o o' : Option At} (h : o = o') : Ending.returned (.tuple #[.agg #[.string (o.getD At.none).nm, .string (o.getD At.none).vl, .bool (o.getD At.none).st], .bool o.isSome]) = .returned (.tuple #[.agg #[.string (o'.getD At.none).nm, .string (o'.getD At.none).vl, .bool (o'.getD At.none).st], .bool o'.isSome]) := by rw [h]

set_option maxHeartbeats 400000 in
theorem find_any (l : List At) (A : Option Addr) (n c : Nat) (s : ByteArray) (w : World) (hn : l.length = n) (hl : n ≤ 1000000) (H : Holds w w.heap.size A l) :
    Calls Tryz.prog 92 #[.slice A n c, .string s] w fun e w' => e = .returned (.tuple #[.agg #[.string ((findA l s).getD At.none).nm, .string ((findA l s).getD At.none).vl, .bool ((findA l s).getD At.none).st], .bool (findA l s).isSome]) ∧ Below w.heap.size w w' := by
  have HH := Lib.hid H
  have HN0 := Lib.hid hn
  clear H hn
  go_enter Tryz.func92, Tryz.ntmps92
  go_wp2_with fail
  go_loopw [10] (fun i wr => ∃ k : Nat, k ≤ n ∧ i = .int .i64 k ∧ Hid (Below w.heap.size w wr) ∧ Hid (Blk wr w.heap.size At.none) ∧ Hid (findA (l.take k) s = none)) (fun i _ => n - (intOf i).toNat)
  case atStart => exact ⟨0, by omega, rfl, Lib.hid ((Below.refl _ _).alloc (Nat.le_refl _) _), Lib.hid (Blk.new w At.none), Lib.hid (by simp [findA])⟩
  case round =>
    obtain ⟨k, hk, rfl, HW, HB, HN⟩ := hrel
    have hz : w.heap.size < wr.heap.size := HB.out.lt
    have c0 := HB.out.c0
    have c1 := HB.out.c1
    have c2 := HB.out.c2
    have f0 := HB.out.frozen 0
    have f1 := HB.out.frozen 1
    have f2 := HB.out.frozen 2
    by_cases hlt : k < n
    · have hlt' : k < l.length := by have := HN0.out; omega
      obtain ⟨b, o, rfl, hb, h0, h1, h2⟩ := (HH.out.below HW.out (Nat.le_refl _)) k hlt'
      go_wp2_with fail
      · refine bodyPost_ret (v := .tuple #[.agg #[.string l[k].nm, .string l[k].vl, .bool l[k].st], .bool true]) (by simp [results, Tryz.results92, go_sem, c0, c1, c2, hz]) rfl ⟨ret_find (o := some l[k]) (findA_some HN.out hlt' ‹_›).symm, ?_⟩
        refine Below.alloc (Below.setCell (Below.setCell (Below.setCell HW.out ?_ _) ?_ _) ?_ _) ?_ _ <;> first | exact Nat.le_refl _ | (simp; omega)
      · go_roundw
        case rel => exact ⟨k + 1, by omega, by go_num, Lib.hid (HW.out.alloc (by omega) _), Lib.hid (HB.out.alloc _), Lib.hid (findA_next HN.out hlt' ‹_›)⟩
        case measure => simp [intOf]; omega
    · obtain rfl : k = n := by omega
      have HN2 := Lib.hid (findA_none HN0.out HN.out)
      go_wp2_with fail
      refine bodyPost_ret (v := .tuple #[.agg #[.string At.none.nm, .string At.none.vl, .bool At.none.st], .bool false]) (by simp [results, Tryz.results92, go_sem, c0, c1, c2, At.none]) rfl ⟨ret_find (o := none) HN2.out.symm, ?_⟩
      refine Below.setCell (Below.setCell (Below.setCell HW.out ?_ _) ?_ _) ?_ _ <;> exact Nat.le_refl _

theorem has_any (l : List At) (A : Option Addr) (n c : Nat) (s : ByteArray) (w : World) (hn : l.length = n) (hl : n ≤ 1000000) (H : Holds w w.heap.size A l) :
    Calls Tryz.prog 77 #[.slice A n c, .string s] w fun e w' => e = .returned (.bool (hasA l s)) ∧ Below w.heap.size w w' := by
  have HH := Lib.hid H
  have HN0 := Lib.hid hn
  clear H hn
  go_enter Tryz.func77, Tryz.ntmps77
  go_wp2_with fail
  refine (find_any l A n c s _ HN0.out hl HH.out).mono ?_
  rintro e w1 ⟨rfl, b1⟩
  have B1 := Lib.hid b1
  clear b1
  go_wp2_with fail
  go_ret
  exact ⟨rfl, B1.out.alloc B1.out.size _⟩
theorem has_at (l : List At) (A : Option Addr) (n c : Nat) (s : ByteArray) (w : World) {r : Bool} (hr : hasA l s = r) (hn : l.length = n) (hl : n ≤ 1000000) (H : Holds w w.heap.size A l) :
    Calls Tryz.prog 77 #[.slice A n c, .string s] w fun e w' => e = .returned (.bool r) ∧ Below w.heap.size w w' := by
  subst hr; exact has_any l A n c s w hn hl H
end Go.Proofs.YtihjdmdafiifhaaGreat.P3

/- What each call of layer 1 and of its reference answers, for every string. -/
set_option linter.unusedVariables false
set_option linter.unusedSimpArgs false
namespace Go.Proofs.YtihjdmdafiifhaaGreat.P1
open Go.RowKit

theorem letter_any (c : UInt8) (w : World) : Calls Tryz.prog 88 #[.int .u8 (c.toNat : Int)] w fun e w' => e = .returned (.bool (letB c)) ∧ w = w' := by
  go_enter Tryz.func88, Tryz.ntmps88
  go_wp2_with fail
  all_goals (go_ret; exact ⟨ret_bool (by first | (rw [letB_no (by omega)]) | exact letB_mk (by omega)), rfl⟩)
theorem rletter_any (c : UInt8) (w : World) : Calls Tryz.prog 80 #[.int .u8 (c.toNat : Int)] w fun e w' => e = .returned (.bool (letB c)) ∧ w = w' := by
  go_enter Tryz.func80, Tryz.ntmps80
  go_wp2_with fail
  all_goals (go_ret; exact ⟨ret_bool (by first | (rw [letB_no (by omega)]) | exact letB_mk (by omega)), rfl⟩)
theorem digit_any (c : UInt8) (w : World) : Calls Tryz.prog 89 #[.int .u8 (c.toNat : Int)] w fun e w' => e = .returned (.bool (digB c)) ∧ w = w' := by
  go_enter Tryz.func89, Tryz.ntmps89
  go_wp2_with fail
  all_goals (go_ret; exact ⟨ret_bool (by first | (rw [digB_no (by omega)]) | (unfold digB; simp; omega)), rfl⟩)

theorem may_any (s : ByteArray) (w : World) (hs : s.size ≤ maxLen) : Calls Tryz.prog 72 #[.string s] w fun e w' => e = .returned (.bool (nameB s.data.toList)) ∧ w = w' := by
  unfold maxLen at hs
  by_cases h0 : s.size = 0
  · have hE : s.toList = [] := toList_nil h0
    have hE2 : s.toList.isEmpty = true := by rw [hE]; rfl
    go_enter Tryz.func72, Tryz.ntmps72
    go_wp2_with fail
    go_ret
    exact ⟨ret_bool (nameB_empty h0).symm, rfl⟩
  · have h1 : 0 < s.size := by omega
    have hE2 : s.toList.isEmpty = false := toList_cons h1
    have hE3 : ¬ s.toList = [] := by intro e; rw [e] at hE2; cases hE2
    clear h0
    by_cases h12 : 12 < s.size
    · go_enter Tryz.func72, Tryz.ntmps72
      go_wp2_with fail
      go_ret
      exact ⟨ret_bool (nameB_long h12).symm, rfl⟩
    · go_enter Tryz.func72, Tryz.ntmps72
      go_wp2_with fail
      refine (letter_any _ _).mono ?_
      rintro e w' ⟨rfl, rfl⟩
      cases hl : letB s[0]
      · go_wp2_with fail
        go_ret
        exact ⟨ret_bool (nameB_head h1 hl).symm, rfl⟩
      · have HL := Lib.hid hl
        go_wp2_with fail
        clear hl
        go_loop [3] (fun i => ∃ k : Nat, 1 ≤ k ∧ k ≤ s.size ∧ i = .int .i64 k ∧ InTo s k) (fun i => s.size - (intOf i).toNat)
        case atStart => exact ⟨1, by omega, by omega, rfl, InTo.one s⟩
        case round =>
          obtain ⟨k, hk1, hk, rfl, hin⟩ := hrel
          have HIN := Lib.hid hin
          clear hin
          by_cases hlt : k < s.size
          · go_wp2_with (first | (go_at_call 88; refine (letter_any _ _).mono ?_; rintro e w' ⟨rfl, rfl⟩) | (go_at_call 89; refine (digit_any _ _).mono ?_; rintro e w' ⟨rfl, rfl⟩))
            all_goals first | (go_ret; exact ⟨ret_bool (nameB_bad hk1 hlt (inB_no ‹_› ‹_› ‹_›)).symm, rfl⟩) | skip
            all_goals
              go_round
              case rel => exact ⟨k + 1, by omega, by omega, by go_num, HIN.out.next hlt (by first | exact inB_let ‹_› | exact inB_dig ‹_› | exact inB_dash ‹_›)⟩
              case measure => simp [intOf]; omega
          · obtain rfl : k = s.size := by omega
            go_wp2_with fail
            go_ret
            exact ⟨ret_bool (nameB_ok h1 (by omega) HL.out HIN.out).symm, rfl⟩

theorem rname_any (s : ByteArray) (w : World) (hs : s.size ≤ maxLen) : Calls Tryz.prog 59 #[.string s] w fun e w' => e = .returned (.bool (nameB s.data.toList)) ∧ w = w' := by
  unfold maxLen at hs
  by_cases h0 : s.size < 1
  · go_enter Tryz.func59, Tryz.ntmps59
    go_wp2_with fail
    go_ret
    exact ⟨ret_bool (nameB_empty (by omega)).symm, rfl⟩
  · have h1 : 0 < s.size := by omega
    clear h0
    by_cases h12 : 12 < s.size
    · go_enter Tryz.func59, Tryz.ntmps59
      go_wp2_with fail
      go_ret
      exact ⟨ret_bool (nameB_long h12).symm, rfl⟩
    · go_enter Tryz.func59, Tryz.ntmps59
      go_wp2_with fail
      go_loop [3] (fun i => ∃ k : Nat, 0 ≤ k ∧ k ≤ s.size ∧ i = .int .i64 k ∧ InTo s k ∧ (0 < k → letB s[0] = true)) (fun i => s.size - (intOf i).toNat)
      case atStart => exact ⟨0, by omega, by omega, rfl, fun _ _ _ h => absurd h (by omega), fun h => absurd h (by omega)⟩
      case round =>
        obtain ⟨k, hk1, hk, rfl, hin, hl0⟩ := hrel
        have HIN := Lib.hid hin
        have HL := Lib.hid hl0
        clear hin hl0
        by_cases hlt : k < s.size
        · by_cases hk0 : k = 0
          · subst hk0
            go_wp2_with (go_at_call 80; refine (rletter_any _ _).mono ?_; rintro e w' ⟨rfl, rfl⟩)
            all_goals first | (go_ret; exact ⟨ret_bool (nameB_head h1 (Bool.eq_false_iff.mpr ‹_›)).symm, rfl⟩) | skip
            go_round
            case rel => exact ⟨1, by omega, by omega, rfl, InTo.one s, fun _ => ‹_›⟩
            case measure => simp [intOf]; omega
          · have hk1 : 1 ≤ k := by omega
            have hk2 : ((k : Int) == 0) = false := by simpa using hk0
            clear hk0
            by_cases hd1 : (s[k].toNat : Int) < 48
            · cases hd3 : ((s[k].toNat : Int) != 45)
              all_goals
                go_wp2_with (go_at_call 80; refine (rletter_any _ _).mono ?_; rintro e w' ⟨rfl, rfl⟩)
                all_goals first | (go_ret; exact ⟨ret_bool (nameB_bad hk1 hlt (inB_no' ‹_› (by omega) hd3)).symm, rfl⟩) | skip
                all_goals
                  go_round
                  case rel => exact ⟨k + 1, by omega, by omega, by go_num, HIN.out.next hlt (by first | exact inB_let ‹_› | exact inB_dash ‹_›), fun _ => HL.out hk1⟩
                  case measure => simp [intOf]; omega
            · have hd1' : 48 ≤ (s[k].toNat : Int) := by omega
              by_cases hd2 : 57 < (s[k].toNat : Int)
              · have hd3 : ((s[k].toNat : Int) != 45) = true := by simp; omega
                go_wp2_with (go_at_call 80; refine (rletter_any _ _).mono ?_; rintro e w' ⟨rfl, rfl⟩)
                all_goals first | (go_ret; exact ⟨ret_bool (nameB_bad hk1 hlt (inB_no' ‹_› (by omega) hd3)).symm, rfl⟩) | skip
                all_goals
                  go_round
                  case rel => exact ⟨k + 1, by omega, by omega, by go_num, HIN.out.next hlt (inB_let ‹_›), fun _ => HL.out hk1⟩
                  case measure => simp [intOf]; omega
              · go_wp2_with (go_at_call 80; refine (rletter_any _ _).mono ?_; rintro e w' ⟨rfl, rfl⟩)
                all_goals
                  go_round
                  case rel => exact ⟨k + 1, by omega, by omega, by go_num, HIN.out.next hlt (inB_dig' hd1' (by omega)), fun _ => HL.out hk1⟩
                  case measure => simp [intOf]; omega
        · obtain rfl : k = s.size := by omega
          go_wp2_with fail
          go_ret
          exact ⟨ret_bool (nameB_ok h1 (by omega) (HL.out h1) HIN.out).symm, rfl⟩

theorem text_any (s : ByteArray) (w : World) (hs : s.size ≤ maxLen) : Calls Tryz.prog 56 #[.string s] w fun e w' => e = .returned (.bool (textB s.data.toList)) ∧ w = w' := by
  unfold maxLen at hs
  by_cases h60 : 60 < s.size
  · go_enter Tryz.func56, Tryz.ntmps56
    go_wp2_with fail
    go_ret
    exact ⟨ret_bool (textB_long h60).symm, rfl⟩
  · go_enter Tryz.func56, Tryz.ntmps56
    go_wp2_with fail
    go_loop [3] (fun i => ∃ k : Nat, 0 ≤ k ∧ k ≤ s.size ∧ i = .int .i64 k ∧ OkTo s k) (fun i => s.size - (intOf i).toNat)
    case atStart => exact ⟨0, by omega, by omega, rfl, OkTo.zero s⟩
    case round =>
      obtain ⟨k, hk1, hk, rfl, hin⟩ := hrel
      have HIN := Lib.hid hin
      clear hin
      by_cases hlt : k < s.size
      · by_cases hb : (s[k].toNat : Int) < 32
        · go_wp2_with fail
          go_ret
          exact ⟨ret_bool (textB_bad hlt (.inl hb)).symm, rfl⟩
        · have hb1 : 32 ≤ (s[k].toNat : Int) := by omega
          by_cases hb2 : 126 < (s[k].toNat : Int)
          · go_wp2_with fail
            go_ret
            exact ⟨ret_bool (textB_bad hlt (.inr hb2)).symm, rfl⟩
          · go_wp2_with fail
            go_round
            case rel => exact ⟨k + 1, by omega, by omega, by go_num, HIN.out.next hlt hb1 (by omega)⟩
            case measure => simp [intOf]; omega
      · obtain rfl : k = s.size := by omega
        go_wp2_with fail
        go_ret
        exact ⟨ret_bool (textB_ok (by omega) HIN.out).symm, rfl⟩

theorem rtext_any (s : ByteArray) (w : World) (hs : s.size ≤ maxLen) : Calls Tryz.prog 39 #[.string s] w fun e w' => e = .returned (.bool (textB s.data.toList)) ∧ w = w' := by
  unfold maxLen at hs
  go_enter Tryz.func39, Tryz.ntmps39
  go_wp2_with fail
  go_loop [3] (fun i => ∃ k : Nat, 0 ≤ k ∧ k ≤ s.size ∧ i = .int .i64 k ∧ OkTo s k) (fun i => s.size - (intOf i).toNat)
  case atStart => exact ⟨0, by omega, by omega, rfl, OkTo.zero s⟩
  case round =>
    obtain ⟨k, hk1, hk, rfl, hin⟩ := hrel
    have HIN := Lib.hid hin
    clear hin
    by_cases hlt : k < s.size
    · by_cases hb : (s[k].toNat : Int) < 32
      · go_wp2_with fail
        go_ret
        exact ⟨ret_bool (textB_bad hlt (.inl hb)).symm, rfl⟩
      · have hb1 : 32 ≤ (s[k].toNat : Int) := by omega
        by_cases hb2 : 126 < (s[k].toNat : Int)
        · go_wp2_with fail
          go_ret
          exact ⟨ret_bool (textB_bad hlt (.inr hb2)).symm, rfl⟩
        · go_wp2_with fail
          go_round
          case rel => exact ⟨k + 1, by omega, by omega, by go_num, HIN.out.next hlt hb1 (by omega)⟩
          case measure => simp [intOf]; omega
    · obtain rfl : k = s.size := by omega
      go_wp2_with fail
      go_ret
      exact ⟨ret_bool (by rw [textB_all HIN.out]; exact decide_eq_decide.mpr (by omega)), rfl⟩
end Go.Proofs.YtihjdmdafiifhaaGreat.P1
