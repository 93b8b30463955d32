/- slices.Insert of one integer, laid by the shelf: at whatever place, with room or without. -/
import Derived.Shelf.Spec.SlicesInsertGrow
import Derived.Test.YtkagaobelhpojaaM9
import Derived.Test.YtkagaobelhpojaaM10
set_option linter.unusedVariables false
set_option linter.unusedSimpArgs false
namespace Go.Proofs.Ytkagaobelhpojaa.P5
open Go.RowKit Kd P4

def ren21 : Go.Shelf.Ren := ⟨fun | 21 => 91 | 27 => 111 | 28 => 112 | 35 => 122 | 39 => 125 | n => n, fun | 0 => 0 | 3 => 3 | 4 => 4 | 22 => 50 | n => n, fun | n => n⟩
theorem lays21 : Go.Proofs.Lays2.n21 Try.prog ren21 := {
  mixed := by kernel_rfl
  f21 := Try.func91.trans (congrArg some (by kernel_rfl))
  f27 := Try.func111.trans (congrArg some (by kernel_rfl))
  f28 := Try.func112.trans (congrArg some (by kernel_rfl))
  f35 := Try.func122.trans (congrArg some (by kernel_rfl))
  f39 := Try.func125.trans (congrArg some (by kernel_rfl))
  t0 := Try.underlying0
  a0 := Try.isAgg0
  z0 := Try.sizeOf0
  v0 := Try.zeroValue0
  t3 := Try.underlying3
  a3 := Try.isAgg3
  z3 := Try.sizeOf3
  v3 := Try.zeroValue3
  t4 := Try.underlying4
  a4 := Try.isAgg4
  z4 := Try.sizeOf4
  v4 := Try.zeroValue4
  t22 := Try.underlying50
  a22 := Try.isAgg50
  z22 := Try.sizeOf50
  v22 := Try.zeroValue50
  i3 := infoI }

theorem ins_row {c2 : Array Value} {C : List Value} {n i : Nat} {u : Value} (hC : C.length = n) (hi : i ≤ n) (hs : n + 1 ≤ c2.size) (h : ∀ k, k < n + 1 → c2[k]? = if k < i then C[k]? else if k = i then some u else C[k - 1]?) :
    c2.toList.take (n + 1) = C.take i ++ u :: C.drop i := by
  apply List.ext_getElem?
  intro k
  rw [List.getElem?_take]
  have hti : (C.take i).length = i := by rw [List.length_take]; omega
  by_cases hk : k < n + 1
  · rw [if_pos hk, Array.getElem?_toList, h k hk]
    by_cases h1 : k < i
    · rw [if_pos h1, List.getElem?_append_left (by omega), List.getElem?_take, if_pos h1]
    · rw [if_neg h1, List.getElem?_append_right (by omega), hti]
      by_cases h2 : k = i
      · subst h2; simp
      · obtain ⟨m, rfl⟩ : ∃ m, k = i + (m + 1) := ⟨k - i - 1, by omega⟩
        rw [if_neg h2, show i + (m + 1) - i = m + 1 by omega, List.getElem?_cons_succ, List.getElem?_drop, show i + (m + 1) - 1 = i + m by omega]
  · rw [if_neg hk, List.getElem?_eq_none]
    simp only [List.length_append, List.length_cons, List.length_drop, hti]
    omega
theorem cells_ins (l : List Int) (i : Nat) (t : Int) : kI.cells (l.take i ++ t :: l.drop i) = (kI.cells l).take i ++ .int .i64 t :: (kI.cells l).drop i := by
  rw [Kind.cells_append]
  show _ ++ kI.cells ([t] ++ l.drop i) = _
  rw [Kind.cells_append, Kind.cells_take, Kind.cells_drop]
  have : i * kI.size = i := Nat.mul_one i
  rw [this]
  rfl
theorem kI_len (l : List Int) : (kI.cells l).length = l.length := by rw [Kind.cells_len]; exact Nat.mul_one _

def Inserted (w : World) (B : Nat) (v : Value) (l : List Int) (e : Ending) (w' : World) : Prop :=
  ∃ A n c, e = .returned (.slice A n c) ∧ kI.Own w' B (.slice A n c) l ∧ But (fun k => v.ownBlock = some k) w w' ∧ ∀ g, (Value.slice A n c).ownBlock = some g → v.ownBlock = some g ∨ w.heap.size ≤ g
set_option maxHeartbeats 1000000 in
theorem insert_any (l : List Int) (t : Int) (i : Nat) {B vb : Nat} {v : Value} (w : World) (hi : i ≤ l.length) (hl : l.length ≤ 1000000) (hB : B ≤ w.heap.size) (h : kI.Own w B v l)
    (hb : w.heap[vb]? = some (.cells #[.int .i64 t] 3 (0, 0))) (hne : v.ownBlock ≠ some vb) :
    Calls Try.prog 91 #[v, .int .i64 i, .slice (some ⟨vb, 0, none⟩) 1 1] w (Inserted w B v (l.take i ++ t :: l.drop i)) := by
  have hvs : ∀ j u, ([.int .i64 t] : List Value)[j]? = some u → w.cell? ⟨vb, 0 + j, none⟩ = some u := by
    intro j u hj
    cases j with
    | zero =>
      have : Value.int .i64 t = u := by simpa using hj
      subst this
      exact cell_of_row w vb 0 _ _ (0, 0) hb
    | succ j => simp at hj
  have h1v : ∀ u ∈ ([.int .i64 t] : List Value), u.oneCell' = true := by intro u hu; simp at hu; subst hu; rfl
  have h1c : ∀ u ∈ kI.cells l, u.oneCell' = true := Kind.cells_one _ _
  have grow : ∀ (W : World) (g : Nat) (cur : Array Value) (c : Nat), B ≤ g → W.heap[g]? = some (.cells cur 3 (0, 0)) → l.length + 1 ≤ c → c ≤ maxLen → cur.size = c → (∀ k, k < l.length + 1 → cur[k]? = if k < i then (kI.cells l)[k]? else if k = i then some (.int .i64 t) else (kI.cells l)[k - 1]?) →
      kI.Own W B (.slice (some ⟨g, 0, none⟩) (l.length + 1) c) (l.take i ++ t :: l.drop i) := by
    intro W g cur c hg hh h1 h2 h3 h4
    refine Kind.own_mk (cur := cur) (by simp; omega) hg hh h1 h2 (by rw [h3]; exact (Nat.mul_one c).symm) ?_
    rw [show (l.length + 1) * kI.size = l.length + 1 from Nat.mul_one _, ins_row (kI_len l) hi (by omega) h4, cells_ins]
  have hG63 : ∀ c, grownCap w (l.length + 1) c 3 ≤ maxLen := fun c => grownCap_le_maxLen w _ c _ (by unfold maxLen; omega)
  have hGn : ∀ c, l.length + 1 ≤ grownCap w (l.length + 1) c 3 := fun c => grownCap_ge w _ c _
  have hzc : ∀ k, (Builtin.zeroCells (Value.int .i64 0).cells k).size = k := fun k => by simp [Builtin.zeroCells, Value.cells]
  have happ : ∀ (c : Nat) (k : Nat), k < l.length + 1 → i = l.length → ((kI.cells l ++ [Value.int .i64 t]).toArray ++ Builtin.zeroCells (Value.int .i64 0).cells c)[k]? = if k < i then (kI.cells l)[k]? else if k = i then some (.int .i64 t) else (kI.cells l)[k - 1]? := by
    intro c k hk hil
    have hsz : (kI.cells l ++ [Value.int .i64 t]).toArray.size = l.length + 1 := by simp [kI_len]
    rw [Array.getElem?_append_left (by omega), List.getElem?_toArray]
    by_cases h1 : k < i
    · rw [if_pos h1, List.getElem?_append_left (by rw [kI_len]; omega)]
    · rw [if_neg h1, List.getElem?_append_right (by rw [kI_len]; omega), kI_len, if_pos (by omega), show k - l.length = 0 by omega]
      rfl
  rcases h.form with ⟨rfl, rfl⟩ | ⟨g, c, cur, rfl, _, hBg, hlt, hh, hnc, hcm, hcs, hta⟩
  · obtain rfl : i = 0 := by simpa using hi
    refine (Any2.slices_Insert_int_end_grow lays21 none 0 0 vb 0 1 1 [] [.int .i64 t] w (by omega) (by omega) (by omega) (by omega) rfl rfl (fun _ => rfl) (fun a ha => by cases ha) hvs h1v).mono ?_
    rintro e w' ⟨rfl, rfl⟩
    have hsz := happ (grownCap w 1 0 3 - 1)
    refine ⟨some ⟨w.heap.size, 0, none⟩, 1, grownCap w 1 0 3, rfl, ?_, But.alloc (But.drew (But.refl _ _)) _, fun g hg => .inr (by simp [Value.ownBlock] at hg; omega)⟩
    exact grow _ w.heap.size _ _ hB (heap_alloc_new w.drew _) (hGn 0) (hG63 0) (by have := hGn 0; simp at this; simp [hzc, show ren21.t 3 = 3 from rfl]; omega) (fun k hk => hsz k hk rfl)
  · have hcs' : cur.size = c := hcs.trans (Nat.mul_one c)
    have hta' : cur.toList.take l.length = kI.cells l := by rw [← hta]; exact congrArg (fun m => cur.toList.take m) (Nat.mul_one _).symm
    have hcur : ∀ k, k < l.length → (kI.cells l)[k]? = cur[k]? := fun k hk => by rw [← hta', List.getElem?_take, if_pos hk, Array.getElem?_toList]
    have hcc : ∀ j u, (kI.cells l)[j]? = some u → w.cell? ⟨g, 0 + j, none⟩ = some u := by
      intro j u hj
      have hjl := (List.getElem?_eq_some_iff.1 hj).1
      rw [kI_len] at hjl
      rw [Nat.zero_add, cell_of_row w g j _ _ _ hh, ← hcur j hjl]
      exact hj
    have hcell : ∀ k, w.cell? ⟨g, k, none⟩ = cur[k]? := fun k => cell_of_row w g k _ _ _ hh
    have hfz : ∀ k, w.frozen? ⟨g, k, none⟩ = false := fun k => by simp [World.frozen?, hh]
    have hhi : w.heap[g]? = some (.cells cur 3 (0, 0)) := hh
    have hgv : vb ≠ g := fun e => hne (by rw [e]; rfl)
    by_cases hil : i = l.length
    · subst hil
      by_cases hroom : l.length + 1 ≤ c
      · refine (Any2.slices_Insert_int_end_room lays21 g 0 l.length c vb 0 1 1 [.int .i64 t] w (by omega) hroom (by unfold maxLen at hcm; omega) rfl (fun j hj => by rw [hcell, Array.getElem?_eq_getElem (by omega)]; rfl) (fun j _ => hfz _) hvs h1v).mono ?_
        rintro e w' ⟨rfl, rfl⟩
        obtain ⟨c1, k1, k2, k3⟩ := heap_setCells g [.int .i64 t] (0 + l.length) w cur _ _ hh
        refine ⟨some ⟨g, 0, none⟩, l.length + 1, c, rfl, ?_, But.setCells (S := fun k => (Value.slice (some ⟨g, 0, none⟩) l.length c).ownBlock = some k) (But.refl _ _) (fun _ => rfl) _ _, fun g' hg => .inl hg⟩
        refine grow _ g c1 c hBg k1 hroom hcm (by omega) (fun k hk => ?_)
        rw [k3 k (by omega)]
        by_cases h1 : k < l.length
        · rw [if_neg (by simp; omega), if_pos h1, hcur k h1]
        · rw [if_pos (by simp; omega), if_neg h1, if_pos (by omega), show k - (0 + l.length) = 0 by omega]
          rfl
      · refine (Any2.slices_Insert_int_end_grow lays21 (some ⟨g, 0, none⟩) l.length c vb 0 1 1 (kI.cells l) [.int .i64 t] w (by omega) hnc (by omega) (by omega) (kI_len l) rfl (fun e => by cases e) (fun a ha j u hj => by injection ha with ha; subst ha; rw [Addr.add_lit]; exact hcc j u hj) hvs h1v).mono ?_
        rintro e w' ⟨rfl, rfl⟩
        refine ⟨some ⟨w.heap.size, 0, none⟩, l.length + 1, grownCap w (l.length + 1) c 3, rfl, ?_, But.alloc (But.drew (But.refl _ _)) _, fun g hg => .inr (by simp [Value.ownBlock] at hg; omega)⟩
        exact grow _ w.heap.size _ _ hB (heap_alloc_new w.drew _) (hGn c) (hG63 c) (by have := hGn c; simp [hzc, kI_len, show ren21.t 3 = 3 from rfl]; omega) (fun k hk => happ _ k hk rfl)
    · have hil' : i < l.length := by omega
      by_cases hroom : l.length + 1 ≤ c
      · refine (Any2.slices_Insert_int_shift lays21 g 0 l.length c i vb 0 1 1 (kI.cells l) [.int .i64 t] w hil' (by omega) hroom (by unfold maxLen at hcm; omega) hgv (kI_len l) rfl hcc (fun j hj => by rw [hcell, Array.getElem?_eq_getElem (by omega)]; rfl) (fun j _ => hfz _) hvs h1c h1v 3 3 1 c (by simp [World.shape?, hb]) (by simp [World.shape?, hhi, hcs']) (by omega) (by simp [World.frozen?, hb]) (by simp [World.frozen?, hb])).mono ?_
        rintro e w' ⟨rfl, rfl⟩
        obtain ⟨c1, k1, k2, k3⟩ := heap_setCells g ((kI.cells l).drop i) (0 + (i + 1)) w.drew cur _ _ hh
        obtain ⟨c2, m1, m2, m3⟩ := heap_setCells g [.int .i64 t] (0 + i) _ c1 _ _ k1
        refine ⟨some ⟨g, 0, none⟩, l.length + 1, c, rfl, ?_, But.setCells (S := fun k => (Value.slice (some ⟨g, 0, none⟩) l.length c).ownBlock = some k) (But.setCells (S := fun k => (Value.slice (some ⟨g, 0, none⟩) l.length c).ownBlock = some k) (But.drew (But.refl _ _)) (fun _ => rfl) _ _) (fun _ => rfl) _ _, fun g' hg => .inl hg⟩
        refine grow _ g c2 c hBg m1 hroom hcm (by omega) (fun k hk => ?_)
        rw [m3 k (by omega)]
        by_cases h1 : k < i
        · rw [if_neg (by simp; omega), if_pos h1, k3 k (by omega), if_neg (by omega), hcur k (by omega)]
        · rw [if_neg h1]
          by_cases h2 : k = i
          · rw [if_pos (by simp; omega), if_pos h2, show k - (0 + i) = 0 by omega]
            rfl
          · rw [if_neg (by simp; omega), if_neg h2, k3 k (by omega), if_pos (by rw [List.length_drop, kI_len]; omega), List.getElem?_drop, show i + (k - (0 + (i + 1))) = k - 1 by omega]
      · refine (Any2.slices_Insert_int_grow lays21 g 0 l.length c i vb 0 1 1 (kI.cells l) [.int .i64 t] w hil' (by omega) hnc (by omega) (by omega) (kI_len l) rfl hcc hvs h1c h1v).mono ?_
        rintro e w' ⟨rfl, rfl⟩
        obtain ⟨G, hG⟩ : ∃ G, G = grownCap w (l.length + 1) c 3 := ⟨_, rfl⟩
        have hGn' := hGn c
        have hG63' := hG63 c
        simp only [show ren21.t 3 = 3 from rfl]
        rw [← hG] at hGn' hG63' ⊢
        obtain ⟨row, hrow⟩ : ∃ row, row = ((kI.cells l).take i).toArray ++ Builtin.zeroCells (Value.int .i64 0).cells (l.length + 1 - i) ++ Builtin.zeroCells (Value.int .i64 0).cells (G - (l.length + 1)) := ⟨_, rfl⟩
        rw [← hrow]
        have hrs : row.size = G := by
          rw [hrow]; simp [hzc, kI_len]; omega
        have hr1 : ∀ k, k < i → row[k]? = (kI.cells l)[k]? := by
          intro k hk
          rw [hrow, Array.getElem?_append_left (by simp [hzc, kI_len]; omega), Array.getElem?_append_left (by simp [kI_len]; omega), List.getElem?_toArray, List.getElem?_take, if_pos hk]
        have hh0 : (w.alloc (.cells row 3)).drew.heap[w.heap.size]? = some (.cells row 3 (0, 0)) := heap_alloc_new w _
        obtain ⟨c1, k1, k2, k3⟩ := heap_setCells w.heap.size [.int .i64 t] i _ row _ _ hh0
        have k1' : ((w.alloc (.cells row 3)).drew.setCells w.heap.size i [.int .i64 t]).drew.heap[w.heap.size]? = some (.cells c1 3 (0, 0)) := k1
        obtain ⟨c2, m1, m2, m3⟩ := heap_setCells w.heap.size ((kI.cells l).drop i) (i + 1) _ c1 _ _ k1'
        refine ⟨some ⟨w.heap.size, 0, none⟩, l.length + 1, G, rfl, ?_, ?_, fun g hg => .inr (by simp [Value.ownBlock] at hg; omega)⟩
        · refine grow _ w.heap.size c2 G hB m1 hGn' hG63' (by omega) (fun k hk => ?_)
          rw [m3 k (by omega)]
          by_cases h1 : k < i
          · rw [if_neg (by omega), if_pos h1, k3 k (by omega), if_neg (by simp; omega), hr1 k h1]
          · rw [if_neg h1]
            by_cases h2 : k = i
            · rw [if_neg (by omega), if_pos h2, k3 k (by omega), if_pos (by simp; omega), show k - i = 0 by omega]
              rfl
            · rw [if_pos (by rw [List.length_drop, kI_len]; omega), if_neg h2, List.getElem?_drop, show i + (k - (i + 1)) = k - 1 by omega]
        · exact But.setCells (But.drew (But.setCells (But.drew (But.alloc (But.refl _ _) _)) (fun e => absurd e (by omega)) _ _)) (fun e => absurd e (by omega)) _ _
end Go.Proofs.Ytkagaobelhpojaa.P5

/- What the reference's May and Same answer, for every list that isn't too long. -/
namespace Go.Proofs.Ytkagaobelhpojaa.P3
open Go.RowKit

theorem rname_at (s : ByteArray) (w : World) {r : Bool} (h : P1.nameB s.data.toList = r) (hs : s.size ≤ maxLen) : Calls Try.prog 72 #[.string s] w fun e w' => e = .returned (.bool r) ∧ w = w' := by
  subst h; exact P1.rname_any s w hs
theorem rtext_at (s : ByteArray) (w : World) {r : Bool} (h : P1.textB s.data.toList = r) (hs : s.size ≤ maxLen) : Calls Try.prog 63 #[.string s] w fun e w' => e = .returned (.bool r) ∧ w = w' := by
  subst h; exact P1.rtext_any s w hs

set_option maxHeartbeats 400000 in
theorem rsame_any (l m : List At) (A B : Option Addr) (n n' c d : Nat) (w : World) (hn : l.length = n) (hn' : m.length = n') (hl : n ≤ 1000000) (hm : n' ≤ 1000000) (H : Holds w w.heap.size A l) (H2 : Holds w w.heap.size B m) :
    Calls Try.prog 76 #[.slice A n c, .slice B n' d] w fun e w' => e = .returned (.bool (sameA l m)) ∧ Below w.heap.size w w' := by
  have HH := Lib.hid H
  have HH2 := Lib.hid H2
  have HN := Lib.hid hn
  have HN' := Lib.hid hn'
  clear H H2 hn hn'
  by_cases hlen : n = n'
  · subst hlen
    go_enter Try.func76, Try.ntmps76
    go_wp2_with fail
    go_loopw [5] (fun i wr => ∃ k : Nat, k ≤ n ∧ i = .int .i64 k ∧ Hid (Below w.heap.size w wr) ∧ Hid (SameTo l m k)) (fun i _ => n - (intOf i).toNat)
    case atStart => exact ⟨0, by omega, rfl, Lib.hid (Below.refl _ _), Lib.hid (SameTo.zero _ _)⟩
    case round =>
      obtain ⟨k, hk, rfl, HW, HS⟩ := hrel
      by_cases hlt : k < n
      · have hlt1 : k < l.length := by have := HN.out; omega
        have hlt2 : k < m.length := by have := HN'.out; omega
        obtain ⟨b, o, rfl, hb, h0, h1, h2⟩ := (HH.out.below HW.out (Nat.le_refl _)) k hlt1
        obtain ⟨b', o', rfl, hb', h0', h1', h2'⟩ := (HH2.out.below HW.out (Nat.le_refl _)) k hlt2
        have hg := eqg
        cases hat : atB l[k] m[k]
        · have hq := neq_at hat
          have HAT := Lib.hid hat
          clear hat
          go_wp2_with fail
          go_quiet (fail)
          go_wp2_with fail
          go_ret
          exact ⟨ret_bool (sameA_bad hlt1 hlt2 HAT.out).symm, Below_drewN HW.out _⟩
        · have hq := neq_at hat
          have HAT := Lib.hid hat
          clear hat
          go_wp2_with fail
          go_quiet (fail)
          go_wp2_with fail
          go_roundw
          case rel => exact ⟨k + 1, by omega, by go_num, Lib.hid (Below_drewN HW.out _), Lib.hid (HS.out.next hlt1 hlt2 HAT.out)⟩
          case measure => simp [intOf]; omega
      · obtain rfl : k = n := by omega
        go_wp2_with fail
        go_ret
        exact ⟨ret_bool (HS.out.all HN.out HN'.out).symm, HW.out⟩
  · have he : ((n : Int) != (n' : Int)) = true := by simp; omega
    have HL : Hid (l.length ≠ m.length) := Lib.hid (by rw [HN.out, HN'.out]; exact hlen)
    clear hlen
    go_enter Try.func76, Try.ntmps76
    go_wp2_with fail
    go_ret
    exact ⟨ret_bool (sameA_len HL.out).symm, Below.refl _ _⟩

theorem hasA_of {l : List At} {s : ByteArray} {j k : Nat} (hj : j < l.length) (hjk : j < k) (he : (l[j].nm.toList == s.toList) = true) : hasA (l.take k) s = true :=
  hasA_iff.2 ⟨l[j], List.mem_take_iff_getElem.2 ⟨j, by omega, rfl⟩, by simpa using he⟩
theorem hasA_no {l : List At} {s : ByteArray} (h : findA l s = none) : hasA l s = false := by unfold hasA; rw [h]; rfl

set_option maxHeartbeats 1000000 in
theorem rmay_any (l : List At) (A : Option Addr) (n c : Nat) (w : World) (hn : l.length = n) (hl : n ≤ 1000000) (hwf : Wf l) (H : Holds w w.heap.size A l) :
    Calls Try.prog 62 #[.slice A n c] w fun e w' => e = .returned (.bool (mayA l)) ∧ Below w.heap.size w w' := by
  have HH := Lib.hid H
  have HN := Lib.hid hn
  have HF := Lib.hid hwf
  clear H hn hwf
  go_enter Try.func62, Try.ntmps62
  go_wp2_with fail
  go_loopw [3] (fun i wr => ∃ k : Nat, k ≤ n ∧ i = .int .i64 k ∧ Hid (Below w.heap.size w wr) ∧ Hid (GoodTo l k)) (fun i _ => n - (intOf i).toNat)
  case atStart => exact ⟨0, by omega, rfl, Lib.hid (Below.refl _ _), Lib.hid (GoodTo.zero _)⟩
  case round =>
    obtain ⟨k, hk, rfl, HW, HG⟩ := hrel
    by_cases hlt : k < n
    · have hlt' : k < l.length := by have := HN.out; omega
      obtain ⟨b, o, hA, hb, h0, h1, h2⟩ := (HH.out.below HW.out (Nat.le_refl _)) k hlt'
      subst hA
      obtain ⟨hs1, hs2⟩ := HF.out.at_ hlt'
      cases hnm : P1.nameB l[k].nm.data.toList
      · have HNM := Lib.hid hnm
        clear hnm
        go_wp2_with fail
        refine (rname_at _ _ HNM.out hs1).mono ?_
        rintro e w' ⟨rfl, rfl⟩
        go_wp2_with fail
        refine (P1.rtext_any _ _ hs2).mono ?_
        rintro e w' ⟨rfl, rfl⟩
        go_wp2_with fail
        go_ret
        exact ⟨ret_bool (mayA_bad hlt' (by rw [goodA_at hlt', HNM.out]; rfl)).symm, HW.out⟩
      · have HNM := Lib.hid hnm
        clear hnm
        cases htx : P1.textB l[k].vl.data.toList
        · have HTX := Lib.hid htx
          clear htx
          go_wp2_with fail
          refine (rname_at _ _ HNM.out hs1).mono ?_
          rintro e w' ⟨rfl, rfl⟩
          go_wp2_with fail
          refine (rtext_at _ _ HTX.out hs2).mono ?_
          rintro e w' ⟨rfl, rfl⟩
          go_wp2_with fail
          go_ret
          exact ⟨ret_bool (mayA_bad hlt' (by rw [goodA_at hlt', HTX.out]; simp)).symm, HW.out⟩
        · have HTX := Lib.hid htx
          clear htx
          go_wp2_with fail
          refine (rname_at _ _ HNM.out hs1).mono ?_
          rintro e w' ⟨rfl, rfl⟩
          go_wp2_with fail
          refine (rtext_at _ _ HTX.out hs2).mono ?_
          rintro e w' ⟨rfl, rfl⟩
          go_wp2_with fail
          obtain ⟨wo, rfl⟩ : ∃ wo : World, wo = wr := ⟨_, rfl⟩
          go_loopw [6] (fun i wr => ∃ j : Nat, j ≤ k ∧ i = .int .i64 j ∧ Hid (Below w.heap.size w wr) ∧ Hid (findA (l.take j) l[k].nm = none)) (fun i _ => k - (intOf i).toNat)
          case atStart => exact ⟨0, by omega, rfl, HW, Lib.hid (by simp [findA])⟩
          case round =>
            obtain ⟨j, hj, rfl, HWi, HFi⟩ := hrel
            by_cases hjk : j < k
            · have hjl : j < l.length := by omega
              obtain ⟨b', o', hA', hb', g0, g1, g2⟩ := (HH.out.below HWi.out (Nat.le_refl _)) j hjl
              obtain ⟨b'', o'', hA'', hb'', q0, q1, q2⟩ := (HH.out.below HWi.out (Nat.le_refl _)) k hlt'
              injection hA' with hA'
              injection hA' with e1 e2
              subst e1; subst e2
              injection hA'' with hA''
              injection hA'' with e1 e2
              subst e1; subst e2
              cases he : (l[j].nm.toList == l[k].nm.toList)
              · have HE := Lib.hid he
                go_wp2_with fail
                go_quiet (fail)
                go_wp2_with fail
                go_roundw
                case rel => exact ⟨j + 1, by omega, by go_num, Lib.hid (Below_drewN HWi.out _), Lib.hid (findA_next HFi.out hjl HE.out)⟩
                case measure => simp [intOf]; omega
              · have HE := Lib.hid he
                go_wp2_with fail
                go_quiet (fail)
                go_wp2_with fail
                go_ret
                exact ⟨ret_bool (mayA_bad hlt' (by rw [goodA_at hlt', hasA_of hjl hjk HE.out]; simp)).symm, Below_drewN HWi.out _⟩
            · obtain rfl : j = k := by omega
              go_wp2_with fail
              go_roundw
              case rel => exact ⟨j + 1, by omega, by go_num, HWi, Lib.hid (HG.out.next (by rw [goodA_at hlt', HNM.out, HTX.out, hasA_no HFi.out]; rfl))⟩
              case measure => simp [intOf]; omega
    · obtain rfl : k = n := by omega
      go_wp2_with fail
      go_ret
      exact ⟨ret_bool (by rw [mayA_ok HG.out HN.out]; exact decide_eq_decide.mpr (by omega)), HW.out⟩
end Go.Proofs.Ytkagaobelhpojaa.P3
