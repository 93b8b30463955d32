/- The slices that layer 5 has, beside those of integers: of slots of nodes, of nodes, of attributes, of the law's deeds. No condition. -/
import Derived.Deep.RegionLaw
import Derived.Lib.SliceRun
import Derived.Test.YtihjdmdafiifhaaGreatM2
set_option linter.unusedVariables false
set_option linter.unusedSimpArgs false
set_option linter.unusedVariables false
set_option linter.unusedSimpArgs false
namespace Go.Proofs.YtihjdmdafiifhaaGreat.P4
open Go.RowKit Kd

theorem infoSP : (Tryz.prog.info? 110).map (fun i => (i.zero, i.size, i.bytes)) = some (some (.agg #[.int .i64 0, .pointer none]), 2, 16) := by kernel_rfl
theorem infoA : (Tryz.prog.info? 102).map (fun i => (i.zero, i.size, i.bytes)) = some (some (.agg #[.string ⟨#[]⟩, .string ⟨#[]⟩, .bool false]), 3, 40) := by kernel_rfl
theorem infoN : (Tryz.prog.info? 34).map (fun i => (i.zero, i.size, i.bytes)) = some (some (.agg #[.int .i64 0, .int .i64 0, .string ⟨#[]⟩, .string ⟨#[]⟩, .string ⟨#[]⟩, .slice none 0 0, .slice none 0 0, .int .i64 0]), 8, 120) := by kernel_rfl
theorem infoE : (Tryz.prog.info? 59).map (fun i => (i.zero, i.size, i.bytes)) = some (some (.agg #[.int .i64 0, .bool false, .int .i64 0, .int .i64 0, .int .i64 0, .int .i64 0, .string ⟨#[]⟩, .string ⟨#[]⟩, .string ⟨#[]⟩, .slice none 0 0, .int .i64 0, .int .i64 0]), 12, 136) := by kernel_rfl

def kSP : Kind Tryz.prog (Sl Nat) where
  t := 114
  e := 110
  size := 2
  bytes := 16
  z := .agg #[.int .i64 0, .pointer none]
  cs := fun a => [.int .i64 a.id, .pointer (some ⟨a.x, 0, none⟩)]
  ht := Tryz.underlying114
  info := info_ex infoSP
  hzs := rfl
  hpos := by decide
  hbb := by decide
  len := fun _ => rfl
  one := fun a u hu => by simp at hu; rcases hu with rfl | rfl <;> rfl
def kA : Kind Tryz.prog P3.At where
  t := 32
  e := 102
  size := 3
  bytes := 40
  z := .agg #[.string ⟨#[]⟩, .string ⟨#[]⟩, .bool false]
  cs := fun a => [.string a.nm, .string a.vl, .bool a.st]
  ht := Tryz.underlying32
  info := info_ex infoA
  hzs := rfl
  hpos := by decide
  hbb := by decide
  len := fun _ => rfl
  one := fun a u hu => by simp at hu; rcases hu with rfl | rfl | rfl <;> rfl

/-- a slice, as a value that lies in a cell -/
structure Sv where
  A : Option Addr
  n : Nat
  c : Nat
def Sv.val (s : Sv) : Value := .slice s.A s.n s.c
/-- a node as its cells are -/
structure RN where
  id : Int
  par : Int
  tag : ByteArray
  txt : ByteArray
  key : ByteArray
  va : Sv
  vk : Sv
  note : Int
def RN.cells (a : RN) : List Value := [.int .i64 a.id, .int .i64 a.par, .string a.tag, .string a.txt, .string a.key, a.va.val, a.vk.val, .int .i64 a.note]
/-- a deed of the law, as its cells are -/
structure RE where
  what : Int
  next : Bool
  op : Int
  rid : Int
  par : Int
  bef : Int
  tag : ByteArray
  txt : ByteArray
  key : ByteArray
  va : Sv
  id : Int
  n : Int
def RE.cells (a : RE) : List Value := [.int .i64 a.what, .bool a.next, .int .i64 a.op, .int .i64 a.rid, .int .i64 a.par, .int .i64 a.bef, .string a.tag, .string a.txt, .string a.key, a.va.val, .int .i64 a.id, .int .i64 a.n]
def kN : Kind Tryz.prog RN where
  t := 35
  e := 34
  size := 8
  bytes := 120
  z := .agg #[.int .i64 0, .int .i64 0, .string ⟨#[]⟩, .string ⟨#[]⟩, .string ⟨#[]⟩, .slice none 0 0, .slice none 0 0, .int .i64 0]
  cs := RN.cells
  ht := Tryz.underlying35
  info := info_ex infoN
  hzs := rfl
  hpos := by decide
  hbb := by decide
  len := fun _ => rfl
  one := fun a u hu => by simp [RN.cells, Sv.val] at hu; rcases hu with rfl | rfl | rfl | rfl | rfl | rfl | rfl | rfl <;> rfl
def kE : Kind Tryz.prog RE where
  t := 22
  e := 59
  size := 12
  bytes := 136
  z := .agg #[.int .i64 0, .bool false, .int .i64 0, .int .i64 0, .int .i64 0, .int .i64 0, .string ⟨#[]⟩, .string ⟨#[]⟩, .string ⟨#[]⟩, .slice none 0 0, .int .i64 0, .int .i64 0]
  cs := RE.cells
  ht := Tryz.underlying22
  info := info_ex infoE
  hzs := rfl
  hpos := by decide
  hbb := by decide
  len := fun _ => rfl
  one := fun a u hu => by simp [RE.cells, Sv.val] at hu; rcases hu with rfl | rfl | rfl | rfl | rfl | rfl | rfl | rfl | rfl | rfl | rfl | rfl <;> rfl
end Go.Proofs.YtihjdmdafiifhaaGreat.P4

/- What find tells of an arena's slots (of *placket/api.Node): the place of an identity, and whether it is there. -/
set_option linter.unusedVariables false
set_option linter.unusedSimpArgs false
namespace Go.Proofs.YtihjdmdafiifhaaGreat.P4
open Go.RowKit Kd

theorem atP {w : World} {B : Nat} {A : Option Addr} {l : List (Sl Nat)} (h : kSP.Holds w B A l) {k : Nat} (hk : k < l.length) :
    ∃ b o, A = some ⟨b, o, none⟩ ∧ b < B ∧ w.cell? ⟨b, o + k * 2, none⟩ = some (.int .i64 l[k].id) ∧ w.cell? ⟨b, o + k * 2 + 1, none⟩ = some (.pointer (some ⟨l[k].x, 0, none⟩)) := by
  obtain ⟨b, o, rfl, hb, hc⟩ := h.at hk
  exact ⟨b, o, rfl, hb, hc 0 _ rfl, hc 1 _ rfl⟩

set_option maxHeartbeats 400000 in
theorem keyP_any (s : Sl Nat) (t : Int) (w : World) : Calls Tryz.prog 70 #[.agg #[.int .i64 s.id, (.pointer (some ⟨s.x, 0, none⟩))], .int .i64 t] w fun e w' => e = .returned (.int .i64 (cmpA s.id t)) ∧ Below w.heap.size w w' := by
  go_enter Tryz.func70, Tryz.ntmps70
  go_wp2_with fail
  refine (compare_any _ _ _).mono ?_
  rintro e w' ⟨rfl, rfl⟩
  go_wp2
  go_ret
  exact ⟨rfl, (Below.refl _ _).alloc (Nat.le_refl _) _⟩

def SearchP (w : World) (l : List (Sl Nat)) (t : Int) (e : Ending) (w' : World) : Prop :=
  e = .returned (.tuple #[.int .i64 (posA l t), .bool (hasA l t)]) ∧ Below w.heap.size w w'

set_option maxHeartbeats 1000000 in
theorem searchP_any (l : List (Sl Nat)) (N : Int) (A : Option Addr) (n c : Nat) (t : Int) (w : World) (hn : l.length = n) (hn2 : n ≤ 1000000) (hl : Asc N l) (H : kSP.Holds w w.heap.size A l) :
    Calls Tryz.prog 69 #[.slice A n c, .int .i64 t, .func (.func 70) #[] #[]] w (SearchP w l t) := by
  have HH := Lib.hid H
  have HN := Lib.hid hn
  have HL := Lib.hid hl
  clear H hn hl
  go_enter Tryz.func69, Tryz.ntmps69
  go_wp2_with fail
  go_loopw [9, 10] (fun i j wr => ∃ a b : Nat, a ≤ b ∧ b ≤ n ∧ i = .int .i64 a ∧ j = .int .i64 b ∧ Hid (∀ k (h : k < l.length), k < a → l[k].id < t) ∧ Hid (∀ k (h : k < l.length), b ≤ k → t ≤ l[k].id) ∧ Hid (Below w.heap.size w wr)) (fun i j _ => (intOf j - intOf i).toNat)
  case atStart => exact ⟨0, n, by omega, by omega, rfl, rfl, Lib.hid (fun k _ h => by omega), Lib.hid (fun k h hb => by have := HN.out; omega), Lib.hid (Below.refl _ _)⟩
  case round =>
    obtain ⟨a, b, hab, hbn, rfl, rfl, HA, HB, HW⟩ := hrel
    by_cases hlt : a < b
    · obtain ⟨h, hh⟩ : ∃ h : Nat, ((a : Int) + b) / 2 = h := ⟨(a + b) / 2, by omega⟩
      have ha : a ≤ h := by omega
      have hb : h < b := by omega
      have hn : h < n := by omega
      have hl : h < l.length := by have := HN.out; omega
      obtain ⟨g, o, rfl, hg, h0, h1⟩ := atP (HH.out.below HW.out (Nat.le_refl _)) hl
      by_cases hc : l[h].id < t
      · have hlss : cmpA l[h].id t < 0 := by unfold cmpA; rw [if_pos hc]; decide
        go_wp2_with fail
        refine (keyP_any l[h] t _).mono ?_
        rintro e w1 ⟨rfl, b1⟩
        have B1 := Lib.hid b1
        clear b1
        go_wp2_with fail
        go_roundw
        case rel => exact ⟨h + 1, b, by omega, by omega, by go_num, rfl, Lib.hid (fun k hk hkh => below_at HL.out hl hc hk (by omega)), HB, Lib.hid (HW.out.trans (B1.out.mono HW.out.size))⟩
        case measure => simp [intOf]; omega
      · have hge : ¬ cmpA l[h].id t < 0 := by unfold cmpA; rw [if_neg hc]; split <;> decide
        go_wp2_with fail
        refine (keyP_any l[h] t _).mono ?_
        rintro e w1 ⟨rfl, b1⟩
        have B1 := Lib.hid b1
        clear b1
        go_wp2_with fail
        go_roundw
        case rel => exact ⟨a, h, by omega, by omega, rfl, rfl, HA, Lib.hid (fun k hk hkh => above_at HL.out hl (by omega) hk hkh), Lib.hid (HW.out.trans (B1.out.mono HW.out.size))⟩
        case measure => simp [intOf]; omega
    · obtain rfl : a = b := by omega
      have hp : posA l t = a := posA_of l t a (by have := HN.out; omega) HA.out HB.out
      have HP := Lib.hid hp
      clear hp HA HB
      by_cases ha : a < n
      · have hl : a < l.length := by have := HN.out; omega
        obtain ⟨g, o, rfl, hg, h0, h1⟩ := atP (HH.out.below HW.out (Nat.le_refl _)) hl
        go_wp2_with fail
        refine (keyP_any l[a] t _).mono ?_
        rintro e w1 ⟨rfl, b1⟩
        have B1 := Lib.hid b1
        clear b1
        go_wp2_with fail
        go_ret2
        exact ⟨ret_two HP.out (by unfold hasA; rw [HP.out, atB_at hl]; exact cmp_zero _ _), HW.out.trans (B1.out.mono HW.out.size)⟩
      · go_wp2_with fail
        go_ret2
        exact ⟨ret_two HP.out (by unfold hasA; rw [HP.out, atB_none (by have := HN.out; omega)]), HW.out⟩

/-- an arena at block p: room R, last identity n, its slots l in the slice v, none of it below block B -/
structure ArP (w : World) (B p R : Nat) (n : Int) (v : Value) (l : List (Sl Nat)) : Prop where
  blk : w.heap[p]? = some (.cells #[.int .i64 R, .int .i64 n, v] 116 (0, 0))
  own : kSP.Own w B v l
  base : B ≤ p
  asc : Asc n l
  pos : 0 ≤ n
  len : l.length ≤ R
  room : R ≤ 200
section
variable {w w' : World} {B p R : Nat} {n : Int} {v : Value} {l : List (Sl Nat)}
theorem ArP.lt (h : ArP w B p R n v l) : p < w.heap.size := heap_lt h.blk
theorem ArP.c0 (h : ArP w B p R n v l) : w.cell? ⟨p, 0, none⟩ = some (.int .i64 R) := cell_of_row w p 0 _ _ (0, 0) h.blk
theorem ArP.c1 (h : ArP w B p R n v l) : w.cell? ⟨p, 1, none⟩ = some (.int .i64 n) := cell_of_row w p 1 _ _ (0, 0) h.blk
theorem ArP.c2 (h : ArP w B p R n v l) : w.cell? ⟨p, 2, none⟩ = some v := cell_of_row w p 2 _ _ (0, 0) h.blk
theorem ArP.frozen (h : ArP w B p R n v l) (i : Nat) : w.frozen? ⟨p, i, none⟩ = false := by
  have := h.blk
  simp [World.frozen?, this]
theorem ArP.keep (h : ArP w B p R n v l) (hp : w'.heap[p]? = w.heap[p]?) (hv : ∀ g, v.ownBlock = some g → w'.heap[g]? = w.heap[g]?) : ArP w' B p R n v l :=
  ⟨hp.trans h.blk, h.own.keep hv, h.base, h.asc, h.pos, h.len, h.room⟩
theorem ArP.but {S : Nat → Prop} (h : ArP w B p R n v l) (hb : But S w w') (hp : ¬ S p) (hv : ∀ g, v.ownBlock = some g → ¬ S g) : ArP w' B p R n v l :=
  h.keep (hb.block p h.lt hp) (fun g hg => hb.block g (h.own.lt hg).2 (hv g hg))
theorem ArP.below {C : Nat} (h : ArP w B p R n v l) (hb : Below C w w') (hC : w.heap.size ≤ C) : ArP w' B p R n v l :=
  h.keep (hb.block p (by have := h.lt; omega)) (fun g hg => hb.block g (by have := (h.own.lt hg).2; omega))
theorem ArP.base_le {B' : Nat} (h : ArP w B p R n v l) (hB : B' ≤ B) : ArP w B' p R n v l := ⟨h.blk, h.own.base_le hB, by have := h.base; omega, h.asc, h.pos, h.len, h.room⟩
theorem ArP.drewN (h : ArP w B p R n v l) (k : Nat) : ArP (w.drewN k) B p R n v l := ⟨h.blk, h.own, h.base, h.asc, h.pos, h.len, h.room⟩
theorem ArP.ge (h : ArP w B p R n v l) {k : Nat} (hk : Arm p v k) : B ≤ k := by
  rcases hk with rfl | hk
  · exact h.base
  · exact (h.own.lt hk).1
theorem ArP.lt_arm (h : ArP w B p R n v l) {k : Nat} (hk : Arm p v k) : k < w.heap.size := by
  rcases hk with rfl | hk
  · exact h.lt
  · exact (h.own.lt hk).2
theorem ArP.step (h : ArP w B p R n v l) (hb : But (Arm p v) w w') : Below B w w' := hb.to_below (fun _ _ hi => h.ge hi) (by have := h.base; have := h.lt; omega)
/-- the arena's own block is not its slots' -/
theorem ArP.apart (h : ArP w B p R n v l) : v.ownBlock ≠ some p := fun e => by
  obtain ⟨c, hc⟩ := h.own.ty e
  exact heap_ne hc h.blk (by decide) rfl
/-- what is of neither type is none of the arena's blocks -/
theorem ArP.other (h : ArP w B p R n v l) {g : Nat} {c : Array Value} {t : TypeId} {f : Nat × Nat} (hg : w.heap[g]? = some (.cells c t f)) (h1 : t ≠ 116) (h2 : t ≠ 110) : ¬ Arm p v g := by
  rintro (rfl | hv)
  · exact heap_ne hg h.blk h1 rfl
  · obtain ⟨d, hd⟩ := h.own.ty hv
    exact heap_ne hg hd h2 rfl
end

set_option maxHeartbeats 400000 in
theorem findP_any (t : Int) {B p R : Nat} {n : Int} {v : Value} {l : List (Sl Nat)} (w : World) (h : ArP w B p R n v l) :
    Calls Tryz.prog 44 #[.pointer (some ⟨p, 0, none⟩), .int .i64 t] w (SearchP w l t) := by
  obtain ⟨A, k, c, rfl, hk, hkc, hcm, hz, hh⟩ := h.own.slice
  have HK := Lib.hid hk
  have HH := Lib.hid hh
  have HA := Lib.hid h.asc
  have c2 := h.c2
  have hk2 : k ≤ 1000000 := by have := h.len; have := h.room; omega
  clear hk hh hz hcm hkc h
  go_enter Tryz.func44, Tryz.ntmps44
  go_wp2_with fail
  refine (searchP_any l n A k c t w HK.out hk2 HA.out HH.out).mono ?_
  rintro e w1 ⟨rfl, b1⟩
  have B1 := Lib.hid b1
  clear b1
  go_wp2_with fail
  go_ret2
  exact ⟨rfl, B1.out⟩
end Go.Proofs.YtihjdmdafiifhaaGreat.P4

/- slices.Delete of one slot, slices.Clone of slots (of *placket/api.Node). -/
set_option linter.unusedVariables false
set_option linter.unusedSimpArgs false
namespace Go.Proofs.YtihjdmdafiifhaaGreat.P4
open Go.RowKit Kd

theorem zeroP (w : World) : (zeroValue 110).run Tryz.prog w = .ok (.agg #[.int .i64 0, (.pointer none)]) w := by kernel_rfl

/-- 'clear' of one slot -/
theorem clearP (w : World) (ty : TypeId) (b o c : Nat) (hc : ∀ j, j < 2 → (w.cell? ⟨b, o + j, none⟩).isSome = true) (hf : ∀ j, j < 2 → w.frozen? ⟨b, o + j, none⟩ = false) :
    (Builtin.clear_ #[114] ty #[.slice (some ⟨b, o, none⟩) 1 c]).run Tryz.prog w = .ok (.tuple #[]) (w.setCells b o [.int .i64 0, (.pointer none)]) := by
  have hst := run_storeCells_cells (P := Tryz.prog) b o [.int .i64 0, (.pointer none)] 0 w (by simpa using hc) (by simpa using hf) (by simp [Value.oneCell'])
  simp only [Nat.add_zero] at hst
  have hz : (Builtin.zeroCells (Value.agg #[.int .i64 0, (.pointer none)]).cells 1).toList = [.int .i64 0, (.pointer none)] := by
    simp [Builtin.zeroCells, Value.cells, Array.range]
  simp [Builtin.clear_, run_underlying Tryz.underlying114, hz, hst]

/-- the block behind a delete: what stood ahead, what stood behind -/
theorem del_row {cur c1 c2 : Array Value} {xs news zs : List Value} {a m s : Nat} (h : cur.toList.take ((a + 1 + m) * s) = xs) (hs : (a + 1 + m) * s ≤ cur.size) (hn : news = xs.drop ((a + 1) * s)) (hz : zs.length = s)
    (e1 : c1.size = cur.size) (h1 : ∀ k, k < cur.size → c1[k]? = if a * s ≤ k ∧ k < a * s + news.length then news[k - a * s]? else cur[k]?)
    (e2 : c2.size = c1.size) (h2 : ∀ k, k < c1.size → c2[k]? = if (a + m) * s ≤ k ∧ k < (a + m) * s + zs.length then zs[k - (a + m) * s]? else c1[k]?) :
    c2.toList.take ((a + m) * s) = xs.take (a * s) ++ news := by
  have d1 : (a + 1 + m) * s = a * s + s + m * s := by rw [Nat.add_mul, Nat.add_mul, Nat.one_mul]
  have d2 : (a + m) * s = a * s + m * s := Nat.add_mul _ _ _
  have d3 : (a + 1) * s = a * s + s := by rw [Nat.add_mul, Nat.one_mul]
  have hxl : xs.length = a * s + s + m * s := by rw [← h, List.length_take, Array.length_toList]; omega
  have hnl : news.length = m * s := by rw [hn, List.length_drop]; omega
  have hx : ∀ k, k < xs.length → xs[k]? = cur[k]? := by
    intro k hk
    rw [← h, List.getElem?_take, if_pos (by omega), Array.getElem?_toList]
  apply List.ext_getElem?
  intro k
  rw [List.getElem?_take]
  by_cases hk : k < (a + m) * s
  · rw [if_pos hk, Array.getElem?_toList, h2 k (by omega), if_neg (by omega), h1 k (by omega)]
    by_cases hka : k < a * s
    · rw [if_neg (by omega), List.getElem?_append_left (by rw [List.length_take]; omega), List.getElem?_take, if_pos hka, hx k (by omega)]
    · have hta : (xs.take (a * s)).length = a * s := by rw [List.length_take]; omega
      rw [if_pos (by omega), List.getElem?_append_right (by omega), hta]
  · rw [if_neg hk, List.getElem?_eq_none]
    rw [List.length_append, List.length_take]
    omega

set_option maxHeartbeats 1000000 in
theorem deleteP_any (g i r c : Nat) {B : Nat} {l : List (Sl Nat)} (w : World) (hl : l.length = i + 1 + r) (hl2 : i + 1 + r ≤ 1000000) (h : kSP.Own w B (.slice (some ⟨g, 0, none⟩) (i + 1 + r) c) l) :
    Calls Tryz.prog 91 #[.slice (some ⟨g, 0, none⟩) (i + 1 + r) c, .int .i64 i, .int .i64 ((i : Int) + 1)] w fun e w' =>
      e = .returned (.slice (some ⟨g, 0, none⟩) (i + r) c) ∧ kSP.Own w' B (.slice (some ⟨g, 0, none⟩) (i + r) c) (l.eraseIdx i) ∧ But (fun k => k = g) w w' := by
  obtain ⟨i0, hi0, hz0, hz1, hz2⟩ := info_parts infoSP
  rcases h.form with ⟨hv, _⟩ | ⟨g', c', cur, hv, _, hBg, hlt, hh, hnc, hcm, hcs, ht⟩
  · cases hv
  injection hv with e1 e2 e3
  injection e1 with e1
  injection e1 with e1
  subst e1; subst e3
  clear e2
  rw [hl] at hnc ht
  have hcs : cur.size = c * 2 := hcs
  have ht : cur.toList.take ((i + 1 + r) * 2) = kSP.cells l := ht
  obtain ⟨news, hnews⟩ : ∃ news, news = kSP.cells (l.drop (i + 1)) := ⟨_, rfl⟩
  have hnl : news.length = r * 2 := by rw [hnews, Kind.cells_len, List.length_drop, hl]; show (i + 1 + r - (i + 1)) * 2 = r * 2; omega
  have hnd : news = (kSP.cells l).drop ((i + 1) * 2) := by rw [hnews, Kind.cells_drop]; rfl
  have cell : ∀ k, w.drew.cell? ⟨g, k, none⟩ = cur[k]? := fun k => cell_of_row w.drew g k _ _ (0, 0) hh
  have s1 : Hid (news.length = r * 2) := hnl
  have s2 : Hid (∀ u ∈ news, u.oneCell' = true) := by intro u hu; rw [hnews] at hu; exact Kind.cells_one _ _ u hu
  have s3 : Hid (∀ t, t < news.length → (w.drew.cell? ⟨g, 0 + i * 2 + t, none⟩).isSome = true ∧ w.drew.frozen? ⟨g, 0 + i * 2 + t, none⟩ = false) := by
    intro t htl
    refine ⟨by rw [cell, Array.getElem?_eq_getElem (by omega)]; rfl, ?_⟩
    have hh' : w.drew.heap[g]? = some (.cells cur kSP.e (0, 0)) := hh
    simp [World.frozen?, hh']
  have hsrc : ∀ t u, news[t]? = some u → w.drew.cell? ⟨g, (i + 1) * 2 + t, none⟩ = some u := by
    intro t u hu
    have htl := (List.getElem?_eq_some_iff.1 hu).1
    rw [cell, ← hu, hnd, List.getElem?_drop, ← ht, List.getElem?_take, if_pos (by omega), Array.getElem?_toList]
  obtain ⟨A, hA, hS⟩ : ∃ A : Addr, (if c = i + 1 then (some (⟨g, 0, none⟩ : Addr)) else some ⟨g, (i + 1) * 2, none⟩) = some A ∧ Hid (∀ t u, news[t]? = some u → w.drew.cell? (A.add t) = some u) := by
    by_cases hcj : c = i + 1
    · refine ⟨⟨g, 0, none⟩, if_pos hcj, fun t u hu => ?_⟩
      have htl := (List.getElem?_eq_some_iff.1 hu).1
      omega
    · refine ⟨⟨g, (i + 1) * 2, none⟩, if_neg hcj, fun t u hu => ?_⟩
      rw [Addr.add_lit]
      exact hsrc t u hu
  obtain ⟨W1, hW1⟩ : ∃ W1, W1 = w.drew.setCells g (0 + i * 2) news := ⟨_, rfl⟩
  have hh' : w.drew.heap[g]? = some (.cells cur kSP.e (0, 0)) := hh
  obtain ⟨c1, k1, k2, k3⟩ := heap_setCells g news (0 + i * 2) w.drew cur _ _ hh'
  rw [← hW1] at k1
  have hcl : ∀ ty q, (Builtin.clear_ #[114] ty #[.slice (some ⟨g, (i + r) * 2, none⟩) (i + 1 + r - (i + r)) q]).run Tryz.prog W1 = .ok (.tuple #[]) (W1.setCells g ((i + r) * 2) [.int .i64 0, (.pointer none)]) :=
    fun ty q => by
      rw [show i + 1 + r - (i + r) = 1 by omega]
      exact clearP W1 ty g ((i + r) * 2) q (fun j hj => by rw [cell_of_row W1 g _ _ _ (0, 0) k1, Array.getElem?_eq_getElem (by omega)]; rfl) (fun j _ => by simp [World.frozen?, k1])
  obtain ⟨c2, m1, m2, m3⟩ := heap_setCells g [.int .i64 0, (.pointer none)] ((i + r) * 2) W1 c1 _ _ k1
  have hO : Hid (kSP.Own (W1.setCells g ((i + r) * 2) [.int .i64 0, (.pointer none)]) B (.slice (some ⟨g, 0, none⟩) (i + r) c) (l.eraseIdx i)) := by
    refine Kind.own_mk (by rw [List.length_eraseIdx_of_lt (by omega)]; omega) hBg m1 (by omega) hcm (by rw [m2, k2]; exact hcs) ?_
    have hr := del_row (s := 2) ht (by omega) hnd (zs := [.int .i64 0, (.pointer none)]) rfl k2 (fun k hk => by have := k3 k hk; rwa [Nat.zero_add] at this) m2 m3
    rw [show kSP.size = 2 from rfl, hr, eraseIdx_eq, Kind.cells_append, Kind.cells_take, ← hnews]
    rfl
  have hB : Hid (But (fun k => k = g) w (W1.setCells g ((i + r) * 2) [.int .i64 0, (.pointer none)])) := by
    rw [hW1]
    exact But.setCells (S := fun k => k = g) (But.setCells (S := fun k => k = g) (But.drew (But.refl _ w)) (fun _ => rfl) _ _) (fun _ => rfl) _ _
  have hW : Hid (W1 = w.drew.setCells g (0 + i * 2) news) := hW1
  have hic : i ≤ c := by omega
  have hjc : i + 1 ≤ c := by omega
  have hne : ((i : Int) == (i : Int) + 1) = false := beq_eq_false_iff_ne.2 (by omega)
  unfold maxLen at hcm
  have hb0 : (0 : Int) ≤ (i : Int) + 1 := by omega
  have hb1 : (i : Int) + 1 ≤ (i : Int) + 1 + (r : Int) := by omega
  clear hW1 hh hh' hcs ht hnews hnl hnd cell hsrc k1 k2 k3 m1 m2 m3 h hl hz0 hz2
  go_enter Tryz.func91, Tryz.ntmps91
  go_wp2_with fail
  go_region_law (refine step_append_room rfl (.tmp 22) (.tmp 25) 114 rfl 110 i0 2 Tryz.underlying114 hi0 hz1 g 0 i c (by simp [Act.eval, Act.put]) A r (c - (i + 1)) news (by simp [Act.eval, Act.put]) s1.out hS.out s2.out (by omega) s3.out ?_; rw [← hW.out])
  go_wp2
  go_ret
  exact ⟨rfl, hO.out, hB.out⟩
end Go.Proofs.YtihjdmdafiifhaaGreat.P4
