/- What the program's isElement, namedAt, first answer. No condition but those stated. -/
import Derived.Deep.LoopGhost
import Derived.Test.YtcdcgdblchchkaaM16
import Derived.Test.YtcdcgdblchchkaaM36
set_option linter.unusedVariables false
set_option linter.unusedSimpArgs false
set_option linter.unusedVariables false
set_option linter.unusedSimpArgs false
namespace Go.Proofs.Ytcdcgdblchchkaa.P16
open Go.RowKit Kd P4 P5 P11 P12 P13 P14 Mv

set_option maxRecDepth 100000
theorem isElement_any (t k : ByteArray) (w : World) : Calls Try.prog 19 #[.agg #[.string t, .string k]] w fun e w' => e = .returned (.bool (!t.toList.isEmpty)) ∧ Below w.heap.size w w' := by
  have B1 : Hid (Below w.heap.size w (w.alloc (.cells #[.string t, .string k] 30))) := Lib.hid ((Below.refl _ _).alloc (Nat.le_refl _) _)
  have X1 : Hid ((w.alloc (.cells #[.string t, .string k] 30)).heap[w.heap.size]? = some (.cells #[.string t, .string k] 30 (0, 0))) := Lib.hid (heap_alloc_new w _)
  go_enter Try.func19, Try.ntmps19
  go_upto_region 1 with fail
  generalize w.alloc (.cells #[.string t, .string k] 30) = W at B1 X1 ⊢
  have a0 : W.cell? ⟨w.heap.size, 0, none⟩ = some (.string t) := cell_of_row W w.heap.size 0 _ _ (0, 0) X1.out
  obtain ⟨et, het⟩ : ∃ b, t.toList.isEmpty = b := ⟨_, rfl⟩
  cases et
  all_goals
    go_wp2_with fail
    go_ret
    exact ⟨by first | rfl | simp [het], B1.out⟩
set_option maxHeartbeats 1000000 in
theorem namedAt_at {w : World} {p m n s : Nat} {f : Lit → Option Value} (hc : w.cell? ⟨p, 3, none⟩ = some (.map (some m))) (hp : p < w.heap.size) (hm : MapIs Try.prog 30 w m n s f) (t k : ByteArray) (ht : t.size ≤ maxLen) (hk : k.size ≤ maxLen) (a : Int) (ha : Nmd (f (okL t k)) a) :
    Calls Try.prog 20 #[.pointer (some ⟨p, 0, none⟩), .agg #[.string t, .string k]] w fun e w' => e = .returned (.int .i64 a) ∧ Below w.heap.size w w' := by
  have HC := Lib.hid hc
  have HP : Hid (p < w.heap.size) := Lib.hid hp
  have HKEY : Hid (keyOf Try.prog 30 (.agg #[.string t, .string k]) = some (okL t k)) := Lib.hid (key_o ht hk)
  have B1 : Hid (Below w.heap.size w (w.alloc (.cells #[.string t, .string k] 30))) := Lib.hid ((Below.refl _ _).alloc (Nat.le_refl _) _)
  have X1 : Hid ((w.alloc (.cells #[.string t, .string k] 30)).heap[w.heap.size]? = some (.cells #[.string t, .string k] 30 (0, 0))) := Lib.hid (heap_alloc_new w _)
  have XL := Lib.hid (hm.alloc (.cells #[.string t, .string k] 30))
  clear hm hc hp
  go_enter Try.func20, Try.ntmps20
  go_upto_region 1 with fail
  have c3 := (B1.out.cell (p := ⟨p, 3, none⟩) HP.out).trans HC.out
  generalize w.alloc (.cells #[.string t, .string k] 30) = W at B1 X1 XL c3 ⊢
  have a0 : W.cell? ⟨w.heap.size, 0, none⟩ = some (.string t) := cell_of_row W w.heap.size 0 _ _ (0, 0) X1.out
  have a1 : W.cell? ⟨w.heap.size, 1, none⟩ = some (.string k) := cell_of_row W w.heap.size 1 _ _ (0, 0) X1.out
  rcases ha with ⟨hn, rfl⟩ | hs
  · have hl := (XL.out.kept (w' := W.drew) rfl).look_ok (Maps.Keyed.of_law lawO) Try.underlying63 (zeroInt _) HKEY.out
    rw [hn] at hl
    go_region_held3 (fun w' => w'.cell? ⟨p, 3, none⟩ = some (.map (some m)) ∧ w'.cell? ⟨w.heap.size, 0, none⟩ = some (.string t) ∧ w'.cell? ⟨w.heap.size, 1, none⟩ = some (.string k)) (go_keep) (fail)
    go_wp2_with fail
    go_ret
    exact ⟨rfl, Below_drewN B1.out _⟩
  · have hl := (XL.out.kept (w' := W.drew) rfl).look_ok (Maps.Keyed.of_law lawO) Try.underlying63 (zeroInt _) HKEY.out
    rw [hs] at hl
    go_region_held3 (fun w' => w'.cell? ⟨p, 3, none⟩ = some (.map (some m)) ∧ w'.cell? ⟨w.heap.size, 0, none⟩ = some (.string t) ∧ w'.cell? ⟨w.heap.size, 1, none⟩ = some (.string k)) (go_keep) (fail)
    go_wp2_with fail
    go_ret
    exact ⟨rfl, Below_drewN B1.out _⟩
theorem namedAt_any {w : World} {B p g h m : Nat} {A : Option Addr} {n c : Nat} {old : List Ol} {left : List Bool} {F s : Nat} {f : Lit → Option Value} {nl : List Int} (x : Lf w B p g h m A n c old left F s f nl) (t k : ByteArray) (ht : t.size ≤ maxLen) (hk : k.size ≤ maxLen) (a : Int) (ha : Nmd (f (okL t k)) a) :
    Calls Try.prog 20 #[.pointer (some ⟨p, 0, none⟩), .agg #[.string t, .string k]] w fun e w' => e = .returned (.int .i64 a) ∧ Below w.heap.size w w' := namedAt_at x.c3 x.plt x.map t k ht hk a ha
/-- the first one that is left -/
def FrA (left : List Bool) (n F : Nat) (a : Int) : Prop := (F = n ∧ a = -1) ∨ (F < n ∧ a = (F : Int) ∧ left[F]? = some true)
set_option maxHeartbeats 4000000 in
theorem first_any {w : World} {B p g h m : Nat} {A : Option Addr} {n c : Nat} {old : List Ol} {left : List Bool} {F s : Nat} {f : Lit → Option Value} {nl : List Int} (x : Lf w B p g h m A n c old left F s f nl) :
    Calls Try.prog 26 #[.pointer (some ⟨p, 0, none⟩)] w fun e w' => ∃ (F' : Nat) (a : Int), e = .returned (.int .i64 a) ∧ FrA left n F' a ∧ F ≤ F' ∧ Lf w' B p g h m A n c old left F' s f nl ∧ But (fun k => k = p) w w' := by
  have ST : Hid (Lf w B p g h m A n c old left F s f nl) := Lib.hid x
  have hsm := x.small
  have hnc : F ≤ n := x.front
  clear x
  go_enter Try.func26, Try.ntmps26
  go_wp2_with fail
  go_loopg [] (n - F) (fun q wr => ∃ F' : Nat, q = n - F' ∧ F ≤ F' ∧ F' ≤ n ∧ Hid (Lf wr B p g h m A n c old left F' s f nl) ∧ Hid (But (fun k => k = p) w wr))
  case atStart => exact ⟨F, rfl, Nat.le_refl _, hnc, ST, Lib.hid (But.refl _ _)⟩
  case round =>
    obtain ⟨F', rfl, h1, h2, HX, HB⟩ := hrel
    clear ST
    have c0 := HX.out.c0
    have c1 := HX.out.c1
    have c2 := HX.out.c2
    by_cases hlt : F' < n
    · obtain ⟨b, hb, g0, gf⟩ := HX.out.taken hlt
      have HLB := Lib.hid hb
      clear hb
      cases b with
      | true =>
        go_upto_region 1 with fail
        go_quiet (fail)
        go_upto_region 3 with fail
        go_quiet (fail)
        go_wp2_with fail
        go_ret
        exact ⟨F', _, rfl, .inr ⟨hlt, rfl, HLB.out⟩, h1, HX.out.drewN _, HB.out.drewN _⟩
      | false =>
        have hfz := HX.out.fz 2
        go_upto_region 1 with fail
        go_quiet (fail)
        go_wp2_with fail
        go_roundg (n - (F' + 1))
        case measure => omega
        case rel => exact ⟨F' + 1, rfl, by omega, by omega, Lib.hid ((HX.out.drewN _).step hlt HLB.out), Lib.hid (But.setCell (S := fun k => k = p) (p := ⟨p, 2, none⟩) (HB.out.drewN _) (fun _ => rfl) _)⟩
    · obtain rfl : F' = n := by omega
      go_upto_region 1 with fail
      go_quiet (fail)
      go_upto_region 3 with fail
      go_quiet (fail)
      go_wp2_with fail
      go_ret
      exact ⟨F', _, rfl, .inl ⟨rfl, rfl⟩, h1, (HX.out.drewN _).drewN _, (HB.out.drewN _).drewN _⟩
end Go.Proofs.Ytcdcgdblchchkaa.P16

/- What the program's takeNamed answers: the first of a tag and key that is left is taken. No condition but those stated. -/
set_option linter.unusedVariables false
set_option linter.unusedSimpArgs false
namespace Go.Proofs.Ytcdcgdblchchkaa.P16
open Go.RowKit Kd P4 P5 P11 P12 P13 P14 Mv

set_option maxRecDepth 100000
/-- its state, whatever its front and its map -/
def LfE (w : World) (B p g h m : Nat) (A : Option Addr) (n c : Nat) (old : List Ol) (left : List Bool) : Prop := ∃ (F s : Nat) (f : Lit → Option Value) (nl : List Int), Lf w B p g h m A n c old left F s f nl
/-- a place is told, and taken -/
def TkV (w : World) (B p g h m : Nat) (A : Option Addr) (n c : Nat) (old : List Ol) (left : List Bool) (a : Int) (e : Ending) (w' : World) : Prop := e = .returned (.int .i64 a) ∧ LfE w' B p g h m A n c old (leftM left a) ∧ But (W3 p g m) w w'
theorem leftM_nat {left : List Bool} {i : Nat} : leftM left (i : Int) = left.set i false := by
  rw [leftM, if_pos (by omega)]
  rfl
theorem leftM_none {left : List Bool} : leftM left (-1) = left := by
  rw [leftM, if_neg (by decide)]
/-- at a place of the names -/
def AtN (old : List Ol) (left : List Bool) (t k : ByteArray) (i : Nat) : Prop := ∀ (j : Nat) (h : j < old.length), j < i → isK t k old[j] = true → left[j]? = some false
theorem at_scan {pw : PW} {old : List Ol} {left : List Bool} (h1 : pw.kind = 1) (hk : pw.key.toList.isEmpty = false) {i : Nat} (ha : AtN old left pw.tag pw.key i) :
    (nxM old pw.tag pw.key i = -1 → (scanM pw old left old.length).1 = -1) ∧ (∀ (j : Nat) (h : j < old.length), nxM old pw.tag pw.key i = (j : Int) → i ≤ j ∧ isK pw.tag pw.key old[j] = true ∧ (left[j]? = some true → (scanM pw old left old.length).1 = (j : Int)) ∧ (left[j]? = some false → AtN old left pw.tag pw.key (j + 1))) := by
  constructor
  · intro hn
    rcases nxM_spec old pw.tag pw.key _ i rfl with ⟨_, h2⟩ | ⟨j, hj, e, _⟩
    · refine scan_none_to (n := old.length) (fun j hj hl o ho f => ?_) _ (Nat.le_refl _)
      rw [takes_key h1 hk]
      rw [List.getElem?_eq_getElem hj] at ho
      injection ho with ho
      subst ho
      by_cases hji : j < i
      · cases hx : isK pw.tag pw.key old[j] with
        | false => rfl
        | true =>
          rw [ha j hj hji hx] at hl
          cases hl
      · exact h2 j hj (by omega)
    · rw [hn] at e
      omega
  · intro j hj hn
    rcases nxM_spec old pw.tag pw.key _ i rfl with ⟨e, _⟩ | ⟨j', hj', e, hij, hk', hm⟩
    · rw [hn] at e
      omega
    · rw [hn] at e
      have e : j = j' := by omega
      subst e
      refine ⟨hij, hk', fun hl => ?_, fun hl q hq hqj hqk => ?_⟩
      · refine scan_first (o := old[j]) (fun q hq hl o ho f => ?_) hl (List.getElem?_eq_getElem hj) (fun f => by rw [takes_key h1 hk]; exact hk') hj
        rw [takes_key h1 hk]
        have hql : q < old.length := by omega
        rw [List.getElem?_eq_getElem hql] at ho
        injection ho with ho
        subst ho
        by_cases hqi : q < i
        · cases hx : isK pw.tag pw.key old[q] with
          | false => rfl
          | true =>
            rw [ha q hql hqi hx] at hl
            cases hl
        · exact hm q hql (by omega) hq
      · by_cases hqi : q < i
        · exact ha q hq hqi hqk
        · by_cases e : q = j
          · subst e; exact hl
          · rw [hm q hq (by omega) (by omega)] at hqk
            cases hqk
set_option maxHeartbeats 8000000 in
theorem takeNamed_any {w : World} {B p g h m : Nat} {A : Option Addr} {n c : Nat} {old : List Ol} {left : List Bool} {F s : Nat} {f : Lit → Option Value} {nl : List Int} (x : Lf w B p g h m A n c old left F s f nl)
    (pw : PW) (h1 : pw.kind = 1) (ht : pw.tag.toList.isEmpty = false) (hk : pw.key.toList.isEmpty = false) (ht2 : pw.tag.size ≤ maxLen) (hk2 : pw.key.size ≤ maxLen) :
    Calls Try.prog 21 #[.pointer (some ⟨p, 0, none⟩), .agg #[.string pw.tag, .string pw.key]] w (TkV w B p g h m A n c old left (scanM pw old left old.length).1) := by
  have B1 : Hid (Below w.heap.size w (w.alloc (.cells #[.string pw.tag, .string pw.key] 30))) := Lib.hid ((Below.refl _ _).alloc (Nat.le_refl _) _)
  have X1 : Hid ((w.alloc (.cells #[.string pw.tag, .string pw.key] 30)).heap[w.heap.size]? = some (.cells #[.string pw.tag, .string pw.key] 30 (0, 0))) := Lib.hid (heap_alloc_new w _)
  have XL := Lib.hid (x.alloc (.cells #[.string pw.tag, .string pw.key] 30))
  have HPM : Hid (w.heap.size ≠ m) := Lib.hid (by have := x.map.lt; omega)
  have HLEN := Lib.hid x.len
  have hsm := x.small
  clear x
  have AS : Hid (∀ i, AtN old left pw.tag pw.key i → _) := Lib.hid (fun i ha => at_scan h1 hk (i := i) ha)
  have HT := Lib.hid ht
  have HK := Lib.hid hk
  have HKEY : Hid (keyOf Try.prog 30 (.agg #[.string pw.tag, .string pw.key]) = some (okL pw.tag pw.key)) := Lib.hid (key_o ht2 hk2)
  have HT2 := Lib.hid ht2
  have HK2 := Lib.hid hk2
  generalize (scanM pw old left old.length).1 = res at AS ⊢
  generalize pw.tag = t at *
  generalize pw.key = k at *
  clear h1 ht hk ht2 hk2
  go_enter Try.func21, Try.ntmps21
  go_upto_region 1 with fail
  generalize hb8 : w.heap.size = b8 at X1 HPM B1 ⊢
  rw [← hb8] at B1
  generalize w.alloc (.cells #[.string t, .string k] 30) = W at B1 X1 XL ⊢
  have a0 : W.cell? ⟨b8, 0, none⟩ = some (.string t) := cell_of_row W b8 0 _ _ (0, 0) X1.out
  have a1 : W.cell? ⟨b8, 1, none⟩ = some (.string k) := cell_of_row W b8 1 _ _ (0, 0) X1.out
  obtain ⟨i, hnm, hat⟩ := XL.out.nm t k HT2.out HK2.out HT.out HK.out
  have HAT := Lib.hid hat
  have CN := Lib.hid (namedAt_any XL.out t k HT2.out HK2.out _ hnm)
  have HNM := Lib.hid hnm
  clear hat hnm
  go_wp2_with fail
  refine CN.out.mono ?_
  rintro e w1 ⟨rfl, b1⟩
  have ST : Hid (∃ (i' : Nat) (a : Int) (f' : Lit → Option Value), n - i = n - i' ∧ Value.int .i64 (nxM old t k i) = .int .i64 a ∧ Hid (nxM old t k i' = a) ∧ Hid (AtN old left t k i') ∧ Hid (Nmd (f' (okL t k)) a) ∧ Hid (Lf w1 B p g h m A n c old left F s f' nl) ∧ Hid (But (fun q => q = m) W w1)) := Lib.hid ⟨i, _, f, rfl, rfl, Lib.hid rfl, HAT, HNM, Lib.hid (XL.out.on b1), Lib.hid (But.of_below b1 _)⟩
  clear b1 CN a0 a1 HAT HNM
  go_wp2_with fail
  go_loopg [5] (n - i) (fun q s5 wr => ∃ (i' : Nat) (a : Int) (f' : Lit → Option Value), q = n - i' ∧ s5 = .int .i64 a ∧ Hid (nxM old t k i' = a) ∧ Hid (AtN old left t k i') ∧ Hid (Nmd (f' (okL t k)) a) ∧ Hid (Lf wr B p g h m A n c old left F s f' nl) ∧ Hid (But (fun q => q = m) W wr))
  case atStart => exact ST.out
  case round =>
    obtain ⟨i', a, f', rfl, rfl, HN, HAT, HNM, HX, HB⟩ := hrel
    clear ST
    obtain ⟨AS1, AS2⟩ := AS.out i' HAT.out
    have c1 := HX.out.c1
    have c4 := HX.out.c4
    have c3 := HX.out.c3
    have hb8' := HB.out.block b8 (heap_lt X1.out) HPM.out
    have HBL := Lib.hid (hb8'.trans X1.out)
    have a0 : wr.cell? ⟨b8, 0, none⟩ = some (.string t) := cell_of_row wr b8 0 _ _ (0, 0) HBL.out
    have a1 : wr.cell? ⟨b8, 1, none⟩ = some (.string k) := cell_of_row wr b8 1 _ _ (0, 0) HBL.out
    clear hb8'
    have HBW : Hid (But (W3 p g m) w wr) := Lib.hid (((But.of_below B1.out _).trans (HB.out.mono (T := W3 p g m) (fun q _ hq => .inr (.inr hq))) (fun _ _ h => h)))
    rcases nxM_spec old t k _ i' rfl with ⟨e, _⟩ | ⟨j, hj, e, _⟩
    · have e2 : a = -1 := HN.out.symm.trans e
      subst e2
      have hres := AS1 e
      subst hres
      clear AS1 AS2 e
      go_wp2_with fail
      go_ret
      exact ⟨rfl, ⟨F, s, f', nl, by rw [leftM_none]; exact HX.out⟩, HBW.out⟩
    · have e2 : a = (j : Int) := HN.out.symm.trans e
      subst e2
      obtain ⟨hij, hjk, r1, r2⟩ := AS2 j hj e
      have hjn : j < n := by have := HLEN.out; omega
      obtain ⟨b, hb, g0, gf⟩ := HX.out.taken hjn
      cases b with
      | true =>
        have hres := r1 hb
        subst hres
        clear AS1 AS2 r1 r2 hb e hjk
        go_wp2_with fail
        go_ret
        refine ⟨rfl, ⟨F, s, f', nl, ?_⟩, ?_⟩
        · rw [leftM_nat]
          exact HX.out.take hjn
        · exact But.setCell (S := W3 p g m) (p := ⟨g, j, none⟩) HBW.out (fun _ => .inr (.inl rfl)) _
      | false =>
        have HR2 := Lib.hid (r2 hb)
        obtain ⟨rfl, rfl⟩ := isK_iff.1 hjk
        have hnx := HX.out.next hj HT.out HK.out
        obtain ⟨a', ha'⟩ : ∃ a', nxM old old[j].tag old[j].key (j + 1) = a' := ⟨_, rfl⟩
        have HA' := Lib.hid ha'
        rw [ha'] at hnx
        have hsz := HX.out.sz
        have hiss : (f' (okL old[j].tag old[j].key)).isSome = true := by
          rcases HNM.out with ⟨_, hz⟩ | hz
          · omega
          · rw [hz]; rfl
        have HIS := Lib.hid hiss
        obtain ⟨w6, run6, m6, g6⟩ := (HX.out.map.kept (w' := wr.drew) rfl).store (Maps.Keyed.of_law lawO) Try.underlying63 (by unfold maxLen; omega) (val := .int .i64 a') HKEY.out (setL_put f' (okL old[j].tag old[j].key) (some (.int .i64 a')))
        have G6 := Lib.hid (grown_drew g6)
        have L6 := Lib.hid (HX.out.name HT2.out HK2.out HIS.out (j + 1) HA'.out HR2.out m6 G6.out)
        have B6 : Hid (But (fun q => q = m) W w6) := Lib.hid (HB.out.trans (T := fun q => q = m) (But.of_grown G6.out (fun q hq _ => (Option.some.inj hq).symm)) (fun _ _ h => h))
        have hb6 := (B6.out.block b8 (heap_lt X1.out) HPM.out).trans X1.out
        have K6 : w6.cell? ⟨p, 3, none⟩ = some (.map (some m)) ∧ w6.cell? ⟨b8, 0, none⟩ = some (.string old[j].tag) ∧ w6.cell? ⟨b8, 1, none⟩ = some (.string old[j].key) := ⟨L6.out.c3, cell_of_row w6 b8 0 _ _ (0, 0) hb6, cell_of_row w6 b8 1 _ _ (0, 0) hb6⟩
        have N6 : Hid (Nmd (setL f' (okL old[j].tag old[j].key) (some (.int .i64 a')) (okL old[j].tag old[j].key)) a') := Lib.hid (.inr (setL_put f' _ _).1)
        clear AS1 AS2 r1 r2 hb e hjk g6 m6 hb6 ha' hiss
        go_upto_region 4 with fail
        go_region_held3 (fun w' => w'.cell? ⟨p, 3, none⟩ = some (.map (some m)) ∧ w'.cell? ⟨b8, 0, none⟩ = some (.string old[j].tag) ∧ w'.cell? ⟨b8, 1, none⟩ = some (.string old[j].key)) (first | go_keep | exact K6) (fail)
        go_wp2_with fail
        go_roundg (n - (j + 1))
        case measure => omega
        case rel => exact ⟨j + 1, a', _, rfl, rfl, HA', HR2, N6, L6, B6⟩
end Go.Proofs.Ytcdcgdblchchkaa.P16
