/- What the program's newLeft answers: all are left, each with a key has the next one of the same, each name its first one. No condition but those stated. -/
import Derived.Deep.RegionHeld3
import Derived.Deep.DeepCutAuto
import Derived.Test.YthdgaoifbejpjaaM9
import Derived.Test.YthdgaoifbejpjaaM35
set_option linter.unusedVariables false
set_option linter.unusedSimpArgs false
set_option linter.unusedVariables false
set_option linter.unusedSimpArgs false
namespace Go.Proofs.Ythdgaoifbejpjaa.P16
open Go.RowKit Kd P4 P5 P11 P12 P13 P14 Mv Go.ChangeMaps Go.MapKept

set_option maxRecDepth 100000
theorem map_rep (n : Nat) : (List.replicate n true).map not = List.replicate n false := by simp
theorem make_boolsW (M : Nat) (hM : M ≤ 100000) (w : World) : (Instr.makeSlice 82 (.int .i64 (M : Int)) (.int .i64 (M : Int))).run Try.prog w = .ok (.slice (some ⟨w.heap.size, 0, none⟩) M M) (w.alloc (.cells (madeCells #[.bool false] M) 4)) :=
  run_make_row' 82 4 (.bool false) 1 Try.underlying82 infoBo rfl .i64 .i64 M (by omega) (by omega) w
theorem infoInt : (Try.prog.info? 3).map (fun i => (i.zero, i.size, i.bytes)) = some (some (.int .i64 0), 1, 8) := by kernel_rfl
theorem make_intsW (M : Nat) (hM : M ≤ 100000) (w : World) : (Instr.makeSlice 49 (.int .i64 (M : Int)) (.int .i64 (M : Int))).run Try.prog w = .ok (.slice (some ⟨w.heap.size, 0, none⟩) M M) (w.alloc (.cells (madeCells #[.int .i64 0] M) 3)) :=
  run_make_row' 49 3 (.int .i64 0) 8 Try.underlying49 infoInt rfl .i64 .i64 M (by omega) (by omega) w
theorem cells_repI : ∀ M : Nat, kI.cells (List.replicate M 0) = List.replicate M (.int .i64 0)
  | 0 => rfl
  | M + 1 => by
    have h := cells_repI M
    simp only [Kind.cells, List.replicate_succ, List.flatMap_cons] at h ⊢
    rw [h]
    rfl
/-- it is made, the places from i on are gone through -/
structure Nf (w : World) (B p g h m : Nat) (A : Option Addr) (n c : Nat) (old : List Ol) (s : Nat) (f : Lit → Option Value) (nl : List Int) (i : Nat) : Prop where
  blk : w.heap[p]? = some (lfV A n c g 0 m h)
  Bp : B ≤ p
  Bm : B ≤ m
  old_ : kO.Holds w B A old
  own : kBo.Own w B (.slice (some ⟨g, 0, none⟩) n n) ((List.replicate n true).map not)
  nx : kI.Own w B (.slice (some ⟨h, 0, none⟩) n n) nl
  map : MapIs Try.prog 81 w m s s f
  sz : s + i ≤ n
  nm : ∀ t k : ByteArray, t.size ≤ maxLen → k.size ≤ maxLen → t.toList.isEmpty = false → k.toList.isEmpty = false → Nmd (f (okL t k)) (nxM old t k i)
  nxt : NxOk old nl i
theorem Nf.lf {w : World} {B p g h m : Nat} {A : Option Addr} {n c : Nat} {old : List Ol} {s : Nat} {f : Lit → Option Value} {nl : List Int} (x : Nf w B p g h m A n c old s f nl 0) (hl : old.length = n) (hs : n ≤ 1000) (hz : ∀ o ∈ old, o.tag.size ≤ maxLen ∧ o.key.size ≤ maxLen) :
    Lf w B p g h m A n c old (List.replicate n true) 0 s f nl :=
  { blk := x.blk, Bp := x.Bp, Bm := x.Bm, old_ := x.old_, own := x.own, nx := x.nx, map := x.map, sz := by have := x.sz; omega, len := hl, lenL := by simp, small := hs, szs := hz, front := Nat.zero_le _, gone := fun i hi => by omega, nm := fun t k h1 h2 h3 h4 => ⟨0, x.nm t k h1 h2 h3 h4, fun j _ hj => by omega⟩, nxt := x.nxt }
theorem own_int_set {w : World} {B g n c : Nat} {l : List Int} (h : kI.Own w B (.slice (some ⟨g, 0, none⟩) n c) l) {k : Nat} (hk : k < l.length) (v : Int) :
    w.frozen? ⟨g, k, none⟩ = false ∧ (w.cell? ⟨g, k, none⟩).isSome = true ∧ kI.Own (w.setCell ⟨g, k, none⟩ (.int .i64 v)) B (.slice (some ⟨g, 0, none⟩) n c) (l.set k v) := by
  refine ⟨?_, ?_, ?_⟩
  · obtain ⟨cur, hh⟩ := h.ty (g := g) rfl
    simp [World.frozen?, hh]
  · obtain ⟨A', n', c', hv, _, _, _, _, e5⟩ := h.slice
    injection hv with h1 h2 h3
    subst h1; subst h2; subst h3
    obtain ⟨b, o, hA, _, hc⟩ := cell_int e5 hk
    injection hA with hA
    injection hA with e1 e2 _
    subst e1; subst e2
    have hc : w.cell? ⟨g, k, none⟩ = some (.int .i64 l[k]) := by simpa using hc
    rw [hc]
    rfl
  · have := own_setK h hk v
    have e : k * kI.size = k := Nat.mul_one k
    rw [e] at this
    exact this
section
variable {w w' : World} {B p g h m : Nat} {A : Option Addr} {n c : Nat} {old : List Ol} {s : Nat} {f : Lit → Option Value} {nl : List Int} {i j : Nat}
theorem Nf.le (x : Nf w B p g h m A n c old s f nl i) : B ≤ w.heap.size := by have := heap_lt x.blk; have := x.Bp; omega
theorem Nf.on (x : Nf w B p g h m A n c old s f nl i) (hb : Below w.heap.size w w') : Nf w' B p g h m A n c old s f nl i :=
  { x with blk := (hb.block p (heap_lt x.blk)).trans x.blk, old_ := x.old_.below hb x.le, own := x.own.below hb (Nat.le_refl _), nx := x.nx.below hb (Nat.le_refl _), map := x.map.below hb x.map.lt }
theorem Nf.c3 (x : Nf w B p g h m A n c old s f nl i) : w.cell? ⟨p, 3, none⟩ = some (.map (some m)) := cell_of_row w p 3 _ _ (0, 0) x.blk
theorem Nf.c4 (x : Nf w B p g h m A n c old s f nl i) : w.cell? ⟨p, 4, none⟩ = some (.slice (some ⟨h, 0, none⟩) n n) := cell_of_row w p 4 _ _ (0, 0) x.blk
theorem Nf.nlen (x : Nf w B p g h m A n c old s f nl i) : nl.length = n := by
  obtain ⟨A', n', c', hv, e1, _⟩ := x.nx.slice
  injection hv with h1 h2 h3
  omega
/-- the next one is set -/
theorem Nf.set (x : Nf w B p g h m A n c old s f nl (j + 1)) (hj : j < n) (v : Int) : Nf (w.setCell ⟨h, j, none⟩ (.int .i64 v)) B p g h m A n c old s f (nl.set j v) (j + 1) := by
  have hb : But (fun k => k = h) w (w.setCell ⟨h, j, none⟩ (.int .i64 v)) := set_but w h j _
  obtain ⟨cur, hc⟩ := x.nx.ty (g := h) rfl
  obtain ⟨cur', hc'⟩ := x.own.ty (g := g) rfl
  have h1 : p ≠ h := heap_ne x.blk hc (by decide)
  have h2 : g ≠ h := heap_ne hc' hc (by decide)
  have h3 : h ≠ m := not_map' x.map hc
  exact { x with
    blk := (hb.block p (heap_lt x.blk) h1).trans x.blk
    old_ := x.old_.keep (fun b _ hlt => hb.block b (by have := x.le; omega) (fun e => by have := (x.nx.lt (g := h) rfl).1; omega))
    own := x.own.but hb (fun i hi e => h2 (by rw [← e]; exact Option.some.inj hi))
    nx := (own_int_set x.nx (by rw [x.nlen]; exact hj) v).2.2
    map := x.map.kept (hb.block m x.map.lt (fun e => h3 e.symm))
    nxt := fun q hq hjq a b => by
      rw [List.getElem?_set_ne (by omega)]
      exact x.nxt q hq hjq a b }
/-- .. and its name -/
theorem Nf.name (x : Nf w B p g h m A n c old s f nl (j + 1)) (hj : j < old.length) (h1 : old[j].tag.size ≤ maxLen) (h2 : old[j].key.size ≤ maxLen) (hv : nl[j]? = some (nxM old old[j].tag old[j].key (j + 1)))
    (hm : MapIs Try.prog 81 w' m (s + 1) (if (f (okL old[j].tag old[j].key)).isSome then s else s + 1) (setL f (okL old[j].tag old[j].key) (some (.int .i64 (j : Int))))) (hg : w.grownBy w' (some m)) : ∃ s', Nf w' B p g h m A n c old s' (setL f (okL old[j].tag old[j].key) (some (.int .i64 (j : Int)))) nl j := by
  have hb : But (fun k => k = m) w w' := But.of_grown hg (fun j hj _ => (Option.some.inj hj).symm)
  obtain ⟨cur, hc⟩ := x.nx.ty (g := h) rfl
  obtain ⟨cur', hc'⟩ := x.own.ty (g := g) rfl
  have e1 : p ≠ m := not_map' x.map x.blk
  have e2 : g ≠ m := not_map' x.map hc'
  have e3 : h ≠ m := not_map' x.map hc
  refine ⟨_, { x with
    blk := (hb.block p (heap_lt x.blk) e1).trans x.blk
    old_ := x.old_.keep (fun b _ hlt => hb.block b (by have := x.le; omega) (fun e => by have := x.Bm; omega))
    own := x.own.but hb (fun i hi e => e2 (by rw [← e]; exact Option.some.inj hi))
    nx := x.nx.but hb (fun i hi e => e3 (by rw [← e]; exact Option.some.inj hi))
    map := hm.tight
    sz := by have := x.sz; split <;> omega
    nm := fun t k a1 a2 a3 a4 => ?_
    nxt := fun q hq hjq a b => ?_ }⟩
  · by_cases e : okL t k = okL old[j].tag old[j].key
    · obtain ⟨rfl, rfl⟩ := ok_inj a1 a2 h1 h2 e
      rw [nxM_yes hj (isK_iff.2 ⟨rfl, rfl⟩)]
      exact .inr (setL_put f _ _).1
    · rw [(setL_put f _ _).2 _ e, nxM_no hj]
      · exact x.nm t k a1 a2 a3 a4
      · cases hx : isK t k old[j] with
        | false => rfl
        | true =>
          obtain ⟨rfl, rfl⟩ := isK_iff.1 hx
          exact absurd rfl e
  · by_cases e : q = j
    · subst e
      exact hv
    · exact x.nxt q hq (by omega) a b
/-- none with a key -/
theorem Nf.pass (x : Nf w B p g h m A n c old s f nl (j + 1)) (hj : j < old.length) (hn : old[j].tag.toList.isEmpty = true ∨ old[j].key.toList.isEmpty = true) : Nf w B p g h m A n c old s f nl j :=
  { x with
    sz := by have := x.sz; omega
    nm := fun t k a1 a2 a3 a4 => by
      rw [nxM_no hj]
      · exact x.nm t k a1 a2 a3 a4
      · cases hx : isK t k old[j] with
        | false => rfl
        | true =>
          obtain ⟨rfl, rfl⟩ := isK_iff.1 hx
          rcases hn with h | h
          · rw [h] at a3; cases a3
          · rw [h] at a4; cases a4
    nxt := fun q hq hjq a b => by
      by_cases e : q = j
      · subst e
        rcases hn with h | h
        · rw [h] at a; cases a
        · rw [h] at b; cases b
      · exact x.nxt q hq (by omega) a b }
end
theorem new_made {w wr : World} {p g h m : Nat} {A : Option Addr} {n c : Nat} {old : List Ol} (hb : Below w.heap.size w wr) (hp : w.heap.size ≤ p) (hg : w.heap.size ≤ g) (hh : w.heap.size ≤ h) (hm : w.heap.size ≤ m) (ho : kO.Holds w w.heap.size A old) (hl : old.length = n) (hs : n ≤ 1000)
    (h1 : wr.heap[p]? = some (.cells #[.slice A n c, .slice (some ⟨g, 0, none⟩) n n, .int .i64 0, .map (some m), .slice (some ⟨h, 0, none⟩) n n] 104 (0, 0)))
    (h2 : wr.heap[g]? = some (.cells (madeCells #[.bool false] n) 4 (0, 0))) (h3 : wr.heap[h]? = some (.cells (madeCells #[.int .i64 0] n) 3 (0, 0))) (h4 : wr.heap[m]? = some (.map #[] 0)) :
    Nf wr w.heap.size p g h m A n c old 0 (fun _ => none) (List.replicate n 0) n where
  blk := h1
  Bp := hp
  Bm := hm
  old_ := ho.below hb (Nat.le_refl _)
  own := by
    rw [map_rep]
    exact Kind.own_mk (by simp) hg h2 (Nat.le_refl _) (by unfold maxLen; omega) (by rw [size_madeCells]; exact (Nat.mul_one n).symm) (by
      rw [toList_madeCells_one, List.take_of_length_le (by simp [kBo]), cells_rep])
  nx := Kind.own_mk (by simp) hh h3 (Nat.le_refl _) (by unfold maxLen; omega) (by rw [size_madeCells]; exact (Nat.mul_one n).symm) (by
      rw [toList_madeCells_one, List.take_of_length_le (by simp [kI]), cells_repI])
  map := ⟨.map [], ⟨#[], 0, h4, ⟨by simp, stamped_empty 0, by simp⟩, Nat.le_refl _, rfl⟩, rfl, fun _ => rfl⟩
  sz := by omega
  nm := fun t k _ _ _ _ => .inl ⟨rfl, nxM_end (by omega)⟩
  nxt := fun j hj hn => by omega
def NewV (w : World) (A : Option Addr) (n c : Nat) (old : List Ol) (e : Ending) (w' : World) : Prop := ∃ (p g h m : Nat) (s : Nat) (f : Lit → Option Value) (nl : List Int), e = .returned (.pointer (some ⟨p, 0, none⟩)) ∧ Lf w' w.heap.size p g h m A n c old (List.replicate n true) 0 s f nl ∧ Below w.heap.size w w'
set_option maxHeartbeats 8000000 in
theorem newLeft_any (old : List Ol) (A : Option Addr) (n c : Nat) (w : World) (hh : kO.Holds w w.heap.size A old) (hsz : ∀ o ∈ old, o.tag.size ≤ maxLen ∧ o.key.size ≤ maxLen) (hn : old.length = n) (hs : n ≤ 1000) :
    Calls Try.prog 35 #[.slice A n c] w (NewV w A n c old) := by
  have hm1 := make_boolsW n (by omega)
  have hm2 := make_intsW n (by omega)
  have hmm := @run_makeMap Try.prog
  have HH := Lib.hid hh
  have HN := Lib.hid hn
  have HS := Lib.hid hsz
  have NM := fun (wr : World) (p g h m : Nat) => @new_made w wr p g h m A n c old
  have NM := Lib.hid NM
  clear hh hn hsz
  obtain ⟨ob, hob⟩ : ∃ o, o = Obj.cells (madeCells #[.bool false] n) 4 (0, 0) := ⟨_, rfl⟩
  obtain ⟨oi, hoi⟩ : ∃ o, o = Obj.cells (madeCells #[.int .i64 0] n) 3 (0, 0) := ⟨_, rfl⟩
  rw [← hob] at hm1 NM
  rw [← hoi] at hm2 NM
  clear hob hoi
  go_enter Try.func35, Try.ntmps35
  go_upto_region 1 with fail
  go_cut [3] (fun s3 wx => ∃ (p g h m : Nat), s3 = .pointer (some ⟨p, 0, none⟩) ∧ Hid (Nf wx w.heap.size p g h m A n c old 0 (fun _ => none) (List.replicate n 0) n) ∧ Hid (Below w.heap.size w wx))
  case first =>
    go_region_held3 (fun _ => True) (trivial) (fail)
    all_goals (go_wp2_with fail; go_meet)
    · exact ⟨_, w.heap.size, w.heap.size + 1 + 1, w.heap.size + 1, rfl, Lib.hid (NM.out _ _ _ _ _ ((((((Below.refl w.heap.size w).alloc (Nat.le_refl _) _).alloc (by simp) _).alloc (by simp; omega) _).alloc (by simp; omega) _).drew) (by omega) (by omega) (by omega) (by omega) HH.out HN.out hs (P5.heap_drew (heap_top (by simp))) (P5.heap_drew (heap_up (heap_up (heap_up (heap_top (by simp)))))) (P5.heap_drew (heap_up (heap_top (by simp)))) (P5.heap_drew (heap_up (heap_up (heap_top (by simp)))))), Lib.hid ((((((Below.refl w.heap.size w).alloc (Nat.le_refl _) _).alloc (by simp) _).alloc (by simp; omega) _).alloc (by simp; omega) _).drew)⟩
    · exact ⟨_, w.heap.size, w.heap.size + 1, w.heap.size + 1 + 1, rfl, Lib.hid (NM.out _ _ _ _ _ ((((((Below.refl w.heap.size w).alloc (Nat.le_refl _) _).alloc (by simp) _).alloc (by simp; omega) _).alloc (by simp; omega) _).drew) (by omega) (by omega) (by omega) (by omega) HH.out HN.out hs (P5.heap_drew (heap_top (by simp))) (P5.heap_drew (heap_up (heap_up (heap_up (heap_top (by simp)))))) (P5.heap_drew (heap_up (heap_up (heap_top (by simp))))) (P5.heap_drew (heap_up (heap_top (by simp))))), Lib.hid ((((((Below.refl w.heap.size w).alloc (Nat.le_refl _) _).alloc (by simp) _).alloc (by simp; omega) _).alloc (by simp; omega) _).drew)⟩
    · exact ⟨_, w.heap.size + 1, w.heap.size + 1 + 1, w.heap.size, rfl, Lib.hid (NM.out _ _ _ _ _ ((((((Below.refl w.heap.size w).alloc (Nat.le_refl _) _).alloc (by simp) _).alloc (by simp; omega) _).alloc (by simp; omega) _).drew) (by omega) (by omega) (by omega) (by omega) HH.out HN.out hs (P5.heap_drew (heap_top (by simp))) (P5.heap_drew (heap_up (heap_up (heap_top (by simp))))) (P5.heap_drew (heap_up (heap_top (by simp)))) (P5.heap_drew (heap_up (heap_up (heap_up (heap_top (by simp))))))), Lib.hid ((((((Below.refl w.heap.size w).alloc (Nat.le_refl _) _).alloc (by simp) _).alloc (by simp; omega) _).alloc (by simp; omega) _).drew)⟩
    · exact ⟨_, w.heap.size + 1 + 1, w.heap.size + 1, w.heap.size, rfl, Lib.hid (NM.out _ _ _ _ _ ((((((Below.refl w.heap.size w).alloc (Nat.le_refl _) _).alloc (by simp) _).alloc (by simp; omega) _).alloc (by simp; omega) _).drew) (by omega) (by omega) (by omega) (by omega) HH.out HN.out hs (P5.heap_drew (heap_top (by simp))) (P5.heap_drew (heap_up (heap_top (by simp)))) (P5.heap_drew (heap_up (heap_up (heap_top (by simp))))) (P5.heap_drew (heap_up (heap_up (heap_up (heap_top (by simp))))))), Lib.hid ((((((Below.refl w.heap.size w).alloc (Nat.le_refl _) _).alloc (by simp) _).alloc (by simp; omega) _).alloc (by simp; omega) _).drew)⟩
    · exact ⟨_, w.heap.size + 1, w.heap.size, w.heap.size + 1 + 1, rfl, Lib.hid (NM.out _ _ _ _ _ ((((((Below.refl w.heap.size w).alloc (Nat.le_refl _) _).alloc (by simp) _).alloc (by simp; omega) _).alloc (by simp; omega) _).drew) (by omega) (by omega) (by omega) (by omega) HH.out HN.out hs (P5.heap_drew (heap_top (by simp))) (P5.heap_drew (heap_up (heap_up (heap_top (by simp))))) (P5.heap_drew (heap_up (heap_up (heap_up (heap_top (by simp)))))) (P5.heap_drew (heap_up (heap_top (by simp))))), Lib.hid ((((((Below.refl w.heap.size w).alloc (Nat.le_refl _) _).alloc (by simp) _).alloc (by simp; omega) _).alloc (by simp; omega) _).drew)⟩
    · exact ⟨_, w.heap.size + 1 + 1, w.heap.size, w.heap.size + 1, rfl, Lib.hid (NM.out _ _ _ _ _ ((((((Below.refl w.heap.size w).alloc (Nat.le_refl _) _).alloc (by simp) _).alloc (by simp; omega) _).alloc (by simp; omega) _).drew) (by omega) (by omega) (by omega) (by omega) HH.out HN.out hs (P5.heap_drew (heap_top (by simp))) (P5.heap_drew (heap_up (heap_top (by simp)))) (P5.heap_drew (heap_up (heap_up (heap_up (heap_top (by simp)))))) (P5.heap_drew (heap_up (heap_up (heap_top (by simp)))))), Lib.hid ((((((Below.refl w.heap.size w).alloc (Nat.le_refl _) _).alloc (by simp) _).alloc (by simp; omega) _).alloc (by simp; omega) _).drew)⟩
  case rest =>
    obtain ⟨p, g, h, m, rfl, HX, HB⟩ := hcut
    clear NM hm1 hm2 hmm HH
    have HP : Hid (w.heap.size ≤ p ∧ w.heap.size ≤ g ∧ w.heap.size ≤ h ∧ w.heap.size ≤ m) := Lib.hid ⟨HX.out.Bp, (HX.out.own.lt rfl).1, (HX.out.nx.lt rfl).1, HX.out.Bm⟩
    have ST := Lib.hid (And.intro HX HB)
    clear HX HB
    go_wp2_with fail
    go_loopg [4] n (fun q s4 wr => ∃ (s : Nat) (f : Lit → Option Value) (nl : List Int), q ≤ n ∧ s4 = .int .i64 ((q : Int) - 1) ∧ Hid (Nf wr w.heap.size p g h m A n c old s f nl q) ∧ Hid (Below w.heap.size w wr))
    case atStart =>
      exact ⟨0, _, _, Nat.le_refl _, rfl, ST.out.1, ST.out.2⟩
    case round =>
      obtain ⟨s, f, nl, hq, e4, HX, HB⟩ := hrel
      clear ST
      by_cases hq0 : gk = 0
      · subst hq0
        obtain rfl := e4
        have HL := Lib.hid (HX.out.lf HN.out hs HS.out)
        go_wp2_with fail
        go_ret
        exact ⟨p, g, h, m, s, f, nl, rfl, HL.out, HB.out⟩
      · obtain ⟨j, rfl⟩ : ∃ j, gk = j + 1 := ⟨gk - 1, by omega⟩
        have e5 : u4 = .int .i64 (j : Int) := by rw [e4]; congr 1; omega
        subst e5
        clear e4 hq0
        have hjl : j < old.length := by have := HN.out; omega
        obtain ⟨b, o, rfl, hb, z0, z1⟩ := cell_of_o HX.out.old_ hjl
        have OS := Lib.hid (HS.out _ (List.getElem_mem hjl))
        obtain ⟨tag, htag⟩ : ∃ t, old[j].tag = t := ⟨_, rfl⟩
        obtain ⟨key, hkey⟩ : ∃ t, old[j].key = t := ⟨_, rfl⟩
        rw [htag, hkey] at OS
        rw [htag] at z0
        rw [hkey] at z1
        have HTG := Lib.hid htag
        have HKY := Lib.hid hkey
        clear htag hkey
        go_upto_region 6 with fail
        have HWR : Hid (w.heap.size ≤ wr.heap.size) := Lib.hid HB.out.size
        have B1 : Hid (Below wr.heap.size wr (wr.alloc (.cells #[.string tag, .string key] 81))) := Lib.hid ((Below.refl _ _).alloc (Nat.le_refl _) _)
        have X1 : Hid ((wr.alloc (.cells #[.string tag, .string key] 81)).heap[wr.heap.size]? = some (.cells #[.string tag, .string key] 81 (0, 0))) := Lib.hid (heap_alloc_new wr _)
        generalize hb5 : wr.heap.size = b5 at X1 HWR B1 ⊢
        rw [← hb5] at B1
        generalize wr.alloc (.cells #[.string tag, .string key] 81) = W at B1 X1 ⊢
        have HX1 := Lib.hid (HX.out.on B1.out)
        have BW : Hid (Below w.heap.size w W) := Lib.hid (HB.out.trans (B1.out.mono HB.out.size))
        have HR5 : Hid (w.heap.size ≤ b5) := HWR
        clear HX HB hb5 z0 z1 B1
        have HB5 : Hid (∀ wz, Below W.heap.size W wz → wz.heap[b5]? = some (.cells #[.string tag, .string key] 81 (0, 0))) := Lib.hid (fun wz h => (h.block b5 (heap_lt X1.out)).trans X1.out)
        have SK0 : Hid (∀ wz, Below W.heap.size W wz → wz.cell? ⟨p, 4, none⟩ = some (.slice (some ⟨h, 0, none⟩) n n) ∧ wz.cell? ⟨b5, 0, none⟩ = some (.string tag) ∧ wz.cell? ⟨b5, 1, none⟩ = some (.string key)) := Lib.hid (fun wz h => ⟨(HX1.out.on h).c4, (h.cell (p := ⟨b5, 0, none⟩) (heap_lt X1.out)).trans (cell_of_row W b5 0 _ _ (0, 0) X1.out), (h.cell (p := ⟨b5, 1, none⟩) (heap_lt X1.out)).trans (cell_of_row W b5 1 _ _ (0, 0) X1.out)⟩)
        have CE := Lib.hid (isElement_any tag key W)
        obtain ⟨et, het⟩ : ∃ b, tag.toList.isEmpty = b := ⟨_, rfl⟩
        obtain ⟨ek, hek⟩ : ∃ b, key.toList.isEmpty = b := ⟨_, rfl⟩
        rw [het] at CE
        obtain ⟨_, a0, a1⟩ := SK0.out W (Below.refl _ _)
        have HET := Lib.hid het
        have HEK := Lib.hid hek
        clear het
        go_wp2_with fail
        refine CE.out.mono ?_
        rintro e w2 ⟨rfl, b2⟩
        have B2 := Lib.hid b2
        have X2 := Lib.hid (HX1.out.on b2)
        obtain ⟨c4, a0, a1⟩ := SK0.out w2 b2
        clear b2 CE
        cases et with
        | true =>
          have XN := Lib.hid (X2.out.pass hjl (.inl (by rw [HTG.out, HET.out])))
          go_wp2_with fail
          go_roundg j
          case measure => omega
          case rel => exact ⟨s, f, nl, by omega, by first | rfl | go_num, XN, Lib.hid (BW.out.trans (B2.out.mono BW.out.size))⟩
        | false =>
          cases ek with
          | true =>
            have XN := Lib.hid (X2.out.pass hjl (.inr (by rw [HKY.out, HEK.out])))
            go_wp2_with fail
            go_roundg j
            case measure => omega
            case rel => exact ⟨s, f, nl, by omega, by first | rfl | go_num, XN, Lib.hid (BW.out.trans (B2.out.mono BW.out.size))⟩
          | false =>
            obtain ⟨a, ha⟩ : ∃ a, nxM old tag key (j + 1) = a := ⟨_, rfl⟩
            have HA := Lib.hid ha
            have hjn : j < n := by omega
            have HNA : Hid (∀ w9, Below w2.heap.size w2 w9 → Calls Try.prog 49 #[.pointer (some ⟨p, 0, none⟩), .agg #[.string tag, .string key]] w9 fun e w' => e = .returned (.int .i64 a) ∧ Below w9.heap.size w9 w') := Lib.hid (fun w9 hz => namedAt_at (X2.out.on hz).c3 (heap_lt (X2.out.on hz).blk) (X2.out.on hz).map tag key OS.out.1 OS.out.2 a (by rw [← ha]; exact X2.out.nm tag key OS.out.1 OS.out.2 HET.out HEK.out))
            have BV2 : Hid (Below w.heap.size w w2) := Lib.hid (BW.out.trans (B2.out.mono BW.out.size))
            clear ha
            go_upto_region 7 with fail
            clear hek a0 a1
            have SK := SK0.out w2 B2.out
            go_region_held3 (fun w' => w'.cell? ⟨p, 4, none⟩ = some (.slice (some ⟨h, 0, none⟩) n n) ∧ w'.cell? ⟨b5, 0, none⟩ = some (.string tag) ∧ w'.cell? ⟨b5, 1, none⟩ = some (.string key)) (first | go_keep | exact SK | exact K11) ((first
              | (go_at_call 49; refine (HNA.out _ (by first | exact Below_drewN (Below.refl _ _) _ | exact (Below.refl _ _).drew | exact Below.refl _ _)).mono ?_; rintro e w10 ⟨rfl, b10⟩; have B10 : Hid (Below w2.heap.size w2 w10) := Lib.hid (by first | exact (Below_drewN (Below.refl _ _) _).trans b10 | exact ((Below.refl _ _).drew).trans b10 | exact b10); have X10 := Lib.hid (X2.out.on B10.out); have SK := SK0.out w10 (B2.out.trans (B10.out.mono B2.out.size)); obtain ⟨f10, c10, _⟩ := own_int_set X10.out.nx (k := j) (by rw [X10.out.nlen]; exact hjn) a; obtain ⟨u10, hu10⟩ := Option.isSome_iff_exists.1 c10; have X11 := Lib.hid (X10.out.set hjn a); have B11 : Hid (Below w.heap.size w (w10.setCell ⟨h, j, none⟩ (.int .i64 a))) := Lib.hid ((BV2.out.trans (B10.out.mono BV2.out.size)).trans ((set_but w10 h j _).to_below (fun i _ hi => by have := (X10.out.nx.lt (g := h) rfl).1; omega) (BV2.out.trans (B10.out.mono BV2.out.size)).size)); have H11 : Hid ((w10.setCell ⟨h, j, none⟩ (.int .i64 a)).heap[b5]? = some (.cells #[.string tag, .string key] 81 (0, 0))) := Lib.hid (by have h5 := HB5.out w10 (B2.out.trans (B10.out.mono B2.out.size)); obtain ⟨cur, hc⟩ := X10.out.nx.ty (g := h) rfl; exact ((set_but w10 h j _).block b5 (heap_lt h5) (heap_ne h5 hc (by decide))).trans h5); have K11 : (w10.setCell ⟨h, j, none⟩ (.int .i64 a)).cell? ⟨p, 4, none⟩ = some (.slice (some ⟨h, 0, none⟩) n n) ∧ (w10.setCell ⟨h, j, none⟩ (.int .i64 a)).cell? ⟨b5, 0, none⟩ = some (.string tag) ∧ (w10.setCell ⟨h, j, none⟩ (.int .i64 a)).cell? ⟨b5, 1, none⟩ = some (.string key) := ⟨X11.out.c4, cell_of_row _ b5 0 _ _ (0, 0) H11.out, cell_of_row _ b5 1 _ _ (0, 0) H11.out⟩; clear b10 c10)
              | fail))
            generalize w10.setCell ⟨h, j, none⟩ (.int .i64 a) = W11 at X11 B11 H11 ⊢
            clear f10 hu10 X10 B10
            have HV : Hid ((nl.set j a)[j]? = some (nxM old old[j].tag old[j].key (j + 1))) := Lib.hid (by rw [HTG.out, HKY.out, HA.out, List.getElem?_set_self (by rw [X2.out.nlen]; exact hjn)])
            have HKEY : Hid (keyOf Try.prog 81 (.agg #[.string tag, .string key]) = some (okL tag key)) := Lib.hid (key_o OS.out.1 OS.out.2)
            have hsz := X11.out.sz
            obtain ⟨w12, run12, m12, g12⟩ := (X11.out.map.kept (w' := W11.drew) rfl).store (Maps.Keyed.of_law lawO) Try.underlying102 (by unfold maxLen; omega) (val := .int .i64 (j : Int)) HKEY.out (setL_put f (okL tag key) (some (.int .i64 (j : Int))))
            have G12 := Lib.hid (grown_drew g12)
            have X12 : Hid (∃ s', Nf w12 w.heap.size p g h m (some ⟨b, o, none⟩) n c old s' (setL f (okL tag key) (some (.int .i64 (j : Int)))) (nl.set j a) j) := Lib.hid (by
              have := X11.out.name (w' := w12) hjl (by rw [HTG.out]; exact OS.out.1) (by rw [HKY.out]; exact OS.out.2) HV.out (by rw [HTG.out, HKY.out]; exact m12) G12.out
              rw [HTG.out, HKY.out] at this
              exact this)
            have B12 : Hid (Below w.heap.size w w12) := Lib.hid (B11.out.grown G12.out B11.out.size (fun i hi => by have := X11.out.Bm; have := Option.some.inj hi; omega))
            have c3 := X11.out.c3
            have a0 : W11.cell? ⟨b5, 0, none⟩ = some (.string tag) := cell_of_row W11 b5 0 _ _ (0, 0) H11.out
            have a1 : W11.cell? ⟨b5, 1, none⟩ = some (.string key) := cell_of_row W11 b5 1 _ _ (0, 0) H11.out
            have h12 : w12.heap[b5]? = some (.cells #[.string tag, .string key] 81 (0, 0)) := (G12.out.block b5 (heap_lt H11.out) (fun e => not_map' X11.out.map H11.out (Option.some.inj e))).trans H11.out
            obtain ⟨s12, hx12⟩ := X12.out
            have K12 : w12.cell? ⟨p, 3, none⟩ = some (.map (some m)) ∧ w12.cell? ⟨b5, 0, none⟩ = some (.string tag) ∧ w12.cell? ⟨b5, 1, none⟩ = some (.string key) := ⟨hx12.c3, cell_of_row w12 b5 0 _ _ (0, 0) h12, cell_of_row w12 b5 1 _ _ (0, 0) h12⟩
            have Y12 := Lib.hid hx12
            clear m12 g12 h12 hx12 X12 K11 SK
            go_upto_region 8 with fail
            go_region_held3 (fun w' => w'.cell? ⟨p, 3, none⟩ = some (.map (some m)) ∧ w'.cell? ⟨b5, 0, none⟩ = some (.string tag) ∧ w'.cell? ⟨b5, 1, none⟩ = some (.string key)) (first | go_keep | exact K12) (fail)
            go_wp2_with fail
            go_roundg j
            case measure => omega
            case rel => exact ⟨s12, _, _, by omega, by first | rfl | go_num, Y12, B12⟩
end Go.Proofs.Ythdgaoifbejpjaa.P16
