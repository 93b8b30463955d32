/- What placketref08.element does to memory: a tree that is being made. No condition. -/
import Derived.Test.YtbdcbjeeaebfeaaM29
import Derived.Test.YtbdcbjeeaebfeaaM32
set_option linter.unusedVariables false
set_option linter.unusedSimpArgs false
namespace Go.Proofs.Ytbdcbjeeaebfeaa.P10
open Go.RowKit Kd P4 P5 P8 P9

def elK (g : Nat → List UInt8 → List PT × List UInt8) (d : Nat) (tag : List UInt8) (q : List P3.At × Option (List UInt8)) : PT × List UInt8 :=
  match q with
  | (ats, none) => (elT tag ats [], [])
  | (ats, some []) => (elT tag ats [], [])
  | (ats, some (_ :: r2)) =>
    if P1.voidB tag then (elT tag ats [], r2)
    else
      let p := g (d + 1) r2
      if p.2.length < tag.length + 3 then (elT tag ats p.1, []) else (elT tag ats p.1, p.2.drop (tag.length + 3))
theorem elF_K (g : Nat → List UInt8 → List PT × List UInt8) (d : Nat) (s : List UInt8) : elF g d s = elK g d ((s.take (untilL s [32, 62])).drop 1) (attrsF ((s.drop (untilL s [32, 62])).length + 1) (s.drop (untilL s [32, 62])) []) := rfl
/-- element's tree, as it is being made: its own block g, and the result's block -/
structure ESt (w wr : World) (g : Nat) (tag : ByteArray) (A : Option Addr) (n c : Nat) (ats : List P3.At) : Prop where
  z : TB wr w.heap.size zTV
  tb : TB wr g (.mk tag ⟨#[]⟩ ⟨#[]⟩ ⟨A, n, c⟩ ats ⟨none, 0, 0⟩ [])
  own : kA.Own wr (g + 1) (.slice A n c) ats
  hb : Below w.heap.size w wr
  hg : w.heap.size < g
section
variable {w wr w' : World} {g : Nat} {tag : ByteArray} {A : Option Addr} {n c : Nat} {ats : List P3.At}
theorem ESt.but {S : Nat → Prop} (h : ESt w wr g tag A n c ats) (b : But S wr w') (h1 : ¬ S w.heap.size) (h2 : ¬ S g) (h3 : ∀ i, (Value.slice A n c).ownBlock = some i → ¬ S i) (h4 : ∀ i, i < wr.heap.size → S i → w.heap.size ≤ i) : ESt w w' g tag A n c ats :=
  ⟨(b.block _ h.z.lt h1).trans h.z, (b.block _ h.tb.lt h2).trans h.tb, h.own.but b h3, h.hb.trans (b.to_below h4 h.hb.size), h.hg⟩
theorem ESt.below (h : ESt w wr g tag A n c ats) (hb : Below wr.heap.size wr w') : ESt w w' g tag A n c ats := h.but (But.of_below hb (fun _ => False)) (fun x => x) (fun x => x) (fun _ _ x => x) (fun _ _ x => x.elim)
theorem ESt.zf (h : ESt w wr g tag A n c ats) (i : Nat) : wr.frozen? ⟨w.heap.size, i, none⟩ = false := by
  have hb := h.z
  simp [World.frozen?, (show wr.heap[w.heap.size]? = _ from hb)]
theorem ESt.gf (h : ESt w wr g tag A n c ats) (i : Nat) : wr.frozen? ⟨g, i, none⟩ = false := by
  have hb := h.tb
  simp [World.frozen?, (show wr.heap[g]? = _ from hb)]
/-- an attribute more -/
theorem ESt.app {w5 w7 : World} {o : Obj} {A7 : Option Addr} {n7 c7 : Nat} {a : P3.At} (h : ESt w w5 g tag A n c ats) (hg : (w5.alloc o).grownBy w7 (Value.slice A n c).ownBlock) (hown : kA.Own w7 (g + 1) (.slice A7 n7 c7) (ats ++ [a])) :
    ESt w (w7.setCell ⟨g, 3, none⟩ (.slice A7 n7 c7)) g tag A7 n7 c7 (ats ++ [a]) := by
  have b7 : But (fun b => (Value.slice A n c).ownBlock = some b) w5 w7 := (But.alloc (But.refl _ _) _).trans (But.of_grown (S := fun i => (Value.slice A n c).ownBlock = some i) hg (fun i hi _ => hi)) (fun _ _ h => h)
  have hgg := h.hg
  have hz : w7.heap[w.heap.size]? = w5.heap[w.heap.size]? := b7.block _ h.z.lt (fun e => by have := (h.own.lt e).1; omega)
  have ht : w7.heap[g]? = w5.heap[g]? := b7.block _ h.tb.lt (fun e => by have := (h.own.lt e).1; omega)
  have b8 : But (fun b => b = g ∨ (Value.slice A n c).ownBlock = some b) w5 (w7.setCell ⟨g, 3, none⟩ (.slice A7 n7 c7)) := But.setCell (b7.mono fun _ _ hi => .inr hi) (fun _ => .inl rfl) _
  refine ⟨?_, ?_, ?_, ?_, hgg⟩
  · exact (Below.heap_setCell w7 _ _ _ (by show w.heap.size ≠ g; omega)).trans (hz.trans h.z)
  · exact heap_set (ht.trans h.tb) 3 _
  · refine hown.keep (fun b hb => Below.heap_setCell _ _ _ _ ?_)
    rintro rfl
    have := (hown.lt hb).1
    omega
  · refine h.hb.trans (b8.to_below (fun i _ hi => ?_) h.hb.size)
    rcases hi with rfl | e
    · omega
    · have := (h.own.lt e).1
      omega
/-- a tree without children -/
theorem ESt.leaf (h : ESt w wr g tag A n c ats) (Q : Nat → Prop) : TNew wr Q (.mk tag ⟨#[]⟩ ⟨#[]⟩ ⟨A, n, c⟩ ats ⟨none, 0, 0⟩ []) := by
  obtain ⟨s, hv, ha⟩ := AOk.own h.own
  have e : s = ⟨A, n, c⟩ := by
    obtain ⟨A', n', c'⟩ := s
    unfold Sv.val at hv
    injection hv with e1 e2 e3
    subst e1; subst e2; subst e3
    rfl
  subst e
  exact TNew.mk (sk := ⟨none, 0, 0⟩) ha (Kind.Own.nil kT wr 0) (fun b hb => by cases hb) (fun k hk => by cases hk)
end
/-- the result's block is written -/
theorem el_end {w wr : World} {tv : TV} {v0 v1 v2 v3 v4 : Value} (hz : TB wr w.heap.size zTV) (hn : TNew wr (fun b => w.heap.size < b) tv) (hb : Below w.heap.size w wr) :
    TNew (((((wr.setCell ⟨w.heap.size, 0, none⟩ v0).setCell ⟨w.heap.size, 1, none⟩ v1).setCell ⟨w.heap.size, 2, none⟩ v2).setCell ⟨w.heap.size, 3, none⟩ v3).setCell ⟨w.heap.size, 4, none⟩ v4) (fun b => w.heap.size ≤ b) tv ∧
    Below w.heap.size w (((((wr.setCell ⟨w.heap.size, 0, none⟩ v0).setCell ⟨w.heap.size, 1, none⟩ v1).setCell ⟨w.heap.size, 2, none⟩ v2).setCell ⟨w.heap.size, 3, none⟩ v3).setCell ⟨w.heap.size, 4, none⟩ v4) := by
  have hbut : But (fun k => k = w.heap.size) wr (((((wr.setCell ⟨w.heap.size, 0, none⟩ v0).setCell ⟨w.heap.size, 1, none⟩ v1).setCell ⟨w.heap.size, 2, none⟩ v2).setCell ⟨w.heap.size, 3, none⟩ v3).setCell ⟨w.heap.size, 4, none⟩ v4) := setOne (setOne (setOne (setOne (setOne (But.refl _ _)))))
  refine ⟨(hn.but hbut (fun b hq e => by omega) (fun b cur fr e hc => by
    subst e
    exact heap_ne hc hz (by decide) rfl)).mono fun b _ hb => Nat.le_of_lt hb, one_end hb hbut⟩
end Go.Proofs.Ytbdcbjeeaebfeaa.P10
