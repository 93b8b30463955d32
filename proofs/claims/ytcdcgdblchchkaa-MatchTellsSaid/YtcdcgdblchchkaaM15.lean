/- What is wanted, as it lies in memory: the program's, and the document's. No condition. -/
import Derived.Shelf.Spec.SlicesInsertGrow
import Derived.Deep.RegionHeld3
import Derived.Lib.IfaceEq
import Derived.WideLaws
import Derived.Deep.Cut
import Derived.Test.YtcdcgdblchchkaaM2
import Derived.Test.YtcdcgdblchchkaaM3
import Derived.Test.YtcdcgdblchchkaaM5
import Derived.Test.YtcdcgdblchchkaaM11
import Derived.Test.YtcdcgdblchchkaaM14
set_option linter.unusedVariables false
set_option linter.unusedSimpArgs false
set_option linter.unusedVariables false
set_option linter.unusedSimpArgs false
namespace Go.Proofs.Ytcdcgdblchchkaa.P14
open Go.RowKit Kd P4 P5 P11 P12 P13

theorem infoW : (Try.prog.info? 44).map (fun i => (i.zero, i.size, i.bytes)) = some (some (.agg #[.int .i64 0, .string ⟨#[]⟩, .string ⟨#[]⟩, .string ⟨#[]⟩, .slice none 0 0, .slice none 0 0]), 6, 104) := by kernel_rfl
theorem infoQ : (Try.prog.info? 57).map (fun i => (i.zero, i.size, i.bytes)) = some (some (.agg #[.int .i64 0, .string ⟨#[]⟩, .string ⟨#[]⟩, .string ⟨#[]⟩, .slice none 0 0, .slice none 0 0]), 6, 104) := by kernel_rfl
def WV.cells (a : WV) : List Value := [.int .i64 a.kind, .string a.tag, .string a.key, .string a.txt, .slice a.sa.A a.sa.n a.sa.c, .slice a.sk.A a.sk.n a.sk.c]
/-- the program's -/
def kW : Kind Try.prog WV where
  t := 25
  e := 44
  size := 6
  bytes := 104
  z := .agg #[.int .i64 0, .string ⟨#[]⟩, .string ⟨#[]⟩, .string ⟨#[]⟩, .slice none 0 0, .slice none 0 0]
  cs := WV.cells
  ht := Try.underlying25
  info := info_ex infoW
  hzs := rfl
  hpos := by decide
  hbb := by decide
  len := fun _ => rfl
  one := fun a u hu => by simp [WV.cells] at hu; rcases hu with rfl | rfl | rfl | rfl | rfl | rfl <;> rfl
/-- the document's -/
def kQ : Kind Try.prog WV where
  t := 38
  e := 57
  size := 6
  bytes := 104
  z := .agg #[.int .i64 0, .string ⟨#[]⟩, .string ⟨#[]⟩, .string ⟨#[]⟩, .slice none 0 0, .slice none 0 0]
  cs := WV.cells
  ht := Try.underlying38
  info := info_ex infoQ
  hzs := rfl
  hpos := by decide
  hbb := by decide
  len := fun _ => rfl
  one := fun a u hu => by simp [WV.cells] at hu; rcases hu with rfl | rfl | rfl | rfl | rfl | rfl <;> rfl
theorem cell_of_w {w : World} {B : Nat} {A : Option Addr} {l : List WV} (h : kW.Holds w B A l) {k : Nat} (hk : k < l.length) :
    ∃ b o, A = some ⟨b, o, none⟩ ∧ b < B ∧ w.cell? ⟨b, o + k * 6, none⟩ = some (.int .i64 l[k].kind) ∧ w.cell? ⟨b, o + k * 6 + 1, none⟩ = some (.string l[k].tag) ∧ w.cell? ⟨b, o + k * 6 + 2, none⟩ = some (.string l[k].key) ∧
      w.cell? ⟨b, o + k * 6 + 3, none⟩ = some (.string l[k].txt) ∧ w.cell? ⟨b, o + k * 6 + 4, none⟩ = some (.slice l[k].sa.A l[k].sa.n l[k].sa.c) ∧ w.cell? ⟨b, o + k * 6 + 5, none⟩ = some (.slice l[k].sk.A l[k].sk.n l[k].sk.c) := by
  obtain ⟨b, o, rfl, hb, hc⟩ := h.at hk
  exact ⟨b, o, rfl, hb, hc 0 _ rfl, hc 1 _ rfl, hc 2 _ rfl, hc 3 _ rfl, hc 4 _ rfl, hc 5 _ rfl⟩
theorem cell_of_q {w : World} {B : Nat} {A : Option Addr} {l : List WV} (h : kQ.Holds w B A l) {k : Nat} (hk : k < l.length) :
    ∃ b o, A = some ⟨b, o, none⟩ ∧ b < B ∧ w.cell? ⟨b, o + k * 6, none⟩ = some (.int .i64 l[k].kind) ∧ w.cell? ⟨b, o + k * 6 + 1, none⟩ = some (.string l[k].tag) ∧ w.cell? ⟨b, o + k * 6 + 2, none⟩ = some (.string l[k].key) ∧
      w.cell? ⟨b, o + k * 6 + 3, none⟩ = some (.string l[k].txt) ∧ w.cell? ⟨b, o + k * 6 + 4, none⟩ = some (.slice l[k].sa.A l[k].sa.n l[k].sa.c) ∧ w.cell? ⟨b, o + k * 6 + 5, none⟩ = some (.slice l[k].sk.A l[k].sk.n l[k].sk.c) := by
  obtain ⟨b, o, rfl, hb, hc⟩ := h.at hk
  exact ⟨b, o, rfl, hb, hc 0 _ rfl, hc 1 _ rfl, hc 2 _ rfl, hc 3 _ rfl, hc 4 _ rfl, hc 5 _ rfl⟩
/-- what is wanted, that is read, below block C -/
inductive WOk (K : Kind Try.prog WV) (w : World) (C : Nat) : WV → Prop
  | mk {kind : Int} {tag key txt : ByteArray} {sa sk : Sv} {attrs : List P3.At} {kids : List WV} (al : attrs.length = sa.n) (ac : sa.n ≤ sa.c) (az : sa.A = none → sa.c = 0) (ah : kA.Holds w C sa.A attrs)
      (kl : kids.length = sk.n) (kc : sk.n ≤ sk.c) (kz : sk.A = none → sk.c = 0) (kh : K.Holds w C sk.A kids) (ks : ∀ k ∈ kids, WOk K w C k) : WOk K w C (.mk kind tag key txt sa attrs sk kids)
section
variable {K : Kind Try.prog WV} {w w' : World} {C D : Nat} {t : WV}
theorem WOk.al (h : WOk K w C t) : t.attrs.length = t.sa.n := by cases h; assumption
theorem WOk.ac (h : WOk K w C t) : t.sa.n ≤ t.sa.c := by cases h; assumption
theorem WOk.az (h : WOk K w C t) : t.sa.A = none → t.sa.c = 0 := by cases h; assumption
theorem WOk.ah (h : WOk K w C t) : kA.Holds w C t.sa.A t.attrs := by cases h; assumption
theorem WOk.kl (h : WOk K w C t) : t.kids.length = t.sk.n := by cases h; assumption
theorem WOk.kc (h : WOk K w C t) : t.sk.n ≤ t.sk.c := by cases h; assumption
theorem WOk.kz (h : WOk K w C t) : t.sk.A = none → t.sk.c = 0 := by cases h; assumption
theorem WOk.kh (h : WOk K w C t) : K.Holds w C t.sk.A t.kids := by cases h; assumption
theorem WOk.ks (h : WOk K w C t) : ∀ k ∈ t.kids, WOk K w C k := by cases h; assumption
theorem WOk.later (h : WOk K w C t) (hb : Below D w w') (hC : C ≤ D) : WOk K w' C t := by
  induction t using WV.ind with
  | h kind tag key txt sa attrs sk kids ih => exact ⟨h.al, h.ac, h.az, h.ah.below hb hC, h.kl, h.kc, h.kz, h.kh.below hb hC, fun k hk => ih k hk (h.ks k hk)⟩
theorem WOk.more (h : WOk K w C t) (hC : C ≤ D) : WOk K w D t := by
  induction t using WV.ind with
  | h kind tag key txt sa attrs sk kids ih => exact ⟨h.al, h.ac, h.az, h.ah.more hC, h.kl, h.kc, h.kz, h.kh.more hC, fun k hk => ih k hk (h.ks k hk)⟩
theorem WOk.on (h : WOk K w w.heap.size t) (hb : Below w.heap.size w w') : WOk K w' w'.heap.size t := (h.later hb (Nat.le_refl _)).more hb.size
end
/-- the slices of what is wanted in it, and of all below, are of one's own; their blocks are in Q -/
inductive WNew (K : Kind Try.prog WV) (w : World) (Q : Nat → Prop) : WV → Prop
  | mk {kind : Int} {tag key txt : ByteArray} {sa sk : Sv} {attrs : List P3.At} {kids : List WV} (at_ : AOk w sa attrs) (own : K.Own w 0 (.slice sk.A sk.n sk.c) kids) (q : ∀ b, (Value.slice sk.A sk.n sk.c).ownBlock = some b → Q b) (ks : ∀ k ∈ kids, WNew K w Q k) : WNew K w Q (.mk kind tag key txt sa attrs sk kids)
section
variable {K : Kind Try.prog WV} {w w' : World} {Q R S : Nat → Prop} {t : WV}
theorem WNew.at_ (h : WNew K w Q t) : AOk w t.sa t.attrs := by cases h; assumption
theorem WNew.own (h : WNew K w Q t) : K.Own w 0 (.slice t.sk.A t.sk.n t.sk.c) t.kids := by cases h; assumption
theorem WNew.q (h : WNew K w Q t) : ∀ b, (Value.slice t.sk.A t.sk.n t.sk.c).ownBlock = some b → Q b := by cases h; assumption
theorem WNew.ks (h : WNew K w Q t) : ∀ k ∈ t.kids, WNew K w Q k := by cases h; assumption
theorem WNew.mono (h : WNew K w Q t) (hq : ∀ b, b < w.heap.size → Q b → R b) : WNew K w R t := by
  induction t using WV.ind with
  | h kind tag key txt sa attrs sk kids ih => exact ⟨h.at_, h.own, fun b hb => hq b (h.own.lt hb).2 (h.q b hb), fun k hk => ih k hk (h.ks k hk)⟩
theorem WNew.but (h : WNew K w Q t) (hb : But S w w') (hS : ∀ b, Q b → ¬ S b) (hA : NoA w S) : WNew K w' Q t := by
  induction t using WV.ind with
  | h kind tag key txt sa attrs sk kids ih => exact ⟨h.at_.but hb hA, h.own.but hb (fun b e => hS b (h.q b e)), h.q, fun k hk => ih k hk (h.ks k hk)⟩
theorem WNew.later (h : WNew K w Q t) (hb : Below w.heap.size w w') : WNew K w' Q t := h.but (But.of_below hb (fun _ => False)) (fun _ _ h => h) (NoA.none w)
theorem WNew.ok (h : WNew K w Q t) : WOk K w w.heap.size t := by
  induction t using WV.ind with
  | h kind tag key txt sa attrs sk kids ih =>
    have h1 := h.at_
    have h2 := h.own
    simp only [WV.sa, WV.attrs] at h1
    simp only [WV.sk, WV.kids] at h2
    obtain ⟨A, n, c, hv, e1, e2, e3, e4, e5⟩ := h2.slice
    injection hv with v1 v2 v3
    subst v1; subst v2; subst v3
    exact ⟨h1.len, h1.cap, h1.nil, h1.holds, e1, e2, fun e => e4 e, e5, fun k hk => ih k hk (h.ks k hk)⟩
end
/-- blocks of one type that is not the attributes' -/
theorem kind_noA {S : Nat → Prop} {w : World} {e : TypeId} (he : e ≠ 98) (h : ∀ b, S b → ∃ cur, w.heap[b]? = some (.cells cur e (0, 0))) : NoA w S := fun k cur fr hk hc => by
  obtain ⟨c, h1⟩ := h k hk
  exact heap_ne hc h1 (fun e2 => he e2.symm) rfl
/-- a slice of one's own grows by one -/
theorem wants_grew {K : Kind Try.prog WV} (he : K.e ≠ 98) {w5 w7 : World} {o : Obj} {D : Nat} {A A7 : Option Addr} {n c n7 c7 : Nat} {l : List WV} {k : WV} {Q : Nat → Prop} (own : K.Own w5 D (.slice A n c) l)
    (ks : ∀ k ∈ l, WNew K w5 (fun b => Q b ∧ (Value.slice A n c).ownBlock ≠ some b) k) (hk : WNew K w5 (fun b => Q b ∧ (Value.slice A n c).ownBlock ≠ some b) k) (hg : (w5.alloc o).grownBy w7 (Value.slice A n c).ownBlock)
    (hat : (Value.slice A7 n7 c7).ownBlock = (Value.slice A n c).ownBlock ∨ (Value.slice A7 n7 c7).ownBlock = some (w5.alloc o).heap.size) :
    (∀ t ∈ l ++ [k], WNew K w7 (fun b => Q b ∧ (Value.slice A7 n7 c7).ownBlock ≠ some b) t) ∧ But (fun b => (Value.slice A n c).ownBlock = some b) w5 w7 := by
  have b7 : But (fun b => (Value.slice A n c).ownBlock = some b) w5 w7 := (But.alloc (But.refl _ _) _).trans (But.of_grown (S := fun i => (Value.slice A n c).ownBlock = some i) hg (fun i hi _ => hi)) (fun _ _ h => h)
  have hS : ∀ b, (Value.slice A n c).ownBlock = some b → ∃ cur, w5.heap[b]? = some (.cells cur K.e (0, 0)) := fun b e => own.ty e
  have key' : ∀ k : WV, WNew K w5 (fun b => Q b ∧ (Value.slice A n c).ownBlock ≠ some b) k → WNew K w7 (fun b => Q b ∧ (Value.slice A7 n7 c7).ownBlock ≠ some b) k := by
    intro k h
    have h1 : WNew K w5 (fun b => (Q b ∧ (Value.slice A n c).ownBlock ≠ some b) ∧ b < w5.heap.size) k := h.mono fun b hb hq => ⟨hq, hb⟩
    refine (h1.but b7 (fun b hq hs => hq.1.2 hs) (kind_noA he hS)).mono fun b _ hq => ⟨hq.1.1, fun e => ?_⟩
    rcases hat with h2 | h2
    · exact hq.1.2 (h2 ▸ e)
    · rw [h2] at e
      injection e with e
      have := hq.2
      simp at e
      omega
  refine ⟨fun t ht => ?_, b7⟩
  rcases List.mem_append.1 ht with h | h
  · exact key' t (ks t h)
  · rw [List.mem_singleton.1 h]; exact key' _ hk
/-- what is wanted of one's own, as a call tells it -/
def Wv (K : Kind Try.prog WV) (w : World) (l : List PW) (e : Ending) (w' : World) : Prop := ∃ (A : Option Addr) (n c : Nat) (ts : List WV), e = .returned (.slice A n c) ∧ erL ts = l ∧ K.Own w' w.heap.size (.slice A n c) ts ∧ (∀ t ∈ ts, WNew K w' (fun b => w.heap.size ≤ b ∧ (Value.slice A n c).ownBlock ≠ some b) t) ∧ Below w.heap.size w w'
theorem ownK_is {K : Kind Try.prog WV} {w : World} {D : Nat} {A : Option Addr} {n c : Nat} {l : List WV} (h : K.Own w D (.slice A n c) l) : l.length = n ∧ n ≤ c ∧ c ≤ maxLen ∧ (A = none → c = 0) ∧ K.Holds w w.heap.size A l := by
  obtain ⟨A', n', c', hv, e1, e2, e3, e4, e5⟩ := h.slice
  injection hv with h1 h2 h3
  subst h1; subst h2; subst h3
  exact ⟨e1, e2, e3, e4, e5⟩
end Go.Proofs.Ytcdcgdblchchkaa.P14

/- slices.Insert of one integer, laid by the shelf: at whatever place, with room or without. -/
set_option linter.unusedVariables false
set_option linter.unusedSimpArgs false
namespace Go.Proofs.Ytcdcgdblchchkaa.P5
open Go.RowKit Kd P4

theorem ins_row {c2 : Array Value} {C : List Value} {n i : Nat} {u : Value} (hC : C.length = n) (hi : i ≤ n) (hs : n + 1 ≤ c2.size) (h : ∀ k, k < n + 1 → c2[k]? = if k < i then C[k]? else if k = i then some u else C[k - 1]?) :
    c2.toList.take (n + 1) = C.take i ++ u :: C.drop i := by
  apply List.ext_getElem?
  intro k
  rw [List.getElem?_take]
  have hti : (C.take i).length = i := by rw [List.length_take]; omega
  by_cases hk : k < n + 1
  · rw [if_pos hk, Array.getElem?_toList, h k hk]
    by_cases h1 : k < i
    · rw [if_pos h1, List.getElem?_append_left (by omega), List.getElem?_take, if_pos h1]
    · rw [if_neg h1, List.getElem?_append_right (by omega), hti]
      by_cases h2 : k = i
      · subst h2; simp
      · obtain ⟨m, rfl⟩ : ∃ m, k = i + (m + 1) := ⟨k - i - 1, by omega⟩
        rw [if_neg h2, show i + (m + 1) - i = m + 1 by omega, List.getElem?_cons_succ, List.getElem?_drop, show i + (m + 1) - 1 = i + m by omega]
  · rw [if_neg hk, List.getElem?_eq_none]
    simp only [List.length_append, List.length_cons, List.length_drop, hti]
    omega
theorem cells_ins (l : List Int) (i : Nat) (t : Int) : kI.cells (l.take i ++ t :: l.drop i) = (kI.cells l).take i ++ .int .i64 t :: (kI.cells l).drop i := by
  rw [Kind.cells_append]
  show _ ++ kI.cells ([t] ++ l.drop i) = _
  rw [Kind.cells_append, Kind.cells_take, Kind.cells_drop]
  have : i * kI.size = i := Nat.mul_one i
  rw [this]
  rfl
theorem kI_len (l : List Int) : (kI.cells l).length = l.length := by rw [Kind.cells_len]; exact Nat.mul_one _

def Inserted (w : World) (B : Nat) (v : Value) (l : List Int) (e : Ending) (w' : World) : Prop :=
  ∃ A n c, e = .returned (.slice A n c) ∧ kI.Own w' B (.slice A n c) l ∧ But (fun k => v.ownBlock = some k) w w' ∧ ∀ g, (Value.slice A n c).ownBlock = some g → v.ownBlock = some g ∨ w.heap.size ≤ g
end Go.Proofs.Ytcdcgdblchchkaa.P5

/- What the quick calls on a document answer: who is there, a node, the identities, room, the focus; and what a focus, a note, attributes, a text that are set leave. -/
set_option linter.unusedVariables false
set_option linter.unusedSimpArgs false
namespace Go.Proofs.Ytcdcgdblchchkaa.P5
open Go.RowKit Kd P4
variable {B p : Nat} {x : Dx}

theorem own_nil_zero {v : Value} {w : World} {l : List Int} {A : Option Addr} {n c : Nat} (h : kI.Own w B v l) (hv : v = .slice A n c) : l.length = n ∧ n ≤ c ∧ c ≤ maxLen ∧ (A = none → c = 0 ∧ n = 0) ∧ kI.Holds w w.heap.size A l := by
  subst hv
  obtain ⟨A', n', c', hv, h1, h2, h3, h4, h5⟩ := h.slice
  injection hv with e1 e2 e3
  subst e1; subst e2; subst e3
  exact ⟨h1, h2, h3, fun e => by have := h4 e; omega, h5⟩
/-! ### A node that is told -/
/-- a node's value, with lists of its own -/
def Told (w : World) (nd : Nd) (e : Ending) (w' : World) : Prop :=
  ∃ A n c A2 n2 c2, e = .returned (.agg #[.int .i64 nd.id, .int .i64 nd.par, .string nd.tag, .string nd.txt, .string nd.key, .slice A n c, .slice A2 n2 c2, .int .i64 nd.note]) ∧ AOk w' ⟨A, n, c⟩ nd.attrs ∧ kI.Own w' w.heap.size (.slice A2 n2 c2) nd.kids ∧ Below w.heap.size w w'
theorem own_end {w w2 wf : World} {nd : Nd} {A A2 : Option Addr} {n c n2 c2 : Nat} {C D : Nat} (hB : Below w.heap.size w w2) (hA : kA.Own w2 C (.slice A n c) nd.attrs) (hK : kI.Own w2 D (.slice A2 n2 c2) nd.kids) (hC : w.heap.size + 1 < C) (hD : w.heap.size + 1 < D)
    (hb : But (fun k => k = w.heap.size ∨ k = w.heap.size + 1) w2 wf) : Told w nd (.returned (.agg #[.int .i64 nd.id, .int .i64 nd.par, .string nd.tag, .string nd.txt, .string nd.key, .slice A n c, .slice A2 n2 c2, .int .i64 nd.note])) wf := by
  have h1 : kA.Own wf C (.slice A n c) nd.attrs := hA.but hb (fun g hg h => by have := (hA.lt hg).1; omega)
  have h2 : kI.Own wf D (.slice A2 n2 c2) nd.kids := hK.but hb (fun g hg h => by have := (hK.lt hg).1; omega)
  obtain ⟨s, hs, ha⟩ := AOk.own h1
  obtain ⟨sA, sn, sc⟩ := s
  simp only [Sv.val, Value.slice.injEq] at hs
  obtain ⟨rfl, rfl, rfl⟩ := hs
  exact ⟨_, _, _, _, _, _, rfl, ha, h2.base_le (by omega), hB.trans (hb.to_below (fun i _ hi => by omega) hB.size)⟩
theorem setOne {a w : World} {g i : Nat} {u : Value} (h : But (fun k => k = g) a w) : But (fun k => k = g) a (w.setCell ⟨g, i, none⟩ u) := But.setCell h (fun _ => rfl) u
theorem one_end {w w2 wf : World} (hB : Below w.heap.size w w2) (hb : But (fun k => k = w.heap.size) w2 wf) : Below w.heap.size w wf := hB.trans (hb.to_below (fun i _ hi => by omega) hB.size)
/-- a node that is told: its value, with lists of its own, and whether it is there -/
def Tells (w : World) (nd : Nd) (e : Ending) (w' : World) : Prop :=
  ∃ A n c A2 n2 c2, e = .returned (.tuple #[.agg #[.int .i64 nd.id, .int .i64 nd.par, .string nd.tag, .string nd.txt, .string nd.key, .slice A n c, .slice A2 n2 c2, .int .i64 nd.note], .bool true]) ∧ AOk w' ⟨A, n, c⟩ nd.attrs ∧ kI.Own w' w.heap.size (.slice A2 n2 c2) nd.kids ∧ Below w.heap.size w w'
end Go.Proofs.Ytcdcgdblchchkaa.P5

/- An error's number, as a value. No condition. -/
set_option linter.unusedVariables false
set_option linter.unusedSimpArgs false
namespace Go.Proofs.Ytcdcgdblchchkaa.P5
open Go.RowKit Kd

/-- an error's number, as a value -/
def errV (c : Int) : Value := if c = 0 then .nilIface else .iface 70 (.int .i64 c)
end Go.Proofs.Ytcdcgdblchchkaa.P5

/- A document's own block, its slots, its identities turned: what it is then. No condition. -/
set_option linter.unusedVariables false
set_option linter.unusedSimpArgs false
namespace Go.Proofs.Ytcdcgdblchchkaa.P5
open Go.RowKit Kd P4
variable {B p : Nat} {x : Dx}

theorem idsl (x : Dx) : idsOf (x.rs.map (·.nd)) = idsOf x.l := rfl
theorem own_not {w : World} {C g : Nat} {v : Value} {l : List Int} {cur : Array Value} {t : TypeId} {fr : Nat × Nat} (h : kI.Own w C v l) (hg : w.heap[g]? = some (.cells cur t fr)) (ht : t ≠ 3) : some g ≠ v.ownBlock := fun e => by
  obtain ⟨d, hd⟩ := h.ty e.symm
  exact heap_ne hg hd ht rfl
end Go.Proofs.Ytcdcgdblchchkaa.P5

/- What SetFocus, Note, setText, setAttrs answer and leave; whether one is inside another; a node that leaves. -/
set_option linter.unusedVariables false
set_option linter.unusedSimpArgs false
namespace Go.Proofs.Ytcdcgdblchchkaa.P5
open Go.RowKit Kd P4
variable {B p : Nat} {x : Dx}

end Go.Proofs.Ytcdcgdblchchkaa.P5

/- What setAttrs answers and leaves; whether one is inside another; a node that leaves. -/
set_option linter.unusedVariables false
set_option linter.unusedSimpArgs false
namespace Go.Proofs.Ytcdcgdblchchkaa.P5
open Go.RowKit Kd P4
variable {B p : Nat} {x : Dx}

/-- attributes that are handed in -/
structure ArgA (w : World) (A : Option Addr) (n c : Nat) (l : List P3.At) : Prop where
  len : l.length = n
  cap : n ≤ c
  nil : A = none → c = 0
  few : n ≤ 1000000
  wf : P3.Wf l
  holds : kA.Holds w w.heap.size A l
theorem ArgA.below {w w' : World} {A : Option Addr} {n c : Nat} {l : List P3.At} (h : ArgA w A n c l) (hb : Below w.heap.size w w') : ArgA w' A n c l := ⟨h.len, h.cap, h.nil, h.few, h.wf, h.holds.on hb⟩

/-! ### inside -/
open Classical in
noncomputable def depOf (P : Int → Int) (y : Int) : Nat := if h : ∃ k, Dep P y k then Classical.choose h else 0
theorem dep_uniq {P : Int → Int} {y : Int} {i j : Nat} (hi : Dep P y i) (hj : Dep P y j) : i = j := by
  rcases Nat.lt_trichotomy i j with h | h | h
  · exact absurd hi.1 (hj.2 i h)
  · exact h
  · exact absurd hj.1 (hi.2 j h)
theorem depOf_is {P : Int → Int} {y : Int} {k : Nat} (h : Dep P y k) : depOf P y = k := by
  have hx : ∃ k, Dep P y k := ⟨k, h⟩
  unfold depOf
  rw [dif_pos hx]
  exact dep_uniq (Classical.choose_spec hx) h
theorem depOf_lt {l : List Nd} (h : Tr (fun y => hasL l y = true) (parOf l) (kidsOf l)) {y : Int} (hy : y ≠ 0) : depOf (parOf l) (parOf l y) < depOf (parOf l) y := by
  obtain ⟨k, hk⟩ := h.dep y
  rw [depOf_is hk]
  cases k with
  | zero => exact absurd hk.1 hy
  | succ k =>
    have : Dep (parOf l) (parOf l y) k := ⟨hk.1, fun i hi => hk.2 (i + 1) (by omega)⟩
    rw [depOf_is this]
    omega
theorem inside_yes {l : List Nd} (h : Tr (fun y => hasL l y = true) (parOf l) (kidsOf l)) {a b : Int} {j : Nat} (ha : hasL l a = true) (hb : b ≠ 0) (hj : it (parOf l) j a = b) : inside l a b = true := by
  obtain ⟨k, hk⟩ := h.dep a
  have hkl := h.dep_le (L := idsOf l) (fun y hy => has_ids.1 hy) ha hk
  have hjk : j < k := by
    rcases Nat.lt_or_ge j k with hlt | hge
    · exact hlt
    · exact absurd (hj.symm.trans (h.it_ge hk.1 hge)) hb
  unfold inside aboveL
  rw [decide_eq_true_iff, ← hj]
  simp only [idsOf, List.length_map] at hkl
  exact h.it_up _ a k j ha hk hjk (by omega)
theorem inside_no {l : List Nd} (h : Tr (fun y => hasL l y = true) (parOf l) (kidsOf l)) {a b : Int} {j : Nat} (hj : it (parOf l) j a = 0) (hn : ∀ m, m < j → it (parOf l) m a ≠ b) : inside l a b = false := by
  unfold inside aboveL
  rw [decide_eq_false_iff_not]
  intro hm
  obtain ⟨m, hm1, hm2⟩ := up_it _ _ _ hm
  rcases Nat.lt_or_ge m j with hlt | hge
  · exact hn m hlt hm1
  · rw [h.it_ge hj hge] at hm1
    subst hm1
    exact h.z hm2
end Go.Proofs.Ytcdcgdblchchkaa.P5

/- A node that leaves; a node that is put, or the error. -/
set_option linter.unusedVariables false
set_option linter.unusedSimpArgs false
namespace Go.Proofs.Ytcdcgdblchchkaa.P5
open Go.RowKit Kd P4
variable {B p : Nat} {x : Dx}

theorem put_slots {k : Nat} (hk : k < x.rs.length) {r : Rw} (hb : r.b = x.rs[k].b) (hid : r.nd.id = x.rs[k].nd.id) : (x.put k r).rs.map slotOf = x.rs.map slotOf := by
  show (x.rs.set k r).map slotOf = x.rs.map slotOf
  apply List.ext_getElem
  · simp
  · intro j h1 h2
    simp only [List.getElem_map, List.getElem_set]
    split
    · rename_i e; subst e; simp [slotOf, hb, hid]
    · rfl
theorem put_other {k m : Nat} (hk : k < x.rs.length) {r : Rw} (hne : m ≠ k) : ∃ h1 : k < (x.put m r).rs.length, (x.put m r).rs[k] = x.rs[k] := by
  refine ⟨by show k < (x.rs.set m r).length; simpa using hk, ?_⟩
  show (x.rs.set m r)[k]'(by simpa using hk) = x.rs[k]
  exact List.getElem_set_ne hne _
/-- one's slots stand as before: so does each one's block -/
theorem slots_at {rs rs' : List Rw} (h : rs'.map slotOf = rs.map slotOf) {k : Nat} (hk : k < rs.length) : ∃ h1 : k < rs'.length, rs'[k].nd.id = rs[k].nd.id ∧ rs'[k].b = rs[k].b := by
  have hl : rs'.length = rs.length := by simpa using congrArg List.length h
  have h1 : k < rs'.length := by omega
  refine ⟨h1, ?_⟩
  have e := congrArg (fun l => l[k]?) h
  simp only [List.getElem?_map, List.getElem?_eq_getElem hk, List.getElem?_eq_getElem h1, Option.map_some, Option.some.injEq] at e
  unfold slotOf at e
  injection e with e1 e2
  exact ⟨e1, e2⟩

end Go.Proofs.Ytcdcgdblchchkaa.P5

/- A node that is put: each error, or where it stands then. -/
set_option linter.unusedVariables false
set_option linter.unusedSimpArgs false
namespace Go.Proofs.Ytcdcgdblchchkaa.P5
open Go.RowKit Kd P4
variable {B p : Nat} {x : Dx}

theorem void_at (t : ByteArray) {r : Bool} (w : World) (h : P1.voidB t.data.toList = r) : Calls Try.prog 41 #[.string t] w fun e w' => e = .returned (.bool r) ∧ w = w' := by
  subst h; exact P1.void_any t w
end Go.Proofs.Ytcdcgdblchchkaa.P5

/- A node that is put, and stands; put as a whole. -/
set_option linter.unusedVariables false
set_option linter.unusedSimpArgs false
namespace Go.Proofs.Ytcdcgdblchchkaa.P5
open Go.RowKit Kd P4
variable {B p : Nat} {x : Dx}

theorem ins_end (i : Int) (l : List Int) : l.take l.length ++ i :: l.drop l.length = insA i 0 l := by
  unfold insA; rw [if_pos rfl]; simp
theorem ins_at : ∀ {l : List Int} {b : Int} (i : Int), b ∈ l → l.Nodup → b ≠ 0 → l.take (idxA l b) ++ i :: l.drop (idxA l b) = insA i b l
  | [], _, _, h, _, _ => absurd h (by simp)
  | a :: r, b, i, h, hn, h0 => by
    obtain ⟨h1, h2⟩ := List.nodup_cons.1 hn
    unfold insA
    rw [if_neg h0, List.flatMap_cons]
    by_cases e : b = a
    · subst e
      have : r.flatMap (fun c => if c = b then [i, c] else [c]) = r := by
        have : ∀ m : List Int, b ∉ m → m.flatMap (fun c => if c = b then [i, c] else [c]) = m := by
          intro m
          induction m with
          | nil => intro _; rfl
          | cons c m ih =>
            intro hm
            simp only [List.mem_cons, not_or] at hm
            rw [List.flatMap_cons, if_neg (Ne.symm hm.1), ih hm.2]
            rfl
        exact this r h1
      rw [this]
      simp [idxA]
    · have ih := ins_at i ((List.mem_cons.1 h).resolve_left e) h2 h0
      unfold insA at ih
      rw [if_neg h0] at ih
      rw [if_neg (Ne.symm e), ← ih]
      simp [idxA, e]
theorem beq_i (a b : Int) : (a == b) = decide (a = b) := rfl
end Go.Proofs.Ytcdcgdblchchkaa.P5

/- Errors told apart; the law's Code and Pick. No condition. -/
set_option linter.unusedVariables false
set_option linter.unusedSimpArgs false
namespace Go.Proofs.Ytcdcgdblchchkaa.P4
open Go.RowKit Kd

theorem err_eql (a b : Int) (w : World) : (binOp .eql 47 (.iface 70 (.int .i64 a)) (.iface 70 (.int .i64 b))).run Try.prog w = .ok (.bool (a == b)) w :=
  Lib.run_eql_iface_int w a b Try.underlying47 (by kernel_rfl) Try.underlying70
theorem err_eql_nil (x : Value) (w : World) : (binOp .eql 47 (.iface 70 x) .nilIface).run Try.prog w = .ok (.bool false) w := run_eql_held_nil _ _ _ _ (by kernel_rfl)
theorem err_neq_nil (x : Value) (w : World) : (binOp .neq 47 (.iface 70 x) .nilIface).run Try.prog w = .ok (.bool true) w := run_neq_held_nil _ _ _ _ (by kernel_rfl)
theorem nil_eql_nil (w : World) : (binOp .eql 47 .nilIface .nilIface).run Try.prog w = .ok (.bool true) w := Go.run_eql_nil_nil _ _ (by kernel_rfl)
theorem nil_neq_nil (w : World) : (binOp .neq 47 .nilIface .nilIface).run Try.prog w = .ok (.bool false) w := Go.run_neq_nil_nil _ _ (by kernel_rfl)

end Go.Proofs.Ytcdcgdblchchkaa.P4

/- A node more, or the error; whether one may be made; a new document. -/
set_option linter.unusedVariables false
set_option linter.unusedSimpArgs false
namespace Go.Proofs.Ytcdcgdblchchkaa.P5
open Go.RowKit Kd P4
variable {B p : Nat} {x : Dx}

theorem heap_top {w : World} {o : Obj} {g : Nat} (h : g = w.heap.size) : (w.alloc o).heap[g]? = some o := by subst h; exact heap_alloc_new w o
theorem heap_drew {w : World} {o : Obj} {g : Nat} (h : w.heap[g]? = some o) : w.drew.heap[g]? = some o := h

/-! ### add -/
end Go.Proofs.Ytcdcgdblchchkaa.P5

/- What placketref11.Count and Alike answer. No condition but those stated. -/
set_option linter.unusedVariables false
set_option linter.unusedSimpArgs false
namespace Go.Proofs.Ytcdcgdblchchkaa.P14
open Go.RowKit Kd P4 P5 P11 P12 P13

theorem wtL_kids {t : WV} {l : List WV} (h : t ∈ l) : wtL (erL t.kids) + 1 ≤ wtL (erL l) := by
  have h1 := wtL_mem (l := erL l) (t := er t) (by rw [erL_map]; exact List.mem_map_of_mem h)
  rw [er_parts, wtW] at h1
  omega
theorem cnt_parts (t : WV) : cntW (er t) = if t.kind = 2 then 1 else if t.kind = 1 then 1 + cntL (erL t.kids) else 0 := by rw [er_parts, cntW]
end Go.Proofs.Ytcdcgdblchchkaa.P14
