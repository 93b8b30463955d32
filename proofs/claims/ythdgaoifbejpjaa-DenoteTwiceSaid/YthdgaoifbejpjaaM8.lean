/- A document as it lies in memory: its own block, its arena's, its list of identities, each node's block and lists; what a call may have turned. No condition. -/
import Derived.Shelf.Spec.SlicesInsertGrow
import Derived.Deep.RegionHeld3
import Derived.Test.YthdgaoifbejpjaaM2
import Derived.Test.YthdgaoifbejpjaaM5
import Derived.Test.YthdgaoifbejpjaaM7
set_option linter.unusedVariables false
set_option linter.unusedSimpArgs false
set_option linter.unusedVariables false
set_option linter.unusedSimpArgs false
namespace Go.Proofs.Ythdgaoifbejpjaa.P5
open Go.RowKit Kd P4

/-! ### Attributes that are read -/
structure AOk (w : World) (s : Sv) (l : List P3.At) : Prop where
  len : l.length = s.n
  cap : s.n ≤ s.c
  cm : s.c ≤ maxLen
  nil : s.A = none → s.c = 0
  holds : kA.Holds w w.heap.size s.A l
  ty : ∀ b o, s.A = some ⟨b, o, none⟩ → l ≠ [] → ∃ cur fr, w.heap[b]? = some (.cells cur 85 fr)
/-- none of these blocks is one of attributes -/
def NoA (w : World) (S : Nat → Prop) : Prop := ∀ k cur fr, S k → w.heap[k]? ≠ some (.cells cur 85 fr)
theorem NoA.none (w : World) : NoA w (fun _ => False) := fun _ _ _ h => h.elim
section
variable {w w' : World} {s : Sv} {l : List P3.At}
theorem AOk.but {S : Nat → Prop} (h : AOk w s l) (hb : But S w w') (hS : NoA w S) : AOk w' s l := by
  have key : ∀ b o, s.A = some ⟨b, o, Option.none⟩ → l ≠ [] → w'.heap[b]? = w.heap[b]? := by
    intro b o hA hl
    obtain ⟨cur, fr, hc⟩ := h.ty b o hA hl
    exact hb.block b (heap_lt hc) (fun hs => hS b cur fr hs hc)
  refine ⟨h.len, h.cap, h.cm, h.nil, ?_, fun b o hA hl => ?_⟩
  · cases l with
    | nil => exact Kind.Holds.nil _ _ _
    | cons a r => exact (h.holds.keep fun b ⟨o, hA⟩ _ => key b o hA (by simp)).more hb.size
  · obtain ⟨cur, fr, hc⟩ := h.ty b o hA hl
    exact ⟨cur, fr, (key b o hA hl).trans hc⟩
theorem AOk.below (h : AOk w s l) (hb : Below w.heap.size w w') : AOk w' s l := h.but (But.of_below hb (fun _ => False)) (NoA.none w)
theorem AOk.nil_ (w : World) : AOk w ⟨Option.none, 0, 0⟩ [] := ⟨rfl, Nat.le_refl _, by simp [maxLen], fun _ => rfl, Kind.Holds.nil _ _ _, fun _ _ h => by cases h⟩
theorem AOk.own {B : Nat} {v : Value} (h : kA.Own w B v l) : ∃ s : Sv, v = s.val ∧ AOk w s l := by
  obtain ⟨A, n, c, rfl, h1, h2, h3, h4, h5⟩ := h.slice
  refine ⟨⟨A, n, c⟩, rfl, h1, h2, h3, h4, h5, fun b o hA hl => ?_⟩
  simp only at hA
  subst hA
  rcases h.form with ⟨hv, rfl⟩ | ⟨g, c', cur, hv, _, _, _, hh, _⟩
  · exact absurd rfl hl
  · injection hv with e1
    injection e1 with e1
    injection e1 with e1
    subst e1
    exact ⟨cur, _, hh⟩
theorem AOk.drewN (h : AOk w s l) (n : Nat) : AOk (w.drewN n) s l := ⟨h.len, h.cap, h.cm, h.nil, h.holds, h.ty⟩
/-- as layer 3 says it -/
theorem p3holds {B : Nat} {A : Option Addr} (h : kA.Holds w B A l) : P3.Holds w B A l := by
  intro k hk
  obtain ⟨b, o, hA, hb, hc⟩ := h.at hk
  exact ⟨b, o, hA, hb, hc 0 _ rfl, hc 1 _ rfl, hc 2 _ rfl⟩
end

/-! ### A document -/
/-- a node: its block, its two lists -/
structure Rw where
  b : Nat
  va : Sv
  vk : Sv
  nd : Nd
def Nd.cells (nd : Nd) (va vk : Sv) : Array Value := #[.int .i64 nd.id, .int .i64 nd.par, .string nd.tag, .string nd.txt, .string nd.key, va.val, vk.val, .int .i64 nd.note]
def slotOf (r : Rw) : Sl Nat := ⟨r.nd.id, r.b⟩
/-- a document: its arena's block, the slots and the identities, room, the last identity, the focus, its nodes -/
structure Dx where
  a : Nat
  v : Value
  vi : Value
  R : Nat
  n : Int
  foc : Int
  rs : List Rw
def Dx.l (x : Dx) : List Nd := x.rs.map (·.nd)
def Dx.d (x : Dx) : D := ⟨x.l, x.n, x.R, x.foc⟩
def foot (p : Nat) (x : Dx) (k : Nat) : Prop := k = p ∨ k = x.a ∨ x.v.ownBlock = some k ∨ x.vi.ownBlock = some k ∨ ∃ r ∈ x.rs, k = r.b ∨ r.vk.val.ownBlock = some k
section
variable {w w' : World} {B p : Nat} {x : Dx}
theorem l_len (x : Dx) : x.l.length = x.rs.length := by simp [Dx.l]
theorem l_at (x : Dx) {k : Nat} (hk : k < x.rs.length) : x.l[k]'(by rw [l_len]; exact hk) = x.rs[k].nd := by simp [Dx.l]
/-! ### What a call has done to a document -/
theorem mem_set_ {α : Type} {l : List α} {k : Nat} {r s : α} (h : s ∈ l.set k r) : s = r ∨ ∃ j, ∃ hj : j < l.length, k ≠ j ∧ s = l[j] := by
  obtain ⟨j, hj, rfl⟩ := List.mem_iff_getElem.1 h
  rw [List.getElem_set]
  split
  · exact .inl rfl
  · rename_i e
    exact .inr ⟨j, by simpa using hj, e, rfl⟩
/-- one node is another, in the same block -/
def Dx.put (x : Dx) (k : Nat) (r : Rw) : Dx := { x with rs := x.rs.set k r }
end
end Go.Proofs.Ythdgaoifbejpjaa.P5

/- Trees, plain: how many nodes, whether one may be, whether two are the same; a tree with its slices. No condition. -/
set_option linter.unusedVariables false
set_option linter.unusedSimpArgs false
namespace Go.Proofs.Ythdgaoifbejpjaa.P8
open Go.RowKit Kd P4 P5

inductive PT where
  | mk (tag txt key : ByteArray) (attrs : List P3.At) (kids : List PT)
/-- a tree, with the slices of its attributes and of its children -/
inductive TV where
  | mk (tag txt key : ByteArray) (sa : Sv) (attrs : List P3.At) (sk : Sv) (kids : List TV)
theorem PT.ind {Q : PT → Prop} (h : ∀ tag txt key attrs kids, (∀ k ∈ kids, Q k) → Q (.mk tag txt key attrs kids)) (t : PT) : Q t :=
  PT.rec (motive_1 := Q) (motive_2 := fun l => ∀ k ∈ l, Q k) (fun a b c d e ih => h a b c d e ih) (fun _ hk => by cases hk) (fun a l ha hl k hk => by
    rcases List.mem_cons.1 hk with rfl | hk
    · exact ha
    · exact hl k hk) t
theorem TV.ind {Q : TV → Prop} (h : ∀ tag txt key sa attrs sk kids, (∀ k ∈ kids, Q k) → Q (.mk tag txt key sa attrs sk kids)) (t : TV) : Q t :=
  TV.rec (motive_1 := Q) (motive_2 := fun l => ∀ k ∈ l, Q k) (fun a b c d e f g ih => h a b c d e f g ih) (fun _ hk => by cases hk) (fun a l ha hl k hk => by
    rcases List.mem_cons.1 hk with rfl | hk
    · exact ha
    · exact hl k hk) t
namespace TV
def tag : TV → ByteArray | .mk a _ _ _ _ _ _ => a
def txt : TV → ByteArray | .mk _ a _ _ _ _ _ => a
def key : TV → ByteArray | .mk _ _ a _ _ _ _ => a
def sa : TV → Sv | .mk _ _ _ a _ _ _ => a
def attrs : TV → List P3.At | .mk _ _ _ _ a _ _ => a
def sk : TV → Sv | .mk _ _ _ _ _ a _ => a
def kids : TV → List TV | .mk _ _ _ _ _ _ a => a
end TV
namespace PT
def tag : PT → ByteArray | .mk a _ _ _ _ => a
def txt : PT → ByteArray | .mk _ a _ _ _ => a
def key : PT → ByteArray | .mk _ _ a _ _ => a
def attrs : PT → List P3.At | .mk _ _ _ a _ => a
def kids : PT → List PT | .mk _ _ _ _ a => a
end PT
mutual
def er : TV → PT
  | .mk tag txt key _ attrs _ kids => .mk tag txt key attrs (erL kids)
def erL : List TV → List PT
  | [] => []
  | a :: l => er a :: erL l
end
theorem erL_map : ∀ l : List TV, erL l = l.map er
  | [] => by simp [erL]
  | a :: l => by simp [erL, erL_map l]

/-! ### How many -/
mutual
def countP : PT → Nat
  | .mk _ _ _ _ kids => countL kids + 1
def countL : List PT → Nat
  | [] => 0
  | a :: l => countP a + countL l
end
theorem count_pos (t : PT) : 1 ≤ countP t := by cases t; simp [countP]
theorem countL_append : ∀ l m : List PT, countL (l ++ m) = countL l + countL m
  | [], m => by simp [countL]
  | a :: l, m => by simp [countL, countL_append l m]; omega
theorem countL_take {l : List PT} {k : Nat} (h : k < l.length) : countL (l.take (k + 1)) = countL (l.take k) + countP l[k] := by
  rw [List.take_add_one, List.getElem?_eq_getElem h, countL_append]
  simp [countL]
theorem countL_le (l : List PT) (k : Nat) : countL (l.take k) ≤ countL l := by
  have := countL_append (l.take k) (l.drop k)
  rw [List.take_append_drop] at this
  omega
theorem countL_at {l : List PT} {k : Nat} (h : k < l.length) : countP l[k] ≤ countL l := by
  have h1 := countL_take h
  have h2 := countL_le l (k + 1)
  omega
theorem len_le_count : ∀ l : List PT, l.length ≤ countL l
  | [] => by simp [countL]
  | a :: l => by have := len_le_count l; have := count_pos a; simp [countL]; omega

/-! ### Few, and short -/
mutual
def fewP : PT → Bool
  | .mk tag txt key attrs kids => decide (tag.size ≤ 100) && decide (txt.size ≤ 100) && decide (key.size ≤ 100) && P3.fewA attrs && fewL kids
def fewL : List PT → Bool
  | [] => true
  | a :: l => fewP a && fewL l
end
theorem fewL_all : ∀ l : List PT, fewL l = l.all fewP
  | [] => by simp [fewL]
  | a :: l => by simp [fewL, fewL_all l]
theorem fewL_take {l : List PT} {k : Nat} (h : k < l.length) (h1 : fewL (l.take k) = true) (h2 : fewP l[k] = true) : fewL (l.take (k + 1)) = true := by
  rw [fewL_all] at h1 ⊢
  rw [List.take_add_one, List.getElem?_eq_getElem h, List.all_append, h1]
  simp [h2]
theorem fewL_at {l : List PT} {k : Nat} (h : k < l.length) (h1 : fewL l = true) : fewP l[k] = true := by
  rw [fewL_all, List.all_eq_true] at h1
  exact h1 _ (List.getElem_mem h)
theorem few_wf {l : List P3.At} (h : P3.fewA l = true) : P3.Wf l ∧ l.length ≤ 20 := by
  unfold P3.fewA at h
  rw [Bool.and_eq_true, List.all_eq_true] at h
  refine ⟨fun a ha => ?_, by simpa using h.1⟩
  have := h.2 a ha
  unfold P3.shortA at this
  simp at this
  unfold maxLen
  omega

/-! ### Whether it may be -/
mutual
def mayP : PT → Bool
  | .mk tag txt key attrs kids =>
    if tag.toList.isEmpty then P1.textB txt.data.toList && key.toList.isEmpty && attrs.isEmpty && kids.isEmpty
    else P1.nameB tag.data.toList && P1.textB key.data.toList && P3.mayA attrs && txt.toList.isEmpty && !(P1.voidB tag.data.toList && !kids.isEmpty) && mayL kids
def mayL : List PT → Bool
  | [] => true
  | a :: l => mayP a && mayL l
end
theorem mayL_all : ∀ l : List PT, mayL l = l.all mayP
  | [] => by simp [mayL]
  | a :: l => by simp [mayL, mayL_all l]
theorem mayL_bad {l : List PT} {k : Nat} (h : k < l.length) (hb : mayP l[k] = false) : mayL l = false := by
  rw [mayL_all]
  exact Bool.eq_false_iff.2 fun e => by
    rw [List.all_eq_true] at e
    have := e _ (List.getElem_mem h)
    rw [hb] at this
    cases this
theorem mayL_take {l : List PT} {k : Nat} (h : k < l.length) (h1 : mayL (l.take k) = true) (h2 : mayP l[k] = true) : mayL (l.take (k + 1)) = true := by
  rw [mayL_all] at h1 ⊢
  rw [List.take_add_one, List.getElem?_eq_getElem h, List.all_append, h1]
  simp [h2]

/-! ### Whether two are the same -/
mutual
def sameP : PT → PT → Bool
  | .mk t x k a l, .mk t' x' k' a' l' => P3.sameA a a' && (t.toList == t'.toList) && (x.toList == x'.toList) && (k.toList == k'.toList) && sameL l l'
def sameL : List PT → List PT → Bool
  | [], [] => true
  | a :: l, b :: m => sameP a b && sameL l m
  | [], _ :: _ => false
  | _ :: _, [] => false
end
theorem sameL_len : ∀ {l m : List PT}, l.length ≠ m.length → sameL l m = false
  | [], [], h => absurd rfl h
  | [], _ :: _, _ => by simp [sameL]
  | _ :: _, [], _ => by simp [sameL]
  | a :: l, b :: m, h => by simp [sameL, sameL_len (l := l) (m := m) (by simpa using h)]
theorem sameL_bad : ∀ {l m : List PT} {k : Nat} (h : k < l.length) (h' : k < m.length), sameP l[k] m[k] = false → sameL l m = false
  | [], _, _, h, _, _ => by simp at h
  | _ :: _, [], _, _, h, _ => by simp at h
  | a :: l, b :: m, 0, _, _, e => by simp only [List.getElem_cons_zero] at e; simp [sameL, e]
  | a :: l, b :: m, k + 1, h, h', e => by simp only [List.getElem_cons_succ] at e; simp [sameL, sameL_bad (by simpa using h) (by simpa using h') e]
theorem sameL_all : ∀ {l m : List PT}, l.length = m.length → (∀ k (h : k < l.length) (h' : k < m.length), sameP l[k] m[k] = true) → sameL l m = true
  | [], [], _, _ => by simp [sameL]
  | [], _ :: _, h, _ => by simp at h
  | _ :: _, [], h, _ => by simp at h
  | a :: l, b :: m, h, e => by
    have h0 := e 0 (by simp) (by simp)
    simp only [List.getElem_cons_zero] at h0
    rw [sameL, h0, Bool.true_and]
    exact sameL_all (by simpa using h) fun k hk hk' => by
      have := e (k + 1) (by simpa using hk) (by simpa using hk')
      simpa using this
theorem sameP_refl (t : PT) : sameP t t = true := by
  induction t using PT.ind with
  | h tag txt key attrs kids ih =>
    rw [sameP, P3.sameA_refl, sameL_all rfl fun k h _ => ih _ (List.getElem_mem h)]
    simp
end Go.Proofs.Ythdgaoifbejpjaa.P8

/- Trees as they lie in memory: a slice of them, one that is read whole. No condition. -/
set_option linter.unusedVariables false
set_option linter.unusedSimpArgs false
namespace Go.Proofs.Ythdgaoifbejpjaa.P8
open Go.RowKit Kd P4 P5

theorem infoT : (Try.prog.info? 37).map (fun i => (i.zero, i.size, i.bytes)) = some (some (.agg #[.string ⟨#[]⟩, .string ⟨#[]⟩, .string ⟨#[]⟩, .slice none 0 0, .slice none 0 0]), 5, 96) := by kernel_rfl
def TV.cells (a : TV) : List Value := [.string a.tag, .string a.txt, .string a.key, .slice a.sa.A a.sa.n a.sa.c, .slice a.sk.A a.sk.n a.sk.c]
def kT : Kind Try.prog TV where
  t := 23
  e := 37
  size := 5
  bytes := 96
  z := .agg #[.string ⟨#[]⟩, .string ⟨#[]⟩, .string ⟨#[]⟩, .slice none 0 0, .slice none 0 0]
  cs := TV.cells
  ht := Try.underlying23
  info := info_ex infoT
  hzs := rfl
  hpos := by decide
  hbb := by decide
  len := fun _ => rfl
  one := fun a u hu => by simp [TV.cells] at hu; rcases hu with rfl | rfl | rfl | rfl | rfl <;> rfl
theorem cell_of_trees {w : World} {B : Nat} {A : Option Addr} {l : List TV} (h : kT.Holds w B A l) {k : Nat} (hk : k < l.length) :
    ∃ b o, A = some ⟨b, o, none⟩ ∧ b < B ∧ w.cell? ⟨b, o + k * 5, none⟩ = some (.string l[k].tag) ∧ w.cell? ⟨b, o + k * 5 + 1, none⟩ = some (.string l[k].txt) ∧ w.cell? ⟨b, o + k * 5 + 2, none⟩ = some (.string l[k].key) ∧
      w.cell? ⟨b, o + k * 5 + 3, none⟩ = some (.slice l[k].sa.A l[k].sa.n l[k].sa.c) ∧ w.cell? ⟨b, o + k * 5 + 4, none⟩ = some (.slice l[k].sk.A l[k].sk.n l[k].sk.c) := by
  obtain ⟨b, o, rfl, hb, hc⟩ := h.at hk
  exact ⟨b, o, rfl, hb, hc 0 _ rfl, hc 1 _ rfl, hc 2 _ rfl, hc 3 _ rfl, hc 4 _ rfl⟩
/-- a tree that is read, below block C -/
inductive TOk (w : World) (C : Nat) : TV → Prop
  | mk {tag txt key : ByteArray} {sa sk : Sv} {attrs : List P3.At} {kids : List TV} (al : attrs.length = sa.n) (ac : sa.n ≤ sa.c) (az : sa.A = none → sa.c = 0) (ah : kA.Holds w C sa.A attrs)
      (kl : kids.length = sk.n) (kc : sk.n ≤ sk.c) (kz : sk.A = none → sk.c = 0) (kh : kT.Holds w C sk.A kids) (ks : ∀ k ∈ kids, TOk w C k) : TOk w C (.mk tag txt key sa attrs sk kids)
section
variable {w w' : World} {C D : Nat} {t : TV}
theorem TOk.al (h : TOk w C t) : t.attrs.length = t.sa.n := by cases h; assumption
theorem TOk.ac (h : TOk w C t) : t.sa.n ≤ t.sa.c := by cases h; assumption
theorem TOk.az (h : TOk w C t) : t.sa.A = none → t.sa.c = 0 := by cases h; assumption
theorem TOk.ah (h : TOk w C t) : kA.Holds w C t.sa.A t.attrs := by cases h; assumption
theorem TOk.kl (h : TOk w C t) : t.kids.length = t.sk.n := by cases h; assumption
theorem TOk.kc (h : TOk w C t) : t.sk.n ≤ t.sk.c := by cases h; assumption
theorem TOk.kz (h : TOk w C t) : t.sk.A = none → t.sk.c = 0 := by cases h; assumption
theorem TOk.kh (h : TOk w C t) : kT.Holds w C t.sk.A t.kids := by cases h; assumption
theorem TOk.ks (h : TOk w C t) : ∀ k ∈ t.kids, TOk w C k := by cases h; assumption
theorem TOk.later (h : TOk w C t) (hb : Below D w w') (hC : C ≤ D) : TOk w' C t := by
  induction t using TV.ind with
  | h tag txt key sa attrs sk kids ih => exact ⟨h.al, h.ac, h.az, h.ah.below hb hC, h.kl, h.kc, h.kz, h.kh.below hb hC, fun k hk => ih k hk (h.ks k hk)⟩
theorem TOk.more (h : TOk w C t) (hC : C ≤ D) : TOk w D t := by
  induction t using TV.ind with
  | h tag txt key sa attrs sk kids ih => exact ⟨h.al, h.ac, h.az, h.ah.more hC, h.kl, h.kc, h.kz, h.kh.more hC, fun k hk => ih k hk (h.ks k hk)⟩
theorem TOk.on (h : TOk w w.heap.size t) (hb : Below w.heap.size w w') : TOk w' w'.heap.size t := (h.later hb (Nat.le_refl _)).more hb.size
end
theorem er_mk (t : TV) : er t = .mk t.tag t.txt t.key t.attrs (t.kids.map er) := by cases t; rw [er, erL_map]; rfl
theorem er_kids (t : TV) : (er t).kids = t.kids.map er := by rw [er_mk]; rfl
/-- a tree in a block of its own -/
def TB (w : World) (s : Nat) (t : TV) : Prop := w.heap[s]? = some (.cells #[.string t.tag, .string t.txt, .string t.key, .slice t.sa.A t.sa.n t.sa.c, .slice t.sk.A t.sk.n t.sk.c] 37 (0, 0))
section
variable {w w' : World} {s C : Nat} {t : TV}
theorem TB.new (w : World) (t : TV) : TB (w.alloc (.cells #[.string t.tag, .string t.txt, .string t.key, .slice t.sa.A t.sa.n t.sa.c, .slice t.sk.A t.sk.n t.sk.c] 37)) w.heap.size t := heap_alloc_new w _
theorem TB.lt (h : TB w s t) : s < w.heap.size := heap_lt h
theorem TB.below (h : TB w s t) (hb : Below C w w') (hC : s < C) : TB w' s t := (hb.block s hC).trans h
theorem TB.c0 (h : TB w s t) : w.cell? ⟨s, 0, none⟩ = some (.string t.tag) := cell_of_row w s 0 _ _ (0, 0) h
theorem TB.c1 (h : TB w s t) : w.cell? ⟨s, 1, none⟩ = some (.string t.txt) := cell_of_row w s 1 _ _ (0, 0) h
theorem TB.c2 (h : TB w s t) : w.cell? ⟨s, 2, none⟩ = some (.string t.key) := cell_of_row w s 2 _ _ (0, 0) h
theorem TB.c3 (h : TB w s t) : w.cell? ⟨s, 3, none⟩ = some (.slice t.sa.A t.sa.n t.sa.c) := cell_of_row w s 3 _ _ (0, 0) h
theorem TB.c4 (h : TB w s t) : w.cell? ⟨s, 4, none⟩ = some (.slice t.sk.A t.sk.n t.sk.c) := cell_of_row w s 4 _ _ (0, 0) h
end
/-- a tree's texts, and its attributes', are no longer than texts may be -/
def Fits (t : TV) : Prop := t.tag.size ≤ maxLen ∧ t.txt.size ≤ maxLen ∧ t.key.size ≤ maxLen ∧ t.sa.c ≤ maxLen ∧ t.sk.c ≤ maxLen
inductive TFit : TV → Prop
  | mk {t : TV} (h : Fits t) (ks : ∀ k ∈ t.kids, TFit k) : TFit t
end Go.Proofs.Ythdgaoifbejpjaa.P8

/- slices.Index, slices.Delete of one integer, slices.Clone of integers and of attributes, dom.without. -/
set_option linter.unusedVariables false
set_option linter.unusedSimpArgs false
namespace Go.Proofs.Ythdgaoifbejpjaa.P5
open Go.RowKit Kd P4

/-! ### Index -/
def idxA : List Int → Int → Nat
  | [], _ => 0
  | a :: r, t => if t = a then 0 else idxA r t + 1
theorem idxA_le (l : List Int) (t : Int) : idxA l t ≤ l.length := by
  induction l with
  | nil => simp [idxA]
  | cons a r ih => simp only [idxA, List.length_cons]; split <;> omega
theorem idxA_of : ∀ {l : List Int} {t : Int} {k : Nat} (hk : k < l.length), l[k] = t → (∀ j (h : j < l.length), j < k → l[j] ≠ t) → idxA l t = k
  | [], _, _, hk, _, _ => absurd hk (by simp)
  | a :: r, t, 0, _, h, _ => by simp only [List.getElem_cons_zero] at h; simp [idxA, h]
  | a :: r, t, k + 1, hk, h, hj => by
    have h0 := hj 0 (by simp) (by omega)
    simp only [List.getElem_cons_zero] at h0
    rw [idxA, if_neg (fun e => h0 e.symm), idxA_of (k := k) (by simpa using hk) (by simpa using h) (fun j h1 h2 => by have := hj (j + 1) (by simpa using h1) (by omega); rwa [List.getElem_cons_succ] at this)]
theorem idxA_lt {l : List Int} {t : Int} (h : t ∈ l) : idxA l t < l.length := by
  induction l with
  | nil => simp at h
  | cons a r ih =>
    simp only [idxA, List.length_cons]
    split
    · omega
    · rename_i e
      have := ih ((List.mem_cons.1 h).resolve_left e)
      omega
theorem cell_int {w : World} {B : Nat} {A : Option Addr} {l : List Int} (h : kI.Holds w B A l) {k : Nat} (hk : k < l.length) : ∃ b o, A = some ⟨b, o, none⟩ ∧ b < B ∧ w.cell? ⟨b, o + k, none⟩ = some (.int .i64 l[k]) := by
  obtain ⟨b, o, hA, hb, hc⟩ := h.at hk
  refine ⟨b, o, hA, hb, ?_⟩
  have := hc 0 _ rfl
  rw [show k * kI.size + 0 = k from Nat.mul_one k] at this
  exact this

/-! ### Delete -/
theorem clearInt (w : World) (ty : TypeId) (b o c : Nat) (hc : (w.cell? ⟨b, o, none⟩).isSome = true) (hf : w.frozen? ⟨b, o, none⟩ = false) :
    (Builtin.clear_ #[49] ty #[.slice (some ⟨b, o, none⟩) 1 c]).run Try.prog w = .ok (.tuple #[]) (w.setCells b o [.int .i64 0]) := by
  have hst := run_storeCells_cells (P := Try.prog) b o [.int .i64 0] 0 w (by intro j hj; simp at hj; subst hj; simpa using hc) (by intro j hj; simp at hj; subst hj; simpa using hf) (by simp [Value.oneCell'])
  simp only [Nat.add_zero] at hst
  have hz : (Builtin.zeroCells (Value.int .i64 0).cells 1).toList = [.int .i64 0] := by
    simp [Builtin.zeroCells, Value.cells, Array.range]
  simp [Builtin.clear_, run_underlying Try.underlying49, hz, hst]

theorem erase_less : ∀ {l : List Int} {t : Int}, l.Nodup → t ∈ l → l.eraseIdx (idxA l t) = less t l
  | [], _, _, h => absurd h (by simp)
  | a :: r, t, hn, h => by
    obtain ⟨h1, h2⟩ := List.nodup_cons.1 hn
    by_cases e : t = a
    · subst e
      simp only [idxA, if_true, List.eraseIdx_cons_zero, less]
      rw [List.filter_cons]
      simp only [ne_eq, not_true_eq_false, decide_false, Bool.false_eq_true, if_false]
      exact (List.filter_eq_self.2 (fun c hc => by simp; rintro rfl; exact h1 hc)).symm
    · have ih := erase_less h2 ((List.mem_cons.1 h).resolve_left e)
      rw [idxA, if_neg e, List.eraseIdx_cons_succ, ih]
      simp only [less]
      rw [List.filter_cons]
      simp [Ne.symm e]

/-! ### without -/
def Without (w : World) (B : Nat) (v : Value) (l : List Int) (t : Int) (e : Ending) (w' : World) : Prop :=
  ∃ A n c, e = .returned (.slice A n c) ∧ kI.Own w' B (.slice A n c) (less t l) ∧ But (fun k => v.ownBlock = some k) w w' ∧ (Value.slice A n c).ownBlock = v.ownBlock
/-! ### Clone -/
def Cloned {α : Type} (K : Kind Try.prog α) (w : World) (l : List α) (e : Ending) (w' : World) : Prop := ∃ A n c, e = .returned (.slice A n c) ∧ K.Own w' w.heap.size (.slice A n c) l ∧ Below w.heap.size w w'
end Go.Proofs.Ythdgaoifbejpjaa.P5

/- slices.Insert of one integer, laid by the shelf: at whatever place, with room or without. -/
set_option linter.unusedVariables false
set_option linter.unusedSimpArgs false
namespace Go.Proofs.Ythdgaoifbejpjaa.P5
open Go.RowKit Kd P4

theorem ins_row {c2 : Array Value} {C : List Value} {n i : Nat} {u : Value} (hC : C.length = n) (hi : i ≤ n) (hs : n + 1 ≤ c2.size) (h : ∀ k, k < n + 1 → c2[k]? = if k < i then C[k]? else if k = i then some u else C[k - 1]?) :
    c2.toList.take (n + 1) = C.take i ++ u :: C.drop i := by
  apply List.ext_getElem?
  intro k
  rw [List.getElem?_take]
  have hti : (C.take i).length = i := by rw [List.length_take]; omega
  by_cases hk : k < n + 1
  · rw [if_pos hk, Array.getElem?_toList, h k hk]
    by_cases h1 : k < i
    · rw [if_pos h1, List.getElem?_append_left (by omega), List.getElem?_take, if_pos h1]
    · rw [if_neg h1, List.getElem?_append_right (by omega), hti]
      by_cases h2 : k = i
      · subst h2; simp
      · obtain ⟨m, rfl⟩ : ∃ m, k = i + (m + 1) := ⟨k - i - 1, by omega⟩
        rw [if_neg h2, show i + (m + 1) - i = m + 1 by omega, List.getElem?_cons_succ, List.getElem?_drop, show i + (m + 1) - 1 = i + m by omega]
  · rw [if_neg hk, List.getElem?_eq_none]
    simp only [List.length_append, List.length_cons, List.length_drop, hti]
    omega
theorem cells_ins (l : List Int) (i : Nat) (t : Int) : kI.cells (l.take i ++ t :: l.drop i) = (kI.cells l).take i ++ .int .i64 t :: (kI.cells l).drop i := by
  rw [Kind.cells_append]
  show _ ++ kI.cells ([t] ++ l.drop i) = _
  rw [Kind.cells_append, Kind.cells_take, Kind.cells_drop]
  have : i * kI.size = i := Nat.mul_one i
  rw [this]
  rfl
theorem kI_len (l : List Int) : (kI.cells l).length = l.length := by rw [Kind.cells_len]; exact Nat.mul_one _

def Inserted (w : World) (B : Nat) (v : Value) (l : List Int) (e : Ending) (w' : World) : Prop :=
  ∃ A n c, e = .returned (.slice A n c) ∧ kI.Own w' B (.slice A n c) l ∧ But (fun k => v.ownBlock = some k) w w' ∧ ∀ g, (Value.slice A n c).ownBlock = some g → v.ownBlock = some g ∨ w.heap.size ≤ g
end Go.Proofs.Ythdgaoifbejpjaa.P5

/- What the quick calls on a document answer: who is there, a node, the identities, room, the focus; and what a focus, a note, attributes, a text that are set leave. -/
set_option linter.unusedVariables false
set_option linter.unusedSimpArgs false
namespace Go.Proofs.Ythdgaoifbejpjaa.P5
open Go.RowKit Kd P4
variable {B p : Nat} {x : Dx}

theorem own_nil_zero {v : Value} {w : World} {l : List Int} {A : Option Addr} {n c : Nat} (h : kI.Own w B v l) (hv : v = .slice A n c) : l.length = n ∧ n ≤ c ∧ c ≤ maxLen ∧ (A = none → c = 0 ∧ n = 0) ∧ kI.Holds w w.heap.size A l := by
  subst hv
  obtain ⟨A', n', c', hv, h1, h2, h3, h4, h5⟩ := h.slice
  injection hv with e1 e2 e3
  subst e1; subst e2; subst e3
  exact ⟨h1, h2, h3, fun e => by have := h4 e; omega, h5⟩
/-! ### A node that is told -/
/-- a node's value, with lists of its own -/
def Told (w : World) (nd : Nd) (e : Ending) (w' : World) : Prop :=
  ∃ A n c A2 n2 c2, e = .returned (.agg #[.int .i64 nd.id, .int .i64 nd.par, .string nd.tag, .string nd.txt, .string nd.key, .slice A n c, .slice A2 n2 c2, .int .i64 nd.note]) ∧ AOk w' ⟨A, n, c⟩ nd.attrs ∧ kI.Own w' w.heap.size (.slice A2 n2 c2) nd.kids ∧ Below w.heap.size w w'
theorem own_end {w w2 wf : World} {nd : Nd} {A A2 : Option Addr} {n c n2 c2 : Nat} {C D : Nat} (hB : Below w.heap.size w w2) (hA : kA.Own w2 C (.slice A n c) nd.attrs) (hK : kI.Own w2 D (.slice A2 n2 c2) nd.kids) (hC : w.heap.size + 1 < C) (hD : w.heap.size + 1 < D)
    (hb : But (fun k => k = w.heap.size ∨ k = w.heap.size + 1) w2 wf) : Told w nd (.returned (.agg #[.int .i64 nd.id, .int .i64 nd.par, .string nd.tag, .string nd.txt, .string nd.key, .slice A n c, .slice A2 n2 c2, .int .i64 nd.note])) wf := by
  have h1 : kA.Own wf C (.slice A n c) nd.attrs := hA.but hb (fun g hg h => by have := (hA.lt hg).1; omega)
  have h2 : kI.Own wf D (.slice A2 n2 c2) nd.kids := hK.but hb (fun g hg h => by have := (hK.lt hg).1; omega)
  obtain ⟨s, hs, ha⟩ := AOk.own h1
  obtain ⟨sA, sn, sc⟩ := s
  simp only [Sv.val, Value.slice.injEq] at hs
  obtain ⟨rfl, rfl, rfl⟩ := hs
  exact ⟨_, _, _, _, _, _, rfl, ha, h2.base_le (by omega), hB.trans (hb.to_below (fun i _ hi => by omega) hB.size)⟩
theorem setOne {a w : World} {g i : Nat} {u : Value} (h : But (fun k => k = g) a w) : But (fun k => k = g) a (w.setCell ⟨g, i, none⟩ u) := But.setCell h (fun _ => rfl) u
theorem one_end {w w2 wf : World} (hB : Below w.heap.size w w2) (hb : But (fun k => k = w.heap.size) w2 wf) : Below w.heap.size w wf := hB.trans (hb.to_below (fun i _ hi => by omega) hB.size)
/-- a node that is told: its value, with lists of its own, and whether it is there -/
def Tells (w : World) (nd : Nd) (e : Ending) (w' : World) : Prop :=
  ∃ A n c A2 n2 c2, e = .returned (.tuple #[.agg #[.int .i64 nd.id, .int .i64 nd.par, .string nd.tag, .string nd.txt, .string nd.key, .slice A n c, .slice A2 n2 c2, .int .i64 nd.note], .bool true]) ∧ AOk w' ⟨A, n, c⟩ nd.attrs ∧ kI.Own w' w.heap.size (.slice A2 n2 c2) nd.kids ∧ Below w.heap.size w w'
end Go.Proofs.Ythdgaoifbejpjaa.P5
