/- Trees as they lie in memory: a slice of them, one that is read whole. No condition. -/
import Derived.Shelf.Spec.SlicesInsertGrow
import Derived.Test.YtemfflhgbgdmjaaM8
import Derived.Test.YtemfflhgbgdmjaaM9
set_option linter.unusedVariables false
set_option linter.unusedSimpArgs false
namespace Go.Proofs.Ytemfflhgbgdmjaa.P8
open Go.RowKit Kd P4 P5

theorem infoT : (Try.prog.info? 25).map (fun i => (i.zero, i.size, i.bytes)) = some (some (.agg #[.string ⟨#[]⟩, .string ⟨#[]⟩, .string ⟨#[]⟩, .slice none 0 0, .slice none 0 0]), 5, 96) := by kernel_rfl
def TV.cells (a : TV) : List Value := [.string a.tag, .string a.txt, .string a.key, .slice a.sa.A a.sa.n a.sa.c, .slice a.sk.A a.sk.n a.sk.c]
def kT : Kind Try.prog TV where
  t := 23
  e := 25
  size := 5
  bytes := 96
  z := .agg #[.string ⟨#[]⟩, .string ⟨#[]⟩, .string ⟨#[]⟩, .slice none 0 0, .slice none 0 0]
  cs := TV.cells
  ht := Try.underlying23
  info := info_ex infoT
  hzs := rfl
  hpos := by decide
  hbb := by decide
  len := fun _ => rfl
  one := fun a u hu => by simp [TV.cells] at hu; rcases hu with rfl | rfl | rfl | rfl | rfl <;> rfl
theorem cell_of_trees {w : World} {B : Nat} {A : Option Addr} {l : List TV} (h : kT.Holds w B A l) {k : Nat} (hk : k < l.length) :
    ∃ b o, A = some ⟨b, o, none⟩ ∧ b < B ∧ w.cell? ⟨b, o + k * 5, none⟩ = some (.string l[k].tag) ∧ w.cell? ⟨b, o + k * 5 + 1, none⟩ = some (.string l[k].txt) ∧ w.cell? ⟨b, o + k * 5 + 2, none⟩ = some (.string l[k].key) ∧
      w.cell? ⟨b, o + k * 5 + 3, none⟩ = some (.slice l[k].sa.A l[k].sa.n l[k].sa.c) ∧ w.cell? ⟨b, o + k * 5 + 4, none⟩ = some (.slice l[k].sk.A l[k].sk.n l[k].sk.c) := by
  obtain ⟨b, o, rfl, hb, hc⟩ := h.at hk
  exact ⟨b, o, rfl, hb, hc 0 _ rfl, hc 1 _ rfl, hc 2 _ rfl, hc 3 _ rfl, hc 4 _ rfl⟩
/-- a tree that is read, below block C -/
inductive TOk (w : World) (C : Nat) : TV → Prop
  | mk {tag txt key : ByteArray} {sa sk : Sv} {attrs : List P3.At} {kids : List TV} (al : attrs.length = sa.n) (ac : sa.n ≤ sa.c) (az : sa.A = none → sa.c = 0) (ah : kA.Holds w C sa.A attrs)
      (kl : kids.length = sk.n) (kc : sk.n ≤ sk.c) (kz : sk.A = none → sk.c = 0) (kh : kT.Holds w C sk.A kids) (ks : ∀ k ∈ kids, TOk w C k) : TOk w C (.mk tag txt key sa attrs sk kids)
section
variable {w w' : World} {C D : Nat} {t : TV}
theorem TOk.al (h : TOk w C t) : t.attrs.length = t.sa.n := by cases h; assumption
theorem TOk.ac (h : TOk w C t) : t.sa.n ≤ t.sa.c := by cases h; assumption
theorem TOk.az (h : TOk w C t) : t.sa.A = none → t.sa.c = 0 := by cases h; assumption
theorem TOk.ah (h : TOk w C t) : kA.Holds w C t.sa.A t.attrs := by cases h; assumption
theorem TOk.kl (h : TOk w C t) : t.kids.length = t.sk.n := by cases h; assumption
theorem TOk.kc (h : TOk w C t) : t.sk.n ≤ t.sk.c := by cases h; assumption
theorem TOk.kz (h : TOk w C t) : t.sk.A = none → t.sk.c = 0 := by cases h; assumption
theorem TOk.kh (h : TOk w C t) : kT.Holds w C t.sk.A t.kids := by cases h; assumption
theorem TOk.ks (h : TOk w C t) : ∀ k ∈ t.kids, TOk w C k := by cases h; assumption
theorem TOk.later (h : TOk w C t) (hb : Below D w w') (hC : C ≤ D) : TOk w' C t := by
  induction t using TV.ind with
  | h tag txt key sa attrs sk kids ih => exact ⟨h.al, h.ac, h.az, h.ah.below hb hC, h.kl, h.kc, h.kz, h.kh.below hb hC, fun k hk => ih k hk (h.ks k hk)⟩
theorem TOk.more (h : TOk w C t) (hC : C ≤ D) : TOk w D t := by
  induction t using TV.ind with
  | h tag txt key sa attrs sk kids ih => exact ⟨h.al, h.ac, h.az, h.ah.more hC, h.kl, h.kc, h.kz, h.kh.more hC, fun k hk => ih k hk (h.ks k hk)⟩
theorem TOk.on (h : TOk w w.heap.size t) (hb : Below w.heap.size w w') : TOk w' w'.heap.size t := (h.later hb (Nat.le_refl _)).more hb.size
end
theorem er_mk (t : TV) : er t = .mk t.tag t.txt t.key t.attrs (t.kids.map er) := by cases t; rw [er, erL_map]; rfl
theorem er_kids (t : TV) : (er t).kids = t.kids.map er := by rw [er_mk]; rfl
/-- a tree in a block of its own -/
def TB (w : World) (s : Nat) (t : TV) : Prop := w.heap[s]? = some (.cells #[.string t.tag, .string t.txt, .string t.key, .slice t.sa.A t.sa.n t.sa.c, .slice t.sk.A t.sk.n t.sk.c] 25 (0, 0))
section
variable {w w' : World} {s C : Nat} {t : TV}
theorem TB.new (w : World) (t : TV) : TB (w.alloc (.cells #[.string t.tag, .string t.txt, .string t.key, .slice t.sa.A t.sa.n t.sa.c, .slice t.sk.A t.sk.n t.sk.c] 25)) w.heap.size t := heap_alloc_new w _
theorem TB.lt (h : TB w s t) : s < w.heap.size := heap_lt h
theorem TB.below (h : TB w s t) (hb : Below C w w') (hC : s < C) : TB w' s t := (hb.block s hC).trans h
theorem TB.c0 (h : TB w s t) : w.cell? ⟨s, 0, none⟩ = some (.string t.tag) := cell_of_row w s 0 _ _ (0, 0) h
theorem TB.c1 (h : TB w s t) : w.cell? ⟨s, 1, none⟩ = some (.string t.txt) := cell_of_row w s 1 _ _ (0, 0) h
theorem TB.c2 (h : TB w s t) : w.cell? ⟨s, 2, none⟩ = some (.string t.key) := cell_of_row w s 2 _ _ (0, 0) h
theorem TB.c3 (h : TB w s t) : w.cell? ⟨s, 3, none⟩ = some (.slice t.sa.A t.sa.n t.sa.c) := cell_of_row w s 3 _ _ (0, 0) h
theorem TB.c4 (h : TB w s t) : w.cell? ⟨s, 4, none⟩ = some (.slice t.sk.A t.sk.n t.sk.c) := cell_of_row w s 4 _ _ (0, 0) h
end
/-- a tree's texts, and its attributes', are no longer than texts may be -/
def Fits (t : TV) : Prop := t.tag.size ≤ maxLen ∧ t.txt.size ≤ maxLen ∧ t.key.size ≤ maxLen ∧ t.sa.c ≤ maxLen ∧ t.sk.c ≤ maxLen
inductive TFit : TV → Prop
  | mk {t : TV} (h : Fits t) (ks : ∀ k ∈ t.kids, TFit k) : TFit t
end Go.Proofs.Ytemfflhgbgdmjaa.P8

/- slices.Index, slices.Delete of one integer, slices.Clone of integers and of attributes, dom.without. -/
namespace Go.Proofs.Ytemfflhgbgdmjaa.P5
open Go.RowKit Kd P4

/-! ### Index -/
def idxA : List Int → Int → Nat
  | [], _ => 0
  | a :: r, t => if t = a then 0 else idxA r t + 1
theorem idxA_le (l : List Int) (t : Int) : idxA l t ≤ l.length := by
  induction l with
  | nil => simp [idxA]
  | cons a r ih => simp only [idxA, List.length_cons]; split <;> omega
theorem idxA_of : ∀ {l : List Int} {t : Int} {k : Nat} (hk : k < l.length), l[k] = t → (∀ j (h : j < l.length), j < k → l[j] ≠ t) → idxA l t = k
  | [], _, _, hk, _, _ => absurd hk (by simp)
  | a :: r, t, 0, _, h, _ => by simp only [List.getElem_cons_zero] at h; simp [idxA, h]
  | a :: r, t, k + 1, hk, h, hj => by
    have h0 := hj 0 (by simp) (by omega)
    simp only [List.getElem_cons_zero] at h0
    rw [idxA, if_neg (fun e => h0 e.symm), idxA_of (k := k) (by simpa using hk) (by simpa using h) (fun j h1 h2 => by have := hj (j + 1) (by simpa using h1) (by omega); rwa [List.getElem_cons_succ] at this)]
theorem idxA_lt {l : List Int} {t : Int} (h : t ∈ l) : idxA l t < l.length := by
  induction l with
  | nil => simp at h
  | cons a r ih =>
    simp only [idxA, List.length_cons]
    split
    · omega
    · rename_i e
      have := ih ((List.mem_cons.1 h).resolve_left e)
      omega
/-! ### Delete -/
theorem erase_less : ∀ {l : List Int} {t : Int}, l.Nodup → t ∈ l → l.eraseIdx (idxA l t) = less t l
  | [], _, _, h => absurd h (by simp)
  | a :: r, t, hn, h => by
    obtain ⟨h1, h2⟩ := List.nodup_cons.1 hn
    by_cases e : t = a
    · subst e
      simp only [idxA, if_true, List.eraseIdx_cons_zero, less]
      rw [List.filter_cons]
      simp only [ne_eq, not_true_eq_false, decide_false, Bool.false_eq_true, if_false]
      exact (List.filter_eq_self.2 (fun c hc => by simp; rintro rfl; exact h1 hc)).symm
    · have ih := erase_less h2 ((List.mem_cons.1 h).resolve_left e)
      rw [idxA, if_neg e, List.eraseIdx_cons_succ, ih]
      simp only [less]
      rw [List.filter_cons]
      simp [Ne.symm e]

/-! ### without -/
/-! ### Clone -/
def Cloned {α : Type} (K : Kind Try.prog α) (w : World) (l : List α) (e : Ending) (w' : World) : Prop := ∃ A n c, e = .returned (.slice A n c) ∧ K.Own w' w.heap.size (.slice A n c) l ∧ Below w.heap.size w w'
end Go.Proofs.Ytemfflhgbgdmjaa.P5

/- slices.Insert of one integer, laid by the shelf: at whatever place, with room or without. -/
namespace Go.Proofs.Ytemfflhgbgdmjaa.P5
open Go.RowKit Kd P4

theorem ins_row {c2 : Array Value} {C : List Value} {n i : Nat} {u : Value} (hC : C.length = n) (hi : i ≤ n) (hs : n + 1 ≤ c2.size) (h : ∀ k, k < n + 1 → c2[k]? = if k < i then C[k]? else if k = i then some u else C[k - 1]?) :
    c2.toList.take (n + 1) = C.take i ++ u :: C.drop i := by
  apply List.ext_getElem?
  intro k
  rw [List.getElem?_take]
  have hti : (C.take i).length = i := by rw [List.length_take]; omega
  by_cases hk : k < n + 1
  · rw [if_pos hk, Array.getElem?_toList, h k hk]
    by_cases h1 : k < i
    · rw [if_pos h1, List.getElem?_append_left (by omega), List.getElem?_take, if_pos h1]
    · rw [if_neg h1, List.getElem?_append_right (by omega), hti]
      by_cases h2 : k = i
      · subst h2; simp
      · obtain ⟨m, rfl⟩ : ∃ m, k = i + (m + 1) := ⟨k - i - 1, by omega⟩
        rw [if_neg h2, show i + (m + 1) - i = m + 1 by omega, List.getElem?_cons_succ, List.getElem?_drop, show i + (m + 1) - 1 = i + m by omega]
  · rw [if_neg hk, List.getElem?_eq_none]
    simp only [List.length_append, List.length_cons, List.length_drop, hti]
    omega
end Go.Proofs.Ytemfflhgbgdmjaa.P5
