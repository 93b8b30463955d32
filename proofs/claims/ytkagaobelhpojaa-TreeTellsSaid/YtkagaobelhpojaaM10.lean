/- Trees, plain: how many nodes, whether one may be, whether two are the same; a tree with its slices. No condition. -/
import Derived.Test.YtkagaobelhpojaaM8
import Derived.Test.YtkagaobelhpojaaM9
set_option linter.unusedVariables false
set_option linter.unusedSimpArgs false
namespace Go.Proofs.Ytkagaobelhpojaa.P8
open Go.RowKit Kd P4 P5

inductive PT where
  | mk (tag txt key : ByteArray) (attrs : List P3.At) (kids : List PT)
/-- a tree, with the slices of its attributes and of its children -/
inductive TV where
  | mk (tag txt key : ByteArray) (sa : Sv) (attrs : List P3.At) (sk : Sv) (kids : List TV)
theorem PT.ind {Q : PT → Prop} (h : ∀ tag txt key attrs kids, (∀ k ∈ kids, Q k) → Q (.mk tag txt key attrs kids)) (t : PT) : Q t :=
  PT.rec (motive_1 := Q) (motive_2 := fun l => ∀ k ∈ l, Q k) (fun a b c d e ih => h a b c d e ih) (fun _ hk => by cases hk) (fun a l ha hl k hk => by
    rcases List.mem_cons.1 hk with rfl | hk
    · exact ha
    · exact hl k hk) t
theorem TV.ind {Q : TV → Prop} (h : ∀ tag txt key sa attrs sk kids, (∀ k ∈ kids, Q k) → Q (.mk tag txt key sa attrs sk kids)) (t : TV) : Q t :=
  TV.rec (motive_1 := Q) (motive_2 := fun l => ∀ k ∈ l, Q k) (fun a b c d e f g ih => h a b c d e f g ih) (fun _ hk => by cases hk) (fun a l ha hl k hk => by
    rcases List.mem_cons.1 hk with rfl | hk
    · exact ha
    · exact hl k hk) t
namespace TV
def tag : TV → ByteArray | .mk a _ _ _ _ _ _ => a
def txt : TV → ByteArray | .mk _ a _ _ _ _ _ => a
def key : TV → ByteArray | .mk _ _ a _ _ _ _ => a
def sa : TV → Sv | .mk _ _ _ a _ _ _ => a
def attrs : TV → List P3.At | .mk _ _ _ _ a _ _ => a
def sk : TV → Sv | .mk _ _ _ _ _ a _ => a
def kids : TV → List TV | .mk _ _ _ _ _ _ a => a
end TV
namespace PT
def tag : PT → ByteArray | .mk a _ _ _ _ => a
def txt : PT → ByteArray | .mk _ a _ _ _ => a
def key : PT → ByteArray | .mk _ _ a _ _ => a
def attrs : PT → List P3.At | .mk _ _ _ a _ => a
def kids : PT → List PT | .mk _ _ _ _ a => a
end PT
mutual
def er : TV → PT
  | .mk tag txt key _ attrs _ kids => .mk tag txt key attrs (erL kids)
def erL : List TV → List PT
  | [] => []
  | a :: l => er a :: erL l
end
theorem erL_map : ∀ l : List TV, erL l = l.map er
  | [] => by simp [erL]
  | a :: l => by simp [erL, erL_map l]

/-! ### How many -/
mutual
def countP : PT → Nat
  | .mk _ _ _ _ kids => countL kids + 1
def countL : List PT → Nat
  | [] => 0
  | a :: l => countP a + countL l
end
theorem count_pos (t : PT) : 1 ≤ countP t := by cases t; simp [countP]
theorem countL_append : ∀ l m : List PT, countL (l ++ m) = countL l + countL m
  | [], m => by simp [countL]
  | a :: l, m => by simp [countL, countL_append l m]; omega
theorem countL_take {l : List PT} {k : Nat} (h : k < l.length) : countL (l.take (k + 1)) = countL (l.take k) + countP l[k] := by
  rw [List.take_add_one, List.getElem?_eq_getElem h, countL_append]
  simp [countL]
theorem countL_le (l : List PT) (k : Nat) : countL (l.take k) ≤ countL l := by
  have := countL_append (l.take k) (l.drop k)
  rw [List.take_append_drop] at this
  omega
theorem countL_at {l : List PT} {k : Nat} (h : k < l.length) : countP l[k] ≤ countL l := by
  have h1 := countL_take h
  have h2 := countL_le l (k + 1)
  omega
theorem len_le_count : ∀ l : List PT, l.length ≤ countL l
  | [] => by simp [countL]
  | a :: l => by have := len_le_count l; have := count_pos a; simp [countL]; omega

/-! ### Few, and short -/
mutual
def fewP : PT → Bool
  | .mk tag txt key attrs kids => decide (tag.size ≤ 100) && decide (txt.size ≤ 100) && decide (key.size ≤ 100) && P3.fewA attrs && fewL kids
def fewL : List PT → Bool
  | [] => true
  | a :: l => fewP a && fewL l
end
theorem fewL_all : ∀ l : List PT, fewL l = l.all fewP
  | [] => by simp [fewL]
  | a :: l => by simp [fewL, fewL_all l]
theorem fewL_take {l : List PT} {k : Nat} (h : k < l.length) (h1 : fewL (l.take k) = true) (h2 : fewP l[k] = true) : fewL (l.take (k + 1)) = true := by
  rw [fewL_all] at h1 ⊢
  rw [List.take_add_one, List.getElem?_eq_getElem h, List.all_append, h1]
  simp [h2]
theorem fewL_at {l : List PT} {k : Nat} (h : k < l.length) (h1 : fewL l = true) : fewP l[k] = true := by
  rw [fewL_all, List.all_eq_true] at h1
  exact h1 _ (List.getElem_mem h)
theorem few_wf {l : List P3.At} (h : P3.fewA l = true) : P3.Wf l ∧ l.length ≤ 20 := by
  unfold P3.fewA at h
  rw [Bool.and_eq_true, List.all_eq_true] at h
  refine ⟨fun a ha => ?_, by simpa using h.1⟩
  have := h.2 a ha
  unfold P3.shortA at this
  simp at this
  unfold maxLen
  omega

/-! ### Whether it may be -/
mutual
def mayP : PT → Bool
  | .mk tag txt key attrs kids =>
    if tag.toList.isEmpty then P1.textB txt.data.toList && key.toList.isEmpty && attrs.isEmpty && kids.isEmpty
    else P1.nameB tag.data.toList && P1.textB key.data.toList && P3.mayA attrs && txt.toList.isEmpty && !(P1.voidB tag.data.toList && !kids.isEmpty) && mayL kids
def mayL : List PT → Bool
  | [] => true
  | a :: l => mayP a && mayL l
end
theorem mayL_all : ∀ l : List PT, mayL l = l.all mayP
  | [] => by simp [mayL]
  | a :: l => by simp [mayL, mayL_all l]
theorem mayL_bad {l : List PT} {k : Nat} (h : k < l.length) (hb : mayP l[k] = false) : mayL l = false := by
  rw [mayL_all]
  exact Bool.eq_false_iff.2 fun e => by
    rw [List.all_eq_true] at e
    have := e _ (List.getElem_mem h)
    rw [hb] at this
    cases this
theorem mayL_take {l : List PT} {k : Nat} (h : k < l.length) (h1 : mayL (l.take k) = true) (h2 : mayP l[k] = true) : mayL (l.take (k + 1)) = true := by
  rw [mayL_all] at h1 ⊢
  rw [List.take_add_one, List.getElem?_eq_getElem h, List.all_append, h1]
  simp [h2]

/-! ### Whether two are the same -/
mutual
def sameP : PT → PT → Bool
  | .mk t x k a l, .mk t' x' k' a' l' => P3.sameA a a' && (t.toList == t'.toList) && (x.toList == x'.toList) && (k.toList == k'.toList) && sameL l l'
def sameL : List PT → List PT → Bool
  | [], [] => true
  | a :: l, b :: m => sameP a b && sameL l m
  | [], _ :: _ => false
  | _ :: _, [] => false
end
theorem sameL_len : ∀ {l m : List PT}, l.length ≠ m.length → sameL l m = false
  | [], [], h => absurd rfl h
  | [], _ :: _, _ => by simp [sameL]
  | _ :: _, [], _ => by simp [sameL]
  | a :: l, b :: m, h => by simp [sameL, sameL_len (l := l) (m := m) (by simpa using h)]
theorem sameL_bad : ∀ {l m : List PT} {k : Nat} (h : k < l.length) (h' : k < m.length), sameP l[k] m[k] = false → sameL l m = false
  | [], _, _, h, _, _ => by simp at h
  | _ :: _, [], _, _, h, _ => by simp at h
  | a :: l, b :: m, 0, _, _, e => by simp only [List.getElem_cons_zero] at e; simp [sameL, e]
  | a :: l, b :: m, k + 1, h, h', e => by simp only [List.getElem_cons_succ] at e; simp [sameL, sameL_bad (by simpa using h) (by simpa using h') e]
theorem sameL_all : ∀ {l m : List PT}, l.length = m.length → (∀ k (h : k < l.length) (h' : k < m.length), sameP l[k] m[k] = true) → sameL l m = true
  | [], [], _, _ => by simp [sameL]
  | [], _ :: _, h, _ => by simp at h
  | _ :: _, [], h, _ => by simp at h
  | a :: l, b :: m, h, e => by
    have h0 := e 0 (by simp) (by simp)
    simp only [List.getElem_cons_zero] at h0
    rw [sameL, h0, Bool.true_and]
    exact sameL_all (by simpa using h) fun k hk hk' => by
      have := e (k + 1) (by simpa using hk) (by simpa using hk')
      simpa using this
theorem sameP_refl (t : PT) : sameP t t = true := by
  induction t using PT.ind with
  | h tag txt key attrs kids ih =>
    rw [sameP, P3.sameA_refl, sameL_all rfl fun k h _ => ih _ (List.getElem_mem h)]
    simp
end Go.Proofs.Ytkagaobelhpojaa.P8

/- Trees as they lie in memory: a slice of them, one that is read whole. No condition. -/
namespace Go.Proofs.Ytkagaobelhpojaa.P8
open Go.RowKit Kd P4 P5

theorem infoT : (Try.prog.info? 63).map (fun i => (i.zero, i.size, i.bytes)) = some (some (.agg #[.string ⟨#[]⟩, .string ⟨#[]⟩, .string ⟨#[]⟩, .slice none 0 0, .slice none 0 0]), 5, 96) := by kernel_rfl
def TV.cells (a : TV) : List Value := [.string a.tag, .string a.txt, .string a.key, .slice a.sa.A a.sa.n a.sa.c, .slice a.sk.A a.sk.n a.sk.c]
def kT : Kind Try.prog TV where
  t := 61
  e := 63
  size := 5
  bytes := 96
  z := .agg #[.string ⟨#[]⟩, .string ⟨#[]⟩, .string ⟨#[]⟩, .slice none 0 0, .slice none 0 0]
  cs := TV.cells
  ht := Try.underlying61
  info := info_ex infoT
  hzs := rfl
  hpos := by decide
  hbb := by decide
  len := fun _ => rfl
  one := fun a u hu => by simp [TV.cells] at hu; rcases hu with rfl | rfl | rfl | rfl | rfl <;> rfl
theorem cell_of_trees {w : World} {B : Nat} {A : Option Addr} {l : List TV} (h : kT.Holds w B A l) {k : Nat} (hk : k < l.length) :
    ∃ b o, A = some ⟨b, o, none⟩ ∧ b < B ∧ w.cell? ⟨b, o + k * 5, none⟩ = some (.string l[k].tag) ∧ w.cell? ⟨b, o + k * 5 + 1, none⟩ = some (.string l[k].txt) ∧ w.cell? ⟨b, o + k * 5 + 2, none⟩ = some (.string l[k].key) ∧
      w.cell? ⟨b, o + k * 5 + 3, none⟩ = some (.slice l[k].sa.A l[k].sa.n l[k].sa.c) ∧ w.cell? ⟨b, o + k * 5 + 4, none⟩ = some (.slice l[k].sk.A l[k].sk.n l[k].sk.c) := by
  obtain ⟨b, o, rfl, hb, hc⟩ := h.at hk
  exact ⟨b, o, rfl, hb, hc 0 _ rfl, hc 1 _ rfl, hc 2 _ rfl, hc 3 _ rfl, hc 4 _ rfl⟩
/-- a tree that is read, below block C -/
inductive TOk (w : World) (C : Nat) : TV → Prop
  | mk {tag txt key : ByteArray} {sa sk : Sv} {attrs : List P3.At} {kids : List TV} (al : attrs.length = sa.n) (ac : sa.n ≤ sa.c) (az : sa.A = none → sa.c = 0) (ah : kA.Holds w C sa.A attrs)
      (kl : kids.length = sk.n) (kc : sk.n ≤ sk.c) (kz : sk.A = none → sk.c = 0) (kh : kT.Holds w C sk.A kids) (ks : ∀ k ∈ kids, TOk w C k) : TOk w C (.mk tag txt key sa attrs sk kids)
section
variable {w w' : World} {C D : Nat} {t : TV}
theorem TOk.al (h : TOk w C t) : t.attrs.length = t.sa.n := by cases h; assumption
theorem TOk.ac (h : TOk w C t) : t.sa.n ≤ t.sa.c := by cases h; assumption
theorem TOk.az (h : TOk w C t) : t.sa.A = none → t.sa.c = 0 := by cases h; assumption
theorem TOk.ah (h : TOk w C t) : kA.Holds w C t.sa.A t.attrs := by cases h; assumption
theorem TOk.kl (h : TOk w C t) : t.kids.length = t.sk.n := by cases h; assumption
theorem TOk.kc (h : TOk w C t) : t.sk.n ≤ t.sk.c := by cases h; assumption
theorem TOk.kz (h : TOk w C t) : t.sk.A = none → t.sk.c = 0 := by cases h; assumption
theorem TOk.kh (h : TOk w C t) : kT.Holds w C t.sk.A t.kids := by cases h; assumption
theorem TOk.ks (h : TOk w C t) : ∀ k ∈ t.kids, TOk w C k := by cases h; assumption
theorem TOk.later (h : TOk w C t) (hb : Below D w w') (hC : C ≤ D) : TOk w' C t := by
  induction t using TV.ind with
  | h tag txt key sa attrs sk kids ih => exact ⟨h.al, h.ac, h.az, h.ah.below hb hC, h.kl, h.kc, h.kz, h.kh.below hb hC, fun k hk => ih k hk (h.ks k hk)⟩
theorem TOk.more (h : TOk w C t) (hC : C ≤ D) : TOk w D t := by
  induction t using TV.ind with
  | h tag txt key sa attrs sk kids ih => exact ⟨h.al, h.ac, h.az, h.ah.more hC, h.kl, h.kc, h.kz, h.kh.more hC, fun k hk => ih k hk (h.ks k hk)⟩
theorem TOk.on (h : TOk w w.heap.size t) (hb : Below w.heap.size w w') : TOk w' w'.heap.size t := (h.later hb (Nat.le_refl _)).more hb.size
end
theorem er_mk (t : TV) : er t = .mk t.tag t.txt t.key t.attrs (t.kids.map er) := by cases t; rw [er, erL_map]; rfl
theorem er_kids (t : TV) : (er t).kids = t.kids.map er := by rw [er_mk]; rfl
/-- a tree in a block of its own -/
def TB (w : World) (s : Nat) (t : TV) : Prop := w.heap[s]? = some (.cells #[.string t.tag, .string t.txt, .string t.key, .slice t.sa.A t.sa.n t.sa.c, .slice t.sk.A t.sk.n t.sk.c] 63 (0, 0))
section
variable {w w' : World} {s C : Nat} {t : TV}
theorem TB.new (w : World) (t : TV) : TB (w.alloc (.cells #[.string t.tag, .string t.txt, .string t.key, .slice t.sa.A t.sa.n t.sa.c, .slice t.sk.A t.sk.n t.sk.c] 63)) w.heap.size t := heap_alloc_new w _
theorem TB.lt (h : TB w s t) : s < w.heap.size := heap_lt h
theorem TB.below (h : TB w s t) (hb : Below C w w') (hC : s < C) : TB w' s t := (hb.block s hC).trans h
theorem TB.c0 (h : TB w s t) : w.cell? ⟨s, 0, none⟩ = some (.string t.tag) := cell_of_row w s 0 _ _ (0, 0) h
theorem TB.c1 (h : TB w s t) : w.cell? ⟨s, 1, none⟩ = some (.string t.txt) := cell_of_row w s 1 _ _ (0, 0) h
theorem TB.c2 (h : TB w s t) : w.cell? ⟨s, 2, none⟩ = some (.string t.key) := cell_of_row w s 2 _ _ (0, 0) h
theorem TB.c3 (h : TB w s t) : w.cell? ⟨s, 3, none⟩ = some (.slice t.sa.A t.sa.n t.sa.c) := cell_of_row w s 3 _ _ (0, 0) h
theorem TB.c4 (h : TB w s t) : w.cell? ⟨s, 4, none⟩ = some (.slice t.sk.A t.sk.n t.sk.c) := cell_of_row w s 4 _ _ (0, 0) h
end
/-- a tree's texts, and its attributes', are no longer than texts may be -/
def Fits (t : TV) : Prop := t.tag.size ≤ maxLen ∧ t.txt.size ≤ maxLen ∧ t.key.size ≤ maxLen ∧ t.sa.c ≤ maxLen ∧ t.sk.c ≤ maxLen
inductive TFit : TV → Prop
  | mk {t : TV} (h : Fits t) (ks : ∀ k ∈ t.kids, TFit k) : TFit t
end Go.Proofs.Ytkagaobelhpojaa.P8

/- slices.Index, slices.Delete of one integer, slices.Clone of integers and of attributes, dom.without. -/
namespace Go.Proofs.Ytkagaobelhpojaa.P5
open Go.RowKit Kd P4

/-! ### Index -/
def idxA : List Int → Int → Nat
  | [], _ => 0
  | a :: r, t => if t = a then 0 else idxA r t + 1
theorem idxA_le (l : List Int) (t : Int) : idxA l t ≤ l.length := by
  induction l with
  | nil => simp [idxA]
  | cons a r ih => simp only [idxA, List.length_cons]; split <;> omega
theorem idxA_of : ∀ {l : List Int} {t : Int} {k : Nat} (hk : k < l.length), l[k] = t → (∀ j (h : j < l.length), j < k → l[j] ≠ t) → idxA l t = k
  | [], _, _, hk, _, _ => absurd hk (by simp)
  | a :: r, t, 0, _, h, _ => by simp only [List.getElem_cons_zero] at h; simp [idxA, h]
  | a :: r, t, k + 1, hk, h, hj => by
    have h0 := hj 0 (by simp) (by omega)
    simp only [List.getElem_cons_zero] at h0
    rw [idxA, if_neg (fun e => h0 e.symm), idxA_of (k := k) (by simpa using hk) (by simpa using h) (fun j h1 h2 => by have := hj (j + 1) (by simpa using h1) (by omega); rwa [List.getElem_cons_succ] at this)]
theorem idxA_lt {l : List Int} {t : Int} (h : t ∈ l) : idxA l t < l.length := by
  induction l with
  | nil => simp at h
  | cons a r ih =>
    simp only [idxA, List.length_cons]
    split
    · omega
    · rename_i e
      have := ih ((List.mem_cons.1 h).resolve_left e)
      omega
theorem cell_int {w : World} {B : Nat} {A : Option Addr} {l : List Int} (h : kI.Holds w B A l) {k : Nat} (hk : k < l.length) : ∃ b o, A = some ⟨b, o, none⟩ ∧ b < B ∧ w.cell? ⟨b, o + k, none⟩ = some (.int .i64 l[k]) := by
  obtain ⟨b, o, hA, hb, hc⟩ := h.at hk
  refine ⟨b, o, hA, hb, ?_⟩
  have := hc 0 _ rfl
  rw [show k * kI.size + 0 = k from Nat.mul_one k] at this
  exact this

set_option maxHeartbeats 400000 in
theorem index_any (l : List Int) (t : Int) (A : Option Addr) (n c : Nat) (w : World) (hn : l.length = n) (hn2 : n ≤ 1000000) (ht : t ∈ l) (H : kI.Holds w w.heap.size A l) :
    Calls Try.prog 90 #[.slice A n c, .int .i64 t] w fun e w' => e = .returned (.int .i64 (idxA l t)) ∧ w = w' := by
  have HH := Lib.hid H
  have HN := Lib.hid hn
  have HT := Lib.hid ht
  clear H hn ht
  go_enter Try.func90, Try.ntmps90
  go_wp2_with fail
  go_loop [8] (fun i => ∃ k : Nat, k ≤ n ∧ i = .int .i64 k ∧ Hid (∀ j (h : j < l.length), j < k → l[j] ≠ t)) (fun i => n - (intOf i).toNat)
  case atStart => exact ⟨0, by omega, rfl, Lib.hid (fun j _ h => by omega)⟩
  case round =>
    obtain ⟨k, hk, rfl, HJ⟩ := hrel
    by_cases hlt : k < n
    · have hkl : k < l.length := by have := HN.out; omega
      obtain ⟨b, o, rfl, hb, hc⟩ := cell_int HH.out hkl
      by_cases he : t = l[k]
      · have hq : (t == l[k]) = true := beq_iff_eq.2 he
        have HE := Lib.hid he
        clear he
        go_wp2
        go_ret
        exact ⟨ret_int (by rw [idxA_of hkl HE.out.symm HJ.out]), rfl⟩
      · have hq : (t == l[k]) = false := beq_eq_false_iff_ne.2 he
        have HE := Lib.hid he
        clear he
        go_wp2
        go_round
        case rel =>
          refine ⟨k + 1, by omega, by go_num, Lib.hid (fun j hj hjk => ?_)⟩
          by_cases e : j = k
          · subst e; exact fun e2 => HE.out e2.symm
          · exact HJ.out j hj (by omega)
        case measure => simp [intOf]; omega
    · exfalso
      obtain ⟨j, hj, e⟩ := List.mem_iff_getElem.1 HT.out
      exact HJ.out j hj (by have := HN.out; omega) e

/-! ### Delete -/
theorem clearInt (w : World) (ty : TypeId) (b o c : Nat) (hc : (w.cell? ⟨b, o, none⟩).isSome = true) (hf : w.frozen? ⟨b, o, none⟩ = false) :
    (Builtin.clear_ #[50] ty #[.slice (some ⟨b, o, none⟩) 1 c]).run Try.prog w = .ok (.tuple #[]) (w.setCells b o [.int .i64 0]) := by
  have hst := run_storeCells_cells (P := Try.prog) b o [.int .i64 0] 0 w (by intro j hj; simp at hj; subst hj; simpa using hc) (by intro j hj; simp at hj; subst hj; simpa using hf) (by simp [Value.oneCell'])
  simp only [Nat.add_zero] at hst
  have hz : (Builtin.zeroCells (Value.int .i64 0).cells 1).toList = [.int .i64 0] := by
    simp [Builtin.zeroCells, Value.cells, Array.range]
  simp [Builtin.clear_, run_underlying Try.underlying50, hz, hst]

set_option maxHeartbeats 1000000 in
theorem deleteInt_any (g i r c : Nat) {B : Nat} {l : List Int} (w : World) (hl : l.length = i + 1 + r) (hl2 : i + 1 + r ≤ 1000000) (h : kI.Own w B (.slice (some ⟨g, 0, none⟩) (i + 1 + r) c) l) :
    Calls Try.prog 121 #[.slice (some ⟨g, 0, none⟩) (i + 1 + r) c, .int .i64 i, .int .i64 ((i : Int) + 1)] w fun e w' =>
      e = .returned (.slice (some ⟨g, 0, none⟩) (i + r) c) ∧ kI.Own w' B (.slice (some ⟨g, 0, none⟩) (i + r) c) (l.eraseIdx i) ∧ But (fun k => k = g) w w' := by
  obtain ⟨i0, hi0, hz0, hz1, hz2⟩ := info_parts infoI
  rcases h.form with ⟨hv, _⟩ | ⟨g', c', cur, hv, _, hBg, hlt, hh, hnc, hcm, hcs, ht⟩
  · cases hv
  injection hv with e1 e2 e3
  injection e1 with e1
  injection e1 with e1
  subst e1; subst e3
  clear e2
  rw [hl] at hnc ht
  have hcs : cur.size = c * 1 := hcs
  have ht : cur.toList.take ((i + 1 + r) * 1) = kI.cells l := ht
  obtain ⟨news, hnews⟩ : ∃ news, news = kI.cells (l.drop (i + 1)) := ⟨_, rfl⟩
  have hnl : news.length = r := by rw [hnews, Kind.cells_len, List.length_drop, hl]; show (i + 1 + r - (i + 1)) * 1 = r; omega
  have hnd : news = (kI.cells l).drop ((i + 1) * 1) := by rw [hnews, Kind.cells_drop]; rfl
  have cell : ∀ k, w.drew.cell? ⟨g, k, none⟩ = cur[k]? := fun k => cell_of_row w.drew g k _ _ (0, 0) hh
  have s1 : Hid (news.length = r * 1) := by show news.length = r * 1; omega
  have s2 : Hid (∀ u ∈ news, u.oneCell' = true) := by intro u hu; rw [hnews] at hu; exact Kind.cells_one _ _ u hu
  have s3 : Hid (∀ t, t < news.length → (w.drew.cell? ⟨g, 0 + i * 1 + t, none⟩).isSome = true ∧ w.drew.frozen? ⟨g, 0 + i * 1 + t, none⟩ = false) := by
    intro t htl
    refine ⟨by rw [cell, Array.getElem?_eq_getElem (by omega)]; rfl, ?_⟩
    have hh' : w.drew.heap[g]? = some (.cells cur kI.e (0, 0)) := hh
    simp [World.frozen?, hh']
  have hsrc : ∀ t u, news[t]? = some u → w.drew.cell? ⟨g, i + 1 + t, none⟩ = some u := by
    intro t u hu
    have htl := (List.getElem?_eq_some_iff.1 hu).1
    rw [cell, ← hu, hnd, List.getElem?_drop, ← ht, List.getElem?_take, if_pos (by omega), Array.getElem?_toList, Nat.mul_one]
  obtain ⟨A, hA, hS⟩ : ∃ A : Addr, (if c = i + 1 then (some (⟨g, 0, none⟩ : Addr)) else some ⟨g, i + 1, none⟩) = some A ∧ Hid (∀ t u, news[t]? = some u → w.drew.cell? (A.add t) = some u) := by
    by_cases hcj : c = i + 1
    · refine ⟨⟨g, 0, none⟩, if_pos hcj, fun t u hu => ?_⟩
      have htl := (List.getElem?_eq_some_iff.1 hu).1
      omega
    · refine ⟨⟨g, i + 1, none⟩, if_neg hcj, fun t u hu => ?_⟩
      rw [Addr.add_lit]
      exact hsrc t u hu
  obtain ⟨W1, hW1⟩ : ∃ W1, W1 = w.drew.setCells g (0 + i * 1) news := ⟨_, rfl⟩
  have hh' : w.drew.heap[g]? = some (.cells cur kI.e (0, 0)) := hh
  obtain ⟨c1, k1, k2, k3⟩ := heap_setCells g news (0 + i * 1) w.drew cur _ _ hh'
  rw [← hW1] at k1
  have hcl : ∀ ty q, (Builtin.clear_ #[50] ty #[.slice (some ⟨g, i + r, none⟩) (i + 1 + r - (i + r)) q]).run Try.prog W1 = .ok (.tuple #[]) (W1.setCells g (i + r) [.int .i64 0]) :=
    fun ty q => by
      rw [show i + 1 + r - (i + r) = 1 by omega]
      exact clearInt W1 ty g (i + r) q (by rw [cell_of_row W1 g _ _ _ (0, 0) k1, Array.getElem?_eq_getElem (by omega)]; rfl) (by simp [World.frozen?, k1])
  obtain ⟨c2, m1, m2, m3⟩ := heap_setCells g [.int .i64 0] (i + r) W1 c1 _ _ k1
  have hO : Hid (kI.Own (W1.setCells g (i + r) [.int .i64 0]) B (.slice (some ⟨g, 0, none⟩) (i + r) c) (l.eraseIdx i)) := by
    refine Kind.own_mk (by rw [List.length_eraseIdx_of_lt (by omega)]; omega) hBg m1 (by omega) hcm (by rw [m2, k2]; exact hcs) ?_
    have hr := del_row (s := 1) ht (by omega) hnd (zs := [.int .i64 0]) rfl k2 (fun k hk => by have := k3 k hk; rwa [Nat.zero_add] at this) m2 (by simpa using m3)
    rw [show kI.size = 1 from rfl, hr, eraseIdx_eq, Kind.cells_append, Kind.cells_take, ← hnews]
    rfl
  have hB : Hid (But (fun k => k = g) w (W1.setCells g (i + r) [.int .i64 0])) := by
    rw [hW1]
    exact But.setCells (S := fun k => k = g) (But.setCells (S := fun k => k = g) (But.drew (But.refl _ w)) (fun _ => rfl) _ _) (fun _ => rfl) _ _
  have hW : Hid (W1 = w.drew.setCells g (0 + i * 1) news) := hW1
  have hic : i ≤ c := by omega
  have hjc : i + 1 ≤ c := by omega
  have hne : ((i : Int) == (i : Int) + 1) = false := beq_eq_false_iff_ne.2 (by omega)
  unfold maxLen at hcm
  have hb0 : (0 : Int) ≤ (i : Int) + 1 := by omega
  have hb1 : (i : Int) + 1 ≤ (i : Int) + 1 + (r : Int) := by omega
  clear hW1 hh hh' hcs ht hnews hnl hnd cell hsrc k1 k2 k3 m1 m2 m3 h hl hz0 hz2
  go_enter Try.func121, Try.ntmps121
  go_wp2_with fail
  go_region_law (refine step_append_room rfl (.tmp 22) (.tmp 25) 50 rfl 3 i0 1 Try.underlying50 hi0 hz1 g 0 i c (by simp [Act.eval, Act.put]) A r (c - (i + 1)) news (by simp [Act.eval, Act.put]) s1.out hS.out s2.out (by omega) s3.out ?_; rw [← hW.out])
  go_wp2
  go_ret
  exact ⟨rfl, hO.out, hB.out⟩

theorem erase_less : ∀ {l : List Int} {t : Int}, l.Nodup → t ∈ l → l.eraseIdx (idxA l t) = less t l
  | [], _, _, h => absurd h (by simp)
  | a :: r, t, hn, h => by
    obtain ⟨h1, h2⟩ := List.nodup_cons.1 hn
    by_cases e : t = a
    · subst e
      simp only [idxA, if_true, List.eraseIdx_cons_zero, less]
      rw [List.filter_cons]
      simp only [ne_eq, not_true_eq_false, decide_false, Bool.false_eq_true, if_false]
      exact (List.filter_eq_self.2 (fun c hc => by simp; rintro rfl; exact h1 hc)).symm
    · have ih := erase_less h2 ((List.mem_cons.1 h).resolve_left e)
      rw [idxA, if_neg e, List.eraseIdx_cons_succ, ih]
      simp only [less]
      rw [List.filter_cons]
      simp [Ne.symm e]

/-! ### without -/
def Without (w : World) (B : Nat) (v : Value) (l : List Int) (t : Int) (e : Ending) (w' : World) : Prop :=
  ∃ A n c, e = .returned (.slice A n c) ∧ kI.Own w' B (.slice A n c) (less t l) ∧ But (fun k => v.ownBlock = some k) w w' ∧ (Value.slice A n c).ownBlock = v.ownBlock
set_option maxHeartbeats 400000 in
theorem without_any (l : List Int) (t : Int) {B : Nat} {v : Value} (w : World) (hn : l.length ≤ 1000000) (ht : t ∈ l) (hd : l.Nodup) (h : kI.Own w B v l) :
    Calls Try.prog 110 #[v, .int .i64 t] w (Without w B v l t) := by
  have hk := idxA_lt ht
  obtain ⟨g, c, rfl⟩ : ∃ g c, v = .slice (some ⟨g, 0, none⟩) l.length c := by
    rcases h.form with ⟨_, rfl⟩ | ⟨g, c, cur, rfl, _⟩
    · simp at ht
    · exact ⟨g, c, rfl⟩
  obtain ⟨k, hkk⟩ : ∃ k, k = idxA l t := ⟨_, rfl⟩
  rw [← hkk] at hk
  obtain ⟨r, hr⟩ : ∃ r, l.length = k + 1 + r := ⟨l.length - (k + 1), by omega⟩
  rw [hr] at h hn ⊢
  obtain ⟨A, n, c', hv, h1, h2, h3, h4, h5⟩ := h.slice
  injection hv with e1 e2 e3
  subst e1; subst e2; subst e3
  have H := Lib.hid h
  have HI := Lib.hid h5
  have HR := Lib.hid hr
  have HK := Lib.hid hkk
  have HT := Lib.hid ht
  have HD := Lib.hid hd
  clear h h1 h2 h3 h4 h5 hr hkk ht hd hk
  go_enter Try.func110, Try.ntmps110
  go_wp2_with fail
  refine (index_any l t _ (k + 1 + r) c w HR.out hn HT.out HI.out).mono ?_
  rintro e w' ⟨rfl, rfl⟩
  rw [← HK.out]
  go_wp2_with fail
  refine (deleteInt_any g k r c w HR.out hn H.out).mono ?_
  rintro e w2 ⟨rfl, o2, b2⟩
  have O2 := Lib.hid o2
  have B2 := Lib.hid b2
  clear o2 b2
  go_wp2_with fail
  go_ret
  refine ⟨some ⟨g, 0, none⟩, k + r, c, rfl, ?_, B2.out.mono (fun i _ hi => by subst hi; rfl), rfl⟩
  rw [← erase_less HD.out HT.out, ← HK.out]
  exact O2.out

/-! ### Clone -/
def Cloned {α : Type} (K : Kind Try.prog α) (w : World) (l : List α) (e : Ending) (w' : World) : Prop := ∃ A n c, e = .returned (.slice A n c) ∧ K.Own w' w.heap.size (.slice A n c) l ∧ Below w.heap.size w w'
set_option maxHeartbeats 400000 in
theorem cloneInt_any (l : List Int) (A : Option Addr) (n c : Nat) (w : World) (hn : l.length = n) (hn2 : n ≤ 1000000) (hz : A = none → c = 0 ∧ n = 0) (H : kI.Holds w w.heap.size A l) :
    Calls Try.prog 49 #[.slice A n c] w (Cloned kI w l) := by
  cases A with
  | none =>
    obtain ⟨rfl, rfl⟩ := hz rfl
    obtain rfl : l = [] := List.length_eq_zero_iff.1 hn
    clear H hn hz
    have hq := fun w' => Lib.run_eql_slice_nil (P := Try.prog) w' 50 3 Option.none 0 0 0 0 Try.underlying50
    go_enter Try.func49, Try.ntmps49
    go_wp2
    go_ret
    exact ⟨none, 0, 0, rfl, Kind.Own.nil _ _ _, Below.refl _ _⟩
  | some a =>
    have HM := Lib.hid hn
    have HH := Lib.hid H
    clear H hn hz
    have hq := fun w' => Lib.run_eql_slice_nil (P := Try.prog) w' 50 3 (some a) n c 0 0 Try.underlying50
    go_enter Try.func49, Try.ntmps49
    go_wp2_with (at_builtin; refine kI.wp_app rfl _ _ rfl (v := .slice (some ⟨w.heap.size, 0, Option.none⟩) 0 0) (l := []) (m := l) (B := w.heap.size) rfl (Kind.Own.made kI w _ (Nat.le_refl _)) rfl HM.out (fun e => by cases e) (HH.out.on ((Below.refl _ _).alloc (Nat.le_refl _) _)) (by simp; omega) (by simp) ?_; intro v' w2 hown hgrow hat)
    go_ret
    obtain ⟨A', n', c', rfl, _⟩ := hown.slice
    exact ⟨A', n', c', rfl, hown, ((Below.refl _ _).alloc (Nat.le_refl _) _).grown hgrow (by simp) (fun k hk => by simp [Value.ownBlock] at hk; omega)⟩
set_option maxHeartbeats 400000 in
theorem cloneAt_any (l : List P3.At) (A : Option Addr) (n c : Nat) (w : World) (hn : l.length = n) (hn2 : n ≤ 1000000) (hz : A = none → c = 0 ∧ n = 0) (H : kA.Holds w w.heap.size A l) :
    Calls Try.prog 85 #[.slice A n c] w (Cloned kA w l) := by
  cases A with
  | none =>
    obtain ⟨rfl, rfl⟩ := hz rfl
    obtain rfl : l = [] := List.length_eq_zero_iff.1 hn
    clear H hn hz
    have hq := fun w' => Lib.run_eql_slice_nil (P := Try.prog) w' 33 117 Option.none 0 0 0 0 Try.underlying33
    go_enter Try.func85, Try.ntmps85
    go_wp2
    go_ret
    exact ⟨none, 0, 0, rfl, Kind.Own.nil _ _ _, Below.refl _ _⟩
  | some a =>
    have HM := Lib.hid hn
    have HH := Lib.hid H
    clear H hn hz
    have hq := fun w' => Lib.run_eql_slice_nil (P := Try.prog) w' 33 117 (some a) n c 0 0 Try.underlying33
    go_enter Try.func85, Try.ntmps85
    go_wp2_with (at_builtin; refine kA.wp_app rfl _ _ rfl (v := .slice (some ⟨w.heap.size, 0, Option.none⟩) 0 0) (l := []) (m := l) (B := w.heap.size) rfl (Kind.Own.made kA w _ (Nat.le_refl _)) rfl HM.out (fun e => by cases e) (HH.out.on ((Below.refl _ _).alloc (Nat.le_refl _) _)) (by simp; omega) (by simp) ?_; intro v' w2 hown hgrow hat)
    go_ret
    obtain ⟨A', n', c', rfl, _⟩ := hown.slice
    exact ⟨A', n', c', rfl, hown, ((Below.refl _ _).alloc (Nat.le_refl _) _).grown hgrow (by simp) (fun k hk => by simp [Value.ownBlock] at hk; omega)⟩
end Go.Proofs.Ytkagaobelhpojaa.P5
