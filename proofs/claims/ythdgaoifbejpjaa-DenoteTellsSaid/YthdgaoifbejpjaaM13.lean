/- What a program comes to, of trees, plain; trees that are read out of blocks of a set. No condition. -/
import Derived.Test.YthdgaoifbejpjaaM8
import Derived.Test.YthdgaoifbejpjaaM12
set_option linter.unusedVariables false
set_option linter.unusedSimpArgs false
set_option linter.unusedVariables false
set_option linter.unusedSimpArgs false
namespace Go.Proofs.Ythdgaoifbejpjaa.P17
open Go.RowKit Kd P4 P5 P11 P12 P13 P14 P16

def zPT : P8.PT := .mk z0 z0 z0 [] []
def olP (t : P8.PT) : Ol := ⟨t.tag, t.key⟩
def atP (old : List P8.PT) (k : Nat) : P8.PT := old[k]?.getD zPT
theorem atP_at {old : List P8.PT} {k : Nat} (h : k < old.length) : atP old k = old[k] := by rw [atP, List.getElem?_eq_getElem h]; rfl
mutual
/-- what one thing that is wanted comes to: a: what it takes -/
def pieceW : PW → Int → List Int → List P8.PT → List P8.PT
  | .mk kind tag key txt attrs kids, a, kept, old =>
    if kind = 1 then
      (if 0 ≤ a then [.mk tag z0 key (P3.joinA (atP old a.toNat).attrs attrs) (goL kids (foldM ((atP old a.toNat).kids.map olP) kids).take (foldM ((atP old a.toNat).kids.map olP) kids).kept (atP old a.toNat).kids)]
       else [.mk tag z0 key (P3.newA attrs) (goL kids (foldM [] kids).take (foldM [] kids).kept [])])
    else if kind = 2 then [.mk z0 txt z0 [] []]
    else if kind = 3 then (if 0 ≤ a then [atP old a.toNat] else [])
    else if kind = 4 then kept.map (fun k => atP old k.toNat)
    else []
def goL : List PW → List Int → List Int → List P8.PT → List P8.PT
  | [], _, _, _ => []
  | w :: ws, T, kept, old => pieceW w (T.headD (-1)) kept old ++ goL ws T.tail kept old
end
def denP (ws : List PW) (old : List P8.PT) : List P8.PT := goL ws (foldM (old.map olP) ws).take (foldM (old.map olP) ws).kept old
theorem goL_snoc : ∀ {ws : List PW} {i : Nat} (h : i < ws.length) (T kept : List Int) (old : List P8.PT), goL (ws.take (i + 1)) T kept old = goL (ws.take i) T kept old ++ pieceW ws[i] (T[i]?.getD (-1)) kept old
  | w :: ws, 0, h, T, kept, old => by
    cases T <;> simp [goL]
  | w :: ws, i + 1, h, T, kept, old => by
    have hi : i < ws.length := by simpa using h
    have ih := goL_snoc (ws := ws) hi T.tail kept old
    rw [List.take_succ_cons, List.take_succ_cons, goL, goL, ih, List.append_assoc]
    congr 2
    simp
theorem piece_take {kind : Int} {tag key txt : ByteArray} {attrs : List P3.At} {kids : List PW} {a : Int} {kept : List Int} {old : List P8.PT} (hk : kind = 1) (ha : 0 ≤ a) :
    pieceW (.mk kind tag key txt attrs kids) a kept old = [.mk tag z0 key (P3.joinA (atP old a.toNat).attrs attrs) (denP kids (atP old a.toNat).kids)] := by
  rw [pieceW, if_pos hk, if_pos ha]; rfl
theorem piece_new {kind : Int} {tag key txt : ByteArray} {attrs : List P3.At} {kids : List PW} {a : Int} {kept : List Int} {old : List P8.PT} (hk : kind = 1) (ha : ¬ 0 ≤ a) :
    pieceW (.mk kind tag key txt attrs kids) a kept old = [.mk tag z0 key (P3.newA attrs) (denP kids [])] := by
  rw [pieceW, if_pos hk, if_neg ha]; rfl
theorem piece_text {tag key txt : ByteArray} {attrs : List P3.At} {kids : List PW} {a : Int} {kept : List Int} {old : List P8.PT} :
    pieceW (.mk 2 tag key txt attrs kids) a kept old = [.mk z0 txt z0 [] []] := by
  rw [pieceW, if_neg (by decide), if_pos rfl]
theorem piece_node {tag key txt : ByteArray} {attrs : List P3.At} {kids : List PW} {a : Int} {kept : List Int} {old : List P8.PT} :
    pieceW (.mk 3 tag key txt attrs kids) a kept old = if 0 ≤ a then [atP old a.toNat] else [] := by
  rw [pieceW, if_neg (by decide), if_neg (by decide), if_pos rfl]
theorem piece_all {tag key txt : ByteArray} {attrs : List P3.At} {kids : List PW} {a : Int} {kept : List Int} {old : List P8.PT} :
    pieceW (.mk 4 tag key txt attrs kids) a kept old = kept.map (fun k => atP old k.toNat) := by
  rw [pieceW, if_neg (by decide), if_neg (by decide), if_neg (by decide), if_pos rfl]
theorem piece_none {kind : Int} {tag key txt : ByteArray} {attrs : List P3.At} {kids : List PW} {a : Int} {kept : List Int} {old : List P8.PT} (h1 : kind ≠ 1) (h2 : kind ≠ 2) (h3 : kind ≠ 3) (h4 : kind ≠ 4) :
    pieceW (.mk kind tag key txt attrs kids) a kept old = [] := by
  rw [pieceW, if_neg h1, if_neg h2, if_neg h3, if_neg h4]
/-! ### Trees in blocks of a set -/
def HoldsQ {P : Program} {α : Type} (K : Kind P α) (w : World) (Q : Nat → Prop) (A : Option Addr) (l : List α) : Prop :=
  ∀ j u, (K.cells l)[j]? = some u → ∃ b o, A = some ⟨b, o, none⟩ ∧ (Q b ∧ b < w.heap.size) ∧ w.cell? ⟨b, o + j, none⟩ = some u
section
variable {P : Program} {α : Type} {K : Kind P α} {w w' : World} {Q R S : Nat → Prop} {A : Option Addr} {l : List α} {C : Nat}
theorem HoldsQ.of (h : K.Holds w C A l) (hC : C ≤ w.heap.size) : HoldsQ K w (fun b => b < C) A l := fun j u hj => by
  obtain ⟨b, o, h1, h2, h3⟩ := h j u hj
  exact ⟨b, o, h1, ⟨h2, by omega⟩, h3⟩
theorem HoldsQ.to (h : HoldsQ K w Q A l) : K.Holds w w.heap.size A l := fun j u hj => by
  obtain ⟨b, o, h1, h2, h3⟩ := h j u hj
  exact ⟨b, o, h1, h2.2, h3⟩
theorem HoldsQ.mono (h : HoldsQ K w Q A l) (hq : ∀ b, b < w.heap.size → Q b → R b) : HoldsQ K w R A l := fun j u hj => by
  obtain ⟨b, o, h1, h2, h3⟩ := h j u hj
  exact ⟨b, o, h1, ⟨hq b h2.2 h2.1, h2.2⟩, h3⟩
theorem HoldsQ.but (h : HoldsQ K w Q A l) (hb : But S w w') (hS : ∀ b, Q b → ¬ S b) : HoldsQ K w' Q A l := fun j u hj => by
  obtain ⟨b, o, h1, h2, h3⟩ := h j u hj
  exact ⟨b, o, h1, ⟨h2.1, Nat.lt_of_lt_of_le h2.2 hb.size⟩, (World.cell?_of_block (hb.block b h2.2 (hS b h2.1))).trans h3⟩
theorem HoldsQ.nil (K : Kind P α) (w : World) (Q : Nat → Prop) (A : Option Addr) : HoldsQ K w Q A [] := fun j u hj => by simp [Kind.cells] at hj
end
inductive TQ (w : World) (Q : Nat → Prop) : P8.TV → Prop
  | mk {tag txt key : ByteArray} {sa sk : Sv} {attrs : List P3.At} {kids : List P8.TV} (al : attrs.length = sa.n) (ac : sa.n ≤ sa.c) (az : sa.A = none → sa.c = 0) (ah : HoldsQ kA w Q sa.A attrs)
      (kl : kids.length = sk.n) (kc : sk.n ≤ sk.c) (kz : sk.A = none → sk.c = 0) (kh : HoldsQ P8.kT w Q sk.A kids) (ks : ∀ k ∈ kids, TQ w Q k) : TQ w Q (.mk tag txt key sa attrs sk kids)
section
variable {w w' : World} {Q R S : Nat → Prop} {t : P8.TV} {C : Nat}
theorem TQ.of (h : P8.TOk w C t) (hC : C ≤ w.heap.size) : TQ w (fun b => b < C) t := by
  induction t using P8.TV.ind with
  | h tag txt key sa attrs sk kids ih => exact ⟨h.al, h.ac, h.az, HoldsQ.of h.ah hC, h.kl, h.kc, h.kz, HoldsQ.of h.kh hC, fun k hk => ih k hk (h.ks k hk)⟩
theorem TQ.ok (h : TQ w Q t) : P8.TOk w w.heap.size t := by
  induction t using P8.TV.ind with
  | h tag txt key sa attrs sk kids ih =>
    cases h with
    | mk al ac az ah kl kc kz kh ks => exact ⟨al, ac, az, ah.to, kl, kc, kz, kh.to, fun k hk => ih k hk (ks k hk)⟩
theorem TQ.mono (h : TQ w Q t) (hq : ∀ b, b < w.heap.size → Q b → R b) : TQ w R t := by
  induction t using P8.TV.ind with
  | h tag txt key sa attrs sk kids ih =>
    cases h with
    | mk al ac az ah kl kc kz kh ks => exact ⟨al, ac, az, ah.mono hq, kl, kc, kz, kh.mono hq, fun k hk => ih k hk (ks k hk)⟩
theorem TQ.but (h : TQ w Q t) (hb : But S w w') (hS : ∀ b, Q b → ¬ S b) : TQ w' Q t := by
  induction t using P8.TV.ind with
  | h tag txt key sa attrs sk kids ih =>
    cases h with
    | mk al ac az ah kl kc kz kh ks => exact ⟨al, ac, az, ah.but hb hS, kl, kc, kz, kh.but hb hS, fun k hk => ih k hk (ks k hk)⟩
theorem TQ.later (h : TQ w Q t) (hb : Below w.heap.size w w') : TQ w' Q t := h.but (But.of_below hb (fun _ => False)) (fun _ _ h => h)
end
/-- a slice of one's own grows by one -/
theorem tq_grew {w5 w7 : World} {o : Obj} {D : Nat} {A A7 : Option Addr} {n c n7 c7 : Nat} {l : List P8.TV} {k : P8.TV} {Q : Nat → Prop} (own : P8.kT.Own w5 D (.slice A n c) l)
    (ks : ∀ k ∈ l, TQ w5 (fun b => Q b ∧ (Value.slice A n c).ownBlock ≠ some b) k) (hk : TQ w5 (fun b => Q b ∧ (Value.slice A n c).ownBlock ≠ some b) k) (hg : (w5.alloc o).grownBy w7 (Value.slice A n c).ownBlock)
    (hat : (Value.slice A7 n7 c7).ownBlock = (Value.slice A n c).ownBlock ∨ (Value.slice A7 n7 c7).ownBlock = some (w5.alloc o).heap.size) :
    (∀ t ∈ l ++ [k], TQ w7 (fun b => Q b ∧ (Value.slice A7 n7 c7).ownBlock ≠ some b) t) ∧ But (fun b => (Value.slice A n c).ownBlock = some b) w5 w7 := by
  have b7 : But (fun b => (Value.slice A n c).ownBlock = some b) w5 w7 := (But.alloc (But.refl _ _) _).trans (But.of_grown (S := fun i => (Value.slice A n c).ownBlock = some i) hg (fun i hi _ => hi)) (fun _ _ h => h)
  have key' : ∀ k : P8.TV, TQ w5 (fun b => Q b ∧ (Value.slice A n c).ownBlock ≠ some b) k → TQ w7 (fun b => Q b ∧ (Value.slice A7 n7 c7).ownBlock ≠ some b) k := by
    intro k h
    have h1 : TQ w5 (fun b => (Q b ∧ (Value.slice A n c).ownBlock ≠ some b) ∧ b < w5.heap.size) k := h.mono fun b hb hq => ⟨hq, hb⟩
    refine (h1.but b7 (fun b hq hs => hq.1.2 hs)).mono fun b _ hq => ⟨hq.1.1, fun e => ?_⟩
    rcases hat with h2 | h2
    · exact hq.1.2 (h2 ▸ e)
    · rw [h2] at e
      injection e with e
      have := hq.2
      simp at e
      omega
  refine ⟨fun t ht => ?_, b7⟩
  rcases List.mem_append.1 ht with h | h
  · exact key' t (ks t h)
  · rw [List.mem_singleton.1 h]; exact key' _ hk
/-! ### What trees weigh -/
mutual
def wtP : P8.PT → Nat
  | .mk _ _ _ attrs kids => 1 + attrs.length + wtPL kids
def wtPL : List P8.PT → Nat
  | [] => 0
  | a :: l => wtP a + wtPL l
end
theorem wtP_pos (t : P8.PT) : 1 ≤ wtP t := by cases t; rw [wtP]; omega
theorem wtPL_len : ∀ l : List P8.PT, l.length ≤ wtPL l
  | [] => by simp [wtPL]
  | a :: l => by have := wtPL_len l; have := wtP_pos a; simp [wtPL]; omega
theorem wtPL_at : ∀ {l : List P8.PT} {k : Nat} (h : k < l.length), wtP l[k] ≤ wtPL l
  | a :: l, 0, _ => by simp [wtPL]
  | a :: l, k + 1, h => by
    have := wtPL_at (l := l) (k := k) (by simpa using h)
    simp [wtPL]
    omega
theorem wt_parts (t : P8.PT) : wtP t = 1 + t.attrs.length + wtPL t.kids := by cases t; rw [wtP]; rfl
theorem piece_len (w : PW) (a : Int) (kept : List Int) (old : List P8.PT) : (pieceW w a kept old).length ≤ 1 + kept.length := by
  obtain ⟨kind, tag, key, txt, attrs, kids⟩ := w
  rw [pieceW]
  split
  · split <;> simp
  · split
    · simp
    · split
      · split <;> simp
      · split
        · simp
        · simp
theorem goL_len : ∀ (ws : List PW) (T kept : List Int) (old : List P8.PT), (goL ws T kept old).length ≤ ws.length * (1 + kept.length)
  | [], T, kept, old => by simp [goL]
  | w :: ws, T, kept, old => by
    have h1 := goL_len ws T.tail kept old
    have h2 := piece_len w (T.headD (-1)) kept old
    rw [goL, List.length_append, List.length_cons, Nat.succ_mul]
    omega
end Go.Proofs.Ythdgaoifbejpjaa.P17

/- What the match takes, keeps and leaves: each old one once; what keeps all stands last in a program that may be. No condition but those stated. -/
set_option linter.unusedVariables false
set_option linter.unusedSimpArgs false
namespace Go.Proofs.Ythdgaoifbejpjaa.P16
open Go.RowKit Kd P4 P5 P11 P12 P13 P14

/-! ### One by one -/
theorem scanM_takes {w : PW} {old : List Ol} {left : List Bool} : ∀ m, 0 ≤ (scanM w old left m).1 → ∃ (j : Nat) (o : Ol) (f : Bool), j < m ∧ (scanM w old left m).1 = (j : Int) ∧ old[j]? = some o ∧ left[j]? = some true ∧ takesW w o f = true
  | 0, h => by simp [scanM] at h
  | m + 1, h => by
    by_cases h0 : 0 ≤ (scanM w old left m).1
    · have e : scanM w old left (m + 1) = scanM w old left m := by rw [scanM, if_pos h0]
      obtain ⟨j, o, f, h1, h2, h3⟩ := scanM_takes m h0
      exact ⟨j, o, f, by omega, by rw [e]; exact h2, h3⟩
    · rw [scanM, if_neg h0] at h ⊢
      split
      · rename_i o ho hl
        rw [ho, hl] at h
        simp only at h ⊢
        by_cases ht : takesW w o (scanM w old left m).2 = true
        · exact ⟨m, o, _, by omega, by rw [if_pos ht], ho, hl, ht⟩
        · rw [if_neg ht] at h
          omega
      · rename_i hx
        exfalso
        revert h
        split
        · rename_i o ho hl
          exact absurd hl (hx o ho)
        · exact h0
theorem scanM_none {w : PW} {old : List Ol} {left : List Bool} : ∀ m, ¬ 0 ≤ (scanM w old left m).1 → ∀ j, j < m → ∀ o, old[j]? = some o → left[j]? = some true → ∃ f, takesW w o f = false
  | 0, _, j, hj, _, _, _ => by omega
  | m + 1, h, j, hj, o, ho, hl => by
    have h0 : ¬ 0 ≤ (scanM w old left m).1 := fun h0 => h (by rw [show scanM w old left (m + 1) = scanM w old left m by rw [scanM, if_pos h0]]; exact h0)
    by_cases hjm : j < m
    · exact scanM_none m h0 j hjm o ho hl
    · obtain rfl : j = m := by omega
      rw [scanM_left h0 ho hl] at h
      refine ⟨(scanM w old left j).2, ?_⟩
      cases ht : takesW w o (scanM w old left j).2 with
      | false => rfl
      | true =>
        rw [ht] at h
        simp only [if_true] at h
        omega
def lft (left : List Bool) (k : Nat) : Nat := if left[k]? = some true then 1 else 0
theorem idxM_count (left : List Bool) (k : Nat) : ∀ m, (idxM left m).count (k : Int) = if k < m then lft left k else 0
  | 0 => by simp [idxM]
  | m + 1 => by
    have ih := idxM_count left k m
    rw [idxM]
    split
    · rename_i hl
      rw [List.count_append, ih, List.count_singleton]
      by_cases e : k = m
      · subst e
        simp [lft, hl]
      · have e2 : ((m : Int) == (k : Int)) = false := by simp; omega
        rw [e2]
        by_cases h : k < m
        · have h' : k < m + 1 := by omega
          simp [h, h']
        · have h' : ¬ k < m + 1 := by omega
          simp [h, h']
    · rename_i hl
      rw [ih]
      by_cases e : k = m
      · subst e
        rw [if_neg (by omega), if_pos (by omega), lft, if_neg hl]
      · by_cases h : k < m
        · rw [if_pos h, if_pos (by omega)]
        · rw [if_neg h, if_neg (by omega)]
theorem idxM_mem {left : List Bool} : ∀ {m : Nat} {x : Int}, x ∈ idxM left m → 0 ≤ x ∧ x < m
  | 0, x, h => by simp [idxM] at h
  | m + 1, x, h => by
    rw [idxM] at h
    split at h
    · rcases List.mem_append.1 h with h | h
      · have := idxM_mem h; omega
      · rw [List.mem_singleton] at h; omega
    · have := idxM_mem h; omega
theorem lft_leftM {left : List Bool} {a : Int} {k : Nat} (h : 0 ≤ a → left[a.toNat]? = some true) : lft (leftM left a) k = if (k : Int) = a then 0 else lft left k := by
  unfold leftM
  by_cases h0 : 0 ≤ a
  · rw [if_pos h0]
    by_cases e : (k : Int) = a
    · rw [if_pos e, lft, if_neg]
      rw [show a.toNat = k by omega]
      rw [List.getElem?_set]
      simp
    · rw [if_neg e, lft, lft, List.getElem?_set_ne (by omega)]
  · rw [if_neg h0, if_neg (by omega)]
theorem lft_rep (n k : Nat) : lft (List.replicate n false) k = 0 := by
  rw [lft, if_neg]
  rw [List.getElem?_replicate]
  split <;> simp
structure Once (n : Nat) (s : Ms) : Prop where
  len : s.left.length = n
  one : ∀ k, k < n → lft s.left k + s.take.count (k : Int) + s.kept.count (k : Int) = 1
  take : ∀ x ∈ s.take, -1 ≤ x ∧ x < n
  kept : ∀ x ∈ s.kept, 0 ≤ x ∧ x < n
theorem once_step {old : List Ol} {s : Ms} {w : PW} (h : Once old.length s) : Once old.length (stepM old s w) := by
  have hr := scanM_range w old s.left old.length
  have ht : 0 ≤ (scanM w old s.left old.length).1 → s.left[(scanM w old s.left old.length).1.toNat]? = some true := fun h0 => by
    obtain ⟨j, o, f, h1, h2, _, h4, _⟩ := scanM_takes _ h0
    rw [h2, Int.toNat_natCast]
    exact h4
  have hm := h.len
  refine ⟨step_left h.len, ?_, ?_, ?_⟩
  · intro k hk
    have ho := h.one k hk
    have hl := lft_leftM (k := k) ht
    unfold stepM
    generalize (scanM w old s.left old.length).1 = a at hr ht hl
    have hx : s.left[k]? = some (s.left[k]'(by omega)) := List.getElem?_eq_getElem _
    have ha : ([a] : List Int).count (k : Int) + lft (leftM s.left a) k = lft s.left k := by
      rw [hl, List.count_singleton]
      by_cases e : (k : Int) = a
      · have h0 := ht (by omega)
        rw [show a.toNat = k by omega] at h0
        rw [if_pos e, lft, if_pos h0]
        simp [e]
      · rw [if_neg e]
        have e2 : (a == (k : Int)) = false := by simp; omega
        rw [e2]
        simp
    by_cases h4 : w.kind = 4
    · rw [if_pos h4]
      simp only
      rw [lft_rep, List.count_append, List.count_append, idxM_count, if_pos hk]
      omega
    · rw [if_neg h4]
      simp only
      rw [List.count_append]
      omega
  · intro x hx
    have hx : x ∈ s.take ++ [(scanM w old s.left old.length).1] := by
      unfold stepM at hx
      split at hx <;> exact hx
    rcases List.mem_append.1 hx with hx | hx
    · exact h.take x hx
    · rw [List.mem_singleton] at hx
      omega
  · intro x hx
    unfold stepM at hx
    split at hx
    · rcases List.mem_append.1 hx with hx | hx
      · exact h.kept x hx
      · exact idxM_mem hx
    · exact h.kept x hx
theorem once_list {old : List Ol} : ∀ {ws : List PW} {s : Ms}, Once old.length s → Once old.length (ws.foldl (stepM old) s)
  | [], _, h => h
  | w :: ws, s, h => by
    rw [List.foldl_cons]
    exact once_list (ws := ws) (once_step h)
theorem once_fold (old : List Ol) (ws : List PW) : Once old.length (foldM old ws) := once_list ⟨by simp, fun k hk => by
  have : (List.replicate old.length true)[k]? = some true := by rw [List.getElem?_replicate, if_pos hk]
  simp [lft, this], (by intro x hx; cases hx), (by intro x hx; cases hx)⟩
/-- each one once: taken, kept, or gone -/
theorem once_all (old : List Ol) (ws : List PW) {k : Nat} (hk : k < old.length) : (foldM old ws).take.count (k : Int) + ((foldM old ws).kept ++ idxM (foldM old ws).left old.length).count (k : Int) = 1 := by
  have := (once_fold old ws).one k hk
  rw [List.count_append, idxM_count, if_pos hk]
  omega
theorem rest_mem (old : List Ol) (ws : List PW) : ∀ x ∈ (foldM old ws).kept ++ idxM (foldM old ws).left old.length, 0 ≤ x ∧ x < old.length := fun x hx => by
  rcases List.mem_append.1 hx with hx | hx
  · exact (once_fold old ws).kept x hx
  · exact idxM_mem hx
/-! ### What is taken, place by place -/
theorem fold_pre {old : List Ol} : ∀ {ws : List PW} {s : Ms}, ∃ r, (ws.foldl (stepM old) s).take = s.take ++ r
  | [], s => ⟨[], by simp⟩
  | w :: ws, s => by
    obtain ⟨r, hr⟩ := fold_pre (old := old) (ws := ws) (s := stepM old s w)
    have e : (stepM old s w).take = s.take ++ [(scanM w old s.left old.length).1] := by
      unfold stepM
      split <;> rfl
    exact ⟨(scanM w old s.left old.length).1 :: r, by rw [List.foldl_cons, hr, e]; simp⟩
theorem take_pre (old : List Ol) (ws : List PW) {i : Nat} (hi : i ≤ ws.length) : (foldM old ws).take.take i = (foldM old (ws.take i)).take := by
  have h1 := (foldM_lens old (ws.take i)).1
  rw [List.length_take, Nat.min_eq_left hi] at h1
  have e : foldM old ws = (ws.drop i).foldl (stepM old) (foldM old (ws.take i)) := by
    unfold foldM
    rw [← List.foldl_append, List.take_append_drop]
  obtain ⟨r, hr⟩ := fold_pre (old := old) (ws := ws.drop i) (s := foldM old (ws.take i))
  rw [e, hr]
  exact List.take_left' h1
theorem take_at {old : List Ol} {ws : List PW} {i : Nat} (hi : i < ws.length) : (foldM old ws).take[i]? = some (scanM ws[i] old (foldM old (ws.take i)).left old.length).1 := by
  have h1 := (foldM_lens old (ws.take i)).1
  rw [List.length_take, Nat.min_eq_left (by omega)] at h1
  have h2 := take_pre old ws (i := i + 1) (by omega)
  rw [foldM_snoc hi] at h2
  have e : (stepM old (foldM old (ws.take i)) ws[i]).take = (foldM old (ws.take i)).take ++ [(scanM ws[i] old (foldM old (ws.take i)).left old.length).1] := by
    unfold stepM
    split <;> rfl
  rw [e] at h2
  have h3 := congrArg (fun l => l[i]?) h2
  rw [List.getElem?_take, if_pos (by omega)] at h3
  rw [h3, List.getElem?_append_right (by omega), h1, Nat.sub_self]
  rfl
theorem kept_none {old : List Ol} {ws : List PW} : ∀ {i : Nat}, i ≤ ws.length → (∀ j (h : j < ws.length), j < i → ws[j].kind ≠ 4) → (foldM old (ws.take i)).kept = []
  | 0, _, _ => by simp [foldM]
  | i + 1, hi, h => by
    rw [foldM_snoc (by omega), stepM, if_neg (h i (by omega) (by omega))]
    exact kept_none (by omega) (fun j hj hji => h j hj (by omega))
/-- what a thing that is wanted takes was free, and fits -/
theorem took {old : List Ol} {ws : List PW} {i : Nat} (hi : i < ws.length) {a : Int} (ha : (foldM old ws).take[i]? = some a) (h0 : 0 ≤ a) :
    ∃ o f, a < old.length ∧ old[a.toNat]? = some o ∧ takesW ws[i] o f = true ∧ ((foldM old ws).take.take i).count a = 0 := by
  rw [take_at hi] at ha
  injection ha with ha
  have ho := once_fold old (ws.take i)
  rw [take_pre old ws (by omega)]
  generalize foldM old (ws.take i) = s at ha ho ⊢
  subst ha
  obtain ⟨j, o, f, h1, h2, h3, h4, h5⟩ := scanM_takes _ h0
  have h6 := ho.one j h1
  rw [lft, if_pos h4] at h6
  refine ⟨o, f, by omega, by rw [h2, Int.toNat_natCast]; exact h3, h5, ?_⟩
  rw [h2]
  omega
/-- what is wanted of a key, and takes none: none that is free fits -/
theorem missed {old : List Ol} {ws : List PW} {i : Nat} (hi : i < ws.length) {a : Int} (ha : (foldM old ws).take[i]? = some a) (h0 : a < 0) (hkind : ws[i].kind = 1) (hkey : ws[i].key.toList.isEmpty = false)
    (hall : ∀ j (h : j < ws.length), j < i → ws[j].kind ≠ 4) {k : Nat} {o : Ol} (ho : old[k]? = some o) (hc : ((foldM old ws).take.take i).count (k : Int) = 0) : (bq o.tag ws[i].tag && bq o.key ws[i].key) = false := by
  rw [take_at hi] at ha
  injection ha with ha
  have hk : k < old.length := (List.getElem?_eq_some_iff.1 ho).1
  have h1 := (once_fold old (ws.take i)).one k hk
  rw [kept_none (by omega) hall] at h1
  rw [take_pre old ws (by omega)] at hc
  rw [hc] at h1
  have hl : (foldM old (ws.take i)).left[k]? = some true := by
    rcases Classical.em ((foldM old (ws.take i)).left[k]? = some true) with h | h
    · exact h
    · rw [lft, if_neg h] at h1
      simp at h1
  obtain ⟨f, hf⟩ := scanM_none (w := ws[i]) old.length (by rw [ha]; omega) k hk o ho hl
  rw [takesW, if_pos hkind, hkey] at hf
  simpa using hf
/-! ### What keeps all stands last -/
theorem foldl_stepA_ds : ∀ (m : List In) (s : List In × Int), (m.foldl stepA s).2 = s.2 + ds m
  | [], s => by simp [ds]
  | x :: m, s => by
    rw [List.foldl_cons, foldl_stepA_ds m, ds]
    simp only [stepA]
    omega
theorem foldl_stepA_mem : ∀ {m : List In} {s : List In × Int} {x : In}, x ∈ s.1 → x ∈ (m.foldl stepA s).1
  | [], _, _, h => h
  | y :: m, s, x, h => by
    rw [List.foldl_cons]
    refine foldl_stepA_mem (m := m) ?_
    simp only [stepA]
    split
    · exact List.mem_append_left _ h
    · exact h
theorem first_at {l : List In} : ∀ {n k : Nat}, k < n → firstW l n = 0 → firstW l k = 0 ∧ wrongP l k = 0
  | 0, _, h, _ => by omega
  | n + 1, k, h, hf => by
    rw [firstW] at hf
    by_cases h0 : firstW l n = 0
    · rw [if_pos h0] at hf
      by_cases e : k = n
      · subst e; exact ⟨h0, hf⟩
      · exact first_at (by omega) h0
    · rw [if_neg h0] at hf
      exact absurd hf h0
theorem all_last {l : List In} (h : checkP l = 0) {i : Nat} (hi : i < (wantP l).length) (hk : (wantP l)[i].kind = 4) : i + 1 = (wantP l).length := by
  obtain ⟨_, hf, _⟩ := check_first h
  obtain ⟨hb, hwf⟩ := want_back h
  generalize hws : wantP l = ws at hi hk hb hwf ⊢
  refine Classical.byContradiction fun hne => ?_
  have hlt : i + 1 < ws.length := by omega
  have hsplit : ws = ws.take i ++ ws[i] :: ws[i + 1] :: ws.drop (i + 2) := by
    rw [← List.drop_eq_getElem_cons hlt, ← List.drop_eq_getElem_cons hi, List.take_append_drop]
  have hw4 : backW ws[i] = [⟨7, z0, z0⟩] := by
    have := hwf _ (List.getElem_mem hi)
    generalize ws[i] = e at this hk
    cases this with
    | el _ _ _ => simp [PW.kind] at hk
    | vo _ _ => simp [PW.kind] at hk
    | tx _ => simp [PW.kind] at hk
    | nd => simp [PW.kind] at hk
    | al => rw [backW, if_neg (by decide), if_neg (by decide), if_neg (by decide), if_pos rfl]
  obtain ⟨x, r, hx, hxt⟩ := backW_head (hwf _ (List.getElem_mem hlt))
  have hl : l = (backL (ws.take i) ++ [⟨7, z0, z0⟩]) ++ x :: (r ++ backL (ws.drop (i + 2))) := by
    have e := congrArg backL hsplit
    rw [backL_append, backL, backL, hw4, hx, hb] at e
    rw [e]
    simp
  have hd0 : ds (backL (ws.take i)) = 0 := (lvl_list (fun t ht => lvl_wf t (hwf t (List.mem_of_mem_take ht)))).all
  generalize hpre : backL (ws.take i) ++ [⟨7, z0, z0⟩] = pre at hl
  have hdp : ds pre = 0 := by rw [← hpre, ds_append, hd0]; rfl
  have hpl : pre.length < l.length := by rw [hl]; simp
  have hlp : l[pre.length]? = some x := by rw [hl, List.getElem?_append_right (Nat.le_refl _), Nat.sub_self]; rfl
  have htk : l.take pre.length = pre := by rw [hl, List.take_left']; rfl
  obtain ⟨f0, w0⟩ := first_at hpl hf
  have hp := pls_of (by omega) f0
  have ht0 := hp.at_ 0 (by have := hp.len; omega)
  have e0 : foldA l pre.length (posK l pre.length 0) = pre.foldl stepA ([], 0) := by
    unfold foldA posK
    simp [htk]
  rw [e0] at ht0
  have hdep := congrArg Prod.snd ht0
  rw [foldl_stepA_ds, hdp] at hdep
  simp only [Int.zero_add] at hdep
  have hop : (opensK l pre.length).length = 0 := by omega
  have hbeg := beginP_none hop
  have hah : aheadP l pre.length = (pre.foldl stepA ([], 0)).1 := by
    rw [aheadP, hbeg]
    simp [htk]
  have hmem : (⟨7, z0, z0⟩ : In) ∈ aheadP l pre.length := by
    rw [hah, ← hpre, List.foldl_append, List.foldl_cons, List.foldl_nil]
    simp only [stepA]
    rw [if_pos ⟨by rw [foldl_stepA_ds, hd0]; rfl, by decide⟩]
    exact List.mem_append_right _ (by simp)
  have hany : (aheadP l pre.length).any (fun y => decide (y.op = 7)) = true := List.any_eq_true.2 ⟨_, hmem, by simp⟩
  rw [wrongP, hlp] at w0
  simp only [wrongAt] at w0
  split at w0
  · cases w0
  · rw [hxt, if_neg (by decide)] at w0
    split at w0
    · rw [hbeg] at w0
      simp at w0
    · first
      | cases w0
      | (rw [hany, if_pos rfl] at w0; cases w0)
theorem none_ahead {l : List In} (h : checkP l = 0) {i : Nat} (hi : i < (wantP l).length) : ∀ j (hj : j < (wantP l).length), j < i → (wantP l)[j].kind ≠ 4 := fun j hj hji hk => by
  have := all_last h hj hk
  omega
end Go.Proofs.Ythdgaoifbejpjaa.P16
