/- What programs want, plain: what a program tells is what is wanted, told back. No condition. -/
import Derived.Test.YtfjnbjpenibpkaaM11
import Derived.Test.YtfjnbjpenibpkaaM16
set_option linter.unusedVariables false
set_option linter.unusedSimpArgs false
set_option linter.unusedVariables false
set_option linter.unusedSimpArgs false
namespace Go.Proofs.Ytfjnbjpenibpkaa.P14
open Go.RowKit Kd P4 P5 P11 P12 P13

inductive PW where
  | mk (kind : Int) (tag key txt : ByteArray) (attrs : List P3.At) (kids : List PW)
/-- what is wanted, with the slices of its attributes and of what is wanted in it -/
inductive WV where
  | mk (kind : Int) (tag key txt : ByteArray) (sa : Sv) (attrs : List P3.At) (sk : Sv) (kids : List WV)
theorem PW.ind {Q : PW → Prop} (h : ∀ kind tag key txt attrs kids, (∀ k ∈ kids, Q k) → Q (.mk kind tag key txt attrs kids)) (t : PW) : Q t :=
  PW.rec (motive_1 := Q) (motive_2 := fun l => ∀ k ∈ l, Q k) (fun a b c d e f ih => h a b c d e f ih) (fun _ hk => by cases hk) (fun a l ha hl k hk => by
    rcases List.mem_cons.1 hk with rfl | hk
    · exact ha
    · exact hl k hk) t
theorem WV.ind {Q : WV → Prop} (h : ∀ kind tag key txt sa attrs sk kids, (∀ k ∈ kids, Q k) → Q (.mk kind tag key txt sa attrs sk kids)) (t : WV) : Q t :=
  WV.rec (motive_1 := Q) (motive_2 := fun l => ∀ k ∈ l, Q k) (fun a b c d e f g i ih => h a b c d e f g i ih) (fun _ hk => by cases hk) (fun a l ha hl k hk => by
    rcases List.mem_cons.1 hk with rfl | hk
    · exact ha
    · exact hl k hk) t
namespace WV
def kind : WV → Int | .mk a _ _ _ _ _ _ _ => a
def tag : WV → ByteArray | .mk _ a _ _ _ _ _ _ => a
def key : WV → ByteArray | .mk _ _ a _ _ _ _ _ => a
def txt : WV → ByteArray | .mk _ _ _ a _ _ _ _ => a
def sa : WV → Sv | .mk _ _ _ _ a _ _ _ => a
def attrs : WV → List P3.At | .mk _ _ _ _ _ a _ _ => a
def sk : WV → Sv | .mk _ _ _ _ _ _ a _ => a
def kids : WV → List WV | .mk _ _ _ _ _ _ _ a => a
end WV
namespace PW
def kind : PW → Int | .mk a _ _ _ _ _ => a
def tag : PW → ByteArray | .mk _ a _ _ _ _ => a
def key : PW → ByteArray | .mk _ _ a _ _ _ => a
def txt : PW → ByteArray | .mk _ _ _ a _ _ => a
def attrs : PW → List P3.At | .mk _ _ _ _ a _ => a
def kids : PW → List PW | .mk _ _ _ _ _ a => a
end PW
mutual
def er : WV → PW
  | .mk kind tag key txt _ attrs _ kids => .mk kind tag key txt attrs (erL kids)
def erL : List WV → List PW
  | [] => []
  | a :: l => er a :: erL l
end
theorem erL_map : ∀ l : List WV, erL l = l.map er
  | [] => by simp [erL]
  | a :: l => by simp [erL, erL_map l]
theorem erL_append (l m : List WV) : erL (l ++ m) = erL l ++ erL m := by simp [erL_map]
theorem erL_at {l : List WV} {k : Nat} (h : k < l.length) (h' : k < (erL l).length) : (erL l)[k] = er l[k] := by simp [erL_map]
theorem er_parts (t : WV) : er t = .mk t.kind t.tag t.key t.txt t.attrs (erL t.kids) := by cases t; rw [er]; rfl
/-! ### How many nodes, and how many of all -/
mutual
def cntW : PW → Nat
  | .mk kind _ _ _ _ kids => if kind = 2 then 1 else if kind = 1 then 1 + cntL kids else 0
def cntL : List PW → Nat
  | [] => 0
  | a :: l => cntW a + cntL l
end
mutual
/-- what it weighs: all that is wanted in it, and the attributes -/
def wtW : PW → Nat
  | .mk _ _ _ _ attrs kids => 1 + attrs.length + wtL kids
def wtL : List PW → Nat
  | [] => 0
  | a :: l => wtW a + wtL l
end
theorem wtW_pos (t : PW) : 1 ≤ wtW t := by cases t; rw [wtW]; omega
theorem wtL_append : ∀ l m : List PW, wtL (l ++ m) = wtL l + wtL m
  | [], m => by simp [wtL]
  | a :: l, m => by simp [wtL, wtL_append l m]; omega
theorem wtL_len : ∀ l : List PW, l.length ≤ wtL l
  | [] => by simp [wtL]
  | a :: l => by have := wtL_len l; have := wtW_pos a; simp [wtL]; omega
theorem wtL_mem : ∀ {l : List PW} {t : PW}, t ∈ l → wtW t ≤ wtL l
  | a :: l, t, h => by
    rw [wtL]
    rcases List.mem_cons.1 h with rfl | h
    · omega
    · have := wtL_mem h; omega
theorem cntL_append : ∀ l m : List PW, cntL (l ++ m) = cntL l + cntL m
  | [], m => by simp [cntL]
  | a :: l, m => by simp [cntL, cntL_append l m]; omega
theorem cntL_take {l : List PW} {k : Nat} (h : k < l.length) : cntL (l.take (k + 1)) = cntL (l.take k) + cntW l[k] := by
  rw [List.take_add_one, List.getElem?_eq_getElem h, cntL_append]
  simp [cntL]
theorem cnt_wt (t : PW) : cntW t ≤ wtW t := by
  induction t using PW.ind with
  | h kind tag key txt attrs kids ih =>
    have : ∀ l : List PW, (∀ k ∈ l, cntW k ≤ wtW k) → cntL l ≤ wtL l := by
      intro l
      induction l with
      | nil => intro _; simp [cntL]
      | cons a l ih2 =>
        intro h
        have h1 := h a (by simp)
        have h2 := ih2 (fun k hk => h k (by simp [hk]))
        rw [cntL, wtL]
        omega
    have := this kids ih
    rw [cntW, wtW]
    split
    · omega
    · split <;> omega
theorem cntL_wt : ∀ l : List PW, cntL l ≤ wtL l
  | [] => by simp [cntL]
  | a :: l => by have := cntL_wt l; have := cnt_wt a; rw [cntL, wtL]; omega
/-! ### Alike -/
def bq (a b : ByteArray) : Bool := a.toList == b.toList
mutual
def alW : PW → PW → Bool
  | .mk k t y x a ks, .mk k' t' y' x' a' ks' => P3.sameA a a' && alL ks ks' && (k == k') && bq t t' && bq y y' && bq x x'
def alL : List PW → List PW → Bool
  | [], [] => true
  | a :: l, b :: m => alW a b && alL l m
  | _, _ => false
end
theorem alL_len : ∀ {l m : List PW}, l.length ≠ m.length → alL l m = false
  | [], [], h => absurd rfl h
  | [], _ :: _, _ => by rw [alL] <;> simp
  | _ :: _, [], _ => by rw [alL] <;> simp
  | a :: l, b :: m, h => by rw [alL, alL_len (l := l) (m := m) (by simpa using h), Bool.and_false]
theorem alL_bad : ∀ {l m : List PW} {k : Nat} (h : k < l.length) (h' : k < m.length), alW l[k] m[k] = false → alL l m = false
  | [], _, _, h, _, _ => by simp at h
  | _ :: _, [], _, _, h, _ => by simp at h
  | a :: l, b :: m, 0, _, _, e => by simp only [List.getElem_cons_zero] at e; rw [alL, e, Bool.false_and]
  | a :: l, b :: m, k + 1, h, h', e => by simp only [List.getElem_cons_succ] at e; rw [alL, alL_bad (by simpa using h) (by simpa using h') e, Bool.and_false]
theorem alL_all : ∀ {l m : List PW}, l.length = m.length → (∀ k (h : k < l.length) (h' : k < m.length), alW l[k] m[k] = true) → alL l m = true
  | [], [], _, _ => by rw [alL]
  | [], _ :: _, h, _ => by simp at h
  | _ :: _, [], h, _ => by simp at h
  | a :: l, b :: m, h, k => by
    have h0 := k 0 (by simp) (by simp)
    simp only [List.getElem_cons_zero] at h0
    rw [alL, h0, alL_all (by simpa using h) (fun j h1 h2 => by have := k (j + 1) (by simpa using h1) (by simpa using h2); simpa using this)]
    rfl
theorem alW_refl (t : PW) : alW t t = true := by
  induction t using PW.ind with
  | h kind tag key txt attrs kids ih =>
    rw [alW, P3.sameA_refl, alL_all rfl (fun k h h' => ih _ (List.getElem_mem h))]
    simp [bq]
theorem alL_refl (l : List PW) : alL l l = true := alL_all rfl (fun k h h' => alW_refl _)
/-! ### Told back -/
def z0 : ByteArray := bs []
def atI (a : P3.At) : In := ⟨if a.st then 6 else 5, a.nm, a.vl⟩
def toAt (x : In) : P3.At := ⟨x.a, x.b, decide (x.op = 6)⟩
theorem atI_toAt {x : In} (h : tellsO x.op = true) : atI (toAt x) = x := by
  obtain ⟨op, a, b⟩ := x
  simp only [tellsO, decide_eq_true_eq] at h
  rcases h with rfl | rfl <;> simp [atI, toAt]
mutual
def backW : PW → List In
  | .mk kind tag key txt attrs kids =>
    if kind = 1 then (if P1.voidB tag.data.toList then ⟨3, tag, key⟩ :: attrs.map atI else ⟨1, tag, key⟩ :: (attrs.map atI ++ (backL kids ++ [⟨2, z0, z0⟩])))
    else if kind = 2 then [⟨4, txt, z0⟩] else if kind = 3 then [⟨8, z0, z0⟩] else if kind = 4 then [⟨7, z0, z0⟩] else []
def backL : List PW → List In
  | [] => []
  | a :: l => backW a ++ backL l
end
theorem backL_append : ∀ l m : List PW, backL (l ++ m) = backL l ++ backL m
  | [], m => by simp [backL]
  | a :: l, m => by simp [backL, backL_append l m]
theorem backL_one (a : PW) : backL [a] = backW a := by simp [backL]
/-- what a program may want -/
inductive WfW : PW → Prop
  | el {tag key : ByteArray} {attrs : List P3.At} {kids : List PW} (hm : mayI ⟨1, tag, key⟩ = true) (ha : ∀ a ∈ attrs, mayI (atI a) = true) (hk : ∀ k ∈ kids, WfW k) : WfW (.mk 1 tag key z0 attrs kids)
  | vo {tag key : ByteArray} {attrs : List P3.At} (hm : mayI ⟨3, tag, key⟩ = true) (ha : ∀ a ∈ attrs, mayI (atI a) = true) : WfW (.mk 1 tag key z0 attrs [])
  | tx {t : ByteArray} (hm : mayI ⟨4, t, z0⟩ = true) : WfW (.mk 2 z0 z0 t [] [])
  | nd : WfW (.mk 3 z0 z0 z0 [] [])
  | al : WfW (.mk 4 z0 z0 z0 [] [])
theorem may_open {a b : ByteArray} (h : mayI ⟨1, a, b⟩ = true) : P1.voidB a.data.toList = false := by
  simp only [mayI, if_true, Bool.and_eq_true, Bool.not_eq_true'] at h
  exact h.1.2
theorem may_void {a b : ByteArray} (h : mayI ⟨3, a, b⟩ = true) : P1.voidB a.data.toList = true := by
  have e : mayI ⟨3, a, b⟩ = (P1.voidB a.data.toList && P1.textB b.data.toList) := by simp [mayI]
  rw [e, Bool.and_eq_true] at h
  exact h.1
theorem back_open {tag key txt : ByteArray} {attrs : List P3.At} {kids : List PW} (h : P1.voidB tag.data.toList = false) : backW (.mk 1 tag key txt attrs kids) = ⟨1, tag, key⟩ :: (attrs.map atI ++ (backL kids ++ [⟨2, z0, z0⟩])) := by
  rw [backW, if_pos rfl, h, if_neg (by decide)]
theorem back_void {tag key txt : ByteArray} {attrs : List P3.At} {kids : List PW} (h : P1.voidB tag.data.toList = true) : backW (.mk 1 tag key txt attrs kids) = ⟨3, tag, key⟩ :: attrs.map atI := by
  rw [backW, if_pos rfl, if_pos h]
/-! ### What a program wants -/
structure Fr where
  done : List PW
  tag : ByteArray
  key : ByteArray
  attrs : List P3.At
structure St where
  stack : List Fr
  cur : List PW
def PW.addA : PW → P3.At → PW
  | .mk k t y x a ks, n => .mk k t y x (a ++ [n]) ks
def addAt : List PW → P3.At → List PW
  | [], _ => []
  | [a], n => [a.addA n]
  | a :: b :: l, n => a :: addAt (b :: l) n
theorem addAt_snoc (t : PW) (n : P3.At) : ∀ l : List PW, addAt (l ++ [t]) n = l ++ [t.addA n]
  | [] => rfl
  | [b] => rfl
  | b :: c :: l => by
    have := addAt_snoc t n (c :: l)
    show b :: addAt ((c :: l) ++ [t]) n = _
    rw [this]
    rfl
def stepS (s : St) (x : In) : St :=
  if x.op = 1 then ⟨⟨s.cur, x.a, x.b, []⟩ :: s.stack, []⟩
  else if x.op = 2 then (match s.stack with
    | [] => s
    | f :: r => ⟨r, f.done ++ [.mk 1 f.tag f.key z0 f.attrs s.cur]⟩)
  else if x.op = 3 then ⟨s.stack, s.cur ++ [.mk 1 x.a x.b z0 [] []]⟩
  else if x.op = 4 then ⟨s.stack, s.cur ++ [.mk 2 z0 z0 x.a [] []]⟩
  else if x.op = 7 then ⟨s.stack, s.cur ++ [.mk 4 z0 z0 z0 [] []]⟩
  else if x.op = 8 then ⟨s.stack, s.cur ++ [.mk 3 z0 z0 z0 [] []]⟩
  else (match s.cur, s.stack with
    | [], [] => s
    | [], f :: r => ⟨⟨f.done, f.tag, f.key, f.attrs ++ [toAt x]⟩ :: r, []⟩
    | a :: l, st => ⟨st, addAt (a :: l) (toAt x)⟩)
theorem stepS_frame {x : In} {f : Fr} {r : List Fr} (h : tellsO x.op = true) : stepS ⟨f :: r, []⟩ x = ⟨⟨f.done, f.tag, f.key, f.attrs ++ [toAt x]⟩ :: r, []⟩ := by
  simp only [tellsO, decide_eq_true_eq] at h
  rw [stepS, if_neg (by omega), if_neg (by omega), if_neg (by omega), if_neg (by omega), if_neg (by omega), if_neg (by omega)]
theorem stepS_last {x : In} {st : List Fr} {init : List PW} {t : PW} (h : tellsO x.op = true) : stepS ⟨st, init ++ [t]⟩ x = ⟨st, init ++ [t.addA (toAt x)]⟩ := by
  simp only [tellsO, decide_eq_true_eq] at h
  rw [stepS, if_neg (by omega), if_neg (by omega), if_neg (by omega), if_neg (by omega), if_neg (by omega), if_neg (by omega), ← addAt_snoc]
  cases init <;> rfl
def stateK (l : List In) (k : Nat) : St := (l.take k).foldl stepS ⟨[], []⟩
def wantP (l : List In) : List PW := (l.foldl stepS ⟨[], []⟩).cur
theorem stateK_step {l : List In} {k : Nat} (h : k < l.length) : stateK l (k + 1) = stepS (stateK l k) l[k] := by
  unfold stateK
  rw [List.take_add_one, List.getElem?_eq_getElem h, List.foldl_append]
  rfl
def backF : List Fr → List In
  | [] => []
  | f :: r => backF r ++ (backL f.done ++ (⟨1, f.tag, f.key⟩ :: f.attrs.map atI))
structure WfF (f : Fr) : Prop where
  done : ∀ t ∈ f.done, WfW t
  may : mayI ⟨1, f.tag, f.key⟩ = true
  attrs : ∀ a ∈ f.attrs, mayI (atI a) = true
structure Inv (l : List In) (k : Nat) (s : St) : Prop where
  text : backF s.stack ++ backL s.cur = l.take k
  cur : ∀ t ∈ s.cur, WfW t
  frs : ∀ f ∈ s.stack, WfF f
  len : s.stack.length = (opensK l k).length
  mode : namesK l k ≠ none → (s.cur = [] ∧ s.stack ≠ []) ∨ ∃ (init : List PW) (tag key : ByteArray) (attrs : List P3.At), s.cur = init ++ [.mk 1 tag key z0 attrs []] ∧ mayI ⟨3, tag, key⟩ = true ∧ ∀ a ∈ attrs, mayI (atI a) = true
theorem names_none {l : List In} {k : Nat} (h : k < l.length) (h1 : makesO l[k].op = false) (h2 : tellsO l[k].op = false) : namesK l (k + 1) = none := by
  rw [namesK_step h, stepN_other h1 h2]
theorem inv_add {l : List In} {k : Nat} {s : St} (h : Inv l k s) (hk : k < l.length) {t : PW} (ht : WfW t) (hb : backW t = [l[k]]) (h1 : l[k].op ≠ 1) (h2 : l[k].op ≠ 2) (hmode : namesK l (k + 1) ≠ none → ∃ (tag key : ByteArray) (attrs : List P3.At), t = .mk 1 tag key z0 attrs [] ∧ mayI ⟨3, tag, key⟩ = true ∧ ∀ a ∈ attrs, mayI (atI a) = true) : Inv l (k + 1) ⟨s.stack, s.cur ++ [t]⟩ where
  text := by
    rw [List.take_add_one, List.getElem?_eq_getElem hk, ← h.text]
    simp only [backL_append, backL_one, hb, Option.toList_some, List.append_assoc]
  cur := fun u hu => by
    rcases List.mem_append.1 hu with hu | hu
    · exact h.cur u hu
    · rw [List.mem_singleton.1 hu]; exact ht
  frs := h.frs
  len := by rw [h.len, opensK_step hk, stepB, if_neg h1, if_neg h2]
  mode := fun hn => by
    obtain ⟨tag, key, attrs, e, h3, h4⟩ := hmode hn
    exact .inr ⟨s.cur, tag, key, attrs, by rw [e], h3, h4⟩
theorem inv_step {l : List In} {k : Nat} (hk : k < l.length) (h : Inv l k (stateK l k)) (hf : firstW l k = 0) (hw : wrongP l k = 0) : Inv l (k + 1) (stateK l (k + 1)) := by
  rw [stateK_step hk]
  have hwv := wrong_places hk hf
  rw [hw] at hwv
  have hpl := (pls_of (by omega) hf).len
  generalize hs : stateK l k = s at h
  clear hs
  obtain ⟨stack, cur⟩ := s
  have hmay : mayI l[k] = true := by
    cases hm : mayI l[k] with
    | true => rfl
    | false => rw [wrongV, if_pos hm] at hwv; cases hwv
  obtain ⟨_, _, ho1, ho8, hz, hz1⟩ := may_small hmay
  have hx : ∀ x, l[k] = x → l[k] = x := fun _ e => e
  by_cases e1 : l[k].op = 1
  · have hS : stepS ⟨stack, cur⟩ l[k] = ⟨⟨cur, l[k].a, l[k].b, []⟩ :: stack, []⟩ := by rw [stepS, if_pos e1]
    rw [hS]
    have hx1 : (⟨1, l[k].a, l[k].b⟩ : In) = l[k] := by rw [← e1]
    refine ⟨?_, (fun t ht => by cases ht), fun f hf => ?_, ?_, fun _ => .inl ⟨rfl, by simp⟩⟩
    · rw [List.take_add_one, List.getElem?_eq_getElem hk, ← h.text]
      simp only [backF, backL, List.map_nil, List.append_nil, Option.toList_some, hx1, List.append_assoc]
    · rcases List.mem_cons.1 hf with rfl | hf
      · exact ⟨h.cur, by rw [hx1]; exact hmay, fun a ha => by cases ha⟩
      · exact h.frs f hf
    · rw [opensK_step hk, stepB, if_pos e1, List.length_append, ← h.len]
      simp
  by_cases e2 : l[k].op = 2
  · have hz' := hz (by rw [e2]; rfl)
    have hx2 : l[k] = ⟨2, z0, z0⟩ := by
      obtain ⟨hza, hzb⟩ := hz'
      generalize l[k] = x at e2 hza hzb
      obtain ⟨op, a, b⟩ := x
      simp only at e2 hza hzb
      rw [e2, hza, hzb]
      rfl
    have hpos : 0 < stack.length := by
      rw [h.len]
      rw [wrongV, if_neg (by rw [hmay]; decide), if_neg (by rw [e2]; decide), if_pos e2] at hwv
      split at hwv
      · cases hwv
      · omega
    cases stack with
    | nil => simp at hpos
    | cons f r =>
      have hS : stepS ⟨f :: r, cur⟩ l[k] = ⟨r, f.done ++ [.mk 1 f.tag f.key z0 f.attrs cur]⟩ := by rw [stepS, if_neg e1, if_pos e2]
      rw [hS]
      have hF := h.frs f (by simp)
      refine ⟨?_, fun t ht => ?_, fun g hg => h.frs g (by simp [hg]), ?_, fun hn => absurd (names_none hk (by rw [e2]; rfl) (by rw [e2]; rfl)) hn⟩
      · rw [List.take_add_one, List.getElem?_eq_getElem hk, ← h.text]
        simp only [backF, backL_append, backL_one, back_open (may_open hF.may), Option.toList_some, List.append_assoc, List.cons_append, hx2]
      · rcases List.mem_append.1 ht with ht | ht
        · exact hF.done t ht
        · rw [List.mem_singleton.1 ht]; exact .el hF.may hF.attrs h.cur
      · rw [opensK_step hk, stepB, if_neg e1, if_pos e2, List.length_dropLast, ← h.len]
        simp
  by_cases e3 : l[k].op = 3
  · have hx3 : l[k] = ⟨3, l[k].a, l[k].b⟩ := by rw [← e3]
    have hS : stepS ⟨stack, cur⟩ l[k] = ⟨stack, cur ++ [.mk 1 l[k].a l[k].b z0 [] []]⟩ := by rw [stepS, if_neg e1, if_neg e2, if_pos e3]
    rw [hS]
    have hm3 : mayI ⟨3, l[k].a, l[k].b⟩ = true := by rw [← hx3]; exact hmay
    exact inv_add h hk (.vo hm3 (fun a ha => by cases ha)) (by rw [back_void (may_void hm3), List.map_nil, ← hx3]) e1 e2 (fun _ => ⟨_, _, [], rfl, hm3, (fun a ha => by cases ha)⟩)
  by_cases e4 : l[k].op = 4
  · have hb := hz1 (by rw [e4]; rfl)
    have hx4 : l[k] = ⟨4, l[k].a, z0⟩ := by rw [← e4]; show l[k] = ⟨l[k].op, l[k].a, bs []⟩; rw [← hb]
    have hS : stepS ⟨stack, cur⟩ l[k] = ⟨stack, cur ++ [.mk 2 z0 z0 l[k].a [] []]⟩ := by rw [stepS, if_neg e1, if_neg e2, if_neg e3, if_pos e4]
    rw [hS]
    exact inv_add h hk (.tx (by rw [← hx4]; exact hmay)) (by rw [backW, if_neg (by decide), if_pos rfl, ← hx4]) e1 e2 (fun hn => absurd (names_none hk (by rw [e4]; rfl) (by rw [e4]; rfl)) hn)
  by_cases e7 : l[k].op = 7
  · have hz' := hz (by rw [e7]; rfl)
    have hx7 : l[k] = ⟨7, z0, z0⟩ := by
      obtain ⟨hza, hzb⟩ := hz'
      generalize l[k] = x at e7 hza hzb
      obtain ⟨op, a, b⟩ := x
      simp only at e7 hza hzb
      rw [e7, hza, hzb]
      rfl
    have hS : stepS ⟨stack, cur⟩ l[k] = ⟨stack, cur ++ [.mk 4 z0 z0 z0 [] []]⟩ := by rw [stepS, if_neg e1, if_neg e2, if_neg e3, if_neg e4, if_pos e7]
    rw [hS]
    exact inv_add h hk .al (by rw [backW, if_neg (by decide), if_neg (by decide), if_neg (by decide), if_pos rfl, hx7]) e1 e2 (fun hn => absurd (names_none hk (by rw [e7]; rfl) (by rw [e7]; rfl)) hn)
  by_cases e8 : l[k].op = 8
  · have hz' := hz (by rw [e8]; rfl)
    have hx8 : l[k] = ⟨8, z0, z0⟩ := by
      obtain ⟨hza, hzb⟩ := hz'
      generalize l[k] = x at e8 hza hzb
      obtain ⟨op, a, b⟩ := x
      simp only at e8 hza hzb
      rw [e8, hza, hzb]
      rfl
    have hS : stepS ⟨stack, cur⟩ l[k] = ⟨stack, cur ++ [.mk 3 z0 z0 z0 [] []]⟩ := by rw [stepS, if_neg e1, if_neg e2, if_neg e3, if_neg e4, if_neg e7, if_pos e8]
    rw [hS]
    exact inv_add h hk .nd (by rw [backW, if_neg (by decide), if_neg (by decide), if_pos rfl, hx8]) e1 e2 (fun hn => absurd (names_none hk (by rw [e8]; rfl) (by rw [e8]; rfl)) hn)
  · have ht : tellsO l[k].op = true := by simp only [tellsO, decide_eq_true_eq]; omega
    have hn : namesK l k ≠ none := fun e => by
      rw [wrongV, if_neg (by rw [hmay]; decide), if_pos ht, e] at hwv
      cases hwv
    have hT := atI_toAt ht
    have hlen : (opensK l (k + 1)).length = (opensK l k).length := by rw [opensK_step hk, stepB, if_neg e1, if_neg e2]
    rcases h.mode hn with ⟨hc, hst⟩ | ⟨init, tag, key, attrs, hc, hm, ha⟩
    · simp only at hc hst
      subst hc
      cases stack with
      | nil => exact absurd rfl hst
      | cons f r =>
        rw [stepS_frame ht]
        have hF := h.frs f (by simp)
        refine ⟨?_, (fun t ht => by cases ht), fun g hg => ?_, by rw [hlen, ← h.len]; rfl, fun _ => .inl ⟨rfl, by simp⟩⟩
        · rw [List.take_add_one, List.getElem?_eq_getElem hk, ← h.text]
          simp only [backF, backL, List.map_append, List.map_cons, List.map_nil, List.append_nil, Option.toList_some, hT, List.append_assoc, List.cons_append]
        · rcases List.mem_cons.1 hg with rfl | hg
          · refine ⟨hF.done, hF.may, fun a ha => ?_⟩
            rcases List.mem_append.1 ha with ha | ha
            · exact hF.attrs a ha
            · rw [List.mem_singleton.1 ha, hT]; exact hmay
          · exact h.frs g (by simp [hg])
    · simp only at hc
      subst hc
      rw [stepS_last ht, PW.addA]
      have ha2 : ∀ a ∈ attrs ++ [toAt l[k]], mayI (atI a) = true := fun a h => by
        rcases List.mem_append.1 h with h | h
        · exact ha a h
        · rw [List.mem_singleton.1 h, hT]; exact hmay
      refine ⟨?_, fun t ht => ?_, h.frs, by rw [hlen, ← h.len], fun _ => .inr ⟨init, tag, key, _, rfl, hm, ha2⟩⟩
      · rw [List.take_add_one, List.getElem?_eq_getElem hk, ← h.text]
        simp only [backL_append, backL_one, back_void (may_void hm), List.map_append, List.map_cons, List.map_nil, Option.toList_some, hT, List.append_assoc, List.cons_append]
      · rcases List.mem_append.1 ht with ht | ht
        · exact h.cur t (by simp [ht])
        · rw [List.mem_singleton.1 ht]; exact .vo hm ha2
theorem inv_all {l : List In} : ∀ {k : Nat}, k ≤ l.length → firstW l k = 0 → Inv l k (stateK l k)
  | 0, _, _ => ⟨rfl, (fun t ht => by cases ht), (fun f hf => by cases hf), rfl, fun h => absurd rfl h⟩
  | k + 1, hk, hf => by
    have h0 : firstW l k = 0 := by
      rw [firstW] at hf
      split at hf
      · assumption
      · exact hf
    have hw : wrongP l k = 0 := by rw [firstW, if_pos h0] at hf; exact hf
    exact inv_step (by omega) (inv_all (by omega) h0) h0 hw
theorem check_first {l : List In} (h : checkP l = 0) : l.length ≤ 120 ∧ firstW l l.length = 0 ∧ (opensK l l.length).length = 0 := by
  unfold checkP at h
  split at h
  · cases h
  · split at h
    · rename_i h1 h2
      split at h
      · cases h
      · rename_i h3
        rw [beginP_snd] at h3
        exact ⟨by omega, h2, by omega⟩
    · rename_i h1 h2
      exact absurd h h2
/-- a program that may be is what it wants, told back -/
theorem want_back {l : List In} (h : checkP l = 0) : backL (wantP l) = l ∧ ∀ t ∈ wantP l, WfW t := by
  obtain ⟨_, h1, h2⟩ := check_first h
  have hI := inv_all (Nat.le_refl _) h1
  have hs : stateK l l.length = l.foldl stepS ⟨[], []⟩ := by rw [stateK, List.take_length]
  have hl := hI.len
  rw [h2] at hl
  have ht := hI.text
  rw [List.eq_nil_of_length_eq_zero hl, backF, List.nil_append, List.take_length, hs] at ht
  refine ⟨ht, fun t htm => hI.cur t ?_⟩
  rw [hs]
  exact htm
end Go.Proofs.Ytfjnbjpenibpkaa.P14
