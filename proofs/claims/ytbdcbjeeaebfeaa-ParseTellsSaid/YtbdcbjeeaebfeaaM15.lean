/- How long a tree's HTML may be. No condition but those stated. -/
import Derived.Test.YtbdcbjeeaebfeaaM14
set_option linter.unusedVariables false
set_option linter.unusedSimpArgs false
namespace Go.Proofs.Ytbdcbjeeaebfeaa.P9
open Go.RowKit Kd P4 P5 P8

theorem attrH_len {a : P3.At} (h : P3.shortA a = true) : (attrH a).length ≤ 1000 := by
  unfold P3.shortA at h
  simp only [Bool.and_eq_true, decide_eq_true_eq] at h
  have h1 := P2.putL_len a.vl.data.toList
  have e1 : a.nm.data.toList.length = a.nm.size := by simp
  have e2 : a.vl.data.toList.length = a.vl.size := by simp
  simp only [attrH, List.length_cons, List.length_append, List.length_nil]
  omega
theorem attrsH_len : ∀ {l : List P3.At}, l.all P3.shortA = true → (attrsH l).length ≤ 1000 * l.length
  | [], _ => by simp [attrsH]
  | a :: l, h => by
    rw [List.all_cons, Bool.and_eq_true] at h
    have h1 := attrH_len h.1
    have h2 := attrsH_len h.2
    simp only [attrsH, List.flatMap_cons, List.length_append, List.length_cons] at h2 ⊢
    omega
theorem attrsH_few {l : List P3.At} (h : P3.fewA l = true) : (attrsH l).length ≤ 20000 := by
  unfold P3.fewA at h
  simp only [Bool.and_eq_true, decide_eq_true_eq] at h
  have := attrsH_len h.2
  omega
theorem attrsH_take_le (l : List P3.At) (k : Nat) : (attrsH (l.take k)).length ≤ (attrsH l).length := by
  have e : attrsH l = attrsH (l.take k) ++ attrsH (l.drop k) := by unfold attrsH; rw [← List.flatMap_append, List.take_append_drop]
  rw [e, List.length_append]
  omega
theorem attrsH_snoc {l : List P3.At} {k : Nat} (h : k < l.length) : attrsH (l.take (k + 1)) = attrsH (l.take k) ++ attrH l[k] := by
  rw [List.take_add_one, List.getElem?_eq_getElem h]
  unfold attrsH
  rw [List.flatMap_append]
  simp
theorem allH_snoc {l : List PT} {k : Nat} (h : k < l.length) : allH (l.take (k + 1)) = allH (l.take k) ++ putH l[k] := by
  rw [List.take_add_one, List.getElem?_eq_getElem h, allH_append]
  simp [allH]
theorem allH_take_le (l : List PT) (k : Nat) : (allH (l.take k)).length ≤ (allH l).length := by
  have e : allH l = allH (l.take k) ++ allH (l.drop k) := by rw [← allH_append, List.take_append_drop]
  rw [e, List.length_append]
  omega
theorem allH_at {l : List PT} {k : Nat} (h : k < l.length) : (putH l[k]).length ≤ (allH l).length := by
  have h1 := congrArg List.length (allH_snoc h)
  have h2 := allH_take_le l (k + 1)
  rw [List.length_append] at h1
  omega
theorem allH_le : ∀ {l : List PT}, (∀ t ∈ l, (putH t).length ≤ 30000 * countP t) → (allH l).length ≤ 30000 * countL l
  | [], _ => by simp [allH]
  | a :: l, h => by
    have h1 := h a (by simp)
    have h2 := allH_le (l := l) (fun t ht => h t (by simp [ht]))
    rw [allH, countL, List.length_append]
    omega
theorem putH_len (t : PT) : fewP t = true → (putH t).length ≤ 30000 * countP t := by
  induction t using PT.ind with
  | h tag txt key attrs kids ih =>
    intro hf
    rw [fewP] at hf
    simp only [Bool.and_eq_true, decide_eq_true_eq] at hf
    obtain ⟨⟨⟨⟨f1, f2⟩, f3⟩, f4⟩, f5⟩ := hf
    rw [fewL_all, List.all_eq_true] at f5
    have h1 := allH_le (fun t ht => ih t ht (f5 t ht))
    have h2 := attrsH_few f4
    have h3 := P2.putL_len txt.data.toList
    have e1 : tag.data.toList.length = tag.size := by simp
    have e2 : txt.data.toList.length = txt.size := by simp
    rw [putH, countP]
    split
    · omega
    · simp only [List.length_cons, List.length_append]
      split
      · simp; omega
      · simp only [List.length_cons, List.length_append, List.length_nil]
        omega
theorem allH_len {l : List PT} (h : fewL l = true) : (allH l).length ≤ 30000 * countL l := allH_le (fun t ht => putH_len t (by rw [fewL_all, List.all_eq_true] at h; exact h t ht))
/-- an element's HTML up to its first > -/
def openH (tag : List UInt8) (attrs : List P3.At) : List UInt8 := 60 :: (tag ++ (attrsH attrs ++ [62]))
theorem putH_text {tag txt key : ByteArray} {attrs : List P3.At} {kids : List PT} (h : tag.toList.isEmpty = true) : putH (.mk tag txt key attrs kids) = P2.putL txt.data.toList := by rw [putH, if_pos h]
theorem putH_void {tag txt key : ByteArray} {attrs : List P3.At} {kids : List PT} (h : tag.toList.isEmpty = false) (hv : P1.voidB tag.data.toList = true) : putH (.mk tag txt key attrs kids) = openH tag.data.toList attrs := by rw [putH, if_neg (by simp [h]), hv]; rfl
theorem putH_el {tag txt key : ByteArray} {attrs : List P3.At} {kids : List PT} (h : tag.toList.isEmpty = false) (hv : P1.voidB tag.data.toList = false) : putH (.mk tag txt key attrs kids) = openH tag.data.toList attrs ++ (allH kids ++ 60 :: 47 :: (tag.data.toList ++ [62])) := by
  rw [putH, if_neg (by simp [h]), hv]
  simp [openH]
end Go.Proofs.Ytbdcbjeeaebfeaa.P9

/- HTML as trees, plain: what the document's answer guesses, and that it guesses right where there is something to guess. No condition. -/
namespace Go.Proofs.Ytbdcbjeeaebfeaa.P10
open Go.RowKit Kd P4 P5 P8 P9

def bs (l : List UInt8) : ByteArray := ⟨l.toArray⟩
theorem bs_data (l : List UInt8) : (bs l).data.toList = l := by simp [bs]
theorem bs_eta (b : ByteArray) : bs b.data.toList = b := by
  apply ByteArray.ext
  simp [bs]
theorem bs_nil {b : ByteArray} (h : b.toList.isEmpty = true) : b = ⟨#[]⟩ := by
  rw [ByteArray.toList_eq, List.isEmpty_iff] at h
  apply ByteArray.ext
  apply Array.toList_inj.1
  simpa using h
/-- how many bytes stand ahead of the first of some signs -/
def untilL (s signs : List UInt8) : Nat := (s.takeWhile (fun c => !signs.contains c)).length
theorem until_le (s g : List UInt8) : untilL s g ≤ s.length := (List.takeWhile_sublist _).length_le
theorem until_nil (g : List UInt8) : untilL [] g = 0 := rfl
theorem until_yes {c : UInt8} {s g : List UInt8} (h : g.contains c = true) : untilL (c :: s) g = 0 := by rw [untilL, List.takeWhile_cons, if_neg (by rw [h]; decide)]; rfl
theorem until_no {c : UInt8} {s g : List UInt8} (h : g.contains c = false) : untilL (c :: s) g = untilL s g + 1 := by rw [untilL, List.takeWhile_cons, if_pos (by rw [h]; rfl)]; rfl
theorem until_at : ∀ {x u g : List UInt8}, (∀ c ∈ x, g.contains c = false) → Stop (fun c => !g.contains c) u → untilL (x ++ u) g = x.length
  | [], u, g, _, hu => by
    rcases hu with rfl | ⟨c, r, rfl, hc⟩
    · rfl
    · exact until_yes (by simpa using hc)
  | c :: x, u, g, hx, hu => by
    rw [List.cons_append, until_no (hx c (by simp)), until_at (fun d hd => hx d (by simp [hd])) hu]
    rfl
def unesc (l : List UInt8) : List UInt8 := (P2.getL l).getD []
theorem unesc_put (l : List UInt8) : unesc (P2.putL l) = l := by rw [unesc, P2.getL_put]; rfl
def textT (l : List UInt8) : PT := .mk ⟨#[]⟩ (bs l) ⟨#[]⟩ [] []
def elT (tag : List UInt8) (attrs : List P3.At) (kids : List PT) : PT := .mk (bs tag) ⟨#[]⟩ ⟨#[]⟩ attrs kids
/-- attributes that a text begins with, and what stands behind; none, where it ends among them -/
def attrsF : Nat → List UInt8 → List P3.At → List P3.At × Option (List UInt8)
  | 0, _, acc => (acc, none)
  | f + 1, s, acc =>
    if s.head? = some 32 then
      let n := untilL s [61]
      let nm := (s.take n).drop 1
      let r := s.drop n
      if r.length < 2 then (acc, none)
      else
        let r2 := r.drop 2
        let k := untilL r2 [34]
        let a : P3.At := ⟨bs nm, bs (unesc (r2.take k)), false⟩
        if k = r2.length then (acc ++ [a], none) else attrsF f (r2.drop (k + 1)) (acc ++ [a])
    else (acc, some s)
/-- an element that a text begins with, and what stands behind -/
def elF (g : Nat → List UInt8 → List PT × List UInt8) (d : Nat) (s : List UInt8) : PT × List UInt8 :=
  let n := untilL s [32, 62]
  let tag := (s.take n).drop 1
  let r := s.drop n
  match attrsF (r.length + 1) r [] with
  | (ats, none) => (elT tag ats [], [])
  | (ats, some []) => (elT tag ats [], [])
  | (ats, some (_ :: r2)) =>
    if P1.voidB tag then (elT tag ats [], r2)
    else
      let p := g (d + 1) r2
      if p.2.length < tag.length + 3 then (elT tag ats p.1, []) else (elT tag ats p.1, p.2.drop (tag.length + 3))
/-- trees that a text begins with -/
def gF : Nat → Nat → List UInt8 → List PT → List PT × List UInt8
  | 0, _, s, acc => (acc, s)
  | f + 1, d, s, acc =>
    if s = [] ∨ 200 < d then (acc, s)
    else if s.head? = some 60 then
      if (s.drop 1).head? = some 47 then (acc, s)
      else
        let p := elF (fun d s => gF f d s []) d s
        if s.length ≤ p.2.length then (acc ++ [p.1], []) else gF f d p.2 (acc ++ [p.1])
    else
      let n := untilL s [60]
      gF f d (s.drop n) (acc ++ [textT (unesc (s.take n))])
/-! ### How deep -/
mutual
def deepP : PT → Nat
  | .mk tag _ _ _ kids => if tag.toList.isEmpty then deepL kids else deepL kids + 1
def deepL : List PT → Nat
  | [] => 0
  | a :: l => max (deepP a) (deepL l)
end
/-! ### attributes -/
theorem attrsF_len : ∀ (f : Nat) (s : List UInt8) (acc : List P3.At) (ats : List P3.At) (r : List UInt8), attrsF f s acc = (ats, some r) → r.length ≤ s.length
  | 0, s, acc, ats, r, h => by simp [attrsF] at h
  | f + 1, s, acc, ats, r, h => by
    rw [attrsF] at h
    split at h
    · simp only at h
      split at h
      · cases h
      · split at h
        · cases h
        · have := attrsF_len f _ _ _ _ h
          simp only [List.length_drop] at this
          omega
    · cases h
      exact Nat.le_refl _
theorem attrsF_ok : ∀ (ats : List P3.At) (f : Nat) (v : List UInt8) (acc : List P3.At), (∀ a ∈ ats, P1.nameB a.nm.data.toList = true ∧ a.st = false) → ats.length < f → attrsF f (attrsH ats ++ 62 :: v) acc = (acc ++ ats, some (62 :: v))
  | [], f, v, acc, _, hf => by
    obtain ⟨f, rfl⟩ : ∃ g, f = g + 1 := ⟨f - 1, by simp at hf; omega⟩
    rw [attrsF, if_neg (by simp [attrsH])]
    simp [attrsH]
  | a :: ats, f, v, acc, ha, hf => by
    obtain ⟨f, rfl⟩ : ∃ g, f = g + 1 := ⟨f - 1, by omega⟩
    have h1 := name_in (ha a (by simp)).1
    have e : attrsH (a :: ats) ++ 62 :: v = (32 :: a.nm.data.toList) ++ (61 :: 34 :: (P2.putL a.vl.data.toList ++ (34 :: (attrsH ats ++ 62 :: v)))) := by simp [attrsH, attrH]
    rw [e]
    have u1 : untilL ((32 :: a.nm.data.toList) ++ (61 :: 34 :: (P2.putL a.vl.data.toList ++ (34 :: (attrsH ats ++ 62 :: v))))) [61] = (32 :: a.nm.data.toList).length := until_at (fun c hc => by
      rcases List.mem_cons.1 hc with rfl | hc
      · decide
      · have := (in_ne (h1.2 c hc)).2.2.1
        simpa using this) (.inr ⟨61, _, rfl, by decide⟩)
    have u2 : untilL (P2.putL a.vl.data.toList ++ (34 :: (attrsH ats ++ 62 :: v))) [34] = (P2.putL a.vl.data.toList).length := until_at (fun c hc => by
      have := (P2.putL_clean hc).2.2
      simpa using this) (.inr ⟨34, _, rfl, by decide⟩)
    rw [attrsF, if_pos (by simp), u1]
    simp only [List.take_left, List.drop_left]
    rw [if_neg (by simp)]
    simp only [List.drop_succ_cons, List.drop_zero]
    rw [u2, if_neg (by simp)]
    simp only [List.take_left]
    rw [show (P2.putL a.vl.data.toList ++ (34 :: (attrsH ats ++ 62 :: v))).drop ((P2.putL a.vl.data.toList).length + 1) = attrsH ats ++ 62 :: v by rw [← List.drop_drop, List.drop_left]; rfl]
    rw [unesc_put, bs_eta, bs_eta, attrsF_ok ats f v _ (fun b hb => ha b (by simp [hb])) (by simp at hf; omega)]
    have e2 : (⟨a.nm, a.vl, false⟩ : P3.At) = a := by rw [← (ha a (by simp)).2]
    rw [e2]
    simp
/-! ### an element -/
/-- no attribute is static, there are no keys, and texts are as in HTML -/
theorem pl_attrs {ats : List P3.At} (h1 : P3.mayA ats = true) (h2 : ats.all (fun a => !a.st) = true) : ∀ a ∈ ats, P1.nameB a.nm.data.toList = true ∧ a.st = false := fun a ha => ⟨((P3.mayA_iff.1 h1).2.1 a ha).1, by have := List.all_eq_true.1 h2 a ha; simpa using this⟩
theorem attrsH_longer : ∀ ats : List P3.At, ats.length ≤ (attrsH ats).length
  | [] => by simp
  | a :: ats => by
    have := attrsH_longer ats
    simp only [attrsH, List.flatMap_cons, attrH, List.length_append, List.length_cons] at this ⊢
    omega
theorem elF_ok {g : Nat → List UInt8 → List PT × List UInt8} {d : Nat} {tag txt key : ByteArray} {attrs : List P3.At} {kids : List PT} {u : List UInt8} (ht : tag.toList.isEmpty = false) (hm : mayP (.mk tag txt key attrs kids) = true) (hp : plT (.mk tag txt key attrs kids) = true)
    (hg : P1.voidB tag.data.toList = false → g (d + 1) (allH kids ++ 60 :: 47 :: (tag.data.toList ++ 62 :: u)) = (kids, 60 :: 47 :: (tag.data.toList ++ 62 :: u))) : elF g d (putH (.mk tag txt key attrs kids) ++ u) = (.mk tag txt key attrs kids, u) := by
  rw [mayP, if_neg (by simp [ht])] at hm
  simp only [Bool.and_eq_true] at hm
  obtain ⟨⟨⟨⟨⟨na, _⟩, ma⟩, xa⟩, va⟩, la⟩ := hm
  rw [plT, Bool.and_eq_true, Bool.and_eq_true] at hp
  obtain ⟨⟨ka, sa⟩, _⟩ := hp
  have hx := bs_nil xa
  have hk := bs_nil ka
  have nin := name_in na
  obtain ⟨v, hv, hvl⟩ : ∃ v, putH (.mk tag txt key attrs kids) ++ u = (60 :: tag.data.toList) ++ (attrsH attrs ++ 62 :: v) ∧ v = (if P1.voidB tag.data.toList then u else allH kids ++ 60 :: 47 :: (tag.data.toList ++ 62 :: u)) := by
    refine ⟨_, ?_, rfl⟩
    cases hvd : P1.voidB tag.data.toList with
    | true => rw [putH_void ht hvd]; simp [openH]
    | false => rw [putH_el ht hvd]; simp [openH]
  rw [hv]
  have st : Stop (fun c => !([32, 62] : List UInt8).contains c) (attrsH attrs ++ 62 :: v) := by
    cases attrs with
    | nil => exact .inr ⟨62, _, rfl, by decide⟩
    | cons a r => exact .inr ⟨32, _, rfl, by decide⟩
  have u1 : untilL ((60 :: tag.data.toList) ++ (attrsH attrs ++ 62 :: v)) [32, 62] = (60 :: tag.data.toList).length := until_at (fun c hc => by
    rcases List.mem_cons.1 hc with rfl | hc
    · decide
    · have := in_ne (nin.2 c hc)
      simp [this]) st
  unfold elF
  simp only [u1, List.take_left, List.drop_left, List.drop_succ_cons, List.drop_zero]
  rw [attrsF_ok attrs _ v [] (pl_attrs ma sa) (by have := attrsH_longer attrs; simp only [List.length_append, List.length_cons]; omega)]
  simp only [List.nil_append]
  have fin : elT tag.data.toList attrs kids = .mk tag txt key attrs kids := by rw [elT, bs_eta, hx, hk]
  cases hvd : P1.voidB tag.data.toList with
  | true =>
    rw [hvd] at hvl va
    have hkn : kids = [] := by simpa using va
    rw [if_pos rfl, ← fin, hkn, hvl]
    simp
  | false =>
    rw [hvd, if_neg (by simp)] at hvl
    rw [if_neg (by simp), hvl, hg hvd]
    rw [if_neg (by simp), fin]
    congr 1
    show (60 :: 47 :: (tag.data.toList ++ 62 :: u)).drop (tag.data.toList.length + 3) = u
    rw [show 60 :: 47 :: (tag.data.toList ++ 62 :: u) = (60 :: 47 :: (tag.data.toList ++ [62])) ++ u by simp, show tag.data.toList.length + 3 = (60 :: 47 :: (tag.data.toList ++ [62]) : List UInt8).length by simp, List.drop_left]
/-! ### trees -/
theorem putH_pos {t : PT} (hm : mayP t = true) (hx : t.tag.toList.isEmpty = true → t.txt.toList.isEmpty = false) : putH t ≠ [] := by
  obtain ⟨tag, txt, key, attrs, kids⟩ := t
  cases ht : tag.toList.isEmpty with
  | true =>
    rw [putH_text ht]
    refine put_ne ?_
    have := hx ht
    intro e
    have h2 : txt.toList.isEmpty = false := this
    rw [ByteArray.toList_eq, e] at h2
    cases h2
  | false => rw [putH, if_neg (by simp [ht])]; simp
theorem gF_ok : ∀ (n : Nat) (l : List PT) (f d : Nat) (e : List UInt8) (acc : List PT) (prev : Bool), countL l ≤ n → (allH l ++ e).length < f → mayL l = true → plL l prev = true → P9.Ends e → deepL l + d ≤ 200 → gF f d (allH l ++ e) acc = (acc ++ l, e) := by
  intro n
  induction n with
  | zero =>
    intro l f d e acc prev hn hf _ _ he _
    cases l with
    | cons a l => have := count_pos a; simp [countL] at hn; omega
    | nil =>
      obtain ⟨f, rfl⟩ : ∃ g, f = g + 1 := ⟨f - 1, by omega⟩
      rw [gF]
      rcases he with rfl | ⟨r, rfl⟩
      · simp [allH]
      · simp [allH]
  | succ n ih =>
    intro l f d e acc prev hn hf hm hp he hd
    cases l with
    | nil =>
      obtain ⟨f, rfl⟩ : ∃ g, f = g + 1 := ⟨f - 1, by omega⟩
      rw [gF]
      rcases he with rfl | ⟨r, rfl⟩
      · simp [allH]
      · simp [allH]
    | cons a l =>
      obtain ⟨tag, txt, key, attrs, kids⟩ := a
      obtain ⟨f, rfl⟩ : ∃ g, f = g + 1 := ⟨f - 1, by omega⟩
      rw [mayL, Bool.and_eq_true] at hm
      obtain ⟨hm1, hm2⟩ := hm
      rw [plL, Bool.and_eq_true, Bool.and_eq_true] at hp
      obtain ⟨⟨pa1, pa2⟩, pa3⟩ := hp
      have pa3 : plL l tag.toList.isEmpty = true := pa3
      have pa2 : (!tag.toList.isEmpty || (!txt.toList.isEmpty && !prev)) = true := pa2
      rw [countL, countP] at hn
      rw [deepL] at hd
      have hd1 : deepL l + d ≤ 200 := by omega
      have hd2 : deepP (.mk tag txt key attrs kids) + d ≤ 200 := by omega
      have e1 : allH (.mk tag txt key attrs kids :: l) ++ e = putH (.mk tag txt key attrs kids) ++ (allH l ++ e) := by rw [allH, List.append_assoc]
      rw [e1] at hf ⊢
      have hpos : putH (.mk tag txt key attrs kids) ≠ [] := putH_pos hm1 (fun h => by
        have h : tag.toList.isEmpty = true := h
        rw [h] at pa2
        simp at pa2
        simp [PT.txt, pa2])
      have hlen : 0 < (putH (.mk tag txt key attrs kids)).length := List.length_pos_iff.2 hpos
      have hlen2 : (allH l ++ e).length < (putH (.mk tag txt key attrs kids) ++ (allH l ++ e)).length := by
        generalize allH l ++ e = z
        rw [List.length_append]
        omega
      rw [gF, if_neg (by
        rintro (h | h)
        · exact hpos (List.append_eq_nil_iff.1 h).1
        · omega)]
      cases ht : tag.toList.isEmpty with
      | true =>
        rw [ht] at pa2 pa3
        rw [putH_text ht] at hf ⊢
        rw [putH_text ht] at hpos hlen hlen2
        have hx : txt.toList.isEmpty = false := by simp at pa2; simp [pa2]
        have st : Stop (fun c => !([60] : List UInt8).contains c) (allH l ++ e) := by
          rcases stop_behind pa3 he with h | ⟨c, r, h, hc⟩
          · exact .inl h
          · exact .inr ⟨c, r, h, by simpa using hc⟩
        have u1 : untilL (P2.putL txt.data.toList ++ (allH l ++ e)) [60] = (P2.putL txt.data.toList).length := until_at (fun c hc => by have := (P2.putL_clean hc).1; simpa using this) st
        have hh : ¬ ((P2.putL txt.data.toList ++ (allH l ++ e)).head? = some 60) := by
          intro h
          obtain ⟨c, r, hc⟩ : ∃ c r, P2.putL txt.data.toList = c :: r := by
            cases h : P2.putL txt.data.toList with
            | nil => exact absurd h hpos
            | cons c r => exact ⟨c, r, rfl⟩
          rw [hc] at h
          simp at h
          exact (P2.putL_clean (l := txt.data.toList) (by rw [hc]; simp)).1 h
        rw [if_neg hh]
        simp only [u1, List.drop_left, List.take_left, unesc_put]
        have hm1' := hm1
        rw [mayP, if_pos ht] at hm1'
        simp only [Bool.and_eq_true] at hm1'
        have hka : kids = [] := by simpa using hm1'.2
        have haa : attrs = [] := by simpa using hm1'.1.2
        have hkk := bs_nil hm1'.1.1.2
        have htt := bs_nil ht
        rw [ih l f d e _ true (by omega) (by omega) hm2 pa3 he hd1]
        rw [textT, bs_eta, hka, haa, hkk, htt]
        simp
      | false =>
        rw [ht] at pa3
        have hel : elF (fun d s => gF f d s []) d (putH (.mk tag txt key attrs kids) ++ (allH l ++ e)) = (.mk tag txt key attrs kids, allH l ++ e) := by
          refine elF_ok ht hm1 pa1 fun hvd => ?_
          have hm1' := hm1
          rw [mayP, if_neg (by simp [ht])] at hm1'
          simp only [Bool.and_eq_true] at hm1'
          have pa1' := pa1
          rw [plT, Bool.and_eq_true] at pa1'
          have hdk : deepP (.mk tag txt key attrs kids) = deepL kids + 1 := by rw [deepP, if_neg (by simp [ht])]
          rw [putH_el ht hvd] at hf
          have := ih kids f (d + 1) (60 :: 47 :: (tag.data.toList ++ 62 :: (allH l ++ e))) [] false (by omega) (by
            simp only [openH, List.length_append, List.length_cons, List.length_nil] at hf ⊢
            omega) hm1'.2 pa1'.2 (.inr ⟨_, rfl⟩) (by omega)
          rw [this]
          simp
        have hhd : (putH (.mk tag txt key attrs kids) ++ (allH l ++ e)).head? = some 60 := by rw [putH, if_neg (by simp [ht])]; rfl
        have hh2 : ¬ (((putH (.mk tag txt key attrs kids) ++ (allH l ++ e)).drop 1).head? = some 47) := by
          have hm1' := hm1
          rw [mayP, if_neg (by simp [ht])] at hm1'
          simp only [Bool.and_eq_true] at hm1'
          obtain ⟨c, r, hc, hne⟩ := tag_cons hm1'.1.1.1.1.1
          rw [putH, if_neg (by simp [ht]), hc]
          simpa using hne
        rw [if_pos hhd, if_neg hh2, hel]
        simp only
        rw [if_neg (by omega), ih l f d e _ false (by omega) (by omega) hm2 pa3 he hd1]
        simp
end Go.Proofs.Ytbdcbjeeaebfeaa.P10
