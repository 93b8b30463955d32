/- Programs as bytes, plain: what was put is got, what is got has those bytes. No condition. -/
import Derived.Lib.ConvBytes
import Derived.Deep.DeepCutAuto
import Derived.Deep.CutBlock
import Derived.Deep.RegionLaw
import Derived.Lib.SliceRun
import Derived.Deep.RegionHeld3
import Derived.Test.YthdgaoifbejpjaaM4
set_option linter.unusedVariables false
set_option linter.unusedSimpArgs false
set_option linter.unusedVariables false
set_option linter.unusedSimpArgs false
namespace Go.Proofs.Ythdgaoifbejpjaa.P12
open Go.RowKit Kd P4 P11

def bs (l : List UInt8) : ByteArray := ⟨l.toArray⟩
theorem bs_data (l : List UInt8) : (bs l).data.toList = l := by simp [bs]
theorem bs_eta (b : ByteArray) : bs b.data.toList = b := by
  apply ByteArray.ext
  simp [bs]
theorem bs_size (l : List UInt8) : (bs l).size = l.length := by show l.toArray.size = _; simp
theorem bs_nil {b : ByteArray} (h : b.toList.isEmpty = true) : b = bs [] := by
  rw [ByteArray.toList_eq, List.isEmpty_iff] at h
  rw [← h, bs_eta]
/-- how many texts an op has -/
def textsN (op : Int) : Nat := if op = 1 ∨ op = 3 ∨ op = 5 ∨ op = 6 then 2 else if op = 4 then 1 else 0
def textH (s : ByteArray) : List UInt8 := UInt8.ofNat s.size :: s.data.toList
def byteOf (op : Int) : UInt8 := UInt8.ofNat op.toNat
def insH (i : In) : List UInt8 := byteOf i.op :: ((if 0 < textsN i.op then textH i.a else []) ++ (if 1 < textsN i.op then textH i.b else []))
def putI (l : List In) : List UInt8 := l.flatMap insH
/-- a text that bytes begin with, and what stands behind -/
def cut1 : List UInt8 → Option (List UInt8 × List UInt8)
  | [] => none
  | k :: r => if r.length < k.toNat then none else some (r.take k.toNat, r.drop k.toNat)
def candI (c : UInt8) (r : List UInt8) : Option (In × List UInt8) :=
  if textsN c.toNat = 0 then some (⟨c.toNat, bs [], bs []⟩, r)
  else match cut1 r with
    | none => none
    | some (t, r1) =>
      if textsN c.toNat = 1 then some (⟨c.toNat, bs t, bs []⟩, r1)
      else match cut1 r1 with
        | none => none
        | some (u, r2) => some (⟨c.toNat, bs t, bs u⟩, r2)
/-- the instruction that bytes begin with, and what stands behind -/
def oneP : List UInt8 → Option (In × List UInt8)
  | [] => none
  | c :: r => match candI c r with
    | none => none
    | some (i, r1) => if mayI i then some (i, r1) else none
def getI : Nat → List UInt8 → List In → List In × Nat
  | 0, _, acc => (acc, 0)
  | f + 1, b, acc =>
    if b = [] then (acc, 0)
    else match oneP b with
      | none => ([], 7)
      | some (i, r) => if acc.length = 120 then ([], 13) else getI f r (acc ++ [i])
def getP (b : List UInt8) : List In × Nat := getI (b.length + 1) b []
/-! ### What may be is small -/
theorem nameB_len {l : List UInt8} (h : P1.nameB l = true) : l.length ≤ 60 := by
  cases l with
  | nil => simp
  | cons c r =>
    simp only [P1.nameB, Bool.and_eq_true, decide_eq_true_eq] at h
    simp
    omega
theorem textB_len {l : List UInt8} (h : P1.textB l = true) : l.length ≤ 60 := by
  simp only [P1.textB, Bool.and_eq_true, decide_eq_true_eq] at h
  omega
theorem voidB_len {l : List UInt8} (h : P1.voidB l = true) : l.length ≤ 60 := by
  simp only [P1.voidB, Bool.or_eq_true, beq_iff_eq] at h
  rcases h with ((rfl | rfl) | rfl) | rfl <;> decide
theorem len_size (b : ByteArray) : b.data.toList.length = b.size := by simp
theorem may_small {i : In} (h : mayI i = true) : i.a.size ≤ 60 ∧ i.b.size ≤ 60 ∧ 1 ≤ i.op ∧ i.op ≤ 8 ∧ (textsN i.op = 0 → i.a = bs [] ∧ i.b = bs []) ∧ (textsN i.op = 1 → i.b = bs []) := by
  obtain ⟨op, a, b⟩ := i
  unfold mayI at h
  simp only at h ⊢
  have ea := len_size a
  have eb := len_size b
  have nil_size : ∀ {x : ByteArray}, x.toList.isEmpty = true → x.size ≤ 60 := fun {x} hx => by rw [bs_nil hx, bs_size]; simp
  by_cases h1 : op = 1
  · subst h1
    rw [if_pos rfl] at h
    simp only [Bool.and_eq_true] at h
    have := nameB_len h.1.1
    have := textB_len h.2
    refine ⟨by omega, by omega, by omega, by omega, fun e => by simp [textsN] at e, fun e => by simp [textsN] at e⟩
  rw [if_neg h1] at h
  by_cases h3 : op = 3
  · subst h3
    rw [if_pos rfl] at h
    simp only [Bool.and_eq_true] at h
    have := voidB_len h.1
    have := textB_len h.2
    refine ⟨by omega, by omega, by omega, by omega, fun e => by simp [textsN] at e, fun e => by simp [textsN] at e⟩
  rw [if_neg h3] at h
  by_cases h4 : op = 4
  · subst h4
    rw [if_pos rfl] at h
    simp only [Bool.and_eq_true] at h
    have := textB_len h.1
    have := nil_size h.2
    refine ⟨by omega, by omega, by omega, by omega, fun e => by simp [textsN] at e, fun _ => bs_nil h.2⟩
  rw [if_neg h4] at h
  by_cases h5 : op = 5 ∨ op = 6
  · rw [if_pos h5] at h
    simp only [Bool.and_eq_true] at h
    have := nameB_len h.1
    have := textB_len h.2
    refine ⟨by omega, by omega, by omega, by omega, fun e => ?_, fun e => ?_⟩
    · rcases h5 with rfl | rfl <;> simp [textsN] at e
    · rcases h5 with rfl | rfl <;> simp [textsN] at e
  rw [if_neg h5] at h
  by_cases h2 : op = 2 ∨ op = 7 ∨ op = 8
  · rw [if_pos h2] at h
    simp only [Bool.and_eq_true] at h
    have := nil_size h.1
    have := nil_size h.2
    refine ⟨by omega, by omega, by omega, by omega, fun _ => ⟨bs_nil h.1, bs_nil h.2⟩, fun e => ?_⟩
    rcases h2 with rfl | rfl | rfl <;> simp [textsN] at e
  rw [if_neg h2] at h
  cases h
theorem textsN_cases (op : Int) : textsN op = 0 ∨ textsN op = 1 ∨ textsN op = 2 := by
  unfold textsN
  split
  · exact .inr (.inr rfl)
  · split
    · exact .inr (.inl rfl)
    · exact .inl rfl
theorem byte_size {s : ByteArray} (h : s.size ≤ 255) : (UInt8.ofNat s.size).toNat = s.size := by simp; omega
theorem cut_text {s : ByteArray} {r : List UInt8} (h : s.size ≤ 255) : cut1 (textH s ++ r) = some (s.data.toList, r) := by
  rw [textH, List.cons_append, cut1, byte_size h, if_neg (by simp)]
  rw [← len_size s, List.take_left, List.drop_left]
theorem byteOf_nat {op : Int} (h1 : 1 ≤ op) (h8 : op ≤ 8) : ((byteOf op).toNat : Int) = op := by
  unfold byteOf
  simp
  omega
theorem one_put {i : In} {r : List UInt8} (h : mayI i = true) : oneP (insH i ++ r) = some (i, r) := by
  obtain ⟨h1, h2, h3, h4, h5, h6⟩ := may_small h
  have hb := byteOf_nat h3 h4
  have ha : cut1 (textH i.a ++ r) = some (i.a.data.toList, r) := cut_text (by omega)
  have key : candI (byteOf i.op) (((if 0 < textsN i.op then textH i.a else []) ++ (if 1 < textsN i.op then textH i.b else [])) ++ r) = some (i, r) := by
    unfold candI
    rw [hb]
    rcases textsN_cases i.op with e | e | e
    · rw [e, if_pos rfl, if_neg (by decide), if_neg (by decide)]
      obtain ⟨e1, e2⟩ := h5 e
      obtain ⟨op, a, b⟩ := i
      simp only at e1 e2
      rw [e1, e2]
      rfl
    · rw [e, if_neg (by decide), if_pos (by decide), if_neg (by decide), List.append_nil, ha]
      have e2 := h6 e
      obtain ⟨op, a, b⟩ := i
      simp only at e2 ⊢
      rw [e2, bs_eta]
      rfl
    · rw [e, if_neg (by decide), if_pos (by decide), if_pos (by decide), List.append_assoc, cut_text (by omega)]
      simp only
      rw [if_neg (by decide), cut_text (by omega)]
      simp only
      rw [bs_eta, bs_eta]
  rw [insH, List.cons_append, oneP, key]
  simp only
  rw [if_pos h]
theorem insH_pos (i : In) : 1 ≤ (insH i).length := by simp [insH]
theorem putI_cons (i : In) (l : List In) : putI (i :: l) = insH i ++ putI l := rfl
theorem get_put : ∀ (l : List In) (f : Nat) (acc : List In), (∀ i ∈ l, mayI i = true) → acc.length + l.length ≤ 120 → (putI l).length < f → getI f (putI l) acc = (acc ++ l, 0)
  | [], f, acc, _, _, hf => by
    obtain ⟨f, rfl⟩ : ∃ g, f = g + 1 := ⟨f - 1, by omega⟩
    rw [getI, if_pos (by simp [putI])]
    simp
  | i :: l, f, acc, hm, hl, hf => by
    obtain ⟨f, rfl⟩ : ∃ g, f = g + 1 := ⟨f - 1, by omega⟩
    have hp := insH_pos i
    rw [putI_cons, List.length_append] at hf
    rw [getI, putI_cons, if_neg (by intro e; have := congrArg List.length e; rw [List.length_append, List.length_nil] at this; omega), one_put (hm i (by simp))]
    simp only [List.length_cons] at hl ⊢
    rw [if_neg (by omega), get_put l f (acc ++ [i]) (fun k hk => hm k (by simp [hk])) (by simp; omega) (by omega)]
    simp
theorem get_many : ∀ (l : List In) (f : Nat) (acc : List In), (∀ i ∈ l, mayI i = true) → acc.length ≤ 120 → 120 < acc.length + l.length → (putI l).length < f → getI f (putI l) acc = ([], 13)
  | [], f, acc, _, h1, h2, hf => by simp at h2; omega
  | i :: l, f, acc, hm, h1, h2, hf => by
    obtain ⟨f, rfl⟩ : ∃ g, f = g + 1 := ⟨f - 1, by omega⟩
    have hp := insH_pos i
    rw [putI_cons, List.length_append] at hf
    rw [getI, putI_cons, if_neg (by intro e; have := congrArg List.length e; rw [List.length_append, List.length_nil] at this; omega), one_put (hm i (by simp))]
    simp only [List.length_cons] at h2 ⊢
    by_cases he : acc.length = 120
    · rw [if_pos he]
    · rw [if_neg he, get_many l f (acc ++ [i]) (fun k hk => hm k (by simp [hk])) (by simp; omega) (by simp; omega) (by omega)]
theorem cut_back {b t r : List UInt8} (h : cut1 b = some (t, r)) : b = textH (bs t) ++ r ∧ t.length ≤ 255 := by
  cases b with
  | nil => cases h
  | cons k s =>
    rw [cut1] at h
    split at h
    · cases h
    · injection h with h
      injection h with e1 e2
      have hk := k.toNat_lt
      have hl : t.length = k.toNat := by rw [← e1, List.length_take]; omega
      refine ⟨?_, by omega⟩
      rw [textH, bs_data, bs_size, hl, List.cons_append, ← e1, ← e2, List.take_append_drop]
      simp
theorem one_back {b : List UInt8} {i : In} {r : List UInt8} (h : oneP b = some (i, r)) : b = insH i ++ r ∧ mayI i = true := by
  cases b with
  | nil => cases h
  | cons c s =>
    rw [oneP] at h
    have hb : ∀ n : Nat, n = c.toNat → byteOf (n : Int) = c := fun n hn => by subst hn; unfold byteOf; simp
    cases hc : candI c s with
    | none => rw [hc] at h; cases h
    | some p =>
      obtain ⟨j, r1⟩ := p
      rw [hc] at h
      simp only at h
      split at h
      · rename_i hm
        injection h with h
        injection h with e1 e2
        subst e1; subst e2
        refine ⟨?_, hm⟩
        unfold candI at hc
        split at hc
        · rename_i e
          injection hc with hc
          injection hc with e1 e2
          subst e2
          rw [← e1, insH]
          simp only
          rw [e, if_neg (by decide), if_neg (by decide), hb _ rfl]
          rfl
        · rename_i e0
          cases h1 : cut1 s with
          | none => rw [h1] at hc; cases hc
          | some q =>
            obtain ⟨t, r2⟩ := q
            rw [h1] at hc
            simp only at hc
            obtain ⟨g1, _⟩ := cut_back h1
            split at hc
            · rename_i e
              injection hc with hc
              injection hc with e1 e2
              subst e2
              rw [← e1, insH]
              simp only
              rw [e, if_pos (by decide), if_neg (by decide), hb _ rfl, List.append_nil, List.cons_append, ← g1]
            · rename_i e1'
              have e2' : textsN (c.toNat : Int) = 2 := by
                rcases textsN_cases (c.toNat : Int) with e | e | e
                · exact absurd e e0
                · exact absurd e e1'
                · exact e
              cases h2 : cut1 r2 with
              | none => rw [h2] at hc; cases hc
              | some q2 =>
                obtain ⟨u, r3⟩ := q2
                rw [h2] at hc
                simp only at hc
                obtain ⟨g2, _⟩ := cut_back h2
                injection hc with hc
                injection hc with e1 e2
                subst e2
                rw [← e1, insH]
                simp only
                rw [e2', if_pos (by decide), if_pos (by decide), hb _ rfl, List.cons_append, List.append_assoc, ← g2, ← g1]
      · cases h
theorem get_back : ∀ (f : Nat) (b : List UInt8) (acc l : List In), getI f b acc = (l, 0) → b.length < f → acc.length ≤ 120 → ∃ m, l = acc ++ m ∧ putI m = b ∧ (∀ i ∈ m, mayI i = true) ∧ l.length ≤ 120
  | 0, b, acc, l, _, hf, _ => by omega
  | f + 1, b, acc, l, h, hf, ha => by
    rw [getI] at h
    split at h
    · rename_i hb
      injection h with h _
      subst h
      exact ⟨[], by simp, by rw [hb]; rfl, (by intro i hi; cases hi), ha⟩
    · cases ho : oneP b with
      | none => rw [ho] at h; simp at h
      | some p =>
        obtain ⟨i, r⟩ := p
        rw [ho] at h
        simp only at h
        obtain ⟨g1, g2⟩ := one_back ho
        have hp := insH_pos i
        have hl := congrArg List.length g1
        rw [List.length_append] at hl
        split at h
        · simp at h
        · rename_i hne
          obtain ⟨m, e1, e2, e3, e4⟩ := get_back f r (acc ++ [i]) l h (by omega) (by simp; omega)
          refine ⟨i :: m, by rw [e1]; simp, by rw [putI_cons, e2, ← g1], ?_, e4⟩
          intro k hk
          rcases List.mem_cons.1 hk with rfl | hk
          · exact g2
          · exact e3 k hk
theorem getI_code : ∀ (f : Nat) (b : List UInt8) (acc : List In), (getI f b acc).2 = 0 ∨ getI f b acc = ([], 7) ∨ getI f b acc = ([], 13)
  | 0, _, _ => .inl rfl
  | f + 1, b, acc => by
    rw [getI]
    split
    · exact .inl rfl
    · cases oneP b with
      | none => exact .inr (.inl rfl)
      | some p =>
        simp only
        split
        · exact .inr (.inr rfl)
        · exact getI_code f _ _
end Go.Proofs.Ythdgaoifbejpjaa.P12

/- What placketref11.texts, text and Put answer. No condition but those stated. -/
set_option linter.unusedVariables false
set_option linter.unusedSimpArgs false
namespace Go.Proofs.Ythdgaoifbejpjaa.P12
open Go.RowKit Kd P4 P11

theorem infoB : (Try.prog.info? 5).map (fun i => (i.zero, i.size, i.bytes)) = some (some (.int .u8 0), 1, 1) := by kernel_rfl
theorem bytes_below (w : World) (s : ByteArray) : Below w.heap.size w (Lib.bytesWorld w 5 s) :=
  ⟨by simp [Lib.bytesWorld, World.freeze]; rfl, by simp [Lib.bytesWorld, World.freeze], by simp [Lib.bytesWorld, World.freeze]; rfl, by rw [Lib.bytesWorld_size]; omega, fun k hk => Lib.bytesWorld_at_old w _ s k hk⟩
end Go.Proofs.Ythdgaoifbejpjaa.P12

/- A slice of instructions, and a slice of bytes, opened out of arguments. No condition. -/
set_option linter.unusedVariables false
set_option linter.unusedSimpArgs false
namespace Go.Proofs.Ythdgaoifbejpjaa.P12
open Go.RowKit Go.ChangeShapes Go.WideShapes Go.Deep Kd P4 P11

theorem cellsU8 : Try.prog.cellsOf 5 = 1 := by kernel_rfl
set_option maxRecDepth 100000 in
theorem open_inss {H : Type} {enc : TypeId × Value → H} {w : World} {v : Value} {d : DataW H} {p : List MemPlace} {base : Nat}
    (hv : Value.okWide Try.prog w .any base 22 v) (h : DataW.Trod enc Try.prog w 0 (fun _ => true) true 22 v d p) :
    ∃ A n c l, v = .slice A n c ∧ l.length = n ∧ n ≤ c ∧ c ≤ maxLen ∧ (∀ a ∈ l, a.a.size ≤ maxLen ∧ a.b.size ≤ maxLen) ∧ kX.Holds w w.heap.size A l :=
  kX.open_ (base := base) (⟨0, ⟨#[]⟩, ⟨#[]⟩⟩ : In) (fun a => a.a.size ≤ maxLen ∧ a.b.size ≤ maxLen) cellsX (fun fuel cs x h hl => open_ins_cells fuel cs x h hl) hv h
set_option maxRecDepth 100000 in
/-- a nil slice that is handed in has no room -/
theorem nil_room {H : Type} {enc : TypeId × Value → H} {w : World} {t e : TypeId} (ht : Try.prog.underlying t = some (.slice e)) {n c : Nat} {d : DataW H} {p : List MemPlace}
    (h : DataW.Trod enc Try.prog w 0 (fun _ => true) true t (.slice none n c) d p) : c = 0 := by
  obtain ⟨fuel, hf⟩ := h
  rcases DataW.trod_slice ht hf with ⟨hcs, _⟩ | ⟨ad, len, cap, elems, rest, m, hfu, hcs, _⟩
  · have e : n = 0 ∧ c = 0 := by simpa [Value.cells] using hcs
    exact e.2
  · exact absurd hcs (by simp [Value.cells])
end Go.Proofs.Ythdgaoifbejpjaa.P12

/- What find tells of an arena's slots (of *placket/api.Node): the place of an identity, and whether it is there. -/
set_option linter.unusedVariables false
set_option linter.unusedSimpArgs false
namespace Go.Proofs.Ythdgaoifbejpjaa.P4
open Go.RowKit Kd

def SearchP (w : World) (l : List (Sl Nat)) (t : Int) (e : Ending) (w' : World) : Prop :=
  e = .returned (.tuple #[.int .i64 (posA l t), .bool (hasA l t)]) ∧ Below w.heap.size w w'

section
variable {w w' : World} {B p R : Nat} {n : Int} {v : Value} {l : List (Sl Nat)}
end

end Go.Proofs.Ythdgaoifbejpjaa.P4

/- slices.Delete of one slot, slices.Clone of slots (of *placket/api.Node). -/
set_option linter.unusedVariables false
set_option linter.unusedSimpArgs false
namespace Go.Proofs.Ythdgaoifbejpjaa.P4
open Go.RowKit Kd

/-- the block behind a delete: what stood ahead, what stood behind -/
theorem del_row {cur c1 c2 : Array Value} {xs news zs : List Value} {a m s : Nat} (h : cur.toList.take ((a + 1 + m) * s) = xs) (hs : (a + 1 + m) * s ≤ cur.size) (hn : news = xs.drop ((a + 1) * s)) (hz : zs.length = s)
    (e1 : c1.size = cur.size) (h1 : ∀ k, k < cur.size → c1[k]? = if a * s ≤ k ∧ k < a * s + news.length then news[k - a * s]? else cur[k]?)
    (e2 : c2.size = c1.size) (h2 : ∀ k, k < c1.size → c2[k]? = if (a + m) * s ≤ k ∧ k < (a + m) * s + zs.length then zs[k - (a + m) * s]? else c1[k]?) :
    c2.toList.take ((a + m) * s) = xs.take (a * s) ++ news := by
  have d1 : (a + 1 + m) * s = a * s + s + m * s := by rw [Nat.add_mul, Nat.add_mul, Nat.one_mul]
  have d2 : (a + m) * s = a * s + m * s := Nat.add_mul _ _ _
  have d3 : (a + 1) * s = a * s + s := by rw [Nat.add_mul, Nat.one_mul]
  have hxl : xs.length = a * s + s + m * s := by rw [← h, List.length_take, Array.length_toList]; omega
  have hnl : news.length = m * s := by rw [hn, List.length_drop]; omega
  have hx : ∀ k, k < xs.length → xs[k]? = cur[k]? := by
    intro k hk
    rw [← h, List.getElem?_take, if_pos (by omega), Array.getElem?_toList]
  apply List.ext_getElem?
  intro k
  rw [List.getElem?_take]
  by_cases hk : k < (a + m) * s
  · rw [if_pos hk, Array.getElem?_toList, h2 k (by omega), if_neg (by omega), h1 k (by omega)]
    by_cases hka : k < a * s
    · rw [if_neg (by omega), List.getElem?_append_left (by rw [List.length_take]; omega), List.getElem?_take, if_pos hka, hx k (by omega)]
    · have hta : (xs.take (a * s)).length = a * s := by rw [List.length_take]; omega
      rw [if_pos (by omega), List.getElem?_append_right (by omega), hta]
  · rw [if_neg hk, List.getElem?_eq_none]
    rw [List.length_append, List.length_take]
    omega

end Go.Proofs.Ythdgaoifbejpjaa.P4

/- What an arena's calls answer (of *placket/api.Node), and what they leave. -/
set_option linter.unusedVariables false
set_option linter.unusedSimpArgs false
namespace Go.Proofs.Ythdgaoifbejpjaa.P4
open Go.RowKit Kd

/-! ### New -/
/-! ### Live, Next, Room -/
section
variable {B p R : Nat} {n : Int} {v : Value} {l : List (Sl Nat)}
/-! ### Put -/
end
end Go.Proofs.Ythdgaoifbejpjaa.P4

/- What an arena's Get, Set and Drop answer (of *placket/api.Node), and what they leave. -/
set_option linter.unusedVariables false
set_option linter.unusedSimpArgs false
namespace Go.Proofs.Ythdgaoifbejpjaa.P4
open Go.RowKit Kd
variable {B p R : Nat} {n : Int} {v : Value} {l : List (Sl Nat)}

/-! ### Get -/
/-! ### Set -/
/-! ### Drop -/
end Go.Proofs.Ythdgaoifbejpjaa.P4

/- An arena's Clone: another one, of the same slots, whose memory is all new. -/
set_option linter.unusedVariables false
set_option linter.unusedSimpArgs false
namespace Go.Proofs.Ythdgaoifbejpjaa.P4
open Go.RowKit Kd
variable {B p R : Nat} {n : Int} {v : Value} {l : List (Sl Nat)}

end Go.Proofs.Ythdgaoifbejpjaa.P4

/- Trees told by functions: who is there, whose parent is who, whose children are who; leaving, coming, going; all below one. No condition. -/
set_option linter.unusedVariables false
set_option linter.unusedSimpArgs false
namespace Go.Proofs.Ythdgaoifbejpjaa.P5

/-- k steps up -/
def it (P : Int → Int) : Nat → Int → Int
  | 0, y => y
  | k + 1, y => it P k (P y)
theorem it_succ (P : Int → Int) : ∀ (k : Nat) (y : Int), it P (k + 1) y = P (it P k y)
  | 0, _ => rfl
  | k + 1, y => it_succ P k (P y)
theorem it_add (P : Int → Int) : ∀ (j k : Nat) (y : Int), it P (j + k) y = it P k (it P j y)
  | 0, k, y => by rw [Nat.zero_add]; rfl
  | j + 1, k, y => by rw [show j + 1 + k = (j + k) + 1 by omega]; exact it_add P j k (P y)

structure Tr (H : Int → Prop) (P : Int → Int) (K : Int → List Int) : Prop where
  z : ¬ H 0
  p0 : ∀ y, ¬ H y → P y = 0
  kid : ∀ x c, c ∈ K x → H x ∧ H c ∧ P c = x
  par : ∀ y, P y ≠ 0 → y ∈ K (P y)
  nod : ∀ x, (K x).Nodup
  acy : ∀ y, ∃ k, it P k y = 0

theorem nodup_len : ∀ (xs L : List Int), xs.Nodup → (∀ x ∈ xs, x ∈ L) → xs.length ≤ L.length
  | [], _, _, _ => by simp
  | x :: r, L, hn, hs => by
    have hx : x ∈ L := hs x (by simp)
    obtain ⟨h1, h2⟩ := List.nodup_cons.1 hn
    have := nodup_len r (L.erase x) h2 (fun y hy => (List.mem_erase_of_ne (by rintro rfl; exact h1 hy)).2 (hs y (by simp [hy])))
    rw [List.length_erase_of_mem hx] at this
    have hp : 0 < L.length := List.length_pos_of_mem hx
    simp only [List.length_cons]
    omega

section
variable {H : Int → Prop} {P : Int → Int} {K : Int → List Int}
theorem Tr.zero (h : Tr H P K) : P 0 = 0 := h.p0 0 h.z
theorem Tr.it0 (h : Tr H P K) : ∀ k, it P k 0 = 0
  | 0 => rfl
  | k + 1 => by show it P k (P 0) = 0; rw [h.zero]; exact h.it0 k
theorem Tr.it_ge (h : Tr H P K) {k j : Nat} {y : Int} (hk : it P k y = 0) (hj : k ≤ j) : it P j y = 0 := by
  obtain ⟨d, rfl⟩ := Nat.exists_eq_add_of_le hj
  rw [it_add, hk, h.it0]
theorem Tr.ne0 (h : Tr H P K) {y : Int} (hy : H y) : y ≠ 0 := fun e => h.z (e ▸ hy)
theorem Tr.hpar (h : Tr H P K) {y : Int} (hy : P y ≠ 0) : H (P y) := (h.kid _ _ (h.par y hy)).1
theorem Tr.h_of (h : Tr H P K) {y : Int} (hy : P y ≠ 0) : H y := (h.kid _ _ (h.par y hy)).2.1
theorem Tr.k0 (h : Tr H P K) {x : Int} (hx : ¬ H x) : K x = [] := by
  cases e : K x with
  | nil => rfl
  | cons c r => exact absurd (h.kid x c (by rw [e]; simp)).1 hx
theorem Tr.h_it (h : Tr H P K) {y : Int} (hy : H y) : ∀ i, it P i y ≠ 0 → H (it P i y)
  | 0, _ => hy
  | i + 1, hi => by rw [it_succ] at hi ⊢; exact h.hpar hi

/-- the first step at which nothing is above -/
def Dep (P : Int → Int) (y : Int) (k : Nat) : Prop := it P k y = 0 ∧ ∀ i, i < k → it P i y ≠ 0
theorem dep_of (P : Int → Int) : ∀ (k : Nat) (y : Int), it P k y = 0 → ∃ j, j ≤ k ∧ Dep P y j
  | 0, y, h => ⟨0, Nat.le_refl _, h, fun i hi => absurd hi (by omega)⟩
  | k + 1, y, h => by
    by_cases hy : y = 0
    · exact ⟨0, by omega, hy, fun i hi => absurd hi (by omega)⟩
    · obtain ⟨j, hj, h1, h2⟩ := dep_of P k (P y) h
      refine ⟨j + 1, by omega, h1, fun i hi => ?_⟩
      cases i with
      | zero => exact hy
      | succ i => exact h2 i (by omega)
theorem Tr.dep (h : Tr H P K) (y : Int) : ∃ k, Dep P y k := by
  obtain ⟨k, hk⟩ := h.acy y
  obtain ⟨j, _, hj⟩ := dep_of P k y hk
  exact ⟨j, hj⟩
theorem Tr.dep_inj (h : Tr H P K) {y : Int} {k : Nat} (hd : Dep P y k) {i j : Nat} (hij : i < j) (hj : j < k) : it P i y ≠ it P j y := by
  intro e
  have e2 : it P (i + (k - j)) y = it P (j + (k - j)) y := by rw [it_add, it_add, e]
  rw [show j + (k - j) = k by omega, hd.1] at e2
  exact hd.2 _ (by omega) e2
theorem Tr.dep_le (h : Tr H P K) {L : List Int} (hL : ∀ y, H y → y ∈ L) {y : Int} (hy : H y) {k : Nat} (hd : Dep P y k) : k ≤ L.length := by
  have := nodup_len ((List.range k).map fun i => it P i y) L ?_ ?_
  · simpa using this
  · rw [List.Nodup, List.pairwise_map]
    refine List.Pairwise.imp_of_mem ?_ List.pairwise_lt_range
    intro i j hi hj hij
    exact h.dep_inj hd hij (List.mem_range.1 hj)
  · intro x hx
    obtain ⟨i, hi, rfl⟩ := List.mem_map.1 hx
    exact hL _ (h.h_it hy i (hd.2 i (List.mem_range.1 hi)))
theorem Dep.kid {c y : Int} {k : Nat} (hc : c ≠ 0) (hp : P c = y) (hd : Dep P y k) : Dep P c (k + 1) := by
  subst hp
  refine ⟨hd.1, fun i hi => ?_⟩
  cases i with
  | zero => exact hc
  | succ i => exact hd.2 i (by omega)

/-! ### Leaving, coming, going -/
def setF {α : Type} (F : Int → α) (i : Int) (v : α) (y : Int) : α := if y = i then v else F y
theorem setF_same {α : Type} (F : Int → α) (i : Int) (v : α) : setF F i v i = v := by simp [setF]
theorem setF_ne {α : Type} (F : Int → α) {i y : Int} (v : α) (h : y ≠ i) : setF F i v y = F y := by simp [setF, h]
theorem acy_to (P Q : Int → Int) (i : Int) (hi : ∃ k, it Q k i = 0) (hQ : ∀ y, y ≠ i → Q y = P y) : ∀ (k : Nat) (y : Int), it P k y = 0 → ∃ j, it Q j y = 0
  | 0, y, h => ⟨0, h⟩
  | k + 1, y, h => by
    by_cases e : y = i
    · subst e; exact hi
    · obtain ⟨j, hj⟩ := acy_to P Q i hi hQ k (P y) h
      exact ⟨j + 1, by show it Q j (Q y) = 0; rw [hQ y e]; exact hj⟩
theorem Tr.leave (h : Tr H P K) (i : Int) : Tr H (setF P i 0) (setF K (P i) ((K (P i)).filter fun c => decide (c ≠ i))) := by
  have key : ∀ x c, c ∈ setF K (P i) ((K (P i)).filter fun c => decide (c ≠ i)) x ↔ c ∈ K x ∧ c ≠ i := by
    intro x c
    by_cases e : x = P i
    · subst e; rw [setF_same]; simp
    · rw [setF_ne _ _ e]
      refine ⟨fun hc => ⟨hc, ?_⟩, fun hc => hc.1⟩
      rintro rfl
      exact e (h.kid _ _ hc).2.2.symm
  refine ⟨h.z, fun y hy => ?_, fun x c hc => ?_, fun y hy => ?_, fun x => ?_, fun y => ?_⟩
  · by_cases e : y = i
    · subst e; rw [setF_same]
    · rw [setF_ne _ _ e]; exact h.p0 y hy
  · obtain ⟨h1, h2⟩ := (key x c).1 hc
    obtain ⟨a, b, d⟩ := h.kid x c h1
    exact ⟨a, b, by rw [setF_ne _ _ h2]; exact d⟩
  · by_cases e : y = i
    · subst e; rw [setF_same] at hy; exact absurd rfl hy
    · rw [setF_ne _ _ e] at hy ⊢
      exact (key _ _).2 ⟨h.par y hy, e⟩
  · by_cases e : x = P i
    · subst e; rw [setF_same]; exact (h.nod _).filter _
    · rw [setF_ne _ _ e]; exact h.nod x
  · obtain ⟨k, hk⟩ := h.acy y
    refine acy_to P _ i ⟨1, ?_⟩ (fun z hz => setF_ne _ _ hz) k y hk
    show setF P i 0 i = 0
    exact setF_same _ _ _
theorem Tr.come (h : Tr H P K) {i p : Int} (hi : H i) (hp : H p) (h0 : P i = 0) (hno : ∀ j, it P j p ≠ i) {L : List Int} (hL : ∀ c, c ∈ L ↔ c = i ∨ c ∈ K p) (hn : L.Nodup) : Tr H (setF P i p) (setF K p L) := by
  have hp0 := h.ne0 hp
  refine ⟨h.z, fun y hy => ?_, fun x c hc => ?_, fun y hy => ?_, fun x => ?_, fun y => ?_⟩
  · by_cases e : y = i
    · subst e; exact absurd hi hy
    · rw [setF_ne _ _ e]; exact h.p0 y hy
  · by_cases e : x = p
    · subst e
      rw [setF_same] at hc
      rcases (hL c).1 hc with rfl | hc
      · exact ⟨hp, hi, setF_same _ _ _⟩
      · obtain ⟨a, b, d⟩ := h.kid x c hc
        exact ⟨a, b, by rw [setF_ne _ _ (by rintro rfl; exact hp0 (d.symm.trans h0))]; exact d⟩
    · rw [setF_ne _ _ e] at hc
      obtain ⟨a, b, d⟩ := h.kid x c hc
      exact ⟨a, b, by rw [setF_ne _ _ (by rintro rfl; rw [h0] at d; subst d; exact h.z a)]; exact d⟩
  · by_cases e : y = i
    · subst e; rw [setF_same, setF_same]; exact (hL y).2 (.inl rfl)
    · rw [setF_ne _ _ e] at hy ⊢
      have := h.par y hy
      by_cases e2 : P y = p
      · rw [e2, setF_same]; exact (hL y).2 (.inr (e2 ▸ this))
      · rw [setF_ne _ _ e2]; exact this
  · by_cases e : x = p
    · subst e; rw [setF_same]; exact hn
    · rw [setF_ne _ _ e]; exact h.nod x
  · have same : ∀ j, it (setF P i p) j p = it P j p := by
      intro j
      induction j with
      | zero => rfl
      | succ j ih => rw [it_succ, it_succ, ih, setF_ne _ _ (hno j)]
    obtain ⟨kp, hkp⟩ := h.acy p
    obtain ⟨k, hk⟩ := h.acy y
    refine acy_to P _ i ⟨kp + 1, ?_⟩ (fun z hz => setF_ne _ _ hz) k y hk
    show it (setF P i p) kp (setF P i p i) = 0
    rw [setF_same, same]; exact hkp
theorem Tr.go (h : Tr H P K) {i : Int} (S : Int → Prop) (h0 : P i = 0) (hk : ∀ x c, S x → c ∈ K x → S c) (hp : ∀ c, S c → c ≠ i → S (P c))
    {P' : Int → Int} {K' : Int → List Int} (hP1 : ∀ y, S y → P' y = 0) (hP2 : ∀ y, ¬ S y → P' y = P y) (hK1 : ∀ y, S y → K' y = []) (hK2 : ∀ y, ¬ S y → K' y = K y) : Tr (fun y => H y ∧ ¬ S y) P' K' := by
  have dec : ∀ y, S y ∨ ¬ S y := fun y => Classical.em _
  refine ⟨fun h1 => h.z h1.1, fun y hy => ?_, fun x c hc => ?_, fun y hy => ?_, fun x => ?_, fun y => ?_⟩
  · rcases dec y with e | e
    · exact hP1 y e
    · rw [hP2 y e]; exact h.p0 y (fun hh => hy ⟨hh, e⟩)
  · rcases dec x with e | e
    · rw [hK1 x e] at hc; simp at hc
    · rw [hK2 x e] at hc
      obtain ⟨a, b, d⟩ := h.kid x c hc
      have hs : ¬ S c := by
        intro hs
        by_cases e2 : c = i
        · subst e2; rw [h0] at d; subst d; exact h.z a
        · exact e (d ▸ hp c hs e2)
      exact ⟨⟨a, e⟩, ⟨b, hs⟩, by rw [hP2 c hs]; exact d⟩
  · rcases dec y with e | e
    · exact absurd (hP1 y e) hy
    · rw [hP2 y e] at hy ⊢
      have hm := h.par y hy
      have : ¬ S (P y) := fun hs => e (hk _ _ hs hm)
      rw [hK2 _ this]; exact hm
  · rcases dec x with e | e
    · rw [hK1 x e]; exact List.nodup_nil
    · rw [hK2 x e]; exact h.nod x
  · have : ∀ (k : Nat) (y : Int), it P k y = 0 → ∃ j, it P' j y = 0 := by
      intro k
      induction k with
      | zero => exact fun y hy => ⟨0, hy⟩
      | succ k ih =>
        intro y hy
        rcases dec y with e | e
        · exact ⟨1, hP1 y e⟩
        · obtain ⟨j, hj⟩ := ih (P y) hy
          exact ⟨j + 1, by show it P' j (P' y) = 0; rw [hP2 y e]; exact hj⟩
    obtain ⟨k, hk'⟩ := h.acy y
    exact this k y hk'

/-! ### All below one -/
def sub (K : Int → List Int) : Nat → Int → List Int
  | 0, _ => []
  | f + 1, x => x :: (K x).flatMap (sub K f)
/-- what is below x ends within f steps -/
def Hb (K : Int → List Int) : Nat → Int → Prop
  | 0, _ => False
  | f + 1, x => ∀ c ∈ K x, Hb K f c
theorem sub_self {f : Nat} {x : Int} (h : Hb K f x) : x ∈ sub K f x := by
  cases f with
  | zero => exact h.elim
  | succ f => simp [sub]
theorem sub_kid : ∀ (f : Nat) (x y c : Int), Hb K f x → y ∈ sub K f x → c ∈ K y → c ∈ sub K f x
  | 0, _, _, _, h, _, _ => h.elim
  | f + 1, x, y, c, h, hy, hc => by
    simp only [sub, List.mem_cons, List.mem_flatMap] at hy ⊢
    rcases hy with rfl | ⟨d, hd, hy⟩
    · exact .inr ⟨c, hc, sub_self (h c hc)⟩
    · exact .inr ⟨d, hd, sub_kid f d y c (h d hd) hy hc⟩
theorem Tr.sub_par (h : Tr H P K) : ∀ (f : Nat) (x y : Int), Hb K f x → y ∈ sub K f x → y ≠ x → P y ∈ sub K f x
  | 0, _, _, hb, _, _ => hb.elim
  | f + 1, x, y, hb, hy, hne => by
    simp only [sub, List.mem_cons, List.mem_flatMap] at hy ⊢
    rcases hy with rfl | ⟨d, hd, hy⟩
    · exact absurd rfl hne
    · by_cases e : y = d
      · subst e; exact .inl (h.kid _ _ hd).2.2
      · exact .inr ⟨d, hd, h.sub_par f d y (hb d hd) hy e⟩
theorem Tr.sub_it (h : Tr H P K) : ∀ (f : Nat) (x y : Int), y ∈ sub K f x → ∃ j, it P j y = x
  | 0, _, _, hy => by simp [sub] at hy
  | f + 1, x, y, hy => by
    simp only [sub, List.mem_cons, List.mem_flatMap] at hy
    rcases hy with rfl | ⟨d, hd, hy⟩
    · exact ⟨0, rfl⟩
    · obtain ⟨j, hj⟩ := h.sub_it f d y hy
      exact ⟨j + 1, by rw [it_succ, hj]; exact (h.kid _ _ hd).2.2⟩
theorem Tr.sub_h (h : Tr H P K) : ∀ (f : Nat) (x y : Int), H x → y ∈ sub K f x → H y
  | 0, _, _, _, hy => by simp [sub] at hy
  | f + 1, x, y, hx, hy => by
    simp only [sub, List.mem_cons, List.mem_flatMap] at hy
    rcases hy with rfl | ⟨d, hd, hy⟩
    · exact hx
    · exact h.sub_h f d y (h.kid _ _ hd).2.1 hy
/-- none is above itself -/
theorem Tr.no_cycle (h : Tr H P K) {x : Int} (hx : x ≠ 0) {j : Nat} (hj : it P (j + 1) x = x) : False := by
  have : ∀ m, it P (m * (j + 1)) x = x := by
    intro m
    induction m with
    | zero => rw [Nat.zero_mul]; rfl
    | succ m ih => rw [Nat.succ_mul, it_add, ih, hj]
  obtain ⟨k, hk⟩ := h.acy x
  have h2 := h.it_ge (j := k * (j + 1)) hk (Nat.le_mul_of_pos_right _ (by omega))
  rw [this] at h2
  exact hx h2
theorem Tr.sub_apart (h : Tr H P K) {x c d e : Int} {i j : Nat} (hc : c ∈ K x) (hd : d ∈ K x) (hi : it P i e = c) (hj : it P j e = d) (hij : i < j) : False := by
  obtain ⟨m, rfl⟩ : ∃ m, j = i + (m + 1) := ⟨j - i - 1, by omega⟩
  rw [it_add, hi] at hj
  obtain ⟨hx, hcH, hcx⟩ := h.kid _ _ hc
  obtain ⟨_, _, hdx⟩ := h.kid _ _ hd
  have h1 : it P (m + 1) x = x := by
    have : it P (m + 1 + 1) c = x := by rw [it_succ, hj, hdx]
    have h2 : it P (1 + (m + 1)) c = x := by rw [Nat.add_comm]; exact this
    rw [it_add] at h2
    have h3 : it P 1 c = x := hcx
    rwa [h3] at h2
  exact h.no_cycle (h.ne0 hx) h1
theorem Tr.sub_nodup (h : Tr H P K) : ∀ (f : Nat) (x : Int), H x → (sub K f x).Nodup
  | 0, _, _ => List.nodup_nil
  | f + 1, x, hx => by
    rw [sub, List.nodup_cons]
    refine ⟨fun hm => ?_, ?_⟩
    · obtain ⟨c, hc, hm⟩ := List.mem_flatMap.1 hm
      obtain ⟨j, hj⟩ := h.sub_it f c x hm
      exact h.no_cycle (h.ne0 hx) (j := j) (by rw [it_succ, hj]; exact (h.kid _ _ hc).2.2)
    · have : ∀ L : List Int, (∀ c ∈ L, c ∈ K x) → L.Nodup → (L.flatMap (sub K f)).Nodup := by
        intro L
        induction L with
        | nil => intro _ _; exact List.nodup_nil
        | cons c r ih =>
          intro hL hn
          obtain ⟨h1, h2⟩ := List.nodup_cons.1 hn
          rw [List.flatMap_cons, List.nodup_append]
          refine ⟨h.sub_nodup f c (h.kid _ _ (hL c (by simp))).2.1, ih (fun d hd => hL d (by simp [hd])) h2, fun a ha b hb => ?_⟩
          rintro rfl
          obtain ⟨d, hd, hb⟩ := List.mem_flatMap.1 hb
          obtain ⟨i, hi⟩ := h.sub_it f c a ha
          obtain ⟨j, hj⟩ := h.sub_it f d a hb
          rcases Nat.lt_trichotomy i j with hl | hl | hl
          · exact h.sub_apart (hL c (by simp)) (hL d (by simp [hd])) hi hj hl
          · subst hl; rw [hi] at hj; subst hj; exact h1 hd
          · exact h.sub_apart (hL d (by simp [hd])) (hL c (by simp)) hj hi hl
      exact this _ (fun c hc => hc) (h.nod x)
theorem Tr.hb (h : Tr H P K) {L : List Int} (hL : ∀ y, H y → y ∈ L) : ∀ (f : Nat) (y : Int) (k : Nat), H y → Dep P y k → L.length < f + k → Hb K f y
  | 0, y, k, hy, hd, hf => by have := h.dep_le hL hy hd; omega
  | f + 1, y, k, hy, hd, hf => fun c hc => by
    obtain ⟨_, hcH, hcp⟩ := h.kid _ _ hc
    exact h.hb hL f c (k + 1) hcH (hd.kid (h.ne0 hcH) hcp) (by omega)
theorem Tr.hb_all (h : Tr H P K) {L : List Int} (hL : ∀ y, H y → y ∈ L) {y : Int} (hy : H y) : Hb K (L.length + 1) y := by
  obtain ⟨k, hk⟩ := h.dep y
  exact h.hb hL _ y k hy hk (by omega)

/-! ### All above one -/
def up (H : Int → Bool) (P : Int → Int) : Nat → Int → List Int
  | 0, _ => []
  | f + 1, x => if H x = true then x :: up H P f (P x) else []
end
section
variable {H : Int → Bool} {P : Int → Int} {K : Int → List Int}
theorem up_it : ∀ (f : Nat) (a b : Int), b ∈ up H P f a → ∃ j, it P j a = b ∧ H b = true
  | 0, _, _, h => by simp [up] at h
  | f + 1, a, b, h => by
    rw [up] at h
    split at h
    · rename_i ha
      rcases List.mem_cons.1 h with rfl | h
      · exact ⟨0, rfl, ha⟩
      · obtain ⟨j, hj, hb⟩ := up_it f (P a) b h
        exact ⟨j + 1, hj, hb⟩
    · simp at h
theorem Tr.it_up (h : Tr (fun y => H y = true) P K) : ∀ (f : Nat) (a : Int) (k j : Nat), H a = true → Dep P a k → j < k → j < f → it P j a ∈ up H P f a
  | 0, _, _, _, _, _, _, hf => absurd hf (by omega)
  | f + 1, a, k, j, ha, hd, hj, hf => by
    rw [up, if_pos ha]
    cases j with
    | zero => exact List.mem_cons.2 (.inl rfl)
    | succ j =>
      have hp : P a ≠ 0 := hd.2 1 (by omega)
      cases k with
      | zero => omega
      | succ k =>
        exact List.mem_cons.2 (.inr (h.it_up f (P a) k j (h.hpar hp) ⟨hd.1, fun i hi => hd.2 (i + 1) (by omega)⟩ (by omega) (by omega)))
/-- what isn't above a, told by the list, isn't above it -/
theorem Tr.not_up (h : Tr (fun y => H y = true) P K) {L : List Int} (hL : ∀ y, H y = true → y ∈ L) {a b : Int} (ha : H a = true) (hb : H b = true) (hn : b ∉ up H P (L.length + 1) a) (j : Nat) : it P j a ≠ b := by
  intro e
  obtain ⟨k, hk⟩ := h.dep a
  have hkl := h.dep_le hL ha hk
  by_cases hj : j < k
  · exact hn (e ▸ h.it_up _ a k j ha hk hj (by omega))
  · have := h.it_ge hk.1 (by omega : k ≤ j)
    rw [this] at e
    subst e
    exact h.z hb
end
end Go.Proofs.Ythdgaoifbejpjaa.P5
