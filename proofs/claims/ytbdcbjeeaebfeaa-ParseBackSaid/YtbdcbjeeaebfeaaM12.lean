/- A node that is let go, and all below it. -/
import Derived.Deep.Slices
import Derived.ChangeSame
import Derived.Carry
import Derived.Test.YtbdcbjeeaebfeaaM2
import Derived.Test.YtbdcbjeeaebfeaaM8
import Derived.Test.YtbdcbjeeaebfeaaM11
set_option linter.unusedVariables false
set_option linter.unusedSimpArgs false
namespace Go.Proofs.Ytbdcbjeeaebfeaa.P5
open Go.RowKit Kd P4
variable {B p : Nat} {x : Dx}

def outR (s : List Int) (rs : List Rw) : List Rw := rs.filter fun r => !decide (r.nd.id ∈ s)
theorem outR_nd (s : List Int) (rs : List Rw) : (outR s rs).map (·.nd) = outA s (rs.map (·.nd)) := by
  unfold outR outA
  rw [List.filter_map]
  rfl
theorem outR_outR (s t : List Int) (rs : List Rw) : outR t (outR s rs) = outR (s ++ t) rs := by
  unfold outR
  rw [List.filter_filter]
  apply List.filter_congr
  intro r _
  by_cases h1 : r.nd.id ∈ s <;> by_cases h2 : r.nd.id ∈ t <;> simp [h1, h2]
theorem outR_nil (rs : List Rw) : outR [] rs = rs := by
  unfold outR
  rw [List.filter_eq_self]
  intro r _; simp
theorem outR_congr {s t : List Int} (h : ∀ c, c ∈ s ↔ c ∈ t) (rs : List Rw) : outR s rs = outR t rs := by
  unfold outR
  apply List.filter_congr
  intro r _
  simp [h]
theorem mem_outR {s : List Int} {rs : List Rw} {r : Rw} : r ∈ outR s rs ↔ r ∈ rs ∧ r.nd.id ∉ s := by unfold outR; simp
def fo (f : Int) (s : List Int) : Int := if f ∈ s then 0 else f
theorem fo_fo (f : Int) {s t : List Int} (h : (0 : Int) ∉ t) : fo (fo f s) t = fo f (s ++ t) := by
  unfold fo
  by_cases h1 : f ∈ s
  · rw [if_pos h1, if_neg h, if_pos (by simp [h1])]
  · rw [if_neg h1]
    by_cases h2 : f ∈ t
    · rw [if_pos h2, if_pos (by simp [h2])]
    · rw [if_neg h2, if_neg (by simp [h1, h2])]
theorem fo_nil (f : Int) : fo f [] = f := by simp [fo]
theorem fo_congr {s t : List Int} (h : ∀ c, c ∈ s ↔ c ∈ t) (f : Int) : fo f s = fo f t := by
  unfold fo; by_cases h1 : f ∈ s
  · rw [if_pos h1, if_pos ((h f).1 h1)]
  · rw [if_neg h1, if_neg (fun e => h1 ((h f).2 e))]
theorem outA_find (s : List Int) (l : List Nd) (y : Int) (h : y ∉ s) : hasL (outA s l) y = hasL l y ∧ kidsOf (outA s l) y = kidsOf l y := by
  unfold hasL kidsOf
  rw [out_find, if_neg h]
  exact ⟨rfl, rfl⟩

theorem erase_map {α β : Type} (f : α → β) : ∀ (l : List α) (k : Nat), (l.map f).eraseIdx k = (l.eraseIdx k).map f
  | [], _ => rfl
  | _ :: _, 0 => rfl
  | a :: l, k + 1 => by show f a :: (l.map f).eraseIdx k = f a :: (l.eraseIdx k).map f; rw [erase_map f l k]

/-! ### The last step: the node itself -/
theorem erase_out : ∀ {rs : List Rw} {k : Nat} (hk : k < rs.length), (rs.map (·.nd)).Pairwise (fun a b => a.id < b.id) → rs.eraseIdx k = outR [rs[k].nd.id] rs
  | [], _, hk, _ => absurd hk (by simp)
  | r :: rs, 0, _, h => by
    obtain ⟨h1, _⟩ := List.pairwise_cons.1 h
    show rs = outR [r.nd.id] (r :: rs)
    unfold outR
    rw [List.filter_cons]
    simp only [List.mem_singleton, decide_true, Bool.not_true, Bool.false_eq_true, if_false]
    exact (List.filter_eq_self.2 (fun s hs => by
      have : r.nd.id < s.nd.id := h1 s.nd (List.mem_map.2 ⟨s, hs, rfl⟩)
      have hne : ¬ s.nd.id = r.nd.id := by omega
      simp [hne])).symm
  | r :: rs, k + 1, hk, h => by
    obtain ⟨h1, h2⟩ := List.pairwise_cons.1 h
    have hk' : k < rs.length := by simpa using hk
    have ih := erase_out hk' h2
    have hne : ¬ r.nd.id = rs[k].nd.id := by
      have : r.nd.id < rs[k].nd.id := h1 rs[k].nd (List.mem_map.2 ⟨rs[k], List.getElem_mem hk', rfl⟩)
      omega
    show r :: rs.eraseIdx k = outR [rs[k].nd.id] (r :: rs)
    rw [ih]
    unfold outR
    rw [List.filter_cons]
    simp [hne]
theorem less_ids (i : Int) (rs : List Rw) : less i (idsOf (rs.map (·.nd))) = idsOf ((outR [i] rs).map (·.nd)) := by
  unfold less idsOf outR
  simp only [List.map_map, List.filter_map]
  congr 1
  apply List.filter_congr
  intro r _
  simp [Function.comp]
/-! ### drop -/
structure SubOk (l : List Nd) (K : Int → List Int) (f : Nat) (i : Int) : Prop where
  hb : Hb K f i
  nd : (sub K f i).Nodup
  at_ : ∀ c ∈ sub K f i, hasL l c = true ∧ kidsOf l c = K c
def upto (K : Int → List Int) (f : Nat) (i : Int) (j : Nat) : List Int := ((K i).take j).flatMap (sub K f)
theorem upto_succ {K : Int → List Int} {f : Nat} {i : Int} {j : Nat} (hj : j < (K i).length) : upto K f i (j + 1) = upto K f i j ++ sub K f (K i)[j] := by
  unfold upto
  rw [List.take_succ_eq_append_getElem hj, List.flatMap_append]
  simp
theorem upto_all (K : Int → List Int) (f : Nat) (i : Int) : upto K f i (K i).length = (K i).flatMap (sub K f) := by unfold upto; rw [List.take_length]
theorem SubOk.kid {l : List Nd} {K : Int → List Int} {f : Nat} {i : Int} (h : SubOk l K (f + 1) i) {j : Nat} (hj : j < (K i).length) : SubOk (outA (upto K f i j) l) K f (K i)[j] ∧ (∀ c ∈ sub K f (K i)[j], c ∉ upto K f i j) := by
  have hn := h.nd
  rw [sub, List.nodup_cons] at hn
  have hsplit : (K i).flatMap (sub K f) = upto K f i j ++ (sub K f (K i)[j] ++ ((K i).drop (j + 1)).flatMap (sub K f)) := by
    unfold upto
    have e : K i = (K i).take j ++ ((K i)[j] :: (K i).drop (j + 1)) := by rw [← List.drop_eq_getElem_cons hj, List.take_append_drop]
    have := congrArg (List.flatMap (sub K f)) e
    rw [List.flatMap_append, List.flatMap_cons] at this
    exact this
  rw [hsplit, List.nodup_append, List.nodup_append] at hn
  have hdis : ∀ c ∈ sub K f (K i)[j], c ∉ upto K f i j := fun c hc hu => hn.2.2.2 c hu c (by simp [hc]) rfl
  refine ⟨⟨h.hb _ (List.getElem_mem hj), hn.2.2.1.1, fun c hc => ?_⟩, hdis⟩
  have hin : c ∈ sub K (f + 1) i := by
    rw [sub, List.mem_cons, List.mem_flatMap]
    exact .inr ⟨_, List.getElem_mem hj, hc⟩
  obtain ⟨h1, h2⟩ := outA_find (upto K f i j) l c (hdis c hc)
  rw [h1, h2]
  exact h.at_ c hin
theorem SubOk.self_not {l : List Nd} {K : Int → List Int} {f : Nat} {i : Int} (h : SubOk l K (f + 1) i) (j : Nat) : i ∉ upto K f i j := by
  intro hm
  have hn := h.nd
  rw [sub, List.nodup_cons] at hn
  unfold upto at hm
  obtain ⟨c, hc, hm⟩ := List.mem_flatMap.1 hm
  exact hn.1 (List.mem_flatMap.2 ⟨c, List.mem_of_mem_take hc, hm⟩)
end Go.Proofs.Ytbdcbjeeaebfeaa.P5

/- A node that goes, or the error; each change. -/
namespace Go.Proofs.Ytbdcbjeeaebfeaa.P5
open Go.RowKit Kd P4
variable {B p : Nat} {x : Dx}

theorem sub_zero {l : List Nd} (h : Tr (fun y => hasL l y = true) (parOf l) (kidsOf l)) (f : Nat) (c : Int) : (0 : Int) ∉ sub (kidsOf l) f c ∨ c = 0 := by
  by_cases e : c = 0
  · exact .inr e
  · refine .inl fun hm => e ?_
    obtain ⟨j, hj⟩ := h.sub_it f c 0 hm
    rw [h.it0] at hj
    exact hj.symm
/-! ### Apply -/
structure ArgR (w : World) (A : Option Addr) (n c : Nat) (r : Rc) : Prop where
  at_ : ArgA w A n c r.attrs
  tag : r.tag.size ≤ maxLen
  txt : r.txt.size ≤ maxLen
  key : r.key.size ≤ maxLen
theorem ArgR.below {w w' : World} {A : Option Addr} {n c : Nat} {r : Rc} (h : ArgR w A n c r) (hb : Below w.heap.size w w') : ArgR w' A n c r := ⟨h.at_.below hb, h.tag, h.txt, h.key⟩
end Go.Proofs.Ytbdcbjeeaebfeaa.P5

/- The law's Few of attributes: whether a list is short. -/
namespace Go.Proofs.Ytbdcbjeeaebfeaa.P3
open Go.RowKit

theorem fewA_long {l : List At} (h : 20 < l.length) : fewA l = false := by unfold fewA; simp; omega
theorem fewA_bad {l : List At} {k : Nat} (hk : k < l.length) (h : shortA l[k] = false) : fewA l = false := by
  unfold fewA
  have : l.all shortA = false := by
    rw [List.all_eq_false]
    exact ⟨l[k], List.getElem_mem hk, by simp [h]⟩
  rw [this, Bool.and_false]
def ShortTo (l : List At) (k : Nat) : Prop := ∀ j (h : j < l.length), j < k → shortA l[j] = true
theorem ShortTo.zero (l : List At) : ShortTo l 0 := fun _ _ h => absurd h (by omega)
theorem ShortTo.next {l : List At} {k : Nat} (h : ShortTo l k) (hk : k < l.length) (hb : shortA l[k] = true) : ShortTo l (k + 1) := by
  intro j hj hlt
  by_cases e : j = k
  · subst e; exact hb
  · exact h j hj (by omega)
theorem ShortTo.all {l : List At} {k : Nat} (h : ShortTo l k) (hl : l.length ≤ k) (h20 : l.length ≤ 20) : fewA l = true := by
  unfold fewA
  have : l.all shortA = true := by
    rw [List.all_eq_true]
    intro x hx
    obtain ⟨j, hj, rfl⟩ := List.getElem_of_mem hx
    exact h j hj (by omega)
  rw [this, Bool.and_true]
  exact decide_eq_true h20
def fewN (l : List At) : Int := if fewA l then 1 else 0
theorem ret_few {l : List At} {b : Bool} {x : Int} (h : fewA l = b) (hx : x = if b then 1 else 0) : Ending.returned (.int .i64 x) = .returned (.int .i64 (fewN l)) := by
  unfold fewN; rw [h, hx]
theorem short_no {a : At} (h : 100 < a.nm.size ∨ 100 < a.vl.size) : shortA a = false := by
  unfold shortA; rcases h with h | h <;> simp <;> omega
theorem short_yes {a : At} (h : a.nm.size ≤ 100) (h2 : a.vl.size ≤ 100) : shortA a = true := by
  unfold shortA; simp [h, h2]

set_option maxHeartbeats 400000 in
theorem few_any (l : List At) (A : Option Addr) (n c : Nat) (w : World) (hn : l.length = n) (hl : n ≤ 9223372036854775807) (H : Holds w w.heap.size A l) :
    Calls Try.prog 37 #[.slice A n c] w fun e w' => e = .returned (.int .i64 (fewN l)) ∧ w = w' := by
  have HH := Lib.hid H
  have HN := Lib.hid hn
  clear H hn
  go_enter Try.func37, Try.ntmps37
  go_wp2_with fail
  go_loop [3] (fun i => ∃ k : Nat, k ≤ n ∧ k ≤ 20 ∧ i = .int .i64 k ∧ Hid (ShortTo l k)) (fun i => n - (intOf i).toNat)
  case atStart => exact ⟨0, by omega, by omega, rfl, Lib.hid (ShortTo.zero _)⟩
  case round =>
    obtain ⟨k, hk, hk20, rfl, HS⟩ := hrel
    by_cases hlt : k < n
    · by_cases h20 : k < 20
      · have hlt' : k < l.length := by have := HN.out; omega
        obtain ⟨b, o, rfl, hb, h0, h1, h2⟩ := HH.out k hlt'
        by_cases hs1 : 100 < l[k].nm.size
        · go_wp2_with fail
          go_ret
          exact ⟨ret_few (fewA_bad hlt' (short_no (.inl hs1))) rfl, rfl⟩
        · by_cases hs2 : 100 < l[k].vl.size
          · go_wp2_with fail
            go_ret
            exact ⟨ret_few (fewA_bad hlt' (short_no (.inr hs2))) rfl, rfl⟩
          · go_wp2_with fail
            go_round
            case rel => exact ⟨k + 1, by omega, by omega, by go_num, Lib.hid (HS.out.next hlt' (short_yes (by omega) (by omega)))⟩
            case measure => simp [intOf]; omega
      · obtain rfl : k = 20 := by omega
        by_cases hn20 : 20 < n
        · go_wp2_with fail
          go_ret
          exact ⟨ret_few (fewA_long (by have := HN.out; omega)) rfl, rfl⟩
        · exact absurd hlt hn20
    · obtain rfl : k = n := by omega
      go_wp2_with fail
      go_ret
      exact ⟨ret_few (HS.out.all (by have := HN.out; omega) (by have := HN.out; omega)) rfl, rfl⟩
end Go.Proofs.Ytbdcbjeeaebfeaa.P3

/- The deeds of layer 5's laws, as they lie in memory; Few, Rec. -/
namespace Go.Proofs.Ytbdcbjeeaebfeaa.P5
open Go.RowKit Kd P4
variable {B p : Nat} {x : Dx}

/-- a deed that came in: its texts are no longer than texts may be, its attributes lie in memory -/
structure DeedOk (w : World) (r : RE) : Prop where
  what1 : -9223372036854775808 ≤ r.what
  what2 : r.what ≤ 9223372036854775807
  tag : r.tag.size ≤ maxLen
  txt : r.txt.size ≤ maxLen
  key : r.key.size ≤ maxLen
  at_ : ∃ l : List P3.At, l.length = r.va.n ∧ r.va.n ≤ r.va.c ∧ r.va.c ≤ maxLen ∧ (r.va.A = none → r.va.c = 0) ∧ kA.Holds w w.heap.size r.va.A l ∧ P3.Wf l
theorem DeedOk.below {w w' : World} {r : RE} (h : DeedOk w r) (hb : Below w.heap.size w w') : DeedOk w' r := by
  obtain ⟨l, h1, h2, h3, h4, h5, h6⟩ := h.at_
  exact ⟨h.what1, h.what2, h.tag, h.txt, h.key, l, h1, h2, h3, h4, h5.on hb, h6⟩
def Few5 (w : World) (l : List RE) (e : Ending) (w' : World) : Prop :=
  ∃ f : Int, e = .returned (.int .i64 f) ∧ (f = 0 ∨ f = 1 ∧ l.length ≤ 60 ∧ ∀ r ∈ l, r.va.n ≤ 20) ∧ Below w.heap.size w w'
theorem few5_no {w w' : World} {l : List RE} (hb : Below w.heap.size w w') : Few5 w l (.returned (.int .i64 0)) w' := ⟨0, rfl, .inl rfl, hb⟩
/-! ### Rec -/
/-- the change of a deed, of a document whose last identity is n -/
def recOf (r : RE) (n : Int) (l : List P3.At) : Rc := ⟨r.op, if r.next = true ∧ r.op = 1 then n + 1 else r.rid, r.par, r.bef, r.tag, r.txt, r.key, l⟩
def Recd (w : World) (r : RE) (n : Int) (e : Ending) (w' : World) : Prop :=
  e = .returned (.agg #[.int .i64 r.op, .int .i64 (if r.next = true ∧ r.op = 1 then n + 1 else r.rid), .int .i64 r.par, .int .i64 r.bef, .string r.tag, .string r.txt, .string r.key, .slice r.va.A r.va.n r.va.c]) ∧ Below w.heap.size w w'
end Go.Proofs.Ytbdcbjeeaebfeaa.P5

/- An argument that is a slice of some kind, opened; the last step of a row whose arguments are read alone. For any program. No condition. -/
namespace Go.Proofs.Ytbdcbjeeaebfeaa.Kd
open Go.RowKit Go.ChangeShapes Go.WideShapes Go.Deep

theorem spot_none {w : World} {a : Addr} {v : Value} (h : w.cell? a = some v) : a.spot = none := by
  unfold World.cell? at h
  split at h
  · split at h
    · cases h
    · rename_i hs; simpa using hs
  · cases h

theorem Kind.open_ {P : Program} {α : Type} (K : Kind P α) {H : Type} {enc : TypeId × Value → H} {w : World} {v : Value} {d : DataW H} {p : List MemPlace} {base : Nat} (inh : α) (Wf : α → Prop)
    (hce : P.cellsOf K.e = K.size) (hel : ∀ fuel cs x, DataW.trod enc P w 0 (fun _ => true) true fuel K.e cs = some x → cs.length = K.size → ∃ a, cs = K.cs a ∧ Wf a)
    (hv : Value.okWide P w .any base K.t v) (h : DataW.Trod enc P w 0 (fun _ => true) true K.t v d p) :
    ∃ A n c l, v = .slice A n c ∧ l.length = n ∧ n ≤ c ∧ c ≤ maxLen ∧ (∀ a ∈ l, Wf a) ∧ K.Holds w w.heap.size A l := by
  obtain ⟨a, len, cap, rfl⟩ := okWide_slice K.ht hv
  obtain ⟨fuel, hf⟩ := h
  rcases open_slice K.ht hf with ⟨hcs, _⟩ | ⟨ad, len', cap', m, n, D, Pl, hcs, hb, hl, hm, hmm, _, hi⟩
  · have e : Value.slice a len cap = .slice Option.none 0 0 := by simpa [Value.cells] using hcs
    injection e with e1 e2 e3
    subst e1; subst e2; subst e3
    exact ⟨_, _, _, [], rfl, rfl, by omega, by unfold maxLen; omega, fun _ h => absurd h (by simp), Kind.Holds.nil _ _ _⟩
  · have e : Value.slice a len cap = .slice (some ad) len' cap' := by simpa [Value.cells] using hcs
    injection e with e1 e2 e3
    subst e1; subst e2; subst e3
    have hmc : m = cap := by simpa using hmm
    subst hmc
    have each : ∀ i, i < len → ∃ x : α, Wf x ∧ ∀ j, j < K.size → w.cell? (ad.add (i * K.size + j)) = (K.cs x)[j]? := by
      intro i hil
      obtain ⟨cs', h1, h2⟩ := hi i (by omega)
      rw [hce] at h1
      obtain ⟨_, hlen, hcell⟩ := World.cells?_some h1
      obtain ⟨x, rfl, hw⟩ := hel _ _ _ h2 hlen
      refine ⟨x, hw, fun j hj => ?_⟩
      have := hcell j hj
      rwa [add_add] at this
    have hinh : Inhabited α := ⟨inh⟩
    obtain ⟨f, hfx⟩ := choose_lt each
    refine ⟨_, _, _, (List.range len).map f, rfl, by simp, hl, hm, fun x hx => ?_, fun j u hj => ?_⟩
    · obtain ⟨i, hi', rfl⟩ := List.mem_map.1 hx
      exact (hfx i (List.mem_range.1 hi')).1
    · have hjl : j < len * K.size := by
        have := (List.getElem?_eq_some_iff.1 hj).1
        rw [Kind.cells_len] at this
        simpa using this
      have hpos := K.hpos
      have hdm : K.size * (j / K.size) + j % K.size = j := Nat.div_add_mod j K.size
      have hmod : j % K.size < K.size := Nat.mod_lt _ hpos
      have hdiv : j / K.size < len := by rw [Nat.div_lt_iff_lt_mul hpos]; exact hjl
      have hje : j / K.size * K.size + j % K.size = j := by rw [Nat.mul_comm]; exact hdm
      have hk : j / K.size < ((List.range len).map f).length := by simpa using hdiv
      have hcell := (hfx _ hdiv).2 _ hmod
      rw [hje] at hcell
      have hat := K.cells_at _ _ hk _ hmod
      rw [hje, hj] at hat
      have hcu : w.cell? (ad.add j) = some u := by rw [hcell, hat]; simp
      have hsp : ad.spot = Option.none := by
        have z0 := (hfx 0 (Nat.lt_of_le_of_lt (Nat.zero_le _) hdiv)).2 0 hpos
        rw [List.getElem?_eq_getElem (by rw [K.len]; exact hpos)] at z0
        exact spot_none (a := ad) (by simpa [Addr.add] using z0)
      obtain ⟨b, o, sp⟩ := ad
      simp only at hsp
      subst hsp
      rw [add_plain] at hcu
      exact ⟨b, o, rfl, block_lt_of_cell hcu, hcu⟩

/-- the arguments read behind the call as before, no named variable, nothing asked of what comes again -/
theorem post_read {H : Type} {enc : TypeId × Value → H} {P : Program} {f : Func} {s : ChangeSpec} {W W' : World} {args : Array Value} {v : Value} {ds gs : List (DataW H)} {before : List MemPlace}
    (hW : DataW.Whole enc P f.params.toList s.vars false W args.toList ds gs before)
    (hres : DataW.TrodAll enc P W' W.heap.size (fun _ => false) false f.resultTypes.toList (v.resultList f.resultTypes.size) (s.fn H (ds ++ gs)).results [])
    (hargs : DataW.TrodAll enc P W' 0 (fun b => decide (b < W.heap.size)) true f.params.toList args.toList (s.fn H (ds ++ gs)).args before)
    (hvars : DataW.TrodVars enc P W' (fun b => decide (b < W.heap.size)) s.vars (s.fn H (ds ++ gs)).vars [])
    (hb : Below W.heap.size W W') : s.post enc P f false true false false W args v W' :=
  ⟨ds, gs, before, [], before, [], hW, hres, hargs, hvars, World.keptBut_mono (fun _ hp => ⟨hp, .inr (.inl hp)⟩) (hb.frame (· ∈ before)), fun h => by cases h⟩
end Go.Proofs.Ytbdcbjeeaebfeaa.Kd

/- The deeds of layer 5's laws, opened out of an argument. No condition. -/
namespace Go.Proofs.Ytbdcbjeeaebfeaa.P5
open Go.RowKit Go.ChangeShapes Go.WideShapes Go.Deep Kd P4

theorem open_fuel {P : Program} {α : Type} (K : Kind P α) {H : Type} {enc : TypeId × Value → H} {w : World} {cs : List Value} {x : DataW H × List MemPlace} {fuel : Nat} (inh : α) (Wf : α → Prop)
    (hce : P.cellsOf K.e = K.size) (hel : ∀ fuel cs x, DataW.trod enc P w 0 (fun _ => true) true fuel K.e cs = some x → cs.length = K.size → ∃ a, cs = K.cs a ∧ Wf a)
    (hf : DataW.trod enc P w 0 (fun _ => true) true fuel K.t cs = some x) :
    ∃ A n c l, cs = [.slice A n c] ∧ l.length = n ∧ n ≤ c ∧ c ≤ maxLen ∧ (A = none → c = 0) ∧ (∀ a ∈ l, Wf a) ∧ K.Holds w w.heap.size A l := by
  rcases open_slice K.ht hf with ⟨hcs, _⟩ | ⟨ad, len, cap, m, n, D, Pl, hcs, hb, hl, hm, hmm, _, hi⟩
  · exact ⟨none, 0, 0, [], hcs, rfl, Nat.le_refl _, by unfold maxLen; omega, fun _ => rfl, fun _ h => absurd h (by simp), Kind.Holds.nil _ _ _⟩
  · have hmc : m = cap := by simpa using hmm
    subst hmc
    have each : ∀ i, i < len → ∃ x : α, Wf x ∧ ∀ j, j < K.size → w.cell? (ad.add (i * K.size + j)) = (K.cs x)[j]? := by
      intro i hil
      obtain ⟨cs', h1, h2⟩ := hi i (by omega)
      rw [hce] at h1
      obtain ⟨_, hlen, hcell⟩ := World.cells?_some h1
      obtain ⟨x, rfl, hw⟩ := hel _ _ _ h2 hlen
      refine ⟨x, hw, fun j hj => ?_⟩
      have := hcell j hj
      rwa [add_add] at this
    have hinh : Inhabited α := ⟨inh⟩
    obtain ⟨f, hfx⟩ := choose_lt each
    refine ⟨_, _, _, (List.range len).map f, hcs, by simp, hl, hm, fun e => (by cases e), fun x hx => ?_, fun j u hj => ?_⟩
    · obtain ⟨i, hi', rfl⟩ := List.mem_map.1 hx
      exact (hfx i (List.mem_range.1 hi')).1
    · have hjl : j < len * K.size := by
        have := (List.getElem?_eq_some_iff.1 hj).1
        rw [Kind.cells_len] at this
        simpa using this
      have hpos := K.hpos
      have hdm : K.size * (j / K.size) + j % K.size = j := Nat.div_add_mod j K.size
      have hmod : j % K.size < K.size := Nat.mod_lt _ hpos
      have hdiv : j / K.size < len := by rw [Nat.div_lt_iff_lt_mul hpos]; exact hjl
      have hje : j / K.size * K.size + j % K.size = j := by rw [Nat.mul_comm]; exact hdm
      have hk : j / K.size < ((List.range len).map f).length := by simpa using hdiv
      have hcell := (hfx _ hdiv).2 _ hmod
      rw [hje] at hcell
      have hat := K.cells_at _ _ hk _ hmod
      rw [hje, hj] at hat
      have hcu : w.cell? (ad.add j) = some u := by rw [hcell, hat]; simp
      have hsp : ad.spot = Option.none := by
        have z0 := (hfx 0 (Nat.lt_of_le_of_lt (Nat.zero_le _) hdiv)).2 0 hpos
        rw [List.getElem?_eq_getElem (by rw [K.len]; exact hpos)] at z0
        exact spot_none (a := ad) (by simpa [Addr.add] using z0)
      obtain ⟨b, o, sp⟩ := ad
      simp only at hsp
      subst hsp
      rw [add_plain] at hcu
      exact ⟨b, o, rfl, block_lt_of_cell hcu, hcu⟩

theorem cellsI : Try.prog.cellsOf 3 = 1 := by kernel_rfl
theorem cellsI64 : Try.prog.cellsOf 2 = 1 := by kernel_rfl
theorem cellsS : Try.prog.cellsOf 9 = 1 := by kernel_rfl
theorem cellsB : Try.prog.cellsOf 4 = 1 := by kernel_rfl
theorem cellsLA : Try.prog.cellsOf 36 = 1 := by kernel_rfl
theorem cellsAt : Try.prog.cellsOf 73 = 3 := by kernel_rfl
theorem laidOut : laidOutB Try.prog = true := by kernel_rfl

set_option maxRecDepth 100000 in
theorem open_at {H : Type} {enc : TypeId × Value → H} {w : World} {fuel : Nat} {cs : List Value} {x : DataW H × List MemPlace} (hx : DataW.trod enc Try.prog w 0 (fun _ => true) true fuel 73 cs = some x) (hlen : cs.length = 3) :
    ∃ a : P3.At, cs = kA.cs a ∧ (a.nm.size ≤ maxLen ∧ a.vl.size ≤ maxLen) := by
  obtain ⟨xs, k, hk, hxy, _, hxl, hg⟩ := DataW.trod_struct Try.underlying73 hx
  match cs, hlen with
  | [v0, v1, v2], _ =>
    have g0 := hg 0 _ rfl
    have g1 := hg 1 _ rfl
    have g2 := hg 2 _ rfl
    simp [cellsS, cellsB] at g0 g1 g2
    have x0 : xs[0]? = some (xs[0]'(by rw [hxl]; decide)) := List.getElem?_eq_getElem _
    have x1 : xs[1]? = some (xs[1]'(by rw [hxl]; decide)) := List.getElem?_eq_getElem _
    have x2 : xs[2]? = some (xs[2]'(by rw [hxl]; decide)) := List.getElem?_eq_getElem _
    rw [x0] at g0
    rw [x1] at g1
    rw [x2] at g2
    obtain ⟨s0, hs0, _, hz0⟩ := DataW.trod_string Try.underlying9 g0
    obtain ⟨s1, hs1, _, hz1⟩ := DataW.trod_string Try.underlying9 g1
    obtain ⟨s2, hs2, _⟩ := DataW.trod_bool Try.underlying4 g2
    injection hs0 with hs0 _
    injection hs1 with hs1 _
    injection hs2 with hs2 _
    subst hs0; subst hs1; subst hs2
    exact ⟨⟨s0, s1, s2⟩, rfl, hz0, hz1⟩
end Go.Proofs.Ytbdcbjeeaebfeaa.P5
