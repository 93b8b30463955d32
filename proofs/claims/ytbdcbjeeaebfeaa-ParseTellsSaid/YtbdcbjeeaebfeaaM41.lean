/- What placketref08.guess and placketref08.Get answer. No condition but those stated. -/
import Derived.Test.YtbdcbjeeaebfeaaM11
import Derived.Test.YtbdcbjeeaebfeaaM20
import Derived.Test.YtbdcbjeeaebfeaaM34
import Derived.Test.YtbdcbjeeaebfeaaM40
set_option linter.unusedVariables false
set_option linter.unusedSimpArgs false
namespace Go.Proofs.Ytbdcbjeeaebfeaa.P10
open Go.RowKit Kd P4 P5 P8 P9

theorem guess_all : ∀ f, GuessC f := by
  intro f
  induction f using Nat.strongRecOn with
  | ind f ih => exact guess_of f (fun f' h => elem_of f' (ih f' h))
/-- what Get tells: trees in memory of its own, and a number -/
def Got (w : World) (p : List PT × Nat) (e : Ending) (w' : World) : Prop := ∃ (A : Option Addr) (n c : Nat) (ts : List TV), e = .returned (.tuple #[.slice A n c, .int .i64 (p.2 : Nat)]) ∧ erL ts = p.1 ∧ kT.Own w' w.heap.size (.slice A n c) ts ∧ (∀ t ∈ ts, TNew w' (fun b => w.heap.size ≤ b ∧ (Value.slice A n c).ownBlock ≠ some b) t) ∧ Below w.heap.size w w'
theorem got_none {w w' : World} {p : List PT × Nat} {k : Nat} (h : p = ([], k)) (hb : Below w.heap.size w w') : Got w p (.returned (.tuple #[.slice none 0 0, .int .i64 (k : Nat)])) w' := by
  subst h
  exact ⟨none, 0, 0, [], rfl, by simp [erL], Kind.Own.nil kT w' _, (by intro t ht; cases ht), hb⟩
theorem bytes_ne {a b : ByteArray} (h : a.data.toList ≠ b.data.toList) : (a.toList == b.toList) = false := by
  rw [ByteArray.toList_eq, ByteArray.toList_eq]
  simpa using h
theorem bytes_eq {a b : ByteArray} (h : a.data.toList = b.data.toList) : (a.toList == b.toList) = true := by
  rw [ByteArray.toList_eq, ByteArray.toList_eq, h]
  simp
theorem own_is {w : World} {D : Nat} {A : Option Addr} {n c : Nat} {ts : List TV} (h : kT.Own w D (.slice A n c) ts) : ts.length = n ∧ n ≤ c ∧ c ≤ maxLen ∧ (A = none → c = 0) ∧ kT.Holds w w.heap.size A ts := by
  obtain ⟨A', n', c', hv, e1, e2, e3, e4, e5⟩ := h.slice
  injection hv with h1 h2 h3
  subst h1; subst h2; subst h3
  exact ⟨e1, e2, e3, e4, e5⟩
set_option maxRecDepth 100000 in
set_option maxHeartbeats 4000000 in
theorem rget10_any (s : ByteArray) (w : World) (hm : s.size ≤ 100000) : Calls Try.prog 7 #[.string s] w (Got w (getR s.data.toList)) := by
  by_cases hs : 6000 < s.size
  · have HR : Hid (getR s.data.toList = ([], 13)) := Lib.hid (getR_long (by rw [size_len]; exact hs))
    go_enter Try.func7, Try.ntmps7
    go_wp2_with fail
    go_ret2
    exact got_none HR.out (Below.refl _ _)
  · have CG : Hid (Calls Try.prog 15 #[.string s, .int .i64 0] w (Gv w (guessL s.data.toList))) := Lib.hid (by
      have := guess_all (s.size + 1) s 0 w (by omega) (by omega) (by omega)
      unfold guessL
      rw [size_len]
      exact this)
    have HW : Hid (wL (guessL s.data.toList).1 ≤ 12000) := Lib.hid (by have := guess_w s.data.toList; rw [size_len] at this; omega)
    have HR : Hid (getR s.data.toList = if mayL (guessL s.data.toList).1 && decide (allH (guessL s.data.toList).1 = s.data.toList) && txL (guessL s.data.toList).1 false && decide (deepL (guessL s.data.toList).1 ≤ 200) then ((guessL s.data.toList).1, 0) else ([], 7)) := Lib.hid (by rw [getR, if_neg (by rw [size_len]; exact hs)])
    have HSZ := Lib.hid hm
    go_enter Try.func7, Try.ntmps7
    go_wp2_with fail
    refine CG.out.mono ?_
    rintro e w1 ⟨A, n, c, ts, rfl, her, own, new, b1⟩
    have HER := Lib.hid her
    have OW := Lib.hid own
    have NW := Lib.hid new
    have B1 := Lib.hid b1
    have HW2 : Hid (wL (erL ts) ≤ 12000) := Lib.hid (by rw [her]; exact HW.out)
    have HR2 : Hid (getR s.data.toList = if mayL (erL ts) && decide (allH (erL ts) = s.data.toList) && txL (erL ts) false && decide (deepL (erL ts) ≤ 200) then (erL ts, 0) else ([], 7)) := Lib.hid (by rw [HR.out, her])
    have OI := own_is own
    have KL : Hid (ts.length = n) := Lib.hid OI.1
    have KH : Hid (kT.Holds w1 w1.heap.size A ts) := Lib.hid OI.2.2.2.2
    have KS : Hid (∀ t ∈ ts, TOk w1 w1.heap.size t) := Lib.hid (fun t ht => (new t ht).ok)
    have EL : Hid ((erL ts).length = n) := Lib.hid (by rw [erL_map, List.length_map]; exact OI.1)
    have hn1 : n ≤ 12000 := by have := wL_len (erL ts); have := EL.out; have := HW2.out; omega
    have OKL : Hid (okL (erL ts) = true) := Lib.hid (wL_ok (by have := HW2.out; omega))
    clear her own new b1 OI CG HW HR
    go_wp2_with fail
    go_loopw [6] (fun i wr => ∃ k : Nat, k ≤ n ∧ i = .int .i64 k ∧ Hid (mayL ((erL ts).take k) = true) ∧ Hid (Below w1.heap.size w1 wr)) (fun i _ => n - (intOf i).toNat)
    case atStart => exact ⟨0, by omega, rfl, Lib.hid (by simp [mayL]), Lib.hid (Below.refl _ _)⟩
    case round =>
      obtain ⟨k, hk, rfl, HM, HB⟩ := hrel
      by_cases hkn : k < n
      · have hkl : k < ts.length := by have := KL.out; omega
        have hke : k < (erL ts).length := by have := EL.out; omega
        obtain ⟨b, o, rfl, hb, g0, g1, g2, g3, g4⟩ := cell_of_trees (KH.out.on HB.out) hkl
        have CK : Hid (Calls Try.prog 16 #[.agg #[.string ts[k].tag, .string ts[k].txt, .string ts[k].key, .slice ts[k].sa.A ts[k].sa.n ts[k].sa.c, .slice ts[k].sk.A ts[k].sk.n ts[k].sk.c]] wr fun e w' => e = .returned (.bool (mayP (erL ts)[k])) ∧ Below wr.heap.size wr w') := Lib.hid (by
          rw [erL_at hkl hke]
          exact rmay_ok ts[k] wr ((KS.out _ (List.getElem_mem hkl)).on HB.out) (by have := okL_at hke OKL.out; rwa [erL_at hkl hke] at this))
        generalize ts[k] = dd at g0 g1 g2 g3 g4 CK
        obtain ⟨mk, hmk⟩ : ∃ b, mayP (erL ts)[k] = b := ⟨_, rfl⟩
        rw [hmk] at CK
        have HMK := Lib.hid hmk
        have HKE := Lib.hid hke
        clear hmk
        go_wp2_with fail
        refine CK.out.mono ?_
        rintro e w2 ⟨rfl, b2⟩
        have B2 := Lib.hid (HB.out.trans (b2.mono HB.out.size))
        clear b2
        cases mk with
        | false =>
          have HF : Hid (getR s.data.toList = ([], 7)) := Lib.hid (by rw [HR2.out, mayL_bad HKE.out HMK.out]; rfl)
          go_wp2_with fail
          go_ret2
          exact got_none HF.out (B1.out.trans (B2.out.mono B1.out.size))
        | true =>
          have HM2 : Hid (mayL ((erL ts).take (k + 1)) = true) := Lib.hid (mayL_take HKE.out HM.out HMK.out)
          go_wp2_with fail
          go_roundw
          case rel => exact ⟨k + 1, by omega, by go_num, HM2, B2⟩
          case measure => simp [intOf]; omega
      · obtain rfl : k = n := by omega
        have HML : Hid (mayL (erL ts) = true) := Lib.hid (by have := HM.out; rwa [List.take_of_length_le (by have := EL.out; omega)] at this)
        have hon : ∀ w9, Below wr.heap.size wr w9 → Below w1.heap.size w1 w9 := fun w9 h => HB.out.trans (h.mono HB.out.size)
        have CA : Hid (Calls Try.prog 17 #[.slice A k c] wr fun e w' => e = .returned (.string (htmlsB (erL ts))) ∧ Below wr.heap.size wr w') := Lib.hid (rallK_any ts wr A k c (KH.out.on HB.out) KL.out (fun t ht => (KS.out t ht).on HB.out) OKL.out (by have := KL.out; omega) (by have := allH_w (erL ts); have := HW2.out; omega))
        have CT : Hid (∀ w9, Below wr.heap.size wr w9 → Calls Try.prog 18 #[.slice A k c] w9 fun e w' => e = .returned (.bool (txL (erL ts) false)) ∧ Below w9.heap.size w9 w') := Lib.hid (fun w9 h => tx_any ts w9 A k c (KH.out.on (hon w9 h)) KL.out (fun t ht => (KS.out t ht).on (hon w9 h)) (by have := HW2.out; omega))
        have CD : Hid (∀ w9, Below wr.heap.size wr w9 → Calls Try.prog 19 #[.slice A k c] w9 fun e w' => e = .returned (.int .i64 (deepL (erL ts) : Nat)) ∧ Below w9.heap.size w9 w') := Lib.hid (fun w9 h => deep_any ts w9 A k c (KH.out.on (hon w9 h)) KL.out (fun t ht => (KS.out t ht).on (hon w9 h)) (by have := HW2.out; omega))
        have hdw : deepL (erL ts) ≤ 12000 := by have := deepL_w (erL ts); have := HW2.out; omega
        have hhd : (htmlsB (erL ts)).data.toList = allH (erL ts) := bs_data _
        rw [HML.out, Bool.true_and] at HR2
        rw [← hhd] at HR2
        generalize htmlsB (erL ts) = hh at CA HR2 hhd
        generalize txL (erL ts) false = bt at CT HR2
        generalize deepL (erL ts) = dp at CD HR2 hdw
        clear hhd hon
        by_cases hq : hh.data.toList = s.data.toList
        · have q := bytes_eq hq
          have HR3 : Hid (getR s.data.toList = if bt && decide (dp ≤ 200) then (erL ts, 0) else ([], 7)) := Lib.hid (by rw [HR2.out, hq]; simp)
          clear HR2 hq
          go_wp2_with fail
          refine CA.out.mono ?_
          rintro e w2 ⟨rfl, b2⟩
          have B2 := Lib.hid b2
          clear b2
          go_wp2_with fail
          refine (CT.out w2 B2.out).mono ?_
          rintro e w3 ⟨rfl, b3⟩
          have B3 := Lib.hid (B2.out.trans (b3.mono B2.out.size))
          clear b3
          cases bt with
          | false =>
            go_wp2_with fail
            go_ret2
            exact got_none (by rw [HR3.out]; rfl) (B1.out.trans ((HB.out.trans (B3.out.mono HB.out.size)).mono B1.out.size))
          | true =>
            go_wp2_with fail
            refine (CD.out w3 B3.out).mono ?_
            rintro e w4 ⟨rfl, b4⟩
            have B4 := Lib.hid (B3.out.trans (b4.mono B3.out.size))
            clear b4
            by_cases hd : dp ≤ 200
            · have q2 : decide ((200 : Int) < (dp : Int)) = false := by simp; omega
              have B5 : Hid (Below w1.heap.size w1 w4) := Lib.hid (HB.out.trans (B4.out.mono HB.out.size))
              have HF : Hid (getR s.data.toList = (erL ts, 0)) := Lib.hid (by rw [HR3.out]; simp [hd])
              go_wp2_with fail
              go_ret2
              refine ⟨A, k, c, ts, by rw [HF.out]; rfl, by rw [HF.out], OW.out.below B5.out (Nat.le_refl _), fun t ht => (NW.out t ht).later B5.out, B1.out.trans (B5.out.mono B1.out.size)⟩
            · have q2 : decide ((200 : Int) < (dp : Int)) = true := by simp; omega
              go_wp2_with fail
              go_ret2
              exact got_none (by rw [HR3.out]; simp [hd]) (B1.out.trans ((HB.out.trans (B4.out.mono HB.out.size)).mono B1.out.size))
        · have q := bytes_ne hq
          have HF : Hid (getR s.data.toList = ([], 7)) := Lib.hid (by rw [HR2.out]; simp [hq])
          clear HR2 hq
          go_wp2_with fail
          refine CA.out.mono ?_
          rintro e w2 ⟨rfl, b2⟩
          have B2 := Lib.hid b2
          clear b2
          go_wp2_with fail
          go_ret2
          exact got_none HF.out (B1.out.trans ((HB.out.trans (B2.out.mono HB.out.size)).mono B1.out.size))
end Go.Proofs.Ytbdcbjeeaebfeaa.P10

/- Layer 10's example, and the walks of both laws, over the contract of the program's Get. No condition but those stated. -/
namespace Go.Proofs.Ytbdcbjeeaebfeaa.P10
open Go.RowKit Kd P4 P5 P8 P9

/-- trees that are told, in memory, and an error -/
def Parsed (w : World) (p : List PT × Nat) (e : Ending) (w' : World) : Prop := ∃ (A : Option Addr) (n c : Nat) (ts : List TV), e = .returned (.tuple #[.slice A n c, errV (p.2 : Nat)]) ∧ erL ts = p.1 ∧ ts.length = n ∧ n ≤ c ∧ c ≤ maxLen ∧ (A = none → c = 0) ∧ kT.Holds w' w'.heap.size A ts ∧ (∀ t ∈ ts, TOk w' w'.heap.size t) ∧ Below w.heap.size w w'
/-- what the program's Get is to do -/
def ParseC : Prop := ∀ (s : ByteArray) (w : World), s.size ≤ 100000000 → Bd.ML w → Calls Try.prog 6 #[.string s] w (Parsed w (getR s.data.toList))

theorem getR_cases (s : List UInt8) : getR s = ([], 13) ∨ getR s = ([], 7) ∨ ((getR s).2 = 0 ∧ s.length ≤ 6000 ∧ IsHtml s (getR s).1) := by
  by_cases h : 6000 < s.length
  · exact .inl (getR_long h)
  · by_cases hx : ∃ l, IsHtml s l
    · obtain ⟨l, hl⟩ := hx
      rw [getR_yes (by omega) hl]
      exact .inr (.inr ⟨rfl, by omega, hl⟩)
    · exact .inr (.inl (getR_no (by omega) (fun l hl => hx ⟨l, hl⟩)))
theorem getR_w (s : List UInt8) : wL (getR s).1 ≤ 12000 := by
  rcases getR_cases s with h | h | ⟨_, h, k⟩
  · rw [h]; simp [wL]
  · rw [h]; simp [wL]
  · have := guess_w s
    rw [guess_html k] at this
    simp only at this
    omega
/-! ### The example -/
def pT : PT := .mk ⟨#[112]⟩ ⟨#[]⟩ ⟨#[]⟩ [] [.mk ⟨#[]⟩ ⟨#[97]⟩ ⟨#[]⟩ [] []]
def bT : PT := .mk ⟨#[]⟩ ⟨#[98]⟩ ⟨#[]⟩ [] []
theorem c0 : (⟨#[]⟩ : ByteArray).toList = [] := by rw [ByteArray.toList_eq]
theorem c112 : (⟨#[112]⟩ : ByteArray).toList = [112] := by rw [ByteArray.toList_eq]
theorem c97 : (⟨#[97]⟩ : ByteArray).toList = [97] := by rw [ByteArray.toList_eq]
theorem c98 : (⟨#[98]⟩ : ByteArray).toList = [98] := by rw [ByteArray.toList_eq]
theorem up_html : IsHtml [60, 112, 62, 97, 60, 47, 112, 62, 98] [pT, bT] := by
  refine ⟨?_, ?_, ?_, ?_⟩
  · simp only [pT, bT, mayL, mayP, c0, c112]
    decide
  · simp only [pT, bT, plL, plT, PT.tag, PT.txt, c0, c112, c97, c98]
    decide
  · simp only [pT, bT, deepL, deepP, c0, c112]
    decide
  · simp only [pT, bT, allH, putH, c0, c112]
    decide
theorem up_get : getR [60, 112, 62, 97, 60, 47, 112, 62, 98] = ([pT, bT], 0) := getR_yes (by decide) up_html
theorem up_guess : guessL [60, 112, 62] = ([elT [112] [] []], []) := by rfl
theorem up_bad : getR [60, 112, 62] = ([], 7) := by
  refine getR_no (by decide) fun l hl => ?_
  have h := guess_html hl
  rw [up_guess] at h
  obtain rfl : [elT [112] [] []] = l := (Prod.mk.inj h).1
  have h4 := hl.2.2.2
  rw [allH, allH, elT, putH_el (by rw [bs, c112]; rfl) (by decide)] at h4
  revert h4
  simp only [openH, bs, attrsH, allH]
  decide
theorem two_of {ts : List TV} (h : erL ts = [pT, bT]) : ∃ t u, ts = [t, u] ∧ t.tag = ⟨#[112]⟩ ∧ u.txt = ⟨#[98]⟩ := by
  rw [erL_map] at h
  match ts, h with
  | [], h => simp at h
  | [t], h => simp at h
  | t :: u :: v :: r, h => simp at h
  | [t, u], h =>
    simp only [List.map_cons, List.map_nil, List.cons.injEq, and_true] at h
    refine ⟨t, u, rfl, ?_, ?_⟩
    · have := h.1
      rw [er_parts, pT] at this
      injection this
    · have := h.2
      rw [er_parts, bT] at this
      injection this
set_option maxHeartbeats 2000000 in
theorem up10_any (PG : ParseC) (w : World) (hML : Bd.ML w) : Calls Try.prog 5 #[] w fun e w' => e = .returned (.bool true) ∧ Below w.heap.size w w' := by
  have q1 := err_eql
  have q2 := err_eql_nil
  have q3 := err_neq_nil
  have q4 := nil_eql_nil
  have q5 := nil_neq_nil
  have C1 := Lib.hid (PG ⟨#[60, 112, 62, 97, 60, 47, 112, 62, 98]⟩ w (by decide) hML)
  have C2 : Hid (∀ w9, Below w.heap.size w w9 → Calls Try.prog 6 #[.string ⟨#[60, 112, 62]⟩] w9 (Parsed w9 ([], 7))) := Lib.hid (fun w9 h9 => by
    have := PG ⟨#[60, 112, 62]⟩ w9 (by decide) (hML.on h9)
    rw [show (⟨#[60, 112, 62]⟩ : ByteArray).data.toList = [60, 112, 62] from rfl, up_bad] at this
    exact this)
  rw [show (⟨#[60, 112, 62, 97, 60, 47, 112, 62, 98]⟩ : ByteArray).data.toList = [60, 112, 62, 97, 60, 47, 112, 62, 98] from rfl, up_get] at C1
  go_enter Try.func5, Try.ntmps5
  go_wp2_with fail
  refine C1.out.mono ?_
  rintro e w1 ⟨A, n, c, ts, rfl, her, hn, _, _, _, hh, _, b1⟩
  obtain ⟨t, u, rfl, ht, hu⟩ := two_of her
  have hn2 : n = 2 := by rw [← hn]; rfl
  subst hn2
  have KH := Lib.hid hh
  have B1 := Lib.hid b1
  have HT := Lib.hid ht
  have HU := Lib.hid hu
  clear her hn hh b1 ht hu C1
  have e0 : errV (((([pT, bT], 0) : List PT × Nat).2 : Nat) : Int) = .nilIface := rfl
  rw [e0]
  clear e0
  go_wp2_with fail
  refine (C2.out w1 B1.out).mono ?_
  rintro e w2 ⟨A2, n2, c2, ts2, rfl, her2, hn2, _, _, _, _, _, b2⟩
  have e7 : errV (((([], 7) : List PT × Nat).2 : Nat) : Int) = .iface 39 (.int .i64 7) := rfl
  rw [e7]
  have B2 := Lib.hid (B1.out.trans (b2.mono B1.out.size))
  obtain ⟨b, o, rfl, hb, g0, _⟩ := cell_of_trees (KH.out.on b2) (k := 0) (by simp)
  obtain ⟨b', o', e1, hb', _, h1, _⟩ := cell_of_trees (KH.out.on b2) (k := 1) (by simp)
  injection e1 with e1
  injection e1 with e1 e2
  subst e1; subst e2
  simp only [List.getElem_cons_zero, List.getElem_cons_succ, Nat.zero_mul, Nat.add_zero, Nat.one_mul] at g0 h1
  rw [HT.out] at g0
  rw [HU.out] at h1
  clear b2 e7 her2 hn2 C2
  go_wp2_with fail
  go_ret
  exact ⟨rfl, B2.out⟩

/-! ### ParseTells -/
theorem code_errV (m : Nat) (hm : m ≤ 13) (w : World) : Calls Try.prog 8 #[errV (m : Nat)] w fun e w' => e = .returned (.int .i64 m) ∧ w = w' := by
  by_cases h : m = 0
  · subst h
    have q4 := nil_eql_nil
    show Calls Try.prog 8 #[.nilIface] w _
    go_enter Try.func8, Try.ntmps8
    go_wp2
    go_ret
    exact ⟨rfl, rfl⟩
  · have e : errV ((m : Nat) : Int) = .iface 39 (.int .i64 m) := by unfold errV; rw [if_neg (by omega)]
    rw [e]
    exact code_any m (by omega) hm w
/-- a tree that has these children alone -/
def rootV (A : Option Addr) (n c : Nat) (ts : List TV) : TV := .mk ⟨#[]⟩ ⟨#[]⟩ ⟨#[]⟩ ⟨none, 0, 0⟩ [] ⟨A, n, c⟩ ts
theorem root_ok {w : World} {A : Option Addr} {n c : Nat} {ts : List TV} (h1 : ts.length = n) (h2 : n ≤ c) (h3 : A = none → c = 0) (h4 : kT.Holds w w.heap.size A ts) (h5 : ∀ t ∈ ts, TOk w w.heap.size t) : TOk w w.heap.size (rootV A n c ts) :=
  ⟨rfl, Nat.le_refl _, fun _ => rfl, Kind.Holds.nil _ _ _, h1, h2, h3, h4, h5⟩
theorem root_okP {A : Option Addr} {n c : Nat} {ts : List TV} (h : wL (erL ts) ≤ 12000) : okP (er (rootV A n c ts)) = true := by
  refine w_ok _ ?_
  rw [rootV, er, wP]
  show 0 + 0 + 0 + wA [] + wL (erL ts) + 1 ≤ 100000
  simp only [wA, List.map_nil, List.sum_nil]
  omega
theorem alike_any {ts us : List TV} {A B : Option Addr} {n c m d : Nat} (w : World) (h1 : ts.length = n) (h2 : n ≤ c) (h3 : A = none → c = 0) (h4 : kT.Holds w w.heap.size A ts) (h5 : ∀ t ∈ ts, TOk w w.heap.size t)
    (k1 : us.length = m) (k2 : m ≤ d) (k3 : B = none → d = 0) (k4 : kT.Holds w w.heap.size B us) (k5 : ∀ t ∈ us, TOk w w.heap.size t) (hw : wL (erL ts) ≤ 12000) (he : erL ts = erL us) :
    Calls Try.prog 9 #[.slice A n c, .slice B m d] w fun e w' => e = .returned (.bool true) ∧ Below w.heap.size w w' := by
  have CS : Hid (Calls Try.prog 20 #[.agg #[.string ⟨#[]⟩, .string ⟨#[]⟩, .string ⟨#[]⟩, .slice none 0 0, .slice A n c], .agg #[.string ⟨#[]⟩, .string ⟨#[]⟩, .string ⟨#[]⟩, .slice none 0 0, .slice B m d]] w fun e w' => e = .returned (.bool true) ∧ Below w.heap.size w w') := Lib.hid (by
    have := rsame_ok (rootV A n c ts) (rootV B m d us) w (root_ok h1 h2 h3 h4 h5) (root_ok k1 k2 k3 k4 k5) (root_okP hw) (root_okP (by rw [← he]; exact hw))
    rw [show er (rootV A n c ts) = er (rootV B m d us) by rw [rootV, rootV, er, er, he], sameP_refl] at this
    exact this)
  clear h1 h2 h3 h4 h5 k1 k2 k3 k4 k5 hw he
  go_enter Try.func9, Try.ntmps9
  go_wp2_with fail
  refine CS.out.mono ?_
  rintro e w1 ⟨rfl, b1⟩
  have B1 := Lib.hid b1
  clear b1
  go_wp2_with fail
  go_ret
  exact ⟨rfl, B1.out⟩
set_option maxHeartbeats 2000000 in
theorem tells10_any (PG : ParseC) (s : ByteArray) (w : World) (hML : Bd.ML w) (hs : s.size ≤ maxLen) : Calls Try.prog 3 #[.string s] w fun e w' => e = .returned (.bool true) ∧ Below w.heap.size w w' := by
  have HU := Lib.hid (up10_any PG w hML)
  have HP := Lib.hid PG
  have HML := Lib.hid hML
  unfold maxLen at hs
  clear PG hML
  go_enter Try.func3, Try.ntmps3
  go_wp2_with fail
  refine HU.out.mono ?_
  rintro e w1 ⟨rfl, b1⟩
  have B1 := Lib.hid b1
  clear b1
  by_cases h7 : 7000 < s.size
  · go_wp2_with fail
    go_ret
    exact ⟨rfl, B1.out⟩
  · have hr13 : (getR s.data.toList).2 ≤ 13 := by
      rcases getR_cases s.data.toList with h | h | ⟨h, _⟩ <;> rw [h] <;> simp
    have HW := Lib.hid (getR_w s.data.toList)
    have CR : Hid (∀ w9, Calls Try.prog 7 #[.string s] w9 (Got w9 (getR s.data.toList))) := Lib.hid (fun w9 => rget10_any s w9 (by omega))
    have CP : Hid (Calls Try.prog 6 #[.string s] w1 (Parsed w1 (getR s.data.toList))) := Lib.hid (HP.out s w1 (by omega) (HML.out.on B1.out))
    generalize getR s.data.toList = r at hr13 HW CR CP
    obtain ⟨rl, rc⟩ := r
    simp only at hr13 HW
    go_wp2_with fail
    refine CP.out.mono ?_
    rintro e w2 ⟨A, n, c, ts, rfl, her, h1, h2, _, h3, h4, h5, b2⟩
    have B2 := Lib.hid (B1.out.trans (b2.mono B1.out.size))
    have K4 := Lib.hid h4
    have K5 := Lib.hid h5
    have HER := Lib.hid her
    have H1 := Lib.hid h1
    have H2 := Lib.hid h2
    have H3 := Lib.hid h3
    clear h1 h2 h3 h4 h5 b2 her
    go_wp2_with fail
    refine (CR.out w2).mono ?_
    rintro e w3 ⟨A', n', c', us, rfl, her', own, new, b3⟩
    have B3 := Lib.hid b3
    have OI := Lib.hid (own_is own)
    have NW := Lib.hid new
    have HER' := Lib.hid her'
    have B4 := Lib.hid (B2.out.trans (b3.mono B2.out.size))
    clear own new b3 her'
    simp only
    go_wp2_with fail
    refine (code_errV rc hr13 w3).mono ?_
    rintro e w' ⟨rfl, rfl⟩
    go_wp2_with fail
    refine (alike_any (ts := ts) (us := us) w3 H1.out H2.out H3.out (K4.out.on B3.out) (fun t ht => (K5.out t ht).on B3.out) OI.out.1 OI.out.2.1 OI.out.2.2.2.1 OI.out.2.2.2.2 (fun t ht => (NW.out t ht).ok) (by rw [HER.out]; exact HW.out) (by rw [HER.out, HER'.out])).mono ?_
    rintro e w4 ⟨rfl, b4⟩
    have B5 := Lib.hid (B4.out.trans (b4.mono B4.out.size))
    clear b4
    go_wp2_with fail
    go_ret
    exact ⟨rfl, B5.out⟩
end Go.Proofs.Ytbdcbjeeaebfeaa.P10
