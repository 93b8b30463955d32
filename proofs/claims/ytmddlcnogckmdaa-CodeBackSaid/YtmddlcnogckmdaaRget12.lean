/- What placketref11.Get answers. No condition but those stated. -/
import Derived.Test.YtmddlcnogckmdaaOne12
set_option linter.unusedVariables false
set_option linter.unusedSimpArgs false
namespace Go.Proofs.Ytmddlcnogckmdaa.P12
open Go.RowKit Kd P4 P11

/-- instructions of one's own, and a number -/
def Xv (w : World) (p : List In × Nat) (e : Ending) (w' : World) : Prop := ∃ (A : Option Addr) (n c : Nat) (l : List In), e = .returned (.tuple #[.slice A n c, .int .i64 (p.2 : Nat)]) ∧ l = p.1 ∧ kX.Own w' w.heap.size (.slice A n c) l ∧ Below w.heap.size w w'
theorem xv_none {w w' : World} {p : List In × Nat} {k : Nat} (h : p = ([], k)) (hb : Below w.heap.size w w') : Xv w p (.returned (.tuple #[.slice none 0 0, .int .i64 (k : Nat)])) w' := by
  subst h
  exact ⟨none, 0, 0, [], rfl, rfl, Kind.Own.nil kX w' _, hb⟩
def GRel (w : World) (b0 : List UInt8) (s0 s4 : Value) (wr : World) : Prop := ∃ (A : Option Addr) (n c : Nat) (x : List UInt8) (A' : Option Addr) (n' c' : Nat) (acc : List In) (f : Nat), s0 = .slice A n c ∧ s4 = .slice A' n' c' ∧ x.length = n ∧ n ≤ c ∧ c ≤ maxLen ∧ n ≤ 100000 ∧ n < f ∧ acc.length ≤ 120 ∧
  Hid (getP b0 = getI f x acc) ∧ Hid (kB.Holds w w.heap.size A x) ∧ Hid (kX.Own wr w.heap.size (.slice A' n' c') acc) ∧ Hid (Below w.heap.size w wr)
theorem ownX_len {w : World} {B : Nat} {A : Option Addr} {n c : Nat} {l : List In} (h : kX.Own w B (.slice A n c) l) : l.length = n := by
  obtain ⟨A', n', c', hv, e1, e2, e3, e4, e5⟩ := h.slice
  injection hv with h1 h2 h3
  rw [e1, ← h2]
set_option maxRecDepth 100000 in
set_option maxHeartbeats 4000000 in
theorem rget_any (b0 : List UInt8) (A : Option Addr) (n c : Nat) (w : World) (hh : kB.Holds w w.heap.size A b0) (hn : b0.length = n) (hnc : n ≤ c) (hcm : c ≤ maxLen) (hl : n ≤ 100000) : Calls Try.prog 12 #[.slice A n c] w (Xv w (getP b0)) := by
  have ST : Hid (GRel w b0 (.slice A n c) (.slice none 0 0) w) := Lib.hid ⟨A, n, c, b0, none, 0, 0, [], b0.length + 1, rfl, rfl, hn, hnc, hcm, hl, by omega, by simp, Lib.hid rfl, Lib.hid hh, Lib.hid (Kind.Own.nil kX w _), Lib.hid (Below.refl _ _)⟩
  clear hh hn hnc hcm hl
  go_enter Try.func12, Try.ntmps12
  go_wp2_with fail
  go_loopw [0, 4] (fun s0 s4 wr => GRel w b0 s0 s4 wr) (fun s0 _ _ => match s0 with | .slice _ n _ => n | _ => 0)
  case atStart => exact ST.out
  case round =>
    obtain ⟨A, n, c, x, A', n', c', acc, f, rfl, rfl, hxn, hnc, hcm, hn1, hf, hac, HG, HH, HO, HB⟩ := hrel
    clear ST
    have hcm' : c ≤ 9223372036854775807 := by unfold maxLen at hcm; omega
    by_cases h0 : 0 < n
    · obtain ⟨f2, rfl⟩ : ∃ q, f = q + 1 := ⟨f - 1, by omega⟩
      have hxne : x ≠ [] := fun e => by rw [e] at hxn; simp at hxn; omega
      have hal := ownX_len HO.out
      have CO : Hid (Calls Try.prog 23 #[.slice A n c] wr (OneV wr n (oneP x))) := Lib.hid (one_any x A n c wr ((HH.out.below HB.out (Nat.le_refl _)).more HB.out.size) hxn h0 hnc hn1 hcm)
      cases ho : oneP x with
      | none =>
        rw [ho] at CO
        have HR : Hid (getP b0 = ([], 7)) := Lib.hid (by rw [HG.out, getI, if_neg hxne, ho])
        go_wp2_with fail
        refine CO.out.mono ?_
        rintro e w2 ⟨hv, b2⟩
        rcases hv with ⟨_, rfl⟩ | ⟨i, r, hv, _⟩
        · have B2 := Lib.hid (HB.out.trans (b2.mono HB.out.size))
          clear b2
          go_wp2_with fail
          go_ret2
          exact xv_none HR.out (B2.out.alloc B2.out.size _)
        · cases hv
      | some p =>
        obtain ⟨i, r⟩ := p
        rw [ho] at CO
        obtain ⟨hb1, hb2⟩ := one_back ho
        have hip := insH_pos i
        have hlen := congrArg List.length hb1
        rw [List.length_append, hxn] at hlen
        obtain ⟨k, hk⟩ : ∃ k, (insH i).length = k := ⟨_, rfl⟩
        rw [hk] at hip hlen
        have hrd : r = x.drop k := by rw [hb1, ← hk, List.drop_left]
        have HRD := Lib.hid hrd
        have HI := Lib.hid hb2
        have hkn : ((n : Int) - (r.length : Nat)) = (k : Int) := by omega
        have GN : Hid (getI (f2 + 1) x acc = if acc.length = 120 then ([], 13) else getI f2 r (acc ++ [i])) := Lib.hid (by rw [getI, if_neg hxne, ho])
        have HRL : Hid (r.length + k = n) := Lib.hid (by omega)
        have hk1 : 1 ≤ k := hip
        have hk2 : k ≤ n := by omega
        clear ho hb1 hb2 hip hlen hk hrd hxne
        go_wp2_with fail
        refine CO.out.mono ?_
        rintro e w2 ⟨hv, b2⟩
        rcases hv with ⟨hv, _⟩ | ⟨i', r', hv, rfl⟩
        · cases hv
        injection hv with hv
        injection hv with e1 e2
        subst e1; subst e2
        rw [hkn]
        clear hkn
        have B2 := Lib.hid (HB.out.trans (b2.mono HB.out.size))
        have O2 := Lib.hid (HO.out.below b2 (Nat.le_refl _))
        have qk : ((k : Int) == 0) = false := by simp; omega
        clear b2 CO
        go_upto_region 4 with fail
        have NA : Hid (XB (w2.alloc (.cells #[.int .i64 i.op, .string i.a, .string i.b] 32)) w2.heap.size i) := Lib.hid (XB.new w2 i)
        have BA : Hid (Below w2.heap.size w2 (w2.alloc (.cells #[.int .i64 i.op, .string i.a, .string i.b] 32))) := Lib.hid ((Below.refl _ _).alloc (Nat.le_refl _) _)
        generalize w2.alloc (.cells #[.int .i64 i.op, .string i.a, .string i.b] 32) = w3 at NA BA ⊢
        have O3 := Lib.hid (O2.out.below BA.out (Nat.le_refl _))
        have B3 := Lib.hid (B2.out.trans (BA.out.mono B2.out.size))
        have hb3 := B3.out.size
        have g0 := NA.out.c0; have g1 := NA.out.c1; have g2 := NA.out.c2
        clear NA BA O2 B2
        by_cases h120 : acc.length = 120
        · have HR : Hid (getP b0 = ([], 13)) := Lib.hid (by rw [HG.out, GN.out, if_pos h120])
          have q1 : ((n' : Int) == 120) = true := by simp; omega
          go_wp2_with fail
          go_ret2
          exact xv_none HR.out B3.out
        · have HR : Hid (getP b0 = getI f2 r (acc ++ [i])) := Lib.hid (by rw [HG.out, GN.out, if_neg h120])
          have q1 : ((n' : Int) == 120) = false := by simp; omega
          have i1 : (k : Int) ≤ (n : Int) := by omega
          go_upto_region 9 with (at_builtin; refine kX.wp_app rfl _ _ rfl (v := .slice A' n' c') (l := acc) (m := [i]) (B := w.heap.size) rfl (O3.out.alloc _) rfl rfl (fun e => by cases e) (Kind.Holds.lit (heap_alloc_new _ _) rfl) (by simp; omega) (by simp; omega) ?_; intro v' w4 hown' hgrow hat; obtain ⟨A4, n4, c4, rfl, e1, e2, e3, e4, e5⟩ := hown'.slice; have B4 : Hid (Below w.heap.size w w4) := Lib.hid ((B3.out.alloc hb3 _).grown hgrow (by simp; omega) (fun k hk => (O3.out.lt hk).1)); have O4 := Lib.hid hown'; clear hown' hgrow hat e1 e2 e3 e4 e5)
          clear g0 g1 g2 O3 B3 hb3
          cases A with
          | none =>
            exfalso
            have hz : x = [] := by
              cases hx : x with
              | nil => rfl
              | cons a t =>
                obtain ⟨_, _, hA, _⟩ := byte_cell HH.out (k := 0) (by rw [hx]; simp)
                cases hA
            rw [hz] at hxn
            simp at hxn
            omega
          | some ad =>
            obtain ⟨ab, ao, sp⟩ := ad
            obtain rfl : sp = none := by
              obtain ⟨_, _, hA, _⟩ := byte_cell HH.out (k := 0) (by omega)
              injection hA with hA
              injection hA with _ _ hA
            have HD : Hid (kB.Holds w w.heap.size (some ⟨ab, ao + k, none⟩) r) := Lib.hid (by
              rw [HRD.out]
              have := HH.out.drop k
              simpa [kB] using this)
            by_cases hcap : c = k
            · subst hcap
              have hnk : n = c := by omega
              have REL : Hid (GRel w b0 (.slice (some ⟨ab, ao, none⟩) 0 0) (.slice A4 n4 c4) w4) := Lib.hid ⟨_, 0, 0, [], A4, n4, c4, acc ++ [i], f2, rfl, rfl, rfl, by omega, by simp [maxLen], by omega, by omega, by simp; omega, Lib.hid (by
                rw [HR.out]
                have h1 := HRL.out
                have : r = [] := List.eq_nil_of_length_eq_zero (by omega)
                rw [this]), Lib.hid (Kind.Holds.nil _ _ _), O4, B4⟩
              subst hnk
              go_wp2_with fail
              go_roundw
              case rel => exact REL.out
              case measure => simp; omega
            · have hlt : n - k < n := by omega
              have REL : Hid (GRel w b0 (.slice (some ⟨ab, ao + k, none⟩) (n - k) (c - k)) (.slice A4 n4 c4) w4) := Lib.hid ⟨_, n - k, c - k, r, A4, n4, c4, acc ++ [i], f2, rfl, rfl, by have := HRL.out; omega, by omega, by omega, by omega, by omega, by simp; omega, HR, HD, O4, B4⟩
              go_wp2_with fail
              go_roundw
              case rel => exact REL.out
              case measure => exact hlt
    · obtain ⟨f2, rfl⟩ : ∃ q, f = q + 1 := ⟨f - 1, by omega⟩
      have HR : Hid (getP b0 = (acc, 0)) := Lib.hid (by rw [HG.out, getI, if_pos (List.eq_nil_of_length_eq_zero (by omega))])
      go_wp2_with fail
      go_ret2
      exact ⟨A', n', c', acc, by rw [HR.out]; rfl, by rw [HR.out], HO.out, HB.out⟩
end Go.Proofs.Ytmddlcnogckmdaa.P12
