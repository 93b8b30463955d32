/- What placketref11.one answers. No condition but those stated. -/
import Derived.Test.YtmddlcnogckmdaaRput12
set_option linter.unusedVariables false
set_option linter.unusedSimpArgs false
namespace Go.Proofs.Ytmddlcnogckmdaa.P12
open Go.RowKit Kd P4 P11

def contK : Nat → Nat → In → List UInt8 → Option (In × List UInt8)
  | 0, _, i, r => some (i, r)
  | k + 1, m, i, r => match cut1 r with
    | none => none
    | some (t, r1) => contK k (m + 1) (if m = 0 then ⟨i.op, bs t, i.b⟩ else ⟨i.op, i.a, bs t⟩) r1
theorem cand_cont (c : UInt8) (r : List UInt8) : candI c r = contK (textsN c.toNat) 0 ⟨c.toNat, bs [], bs []⟩ r := by
  unfold candI
  rcases textsN_cases (c.toNat : Int) with e | e | e
  · rw [e, if_pos rfl, contK]
  · rw [e, if_neg (by decide), contK]
    cases cut1 r with
    | none => rfl
    | some p => rfl
  · rw [e, if_neg (by decide), contK]
    cases cut1 r with
    | none => rfl
    | some p =>
      obtain ⟨t, r1⟩ := p
      simp only
      rw [if_neg (by decide), contK]
      cases cut1 r1 with
      | none => rfl
      | some p2 => rfl
theorem textsN_le (op : Int) : textsN op ≤ 2 := by rcases textsN_cases op with e | e | e <;> omega
def zX : In := ⟨0, ⟨#[]⟩, ⟨#[]⟩⟩
def OneV (w : World) (n : Nat) (p : Option (In × List UInt8)) (e : Ending) (w' : World) : Prop :=
  (p = none ∧ e = .returned (.tuple #[.agg #[.int .i64 0, .string ⟨#[]⟩, .string ⟨#[]⟩], .int .i64 0]) ∨ ∃ i r, p = some (i, r) ∧ e = .returned (.tuple #[.agg #[.int .i64 i.op, .string i.a, .string i.b], .int .i64 ((n : Int) - (r.length : Nat))])) ∧ Below w.heap.size w w'
theorem x_end {w wr : World} {v0 v1 v2 : Value} (hb : Below w.heap.size w wr) : Below w.heap.size w (((wr.setCell ⟨w.heap.size, 0, none⟩ v0).setCell ⟨w.heap.size, 1, none⟩ v1).setCell ⟨w.heap.size, 2, none⟩ v2) :=
  ((hb.setCell (p := ⟨w.heap.size, 0, none⟩) (Nat.le_refl _) _).setCell (p := ⟨w.heap.size, 1, none⟩) (Nat.le_refl _) _).setCell (p := ⟨w.heap.size, 2, none⟩) (Nat.le_refl _) _
/-- the state of one's loop -/
def ORel (w : World) (g : Nat) (c : UInt8) (r : List UInt8) (l : List UInt8) (n : Nat) (s5 s6 : Value) (wr : World) : Prop := ∃ (m at' : Nat) (i : In), m ≤ textsN c.toNat ∧ s6 = .int .i64 m ∧ s5 = .int .i64 at' ∧ at' ≤ n ∧ i.op = c.toNat ∧ i.a.size ≤ 255 ∧ i.b.size ≤ 255 ∧
  Hid (candI c r = contK (textsN c.toNat - m) m i (l.drop at')) ∧ Hid (XB wr g i) ∧ Hid (XB wr w.heap.size zX) ∧ Hid (Below w.heap.size w wr)
theorem conv_at {w : World} {b o n cap : Nat} {l t : List UInt8} {C : Nat} (h : kB.Holds w C (some ⟨b, o, none⟩) l) (p : Nat) (ht : t.length = n) (hl : (l.drop p).take n = t) : (convert 25 9 (.slice (some ⟨b, o + p, none⟩) n cap)).run Try.prog w = .ok (.string (bs t)) w := by
  subst ht
  refine (run_convert_bytes_back (P := Try.prog) w _ _ 5 ⟨b, o + p, none⟩ cap t Try.underlying25 Try.underlying5 Try.underlying9 (fun j hj => ?_)).trans rfl
  have e : l[p + j]? = some t[j] := by
    have h1 : ((l.drop p).take t.length)[j]? = t[j]? := by rw [hl]
    rw [List.getElem?_take, if_pos hj, List.getElem?_drop] at h1
    rw [h1, List.getElem?_eq_getElem hj]
  obtain ⟨b', o', hA, _, hc⟩ := h (p + j) _ (by rw [kB_at, e]; rfl)
  injection hA with hA
  injection hA with e1 e2
  subst e1; subst e2
  rw [show (⟨b, o + p, none⟩ : Addr).add j = ⟨b, o + (p + j), none⟩ by
    unfold Addr.add
    split
    · rename_i e; subst e; rfl
    · rw [Nat.add_assoc]]
  exact hc
theorem byte_cell {w : World} {C : Nat} {A : Option Addr} {l : List UInt8} (h : kB.Holds w C A l) {k : Nat} (hk : k < l.length) : ∃ b o, A = some ⟨b, o, none⟩ ∧ b < C ∧ w.cell? ⟨b, o + k, none⟩ = some (.int .u8 (l[k].toNat : Int)) := by
  obtain ⟨b, o, hA, hb, hc⟩ := h k _ (by rw [kB_at, List.getElem?_eq_getElem hk]; rfl)
  exact ⟨b, o, hA, hb, hc⟩
theorem cut_at {l : List UInt8} {p : Nat} (h : p < l.length) : cut1 (l.drop p) = if l.length < p + 1 + l[p].toNat then none else some ((l.drop (p + 1)).take l[p].toNat, l.drop (p + 1 + l[p].toNat)) := by
  rw [List.drop_eq_getElem_cons h, cut1, List.length_drop, List.drop_drop]
  by_cases hs : l.length < p + 1 + l[p].toNat
  · rw [if_pos (by omega), if_pos hs]
  · rw [if_neg (by omega), if_neg hs]
set_option maxRecDepth 100000 in
set_option maxHeartbeats 8000000 in
theorem one_any (l : List UInt8) (A : Option Addr) (n c : Nat) (w : World) (hh : kB.Holds w w.heap.size A l) (hn : l.length = n) (h0 : 0 < n) (hnc : n ≤ c) (hl : n ≤ 100000) (hcm : c ≤ maxLen) : Calls Try.prog 23 #[.slice A n c] w (OneV w n (oneP l)) := by
  have KH := Lib.hid hh
  have KL := Lib.hid hn
  have h0l : 0 < l.length := by omega
  obtain ⟨b, o, rfl, hb, g0⟩ := byte_cell hh h0l
  obtain ⟨x, r, hxr⟩ : ∃ x r, l = x :: r := by
    cases l with
    | nil => simp at h0l
    | cons x r => exact ⟨x, r, rfl⟩
  have hx : l[0] = x := by subst hxr; rfl
  rw [hx] at g0
  have HXR := Lib.hid hxr
  have B0 : Hid (Below w.heap.size w (w.alloc (.cells #[.int .i64 0, .string ⟨#[]⟩, .string ⟨#[]⟩] 32))) := Lib.hid ((Below.refl _ _).alloc (Nat.le_refl _) _)
  have Z0 : Hid (XB (w.alloc (.cells #[.int .i64 0, .string ⟨#[]⟩, .string ⟨#[]⟩] 32)) w.heap.size zX) := Lib.hid (XB.new w zX)
  have hxi : IntKind.i64.wrap (x.toNat : Int) = (x.toNat : Int) := by
    have := x.toNat_lt
    simp [IntKind.wrap, IntKind.bits, IntKind.signed]
    omega
  have hcm' : c ≤ 9223372036854775807 := by unfold maxLen at hcm; omega
  clear hh hn hxr hx hcm
  go_enter Try.func23, Try.ntmps23
  go_upto_region 1 with fail
  have g0 := (B0.out.cell (p := ⟨b, o + 0, none⟩) hb).trans g0
  simp only [Nat.add_zero] at g0
  generalize w.alloc (.cells #[.int .i64 0, .string ⟨#[]⟩, .string ⟨#[]⟩] 32) = W at B0 Z0 g0 ⊢
  have i0 : (0 : Int) < (n : Int) := by omega
  go_upto_region 2 with fail
  have X1 : Hid (XB (W.alloc (.cells #[.int .i64 (x.toNat : Int), .string ⟨#[]⟩, .string ⟨#[]⟩] 32)) W.heap.size ⟨x.toNat, bs [], bs []⟩) := Lib.hid (XB.new W ⟨x.toNat, bs [], bs []⟩)
  have BA : Hid (Below W.heap.size W (W.alloc (.cells #[.int .i64 (x.toNat : Int), .string ⟨#[]⟩, .string ⟨#[]⟩] 32))) := Lib.hid ((Below.refl _ _).alloc (Nat.le_refl _) _)
  generalize W.alloc (.cells #[.int .i64 (x.toNat : Int), .string ⟨#[]⟩, .string ⟨#[]⟩] 32) = W2 at X1 BA ⊢
  have Z1 := Lib.hid (Z0.out.below BA.out Z0.out.lt)
  have B1 := Lib.hid (B0.out.trans (BA.out.mono B0.out.size))
  have hg : w.heap.size < W.heap.size := Z0.out.lt
  generalize W.heap.size = g at X1 hg ⊢
  clear g0 Z0 B0 BA hxi
  have ST : Hid (ORel w g x r l n (.int .i64 1) (.int .i64 0) W2) := Lib.hid ⟨0, 1, ⟨x.toNat, bs [], bs []⟩, by omega, rfl, rfl, by omega, rfl, by rw [bs_size]; simp, by rw [bs_size]; simp, Lib.hid (by rw [cand_cont, HXR.out]; rfl), X1, Z1, B1⟩
  clear X1 Z1 B1
  go_wp2_with fail
  go_loopw [5, 6] (fun s5 s6 wr => ORel w g x r l n s5 s6 wr) (fun _ s6 _ => 3 - (intOf s6).toNat)
  case atStart => exact ST.out
  case round =>
    obtain ⟨m, at', i, hm, rfl, rfl, hat, hop, hza, hzb, HC, HX, HZ, HB⟩ := hrel
    clear ST
    have hT2 := textsN_le (x.toNat : Int)
    have c0 := HX.out.c0
    rw [hop] at c0
    obtain ⟨T, hT⟩ : ∃ T, textsN (x.toNat : Int) = T := ⟨_, rfl⟩
    rw [hT] at hm hT2 HC
    have HT := Lib.hid hT
    clear hT
    go_wp2_with fail
    refine (texts_any (x.toNat : Int) wr).mono ?_
    rintro e w' ⟨rfl, rfl⟩
    rw [HT.out]
    by_cases hmT : m < T
    · by_cases hlt : at' < n
      ·
        have hal : at' < l.length := by have := KL.out; omega
        have CA := Lib.hid (cut_at hal)
        obtain ⟨b1, o1, e1, hb1, g0⟩ := byte_cell (KH.out.on HB.out) hal
        injection e1 with e1
        injection e1 with e1 e2
        subst e1; subst e2
        have hk := l[at'].toNat_lt
        have i1 : (0 : Int) ≤ (at' : Int) := by omega
        have i2 : (at' : Int) < (n : Int) := by omega
        obtain ⟨y, hy⟩ : ∃ y, l[at'].toNat = y := ⟨_, rfl⟩
        rw [hy] at g0 hk CA
        clear hy
        have hyi : IntKind.i64.wrap (y : Int) = (y : Int) := by
          simp [IntKind.wrap, IntKind.bits, IntKind.signed]
          omega
        by_cases hend : n < at' + 1 + y
        · have HC2 : Hid (candI x r = none) := Lib.hid (by
            obtain ⟨q, hq⟩ : ∃ q, T - m = q + 1 := ⟨T - m - 1, by omega⟩
            rw [HC.out, hq, contK, CA.out, if_pos (by rw [KL.out]; exact hend)])
          have HN : Hid (oneP l = none) := Lib.hid (by rw [HXR.out, oneP, HC2.out])
          have z0 := HZ.out.c0; have z1 := HZ.out.c1; have z2 := HZ.out.c2
          simp only [zX] at z0 z1 z2
          have zf := HZ.out.fr
          have hzl : w.heap.size < wr.heap.size := HZ.out.lt
          go_wp2_with fail
          refine bodyPost_ret (v := .tuple #[.agg #[.int .i64 0, .string ⟨#[]⟩, .string ⟨#[]⟩], .int .i64 0]) (by simp [results, Try.results23, go_sem, z0, z1, z2, hzl]) rfl ⟨.inl ⟨HN.out, rfl⟩, x_end HB.out⟩
        · have hlen : ((l.drop (at' + 1)).take y).length = y := by rw [List.length_take, List.length_drop, KL.out]; omega
          obtain ⟨t, ht⟩ : ∃ t, (l.drop (at' + 1)).take y = t := ⟨_, rfl⟩
          have HTK := Lib.hid ht
          rw [ht] at hlen
          have HC2 : Hid (candI x r = contK (T - (m + 1)) (m + 1) (if m = 0 then ⟨i.op, bs t, i.b⟩ else ⟨i.op, i.a, bs t⟩) (l.drop (at' + 1 + y))) := Lib.hid (by
            obtain ⟨q, hq⟩ : ∃ q, T - m = q + 1 := ⟨T - m - 1, by omega⟩
            rw [HC.out, hq, contK, CA.out, if_neg (by rw [KL.out]; exact hend), ht, show T - (m + 1) = q by omega])
          clear ht CA HC
          have kc := conv_at (cap := c - (at' + 1)) (KH.out.on HB.out) (at' + 1) hlen HTK.out
          have j1 : (at' : Int) + 1 ≤ (at' : Int) + 1 + (y : Int) := by omega
          have j2 : (at' : Int) + 1 + (y : Int) ≤ (n : Int) := by omega
          have c1 := HX.out.c1; have c2 := HX.out.c2
          have xf := HX.out.fr
          obtain ⟨op, a, bb⟩ := i
          simp only at hop hza hzb c1 c2 HC2
          by_cases hm0 : m = 0
          · subst hm0
            by_cases hcap : c = at' + 1
            · subst hcap
              have hy0 : y = 0 := by omega
              have kc2 := conv_at (cap := 0) (KH.out.on HB.out) 0 hlen (t := t) (by rw [hy0, List.take_zero]; exact (List.eq_nil_of_length_eq_zero (by omega)).symm)
              simp only [Nat.add_zero] at kc2
              clear hy0
              have X2 : Hid (XB (wr.setCell ⟨g, 1, none⟩ (.string (bs t))) g ⟨op, bs t, bb⟩) := Lib.hid (heap_set HX.out 1 _)
              have Z2 : Hid (XB (wr.setCell ⟨g, 1, none⟩ (.string (bs t))) w.heap.size zX) := Lib.hid ((Below.heap_setCell wr _ _ _ (by show w.heap.size ≠ g; omega)).trans HZ.out)
              have B2 : Hid (Below w.heap.size w (wr.setCell ⟨g, 1, none⟩ (.string (bs t)))) := Lib.hid (HB.out.setCell (p := ⟨g, 1, none⟩) (by show w.heap.size ≤ g; omega) _)
              have REL : Hid (ORel w g x r l n (.int .i64 ((at' : Int) + 1 + (y : Int))) (.int .i64 ((0 : Nat) + 1 : Nat)) (wr.setCell ⟨g, 1, none⟩ (.string (bs t)))) := Lib.hid ⟨0 + 1, at' + 1 + y, ⟨op, bs t, bb⟩, by rw [HT.out]; omega, rfl, by simp, by omega, hop, by rw [bs_size]; omega, hzb, Lib.hid (by rw [HC2.out, HT.out]; rfl), X2, Z2, B2⟩
              clear X2 Z2 B2 HC2
              go_wp2_with fail
              go_roundw
              case rel => exact REL.out
              case measure => simp [intOf]
            · have X2 : Hid (XB (wr.setCell ⟨g, 1, none⟩ (.string (bs t))) g ⟨op, bs t, bb⟩) := Lib.hid (heap_set HX.out 1 _)
              have Z2 : Hid (XB (wr.setCell ⟨g, 1, none⟩ (.string (bs t))) w.heap.size zX) := Lib.hid ((Below.heap_setCell wr _ _ _ (by show w.heap.size ≠ g; omega)).trans HZ.out)
              have B2 : Hid (Below w.heap.size w (wr.setCell ⟨g, 1, none⟩ (.string (bs t)))) := Lib.hid (HB.out.setCell (p := ⟨g, 1, none⟩) (by show w.heap.size ≤ g; omega) _)
              have REL : Hid (ORel w g x r l n (.int .i64 ((at' : Int) + 1 + (y : Int))) (.int .i64 ((0 : Nat) + 1 : Nat)) (wr.setCell ⟨g, 1, none⟩ (.string (bs t)))) := Lib.hid ⟨0 + 1, at' + 1 + y, ⟨op, bs t, bb⟩, by rw [HT.out]; omega, rfl, by simp, by omega, hop, by rw [bs_size]; omega, hzb, Lib.hid (by rw [HC2.out, HT.out]; rfl), X2, Z2, B2⟩
              clear X2 Z2 B2 HC2
              go_wp2_with fail
              go_roundw
              case rel => exact REL.out
              case measure => simp [intOf]
          · have qm : ((m : Int) == 0) = false := by simp; omega
            by_cases hcap : c = at' + 1
            · subst hcap
              have hy0 : y = 0 := by omega
              have kc2 := conv_at (cap := 0) (KH.out.on HB.out) 0 hlen (t := t) (by rw [hy0, List.take_zero]; exact (List.eq_nil_of_length_eq_zero (by omega)).symm)
              simp only [Nat.add_zero] at kc2
              clear hy0
              have X2 : Hid (XB (wr.setCell ⟨g, 2, none⟩ (.string (bs t))) g ⟨op, a, bs t⟩) := Lib.hid (heap_set HX.out 2 _)
              have Z2 : Hid (XB (wr.setCell ⟨g, 2, none⟩ (.string (bs t))) w.heap.size zX) := Lib.hid ((Below.heap_setCell wr _ _ _ (by show w.heap.size ≠ g; omega)).trans HZ.out)
              have B2 : Hid (Below w.heap.size w (wr.setCell ⟨g, 2, none⟩ (.string (bs t)))) := Lib.hid (HB.out.setCell (p := ⟨g, 2, none⟩) (by show w.heap.size ≤ g; omega) _)
              have REL : Hid (ORel w g x r l n (.int .i64 ((at' : Int) + 1 + (y : Int))) (.int .i64 ((m : Nat) + 1 : Nat)) (wr.setCell ⟨g, 2, none⟩ (.string (bs t)))) := Lib.hid ⟨m + 1, at' + 1 + y, ⟨op, a, bs t⟩, by rw [HT.out]; omega, rfl, by simp, by omega, hop, hza, by rw [bs_size]; omega, Lib.hid (by rw [HC2.out, HT.out]; rw [if_neg hm0]), X2, Z2, B2⟩
              clear X2 Z2 B2 HC2
              go_wp2_with fail
              go_roundw
              case rel => exact REL.out
              case measure => simp [intOf]; omega
            · have X2 : Hid (XB (wr.setCell ⟨g, 2, none⟩ (.string (bs t))) g ⟨op, a, bs t⟩) := Lib.hid (heap_set HX.out 2 _)
              have Z2 : Hid (XB (wr.setCell ⟨g, 2, none⟩ (.string (bs t))) w.heap.size zX) := Lib.hid ((Below.heap_setCell wr _ _ _ (by show w.heap.size ≠ g; omega)).trans HZ.out)
              have B2 : Hid (Below w.heap.size w (wr.setCell ⟨g, 2, none⟩ (.string (bs t)))) := Lib.hid (HB.out.setCell (p := ⟨g, 2, none⟩) (by show w.heap.size ≤ g; omega) _)
              have REL : Hid (ORel w g x r l n (.int .i64 ((at' : Int) + 1 + (y : Int))) (.int .i64 ((m : Nat) + 1 : Nat)) (wr.setCell ⟨g, 2, none⟩ (.string (bs t)))) := Lib.hid ⟨m + 1, at' + 1 + y, ⟨op, a, bs t⟩, by rw [HT.out]; omega, rfl, by simp, by omega, hop, hza, by rw [bs_size]; omega, Lib.hid (by rw [HC2.out, HT.out]; rw [if_neg hm0]), X2, Z2, B2⟩
              clear X2 Z2 B2 HC2
              go_wp2_with fail
              go_roundw
              case rel => exact REL.out
              case measure => simp [intOf]; omega
      ·
        obtain rfl : at' = n := by omega
        have HC2 : Hid (candI x r = none) := Lib.hid (by
          obtain ⟨q, hq⟩ : ∃ q, T - m = q + 1 := ⟨T - m - 1, by omega⟩
          rw [HC.out, hq, contK, List.drop_of_length_le (by rw [KL.out]; exact Nat.le_refl _)]
          rfl)
        have HN : Hid (oneP l = none) := Lib.hid (by rw [HXR.out, oneP, HC2.out])
        have z0 := HZ.out.c0; have z1 := HZ.out.c1; have z2 := HZ.out.c2
        simp only [zX] at z0 z1 z2
        have zf := HZ.out.fr
        have hzl : w.heap.size < wr.heap.size := HZ.out.lt
        go_wp2_with fail
        refine bodyPost_ret (v := .tuple #[.agg #[.int .i64 0, .string ⟨#[]⟩, .string ⟨#[]⟩], .int .i64 0]) (by simp [results, Try.results23, go_sem, z0, z1, z2, hzl]) rfl ⟨.inl ⟨HN.out, rfl⟩, x_end HB.out⟩
    · obtain rfl : m = T := by omega
      have HC2 : Hid (candI x r = some (i, l.drop at')) := Lib.hid (by rw [HC.out, Nat.sub_self, contK])
      have c1 := HX.out.c1; have c2 := HX.out.c2
      obtain ⟨op, a, bb⟩ := i
      simp only at hop hza hzb c1 c2
      have hmx1 : a.size ≤ maxLen := by unfold maxLen; omega
      have hmx2 : bb.size ≤ maxLen := by unfold maxLen; omega
      go_wp2_with fail
      refine (rmayI_any ⟨(x.toNat : Int), a, bb⟩ wr hmx1 hmx2).mono ?_
      rintro e w2 ⟨rfl, b2⟩
      subst hop
      obtain ⟨bm, hbm⟩ : ∃ z, mayI ⟨(x.toNat : Int), a, bb⟩ = z := ⟨_, rfl⟩
      rw [hbm]
      have HBM := Lib.hid hbm
      have HZ := Lib.hid (HZ.out.below b2 HZ.out.lt)
      have HX := Lib.hid (HX.out.below b2 HX.out.lt)
      have HB := Lib.hid (HB.out.trans (b2.mono HB.out.size))
      clear b2 hbm c0 c1 c2
      cases bm with
      | false =>
        have HN : Hid (oneP l = none) := Lib.hid (by rw [HXR.out, oneP, HC2.out]; simp only; rw [if_neg (by rw [HBM.out]; decide)])
        have z0 := HZ.out.c0; have z1 := HZ.out.c1; have z2 := HZ.out.c2
        simp only [zX] at z0 z1 z2
        have zf := HZ.out.fr
        have hzl : w.heap.size < w2.heap.size := HZ.out.lt
        go_wp2_with fail
        refine bodyPost_ret (v := .tuple #[.agg #[.int .i64 0, .string ⟨#[]⟩, .string ⟨#[]⟩], .int .i64 0]) (by simp [results, Try.results23, go_sem, z0, z1, z2, hzl]) rfl ⟨.inl ⟨HN.out, rfl⟩, x_end HB.out⟩
      | true =>
        have c0 := HX.out.c0; have c1 := HX.out.c1; have c2 := HX.out.c2
        simp only at c0 c1 c2
        have HN : Hid (oneP l = some (⟨(x.toNat : Int), a, bb⟩, l.drop at')) := Lib.hid (by rw [HXR.out] at HC2 ⊢; rw [oneP, HC2.out]; simp only; rw [if_pos HBM.out])
        have z0 := HZ.out.c0; have z1 := HZ.out.c1; have z2 := HZ.out.c2
        simp only [zX] at z0 z1 z2
        have zf := HZ.out.fr
        have hzl : w.heap.size < w2.heap.size := HZ.out.lt
        have hgn : g ≠ w.heap.size := by omega
        have HL : Hid (((l.drop at').length : Int) = (n : Int) - (at' : Int)) := Lib.hid (by rw [List.length_drop, KL.out]; omega)
        go_wp2_with fail
        refine bodyPost_ret (v := .tuple #[.agg #[.int .i64 (x.toNat : Int), .string a, .string bb], .int .i64 (at' : Int)]) (by simp [results, Try.results23, go_sem, z0, z1, z2, hzl]) rfl ⟨.inr ⟨_, _, HN.out, ?_⟩, x_end HB.out⟩
        rw [HL.out, show (n : Int) - ((n : Int) - (at' : Int)) = (at' : Int) by omega]
end Go.Proofs.Ytmddlcnogckmdaa.P12
