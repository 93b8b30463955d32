/- What the program's wish.get and wish.getAll answer. No condition but those stated. -/
import Derived.Test.YtfjnbjpenibpkaaM33
set_option linter.unusedVariables false
set_option linter.unusedSimpArgs false
set_option linter.unusedVariables false
set_option linter.unusedSimpArgs false
namespace Go.Proofs.Ytfjnbjpenibpkaa.P14
open Go.RowKit Kd P4 P5 P11 P12 P13
attribute [local go_sem ↓] Go.wp_at_zero Go.wp_at_succ

set_option maxRecDepth 100000 in
set_option maxHeartbeats 16000000 in
theorem get_elem (op : Int) (tag key : ByteArray) (r rest : List In) (t : PW) (A : Option Addr) (n c C : Nat) (w : World) (hop : op = 1 ∨ op = 3) (h : Rs w C A n c (⟨op, tag, key⟩ :: r)) (hC : C ≤ w.heap.size)
    (CE : ∀ wz : World, Below w.heap.size w wz → Calls Try.prog 27 #[.slice A n c] wz (GotV wz C t rest)) : Calls Try.prog 19 #[.slice A n c] w (GotV w C t rest) := by
  obtain ⟨b, o, rfl, hb, g0', _, _, hl, h0, _, _⟩ := h.cons
  have HCE := Lib.hid CE
  have hbw : b < w.heap.size := Nat.lt_of_lt_of_le hb hC
  have q4 : (op == 4) = false := by rcases hop with rfl | rfl <;> rfl
  have q8 : (op == 8) = false := by rcases hop with rfl | rfl <;> rfl
  have q7 : (op == 7) = false := by rcases hop with rfl | rfl <;> rfl
  simp only at g0'
  clear h hl CE hop
  go_enter Try.func19, Try.ntmps19
  go_upto_region 1 with fail
  have Z0 : Hid (WB (w.alloc (.cells #[.int .i64 0, .string ⟨#[]⟩, .string ⟨#[]⟩, .string ⟨#[]⟩, .slice none 0 0, .slice none 0 0] 46)) w.heap.size zWV) := Lib.hid (WB.new w zWV)
  have B0 : Hid (Below w.heap.size w (w.alloc (.cells #[.int .i64 0, .string ⟨#[]⟩, .string ⟨#[]⟩, .string ⟨#[]⟩, .slice none 0 0, .slice none 0 0] 46))) := Lib.hid ((Below.refl _ _).alloc (Nat.le_refl _) _)
  generalize w.alloc (.cells #[.int .i64 0, .string ⟨#[]⟩, .string ⟨#[]⟩, .string ⟨#[]⟩, .slice none 0 0, .slice none 0 0] 46) = wa at Z0 B0 ⊢
  have g0 := (B0.out.cell (p := ⟨b, o, none⟩) hbw).trans g0'
  have CE := Lib.hid (HCE.out wa B0.out)
  have hzl : w.heap.size < wa.heap.size := Z0.out.lt
  clear g0' HCE
  go_wp2_with fail
  refine CE.out.mono ?_
  rintro e w2 ⟨tv, A2, n2, c2, rfl, her, new2, r2, b2⟩
  have Z2 := Lib.hid (Z0.out.below b2 Z0.out.lt)
  have B2 := Lib.hid (B0.out.trans (b2.mono B0.out.size))
  have R2 := Lib.hid (r2.back B0.out hC)
  have N2 : Hid (WNew kW w2 (fun b => w.heap.size < b) tv) := Lib.hid (new2.mono (fun b _ hb => by omega))
  have HER := Lib.hid her
  have z0 := Z2.out.c0; have z1 := Z2.out.c1; have z2 := Z2.out.c2; have z3 := Z2.out.c3; have z4 := Z2.out.c4; have z5 := Z2.out.c5
  simp only [WV.kind, WV.tag, WV.key, WV.txt, WV.sa, WV.sk, zWV] at z0 z1 z2 z3 z4 z5
  have zf := Z2.out.fr
  have hz2 : w.heap.size < w2.heap.size := Z2.out.lt
  clear her new2 r2 b2 g0 CE Z0 hzl
  go_wp2_with fail
  refine bodyPost_ret (v := .tuple #[.agg #[.int .i64 tv.kind, .string tv.tag, .string tv.key, .string tv.txt, .slice tv.sa.A tv.sa.n tv.sa.c, .slice tv.sk.A tv.sk.n tv.sk.c], .slice A2 n2 c2]) (by simp [results, Try.results19, go_sem, z0, z1, z2, z3, z4, z5, hz2]) rfl ⟨tv, A2, n2, c2, rfl, HER.out, ?_, R2.out, ?_⟩
  · exact (el_fin Z2.out N2.out B2.out (setOne (setOne (setOne (setOne (setOne (setOne (But.refl _ _)))))))).1
  · exact (el_fin Z2.out N2.out B2.out (setOne (setOne (setOne (setOne (setOne (setOne (But.refl _ _)))))))).2
theorem back_tx (t : ByteArray) : backW (.mk 2 z0 z0 t [] []) = [⟨4, t, z0⟩] := by simp [backW]
theorem back_nd : backW (.mk 3 z0 z0 z0 [] []) = [⟨8, z0, z0⟩] := by simp [backW]
theorem back_al : backW (.mk 4 z0 z0 z0 [] []) = [⟨7, z0, z0⟩] := by simp [backW]
def GetOneC (t : PW) : Prop := ∀ (rest : List In) (A : Option Addr) (n c C : Nat) (w : World), HeadT rest → Rs w C A n c (backW t ++ rest) → C ≤ w.heap.size → Calls Try.prog 19 #[.slice A n c] w (GotV w C t rest)
theorem get_one {t : PW} (hwf : WfW t) (IH : GetC t.kids) : GetOneC t := by
  intro rest A n c C w hT h hC
  cases hwf with
  | el hm ha hk =>
    rw [back_open (may_open hm)] at h
    simp only [List.cons_append, List.append_assoc, List.nil_append] at h
    exact get_elem 1 _ _ _ rest _ A n c C w (.inl rfl) h hC (fun wz hz => getOpen_any _ _ _ _ rest A n c C wz IH hk (h.below hz hC) (Nat.le_trans hC hz.size))
  | vo hm ha =>
    rw [back_void (may_void hm)] at h
    simp only [List.cons_append] at h
    exact get_elem 3 _ _ _ rest _ A n c C w (.inr rfl) h hC (fun wz hz => getVoid_any _ _ _ rest A n c C wz hT (h.below hz hC) (Nat.le_trans hC hz.size))
  | tx hm =>
    rw [back_tx] at h
    exact getSmall_any 4 2 _ _ _ rest A n c C w (.inl ⟨rfl, rfl, rfl⟩) h hC
  | nd =>
    rw [back_nd] at h
    exact getSmall_any 8 3 _ _ _ rest A n c C w (.inr (.inl ⟨rfl, rfl, rfl⟩)) h hC
  | al =>
    rw [back_al] at h
    exact getSmall_any 7 4 _ _ _ rest A n c C w (.inr (.inr ⟨rfl, rfl, rfl⟩)) h hC
theorem backW_op {t : PW} (h : WfW t) : ∃ x r, backW t = x :: r ∧ x.op ≠ 2 := by
  cases h with
  | el hm => exact ⟨_, _, back_open (may_open hm), show (1 : Int) ≠ 2 by decide⟩
  | vo hm => exact ⟨_, _, back_void (may_void hm), show (3 : Int) ≠ 2 by decide⟩
  | tx => exact ⟨_, _, back_tx _, show (4 : Int) ≠ 2 by decide⟩
  | nd => exact ⟨_, _, back_nd, show (8 : Int) ≠ 2 by decide⟩
  | al => exact ⟨_, _, back_al, show (7 : Int) ≠ 2 by decide⟩
theorem Stop.head {l : List In} (h : Stop l) : HeadT l := fun x hx => by rw [h x hx]; rfl
def GaR (w : World) (C : Nat) (ps : List PW) (rest : List In) (s0 s4 : Value) (wr : World) : Prop := ∃ (dn td : List PW) (A : Option Addr) (n c : Nat) (A' : Option Addr) (n' c' : Nat) (us : List WV), s0 = .slice A n c ∧ s4 = .slice A' n' c' ∧ Hid (dn ++ td = ps) ∧ Hid (erL us = dn) ∧ Hid (Rs w C A n c (backL td ++ rest)) ∧ Hid (kW.Own wr w.heap.size (.slice A' n' c') us) ∧ Hid (∀ t ∈ us, WNew kW wr (fun b => w.heap.size ≤ b ∧ (Value.slice A' n' c').ownBlock ≠ some b) t) ∧ Hid (us.length + n ≤ 1000) ∧ Hid (Below w.heap.size w wr)
set_option maxRecDepth 100000 in
set_option maxHeartbeats 16000000 in
theorem getAll_of (ps : List PW) (IH : ∀ t ∈ ps, GetC t.kids) : GetC ps := by
  intro rest A n c C w hwf hst h hC
  have ST : Hid (GaR w C ps rest (.slice A n c) (.slice none 0 0) w) := Lib.hid ⟨[], ps, A, n, c, none, 0, 0, [], rfl, rfl, Lib.hid rfl, Lib.hid rfl, Lib.hid h, Lib.hid (Kind.Own.nil kW w _), Lib.hid (fun t ht => by cases ht), Lib.hid (by have := h.n1; simp; omega), Lib.hid (Below.refl _ _)⟩
  have HS := Lib.hid hst
  have HWF := Lib.hid hwf
  have HI := Lib.hid IH
  clear h hst hwf IH
  go_enter Try.func13, Try.ntmps13
  go_wp2_with fail
  go_loopw [0, 4] (fun s0 s4 wr => GaR w C ps rest s0 s4 wr) (fun s0 _ _ => match s0 with | .slice _ n _ => n | _ => 0)
  case atStart => exact ST.out
  case round =>
    obtain ⟨dn, td, A, n, c, A', n', c', us, rfl, rfl, HA, HU, HL, HO, HNW, HN, HB⟩ := hrel
    clear ST
    have hbr : w.heap.size ≤ wr.heap.size := HB.out.size
    have hbr2 : C ≤ wr.heap.size := Nat.le_trans hC hbr
    have hn1 := HL.out.n1
    cases td with
    | nil =>
      have HE : Hid (dn = ps) := Lib.hid (by have := HA.out; simpa using this)
      have HL2 : Hid (Rs w C A n c rest) := Lib.hid HL.out
      clear HL HA
      cases rest with
      | nil =>
        obtain rfl : n = 0 := by have := HL2.out.len; simpa using this.symm
        go_wp2_with fail
        go_ret2
        exact ⟨A', n', c', us, A, 0, c, rfl, by rw [HU.out, HE.out], HO.out, HNW.out, HL2.out, HB.out⟩
      | cons y r =>
        obtain ⟨b, o, rfl, hb, g0, _, _, hl, h0, _, _⟩ := (HL2.out.below HB.out hC).cons
        have hy : y.op = 2 := HS.out y rfl
        rw [hy] at g0
        clear hl hy
        go_wp2_with fail
        go_ret2
        exact ⟨A', n', c', us, _, n, c, rfl, by rw [HU.out, HE.out], HO.out, HNW.out, HL2.out, HB.out⟩
    | cons t td =>
      have hmem : t ∈ ps := by rw [← HA.out]; simp
      have hwt := HWF.out t hmem
      have HA2 : Hid ((dn ++ [t]) ++ td = ps) := Lib.hid (by rw [← HA.out]; simp)
      have hT : HeadT (backL td ++ rest) := backL_head (fun k hk => HWF.out k (by rw [← HA.out]; simp [hk])) HS.out.head
      have hL : Rs wr C A n c (backW t ++ (backL td ++ rest)) := by have := HL.out.below HB.out hC; rw [backL, List.append_assoc] at this; exact this
      have CG : Hid (Calls Try.prog 19 #[.slice A n c] wr (GotV wr C t (backL td ++ rest))) := Lib.hid (get_one hwt (HI.out t hmem) (backL td ++ rest) A n c C wr hT hL hbr2)
      have HLT : Hid ((backL td ++ rest).length < n) := Lib.hid (by
        have h1 := hL.len
        have h2 := backW_pos hwt
        rw [List.length_append] at h1
        omega)
      obtain ⟨x, r, hx, hxo⟩ := backW_op hwt
      rw [hx] at hL
      obtain ⟨b, o, rfl, hb, g0, _, _, hl, h0, _, _⟩ := hL.cons
      have q1 : (x.op != 2) = true := by simp [hxo]
      have q2 : (x.op == 2) = false := by simp [hxo]
      have i0 : (0 : Int) < (n : Int) := by omega
      have hul : us.length + n ≤ 1000 := HN.out
      clear hL hx hxo hl hT hwt hmem HA HN HL
      generalize x.op = xo at g0 q1 q2
      go_wp2_with fail
      refine CG.out.mono ?_
      rintro e w5 ⟨tv, A2, n2, c2, rfl, her, new5, r5, b5⟩
      have b6 : Below wr.heap.size wr (w5.alloc (.cells #[.int .i64 tv.kind, .string tv.tag, .string tv.key, .string tv.txt, .slice tv.sa.A tv.sa.n tv.sa.c, .slice tv.sk.A tv.sk.n tv.sk.c] 46)) := b5.alloc b5.size _
      have bb : Below w5.heap.size w5 (w5.alloc (.cells #[.int .i64 tv.kind, .string tv.tag, .string tv.key, .string tv.txt, .slice tv.sa.A tv.sa.n tv.sa.c, .slice tv.sk.A tv.sk.n tv.sk.c] 46)) := (Below.refl _ _).alloc (Nat.le_refl _) _
      have K6 : Hid (WB (w5.alloc (.cells #[.int .i64 tv.kind, .string tv.tag, .string tv.key, .string tv.txt, .slice tv.sa.A tv.sa.n tv.sa.c, .slice tv.sk.A tv.sk.n tv.sk.c] 46)) w5.heap.size tv) := Lib.hid (WB.new w5 tv)
      have T6 : Hid (WNew kW (w5.alloc (.cells #[.int .i64 tv.kind, .string tv.tag, .string tv.key, .string tv.txt, .slice tv.sa.A tv.sa.n tv.sa.c, .slice tv.sk.A tv.sk.n tv.sk.c] 46)) (fun b => w.heap.size ≤ b ∧ (Value.slice A' n' c').ownBlock ≠ some b) tv) := Lib.hid ((new5.later bb).mono fun b _ hb => ⟨by omega, fun e => by have := (HO.out.lt e).2; omega⟩)
      have HER := Lib.hid her
      have B6 := Lib.hid (HB.out.trans (b6.mono hbr))
      have O6 : Hid (kW.Own (w5.alloc (.cells #[.int .i64 tv.kind, .string tv.tag, .string tv.key, .string tv.txt, .slice tv.sa.A tv.sa.n tv.sa.c, .slice tv.sk.A tv.sk.n tv.sk.c] 46)) w.heap.size (.slice A' n' c') us) := Lib.hid (HO.out.below b6 (Nat.le_refl _))
      have N6 : Hid (∀ t ∈ us, WNew kW (w5.alloc (.cells #[.int .i64 tv.kind, .string tv.tag, .string tv.key, .string tv.txt, .slice tv.sa.A tv.sa.n tv.sa.c, .slice tv.sk.A tv.sk.n tv.sk.c] 46)) (fun b => w.heap.size ≤ b ∧ (Value.slice A' n' c').ownBlock ≠ some b) t) := Lib.hid (fun t ht => (HNW.out t ht).later b6)
      have R5 := Lib.hid (r5.back HB.out hC)
      have HN2 : Hid (n2 < n) := Lib.hid (by have := R5.out.len; have := HLT.out; omega)
      clear her new5 r5 b5 b6 bb g0 q1 q2 CG HO HNW HLT
      go_upto_region 4 with fail
      generalize w5.alloc (.cells #[.int .i64 tv.kind, .string tv.tag, .string tv.key, .string tv.txt, .slice tv.sa.A tv.sa.n tv.sa.c, .slice tv.sk.A tv.sk.n tv.sk.c] 46) = w6 at K6 T6 B6 O6 N6 ⊢
      generalize w5.heap.size = g6 at K6 ⊢
      have a0 := K6.out.c0; have a1 := K6.out.c1; have a2 := K6.out.c2; have a3 := K6.out.c3; have a4 := K6.out.c4; have a5 := K6.out.c5
      have hb6 : w.heap.size ≤ w6.heap.size := B6.out.size
      go_wp2_with (at_builtin; refine kW.wp_app rfl _ _ rfl (v := .slice A' n' c') (l := us) (m := [tv]) (B := w.heap.size) (A := some ⟨w6.heap.size, 0, none⟩) (n := 1) (c := 1) rfl (O6.out.alloc _) rfl rfl (fun e => by cases e) (Kind.Holds.lit (heap_alloc_new _ _) rfl) (by omega) (by simp; omega) ?_; intro v7 w7 hown7 hgrow7 hat7; obtain ⟨A7, n7, c7, rfl, _, _, _, _, _⟩ := hown7.slice; have GB := wants_grew (K := kW) (by decide) (Q := fun b => w.heap.size ≤ b) (k := tv) O6.out N6.out T6.out hgrow7 hat7; have O7 := Lib.hid hown7; have G7 := Lib.hid GB.1; have B7 : Hid (Below w.heap.size w w7) := Lib.hid ((B6.out.alloc hb6 _).grown hgrow7 (by simp; omega) (fun i hi => (O6.out.lt hi).1)); clear hown7 hgrow7 hat7 GB a0 a1 a2 a3 a4 a5)
      go_roundw
      case rel => exact ⟨dn ++ [t], td, A2, n2, c2, A7, n7, c7, us ++ [tv], rfl, rfl, HA2, Lib.hid (by rw [erL_append, HU.out, ← HER.out]; simp [erL]), R5, O7, G7, Lib.hid (by have := HN2.out; simp; omega), B7⟩
      case measure => exact HN2.out
theorem getAll_kids : ∀ t : PW, GetC t.kids := by
  intro t
  induction t using PW.ind with
  | h kind tag key txt attrs kids ih => exact getAll_of kids ih
theorem getAll_any (ps : List PW) : GetC ps := getAll_of ps (fun t _ => getAll_kids t)
end Go.Proofs.Ytfjnbjpenibpkaa.P14
