/- What placketref08.element answers, if guess does below. No condition but those stated. -/
import Derived.Deep.RegionHeld3
import Derived.Deep.Cut
import Derived.Test.YtbdcbjeeaebfeaaM33
set_option linter.unusedVariables false
set_option linter.unusedSimpArgs false
namespace Go.Proofs.Ytbdcbjeeaebfeaa.P10
open Go.RowKit Kd P4 P5 P8 P9

/-- the state of element's loop -/
def ERel (w : World) (g : Nat) (tag : ByteArray) (F : Nat) (r : List UInt8) (m : Nat) (s0 : Value) (wr : World) : Prop := ∃ (x : ByteArray) (A : Option Addr) (n c : Nat) (ats : List P3.At) (f' : Nat), s0 = .string x ∧ x.size < f' ∧ ats.length + x.size ≤ 10000 ∧ x.size ≤ m ∧
  Hid (attrsF F r [] = attrsF f' x.data.toList ats) ∧ Hid (ESt w wr g tag A n c ats)
theorem el_endd {w wr : World} {tv : TV} {v0 v1 v2 v3 v4 : Value} (hz : TB wr w.heap.size zTV) (hn : TNew wr (fun b => w.heap.size < b) tv) (hb : Below w.heap.size w wr) :
    TNew (((((wr.setCell ⟨w.heap.size, 0, none⟩ v0).setCell ⟨w.heap.size, 1, none⟩ v1).setCell ⟨w.heap.size, 2, none⟩ v2).setCell ⟨w.heap.size, 3, none⟩ v3).setCell ⟨w.heap.size, 4, none⟩ v4).drew (fun b => w.heap.size ≤ b) tv ∧
    Below w.heap.size w (((((wr.setCell ⟨w.heap.size, 0, none⟩ v0).setCell ⟨w.heap.size, 1, none⟩ v1).setCell ⟨w.heap.size, 2, none⟩ v2).setCell ⟨w.heap.size, 3, none⟩ v3).setCell ⟨w.heap.size, 4, none⟩ v4).drew :=
  have h := el_end (v0 := v0) (v1 := v1) (v2 := v2) (v3 := v3) (v4 := v4) hz hn hb
  ⟨h.1.but (But.drew (But.refl (fun _ => False) _)) (fun _ _ h => h) (NoA.none _), bl_drew h.2⟩
theorem ret_el {v : Value} {a b : ByteArray} (h : a = b) : Ending.returned (.tuple #[v, .string a]) = .returned (.tuple #[v, .string b]) := by rw [h]
theorem ex_bs (x : ByteArray) (n : Nat) : x.extract n x.size = bs (x.data.toList.drop n) := by rw [← ex_tail, bs_eta]
theorem elK_some {g : Nat → List UInt8 → List PT × List UInt8} {d : Nat} {tag : List UInt8} {ats : List P3.At} {X : List UInt8} (h : X ≠ []) : elK g d tag (ats, some X) = if P1.voidB tag then (elT tag ats [], X.drop 1) else if (g (d + 1) (X.drop 1)).2.length < tag.length + 3 then (elT tag ats (g (d + 1) (X.drop 1)).1, []) else (elT tag ats (g (d + 1) (X.drop 1)).1, (g (d + 1) (X.drop 1)).2.drop (tag.length + 3)) := by
  cases X with
  | nil => exact absurd rfl h
  | cons c r => rfl
theorem attrsF_step {f : Nat} {X : List UInt8} {acc : List P3.At} (h : X.head? = some 32) : attrsF (f + 1) X acc = if (X.drop (untilL X [61])).length < 2 then (acc, none) else if untilL ((X.drop (untilL X [61])).drop 2) [34] = ((X.drop (untilL X [61])).drop 2).length then (acc ++ [⟨bs ((X.take (untilL X [61])).drop 1), bs (unesc (((X.drop (untilL X [61])).drop 2).take (untilL ((X.drop (untilL X [61])).drop 2) [34]))), false⟩], none)
    else attrsF f (((X.drop (untilL X [61])).drop 2).drop (untilL ((X.drop (untilL X [61])).drop 2) [34] + 1)) (acc ++ [⟨bs ((X.take (untilL X [61])).drop 1), bs (unesc (((X.drop (untilL X [61])).drop 2).take (untilL ((X.drop (untilL X [61])).drop 2) [34]))), false⟩]) := by
  rw [attrsF, if_pos h]
structure KSt (w W : World) (g : Nat) (tv : TV) : Prop where
  z : TB W w.heap.size zTV
  tb : TB W g tv
  new : TNew W (fun b => w.heap.size < b) tv
  hb : Below w.heap.size w W
theorem KSt.zf {w W : World} {g : Nat} {tv : TV} (h : KSt w W g tv) (i : Nat) : W.frozen? ⟨w.heap.size, i, none⟩ = false := by
  have hb := h.z
  simp [World.frozen?, (show W.heap[w.heap.size]? = _ from hb)]
theorem ESt.kst {w W : World} {g : Nat} {tag : ByteArray} {A : Option Addr} {n c : Nat} {ats : List P3.At} (h : ESt w W g tag A n c ats) : KSt w W g (.mk tag ⟨#[]⟩ ⟨#[]⟩ ⟨A, n, c⟩ ats ⟨none, 0, 0⟩ []) := ⟨h.z, h.tb, h.leaf _, h.hb⟩
theorem tb_frozen {w : World} {s : Nat} {t : TV} (h : TB w s t) (i : Nat) : w.frozen? ⟨s, i, none⟩ = false := by
  simp [World.frozen?, (show w.heap[s]? = _ from h)]
theorem ESt.grown {w w5 w7 : World} {g : Nat} {tag : ByteArray} {A : Option Addr} {n c : Nat} {ats : List P3.At} {o : Obj} (h : ESt w w5 g tag A n c ats) (hg : (w5.alloc o).grownBy w7 (Value.slice A n c).ownBlock) : TB w7 g (.mk tag ⟨#[]⟩ ⟨#[]⟩ ⟨A, n, c⟩ ats ⟨none, 0, 0⟩ []) := by
  have b7 : But (fun b => (Value.slice A n c).ownBlock = some b) w5 w7 := (But.alloc (But.refl _ _) _).trans (But.of_grown (S := fun i => (Value.slice A n c).ownBlock = some i) hg (fun i hi _ => hi)) (fun _ _ h => h)
  exact (b7.block _ h.tb.lt (fun e => by have := (h.own.lt e).1; omega)).trans h.tb
/-- the children are laid -/
theorem ESt.kids {w wr w2 : World} {g : Nat} {tag : ByteArray} {A Ak : Option Addr} {n c nk ck : Nat} {ats : List P3.At} {ks : List TV} (h : ESt w wr g tag A n c ats) (hb : Below wr.heap.size wr w2) (own : kT.Own w2 wr.heap.size (.slice Ak nk ck) ks) (new : ∀ t ∈ ks, TNew w2 (fun b => wr.heap.size ≤ b ∧ (Value.slice Ak nk ck).ownBlock ≠ some b) t) :
    KSt w (w2.setCell ⟨g, 4, none⟩ (.slice Ak nk ck)) g (.mk tag ⟨#[]⟩ ⟨#[]⟩ ⟨A, n, c⟩ ats ⟨Ak, nk, ck⟩ ks) := by
  have h2 := h.below hb
  have hgl := h.tb.lt
  have hgg := h.hg
  have b3 : But (fun b => b = g) w2 (w2.setCell ⟨g, 4, none⟩ (.slice Ak nk ck)) := But.setCell (S := fun b => b = g) (p := ⟨g, 4, none⟩) (But.refl _ _) (fun _ => rfl) _
  have hS : ∀ b, b = g → ∃ cur, w2.heap[b]? = some (.cells cur 38 (0, 0)) := fun b e => by subst e; exact ⟨_, h2.tb⟩
  obtain ⟨s, hv, ha⟩ := AOk.own h2.own
  have e : s = ⟨A, n, c⟩ := by
    obtain ⟨A', n', c'⟩ := s
    unfold Sv.val at hv
    injection hv with e1 e2 e3
    subst e1; subst e2; subst e3
    rfl
  subst e
  refine ⟨(Below.heap_setCell w2 _ _ _ (by show w.heap.size ≠ g; omega)).trans h2.z, heap_set h2.tb 4 _, TNew.mk (sk := ⟨Ak, nk, ck⟩) (ha.but b3 (tree_noA hS)) ((own.but b3 (fun b e => by have := (own.lt e).1; omega)).base_le (Nat.zero_le _)) (fun b e => by have := (own.lt e).1; omega) (fun k hk => ?_), h2.hb.trans (b3.to_below (fun i _ hi => by omega) h2.hb.size)⟩
  exact ((new k hk).but b3 (fun b hq e => by have := hq.1; omega) (tree_noA hS)).mono fun b _ hq => by have := hq.1; omega
theorem stop_head : ∀ (s g : List UInt8) (c : UInt8), (s.drop (untilL s g)).head? = some c → g.contains c = true
  | [], _, c, h => by simp at h
  | a :: s, g, c, h => by
    cases hc : g.contains a with
    | true =>
      rw [until_yes hc] at h
      simp at h
      rw [← h]
      exact hc
    | false =>
      rw [until_no hc] at h
      exact stop_head s g c (by simpa using h)
set_option maxRecDepth 100000 in
set_option maxHeartbeats 8000000 in
theorem elem_of (f : Nat) (GC : GuessC f) : ElemC f := by
  intro s d w hsf hs hd h60
  have HG := Lib.hid GC
  have hs0 : 0 < s.size := by
    rcases Nat.eq_zero_or_pos s.size with e | e
    · rw [list_nil e] at h60; cases h60
    · exact e
  have hu0 : 1 ≤ untilL s.data.toList [32, 62] := by
    obtain ⟨r, hr⟩ : ∃ r, s.data.toList = 60 :: r := by
      cases e : s.data.toList with
      | nil => rw [e] at h60; cases h60
      | cons c r => rw [e] at h60; simp at h60; exact ⟨r, by rw [h60]⟩
    rw [hr, until_no (by decide)]
    omega
  have hu1 : untilL s.data.toList [32, 62] ≤ s.size := by have := until_le s.data.toList [32, 62]; rwa [size_len] at this
  have hK := elF_K (gAt f) d s.data.toList
  have CU : Hid (∀ w9, Calls Try.prog 28 #[.string s, .string ⟨#[32, 62]⟩] w9 fun e w' => e = .returned (.int .i64 (untilL s.data.toList [32, 62] : Nat)) ∧ Below w9.heap.size w9 w') := Lib.hid (fun w9 => until_any s ⟨#[32, 62]⟩ w9 (by omega) (by decide))
  have htg : (s.extract 1 (untilL s.data.toList [32, 62])).data.toList = (s.data.toList.take (untilL s.data.toList [32, 62])).drop 1 := ex_mid s 1 _
  have htl : (s.extract (untilL s.data.toList [32, 62]) s.size).data.toList = s.data.toList.drop (untilL s.data.toList [32, 62]) := ex_tail s _
  have hts : (s.extract 1 (untilL s.data.toList [32, 62])).size = untilL s.data.toList [32, 62] - 1 := by rw [ByteArray.size_extract]; omega
  have htz : (s.extract (untilL s.data.toList [32, 62]) s.size).size = s.size - untilL s.data.toList [32, 62] := by rw [ByteArray.size_extract]; omega
  rw [← htg, ← htl] at hK
  have u0 : (0 : Int) ≤ 1 := by omega
  generalize untilL s.data.toList [32, 62] = u at hu0 hu1 hK CU htg htl hts htz
  have hu2 : (1 : Int) ≤ (u : Int) := by omega
  generalize htag : s.extract 1 u = tag at hK hts
  generalize hx0 : s.extract u s.size = x0 at hK htz
  have HTAG := Lib.hid htag
  have HX0 := Lib.hid hx0
  have HK := Lib.hid hK
  have htb : tag.size ≤ 10000 := by omega
  clear htg htl hK GC h60 htag hx0 hts
  have B0 : Hid (Below w.heap.size w (w.alloc (.cells #[.string ⟨#[]⟩, .string ⟨#[]⟩, .string ⟨#[]⟩, .slice none 0 0, .slice none 0 0] 38))) := Lib.hid ((Below.refl _ _).alloc (Nat.le_refl _) _)
  have Z0 : Hid (TB (w.alloc (.cells #[.string ⟨#[]⟩, .string ⟨#[]⟩, .string ⟨#[]⟩, .slice none 0 0, .slice none 0 0] 38)) w.heap.size zTV) := Lib.hid (TB.new w zTV)
  go_enter Try.func30, Try.ntmps30
  go_upto_region 1 with fail
  generalize w.alloc (.cells #[.string ⟨#[]⟩, .string ⟨#[]⟩, .string ⟨#[]⟩, .slice none 0 0, .slice none 0 0] 38) = W at B0 Z0 ⊢
  go_wp2_with fail
  refine (CU.out W).mono ?_
  rintro e w1 ⟨rfl, b1⟩
  have B1 := Lib.hid (B0.out.trans (b1.mono B0.out.size))
  have Z1 := Lib.hid (Z0.out.below b1 Z0.out.lt)
  clear b1 B0 Z0
  go_upto_region 3 with fail
  rw [HTAG.out]
  have E1 : Hid (ESt w (w1.alloc (.cells #[.string tag, .string ⟨#[]⟩, .string ⟨#[]⟩, .slice none 0 0, .slice none 0 0] 38)) w1.heap.size tag none 0 0 []) := Lib.hid
    ⟨Z1.out.below ((Below.refl w1.heap.size w1).alloc (Nat.le_refl _) _) Z1.out.lt, TB.new w1 (.mk tag ⟨#[]⟩ ⟨#[]⟩ ⟨none, 0, 0⟩ [] ⟨none, 0, 0⟩ []), Kind.Own.nil kA _ _, B1.out.alloc B1.out.size _, Z1.out.lt⟩
  generalize w1.alloc (.cells #[.string tag, .string ⟨#[]⟩, .string ⟨#[]⟩, .slice none 0 0, .slice none 0 0] 38) = W2 at E1 ⊢
  obtain ⟨g, hg⟩ : ∃ g, w1.heap.size = g := ⟨_, rfl⟩
  rw [hg] at E1 ⊢
  clear hg Z1 B1 CU
  have ST : Hid (ERel w g tag (x0.data.toList.length + 1) x0.data.toList x0.size (.string (s.extract u s.size)) W2) := Lib.hid (by
    rw [HX0.out]
    exact ⟨x0, none, 0, 0, [], _, rfl, by rw [size_len]; omega, by simp only [List.length_nil]; omega, Nat.le_refl _, Lib.hid rfl, E1⟩)
  go_wp2_with fail
  go_loopw [0] (fun s0 wr => ERel w g tag (x0.data.toList.length + 1) x0.data.toList x0.size s0 wr) (fun s0 _ => match s0 with | .string x => x.size | _ => 0)
  case atStart => exact ST.out
  case round =>
    obtain ⟨x, A, n, c, ats, f', rfl, hx, hts2, hxm, HA, EST⟩ := hrel
    clear ST E1
    obtain ⟨f2, rfl⟩ : ∃ g, f' = g + 1 := ⟨f' - 1, by omega⟩
    by_cases h0 : 0 < x.size
    · have hhd := head_at h0
      by_cases h32 : x[0] = 32
      · have q32 : ((x[0].toNat : Int) == 32) = true := by rw [h32]; rfl
        have hX : x.data.toList.head? = some 32 := by rw [hhd, h32]
        have hst := attrsF_step (f := f2) (acc := ats) hX
        have hv1 : 1 ≤ untilL x.data.toList [61] := by
          obtain ⟨r, hr⟩ : ∃ r, x.data.toList = 32 :: r := by
            cases e : x.data.toList with
            | nil => rw [e] at hX; cases hX
            | cons c r => rw [e] at hX; simp at hX; exact ⟨r, by rw [hX]⟩
          rw [hr, until_no (by decide)]
          omega
        have hv2 : untilL x.data.toList [61] ≤ x.size := by have := until_le x.data.toList [61]; rwa [size_len] at this
        have CU1 : Hid (∀ w9, Calls Try.prog 28 #[.string x, .string ⟨#[61]⟩] w9 fun e w' => e = .returned (.int .i64 (untilL x.data.toList [61] : Nat)) ∧ Below w9.heap.size w9 w') := Lib.hid (fun w9 => until_any x ⟨#[61]⟩ w9 (by omega) (by decide))
        rw [← ex_tail x, ← ex_mid x 1] at hst
        generalize untilL x.data.toList [61] = v at hst hv1 hv2 CU1
        have hn1s : (x.extract v x.size).size + v = x.size := by rw [ByteArray.size_extract]; omega
        generalize hx1 : x.extract v x.size = x1 at hst hn1s
        generalize hnm : x.extract 1 v = nm at hst
        have HX1 := Lib.hid hx1
        have HNM := Lib.hid hnm
        rw [size_len, bs_eta] at hst
        clear hx1 hnm hX hhd
        have t3 := EST.out.tb.c3
        clear t3
        have v1' : (1 : Int) ≤ (v : Int) := by omega
        go_wp2_with fail
        refine (CU1.out wr).mono ?_
        rintro e w1' ⟨rfl, b1⟩
        have E2 := Lib.hid (EST.out.below b1)
        clear b1 CU1
        go_upto_region 7 with fail
        rw [HNM.out]
        have BA : Hid (Below w1'.heap.size w1' (w1'.alloc (.cells #[.string nm, .string ⟨#[]⟩, .bool false] 73))) := Lib.hid ((Below.refl _ _).alloc (Nat.le_refl _) _)
        have K1 : Hid (P3.Blk (w1'.alloc (.cells #[.string nm, .string ⟨#[]⟩, .bool false] 73)) w1'.heap.size ⟨nm, ⟨#[]⟩, false⟩) := Lib.hid (P3.Blk.new w1' ⟨nm, ⟨#[]⟩, false⟩)
        have E3 := Lib.hid (E2.out.below BA.out)
        generalize w1'.alloc (.cells #[.string nm, .string ⟨#[]⟩, .bool false] 73) = W4 at E3 K1 BA ⊢
        have LT8 : Hid (g < w1'.heap.size ∧ w.heap.size < w1'.heap.size ∧ ∀ i, (Value.slice A n c).ownBlock = some i → i < w1'.heap.size) := Lib.hid ⟨E2.out.tb.lt, E2.out.z.lt, fun i hi => (E2.out.own.lt hi).2⟩
        generalize w1'.heap.size = g8 at K1 LT8 ⊢
        clear E2 BA EST
        by_cases hsh : x1.size < 2
        · have HA2 : Hid (attrsF (x0.data.toList.length + 1) x0.data.toList [] = (ats, none)) := Lib.hid (by rw [HA.out, hst, if_pos hsh])
          have EST := E3
          have hns1 : x.size - v < 2 := by omega
          have hsz0 : (x.extract v x.size).size < 2 := by rw [ByteArray.size_extract]; omega
          have q : decide (((x.extract v x.size).size : Int) < 2) = true := by simp only [decide_eq_true_eq]; omega
          have KST := Lib.hid EST.out.kst
          have HEL : Hid (elF (gAt f) d s.data.toList = (elT tag.data.toList ats [], [])) := Lib.hid (by rw [HK.out, HA2.out]; rfl)
          have HS : Hid ((⟨#[]⟩ : ByteArray) = bs []) := Lib.hid (rfl)
          have z0 := KST.out.z.c0; have z1 := KST.out.z.c1; have z2 := KST.out.z.c2; have z3 := KST.out.z.c3; have z4 := KST.out.z.c4
          have t0 := KST.out.tb.c0; have t1 := KST.out.tb.c1; have t2 := KST.out.tb.c2; have t3 := KST.out.tb.c3; have t4 := KST.out.tb.c4
          simp only [TV.tag, TV.txt, TV.key, TV.sa, TV.sk, zTV] at z0 z1 z2 z3 z4 t0 t1 t2 t3 t4
          have zf := KST.out.zf
          have hzl : w.heap.size < W4.heap.size := KST.out.z.lt
          go_wp2_with fail
          refine bodyPost_ret (v := .tuple #[.agg #[.string tag, .string ⟨#[]⟩, .string ⟨#[]⟩, .slice A n c, .slice none 0 0], .string (⟨#[]⟩)]) (by simp [results, Try.results30, go_sem, z0, z1, z2, z3, z4, hzl]) rfl ⟨.mk tag ⟨#[]⟩ ⟨#[]⟩ ⟨A, n, c⟩ ats ⟨none, 0, 0⟩ [], by rw [HEL.out]; exact ret_el HS.out, by rw [HEL.out, er, erL, elT, bs_eta], ?_, ?_⟩
          · exact (el_end KST.out.z KST.out.new KST.out.hb).1
          · exact (el_end KST.out.z KST.out.new KST.out.hb).2
        · rw [if_neg hsh, ← ex_tail x1] at hst
          have hx2s : (x1.extract 2 x1.size).size + 2 = x1.size := by rw [ByteArray.size_extract]; omega
          go_upto_region 8 with fail
          rw [HX1.out]
          have j2 : (2 : Int) ≤ (x1.size : Int) := by omega
          go_upto_region 11 with fail
          generalize hx2 : x1.extract 2 x1.size = x2 at hst hx2s ⊢
          clear hx2
          have hk : untilL x2.data.toList [34] ≤ x2.size := by have := until_le x2.data.toList [34]; rwa [size_len] at this
          have CU2 : Hid (∀ w9, Calls Try.prog 28 #[.string x2, .string ⟨#[34]⟩] w9 fun e w' => e = .returned (.int .i64 (untilL x2.data.toList [34] : Nat)) ∧ Below w9.heap.size w9 w') := Lib.hid (fun w9 => until_any x2 ⟨#[34]⟩ w9 (by omega) (by decide))
          generalize untilL x2.data.toList [34] = k at hst hk CU2
          rw [← getB_eq x2, ← ex_tail x2, size_len] at hst
          have HST := Lib.hid hst
          clear hst
          have kc := conv34 (W4.alloc (.cells #[.int .u8 34] 5)) W4.heap.size (heap_alloc_new _ _)
          have BK : Hid (Below W4.heap.size W4 (W4.alloc (.cells #[.int .u8 34] 5))) := Lib.hid ((Below.refl _ _).alloc (Nat.le_refl _) _)
          go_wp2_with fail
          refine (CU2.out (W4.alloc (.cells #[.int .u8 34] 5))).mono ?_
          rintro e w5 ⟨rfl, b5⟩
          have B5 : Hid (Below W4.heap.size W4 w5) := Lib.hid (bl_call b5 BK.out)
          clear b5 BK kc CU2
          go_wp2_with fail
          refine (P2.rget_any (x2.extract 0 k) w5 (by rw [ByteArray.size_extract]; omega)).mono ?_
          rintro e w6 ⟨rfl, b6⟩
          have B6 : Hid (Below W4.heap.size W4 w6) := Lib.hid (bl_call b6 B5.out)
          clear b6 B5
          generalize P2.getB (x2.extract 0 k) = vl at HST ⊢
          have E6 := Lib.hid (E3.out.below B6.out)
          have K6 := Lib.hid (K1.out.below B6.out K1.out.lt)
          have c1 := K6.out.c1
          have f8 := K6.out.frozen
          simp only at c1
          clear B6 E3 K1
          go_upto_region 13 with fail
          have K7 : Hid (P3.Blk (w6.setCell ⟨g8, 1, none⟩ (.string vl)) g8 ⟨nm, vl, false⟩) := Lib.hid (heap_set K6.out 1 _)
          have E7 : Hid (ESt w (w6.setCell ⟨g8, 1, none⟩ (.string vl)) g tag A n c ats) := Lib.hid (E6.out.but (S := fun b => b = g8) (But.setCell (S := fun b => b = g8) (p := ⟨g8, 1, none⟩) (But.refl _ _) (fun _ => rfl) _) (by have := LT8.out; omega) (by have := LT8.out; omega) (fun i hi e => by have := LT8.out.2.2 i hi; omega) (fun i _ e => by have := LT8.out; omega))
          generalize w6.setCell ⟨g8, 1, none⟩ (.string vl) = w7 at K7 E7 ⊢
          clear c1 f8 K6 E6
          have d0 := K7.out.c0; have d1 := K7.out.c1; have d2 := K7.out.c2
          have t3 := E7.out.tb.c3
          simp only [TV.sa] at d0 d1 d2 t3
          have hg7 : g + 1 ≤ w7.heap.size := E7.out.tb.lt
          go_upto_region 14 with (at_builtin; refine kA.wp_app rfl _ _ rfl (v := .slice A n c) (l := ats) (m := [⟨nm, vl, false⟩]) (B := g + 1) rfl (E7.out.own.alloc _) rfl rfl (fun e => by cases e) (Kind.Holds.lit (heap_alloc_new _ _) rfl) (by simp; omega) (by simp; omega) ?_; intro v' w8 hown' hgrow hat; obtain ⟨A', n', c', rfl, e1, e2, e3, e4, e5⟩ := hown'.slice; have E9 := Lib.hid (E7.out.app hgrow hown'); have T8 := Lib.hid (E7.out.grown hgrow); clear t3; have t3 := T8.out.c3; have g3 := tb_frozen T8.out; simp only [TV.sa] at t3; clear hown' hgrow hat e1 e2 e3 e4 e5 T8)
          generalize w8.setCell ⟨g, 3, none⟩ (.slice A' n' c') = w9 at E9 ⊢
          clear t3 g3 E7 K7 hg7 d0 d1 d2
          by_cases hke : k = x2.size
          · have HA2 : Hid (attrsF (x0.data.toList.length + 1) x0.data.toList [] = (ats ++ [⟨nm, vl, false⟩], none)) := Lib.hid (by rw [HA.out, HST.out, if_pos hke])
            have q : ((k : Int) == (x2.size : Int)) = true := by simp; omega
            generalize ats ++ [(⟨nm, vl, false⟩ : P3.At)] = ats2 at HA2 E9
            have EST := E9
            subst hke
            have KST := Lib.hid EST.out.kst
            have HEL : Hid (elF (gAt f) d s.data.toList = (elT tag.data.toList ats2 [], [])) := Lib.hid (by rw [HK.out, HA2.out]; rfl)
            have HS : Hid ((⟨#[]⟩ : ByteArray) = bs []) := Lib.hid (rfl)
            have z0 := KST.out.z.c0; have z1 := KST.out.z.c1; have z2 := KST.out.z.c2; have z3 := KST.out.z.c3; have z4 := KST.out.z.c4
            have t0 := KST.out.tb.c0; have t1 := KST.out.tb.c1; have t2 := KST.out.tb.c2; have t3 := KST.out.tb.c3; have t4 := KST.out.tb.c4
            simp only [TV.tag, TV.txt, TV.key, TV.sa, TV.sk, zTV] at z0 z1 z2 z3 z4 t0 t1 t2 t3 t4
            have zf := KST.out.zf
            have hzl : w.heap.size < w9.heap.size := KST.out.z.lt
            go_wp2_with fail
            refine bodyPost_ret (v := .tuple #[.agg #[.string tag, .string ⟨#[]⟩, .string ⟨#[]⟩, .slice A' n' c', .slice none 0 0], .string (⟨#[]⟩)]) (by simp [results, Try.results30, go_sem, z0, z1, z2, z3, z4, hzl]) rfl ⟨.mk tag ⟨#[]⟩ ⟨#[]⟩ ⟨A', n', c'⟩ ats2 ⟨none, 0, 0⟩ [], by rw [HEL.out]; exact ret_el HS.out, by rw [HEL.out, er, erL, elT, bs_eta], ?_, ?_⟩
            · exact (el_end KST.out.z KST.out.new KST.out.hb).1
            · exact (el_end KST.out.z KST.out.new KST.out.hb).2
          · have HA2 : Hid (attrsF (x0.data.toList.length + 1) x0.data.toList [] = attrsF f2 (x2.extract (k + 1) x2.size).data.toList (ats ++ [⟨nm, vl, false⟩])) := Lib.hid (by rw [HA.out, HST.out, if_neg hke, ex_tail])
            have q : ((k : Int) == (x2.size : Int)) = false := by simp; omega
            have hlt : (x2.extract (k + 1) x2.size).size < x.size := by rw [ByteArray.size_extract]; omega
            have hl2 : (x2.extract (k + 1) x2.size).size ≤ x2.size := by rw [ByteArray.size_extract]; omega
            have k1 : (0 : Int) ≤ (k : Int) + 1 := by omega
            have k2 : (k : Int) + 1 ≤ (x2.size : Int) := by omega
            have REL : Hid (ERel w g tag (x0.data.toList.length + 1) x0.data.toList x0.size (.string (x2.extract (k + 1) x2.size)) w9) := Lib.hid ⟨_, A', n', c', ats ++ [⟨nm, vl, false⟩], f2, rfl, by omega, by rw [List.length_append]; simp only [List.length_cons, List.length_nil]; omega, by omega, HA2, E9⟩
            go_wp2_with fail
            go_roundw
            case rel => exact REL.out
            case measure => exact hlt
      · have q32 : ((x[0].toNat : Int) == 32) = false := P2.num_ne h32
        have hne : x.data.toList ≠ [] := fun e => by
          have h := size_len x
          rw [e] at h
          have h2 : x.size = 0 := h.symm
          omega
        have HA2 : Hid (attrsF (x0.data.toList.length + 1) x0.data.toList [] = (ats, some x.data.toList)) := Lib.hid (by rw [HA.out, attrsF, if_neg (by rw [hhd]; intro e; injection e with e; exact h32 e)])
        have hek := HK.out
        rw [HA2.out, elK_some hne] at hek
        have HEK := Lib.hid hek
        clear hhd hne HA2 HA HK hek
        have t0 := EST.out.tb.c0
        simp only [TV.tag] at t0
        obtain ⟨bv, hbv⟩ : ∃ b, P1.voidB tag.data.toList = b := ⟨_, rfl⟩
        have HV := Lib.hid hbv
        clear hbv
        go_wp2_with fail
        refine (P1.rvoid_any tag _).mono ?_
        rintro e w' ⟨rfl, rfl⟩
        rw [HV.out]
        clear t0
        cases bv with
        | true =>
          have KST := Lib.hid EST.out.kst
          have HEL : Hid (elF (gAt f) d s.data.toList = (elT tag.data.toList ats [], (x.data.toList.drop 1))) := Lib.hid (by rw [HEK.out, HV.out, if_pos rfl])
          have HS : Hid ((x.extract 1 x.size : ByteArray) = bs (x.data.toList.drop 1)) := Lib.hid (ex_bs x 1)
          have z0 := KST.out.z.c0; have z1 := KST.out.z.c1; have z2 := KST.out.z.c2; have z3 := KST.out.z.c3; have z4 := KST.out.z.c4
          have t0 := KST.out.tb.c0; have t1 := KST.out.tb.c1; have t2 := KST.out.tb.c2; have t3 := KST.out.tb.c3; have t4 := KST.out.tb.c4
          simp only [TV.tag, TV.txt, TV.key, TV.sa, TV.sk, zTV] at z0 z1 z2 z3 z4 t0 t1 t2 t3 t4
          have zf := KST.out.zf
          have hzl : w.heap.size < wr.heap.size := KST.out.z.lt
          go_wp2_with fail
          refine bodyPost_ret (v := .tuple #[.agg #[.string tag, .string ⟨#[]⟩, .string ⟨#[]⟩, .slice A n c, .slice none 0 0], .string (x.extract 1 x.size)]) (by simp [results, Try.results30, go_sem, z0, z1, z2, z3, z4, hzl]) rfl ⟨.mk tag ⟨#[]⟩ ⟨#[]⟩ ⟨A, n, c⟩ ats ⟨none, 0, 0⟩ [], by rw [HEL.out]; exact ret_el HS.out, by rw [HEL.out, er, erL, elT, bs_eta], ?_, ?_⟩
          · exact (el_end KST.out.z KST.out.new KST.out.hb).1
          · exact (el_end KST.out.z KST.out.new KST.out.hb).2
        | false =>
          have hxs : (x.extract 1 x.size).size = x.size - 1 := by rw [ByteArray.size_extract]; omega
          have CG : Hid (Calls Try.prog 15 #[.string (x.extract 1 x.size), .int .i64 ((d : Int) + 1)] wr (Gv wr (gAt f (d + 1) (x.data.toList.drop 1)))) := Lib.hid (by
            have := HG.out (x.extract 1 x.size) (d + 1) wr (by omega) (by omega) (by omega)
            rw [ex_tail] at this
            exact this)
          have HE2 : Hid (elF (gAt f) d s.data.toList = if (gAt f (d + 1) (x.data.toList.drop 1)).2.length < tag.data.toList.length + 3 then (elT tag.data.toList ats (gAt f (d + 1) (x.data.toList.drop 1)).1, []) else (elT tag.data.toList ats (gAt f (d + 1) (x.data.toList.drop 1)).1, (gAt f (d + 1) (x.data.toList.drop 1)).2.drop (tag.data.toList.length + 3))) := Lib.hid (by rw [HEK.out, HV.out, if_neg (by simp)])
          have hgw : (gAt f (d + 1) (x.data.toList.drop 1)).2.length ≤ 20000 := by
            have h1 := gF_w f (d + 1) (x.data.toList.drop 1) []
            simp only [wL, List.length_drop, size_len] at h1
            unfold gAt
            omega
          clear HEK
          generalize gAt f (d + 1) (x.data.toList.drop 1) = p at CG HE2 hgw
          obtain ⟨p1, p2⟩ := p
          simp only at HE2 hgw
          go_wp2_with fail
          refine CG.out.mono ?_
          rintro e w2 ⟨Ak, nk, ck, ks, rfl, her, own, new, b2⟩
          have KST : Hid (KSt w (w2.setCell ⟨g, 4, none⟩ (.slice Ak nk ck)) g (.mk tag ⟨#[]⟩ ⟨#[]⟩ ⟨A, n, c⟩ ats ⟨Ak, nk, ck⟩ ks)) := Lib.hid (EST.out.kids b2 own new)
          have E2 := Lib.hid (EST.out.below b2)
          have t4 := E2.out.tb.c4
          simp only [TV.sk] at t4
          have gf := E2.out.gf
          have HER : Hid (erL ks = p1) := Lib.hid her
          have hps : (bs p2).size = p2.length := bs_size p2
          generalize hbp : bs p2 = rp at hps
          have HBP := Lib.hid hbp
          clear her own new b2 hbp
          go_upto_region 24 with fail
          generalize w2.setCell ⟨g, 4, none⟩ (.slice Ak nk ck) = W3 at KST ⊢
          have hgne : g ≠ w.heap.size := by have := EST.out.hg; omega
          clear t4 gf E2 EST
          have htl2 : tag.data.toList.length = tag.size := size_len tag
          have t0 := KST.out.tb.c0
          simp only [TV.tag] at t0
          by_cases hsh : p2.length < tag.size + 3
          · have q : decide ((rp.size : Int) < (tag.size : Int) + 3) = true := by simp; omega
            have HEL : Hid (elF (gAt f) d s.data.toList = (elT tag.data.toList ats (erL ks), [])) := Lib.hid (by rw [HE2.out, if_pos (by omega), HER.out])
            have HS : Hid ((⟨#[]⟩ : ByteArray) = bs []) := Lib.hid (rfl)
            have z0 := KST.out.z.c0; have z1 := KST.out.z.c1; have z2 := KST.out.z.c2; have z3 := KST.out.z.c3; have z4 := KST.out.z.c4
            have t0 := KST.out.tb.c0; have t1 := KST.out.tb.c1; have t2 := KST.out.tb.c2; have t3 := KST.out.tb.c3; have t4 := KST.out.tb.c4
            simp only [TV.tag, TV.txt, TV.key, TV.sa, TV.sk, zTV] at z0 z1 z2 z3 z4 t0 t1 t2 t3 t4
            have zf := KST.out.zf
            have hzl : w.heap.size < W3.heap.size := KST.out.z.lt
            go_wp2_with fail
            refine bodyPost_ret (v := .tuple #[.agg #[.string tag, .string ⟨#[]⟩, .string ⟨#[]⟩, .slice A n c, .slice Ak nk ck], .string (⟨#[]⟩)]) (by simp [results, Try.results30, go_sem, z0, z1, z2, z3, z4, hzl]) rfl ⟨.mk tag ⟨#[]⟩ ⟨#[]⟩ ⟨A, n, c⟩ ats ⟨Ak, nk, ck⟩ ks, by rw [HEL.out]; exact ret_el HS.out, by rw [HEL.out, er, elT, bs_eta], ?_, ?_⟩
            · exact (el_end KST.out.z KST.out.new KST.out.hb).1
            · exact (el_end KST.out.z KST.out.new KST.out.hb).2
          · have q : decide ((rp.size : Int) < (tag.size : Int) + 3) = false := by simp; omega
            have HSH : Hid (¬ p2.length < tag.data.toList.length + 3) := Lib.hid (by omega)
            have HEL : Hid (elF (gAt f) d s.data.toList = (elT tag.data.toList ats (erL ks), (p2.drop (tag.data.toList.length + 3)))) := Lib.hid (by rw [HE2.out, if_neg HSH.out, HER.out])
            have HS : Hid ((rp.extract (tag.size + 3) rp.size : ByteArray) = bs (p2.drop (tag.data.toList.length + 3))) := Lib.hid (by rw [ex_bs, ← HBP.out, bs_data, htl2])
            have z0 := KST.out.z.c0; have z1 := KST.out.z.c1; have z2 := KST.out.z.c2; have z3 := KST.out.z.c3; have z4 := KST.out.z.c4
            have t0 := KST.out.tb.c0; have t1 := KST.out.tb.c1; have t2 := KST.out.tb.c2; have t3 := KST.out.tb.c3; have t4 := KST.out.tb.c4
            simp only [TV.tag, TV.txt, TV.key, TV.sa, TV.sk, zTV] at z0 z1 z2 z3 z4 t0 t1 t2 t3 t4
            have zf := KST.out.zf
            have hzl : w.heap.size < W3.heap.size := KST.out.z.lt
            have i0 : (0 : Int) ≤ (tag.size : Int) + 3 := by omega
            have i1 : (tag.size : Int) + 3 ≤ (rp.size : Int) := by omega
            have i2 : ((tag.size : Int) + 3).toNat = tag.size + 3 := by omega
            have hgn2 : w.heap.size ≠ g := fun e => hgne e.symm
            rw [← hps] at hsh
            clear hps
            go_upto_region 27 with fail
            go_region_held3 (fun w' => w'.cell? ⟨g, 0, none⟩ = some (.string tag) ∧ w'.cell? ⟨g, 1, none⟩ = some (.string ⟨#[]⟩) ∧ w'.cell? ⟨g, 2, none⟩ = some (.string ⟨#[]⟩) ∧ w'.cell? ⟨g, 3, none⟩ = some (.slice A n c) ∧ w'.cell? ⟨g, 4, none⟩ = some (.slice Ak nk ck)) (first | go_keep | (simp [World.cell?_setCell_other, hgne, hgn2, *]; done)) (fail)
            go_wp2_with fail
            refine bodyPost_ret (v := .tuple #[.agg #[.string tag, .string ⟨#[]⟩, .string ⟨#[]⟩, .slice A n c, .slice Ak nk ck], .string (rp.extract (tag.size + 3) rp.size)]) (by simp [results, Try.results30, go_sem, z0, z1, z2, z3, z4, hzl]) rfl ⟨.mk tag ⟨#[]⟩ ⟨#[]⟩ ⟨A, n, c⟩ ats ⟨Ak, nk, ck⟩ ks, by rw [HEL.out]; exact ret_el HS.out, by rw [HEL.out, er, elT, bs_eta], ?_, ?_⟩
            · exact (el_endd KST.out.z KST.out.new KST.out.hb).1
            · exact (el_endd KST.out.z KST.out.new KST.out.hb).2
    · have HA2 : Hid (attrsF (x0.data.toList.length + 1) x0.data.toList [] = (ats, some [])) := Lib.hid (by rw [HA.out, list_nil (by omega), attrsF, if_neg (by simp)])
      have KST := Lib.hid EST.out.kst
      have HEL : Hid (elF (gAt f) d s.data.toList = (elT tag.data.toList ats [], [])) := Lib.hid (by rw [HK.out, HA2.out]; rfl)
      have HS : Hid ((⟨#[]⟩ : ByteArray) = bs []) := Lib.hid (rfl)
      have z0 := KST.out.z.c0; have z1 := KST.out.z.c1; have z2 := KST.out.z.c2; have z3 := KST.out.z.c3; have z4 := KST.out.z.c4
      have t0 := KST.out.tb.c0; have t1 := KST.out.tb.c1; have t2 := KST.out.tb.c2; have t3 := KST.out.tb.c3; have t4 := KST.out.tb.c4
      simp only [TV.tag, TV.txt, TV.key, TV.sa, TV.sk, zTV] at z0 z1 z2 z3 z4 t0 t1 t2 t3 t4
      have zf := KST.out.zf
      have hzl : w.heap.size < wr.heap.size := KST.out.z.lt
      go_wp2_with fail
      refine bodyPost_ret (v := .tuple #[.agg #[.string tag, .string ⟨#[]⟩, .string ⟨#[]⟩, .slice A n c, .slice none 0 0], .string (⟨#[]⟩)]) (by simp [results, Try.results30, go_sem, z0, z1, z2, z3, z4, hzl]) rfl ⟨.mk tag ⟨#[]⟩ ⟨#[]⟩ ⟨A, n, c⟩ ats ⟨none, 0, 0⟩ [], by rw [HEL.out]; exact ret_el HS.out, by rw [HEL.out, er, erL, elT, bs_eta], ?_, ?_⟩
      · exact (el_end KST.out.z KST.out.new KST.out.hb).1
      · exact (el_end KST.out.z KST.out.new KST.out.hb).2
end Go.Proofs.Ytbdcbjeeaebfeaa.P10
