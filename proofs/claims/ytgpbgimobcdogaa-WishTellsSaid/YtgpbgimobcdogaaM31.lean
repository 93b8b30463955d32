/- What the program's wish.Count and wish.Back answer. No condition but those stated. -/
import Derived.Deep.DrawnRows
import Derived.Deep.RegionHeld3
import Derived.Test.YtgpbgimobcdogaaM16
import Derived.Test.YtgpbgimobcdogaaM23
import Derived.Test.YtgpbgimobcdogaaM24
import Derived.Test.YtgpbgimobcdogaaM30
set_option linter.unusedVariables false
set_option linter.unusedSimpArgs false
set_option linter.unusedVariables false
set_option linter.unusedSimpArgs false
namespace Go.Proofs.Ytgpbgimobcdogaa.P14
open Go.RowKit Kd P4 P5 P11 P12 P13

/-- what is wanted, in a block of its own -/
def WB (w : World) (g : Nat) (t : WV) : Prop := w.heap[g]? = some (.cells #[.int .i64 t.kind, .string t.tag, .string t.key, .string t.txt, .slice t.sa.A t.sa.n t.sa.c, .slice t.sk.A t.sk.n t.sk.c] 46 (0, 0))
section
variable {w w' : World} {g C : Nat} {t : WV}
theorem WB.new (w : World) (t : WV) : WB (w.alloc (.cells #[.int .i64 t.kind, .string t.tag, .string t.key, .string t.txt, .slice t.sa.A t.sa.n t.sa.c, .slice t.sk.A t.sk.n t.sk.c] 46)) w.heap.size t := heap_alloc_new w _
theorem WB.lt (h : WB w g t) : g < w.heap.size := heap_lt h
theorem WB.below (h : WB w g t) (hb : Below C w w') (hC : g < C) : WB w' g t := (hb.block g hC).trans h
theorem WB.c0 (h : WB w g t) : w.cell? ⟨g, 0, none⟩ = some (.int .i64 t.kind) := cell_of_row w g 0 _ _ (0, 0) h
theorem WB.c1 (h : WB w g t) : w.cell? ⟨g, 1, none⟩ = some (.string t.tag) := cell_of_row w g 1 _ _ (0, 0) h
theorem WB.c2 (h : WB w g t) : w.cell? ⟨g, 2, none⟩ = some (.string t.key) := cell_of_row w g 2 _ _ (0, 0) h
theorem WB.c3 (h : WB w g t) : w.cell? ⟨g, 3, none⟩ = some (.string t.txt) := cell_of_row w g 3 _ _ (0, 0) h
theorem WB.c4 (h : WB w g t) : w.cell? ⟨g, 4, none⟩ = some (.slice t.sa.A t.sa.n t.sa.c) := cell_of_row w g 4 _ _ (0, 0) h
theorem WB.c5 (h : WB w g t) : w.cell? ⟨g, 5, none⟩ = some (.slice t.sk.A t.sk.n t.sk.c) := cell_of_row w g 5 _ _ (0, 0) h
theorem WB.fr (h : WB w g t) (k : Nat) : w.frozen? ⟨g, k, none⟩ = false := by simp [World.frozen?, (show w.heap[g]? = _ from h)]
end
/-! ### Count -/
def CntP (ts : List WV) : Prop := ∀ (w : World) (A : Option Addr) (n c : Nat), kW.Holds w w.heap.size A ts → ts.length = n → (∀ t ∈ ts, WOk kW w w.heap.size t) → wtL (erL ts) ≤ 1000 →
  Calls Try.prog 13 #[.slice A n c] w fun e w' => e = .returned (.int .i64 (cntL (erL ts) : Nat)) ∧ Below w.heap.size w w'
set_option maxHeartbeats 4000000 in
theorem count_of (ts : List WV) (IH : ∀ t ∈ ts, CntP t.kids) : CntP ts := by
  intro w A n c hh hn hok hw
  have KH := Lib.hid hh
  have KL := Lib.hid hn
  have KS := Lib.hid hok
  have HI : Hid (∀ t ∈ ts, CntP t.kids) := Lib.hid IH
  have EL : Hid ((erL ts).length = n) := Lib.hid (by rw [erL_map]; simpa using hn)
  have HC : Hid (∀ k, cntL ((erL ts).take k) ≤ 100000) := Lib.hid (fun k => by
    have h1 := cntL_wt ((erL ts).take k)
    have h2 : wtL (erL ts) = wtL ((erL ts).take k) + wtL ((erL ts).drop k) := by rw [← wtL_append, List.take_append_drop]
    omega)
  have HW := Lib.hid hw
  have hn1 : n ≤ 100000 := by have := wtL_len (erL ts); have := EL.out; omega
  clear hh hn hok hw IH
  go_enter Try.func13, Try.ntmps13
  go_wp2_with fail
  go_loopw [3, 8] (fun s3 s8 wr => ∃ (k : Nat), k ≤ n ∧ s8 = .int .i64 k ∧ s3 = .int .i64 (cntL ((erL ts).take k) : Nat) ∧ Hid (Below w.heap.size w wr)) (fun _ s8 _ => n - (intOf s8).toNat)
  case atStart => exact ⟨0, by omega, rfl, by simp [cntL], Lib.hid (Below.refl _ _)⟩
  case round =>
    obtain ⟨k, hk, rfl, rfl, HB⟩ := hrel
    by_cases hkn : k < n
    · have hkl : k < ts.length := by have := KL.out; omega
      have hke : k < (erL ts).length := by have := EL.out; omega
      have SN := Lib.hid (cntL_take hke)
      rw [erL_at hkl hke, cnt_parts] at SN
      have hd1 := HC.out k
      have hd2 := HC.out (k + 1)
      obtain ⟨b, o, rfl, hb, g0, g1, g2, g3, g4, g5⟩ := cell_of_w (KH.out.on HB.out) hkl
      have CK : Hid (∀ wz, Below wr.heap.size wr wz → Calls Try.prog 13 #[.slice ts[k].sk.A ts[k].sk.n ts[k].sk.c] wz fun e w' => e = .returned (.int .i64 (cntL (erL ts[k].kids) : Nat)) ∧ Below wz.heap.size wz w') := Lib.hid (fun wz hz => by
        have ht := (KS.out _ (List.getElem_mem hkl)).on (HB.out.trans (hz.mono HB.out.size))
        exact HI.out _ (List.getElem_mem hkl) wz _ _ _ ht.kh ht.kl ht.ks (by have := wtL_kids (List.getElem_mem hkl); have := HW.out; omega))
      generalize ts[k] = d at g0 g1 g2 g3 g4 g5 CK SN
      generalize cntL (erL d.kids) = dk at CK SN
      generalize cntL ((erL ts).take k) = m at SN hd1 ⊢
      rw [SN.out] at hd2
      go_upto_region 5 with fail
      have NA : Hid (WB (wr.alloc (.cells #[.int .i64 d.kind, .string d.tag, .string d.key, .string d.txt, .slice d.sa.A d.sa.n d.sa.c, .slice d.sk.A d.sk.n d.sk.c] 46)) wr.heap.size d) := Lib.hid (WB.new wr d)
      have BA : Hid (Below wr.heap.size wr (wr.alloc (.cells #[.int .i64 d.kind, .string d.tag, .string d.key, .string d.txt, .slice d.sa.A d.sa.n d.sa.c, .slice d.sk.A d.sk.n d.sk.c] 46))) := Lib.hid ((Below.refl _ _).alloc (Nat.le_refl _) _)
      generalize wr.alloc (.cells #[.int .i64 d.kind, .string d.tag, .string d.key, .string d.txt, .slice d.sa.A d.sa.n d.sa.c, .slice d.sk.A d.sk.n d.sk.c] 46) = wa at NA BA ⊢
      clear g0 g1 g2 g3 g4 g5
      have a0 := NA.out.c0; have a5 := NA.out.c5
      have BW := Lib.hid (HB.out.trans (BA.out.mono HB.out.size))
      obtain ⟨kind, hkd⟩ : ∃ x, d.kind = x := ⟨_, rfl⟩
      rw [hkd] at a0 SN hd2
      by_cases h2 : kind = 2
      · subst h2
        rw [if_pos rfl] at SN hd2
        go_wp2_with fail
        go_roundw
        case rel => exact ⟨k + 1, by omega, by go_num, by rw [SN.out]; go_num, BW⟩
        case measure => simp [intOf]; omega
      · have q2 := int_ne h2
        rw [if_neg h2] at SN hd2
        by_cases h1 : kind = 1
        · subst h1
          rw [if_pos rfl] at SN hd2
          go_wp2_with fail
          refine (CK.out wa BA.out).mono ?_
          rintro e w2 ⟨rfl, b2⟩
          have B2 := Lib.hid (BW.out.trans (b2.mono BW.out.size))
          clear b2
          go_wp2_with fail
          go_roundw
          case rel => exact ⟨k + 1, by omega, by go_num, by rw [SN.out]; go_num, B2⟩
          case measure => simp [intOf]; omega
        · have q1 := int_ne h1
          rw [if_neg h1] at SN hd2
          go_wp2_with fail
          go_roundw
          case rel => exact ⟨k + 1, by omega, by go_num, by rw [SN.out]; rfl, BW⟩
          case measure => simp [intOf]; omega
    · obtain rfl : k = n := by omega
      go_wp2_with fail
      go_ret
      exact ⟨by rw [List.take_of_length_le (by have := EL.out; omega)]; rfl, HB.out⟩
theorem count_kids : ∀ t : WV, CntP t.kids := by
  intro t
  induction t using WV.ind with
  | h kind tag key txt sa attrs sk kids ih => exact count_of kids ih
theorem count_any (ts : List WV) : CntP ts := count_of ts (fun t _ => count_kids t)
/-! ### Back -/
/-- blocks that aren't of instructions are as they were -/
def Kp (w w' : World) : Prop := ∀ (b : Nat) (cur : Array Value) (e : TypeId) (fr : Nat × Nat), w.heap[b]? = some (.cells cur e fr) → e ≠ 40 → w'.heap[b]? = w.heap[b]?
section
variable {w w1 w2 : World}
theorem Kp.refl (w : World) : Kp w w := fun _ _ _ _ _ _ => rfl
theorem Kp.trans (h : Kp w w1) (k : Kp w1 w2) : Kp w w2 := fun b cur e fr hb he => (k b cur e fr ((h b cur e fr hb he).trans hb) he).trans (h b cur e fr hb he)
theorem Kp.of_below (h : Below w.heap.size w w1) : Kp w w1 := fun b _ _ _ hb _ => h.block b (heap_lt hb)
theorem Kp.alloc (h : Kp w w1) (o : Obj) : Kp w (w1.alloc o) := h.trans (fun _ _ _ _ hb _ => (heap_up hb).trans hb.symm)
theorem Kp.grown {B : Nat} {v : Value} {l : List In} {o : Obj} (own : kX.Own w1 B v l) (h : Kp w w1) (hg : (w1.alloc o).grownBy w2 v.ownBlock) : Kp w w2 :=
  h.trans fun b cur e fr hb he => by
    have hb2 : (w1.alloc o).heap[b]? = some (.cells cur e fr) := heap_up hb
    refine (hg.block b (heap_lt hb2) (fun hv => ?_)).trans (hb2.trans hb.symm)
    obtain ⟨c2, hc⟩ := own.ty hv.symm
    rw [hb] at hc
    injection hc with hc
    injection hc with _ hc
    exact he hc
theorem Kp.wb {g : Nat} {t : WV} (h : Kp w w1) (k : WB w g t) : WB w1 g t := (h g _ _ _ k (by decide)).trans k
end
def PutV (B : Nat) (w : World) (out : List In) (e : Ending) (w' : World) : Prop := ∃ (A : Option Addr) (n c : Nat), e = .returned (.slice A n c) ∧ kX.Own w' B (.slice A n c) out ∧ Below B w w' ∧ Kp w w'
theorem below_put {w w1 w4 : World} {B : Nat} {v : Value} {l : List In} {o : Obj} (hb : Below B w w1) (hown : kX.Own w1 B v l) (hB : B ≤ w1.heap.size) (hg : (w1.alloc o).grownBy w4 v.ownBlock) : Below B w w4 :=
  (hb.alloc hB o).grown hg (by simp; omega) (fun k hk => (hown.lt hk).1)
set_option maxRecDepth 100000 in
set_option maxHeartbeats 4000000 in
theorem putAttrs_any (l : List P3.At) (acc : List In) (A : Option Addr) (n c : Nat) (A2 : Option Addr) (n2 c2 B : Nat) (w : World) (own : kX.Own w B (.slice A n c) acc) (hh : kA.Holds w B A2 l) (hn : l.length = n2) (h2 : n2 ≤ 1000) (hac : acc.length ≤ 1000000) (hB : B ≤ w.heap.size) :
    Calls Try.prog 50 #[.slice A n c, .slice A2 n2 c2] w (PutV B w (acc ++ l.map atI)) := by
  have HH := Lib.hid hh
  have HN := Lib.hid hn
  have OW := Lib.hid own
  clear hh hn own
  go_enter Try.func50, Try.ntmps50
  go_wp2_with fail
  go_loopw [0, 10] (fun s0 s10 wr => ∃ (k : Nat) (A' : Option Addr) (n' c' : Nat), k ≤ n2 ∧ s10 = .int .i64 k ∧ s0 = .slice A' n' c' ∧ Hid (kX.Own wr B (.slice A' n' c') (acc ++ (l.take k).map atI)) ∧ Hid (Below B w wr) ∧ Hid (Kp w wr)) (fun _ s10 _ => n2 - (intOf s10).toNat)
  case atStart => exact ⟨0, A, n, c, by omega, rfl, rfl, Lib.hid (by simpa using OW.out), Lib.hid (Below.refl _ _), Lib.hid (Kp.refl _)⟩
  case round =>
    obtain ⟨k, A', n', c', hk, rfl, rfl, HO, HB, HK⟩ := hrel
    by_cases hkn : k < n2
    · have hkl : k < l.length := by have := HN.out; omega
      obtain ⟨b, o, rfl, hb, hc⟩ := (HH.out.below HB.out (Nat.le_refl _)).at hkl
      have g0 : wr.cell? ⟨b, o + k * 3, none⟩ = some (.string l[k].nm) := hc 0 _ rfl
      have g1 : wr.cell? ⟨b, o + k * 3 + 1, none⟩ = some (.string l[k].vl) := hc 1 _ rfl
      have g2 : wr.cell? ⟨b, o + k * 3 + 2, none⟩ = some (.bool l[k].st) := hc 2 _ rfl
      have SN : Hid (acc ++ (l.take (k + 1)).map atI = acc ++ (l.take k).map atI ++ [atI l[k]]) := Lib.hid (by rw [List.take_add_one, List.getElem?_eq_getElem hkl, List.map_append, List.append_assoc]; rfl)
      have hal : (acc ++ (l.take k).map atI).length ≤ 1001000 := by simp; omega
      have hBr : B ≤ wr.heap.size := Nat.le_trans hB HB.out.size
      clear hc
      generalize l[k] = a at g0 g1 g2 SN
      obtain ⟨nm, vl, st⟩ := a
      simp only at g0 g1 g2
      generalize acc ++ (l.take k).map atI = acc' at HO hal SN
      go_upto_region 4 with fail
      have NA : Hid (P3.Blk (wr.alloc (.cells #[.string nm, .string vl, .bool st] 57)) wr.heap.size ⟨nm, vl, st⟩) := Lib.hid (P3.Blk.new wr ⟨nm, vl, st⟩)
      have BA : Hid (Below B w (wr.alloc (.cells #[.string nm, .string vl, .bool st] 57))) := Lib.hid (HB.out.alloc hBr _)
      have KA : Hid (Kp w (wr.alloc (.cells #[.string nm, .string vl, .bool st] 57))) := Lib.hid (HK.out.alloc _)
      have OA : Hid (kX.Own (wr.alloc (.cells #[.string nm, .string vl, .bool st] 57)) B (.slice A' n' c') acc') := Lib.hid (HO.out.alloc _)
      have hBa : B ≤ (wr.alloc (.cells #[.string nm, .string vl, .bool st] 57)).heap.size := by simp; omega
      generalize wr.alloc (.cells #[.string nm, .string vl, .bool st] 57) = wa at NA BA KA OA hBa ⊢
      clear g0 g1 g2
      have a0 := NA.out.c0; have a1 := NA.out.c1; have a2 := NA.out.c2
      cases st
      · go_wp2_with (at_builtin; refine kX.wp_app rfl _ _ rfl (v := .slice A' n' c') (l := acc') (m := [⟨5, nm, vl⟩]) (B := B) (A := some ⟨wa.heap.size, 0, none⟩) (n := 1) (c := 1) rfl (OA.out.alloc _) rfl rfl (fun e => by cases e) (Kind.Holds.lit (heap_alloc_new _ _) rfl) (by omega) (by simp; omega) ?_; intro v7 w7 hown7 hgrow7 hat7; obtain ⟨A7, n7, c7, rfl, e1, e2, e3, e4, e5⟩ := hown7.slice; have B7 := Lib.hid (below_put BA.out OA.out hBa hgrow7); have K7 := Lib.hid (Kp.grown OA.out KA.out hgrow7); have O7 := Lib.hid hown7; clear hown7 hgrow7 hat7 e1 e2 e3 e4 e5 a0 a1 a2)
        go_roundw
        case rel => exact ⟨k + 1, A7, n7, c7, by omega, by go_num, rfl, Lib.hid (by rw [SN.out]; exact O7.out), B7, K7⟩
        case measure => simp [intOf]; omega
      · go_wp2_with (at_builtin; refine kX.wp_app rfl _ _ rfl (v := .slice A' n' c') (l := acc') (m := [⟨6, nm, vl⟩]) (B := B) (A := some ⟨wa.heap.size, 0, none⟩) (n := 1) (c := 1) rfl (OA.out.alloc _) rfl rfl (fun e => by cases e) (Kind.Holds.lit (heap_alloc_new _ _) rfl) (by omega) (by simp; omega) ?_; intro v7 w7 hown7 hgrow7 hat7; obtain ⟨A7, n7, c7, rfl, e1, e2, e3, e4, e5⟩ := hown7.slice; have B7 := Lib.hid (below_put BA.out OA.out hBa hgrow7); have K7 := Lib.hid (Kp.grown OA.out KA.out hgrow7); have O7 := Lib.hid hown7; clear hown7 hgrow7 hat7 e1 e2 e3 e4 e5 a0 a1 a2)
        go_roundw
        case rel => exact ⟨k + 1, A7, n7, c7, by omega, by go_num, rfl, Lib.hid (by rw [SN.out]; exact O7.out), B7, K7⟩
        case measure => simp [intOf]; omega
    · obtain rfl : k = n2 := by omega
      go_wp2_with fail
      go_ret
      exact ⟨A', n', c', rfl, by rw [List.take_of_length_le (by have := HN.out; omega)] at HO; exact HO.out, HB.out, HK.out⟩
theorem void_any (tag : ByteArray) (w : World) (ht : tag.size ≤ 100000) {r : Bool} (hr : P1.voidB tag.data.toList = r) : Calls Try.prog 49 #[.string tag] w fun e w' => e = .returned (.bool r) ∧ Below w.heap.size w w' := by
  have HM : Hid (∀ w9, Calls Try.prog 38 #[.agg #[.int .i64 3, .string tag, .string ⟨#[]⟩]] w9 fun e w' => e = .returned (.bool r) ∧ Below w9.heap.size w9 w') := Lib.hid (fun w9 => by
    have h1 : mayI ⟨3, tag, ⟨#[]⟩⟩ = r := by
      have : mayI ⟨3, tag, ⟨#[]⟩⟩ = (P1.voidB tag.data.toList && P1.textB []) := by simp [mayI]
      rw [this, hr]
      cases r <;> rfl
    have h2 := imay_c ⟨3, tag, ⟨#[]⟩⟩ w9 ht (by show 0 ≤ _; omega)
    rw [h1] at h2
    exact h2)
  clear hr ht
  go_enter Try.func49, Try.ntmps49
  go_wp2_with fail
  refine (HM.out _).mono ?_
  rintro e w' ⟨rfl, b⟩
  go_wp2_with fail
  go_ret
  exact ⟨rfl, b⟩
/-! ### What is told back, behind what is there -/
theorem backP_wt (t : PW) : (backW t).length ≤ 2 * wtW t := by
  induction t using PW.ind with
  | h kind tag key txt attrs kids ih =>
    have : ∀ l : List PW, (∀ k ∈ l, (backW k).length ≤ 2 * wtW k) → (backL l).length ≤ 2 * wtL l := by
      intro l
      induction l with
      | nil => intro _; simp [backL]
      | cons a l ih2 =>
        intro h
        have h1 := h a (by simp)
        have h2 := ih2 (fun k hk => h k (by simp [hk]))
        rw [backL, wtL, List.length_append]
        omega
    have := this kids ih
    rw [backW, wtW]
    split
    · split
      · simp; omega
      · simp; omega
    · split
      · simp; omega
      · split
        · simp; omega
        · split
          · simp; omega
          · simp
theorem backP_wtL : ∀ l : List PW, (backL l).length ≤ 2 * wtL l
  | [] => by simp [backL]
  | a :: l => by have := backP_wt a; have := backP_wtL l; rw [backL, wtL, List.length_append]; omega
def PutC (ts : List WV) : Prop := ∀ (acc : List In) (A : Option Addr) (n c : Nat) (A2 : Option Addr) (n2 c2 B : Nat) (w : World), kX.Own w B (.slice A n c) acc → kW.Holds w B A2 ts → ts.length = n2 → (∀ t ∈ ts, WOk kW w B t) → (∀ t ∈ erL ts, WfW t) → wtL (erL ts) ≤ 1000 → acc.length + (backL (erL ts)).length ≤ 500000 → B ≤ w.heap.size →
  Calls Try.prog 27 #[.slice A n c, .slice A2 n2 c2] w (PutV B w (acc ++ backL (erL ts)))
/-- a list that grows, and an element beside it -/
structure PSt (B g : Nat) (t : WV) (A : Option Addr) (n c : Nat) (acc : List In) (w wz : World) : Prop where
  own : kX.Own wz B (.slice A n c) acc
  hb : Below B w wz
  kp : Kp w wz
  wb : WB wz g t
section
variable {B g : Nat} {t : WV} {A : Option Addr} {n c : Nat} {acc : List In} {w wz : World}
theorem PSt.drewN (h : PSt B g t A n c acc w wz) (j : Nat) : PSt B g t A n c acc w (wz.drewN j) := ⟨h.own, Below_drewN h.hb j, h.kp, h.wb⟩
theorem PSt.drew (h : PSt B g t A n c acc w wz) : PSt B g t A n c acc w wz.drew := ⟨h.own, h.hb.drew, h.kp, h.wb⟩
theorem PSt.put {out : List In} {w' : World} {A' : Option Addr} {n' c' : Nat} (h : PSt B g t A n c acc w wz) (own : kX.Own w' B (.slice A' n' c') out) (b : Below B wz w') (k : Kp wz w') : PSt B g t A' n' c' out w w' := ⟨own, h.hb.trans b, h.kp.trans k, k.wb h.wb⟩
theorem PSt.app {w4 : World} {o : Obj} {A' : Option Addr} {n' c' : Nat} {m : List In} (h : PSt B g t A n c acc w wz) (hB : B ≤ wz.heap.size) (hg : (wz.alloc o).grownBy w4 (Value.slice A n c).ownBlock) (own : kX.Own w4 B (.slice A' n' c') m) : PSt B g t A' n' c' m w w4 := by
  have k := Kp.grown h.own (Kp.refl wz) hg
  exact ⟨own, below_put h.hb h.own hB hg, h.kp.trans k, k.wb h.wb⟩
end
/-- an element of a program: what is told of it -/
theorem wf_elem {t : WV} (h : WfW (er t)) (hk : t.kind = 1) : (P1.voidB t.tag.data.toList = true ∧ erL t.kids = [] ∧ backW (er t) = ⟨3, t.tag, t.key⟩ :: t.attrs.map atI ∨ P1.voidB t.tag.data.toList = false ∧ (∀ k ∈ erL t.kids, WfW k) ∧ backW (er t) = ⟨1, t.tag, t.key⟩ :: (t.attrs.map atI ++ (backL (erL t.kids) ++ [⟨2, z0, z0⟩]))) ∧ t.tag.size ≤ 100000 := by
  rw [er_parts, hk] at h ⊢
  generalize erL t.kids = ks at h ⊢
  generalize t.tag = tag at h ⊢
  generalize t.key = key at h ⊢
  generalize t.attrs = attrs at h ⊢
  generalize t.txt = txt at h ⊢
  cases h with
  | el hm ha hk => exact ⟨.inr ⟨may_open hm, hk, back_open (may_open hm)⟩, by have := (may_small hm).1; simp only at this; omega⟩
  | vo hm ha => exact ⟨.inl ⟨may_void hm, rfl, back_void (may_void hm)⟩, by have := (may_small hm).1; simp only at this; omega⟩
set_option maxRecDepth 100000 in
set_option maxHeartbeats 8000000 in
theorem putElement_any (t : WV) (IH : PutC t.kids) (acc : List In) (A : Option Addr) (n c B : Nat) (w : World) (own : kX.Own w B (.slice A n c) acc) (hok : WOk kW w B t) (hk1 : t.kind = 1) (hwf : WfW (er t)) (hwt : wtW (er t) ≤ 1000) (hac : acc.length + (backW (er t)).length ≤ 500000) (hB : B ≤ w.heap.size) :
    Calls Try.prog 37 #[.slice A n c, .agg #[.int .i64 t.kind, .string t.tag, .string t.key, .string t.txt, .slice t.sa.A t.sa.n t.sa.c, .slice t.sk.A t.sk.n t.sk.c]] w (PutV B w (acc ++ backW (er t))) := by
  obtain ⟨hw, htag⟩ := wf_elem hwf hk1
  have S0 : Hid (PSt B w.heap.size t A n c acc w (w.alloc (.cells #[.int .i64 t.kind, .string t.tag, .string t.key, .string t.txt, .slice t.sa.A t.sa.n t.sa.c, .slice t.sk.A t.sk.n t.sk.c] 46))) := Lib.hid ⟨own.alloc _, (Below.refl _ _).alloc hB _, (Kp.refl w).alloc _, WB.new w t⟩
  have hB0 : B ≤ (w.alloc (.cells #[.int .i64 t.kind, .string t.tag, .string t.key, .string t.txt, .slice t.sa.A t.sa.n t.sa.c, .slice t.sk.A t.sk.n t.sk.c] 46)).heap.size := by simp; omega
  have HOK := Lib.hid hok
  have HWT : Hid (t.attrs.length + wtL (erL t.kids) ≤ 999) := Lib.hid (by rw [er_parts, wtW] at hwt; omega)
  have HIH := Lib.hid IH
  have CP : Hid (∀ (wz : World) (acc' : List In) (A' : Option Addr) (n' c' : Nat), PSt B w.heap.size t A' n' c' acc' w wz → acc'.length ≤ 500000 → Calls Try.prog 50 #[.slice A' n' c', .slice t.sa.A t.sa.n t.sa.c] wz (PutV B wz (acc' ++ t.attrs.map atI))) := Lib.hid (fun wz acc' A' n' c' hz hl => by
    have h1 := HWT.out
    exact putAttrs_any t.attrs acc' A' n' c' _ _ _ B wz hz.own (HOK.out.ah.below hz.hb (Nat.le_refl _)) HOK.out.al (by have := HOK.out.al; omega) (by omega) (Nat.le_trans hB hz.hb.size))
  have CA : Hid ((∀ k ∈ erL t.kids, WfW k) → ∀ (wz : World) (acc' : List In) (A' : Option Addr) (n' c' : Nat), PSt B w.heap.size t A' n' c' acc' w wz → acc'.length + (backL (erL t.kids)).length ≤ 500000 → Calls Try.prog 27 #[.slice A' n' c', .slice t.sk.A t.sk.n t.sk.c] wz (PutV B wz (acc' ++ backL (erL t.kids)))) := Lib.hid (fun hwk wz acc' A' n' c' hz hl => by
    have h1 := HWT.out
    exact HIH.out acc' A' n' c' _ _ _ B wz hz.own (HOK.out.kh.below hz.hb (Nat.le_refl _)) HOK.out.kl (fun k hk => (HOK.out.ks k hk).later hz.hb (Nat.le_refl _)) hwk (by omega) hl (Nat.le_trans hB hz.hb.size))
  have HS : Hid (∀ wz, PSt B w.heap.size t A n c acc w wz → B ≤ wz.heap.size) := Lib.hid (fun wz hz => Nat.le_trans hB hz.hb.size)
  have hBw : B ≤ w.heap.size := hB
  clear hok own hwf hwt IH hk1
  go_enter Try.func37, Try.ntmps37
  go_upto_region 1 with fail
  generalize w.alloc (.cells #[.int .i64 t.kind, .string t.tag, .string t.key, .string t.txt, .slice t.sa.A t.sa.n t.sa.c, .slice t.sk.A t.sk.n t.sk.c] 46) = w0 at S0 hB0 ⊢
  generalize hg : w.heap.size = g at S0 CP CA HS ⊢
  clear hg
  have a1 := S0.out.wb.c1
  rcases hw with ⟨hv, hks, hbk⟩ | ⟨hv, hks, hbk⟩
  · have HBK := Lib.hid hbk
    have hal : acc.length + (1 + t.attrs.length) ≤ 500000 := by rw [hbk] at hac; simp at hac; omega
    go_wp2_with fail
    refine (void_any t.tag w0 htag hv).mono ?_
    rintro e w1 ⟨rfl, b1⟩
    have S1 : Hid (PSt B g t A n c acc w w1) := Lib.hid (S0.out.put (S0.out.own.below b1 (Nat.le_refl _)) (b1.mono hB0) (Kp.of_below b1))
    have hB1 : B ≤ w1.heap.size := Nat.le_trans hB0 b1.size
    clear b1 hv hks hbk hac a1 S0 CA
    have a1 := S1.out.wb.c1; have a2 := S1.out.wb.c2
    go_upto_region 3 with (at_builtin; refine kX.wp_app rfl _ _ rfl (v := .slice A n c) (l := acc) (m := [⟨3, t.tag, t.key⟩]) (B := B) (A := some ⟨w1.heap.size, 0, none⟩) (n := 1) (c := 1) rfl (S1.out.own.alloc _) rfl rfl (fun e => by cases e) (Kind.Holds.lit (heap_alloc_new _ _) rfl) (by omega) (by simp; omega) ?_; intro v7 w7 hown7 hgrow7 hat7; obtain ⟨A7, n7, c7, rfl, e1, e2, e3, e4, e5⟩ := hown7.slice; have S2 := Lib.hid (PSt.app S1.out hB1 hgrow7 hown7); clear hown7 hgrow7 hat7 e1 e2 e3 e4 e5)
    have a4 := S2.out.wb.c4
    have CP2 := CP.out _ _ _ _ _ S2.out (by simp only [List.length_append, List.length_cons, List.length_nil]; omega)
    go_wp2_with fail
    refine CP2.mono ?_
    rintro e w3 ⟨A3, n3, c3, rfl, o3, b3, k3⟩
    have S3 := Lib.hid (S2.out.put o3 b3 k3)
    clear o3 b3 k3 a4
    go_wp2_with fail
    go_ret
    exact ⟨A3, n3, c3, rfl, by rw [HBK.out]; simpa [List.append_assoc] using S3.out.own, S3.out.hb, S3.out.kp⟩
  · have HBK := Lib.hid hbk
    have hal : acc.length + (2 + t.attrs.length + (backL (erL t.kids)).length) ≤ 500000 := by rw [hbk] at hac; simp at hac; omega
    have CA2 := Lib.hid (CA.out hks)
    go_wp2_with fail
    refine (void_any t.tag w0 htag hv).mono ?_
    rintro e w1 ⟨rfl, b1⟩
    have S1 : Hid (PSt B g t A n c acc w w1) := Lib.hid (S0.out.put (S0.out.own.below b1 (Nat.le_refl _)) (b1.mono hB0) (Kp.of_below b1))
    have hB1 : B ≤ w1.heap.size := Nat.le_trans hB0 b1.size
    clear b1 hv hks hbk hac a1 S0 CA
    have a1 := S1.out.wb.c1; have a2 := S1.out.wb.c2
    go_upto_region 5 with (at_builtin; refine kX.wp_app rfl _ _ rfl (v := .slice A n c) (l := acc) (m := [⟨1, t.tag, t.key⟩]) (B := B) (A := some ⟨w1.heap.size, 0, none⟩) (n := 1) (c := 1) rfl (S1.out.own.alloc _) rfl rfl (fun e => by cases e) (Kind.Holds.lit (heap_alloc_new _ _) rfl) (by omega) (by simp; omega) ?_; intro v7 w7 hown7 hgrow7 hat7; obtain ⟨A7, n7, c7, rfl, e1, e2, e3, e4, e5⟩ := hown7.slice; have S2 := Lib.hid (PSt.app S1.out hB1 hgrow7 hown7); clear hown7 hgrow7 hat7 e1 e2 e3 e4 e5)
    clear a1 a2
    have a4 := S2.out.wb.c4; have a5 := S2.out.wb.c5
    go_region_held3 (fun w' => w'.cell? ⟨g, 4, none⟩ = some (.slice t.sa.A t.sa.n t.sa.c) ∧ w'.cell? ⟨g, 5, none⟩ = some (.slice t.sk.A t.sk.n t.sk.c)) (first | go_keep | exact SK | exact SK2) ((first
      | (go_at_call 50; refine (CP.out _ _ _ _ _ (by first | exact S2.out.drewN _ | exact S2.out.drew | exact S2.out) (by simp only [List.length_append, List.length_cons, List.length_nil]; omega)).mono ?_; rintro e w3 ⟨A3, n3, c3, rfl, o3, b3, k3⟩; have S3 : Hid (PSt B g t A3 n3 c3 _ w w3) := Lib.hid (PSt.put (S2.out.drewN 1) o3 b3 k3); have SK := And.intro S3.out.wb.c4 S3.out.wb.c5; clear o3 b3 k3)
      | (go_at_call 27; refine (CA2.out _ _ _ _ _ (by first | exact S3.out.drewN _ | exact S3.out.drew | exact S3.out) (by simp only [List.length_append, List.length_cons, List.length_nil, List.length_map]; omega)).mono ?_; rintro e w5 ⟨A5, n5, c5, rfl, o5, b5, k5⟩; have S5 : Hid (PSt B g t A5 n5 c5 _ w w5) := Lib.hid (by first | exact PSt.put S3.out o5 b5 k5 | exact PSt.put (S3.out.drewN 1) o5 b5 k5 | exact PSt.put S3.out.drew o5 b5 k5); have SK2 := And.intro S5.out.wb.c4 S5.out.wb.c5; clear o5 b5 k5)
      | fail))
    have hB5 : B ≤ w5.heap.size := Nat.le_trans hBw S5.out.hb.size
    have hl5 : (acc ++ [(⟨1, t.tag, t.key⟩ : In)] ++ t.attrs.map atI ++ backL (erL t.kids)).length ≤ 500000 := by simp only [List.length_append, List.length_cons, List.length_nil, List.length_map]; omega
    clear S1 S2 CP CA2
    go_wp2_with (at_builtin; refine kX.wp_app rfl _ _ rfl (v := .slice A5 n5 c5) (l := acc ++ [(⟨1, t.tag, t.key⟩ : In)] ++ t.attrs.map atI ++ backL (erL t.kids)) (m := [⟨2, ⟨#[]⟩, ⟨#[]⟩⟩]) (B := B) (A := some ⟨w5.heap.size, 0, none⟩) (n := 1) (c := 1) rfl (S5.out.own.alloc _) rfl rfl (fun e => by cases e) (Kind.Holds.lit (heap_alloc_new _ _) rfl) (by omega) (by simp; omega) ?_; intro v7 w7 hown7 hgrow7 hat7; obtain ⟨A7, n7, c7, rfl, e1, e2, e3, e4, e5⟩ := hown7.slice; have S7 := Lib.hid (PSt.app S5.out hB5 hgrow7 hown7); clear hown7 hgrow7 hat7 e1 e2 e3 e4 e5)
    go_ret
    exact ⟨A7, n7, c7, rfl, by rw [HBK.out]; have := S7.out.own; simp only [List.append_assoc, List.cons_append, List.nil_append] at this; exact this, S7.out.hb, S7.out.kp⟩
theorem wf_kinds {t : WV} (h : WfW (er t)) : t.kind = 1 ∨ (t.kind = 2 ∧ backW (er t) = [⟨4, t.txt, z0⟩]) ∨ (t.kind = 3 ∧ backW (er t) = [⟨8, z0, z0⟩]) ∨ (t.kind = 4 ∧ backW (er t) = [⟨7, z0, z0⟩]) := by
  rw [er_parts] at h ⊢
  generalize erL t.kids = ks at h ⊢
  generalize t.kind = kind at h ⊢
  generalize t.tag = tag at h ⊢
  generalize t.key = key at h ⊢
  generalize t.attrs = attrs at h ⊢
  generalize t.txt = txt at h ⊢
  cases h with
  | el => exact .inl rfl
  | vo => exact .inl rfl
  | tx => exact .inr (.inl ⟨rfl, by simp [backW]⟩)
  | nd => exact .inr (.inr (.inl ⟨rfl, by simp [backW]⟩))
  | al => exact .inr (.inr (.inr ⟨rfl, by simp [backW]⟩))
set_option maxRecDepth 100000 in
set_option maxHeartbeats 8000000 in
theorem putAll_of (ts : List WV) (IH : ∀ t ∈ ts, PutC t.kids) : PutC ts := by
  intro acc A n c A2 n2 c2 B w own hh hn hok hwf hwt hac hB
  have HH := Lib.hid hh
  have HN := Lib.hid hn
  have OW := Lib.hid own
  have KS := Lib.hid hok
  have HI := Lib.hid IH
  have HWF := Lib.hid hwf
  have HWT := Lib.hid hwt
  have EL : Hid ((erL ts).length = n2) := Lib.hid (by rw [erL_map]; simpa using hn)
  have hn2 : n2 ≤ 1000 := by have := wtL_len (erL ts); have := EL.out; omega
  have HL : Hid (∀ (k : Nat) (hk : k < (erL ts).length), acc.length + (backL ((erL ts).take k)).length + (backW (erL ts)[k]).length ≤ 500000) := Lib.hid (fun k hk => by
    have := congrArg List.length (back_split hk)
    simp only [List.length_append] at this
    omega)
  clear hh hn own hok IH hwf hwt
  go_enter Try.func27, Try.ntmps27
  go_wp2_with fail
  go_loopw [0, 9] (fun s0 s9 wr => ∃ (k : Nat) (A' : Option Addr) (n' c' : Nat), k ≤ n2 ∧ s9 = .int .i64 k ∧ s0 = .slice A' n' c' ∧ Hid (kX.Own wr B (.slice A' n' c') (acc ++ backL ((erL ts).take k))) ∧ Hid (Below B w wr) ∧ Hid (Kp w wr)) (fun _ s9 _ => n2 - (intOf s9).toNat)
  case atStart => exact ⟨0, A, n, c, by omega, rfl, rfl, Lib.hid (by simpa [backL] using OW.out), Lib.hid (Below.refl _ _), Lib.hid (Kp.refl _)⟩
  case round =>
    obtain ⟨k, A', n', c', hk, rfl, rfl, HO, HB, HK⟩ := hrel
    by_cases hkn : k < n2
    · have hkl : k < ts.length := by have := HN.out; omega
      have hke : k < (erL ts).length := by have := EL.out; omega
      obtain ⟨b, o, rfl, hb, g0, g1, g2, g3, g4, g5⟩ := cell_of_w ((HH.out.below HB.out (Nat.le_refl _)).more (Nat.le_trans hB HB.out.size)) hkl
      have SN : Hid (acc ++ backL ((erL ts).take (k + 1)) = acc ++ backL ((erL ts).take k) ++ backW (er ts[k])) := Lib.hid (by rw [back_take hke, erL_at hkl hke, List.append_assoc])
      have hbr : B ≤ wr.heap.size := Nat.le_trans hB HB.out.size
      have hwd : WfW (er ts[k]) := by rw [← erL_at hkl hke]; exact HWF.out _ (List.getElem_mem hke)
      have hwtd : wtW (er ts[k]) ≤ 1000 := by have := wtL_mem (List.getElem_mem hke); rw [erL_at hkl hke] at this; have := HWT.out; omega
      have hal : (acc ++ backL ((erL ts).take k)).length + (backW (er ts[k])).length ≤ 500000 := by have := HL.out k hke; rw [erL_at hkl hke] at this; rw [List.length_append]; omega
      have CE : Hid (ts[k].kind = 1 → ∀ wz : World, Below B w wz → kX.Own wz B (.slice A' n' c') (acc ++ backL ((erL ts).take k)) → Calls Try.prog 37 #[.slice A' n' c', .agg #[.int .i64 ts[k].kind, .string ts[k].tag, .string ts[k].key, .string ts[k].txt, .slice ts[k].sa.A ts[k].sa.n ts[k].sa.c, .slice ts[k].sk.A ts[k].sk.n ts[k].sk.c]] wz (PutV B wz (acc ++ backL ((erL ts).take k) ++ backW (er ts[k])))) := Lib.hid (fun hk1 wz hz ho =>
        putElement_any ts[k] (HI.out _ (List.getElem_mem hkl)) _ A' n' c' B wz ho ((KS.out _ (List.getElem_mem hkl)).later hz (Nat.le_refl _)) hk1 hwd hwtd hal (Nat.le_trans hB hz.size))
      have HKD := wf_kinds hwd
      clear hwd hwtd
      generalize ts[k] = d at g0 g1 g2 g3 g4 g5 CE SN HKD hal
      have hal' : (acc ++ backL ((erL ts).take k)).length ≤ 500000 := by omega
      clear hal
      generalize acc ++ backL ((erL ts).take k) = acc' at HO hal' SN CE
      go_upto_region 4 with fail
      have NA : Hid (WB (wr.alloc (.cells #[.int .i64 d.kind, .string d.tag, .string d.key, .string d.txt, .slice d.sa.A d.sa.n d.sa.c, .slice d.sk.A d.sk.n d.sk.c] 46)) wr.heap.size d) := Lib.hid (WB.new wr d)
      have BA : Hid (Below B w (wr.alloc (.cells #[.int .i64 d.kind, .string d.tag, .string d.key, .string d.txt, .slice d.sa.A d.sa.n d.sa.c, .slice d.sk.A d.sk.n d.sk.c] 46))) := Lib.hid (HB.out.alloc hbr _)
      have KA : Hid (Kp w (wr.alloc (.cells #[.int .i64 d.kind, .string d.tag, .string d.key, .string d.txt, .slice d.sa.A d.sa.n d.sa.c, .slice d.sk.A d.sk.n d.sk.c] 46))) := Lib.hid (HK.out.alloc _)
      have OA : Hid (kX.Own (wr.alloc (.cells #[.int .i64 d.kind, .string d.tag, .string d.key, .string d.txt, .slice d.sa.A d.sa.n d.sa.c, .slice d.sk.A d.sk.n d.sk.c] 46)) B (.slice A' n' c') acc') := Lib.hid (HO.out.alloc _)
      have hBa : B ≤ (wr.alloc (.cells #[.int .i64 d.kind, .string d.tag, .string d.key, .string d.txt, .slice d.sa.A d.sa.n d.sa.c, .slice d.sk.A d.sk.n d.sk.c] 46)).heap.size := by simp; omega
      generalize wr.alloc (.cells #[.int .i64 d.kind, .string d.tag, .string d.key, .string d.txt, .slice d.sa.A d.sa.n d.sa.c, .slice d.sk.A d.sk.n d.sk.c] 46) = wa at NA BA KA OA hBa ⊢
      clear g0 g1 g2 g3 g4 g5
      have a0 := NA.out.c0; have a3 := NA.out.c3
      obtain ⟨kind, hkd⟩ : ∃ x, d.kind = x := ⟨_, rfl⟩
      rw [hkd] at a0 HKD CE
      rcases HKD with hk | ⟨hk, hbw⟩ | ⟨hk, hbw⟩ | ⟨hk, hbw⟩
      · subst hk
        have a1 := NA.out.c1; have a2 := NA.out.c2; have a4 := NA.out.c4; have a5 := NA.out.c5
        have CE2 := Lib.hid (CE.out rfl wa BA.out OA.out)
        go_wp2_with fail
        refine CE2.out.mono ?_
        rintro e w7 ⟨A7, n7, c7, rfl, o7, b7, k7⟩
        have B7 := Lib.hid (BA.out.trans b7)
        have K7 := Lib.hid (KA.out.trans k7)
        have O7 := Lib.hid o7
        clear o7 b7 k7 a0 a1 a2 a3 a4 a5
        go_wp2_with fail
        go_roundw
        case rel => exact ⟨k + 1, A7, n7, c7, by omega, by go_num, rfl, Lib.hid (by rw [SN.out]; exact O7.out), B7, K7⟩
        case measure => simp [intOf]; omega
      · subst hk
        rw [hbw] at SN
        clear hbw
        go_wp2_with (at_builtin; refine kX.wp_app rfl _ _ rfl (v := .slice A' n' c') (l := acc') (m := [⟨4, d.txt, ⟨#[]⟩⟩]) (B := B) (A := some ⟨wa.heap.size, 0, none⟩) (n := 1) (c := 1) rfl (OA.out.alloc _) rfl rfl (fun e => by cases e) (Kind.Holds.lit (heap_alloc_new _ _) rfl) (by omega) (by simp; omega) ?_; intro v7 w7 hown7 hgrow7 hat7; obtain ⟨A7, n7, c7, rfl, e1, e2, e3, e4, e5⟩ := hown7.slice; have B7 := Lib.hid (below_put BA.out OA.out hBa hgrow7); have K7 := Lib.hid (Kp.grown OA.out KA.out hgrow7); have O7 := Lib.hid hown7; clear hown7 hgrow7 hat7 e1 e2 e3 e4 e5 a0 a3)
        go_roundw
        case rel => exact ⟨k + 1, A7, n7, c7, by omega, by go_num, rfl, Lib.hid (by rw [SN.out]; exact O7.out), B7, K7⟩
        case measure => simp [intOf]; omega
      · subst hk
        rw [hbw] at SN
        clear hbw
        go_wp2_with (at_builtin; refine kX.wp_app rfl _ _ rfl (v := .slice A' n' c') (l := acc') (m := [⟨8, ⟨#[]⟩, ⟨#[]⟩⟩]) (B := B) (A := some ⟨wa.heap.size, 0, none⟩) (n := 1) (c := 1) rfl (OA.out.alloc _) rfl rfl (fun e => by cases e) (Kind.Holds.lit (heap_alloc_new _ _) rfl) (by omega) (by simp; omega) ?_; intro v7 w7 hown7 hgrow7 hat7; obtain ⟨A7, n7, c7, rfl, e1, e2, e3, e4, e5⟩ := hown7.slice; have B7 := Lib.hid (below_put BA.out OA.out hBa hgrow7); have K7 := Lib.hid (Kp.grown OA.out KA.out hgrow7); have O7 := Lib.hid hown7; clear hown7 hgrow7 hat7 e1 e2 e3 e4 e5 a0 a3)
        go_roundw
        case rel => exact ⟨k + 1, A7, n7, c7, by omega, by go_num, rfl, Lib.hid (by rw [SN.out]; exact O7.out), B7, K7⟩
        case measure => simp [intOf]; omega
      · subst hk
        rw [hbw] at SN
        clear hbw
        go_wp2_with (at_builtin; refine kX.wp_app rfl _ _ rfl (v := .slice A' n' c') (l := acc') (m := [⟨7, ⟨#[]⟩, ⟨#[]⟩⟩]) (B := B) (A := some ⟨wa.heap.size, 0, none⟩) (n := 1) (c := 1) rfl (OA.out.alloc _) rfl rfl (fun e => by cases e) (Kind.Holds.lit (heap_alloc_new _ _) rfl) (by omega) (by simp; omega) ?_; intro v7 w7 hown7 hgrow7 hat7; obtain ⟨A7, n7, c7, rfl, e1, e2, e3, e4, e5⟩ := hown7.slice; have B7 := Lib.hid (below_put BA.out OA.out hBa hgrow7); have K7 := Lib.hid (Kp.grown OA.out KA.out hgrow7); have O7 := Lib.hid hown7; clear hown7 hgrow7 hat7 e1 e2 e3 e4 e5 a0 a3)
        go_roundw
        case rel => exact ⟨k + 1, A7, n7, c7, by omega, by go_num, rfl, Lib.hid (by rw [SN.out]; exact O7.out), B7, K7⟩
        case measure => simp [intOf]; omega
    · obtain rfl : k = n2 := by omega
      go_wp2_with fail
      go_ret
      exact ⟨A', n', c', rfl, by rw [List.take_of_length_le (by have := EL.out; omega)] at HO; exact HO.out, HB.out, HK.out⟩
theorem putAll_kids : ∀ t : WV, PutC t.kids := by
  intro t
  induction t using WV.ind with
  | h kind tag key txt sa attrs sk kids ih => exact putAll_of kids ih
theorem putAll_any (ts : List WV) : PutC ts := putAll_of ts (fun t _ => putAll_kids t)
end Go.Proofs.Ytgpbgimobcdogaa.P14
