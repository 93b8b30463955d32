/- What the program's wish.Count and wish.Back answer. No condition but those stated. -/
import Derived.Deep.DrawnRows
import Derived.Deep.RegionHeld3
import Derived.Test.YtfjnbjpenibpkaaM18
import Derived.Test.YtfjnbjpenibpkaaM24
import Derived.Test.YtfjnbjpenibpkaaM25
import Derived.Test.YtfjnbjpenibpkaaM29
set_option linter.unusedVariables false
set_option linter.unusedSimpArgs false
set_option linter.unusedVariables false
set_option linter.unusedSimpArgs false
namespace Go.Proofs.Ytfjnbjpenibpkaa.P14
open Go.RowKit Kd P4 P5 P11 P12 P13

/-- what is wanted, in a block of its own -/
def WB (w : World) (g : Nat) (t : WV) : Prop := w.heap[g]? = some (.cells #[.int .i64 t.kind, .string t.tag, .string t.key, .string t.txt, .slice t.sa.A t.sa.n t.sa.c, .slice t.sk.A t.sk.n t.sk.c] 46 (0, 0))
section
variable {w w' : World} {g C : Nat} {t : WV}
theorem WB.new (w : World) (t : WV) : WB (w.alloc (.cells #[.int .i64 t.kind, .string t.tag, .string t.key, .string t.txt, .slice t.sa.A t.sa.n t.sa.c, .slice t.sk.A t.sk.n t.sk.c] 46)) w.heap.size t := heap_alloc_new w _
theorem WB.lt (h : WB w g t) : g < w.heap.size := heap_lt h
theorem WB.below (h : WB w g t) (hb : Below C w w') (hC : g < C) : WB w' g t := (hb.block g hC).trans h
theorem WB.c0 (h : WB w g t) : w.cell? ⟨g, 0, none⟩ = some (.int .i64 t.kind) := cell_of_row w g 0 _ _ (0, 0) h
theorem WB.c1 (h : WB w g t) : w.cell? ⟨g, 1, none⟩ = some (.string t.tag) := cell_of_row w g 1 _ _ (0, 0) h
theorem WB.c2 (h : WB w g t) : w.cell? ⟨g, 2, none⟩ = some (.string t.key) := cell_of_row w g 2 _ _ (0, 0) h
theorem WB.c3 (h : WB w g t) : w.cell? ⟨g, 3, none⟩ = some (.string t.txt) := cell_of_row w g 3 _ _ (0, 0) h
theorem WB.c4 (h : WB w g t) : w.cell? ⟨g, 4, none⟩ = some (.slice t.sa.A t.sa.n t.sa.c) := cell_of_row w g 4 _ _ (0, 0) h
theorem WB.c5 (h : WB w g t) : w.cell? ⟨g, 5, none⟩ = some (.slice t.sk.A t.sk.n t.sk.c) := cell_of_row w g 5 _ _ (0, 0) h
theorem WB.fr (h : WB w g t) (k : Nat) : w.frozen? ⟨g, k, none⟩ = false := by simp [World.frozen?, (show w.heap[g]? = _ from h)]
end
/-! ### Count -/
def CntP (ts : List WV) : Prop := ∀ (w : World) (A : Option Addr) (n c : Nat), kW.Holds w w.heap.size A ts → ts.length = n → (∀ t ∈ ts, WOk kW w w.heap.size t) → wtL (erL ts) ≤ 1000 →
  Calls Try.prog 14 #[.slice A n c] w fun e w' => e = .returned (.int .i64 (cntL (erL ts) : Nat)) ∧ Below w.heap.size w w'
set_option maxHeartbeats 4000000 in
theorem count_of (ts : List WV) (IH : ∀ t ∈ ts, CntP t.kids) : CntP ts := by
  intro w A n c hh hn hok hw
  have KH := Lib.hid hh
  have KL := Lib.hid hn
  have KS := Lib.hid hok
  have HI : Hid (∀ t ∈ ts, CntP t.kids) := Lib.hid IH
  have EL : Hid ((erL ts).length = n) := Lib.hid (by rw [erL_map]; simpa using hn)
  have HC : Hid (∀ k, cntL ((erL ts).take k) ≤ 100000) := Lib.hid (fun k => by
    have h1 := cntL_wt ((erL ts).take k)
    have h2 : wtL (erL ts) = wtL ((erL ts).take k) + wtL ((erL ts).drop k) := by rw [← wtL_append, List.take_append_drop]
    omega)
  have HW := Lib.hid hw
  have hn1 : n ≤ 100000 := by have := wtL_len (erL ts); have := EL.out; omega
  clear hh hn hok hw IH
  go_enter Try.func14, Try.ntmps14
  go_wp2_with fail
  go_loopw [3, 8] (fun s3 s8 wr => ∃ (k : Nat), k ≤ n ∧ s8 = .int .i64 k ∧ s3 = .int .i64 (cntL ((erL ts).take k) : Nat) ∧ Hid (Below w.heap.size w wr)) (fun _ s8 _ => n - (intOf s8).toNat)
  case atStart => exact ⟨0, by omega, rfl, by simp [cntL], Lib.hid (Below.refl _ _)⟩
  case round =>
    obtain ⟨k, hk, rfl, rfl, HB⟩ := hrel
    by_cases hkn : k < n
    · have hkl : k < ts.length := by have := KL.out; omega
      have hke : k < (erL ts).length := by have := EL.out; omega
      have SN := Lib.hid (cntL_take hke)
      rw [erL_at hkl hke, cnt_parts] at SN
      have hd1 := HC.out k
      have hd2 := HC.out (k + 1)
      obtain ⟨b, o, rfl, hb, g0, g1, g2, g3, g4, g5⟩ := cell_of_w (KH.out.on HB.out) hkl
      have CK : Hid (∀ wz, Below wr.heap.size wr wz → Calls Try.prog 14 #[.slice ts[k].sk.A ts[k].sk.n ts[k].sk.c] wz fun e w' => e = .returned (.int .i64 (cntL (erL ts[k].kids) : Nat)) ∧ Below wz.heap.size wz w') := Lib.hid (fun wz hz => by
        have ht := (KS.out _ (List.getElem_mem hkl)).on (HB.out.trans (hz.mono HB.out.size))
        exact HI.out _ (List.getElem_mem hkl) wz _ _ _ ht.kh ht.kl ht.ks (by have := wtL_kids (List.getElem_mem hkl); have := HW.out; omega))
      generalize ts[k] = d at g0 g1 g2 g3 g4 g5 CK SN
      generalize cntL (erL d.kids) = dk at CK SN
      generalize cntL ((erL ts).take k) = m at SN hd1 ⊢
      rw [SN.out] at hd2
      go_upto_region 5 with fail
      have NA : Hid (WB (wr.alloc (.cells #[.int .i64 d.kind, .string d.tag, .string d.key, .string d.txt, .slice d.sa.A d.sa.n d.sa.c, .slice d.sk.A d.sk.n d.sk.c] 46)) wr.heap.size d) := Lib.hid (WB.new wr d)
      have BA : Hid (Below wr.heap.size wr (wr.alloc (.cells #[.int .i64 d.kind, .string d.tag, .string d.key, .string d.txt, .slice d.sa.A d.sa.n d.sa.c, .slice d.sk.A d.sk.n d.sk.c] 46))) := Lib.hid ((Below.refl _ _).alloc (Nat.le_refl _) _)
      generalize wr.alloc (.cells #[.int .i64 d.kind, .string d.tag, .string d.key, .string d.txt, .slice d.sa.A d.sa.n d.sa.c, .slice d.sk.A d.sk.n d.sk.c] 46) = wa at NA BA ⊢
      clear g0 g1 g2 g3 g4 g5
      have a0 := NA.out.c0; have a5 := NA.out.c5
      have BW := Lib.hid (HB.out.trans (BA.out.mono HB.out.size))
      obtain ⟨kind, hkd⟩ : ∃ x, d.kind = x := ⟨_, rfl⟩
      rw [hkd] at a0 SN hd2
      by_cases h2 : kind = 2
      · subst h2
        rw [if_pos rfl] at SN hd2
        go_wp2_with fail
        go_roundw
        case rel => exact ⟨k + 1, by omega, by go_num, by rw [SN.out]; go_num, BW⟩
        case measure => simp [intOf]; omega
      · have q2 := int_ne h2
        rw [if_neg h2] at SN hd2
        by_cases h1 : kind = 1
        · subst h1
          rw [if_pos rfl] at SN hd2
          go_wp2_with fail
          refine (CK.out wa BA.out).mono ?_
          rintro e w2 ⟨rfl, b2⟩
          have B2 := Lib.hid (BW.out.trans (b2.mono BW.out.size))
          clear b2
          go_wp2_with fail
          go_roundw
          case rel => exact ⟨k + 1, by omega, by go_num, by rw [SN.out]; go_num, B2⟩
          case measure => simp [intOf]; omega
        · have q1 := int_ne h1
          rw [if_neg h1] at SN hd2
          go_wp2_with fail
          go_roundw
          case rel => exact ⟨k + 1, by omega, by go_num, by rw [SN.out]; rfl, BW⟩
          case measure => simp [intOf]; omega
    · obtain rfl : k = n := by omega
      go_wp2_with fail
      go_ret
      exact ⟨by rw [List.take_of_length_le (by have := EL.out; omega)]; rfl, HB.out⟩
theorem count_kids : ∀ t : WV, CntP t.kids := by
  intro t
  induction t using WV.ind with
  | h kind tag key txt sa attrs sk kids ih => exact count_of kids ih
theorem count_any (ts : List WV) : CntP ts := count_of ts (fun t _ => count_kids t)
/-! ### Back -/
/-- blocks that aren't of instructions are as they were -/
def Kp (w w' : World) : Prop := ∀ (b : Nat) (cur : Array Value) (e : TypeId) (fr : Nat × Nat), w.heap[b]? = some (.cells cur e fr) → e ≠ 38 → w'.heap[b]? = w.heap[b]?
section
variable {w w1 w2 : World}
theorem Kp.refl (w : World) : Kp w w := fun _ _ _ _ _ _ => rfl
theorem Kp.trans (h : Kp w w1) (k : Kp w1 w2) : Kp w w2 := fun b cur e fr hb he => (k b cur e fr ((h b cur e fr hb he).trans hb) he).trans (h b cur e fr hb he)
theorem Kp.of_below (h : Below w.heap.size w w1) : Kp w w1 := fun b _ _ _ hb _ => h.block b (heap_lt hb)
theorem Kp.alloc (h : Kp w w1) (o : Obj) : Kp w (w1.alloc o) := h.trans (fun _ _ _ _ hb _ => (heap_up hb).trans hb.symm)
theorem Kp.grown {B : Nat} {v : Value} {l : List In} {o : Obj} (own : kX.Own w1 B v l) (h : Kp w w1) (hg : (w1.alloc o).grownBy w2 v.ownBlock) : Kp w w2 :=
  h.trans fun b cur e fr hb he => by
    have hb2 : (w1.alloc o).heap[b]? = some (.cells cur e fr) := heap_up hb
    refine (hg.block b (heap_lt hb2) (fun hv => ?_)).trans (hb2.trans hb.symm)
    obtain ⟨c2, hc⟩ := own.ty hv.symm
    rw [hb] at hc
    injection hc with hc
    injection hc with _ hc
    exact he hc
theorem Kp.wb {g : Nat} {t : WV} (h : Kp w w1) (k : WB w g t) : WB w1 g t := (h g _ _ _ k (by decide)).trans k
end
def PutV (B : Nat) (w : World) (out : List In) (e : Ending) (w' : World) : Prop := ∃ (A : Option Addr) (n c : Nat), e = .returned (.slice A n c) ∧ kX.Own w' B (.slice A n c) out ∧ Below B w w' ∧ Kp w w'
theorem below_put {w w1 w4 : World} {B : Nat} {v : Value} {l : List In} {o : Obj} (hb : Below B w w1) (hown : kX.Own w1 B v l) (hB : B ≤ w1.heap.size) (hg : (w1.alloc o).grownBy w4 v.ownBlock) : Below B w w4 :=
  (hb.alloc hB o).grown hg (by simp; omega) (fun k hk => (hown.lt hk).1)
/-! ### What is told back, behind what is there -/
theorem backP_wt (t : PW) : (backW t).length ≤ 2 * wtW t := by
  induction t using PW.ind with
  | h kind tag key txt attrs kids ih =>
    have : ∀ l : List PW, (∀ k ∈ l, (backW k).length ≤ 2 * wtW k) → (backL l).length ≤ 2 * wtL l := by
      intro l
      induction l with
      | nil => intro _; simp [backL]
      | cons a l ih2 =>
        intro h
        have h1 := h a (by simp)
        have h2 := ih2 (fun k hk => h k (by simp [hk]))
        rw [backL, wtL, List.length_append]
        omega
    have := this kids ih
    rw [backW, wtW]
    split
    · split
      · simp; omega
      · simp; omega
    · split
      · simp; omega
      · split
        · simp; omega
        · split
          · simp; omega
          · simp
theorem backP_wtL : ∀ l : List PW, (backL l).length ≤ 2 * wtL l
  | [] => by simp [backL]
  | a :: l => by have := backP_wt a; have := backP_wtL l; rw [backL, wtL, List.length_append]; omega
/-- a list that grows, and an element beside it -/
structure PSt (B g : Nat) (t : WV) (A : Option Addr) (n c : Nat) (acc : List In) (w wz : World) : Prop where
  own : kX.Own wz B (.slice A n c) acc
  hb : Below B w wz
  kp : Kp w wz
  wb : WB wz g t
section
variable {B g : Nat} {t : WV} {A : Option Addr} {n c : Nat} {acc : List In} {w wz : World}
theorem PSt.drewN (h : PSt B g t A n c acc w wz) (j : Nat) : PSt B g t A n c acc w (wz.drewN j) := ⟨h.own, Below_drewN h.hb j, h.kp, h.wb⟩
theorem PSt.drew (h : PSt B g t A n c acc w wz) : PSt B g t A n c acc w wz.drew := ⟨h.own, h.hb.drew, h.kp, h.wb⟩
theorem PSt.put {out : List In} {w' : World} {A' : Option Addr} {n' c' : Nat} (h : PSt B g t A n c acc w wz) (own : kX.Own w' B (.slice A' n' c') out) (b : Below B wz w') (k : Kp wz w') : PSt B g t A' n' c' out w w' := ⟨own, h.hb.trans b, h.kp.trans k, k.wb h.wb⟩
theorem PSt.app {w4 : World} {o : Obj} {A' : Option Addr} {n' c' : Nat} {m : List In} (h : PSt B g t A n c acc w wz) (hB : B ≤ wz.heap.size) (hg : (wz.alloc o).grownBy w4 (Value.slice A n c).ownBlock) (own : kX.Own w4 B (.slice A' n' c') m) : PSt B g t A' n' c' m w w4 := by
  have k := Kp.grown h.own (Kp.refl wz) hg
  exact ⟨own, below_put h.hb h.own hB hg, h.kp.trans k, k.wb h.wb⟩
end
/-- an element of a program: what is told of it -/
theorem wf_elem {t : WV} (h : WfW (er t)) (hk : t.kind = 1) : (P1.voidB t.tag.data.toList = true ∧ erL t.kids = [] ∧ backW (er t) = ⟨3, t.tag, t.key⟩ :: t.attrs.map atI ∨ P1.voidB t.tag.data.toList = false ∧ (∀ k ∈ erL t.kids, WfW k) ∧ backW (er t) = ⟨1, t.tag, t.key⟩ :: (t.attrs.map atI ++ (backL (erL t.kids) ++ [⟨2, z0, z0⟩]))) ∧ t.tag.size ≤ 100000 := by
  rw [er_parts, hk] at h ⊢
  generalize erL t.kids = ks at h ⊢
  generalize t.tag = tag at h ⊢
  generalize t.key = key at h ⊢
  generalize t.attrs = attrs at h ⊢
  generalize t.txt = txt at h ⊢
  cases h with
  | el hm ha hk => exact ⟨.inr ⟨may_open hm, hk, back_open (may_open hm)⟩, by have := (may_small hm).1; simp only at this; omega⟩
  | vo hm ha => exact ⟨.inl ⟨may_void hm, rfl, back_void (may_void hm)⟩, by have := (may_small hm).1; simp only at this; omega⟩
theorem wf_kinds {t : WV} (h : WfW (er t)) : t.kind = 1 ∨ (t.kind = 2 ∧ backW (er t) = [⟨4, t.txt, z0⟩]) ∨ (t.kind = 3 ∧ backW (er t) = [⟨8, z0, z0⟩]) ∨ (t.kind = 4 ∧ backW (er t) = [⟨7, z0, z0⟩]) := by
  rw [er_parts] at h ⊢
  generalize erL t.kids = ks at h ⊢
  generalize t.kind = kind at h ⊢
  generalize t.tag = tag at h ⊢
  generalize t.key = key at h ⊢
  generalize t.attrs = attrs at h ⊢
  generalize t.txt = txt at h ⊢
  cases h with
  | el => exact .inl rfl
  | vo => exact .inl rfl
  | tx => exact .inr (.inl ⟨rfl, by simp [backW]⟩)
  | nd => exact .inr (.inr (.inl ⟨rfl, by simp [backW]⟩))
  | al => exact .inr (.inr (.inr ⟨rfl, by simp [backW]⟩))
end Go.Proofs.Ytfjnbjpenibpkaa.P14
