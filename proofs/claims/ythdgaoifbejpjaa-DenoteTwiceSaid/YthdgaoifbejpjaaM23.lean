/- What the law's As answers: what the program wants, as the document's. No condition but those stated. -/
import Derived.Deep.DeepCutAuto
import Derived.WalkKit
import Derived.Lib.Strings
import Derived.Lib.UnsafeStr
import Derived.Test.YthdgaoifbejpjaaM9
import Derived.Test.YthdgaoifbejpjaaM14
import Derived.Test.YthdgaoifbejpjaaM17
set_option linter.unusedVariables false
set_option linter.unusedSimpArgs false
set_option linter.unusedVariables false
set_option linter.unusedSimpArgs false
namespace Go.Proofs.Ythdgaoifbejpjaa.P14
open Go.RowKit Kd P4 P5 P11 P12 P13

/-- what is wanted whose lists are of one's own, from block C on, blocks of Q; its attributes lie below C -/
inductive WMix (K : Kind Try.prog WV) (w : World) (C : Nat) (Q : Nat → Prop) : WV → Prop
  | mk {kind : Int} {tag key txt : ByteArray} {sa sk : Sv} {attrs : List P3.At} {kids : List WV} (al : attrs.length = sa.n) (ac : sa.n ≤ sa.c) (az : sa.A = none → sa.c = 0) (ah : kA.Holds w C sa.A attrs)
      (own : K.Own w C (.slice sk.A sk.n sk.c) kids) (q : ∀ b, (Value.slice sk.A sk.n sk.c).ownBlock = some b → Q b) (ks : ∀ k ∈ kids, WMix K w C Q k) : WMix K w C Q (.mk kind tag key txt sa attrs sk kids)
section
variable {K : Kind Try.prog WV} {w w' : World} {C D : Nat} {Q R S : Nat → Prop} {t : WV}
theorem WMix.al (h : WMix K w C Q t) : t.attrs.length = t.sa.n := by cases h; assumption
theorem WMix.ac (h : WMix K w C Q t) : t.sa.n ≤ t.sa.c := by cases h; assumption
theorem WMix.az (h : WMix K w C Q t) : t.sa.A = none → t.sa.c = 0 := by cases h; assumption
theorem WMix.ah (h : WMix K w C Q t) : kA.Holds w C t.sa.A t.attrs := by cases h; assumption
theorem WMix.own (h : WMix K w C Q t) : K.Own w C (.slice t.sk.A t.sk.n t.sk.c) t.kids := by cases h; assumption
theorem WMix.q (h : WMix K w C Q t) : ∀ b, (Value.slice t.sk.A t.sk.n t.sk.c).ownBlock = some b → Q b := by cases h; assumption
theorem WMix.ks (h : WMix K w C Q t) : ∀ k ∈ t.kids, WMix K w C Q k := by cases h; assumption
theorem WMix.mono (h : WMix K w C Q t) (hq : ∀ b, b < w.heap.size → Q b → R b) : WMix K w C R t := by
  induction t using WV.ind with
  | h kind tag key txt sa attrs sk kids ih => exact ⟨h.al, h.ac, h.az, h.ah, h.own, fun b hb => hq b (h.own.lt hb).2 (h.q b hb), fun k hk => ih k hk (h.ks k hk)⟩
theorem WMix.but (h : WMix K w C Q t) (hC : C ≤ w.heap.size) (hb : But S w w') (hS : ∀ b, Q b → ¬ S b) (hA : ∀ b, b < w.heap.size → S b → C ≤ b) : WMix K w' C Q t := by
  induction t using WV.ind with
  | h kind tag key txt sa attrs sk kids ih => exact ⟨h.al, h.ac, h.az, h.ah.below (hb.to_below hA hC) (Nat.le_refl _), h.own.but hb (fun b e => hS b (h.q b e)), h.q, fun k hk => ih k hk (h.ks k hk)⟩
theorem WMix.later (h : WMix K w C Q t) (hC : C ≤ w.heap.size) (hb : Below w.heap.size w w') : WMix K w' C Q t := h.but hC (But.of_below hb (fun _ => False)) (fun _ _ h => h) (fun _ _ h => h.elim)
theorem WMix.ok (h : WMix K w C Q t) (hC : C ≤ w.heap.size) : WOk K w w.heap.size t := by
  induction t using WV.ind with
  | h kind tag key txt sa attrs sk kids ih =>
    have h2 := h.own
    simp only [WV.sk, WV.kids] at h2
    obtain ⟨A, n, c, hv, e1, e2, e3, e4, e5⟩ := h2.slice
    injection hv with v1 v2 v3
    subst v1; subst v2; subst v3
    exact ⟨h.al, h.ac, h.az, h.ah.more hC, e1, e2, fun e => e4 e, e5, fun k hk => ih k hk (h.ks k hk)⟩
end
/-- a slice of one's own grows by one -/
theorem mix_grew {K : Kind Try.prog WV} {w5 w7 : World} {o : Obj} {C : Nat} {A A7 : Option Addr} {n c n7 c7 : Nat} {l : List WV} {k : WV} {Q : Nat → Prop} (hC : C ≤ w5.heap.size) (own : K.Own w5 C (.slice A n c) l)
    (ks : ∀ k ∈ l, WMix K w5 C (fun b => Q b ∧ (Value.slice A n c).ownBlock ≠ some b) k) (hk : WMix K w5 C (fun b => Q b ∧ (Value.slice A n c).ownBlock ≠ some b) k) (hg : (w5.alloc o).grownBy w7 (Value.slice A n c).ownBlock)
    (hat : (Value.slice A7 n7 c7).ownBlock = (Value.slice A n c).ownBlock ∨ (Value.slice A7 n7 c7).ownBlock = some (w5.alloc o).heap.size) :
    (∀ t ∈ l ++ [k], WMix K w7 C (fun b => Q b ∧ (Value.slice A7 n7 c7).ownBlock ≠ some b) t) ∧ But (fun b => (Value.slice A n c).ownBlock = some b) w5 w7 := by
  have b7 : But (fun b => (Value.slice A n c).ownBlock = some b) w5 w7 := (But.alloc (But.refl _ _) _).trans (But.of_grown (S := fun i => (Value.slice A n c).ownBlock = some i) hg (fun i hi _ => hi)) (fun _ _ h => h)
  have key' : ∀ k : WV, WMix K w5 C (fun b => Q b ∧ (Value.slice A n c).ownBlock ≠ some b) k → WMix K w7 C (fun b => Q b ∧ (Value.slice A7 n7 c7).ownBlock ≠ some b) k := by
    intro k h
    have h1 : WMix K w5 C (fun b => (Q b ∧ (Value.slice A n c).ownBlock ≠ some b) ∧ b < w5.heap.size) k := h.mono fun b hb hq => ⟨hq, hb⟩
    refine (h1.but hC b7 (fun b hq hs => hq.1.2 hs) (fun b _ e => (own.lt e).1)).mono fun b _ hq => ⟨hq.1.1, fun e => ?_⟩
    rcases hat with h2 | h2
    · exact hq.1.2 (h2 ▸ e)
    · rw [h2] at e
      injection e with e
      have := hq.2
      simp at e
      omega
  refine ⟨fun t ht => ?_, b7⟩
  rcases List.mem_append.1 ht with h | h
  · exact key' t (ks t h)
  · rw [List.mem_singleton.1 h]; exact key' _ hk
/-- what As tells: all attributes lie below C -/
def Mv (C : Nat) (w : World) (l : List PW) (e : Ending) (w' : World) : Prop := ∃ (A : Option Addr) (n c : Nat) (us : List WV), e = .returned (.slice A n c) ∧ erL us = l ∧ kQ.Own w' w.heap.size (.slice A n c) us ∧ (∀ t ∈ us, WMix kQ w' C (fun b => w.heap.size ≤ b ∧ (Value.slice A n c).ownBlock ≠ some b) t) ∧ Below w.heap.size w w'
/-- what is read: its attributes, and all lists, lie below C -/
def AsC (ts : List WV) : Prop := ∀ (C : Nat) (w : World) (A : Option Addr) (n c : Nat), C ≤ w.heap.size → kW.Holds w C A ts → ts.length = n → (∀ t ∈ ts, WOk kW w C t) → wtL (erL ts) ≤ 100000 → Calls Try.prog 10 #[.slice A n c] w (Mv C w (erL ts))
def AsRel (C : Nat) (w : World) (ts : List WV) (n : Nat) (s3 s4 : Value) (wr : World) : Prop := ∃ (k : Nat) (A' : Option Addr) (n' c' : Nat) (us : List WV), k ≤ n ∧ s4 = .int .i64 k ∧ s3 = .slice A' n' c' ∧ Hid (erL us = (erL ts).take k) ∧ Hid (kQ.Own wr w.heap.size (.slice A' n' c') us) ∧ Hid (∀ t ∈ us, WMix kQ wr C (fun b => w.heap.size ≤ b ∧ (Value.slice A' n' c').ownBlock ≠ some b) t) ∧ Hid (Below w.heap.size w wr)
set_option maxRecDepth 100000 in
set_option maxHeartbeats 8000000 in
theorem as_of (ts : List WV) (IH : ∀ t ∈ ts, AsC t.kids) : AsC ts := by
  intro C w A n c hC hh hn hok hw
  have KH := Lib.hid hh
  have KL := Lib.hid hn
  have KS := Lib.hid hok
  have HI : Hid (∀ t ∈ ts, AsC t.kids) := Lib.hid IH
  have EL : Hid ((erL ts).length = n) := Lib.hid (by rw [erL_map]; simpa using hn)
  have HW := Lib.hid hw
  have HC := Lib.hid hC
  have hn1 : n ≤ 100000 := by have := wtL_len (erL ts); have := EL.out; omega
  have ST : Hid (AsRel C w ts n (.slice none 0 0) (.int .i64 0) w) := Lib.hid ⟨0, none, 0, 0, [], by omega, rfl, rfl, Lib.hid (by simp [erL]), Lib.hid (Kind.Own.nil kQ w _), Lib.hid (by intro t ht; cases ht), Lib.hid (Below.refl _ _)⟩
  clear hh hn hok hw IH
  go_enter Try.func10, Try.ntmps10
  go_wp2_with fail
  go_loopw [3, 4] (fun s3 s4 wr => AsRel C w ts n s3 s4 wr) (fun _ s4 _ => n - (intOf s4).toNat)
  case atStart => exact ST.out
  case round =>
    obtain ⟨k, A', n', c', us, hk, rfl, rfl, HU, HO, HM, HB⟩ := hrel
    clear ST
    by_cases hkn : k < n
    · have hkl : k < ts.length := by have := KL.out; omega
      have hke : k < (erL ts).length := by have := EL.out; omega
      obtain ⟨b, o, rfl, hb, g0, g1, g2, g3, g4, g5⟩ := cell_of_w KH.out hkl
      have hbw : b < w.heap.size := by have := HC.out; omega
      have SK0 : Hid (∀ wz, Below w.heap.size w wz → wz.cell? ⟨b, o + k * 6, none⟩ = some (.int .i64 ts[k].kind) ∧ wz.cell? ⟨b, o + k * 6 + 1, none⟩ = some (.string ts[k].tag) ∧ wz.cell? ⟨b, o + k * 6 + 2, none⟩ = some (.string ts[k].key) ∧ wz.cell? ⟨b, o + k * 6 + 3, none⟩ = some (.string ts[k].txt) ∧ wz.cell? ⟨b, o + k * 6 + 4, none⟩ = some (.slice ts[k].sa.A ts[k].sa.n ts[k].sa.c) ∧ wz.cell? ⟨b, o + k * 6 + 5, none⟩ = some (.slice ts[k].sk.A ts[k].sk.n ts[k].sk.c)) := Lib.hid (fun wz h => ⟨(h.cell hbw).trans g0, (h.cell hbw).trans g1, (h.cell hbw).trans g2, (h.cell hbw).trans g3, (h.cell hbw).trans g4, (h.cell hbw).trans g5⟩)
      have hts := (KS.out _ (List.getElem_mem hkl))
      have hwk := wtL_kids (List.getElem_mem hkl)
      have HTS : Hid (∀ wz, Below w.heap.size w wz → WOk kW wz C ts[k]) := Lib.hid (fun wz h => hts.later h HC.out)
      have CK : Hid (∀ w9, Below w.heap.size w w9 → Calls Try.prog 10 #[.slice ts[k].sk.A ts[k].sk.n ts[k].sk.c] w9 (Mv C w9 (erL ts[k].kids))) := Lib.hid (fun w9 h => by
        have h1 := hts.later h HC.out
        exact HI.out _ (List.getElem_mem hkl) C w9 _ _ _ (by have := h.size; have := HC.out; omega) h1.kh h1.kl h1.ks (by have := HW.out; omega))
      have HU2 : Hid ((erL ts).take (k + 1) = erL us ++ [er ts[k]]) := Lib.hid (by rw [List.take_add_one, List.getElem?_eq_getElem hke, erL_at hkl hke, HU.out]; rfl)
      have hul : us.length ≤ 100000 := by
        have h1 := congrArg List.length HU.out
        rw [erL_map, List.length_map, List.length_take] at h1
        omega
      clear g0 g1 g2 g3 g4 g5 hts hwk hke
      generalize ts[k] = d at SK0 CK HU2 HTS
      clear hkl
      have HUL := Lib.hid hul
      clear hul
      obtain ⟨g0, g1, g2, g3, g4, g5⟩ := SK0.out wr HB.out
      go_upto_region 5 with fail
      have SK := SK0.out wr HB.out
      go_region_held3 (fun w' => w'.cell? ⟨b, o + k * 6, none⟩ = some (.int .i64 d.kind) ∧ w'.cell? ⟨b, o + k * 6 + 1, none⟩ = some (.string d.tag) ∧ w'.cell? ⟨b, o + k * 6 + 2, none⟩ = some (.string d.key) ∧ w'.cell? ⟨b, o + k * 6 + 3, none⟩ = some (.string d.txt) ∧ w'.cell? ⟨b, o + k * 6 + 4, none⟩ = some (.slice d.sa.A d.sa.n d.sa.c) ∧ w'.cell? ⟨b, o + k * 6 + 5, none⟩ = some (.slice d.sk.A d.sk.n d.sk.c)) (first | go_keep | exact SK) ((first
        | (go_at_call 10; refine (CK.out _ (by first | exact Below_drewN HB.out _ | exact HB.out.drew | exact HB.out)).mono ?_; rintro e w10 ⟨A5, n5, c5, ks, rfl, her, own5, mix5, b10⟩; have b10x : Below wr.heap.size wr w10 := (by first | exact (Below_drewN (Below.refl _ _) _).trans b10 | exact ((Below.refl _ _).drew).trans b10 | exact b10); have B10 : Hid (Below w.heap.size w w10) := Lib.hid (HB.out.trans (b10x.mono HB.out.size)); have SK := SK0.out w10 B10.out; have HO10 := Lib.hid (HO.out.below b10x (Nat.le_refl _)); have HM10 := Lib.hid (fun t ht => (HM.out t ht).later (Nat.le_trans HC.out HB.out.size) b10x); have HER := Lib.hid her; have OW5 : Hid (kQ.Own w10 wr.heap.size (.slice A5 n5 c5) ks) := Lib.hid own5; have MX5 : Hid (∀ t ∈ ks, WMix kQ w10 C (fun b => wr.heap.size ≤ b ∧ (Value.slice A5 n5 c5).ownBlock ≠ some b) t) := Lib.hid mix5; have BX := Lib.hid b10x; clear b10 b10x own5 mix5 her)
        | (refine kQ.step_app rfl (.tmp 11) (.tmp 44) rfl (v := .slice A' n' c') (l := us) (m := [.mk d.kind d.tag d.key d.txt d.sa d.attrs ⟨A5, n5, c5⟩ ks]) (B := w.heap.size) rfl (by repeat (first | exact HO10.out | refine Kind.Own.alloc ?_ _ | refine Kind.Own.drewN ?_ _ | refine Kind.Own.drew ?_)) rfl rfl (fun e => by cases e) (Kind.Holds.lit (by first | exact heap_alloc_new _ _ | exact heap_drew (heap_top rfl) | exact heap_top rfl) rfl) (by have := HUL.out; simp; omega) (by have := B10.out.size; simp; omega) ?_; intro v' w12 hown' hgrow hat; obtain ⟨A6, n6, c6, rfl, _, _, _, _, _⟩ := hown'.slice; have OW6 := Lib.hid hown'; have GR6 := Lib.hid hgrow; have AT6 := Lib.hid hat; have BZ : Hid (Below w.heap.size w w12) := Lib.hid ((B10.out.alloc B10.out.size _).grown hgrow (by have := B10.out.size; simp; omega) (fun i hi => (HO10.out.lt hi).1)); have SK := SK0.out w12 BZ.out; clear hown' hgrow hat)
        | fail))
      have hts := HTS.out w10 B10.out
      have hwr := HB.out.size
      have hCr : C ≤ wr.heap.size := Nat.le_trans HC.out hwr
      have NEW : WMix kQ w10 C (fun b => w.heap.size ≤ b ∧ (Value.slice A' n' c').ownBlock ≠ some b) (.mk d.kind d.tag d.key d.txt d.sa d.attrs ⟨A5, n5, c5⟩ ks) := by
        refine .mk hts.al hts.ac hts.az hts.ah (OW5.out.base_le hCr) (fun b hb => ?_) (fun u hu => ?_)
        · have h1 := (OW5.out.lt hb).1
          exact ⟨by omega, fun e => by have := (HO.out.lt e).2; omega⟩
        · exact (MX5.out u hu).mono fun b _ hq => ⟨by have := hq.1; omega, fun e => by have := (HO.out.lt e).2; have := hq.1; omega⟩
      have GREW := mix_grew (Nat.le_trans hCr BX.out.size) (HO10.out.base_le HC.out) HM10.out NEW GR6.out AT6.out
      have B12 : Hid (Below w.heap.size w w12) := Lib.hid (B10.out.trans (GREW.2.to_below (fun i _ hi => (HO10.out.lt hi).1) B10.out.size))
      have REL : Hid (AsRel C w ts n (.slice A6 n6 c6) (.int .i64 ((k + 1 : Nat) : Int)) w12) := Lib.hid ⟨k + 1, A6, n6, c6, _, by omega, rfl, rfl, Lib.hid (by rw [erL_append, HU2.out]; congr 1; show [er _] = [er d]; rw [er_parts, er_parts]; simp only [WV.kind, WV.tag, WV.key, WV.txt, WV.attrs, WV.kids, HER.out]), OW6, Lib.hid GREW.1, B12⟩
      clear GREW NEW hts
      go_wp2_with fail
      go_roundw
      case rel => exact REL.out
      case measure => simp [intOf]; omega
    · obtain rfl : k = n := by omega
      have HR : Hid (erL us = erL ts) := Lib.hid (by rw [HU.out, List.take_of_length_le (by have := EL.out; omega)])
      go_wp2_with fail
      go_ret
      exact ⟨A', n', c', us, rfl, HR.out, HO.out, HM.out, HB.out⟩
theorem as_kids : ∀ t : WV, AsC t.kids := by
  intro t
  induction t using WV.ind with
  | h kind tag key txt sa attrs sk kids ih => exact as_of kids ih
theorem as_any (ts : List WV) : AsC ts := as_of ts (fun t _ => as_kids t)
end Go.Proofs.Ythdgaoifbejpjaa.P14

/- What placketref11.Alike answers. No condition but those stated. -/
set_option linter.unusedVariables false
set_option linter.unusedSimpArgs false
namespace Go.Proofs.Ythdgaoifbejpjaa.P14
open Go.RowKit Kd P4 P5 P11 P12 P13

def PreW (l m : List PW) (k : Nat) : Prop := ∀ j (h : j < l.length) (h' : j < m.length), j < k → alW l[j] m[j] = true
theorem al_parts (t u : WV) : alW (er t) (er u) = (P3.sameA t.attrs u.attrs && alL (erL t.kids) (erL u.kids) && (t.kind == u.kind) && bq t.tag u.tag && bq t.key u.key && bq t.txt u.txt) := by rw [er_parts, er_parts, alW]
end Go.Proofs.Ythdgaoifbejpjaa.P14

/- What placketref11.ahead and attr answer. No condition but those stated. -/
set_option linter.unusedVariables false
set_option linter.unusedSimpArgs false
namespace Go.Proofs.Ythdgaoifbejpjaa.P13
open Go.RowKit Kd P4 P5 P11 P12

def AhRel (w : World) (l : List In) (f k : Nat) (s7 s8 s9 : Value) (wr : World) : Prop := ∃ (j : Nat) (dp : Int) (A' : Option Addr) (n' c' : Nat), f + j ≤ k ∧ s9 = .int .i64 ((f + j : Nat) : Int) ∧ s8 = .int .i64 dp ∧ s7 = .slice A' n' c' ∧ Hid (dp = (aheadK l f j).2) ∧ Hid (kX.Own wr w.heap.size (.slice A' n' c') (aheadK l f j).1) ∧ Hid (Below w.heap.size w wr)
/-- instructions of one's own -/
def Iv (w : World) (l : List In) (e : Ending) (w' : World) : Prop := ∃ (A : Option Addr) (n c : Nat), e = .returned (.slice A n c) ∧ kX.Own w' w.heap.size (.slice A n c) l ∧ Below w.heap.size w w'
/-! ### attr -/
theorem attrD_end {l : List In} {a : List UInt8} {k n : Nat} (h : k < l.length) (ht : tellsO l[k].op = false) : attrD l a (k + 1) n = if 8 ≤ n then 9 else if makesO l[k].op then 0 else 9 := by
  rw [attrD, List.getElem?_eq_getElem h]
  simp only [ht]
  rfl
theorem attrD_same {l : List In} {a : List UInt8} {k n : Nat} (h : k < l.length) (ht : tellsO l[k].op = true) (ha : l[k].a.toList = a) : attrD l a (k + 1) n = 9 := by
  rw [attrD, List.getElem?_eq_getElem h]
  simp only [ht, ha, if_true]
theorem attrD_next {l : List In} {a : List UInt8} {k n : Nat} (h : k < l.length) (ht : tellsO l[k].op = true) (ha : ¬ l[k].a.toList = a) : attrD l a (k + 1) n = attrD l a k (n + 1) := by
  rw [attrD, List.getElem?_eq_getElem h]
  simp only [ht, if_true]
  rw [if_neg ha]
def AtRel (w : World) (l : List In) (a : List UInt8) (k : Nat) (s5 s6 : Value) (wr : World) : Prop := ∃ (j m : Nat), j ≤ k ∧ m ≤ k ∧ s6 = .int .i64 ((j : Int) - 1) ∧ s5 = .int .i64 m ∧ Hid (m + j = k) ∧ Hid (attrD l a k 0 = attrD l a j m) ∧ Hid (Below w.heap.size w wr)
end Go.Proofs.Ythdgaoifbejpjaa.P13

/- What placketref11.wrong and Check answer. No condition but those stated. -/
set_option linter.unusedVariables false
set_option linter.unusedSimpArgs false
namespace Go.Proofs.Ythdgaoifbejpjaa.P13
open Go.RowKit Kd P4 P5 P11 P12

theorem ownX_of {w : World} {D : Nat} {A : Option Addr} {n c : Nat} {l : List In} (h : kX.Own w D (.slice A n c) l) : l.length = n ∧ n ≤ c ∧ c ≤ maxLen ∧ (A = none → c = 0) ∧ kX.Holds w w.heap.size A l := by
  obtain ⟨A', n', c', hv, e1, e2, e3, e4, e5⟩ := h.slice
  injection hv with h1 h2 h3
  subst h1; subst h2; subst h3
  exact ⟨e1, e2, e3, e4, e5⟩
theorem any_succ {α : Type} {l : List α} {p : α → Bool} {i : Nat} (h : i < l.length) : (l.take (i + 1)).any p = ((l.take i).any p || p l[i]) := by
  rw [List.take_add_one, List.getElem?_eq_getElem h, List.any_append]
  simp
theorem any_at {α : Type} {l : List α} {p : α → Bool} {i : Nat} (h : i < l.length) (hp : p l[i] = true) : l.any p = true := by
  rw [List.any_eq_true]
  exact ⟨_, List.getElem_mem h, hp⟩
def sevenB (y : In) : Bool := decide (y.op = 7)
def WgRel (w : World) (m : List In) (d : In) (s10 s11 : Value) (wr : World) : Prop := ∃ (i : Nat) (key : Bool), i ≤ m.length ∧ s11 = .int .i64 i ∧ s10 = .bool key ∧ Hid (key = (m.take i).any (keyB d)) ∧ Hid ((m.take i).any sevenB = false) ∧ Hid (Below w.heap.size w wr)
/-! ### Check -/
end Go.Proofs.Ythdgaoifbejpjaa.P13

/- Layer 13's example, and the walk of ValidTells, over the contract of the program's Check. No condition but those stated. -/
set_option linter.unusedVariables false
set_option linter.unusedSimpArgs false
namespace Go.Proofs.Ythdgaoifbejpjaa.P13
open Go.RowKit Kd P4 P5 P11 P12

/-- what the program's Check answers -/
def CheckC : Prop := ∀ (l : List In) (A : Option Addr) (n c : Nat) (w : World), kX.Holds w w.heap.size A l → l.length = n → n ≤ c → c ≤ maxLen → n ≤ 1000 → (∀ i ∈ l, i.a.size ≤ 300 ∧ i.b.size ≤ 300) →
  Calls Try.prog 32 #[.slice A n c] w fun e w' => e = .returned (errV (checkP l : Nat)) ∧ Below w.heap.size w w'
def oneX : List In := [⟨2, ⟨#[]⟩, ⟨#[]⟩⟩]
def twoX : List In := [⟨1, ⟨#[112]⟩, ⟨#[]⟩⟩, ⟨5, ⟨#[97]⟩, ⟨#[]⟩⟩, ⟨4, ⟨#[]⟩, ⟨#[]⟩⟩, ⟨2, ⟨#[]⟩, ⟨#[]⟩⟩]
theorem ez : (⟨#[]⟩ : ByteArray).toList = [] := by rw [ByteArray.toList_eq]
theorem one_code : checkP oneX = 8 := by
  have e : mayI ⟨2, ⟨#[]⟩, ⟨#[]⟩⟩ = true := by simp [mayI, ez]
  have f : firstW oneX 1 = 8 := by
    rw [firstW, firstW, if_pos rfl, wrongP]
    show wrongAt oneX 0 ⟨2, ⟨#[]⟩, ⟨#[]⟩⟩ = 8
    rw [wrongAt, if_neg (by rw [e]; decide), if_neg (by simp [tellsO]), if_pos rfl]
    rfl
  have h : firstW oneX oneX.length = 8 := f
  rw [checkP, if_neg (by decide), if_neg (by rw [h]; decide), h]
theorem two_code : checkP twoX = 0 := by
  have e0 : mayI ⟨1, ⟨#[112]⟩, ⟨#[]⟩⟩ = true := by simp only [mayI]; decide
  have e1 : mayI ⟨5, ⟨#[97]⟩, ⟨#[]⟩⟩ = true := by simp only [mayI]; decide
  have e2 : mayI ⟨4, ⟨#[]⟩, ⟨#[]⟩⟩ = true := by simp only [mayI, ez]; decide
  have e3 : mayI ⟨2, ⟨#[]⟩, ⟨#[]⟩⟩ = true := by simp [mayI, ez]
  have a0 : aheadP twoX 0 = [] := rfl
  have a2 : aheadP twoX 2 = [⟨5, ⟨#[97]⟩, ⟨#[]⟩⟩] := rfl
  have w0 : wrongP twoX 0 = 0 := by
    show wrongAt twoX 0 ⟨1, ⟨#[112]⟩, ⟨#[]⟩⟩ = 0
    rw [wrongAt, if_neg (by rw [e0]; decide), if_neg (by simp [tellsO]), if_neg (show ¬ ((1 : Int) = 2) by decide), a0, if_neg (by simp), if_neg (by simp), if_neg (by rintro ⟨_, h⟩; exact absurd h (by decide))]
  have w1 : wrongP twoX 1 = 0 := by
    show wrongAt twoX 1 ⟨5, ⟨#[97]⟩, ⟨#[]⟩⟩ = 0
    rw [wrongAt, if_neg (by rw [e1]; decide), if_pos (by simp [tellsO])]
    rfl
  have w2 : wrongP twoX 2 = 0 := by
    show wrongAt twoX 2 ⟨4, ⟨#[]⟩, ⟨#[]⟩⟩ = 0
    rw [wrongAt, if_neg (by rw [e2]; decide), if_neg (by simp [tellsO]), if_neg (show ¬ ((4 : Int) = 2) by decide), a2, if_neg (by simp), if_neg (by simp [makesO]), if_neg (by rintro ⟨h, _⟩; exact absurd h (by decide))]
  have w3 : wrongP twoX 3 = 0 := by
    show wrongAt twoX 3 ⟨2, ⟨#[]⟩, ⟨#[]⟩⟩ = 0
    rw [wrongAt, if_neg (by rw [e3]; decide), if_neg (by simp [tellsO]), if_pos rfl]
    rfl
  have f : firstW twoX 4 = 0 := by
    rw [firstW, firstW, firstW, firstW, firstW, w0, w1, w2, w3]
    rfl
  have h : firstW twoX twoX.length = 0 := f
  rw [checkP, if_neg (by decide), if_pos h]
  rfl
/-! ### ValidTells -/
end Go.Proofs.Ythdgaoifbejpjaa.P13

/- Layer 14's example, and the walks of WishTells and WishBack, over the contracts of the program's Of, Back, Count and Same. No condition but those stated. -/
set_option linter.unusedVariables false
set_option linter.unusedSimpArgs false
namespace Go.Proofs.Ythdgaoifbejpjaa.P14
open Go.RowKit Kd P4 P5 P11 P12 P13

/-- what is wanted as it lies in memory that is read -/
structure Wm (K : Kind Try.prog WV) (w : World) (A : Option Addr) (n c : Nat) (ts : List WV) : Prop where
  len : ts.length = n
  cap : n ≤ c
  cm : c ≤ maxLen
  nil : A = none → c = 0
  holds : K.Holds w w.heap.size A ts
  ok : ∀ t ∈ ts, WOk K w w.heap.size t
theorem Wm.on {K : Kind Try.prog WV} {w w' : World} {A : Option Addr} {n c : Nat} {ts : List WV} (h : Wm K w A n c ts) (hb : Below w.heap.size w w') : Wm K w' A n c ts := ⟨h.len, h.cap, h.cm, h.nil, h.holds.on hb, fun t ht => (h.ok t ht).on hb⟩
def OfV (w : World) (l : List In) (e : Ending) (w' : World) : Prop := ∃ (A : Option Addr) (n c : Nat) (ts : List WV), e = .returned (.tuple #[.slice A n c, errV (checkP l : Nat)]) ∧ erL ts = (if checkP l = 0 then wantP l else []) ∧ Wm kW w' A n c ts ∧ Below w.heap.size w w'
def WOfC : Prop := ∀ (l : List In) (A : Option Addr) (n c : Nat) (w : World), kX.Holds w w.heap.size A l → l.length = n → n ≤ c → c ≤ maxLen → n ≤ 1000 → (∀ i ∈ l, i.a.size ≤ 300 ∧ i.b.size ≤ 300) → Calls Try.prog 16 #[.slice A n c] w (OfV w l)
def BackV (w : World) (l : List In) (e : Ending) (w' : World) : Prop := ∃ (A : Option Addr) (n c : Nat), e = .returned (.slice A n c) ∧ l.length = n ∧ n ≤ c ∧ kX.Holds w' w'.heap.size A l ∧ Below w.heap.size w w'
def upX : List In := [⟨1, ⟨#[112]⟩, ⟨#[]⟩⟩, ⟨4, ⟨#[97]⟩, ⟨#[]⟩⟩, ⟨2, ⟨#[]⟩, ⟨#[]⟩⟩]
def upW : List PW := [.mk 1 ⟨#[112]⟩ ⟨#[]⟩ z0 [] [.mk 2 z0 z0 ⟨#[97]⟩ [] []]]
theorem up_code : checkP upX = 0 := by
  have e0 : mayI ⟨1, ⟨#[112]⟩, ⟨#[]⟩⟩ = true := by simp only [mayI]; decide
  have e1 : mayI ⟨4, ⟨#[97]⟩, ⟨#[]⟩⟩ = true := by simp only [mayI, ez]; decide
  have e2 : mayI ⟨2, ⟨#[]⟩, ⟨#[]⟩⟩ = true := by simp [mayI, ez]
  have a0 : aheadP upX 0 = [] := rfl
  have a1 : aheadP upX 1 = [] := rfl
  have w0 : wrongP upX 0 = 0 := by
    show wrongAt upX 0 ⟨1, ⟨#[112]⟩, ⟨#[]⟩⟩ = 0
    rw [wrongAt, if_neg (by rw [e0]; decide), if_neg (by simp [tellsO]), if_neg (show ¬ ((1 : Int) = 2) by decide), a0, if_neg (by simp), if_neg (by simp), if_neg (by rintro ⟨_, h⟩; exact absurd h (by decide))]
  have w1 : wrongP upX 1 = 0 := by
    show wrongAt upX 1 ⟨4, ⟨#[97]⟩, ⟨#[]⟩⟩ = 0
    rw [wrongAt, if_neg (by rw [e1]; decide), if_neg (by simp [tellsO]), if_neg (show ¬ ((4 : Int) = 2) by decide), a1, if_neg (by simp), if_neg (by simp), if_neg (by rintro ⟨h, _⟩; exact absurd h (by decide))]
  have w2 : wrongP upX 2 = 0 := by
    show wrongAt upX 2 ⟨2, ⟨#[]⟩, ⟨#[]⟩⟩ = 0
    rw [wrongAt, if_neg (by rw [e2]; decide), if_neg (by simp [tellsO]), if_pos rfl]
    rfl
  have f : firstW upX 3 = 0 := by
    rw [firstW, firstW, firstW, firstW, w0, w1, w2]
    rfl
  have h : firstW upX upX.length = 0 := f
  rw [checkP, if_neg (by decide), if_pos h]
  rfl
theorem up_want : wantP upX = upW := rfl
theorem erL_len (ts : List WV) : (erL ts).length = ts.length := by simp [erL_map]
end Go.Proofs.Ythdgaoifbejpjaa.P14

/- The walks of WishTells and WishBack, over the contracts of the program's Of, Back, Count and Same. No condition but those stated. -/
set_option linter.unusedVariables false
set_option linter.unusedSimpArgs false
namespace Go.Proofs.Ythdgaoifbejpjaa.P14
open Go.RowKit Kd P4 P5 P11 P12 P13

theorem wm_of_own {w w' : World} {A : Option Addr} {n c : Nat} {ts : List WV} {Q : Nat → Prop} (own : kQ.Own w' w.heap.size (.slice A n c) ts) (new : ∀ t ∈ ts, WNew kQ w' Q t) : Wm kQ w' A n c ts := by
  have h := ownK_is own
  exact ⟨h.1, h.2.1, h.2.2.1, h.2.2.2.1, h.2.2.2.2, fun t ht => (new t ht).ok⟩
theorem wt_small {l : List In} (h : checkP l = 0) : wtL (wantP l) ≤ 120 := by
  have h1 := want_back h
  have h2 := wt_back h1.2
  rw [h1.1] at h2
  have := (check_first h).1
  omega
/-! ### WishBack -/
theorem countP_succ {l : List In} {k : Nat} (h : k < l.length) : (l.take (k + 1)).countP (fun x => makesN x.op) = (l.take k).countP (fun x => makesN x.op) + if makesN l[k].op then 1 else 0 := by
  rw [List.take_add_one, List.getElem?_eq_getElem h, List.countP_append]
  simp [List.countP_cons]
end Go.Proofs.Ythdgaoifbejpjaa.P14

/- The plain functions of layer 2: a text escaped, and taken back. No condition. -/
set_option linter.unusedVariables false
set_option linter.unusedSimpArgs false
namespace Go.Proofs.Ythdgaoifbejpjaa.P2

def isSign (c : UInt8) : Bool := c == 38 || c == 60 || c == 62 || c == 34
def insL (c : UInt8) : List UInt8 :=
  if c = 38 then [38, 97, 109, 112, 59] else if c = 60 then [38, 108, 116, 59] else if c = 62 then [38, 103, 116, 59] else if c = 34 then [38, 113, 117, 111, 116, 59] else []
def signL (c : UInt8) : List UInt8 := if isSign c then insL c else [c]
def insB (c : UInt8) : ByteArray := ⟨(insL c).toArray⟩
def signB (c : UInt8) : ByteArray := ⟨(signL c).toArray⟩
def putL (l : List UInt8) : List UInt8 := l.flatMap signL
def putB (s : ByteArray) : ByteArray := ⟨(putL s.data.toList).toArray⟩

/-- the byte whose escaped form is in front, and that form's length -/
def headL (l : List UInt8) : Option (UInt8 × Nat) :=
  match l with
  | [] => none
  | c :: _ =>
    if isSign c = false then some (c, 1)
    else if Lib.hasPrefix l (signL 38) then some (38, 5)
    else if Lib.hasPrefix l (signL 60) then some (60, 4)
    else if Lib.hasPrefix l (signL 62) then some (62, 4)
    else if Lib.hasPrefix l (signL 34) then some (34, 6)
    else none
def getF : Nat → List UInt8 → Option (List UInt8)
  | 0, l => if l = [] then some [] else none
  | n + 1, l =>
    if l = [] then some [] else
    match headL l with
    | none => none
    | some (c, k) => (getF n (l.drop k)).map (c :: ·)
def getL (l : List UInt8) : Option (List UInt8) := getF l.length l

theorem isSign_cases {c : UInt8} (h : isSign c = true) : c = 38 ∨ c = 60 ∨ c = 62 ∨ c = 34 := by
  simpa [isSign, or_assoc] using h
theorem signL_no {c : UInt8} (h : isSign c = false) : signL c = [c] := by simp [signL, h]
theorem signL_len (c : UInt8) : 1 ≤ (signL c).length ∧ (signL c).length ≤ 6 := by
  cases h : isSign c
  · simp [signL_no h]
  · rcases isSign_cases h with rfl | rfl | rfl | rfl <;> decide
theorem putL_len (l : List UInt8) : (putL l).length ≤ 6 * l.length := by
  induction l with
  | nil => simp [putL]
  | cons c r ih =>
    have := (signL_len c).2
    simp only [putL, List.flatMap_cons, List.length_append, List.length_cons] at ih ⊢
    omega
theorem putL_append (a b : List UInt8) : putL (a ++ b) = putL a ++ putL b := by simp [putL]

theorem hasPrefix_append (p r : List UInt8) : Lib.hasPrefix (p ++ r) p = true := by
  unfold Lib.hasPrefix; rw [List.isPrefixOf_iff_prefix]; exact List.prefix_append _ _
theorem hasPrefix_iff {l p : List UInt8} : Lib.hasPrefix l p = true ↔ ∃ r, l = p ++ r := by
  unfold Lib.hasPrefix
  rw [List.isPrefixOf_iff_prefix]
  constructor
  · rintro ⟨r, h⟩; exact ⟨r, h.symm⟩
  · rintro ⟨r, h⟩; exact ⟨r, h.symm⟩

/-- whose form is in front -/
theorem headL_of_prefix {l : List UInt8} {c : UInt8} (h : Lib.hasPrefix l (signL c) = true) : headL l = some (c, (signL c).length) := by
  obtain ⟨r, rfl⟩ := hasPrefix_iff.1 h
  cases hs : isSign c
  · simp [signL_no hs, headL, hs]
  · rcases isSign_cases hs with rfl | rfl | rfl | rfl <;> simp [signL, insL, headL, isSign, Lib.hasPrefix]
theorem prefix_of_headL {l : List UInt8} {c : UInt8} {k : Nat} (h : headL l = some (c, k)) : Lib.hasPrefix l (signL c) = true ∧ k = (signL c).length := by
  cases l with
  | nil => simp [headL] at h
  | cons a r =>
    cases hs : isSign a
    · simp only [headL, hs, if_true, Option.some.injEq, Prod.mk.injEq] at h
      obtain ⟨rfl, rfl⟩ := h
      exact ⟨by rw [signL_no hs]; exact hasPrefix_append [a] r, by rw [signL_no hs]; rfl⟩
    · simp only [headL, hs, Bool.true_eq_false, if_false] at h
      split at h
      · cases h; exact ⟨by assumption, rfl⟩
      · split at h
        · cases h; exact ⟨by assumption, rfl⟩
        · split at h
          · cases h; exact ⟨by assumption, rfl⟩
          · split at h
            · cases h; exact ⟨by assumption, rfl⟩
            · cases h
theorem headL_none {l : List UInt8} (h : ∀ c : UInt8, Lib.hasPrefix l (signL c) = false) : headL l = none := by
  cases e : headL l with
  | none => rfl
  | some p =>
    obtain ⟨c, k⟩ := p
    have := (prefix_of_headL e).1
    rw [h c] at this; cases this

theorem getF_put (a : List UInt8) : ∀ n, (putL a).length ≤ n → getF n (putL a) = some a := by
  induction a with
  | nil => intro n _; cases n <;> simp [putL, getF]
  | cons c r ih =>
    intro n hn
    have hl := (signL_len c).1
    have e : putL (c :: r) = signL c ++ putL r := rfl
    rw [e] at hn ⊢
    have hne : signL c ++ putL r ≠ [] := by
      intro h
      have := congrArg List.length h
      simp only [List.length_append, List.length_nil] at this
      omega
    rw [List.length_append] at hn
    obtain ⟨m, rfl⟩ : ∃ m, n = m + 1 := ⟨n - 1, by omega⟩
    rw [getF, if_neg hne, headL_of_prefix (hasPrefix_append _ _)]
    show (getF m ((signL c ++ putL r).drop (signL c).length)).map (c :: ·) = _
    rw [List.drop_left, ih m (by omega)]; rfl
theorem getL_put (a : List UInt8) : getL (putL a) = some a := getF_put a _ (Nat.le_refl _)

/-- no sign but 38 stands in an escaped text -/
theorem putL_clean {l : List UInt8} {x : UInt8} (h : x ∈ putL l) : x ≠ 60 ∧ x ≠ 62 ∧ x ≠ 34 := by
  simp only [putL, List.mem_flatMap] at h
  obtain ⟨c, _, hx⟩ := h
  cases hs : isSign c
  · rw [signL_no hs] at hx
    simp only [List.mem_singleton] at hx
    subst hx
    simp [isSign] at hs
    exact ⟨hs.1.1.2, hs.1.2, hs.2⟩
  · rcases isSign_cases hs with rfl | rfl | rfl | rfl <;> (simp [signL, isSign, insL] at hx; rcases hx with rfl | rfl | rfl | rfl | rfl | rfl <;> decide)

theorem take_snoc (s : ByteArray) (k : Nat) (h : k < s.size) : s.data.toList.take (k + 1) = s.data.toList.take k ++ [s[k]] := by
  rw [List.take_succ_eq_append_getElem (by simpa using h)]; rfl
theorem putL_snoc (s : ByteArray) (k : Nat) (h : k < s.size) : putL (s.data.toList.take (k + 1)) = putL (s.data.toList.take k) ++ signL s[k] := by
  rw [take_snoc s k h, putL_append]; simp [putL]
end Go.Proofs.Ythdgaoifbejpjaa.P2
