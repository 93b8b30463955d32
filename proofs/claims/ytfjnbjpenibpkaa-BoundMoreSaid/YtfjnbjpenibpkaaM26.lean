/- What the law's As answers: what the program wants, as the document's. No condition but those stated. -/
import Derived.Deep.DeepCutAuto
import Derived.Test.YtfjnbjpenibpkaaM25
set_option linter.unusedVariables false
set_option linter.unusedSimpArgs false
set_option linter.unusedVariables false
set_option linter.unusedSimpArgs false
namespace Go.Proofs.Ytfjnbjpenibpkaa.P14
open Go.RowKit Kd P4 P5 P11 P12 P13

/-- what is wanted whose lists are of one's own, from block C on, blocks of Q; its attributes lie below C -/
inductive WMix (K : Kind Try.prog WV) (w : World) (C : Nat) (Q : Nat → Prop) : WV → Prop
  | mk {kind : Int} {tag key txt : ByteArray} {sa sk : Sv} {attrs : List P3.At} {kids : List WV} (al : attrs.length = sa.n) (ac : sa.n ≤ sa.c) (az : sa.A = none → sa.c = 0) (ah : kA.Holds w C sa.A attrs)
      (own : K.Own w C (.slice sk.A sk.n sk.c) kids) (q : ∀ b, (Value.slice sk.A sk.n sk.c).ownBlock = some b → Q b) (ks : ∀ k ∈ kids, WMix K w C Q k) : WMix K w C Q (.mk kind tag key txt sa attrs sk kids)
section
variable {K : Kind Try.prog WV} {w w' : World} {C D : Nat} {Q R S : Nat → Prop} {t : WV}
theorem WMix.al (h : WMix K w C Q t) : t.attrs.length = t.sa.n := by cases h; assumption
theorem WMix.ac (h : WMix K w C Q t) : t.sa.n ≤ t.sa.c := by cases h; assumption
theorem WMix.az (h : WMix K w C Q t) : t.sa.A = none → t.sa.c = 0 := by cases h; assumption
theorem WMix.ah (h : WMix K w C Q t) : kA.Holds w C t.sa.A t.attrs := by cases h; assumption
theorem WMix.own (h : WMix K w C Q t) : K.Own w C (.slice t.sk.A t.sk.n t.sk.c) t.kids := by cases h; assumption
theorem WMix.q (h : WMix K w C Q t) : ∀ b, (Value.slice t.sk.A t.sk.n t.sk.c).ownBlock = some b → Q b := by cases h; assumption
theorem WMix.ks (h : WMix K w C Q t) : ∀ k ∈ t.kids, WMix K w C Q k := by cases h; assumption
theorem WMix.mono (h : WMix K w C Q t) (hq : ∀ b, b < w.heap.size → Q b → R b) : WMix K w C R t := by
  induction t using WV.ind with
  | h kind tag key txt sa attrs sk kids ih => exact ⟨h.al, h.ac, h.az, h.ah, h.own, fun b hb => hq b (h.own.lt hb).2 (h.q b hb), fun k hk => ih k hk (h.ks k hk)⟩
theorem WMix.but (h : WMix K w C Q t) (hC : C ≤ w.heap.size) (hb : But S w w') (hS : ∀ b, Q b → ¬ S b) (hA : ∀ b, b < w.heap.size → S b → C ≤ b) : WMix K w' C Q t := by
  induction t using WV.ind with
  | h kind tag key txt sa attrs sk kids ih => exact ⟨h.al, h.ac, h.az, h.ah.below (hb.to_below hA hC) (Nat.le_refl _), h.own.but hb (fun b e => hS b (h.q b e)), h.q, fun k hk => ih k hk (h.ks k hk)⟩
theorem WMix.later (h : WMix K w C Q t) (hC : C ≤ w.heap.size) (hb : Below w.heap.size w w') : WMix K w' C Q t := h.but hC (But.of_below hb (fun _ => False)) (fun _ _ h => h) (fun _ _ h => h.elim)
theorem WMix.ok (h : WMix K w C Q t) (hC : C ≤ w.heap.size) : WOk K w w.heap.size t := by
  induction t using WV.ind with
  | h kind tag key txt sa attrs sk kids ih =>
    have h2 := h.own
    simp only [WV.sk, WV.kids] at h2
    obtain ⟨A, n, c, hv, e1, e2, e3, e4, e5⟩ := h2.slice
    injection hv with v1 v2 v3
    subst v1; subst v2; subst v3
    exact ⟨h.al, h.ac, h.az, h.ah.more hC, e1, e2, fun e => e4 e, e5, fun k hk => ih k hk (h.ks k hk)⟩
end
/-- a slice of one's own grows by one -/
theorem mix_grew {K : Kind Try.prog WV} {w5 w7 : World} {o : Obj} {C : Nat} {A A7 : Option Addr} {n c n7 c7 : Nat} {l : List WV} {k : WV} {Q : Nat → Prop} (hC : C ≤ w5.heap.size) (own : K.Own w5 C (.slice A n c) l)
    (ks : ∀ k ∈ l, WMix K w5 C (fun b => Q b ∧ (Value.slice A n c).ownBlock ≠ some b) k) (hk : WMix K w5 C (fun b => Q b ∧ (Value.slice A n c).ownBlock ≠ some b) k) (hg : (w5.alloc o).grownBy w7 (Value.slice A n c).ownBlock)
    (hat : (Value.slice A7 n7 c7).ownBlock = (Value.slice A n c).ownBlock ∨ (Value.slice A7 n7 c7).ownBlock = some (w5.alloc o).heap.size) :
    (∀ t ∈ l ++ [k], WMix K w7 C (fun b => Q b ∧ (Value.slice A7 n7 c7).ownBlock ≠ some b) t) ∧ But (fun b => (Value.slice A n c).ownBlock = some b) w5 w7 := by
  have b7 : But (fun b => (Value.slice A n c).ownBlock = some b) w5 w7 := (But.alloc (But.refl _ _) _).trans (But.of_grown (S := fun i => (Value.slice A n c).ownBlock = some i) hg (fun i hi _ => hi)) (fun _ _ h => h)
  have key' : ∀ k : WV, WMix K w5 C (fun b => Q b ∧ (Value.slice A n c).ownBlock ≠ some b) k → WMix K w7 C (fun b => Q b ∧ (Value.slice A7 n7 c7).ownBlock ≠ some b) k := by
    intro k h
    have h1 : WMix K w5 C (fun b => (Q b ∧ (Value.slice A n c).ownBlock ≠ some b) ∧ b < w5.heap.size) k := h.mono fun b hb hq => ⟨hq, hb⟩
    refine (h1.but hC b7 (fun b hq hs => hq.1.2 hs) (fun b _ e => (own.lt e).1)).mono fun b _ hq => ⟨hq.1.1, fun e => ?_⟩
    rcases hat with h2 | h2
    · exact hq.1.2 (h2 ▸ e)
    · rw [h2] at e
      injection e with e
      have := hq.2
      simp at e
      omega
  refine ⟨fun t ht => ?_, b7⟩
  rcases List.mem_append.1 ht with h | h
  · exact key' t (ks t h)
  · rw [List.mem_singleton.1 h]; exact key' _ hk
/-- what As tells: all attributes lie below C -/
def Mv (C : Nat) (w : World) (l : List PW) (e : Ending) (w' : World) : Prop := ∃ (A : Option Addr) (n c : Nat) (us : List WV), e = .returned (.slice A n c) ∧ erL us = l ∧ kQ.Own w' w.heap.size (.slice A n c) us ∧ (∀ t ∈ us, WMix kQ w' C (fun b => w.heap.size ≤ b ∧ (Value.slice A n c).ownBlock ≠ some b) t) ∧ Below w.heap.size w w'
/-- what is read: its attributes, and all lists, lie below C -/
def AsC (ts : List WV) : Prop := ∀ (C : Nat) (w : World) (A : Option Addr) (n c : Nat), C ≤ w.heap.size → kW.Holds w C A ts → ts.length = n → (∀ t ∈ ts, WOk kW w C t) → wtL (erL ts) ≤ 100000 → Calls Try.prog 9 #[.slice A n c] w (Mv C w (erL ts))
def AsRel (C : Nat) (w : World) (ts : List WV) (n : Nat) (s3 s4 : Value) (wr : World) : Prop := ∃ (k : Nat) (A' : Option Addr) (n' c' : Nat) (us : List WV), k ≤ n ∧ s4 = .int .i64 k ∧ s3 = .slice A' n' c' ∧ Hid (erL us = (erL ts).take k) ∧ Hid (kQ.Own wr w.heap.size (.slice A' n' c') us) ∧ Hid (∀ t ∈ us, WMix kQ wr C (fun b => w.heap.size ≤ b ∧ (Value.slice A' n' c').ownBlock ≠ some b) t) ∧ Hid (Below w.heap.size w wr)
set_option maxRecDepth 100000 in
set_option maxHeartbeats 8000000 in
theorem as_of (ts : List WV) (IH : ∀ t ∈ ts, AsC t.kids) : AsC ts := by
  intro C w A n c hC hh hn hok hw
  have KH := Lib.hid hh
  have KL := Lib.hid hn
  have KS := Lib.hid hok
  have HI : Hid (∀ t ∈ ts, AsC t.kids) := Lib.hid IH
  have EL : Hid ((erL ts).length = n) := Lib.hid (by rw [erL_map]; simpa using hn)
  have HW := Lib.hid hw
  have HC := Lib.hid hC
  have hn1 : n ≤ 100000 := by have := wtL_len (erL ts); have := EL.out; omega
  have ST : Hid (AsRel C w ts n (.slice none 0 0) (.int .i64 0) w) := Lib.hid ⟨0, none, 0, 0, [], by omega, rfl, rfl, Lib.hid (by simp [erL]), Lib.hid (Kind.Own.nil kQ w _), Lib.hid (by intro t ht; cases ht), Lib.hid (Below.refl _ _)⟩
  clear hh hn hok hw IH
  go_enter Try.func9, Try.ntmps9
  go_wp2_with fail
  go_loopw [3, 4] (fun s3 s4 wr => AsRel C w ts n s3 s4 wr) (fun _ s4 _ => n - (intOf s4).toNat)
  case atStart => exact ST.out
  case round =>
    obtain ⟨k, A', n', c', us, hk, rfl, rfl, HU, HO, HM, HB⟩ := hrel
    clear ST
    by_cases hkn : k < n
    · have hkl : k < ts.length := by have := KL.out; omega
      have hke : k < (erL ts).length := by have := EL.out; omega
      obtain ⟨b, o, rfl, hb, g0, g1, g2, g3, g4, g5⟩ := cell_of_w KH.out hkl
      have hbw : b < w.heap.size := by have := HC.out; omega
      have SK0 : Hid (∀ wz, Below w.heap.size w wz → wz.cell? ⟨b, o + k * 6, none⟩ = some (.int .i64 ts[k].kind) ∧ wz.cell? ⟨b, o + k * 6 + 1, none⟩ = some (.string ts[k].tag) ∧ wz.cell? ⟨b, o + k * 6 + 2, none⟩ = some (.string ts[k].key) ∧ wz.cell? ⟨b, o + k * 6 + 3, none⟩ = some (.string ts[k].txt) ∧ wz.cell? ⟨b, o + k * 6 + 4, none⟩ = some (.slice ts[k].sa.A ts[k].sa.n ts[k].sa.c) ∧ wz.cell? ⟨b, o + k * 6 + 5, none⟩ = some (.slice ts[k].sk.A ts[k].sk.n ts[k].sk.c)) := Lib.hid (fun wz h => ⟨(h.cell hbw).trans g0, (h.cell hbw).trans g1, (h.cell hbw).trans g2, (h.cell hbw).trans g3, (h.cell hbw).trans g4, (h.cell hbw).trans g5⟩)
      have hts := (KS.out _ (List.getElem_mem hkl))
      have hwk := wtL_kids (List.getElem_mem hkl)
      have HTS : Hid (∀ wz, Below w.heap.size w wz → WOk kW wz C ts[k]) := Lib.hid (fun wz h => hts.later h HC.out)
      have CK : Hid (∀ w9, Below w.heap.size w w9 → Calls Try.prog 9 #[.slice ts[k].sk.A ts[k].sk.n ts[k].sk.c] w9 (Mv C w9 (erL ts[k].kids))) := Lib.hid (fun w9 h => by
        have h1 := hts.later h HC.out
        exact HI.out _ (List.getElem_mem hkl) C w9 _ _ _ (by have := h.size; have := HC.out; omega) h1.kh h1.kl h1.ks (by have := HW.out; omega))
      have HU2 : Hid ((erL ts).take (k + 1) = erL us ++ [er ts[k]]) := Lib.hid (by rw [List.take_add_one, List.getElem?_eq_getElem hke, erL_at hkl hke, HU.out]; rfl)
      have hul : us.length ≤ 100000 := by
        have h1 := congrArg List.length HU.out
        rw [erL_map, List.length_map, List.length_take] at h1
        omega
      clear g0 g1 g2 g3 g4 g5 hts hwk hke
      generalize ts[k] = d at SK0 CK HU2 HTS
      clear hkl
      have HUL := Lib.hid hul
      clear hul
      obtain ⟨g0, g1, g2, g3, g4, g5⟩ := SK0.out wr HB.out
      go_upto_region 5 with fail
      have SK := SK0.out wr HB.out
      go_region_held3 (fun w' => w'.cell? ⟨b, o + k * 6, none⟩ = some (.int .i64 d.kind) ∧ w'.cell? ⟨b, o + k * 6 + 1, none⟩ = some (.string d.tag) ∧ w'.cell? ⟨b, o + k * 6 + 2, none⟩ = some (.string d.key) ∧ w'.cell? ⟨b, o + k * 6 + 3, none⟩ = some (.string d.txt) ∧ w'.cell? ⟨b, o + k * 6 + 4, none⟩ = some (.slice d.sa.A d.sa.n d.sa.c) ∧ w'.cell? ⟨b, o + k * 6 + 5, none⟩ = some (.slice d.sk.A d.sk.n d.sk.c)) (first | go_keep | exact SK) ((first
        | (go_at_call 9; refine (CK.out _ (by first | exact Below_drewN HB.out _ | exact HB.out.drew | exact HB.out)).mono ?_; rintro e w10 ⟨A5, n5, c5, ks, rfl, her, own5, mix5, b10⟩; have b10x : Below wr.heap.size wr w10 := (by first | exact (Below_drewN (Below.refl _ _) _).trans b10 | exact ((Below.refl _ _).drew).trans b10 | exact b10); have B10 : Hid (Below w.heap.size w w10) := Lib.hid (HB.out.trans (b10x.mono HB.out.size)); have SK := SK0.out w10 B10.out; have HO10 := Lib.hid (HO.out.below b10x (Nat.le_refl _)); have HM10 := Lib.hid (fun t ht => (HM.out t ht).later (Nat.le_trans HC.out HB.out.size) b10x); have HER := Lib.hid her; have OW5 : Hid (kQ.Own w10 wr.heap.size (.slice A5 n5 c5) ks) := Lib.hid own5; have MX5 : Hid (∀ t ∈ ks, WMix kQ w10 C (fun b => wr.heap.size ≤ b ∧ (Value.slice A5 n5 c5).ownBlock ≠ some b) t) := Lib.hid mix5; have BX := Lib.hid b10x; clear b10 b10x own5 mix5 her)
        | (refine kQ.step_app rfl (.tmp 11) (.tmp 44) rfl (v := .slice A' n' c') (l := us) (m := [.mk d.kind d.tag d.key d.txt d.sa d.attrs ⟨A5, n5, c5⟩ ks]) (B := w.heap.size) rfl (by repeat (first | exact HO10.out | refine Kind.Own.alloc ?_ _ | refine Kind.Own.drewN ?_ _ | refine Kind.Own.drew ?_)) rfl rfl (fun e => by cases e) (Kind.Holds.lit (by first | exact heap_alloc_new _ _ | exact heap_drew (heap_top rfl) | exact heap_top rfl) rfl) (by have := HUL.out; simp; omega) (by have := B10.out.size; simp; omega) ?_; intro v' w12 hown' hgrow hat; obtain ⟨A6, n6, c6, rfl, _, _, _, _, _⟩ := hown'.slice; have OW6 := Lib.hid hown'; have GR6 := Lib.hid hgrow; have AT6 := Lib.hid hat; have BZ : Hid (Below w.heap.size w w12) := Lib.hid ((B10.out.alloc B10.out.size _).grown hgrow (by have := B10.out.size; simp; omega) (fun i hi => (HO10.out.lt hi).1)); have SK := SK0.out w12 BZ.out; clear hown' hgrow hat)
        | fail))
      have hts := HTS.out w10 B10.out
      have hwr := HB.out.size
      have hCr : C ≤ wr.heap.size := Nat.le_trans HC.out hwr
      have NEW : WMix kQ w10 C (fun b => w.heap.size ≤ b ∧ (Value.slice A' n' c').ownBlock ≠ some b) (.mk d.kind d.tag d.key d.txt d.sa d.attrs ⟨A5, n5, c5⟩ ks) := by
        refine .mk hts.al hts.ac hts.az hts.ah (OW5.out.base_le hCr) (fun b hb => ?_) (fun u hu => ?_)
        · have h1 := (OW5.out.lt hb).1
          exact ⟨by omega, fun e => by have := (HO.out.lt e).2; omega⟩
        · exact (MX5.out u hu).mono fun b _ hq => ⟨by have := hq.1; omega, fun e => by have := (HO.out.lt e).2; have := hq.1; omega⟩
      have GREW := mix_grew (Nat.le_trans hCr BX.out.size) (HO10.out.base_le HC.out) HM10.out NEW GR6.out AT6.out
      have B12 : Hid (Below w.heap.size w w12) := Lib.hid (B10.out.trans (GREW.2.to_below (fun i _ hi => (HO10.out.lt hi).1) B10.out.size))
      have REL : Hid (AsRel C w ts n (.slice A6 n6 c6) (.int .i64 ((k + 1 : Nat) : Int)) w12) := Lib.hid ⟨k + 1, A6, n6, c6, _, by omega, rfl, rfl, Lib.hid (by rw [erL_append, HU2.out]; congr 1; show [er _] = [er d]; rw [er_parts, er_parts]; simp only [WV.kind, WV.tag, WV.key, WV.txt, WV.attrs, WV.kids, HER.out]), OW6, Lib.hid GREW.1, B12⟩
      clear GREW NEW hts
      go_wp2_with fail
      go_roundw
      case rel => exact REL.out
      case measure => simp [intOf]; omega
    · obtain rfl : k = n := by omega
      have HR : Hid (erL us = erL ts) := Lib.hid (by rw [HU.out, List.take_of_length_le (by have := EL.out; omega)])
      go_wp2_with fail
      go_ret
      exact ⟨A', n', c', us, rfl, HR.out, HO.out, HM.out, HB.out⟩
theorem as_kids : ∀ t : WV, AsC t.kids := by
  intro t
  induction t using WV.ind with
  | h kind tag key txt sa attrs sk kids ih => exact as_of kids ih
theorem as_any (ts : List WV) : AsC ts := as_of ts (fun t _ => as_kids t)
end Go.Proofs.Ytfjnbjpenibpkaa.P14
