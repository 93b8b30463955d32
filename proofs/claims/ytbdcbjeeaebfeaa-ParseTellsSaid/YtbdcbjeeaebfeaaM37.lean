/- What parse.read answers. No condition but those stated. -/
import Derived.Test.YtbdcbjeeaebfeaaM20
import Derived.Test.YtbdcbjeeaebfeaaM36
set_option linter.unusedVariables false
set_option linter.unusedSimpArgs false
namespace Go.Proofs.Ytbdcbjeeaebfeaa.P10
open Go.RowKit Kd P4 P5 P8 P9

/-- the state of read's loop -/
def DRel (w : World) (f : Nat) (s : ByteArray) (s0 s4 : Value) (wr : World) : Prop := ∃ (x : ByteArray) (A : Option Addr) (n c : Nat) (ts : List TV) (f' : Nat), s0 = .string x ∧ s4 = .slice A n c ∧ x.size < f' ∧ f' ≤ f ∧ ts.length + x.size ≤ 10000 ∧
  Hid (rdF f s.data.toList [] = rdF f' x.data.toList (erL ts)) ∧ Hid (kT.Own wr w.heap.size (.slice A n c) ts) ∧ Hid (∀ t ∈ ts, TNew wr (fun b => w.heap.size ≤ b ∧ (Value.slice A n c).ownBlock ≠ some b) t) ∧ Hid (Below w.heap.size w wr)
theorem pre_eq (x : ByteArray) : Lib.hasPrefix x.data.toList (⟨#[60, 47]⟩ : ByteArray).data.toList = Lib.hasPrefix x.data.toList [60, 47] := rfl
theorem pre_at (x : ByteArray) {b : Bool} (h : Lib.hasPrefix x.data.toList [60, 47] = b) (w : World) : Calls Try.prog 24 #[.string x, .string ⟨#[60, 47]⟩] w fun e w' => e = .returned (.bool b) ∧ w = w' := by
  subst h
  refine (Bd.prefix_any x ⟨#[60, 47]⟩ w).mono ?_
  rintro e w' ⟨rfl, rfl⟩
  exact ⟨rfl, rfl⟩
/-- one more tree, told by a call, is appended: the round's end -/
theorem rd_step {w wa w5 : World} {f f2 : Nat} {s rp : ByteArray} {A A' : Option Addr} {n c n' c' : Nat} {ts : List TV} {tv : TV} {o : Obj} (HG : rdF f s.data.toList [] = rdF f2 rp.data.toList (erL ts ++ [er tv]))
    (O : kT.Own wa w.heap.size (.slice A n c) ts) (T : ∀ t ∈ ts, TNew wa (fun b => w.heap.size ≤ b ∧ (Value.slice A n c).ownBlock ≠ some b) t) (V : TNew wa (fun b => w.heap.size ≤ b ∧ (Value.slice A n c).ownBlock ≠ some b) tv) (hb : Below w.heap.size w wa)
    (hown : kT.Own w5 w.heap.size (.slice A' n' c') (ts ++ [tv])) (hg : (wa.alloc o).grownBy w5 (Value.slice A n c).ownBlock) (hat : (Value.slice A' n' c').ownBlock = (Value.slice A n c).ownBlock ∨ (Value.slice A' n' c').ownBlock = some (wa.alloc o).heap.size)
    (h1 : rp.size < f2) (h2 : f2 ≤ f) (h3 : ts.length + 1 + rp.size ≤ 10000) : DRel w f s (.string rp) (.slice A' n' c') w5 := by
  have LG := list_grew O T V hg hat
  refine ⟨rp, A', n', c', ts ++ [tv], f2, rfl, rfl, h1, h2, by rw [List.length_append]; simp only [List.length_cons, List.length_nil]; omega, Lib.hid (by rw [HG, erL_append]; simp [erL]), Lib.hid hown, Lib.hid LG.1, Lib.hid (hb.trans (LG.2.to_below (fun i _ hi => (O.lt hi).1) hb.size))⟩
/-- a tree that a call told lies in the round's own block -/
theorem rd_put {w wr w1 : World} {v : Nat} {A : Option Addr} {n c : Nat} {ts : List TV} {tv : TV} (hv : wr.heap.size = v) (hb : Below w.heap.size w wr) (b1 : Below wr.heap.size wr w1) (z : TB w1 v zTV) (O : kT.Own wr w.heap.size (.slice A n c) ts)
    (T : ∀ t ∈ ts, TNew wr (fun b => w.heap.size ≤ b ∧ (Value.slice A n c).ownBlock ≠ some b) t) (V : TNew w1 (fun b => v < b) tv) :
    TB (((((w1.setCell ⟨v, 0, none⟩ (.string tv.tag)).setCell ⟨v, 1, none⟩ (.string tv.txt)).setCell ⟨v, 2, none⟩ (.string tv.key)).setCell ⟨v, 3, none⟩ (.slice tv.sa.A tv.sa.n tv.sa.c)).setCell ⟨v, 4, none⟩ (.slice tv.sk.A tv.sk.n tv.sk.c)) v tv ∧
    kT.Own (((((w1.setCell ⟨v, 0, none⟩ (.string tv.tag)).setCell ⟨v, 1, none⟩ (.string tv.txt)).setCell ⟨v, 2, none⟩ (.string tv.key)).setCell ⟨v, 3, none⟩ (.slice tv.sa.A tv.sa.n tv.sa.c)).setCell ⟨v, 4, none⟩ (.slice tv.sk.A tv.sk.n tv.sk.c)) w.heap.size (.slice A n c) ts ∧
    (∀ t ∈ ts, TNew (((((w1.setCell ⟨v, 0, none⟩ (.string tv.tag)).setCell ⟨v, 1, none⟩ (.string tv.txt)).setCell ⟨v, 2, none⟩ (.string tv.key)).setCell ⟨v, 3, none⟩ (.slice tv.sa.A tv.sa.n tv.sa.c)).setCell ⟨v, 4, none⟩ (.slice tv.sk.A tv.sk.n tv.sk.c)) (fun b => w.heap.size ≤ b ∧ (Value.slice A n c).ownBlock ≠ some b) t) ∧
    TNew (((((w1.setCell ⟨v, 0, none⟩ (.string tv.tag)).setCell ⟨v, 1, none⟩ (.string tv.txt)).setCell ⟨v, 2, none⟩ (.string tv.key)).setCell ⟨v, 3, none⟩ (.slice tv.sa.A tv.sa.n tv.sa.c)).setCell ⟨v, 4, none⟩ (.slice tv.sk.A tv.sk.n tv.sk.c)) (fun b => w.heap.size ≤ b ∧ (Value.slice A n c).ownBlock ≠ some b) tv ∧
    Below w.heap.size w (((((w1.setCell ⟨v, 0, none⟩ (.string tv.tag)).setCell ⟨v, 1, none⟩ (.string tv.txt)).setCell ⟨v, 2, none⟩ (.string tv.key)).setCell ⟨v, 3, none⟩ (.slice tv.sa.A tv.sa.n tv.sa.c)).setCell ⟨v, 4, none⟩ (.slice tv.sk.A tv.sk.n tv.sk.c)) := by
  have hs := hb.size
  have hbut : But (fun k => k = v) w1 (((((w1.setCell ⟨v, 0, none⟩ (.string tv.tag)).setCell ⟨v, 1, none⟩ (.string tv.txt)).setCell ⟨v, 2, none⟩ (.string tv.key)).setCell ⟨v, 3, none⟩ (.slice tv.sa.A tv.sa.n tv.sa.c)).setCell ⟨v, 4, none⟩ (.slice tv.sk.A tv.sk.n tv.sk.c)) := setOne (setOne (setOne (setOne (setOne (But.refl _ _)))))
  have hS : NoA w1 (fun b => b = v) := tree_noA (fun b e => by subst e; exact ⟨_, z⟩)
  have O1 : kT.Own w1 w.heap.size (.slice A n c) ts := O.below b1 (Nat.le_refl _)
  refine ⟨heap_set (heap_set (heap_set (heap_set (heap_set z 0 _) 1 _) 2 _) 3 _) 4 _, O1.but hbut (fun g hg e => by have := (O.lt hg).2; omega), fun t ht => ?_, ?_, ?_⟩
  · have h1 : TNew wr (fun b => (w.heap.size ≤ b ∧ (Value.slice A n c).ownBlock ≠ some b) ∧ b < v) t := (T t ht).mono fun b hb hq => ⟨hq, by omega⟩
    exact ((h1.later b1).but hbut (fun b hq e => by have := hq.2; omega) hS).mono fun b _ hq => hq.1
  · refine (V.but hbut (fun b hq e => by omega) hS).mono fun b _ hq => ⟨by omega, fun e => ?_⟩
    have := (O.lt e).2
    omega
  · exact (hb.trans (b1.mono hs)).trans (hbut.to_below (fun i _ e => by omega) (by have := b1.size; omega))
set_option maxRecDepth 100000 in
set_option maxHeartbeats 4000000 in
theorem read_of (f : Nat) (EL : ∀ f', f' < f → ReC f') : ReadC f := by
  intro s w hsf hs hm
  have HE := Lib.hid EL
  have HM := Lib.hid hm
  have ST : Hid (DRel w f s (.string s) (.slice none 0 0) w) := Lib.hid ⟨s, none, 0, 0, [], f, rfl, rfl, hsf, Nat.le_refl _, by simpa using hs, Lib.hid rfl, Lib.hid (Kind.Own.nil kT w _), Lib.hid (fun t ht => by cases ht), Lib.hid (Below.refl _ _)⟩
  clear EL hsf hs hm
  go_enter Try.func12, Try.ntmps12
  go_wp2_with fail
  go_loopw [0, 4] (fun s0 s4 wr => DRel w f s s0 s4 wr) (fun s0 _ _ => match s0 with | .string x => x.size | _ => 0)
  case atStart => exact ST.out
  case round =>
    obtain ⟨x, A, n, c, ts, f', rfl, rfl, hx, hf', hts, HG, HO, HT, HB⟩ := hrel
    have hno := HO.out.slice
    have hnl : ts.length = n := by
      obtain ⟨_, _, _, hv, e1, _⟩ := hno
      injection hv with _ hv2 _
      rw [e1, ← hv2]
    clear hno
    obtain ⟨f2, rfl⟩ : ∃ g, f' = g + 1 := ⟨f' - 1, by omega⟩
    by_cases h0 : 0 < x.size
    · have hne : x.data.toList ≠ [] := fun e => by have := size_len x; rw [e] at this; simp at this; omega
      have hE2 : x.toList.isEmpty = false := P2.toList_cons h0
      have hhd := head_at h0
      have MW := Lib.hid (HM.out.on HB.out)
      obtain ⟨bp, hbp⟩ : ∃ b, Lib.hasPrefix x.data.toList [60, 47] = b := ⟨_, rfl⟩
      have CP : Hid (∀ w9, Calls Try.prog 24 #[.string x, .string ⟨#[60, 47]⟩] w9 fun e w' => e = .returned (.bool bp) ∧ w9 = w') := Lib.hid (fun w9 => pre_at x hbp w9)
      cases bp with
      | true =>
        have GN : Hid (rdF (f2 + 1) x.data.toList (erL ts) = (erL ts, x.data.toList)) := Lib.hid (by rw [rdF, if_pos (.inr hbp)])
        clear hne hhd hbp
        go_wp2_with fail
        refine (CP.out _).mono ?_
        rintro e w' ⟨rfl, rfl⟩
        go_wp2_with fail
        go_ret2
        refine ⟨A, n, c, ts, ?_, ?_, HO.out, HT.out, HB.out⟩
        · rw [HG.out, GN.out, bs_eta]; rfl
        · rw [HG.out, GN.out]
      | false =>
        have hno : ¬ (x.data.toList = [] ∨ Lib.hasPrefix x.data.toList [60, 47] = true) := by
          rintro (h | h)
          · exact hne h
          · rw [hbp] at h; cases h
        have Z : Hid (TB (wr.alloc (.cells #[.string ⟨#[]⟩, .string ⟨#[]⟩, .string ⟨#[]⟩, .slice none 0 0, .slice none 0 0] 38)) wr.heap.size zTV) := Lib.hid (TB.new wr zTV)
        have BZ : Hid (Below wr.heap.size wr (wr.alloc (.cells #[.string ⟨#[]⟩, .string ⟨#[]⟩, .string ⟨#[]⟩, .slice none 0 0, .slice none 0 0] 38))) := Lib.hid ((Below.refl _ _).alloc (Nat.le_refl _) _)
        have hwr := HB.out.size
        by_cases h60 : x[0] = 60
        · have q60 : ((x[0].toNat : Int) == 60) = true := by rw [h60]; rfl
          have hew := reF_w (g := rdAt f2) hne (fun r => by have := rdF_w f2 r []; simp only [wL] at this; unfold rdAt; omega)
          have CE : Hid (∀ w9, Below wr.heap.size wr w9 → Calls Try.prog 25 #[.string x] w9 (Ev w9 (reF (rdAt f2) x.data.toList))) := Lib.hid (fun w9 h => HE.out f2 (by omega) x w9 (by omega) (by omega) h0 (MW.out.on h))
          have GN : Hid (rdF (f2 + 1) x.data.toList (erL ts) = rdF f2 (reF (rdAt f2) x.data.toList).2 (erL ts ++ [(reF (rdAt f2) x.data.toList).1])) := Lib.hid (by
            rw [rdF, if_neg hno, if_pos (by rw [hhd, h60])]
            rfl)
          generalize reF (rdAt f2) x.data.toList = p at hew CE GN
          obtain ⟨p1, p2⟩ := p
          obtain ⟨_, hew2⟩ := hew
          have hew2 : p2.length < x.size := by rwa [size_len] at hew2
          have HP2 : Hid ((bs p2).data.toList = p2) := Lib.hid (bs_data p2)
          have hps : (bs p2).size = p2.length := bs_size p2
          clear hne hhd hbp hno
          go_wp2_with fail
          refine (CP.out _).mono ?_
          rintro e w' ⟨rfl, rfl⟩
          go_upto_region 4 with fail
          generalize wr.alloc (.cells #[.string ⟨#[]⟩, .string ⟨#[]⟩, .string ⟨#[]⟩, .slice none 0 0, .slice none 0 0] 38) = W0 at Z BZ ⊢
          generalize hv : wr.heap.size = v at Z ⊢
          have HV := Lib.hid hv
          have hvl : v < W0.heap.size := Z.out.lt
          clear hv
          go_wp2_with fail
          refine (CE.out W0 BZ.out).mono ?_
          rintro e w1 ⟨tv, rfl, her, hnew, b1⟩
          have Z1 : Hid (TB w1 v zTV) := Lib.hid (Z.out.below b1 Z.out.lt)
          have PT5 := Lib.hid (rd_put HV.out HB.out (BZ.out.trans (b1.mono BZ.out.size)) Z1.out HO.out HT.out (hnew.mono fun b _ hb => by omega))
          have HER : Hid (er tv = p1) := Lib.hid her
          have y0 := Z1.out.c0; have y1 := Z1.out.c1; have y2 := Z1.out.c2; have y3 := Z1.out.c3; have y4 := Z1.out.c4
          simp only [TV.tag, TV.txt, TV.key, TV.sa, TV.sk, zTV] at y0 y1 y2 y3 y4
          have yf := tb_frozen Z1.out
          simp only
          generalize hbp2 : bs p2 = rp at HP2 hps
          have HSZ := Lib.hid hps
          clear her hnew b1 hbp2 Z BZ CE hps
          go_upto_region 7 with fail
          generalize (((((w1.setCell ⟨v, 0, none⟩ (.string tv.tag)).setCell ⟨v, 1, none⟩ (.string tv.txt)).setCell ⟨v, 2, none⟩ (.string tv.key)).setCell ⟨v, 3, none⟩ (.slice tv.sa.A tv.sa.n tv.sa.c)).setCell ⟨v, 4, none⟩ (.slice tv.sk.A tv.sk.n tv.sk.c)) = W at PT5 ⊢
          obtain ⟨NA, O2, T2, V2, B2⟩ := PT5.out
          have a0 := NA.c0; have a1 := NA.c1; have a2 := NA.c2; have a3 := NA.c3; have a4 := NA.c4
          have HO2 := Lib.hid O2; have HT2 := Lib.hid T2; have HV2 := Lib.hid V2; have HB2 := Lib.hid B2
          have hb2 := B2.size
          clear y0 y1 y2 y3 y4 yf Z1 NA O2 T2 V2 B2 PT5
          go_wp2_with (at_builtin; refine kT.wp_app rfl _ _ rfl (v := .slice A n c) (l := ts) (m := [tv]) (B := w.heap.size) rfl (HO2.out.alloc _) rfl rfl (fun e => by cases e) (Kind.Holds.lit (heap_alloc_new _ _) rfl) (by simp; omega) (by simp; omega) ?_; intro v' w5 hown' hgrow hat)
          obtain ⟨A', n', c', rfl, e1, e2, e3, e4, e5⟩ := hown'.slice
          have hlt : rp.size < x.size := by have := HSZ.out; omega
          have REL : Hid (DRel w f s (.string rp) (.slice A' n' c') w5) := Lib.hid (rd_step (by rw [HG.out, GN.out, HP2.out, HER.out]) HO2.out HT2.out HV2.out HB2.out hown' hgrow hat (by omega) (by omega) (by omega))
          clear hown' hgrow hat e1 e2 e3 e4 e5 a0 a1 a2 a3 a4
          go_wp2_with fail
          go_roundw
          case rel => exact REL.out
          case measure => exact hlt
        · have q60 : ((x[0].toNat : Int) == 60) = false := P2.num_ne h60
          have hnh : x.data.toList.head? ≠ some 60 := by rw [hhd]; intro e; injection e with e; exact h60 e
          have hew := rtF_w hne hnh
          have CE : Hid (∀ w9, Below wr.heap.size wr w9 → Calls Try.prog 26 #[.string x] w9 (Ev w9 (rtF x.data.toList))) := Lib.hid (fun w9 h => rt_any x w9 (by omega) (MW.out.on h))
          have GN : Hid (rdF (f2 + 1) x.data.toList (erL ts) = rdF f2 (rtF x.data.toList).2 (erL ts ++ [(rtF x.data.toList).1])) := Lib.hid (by rw [rdF, if_neg hno, if_neg hnh])
          clear hnh
          generalize rtF x.data.toList = p at hew CE GN
          obtain ⟨p1, p2⟩ := p
          obtain ⟨_, hew2⟩ := hew
          have hew2 : p2.length < x.size := by rwa [size_len] at hew2
          have HP2 : Hid ((bs p2).data.toList = p2) := Lib.hid (bs_data p2)
          have hps : (bs p2).size = p2.length := bs_size p2
          clear hne hhd hbp hno
          go_wp2_with fail
          refine (CP.out _).mono ?_
          rintro e w' ⟨rfl, rfl⟩
          go_upto_region 4 with fail
          generalize wr.alloc (.cells #[.string ⟨#[]⟩, .string ⟨#[]⟩, .string ⟨#[]⟩, .slice none 0 0, .slice none 0 0] 38) = W0 at Z BZ ⊢
          generalize hv : wr.heap.size = v at Z ⊢
          have HV := Lib.hid hv
          have hvl : v < W0.heap.size := Z.out.lt
          clear hv
          go_wp2_with fail
          refine (CE.out W0 BZ.out).mono ?_
          rintro e w1 ⟨tv, rfl, her, hnew, b1⟩
          have Z1 : Hid (TB w1 v zTV) := Lib.hid (Z.out.below b1 Z.out.lt)
          have PT5 := Lib.hid (rd_put HV.out HB.out (BZ.out.trans (b1.mono BZ.out.size)) Z1.out HO.out HT.out (hnew.mono fun b _ hb => by omega))
          have HER : Hid (er tv = p1) := Lib.hid her
          have y0 := Z1.out.c0; have y1 := Z1.out.c1; have y2 := Z1.out.c2; have y3 := Z1.out.c3; have y4 := Z1.out.c4
          simp only [TV.tag, TV.txt, TV.key, TV.sa, TV.sk, zTV] at y0 y1 y2 y3 y4
          have yf := tb_frozen Z1.out
          simp only
          generalize hbp2 : bs p2 = rp at HP2 hps
          have HSZ := Lib.hid hps
          clear her hnew b1 hbp2 Z BZ CE hps
          go_upto_region 7 with fail
          generalize (((((w1.setCell ⟨v, 0, none⟩ (.string tv.tag)).setCell ⟨v, 1, none⟩ (.string tv.txt)).setCell ⟨v, 2, none⟩ (.string tv.key)).setCell ⟨v, 3, none⟩ (.slice tv.sa.A tv.sa.n tv.sa.c)).setCell ⟨v, 4, none⟩ (.slice tv.sk.A tv.sk.n tv.sk.c)) = W at PT5 ⊢
          obtain ⟨NA, O2, T2, V2, B2⟩ := PT5.out
          have a0 := NA.c0; have a1 := NA.c1; have a2 := NA.c2; have a3 := NA.c3; have a4 := NA.c4
          have HO2 := Lib.hid O2; have HT2 := Lib.hid T2; have HV2 := Lib.hid V2; have HB2 := Lib.hid B2
          have hb2 := B2.size
          clear y0 y1 y2 y3 y4 yf Z1 NA O2 T2 V2 B2 PT5
          go_wp2_with (at_builtin; refine kT.wp_app rfl _ _ rfl (v := .slice A n c) (l := ts) (m := [tv]) (B := w.heap.size) rfl (HO2.out.alloc _) rfl rfl (fun e => by cases e) (Kind.Holds.lit (heap_alloc_new _ _) rfl) (by simp; omega) (by simp; omega) ?_; intro v' w5 hown' hgrow hat)
          obtain ⟨A', n', c', rfl, e1, e2, e3, e4, e5⟩ := hown'.slice
          have hlt : rp.size < x.size := by have := HSZ.out; omega
          have REL : Hid (DRel w f s (.string rp) (.slice A' n' c') w5) := Lib.hid (rd_step (by rw [HG.out, GN.out, HP2.out, HER.out]) HO2.out HT2.out HV2.out HB2.out hown' hgrow hat (by omega) (by omega) (by omega))
          clear hown' hgrow hat e1 e2 e3 e4 e5 a0 a1 a2 a3 a4
          go_wp2_with fail
          go_roundw
          case rel => exact REL.out
          case measure => exact hlt
    · have hE : x.toList = [] := P2.toList_nil (by omega)
      have hE2 : x.toList.isEmpty = true := by rw [hE]; rfl
      have GN : Hid (rdF (f2 + 1) x.data.toList (erL ts) = (erL ts, x.data.toList)) := Lib.hid (by rw [rdF, if_pos (.inl (list_nil (by omega)))])
      go_wp2_with fail
      go_ret2
      refine ⟨A, n, c, ts, ?_, ?_, HO.out, HT.out, HB.out⟩
      · rw [HG.out, GN.out, bs_eta]; rfl
      · rw [HG.out, GN.out]
end Go.Proofs.Ytbdcbjeeaebfeaa.P10
