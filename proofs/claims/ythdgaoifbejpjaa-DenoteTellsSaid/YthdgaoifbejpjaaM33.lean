/- What the program's Check answers: the contract CheckC. No condition but those stated. -/
import Derived.Deep.RegionHeld3
import Derived.Deep.DeepCutAuto
import Derived.Test.YthdgaoifbejpjaaM23
import Derived.Test.YthdgaoifbejpjaaM25
import Derived.Test.YthdgaoifbejpjaaM28
import Derived.Test.YthdgaoifbejpjaaM29
import Derived.Test.YthdgaoifbejpjaaM32
set_option linter.unusedVariables false
set_option linter.unusedSimpArgs false
set_option linter.unusedVariables false
set_option linter.unusedSimpArgs false
namespace Go.Proofs.Ythdgaoifbejpjaa.P13
open Go.RowKit Kd P4 P5 P11 P12 Mv

theorem check_bad {l : List In} {i c : Nat} (hn : l.length ≤ 120) (hi : i < l.length) (hf : firstW l i = 0) (hw : wrongP l i = c) (hc : ¬ c = 0) : checkP l = c := by
  have h2 : firstW l l.length = c := by rw [firstW_at hf (by rw [hw]; exact hc) hi, hw]
  rw [checkP, if_neg (by omega), if_neg (by rw [h2]; exact hc), h2]
theorem check_end {l : List In} {d : Nat} (hn : l.length ≤ 120) (hf : firstW l l.length = 0) (hp : (placesK l l.length).length = d + 1) : checkP l = if 0 < d then 8 else 0 := by
  have h1 := (pls_of (Nat.le_refl _) hf).len
  have e : (beginP l l.length).2 = d := by rw [beginP_snd]; omega
  rw [checkP, if_neg (by omega), if_pos hf, e]
theorem fr_new {w w1 : World} {m : Nat} (hm : w.heap.size ≤ m) (M : MapIs Try.prog 9 w1 m 0 0 (fun _ => none)) (hb : Below w.heap.size w w1) :
    FrIs ((w1.alloc (.cells #[.map (some m), .bool false] 91)).alloc (.cells #[.slice (some ⟨w1.heap.size, 0, none⟩) 1 1, .bool false, .slice none 0 0] 96)) w.heap.size (w1.heap.size + 1) 0 [[]] none := by
  have hs := hb.size
  have h1 : (w1.alloc (.cells #[.map (some m), .bool false] 91)).heap[w1.heap.size]? = some (.cells #[.map (some m), .bool false] 91 (0, 0)) := heap_alloc_new w1 _
  have h2 : (w1.alloc (.cells #[.map (some m), .bool false] 91)).heap.size = w1.heap.size + 1 := by simp
  refine ⟨w1.heap.size, 1, 0, [⟨m, false⟩], none, 0, 0, [], by omega, rfl, by omega, ?_, ?_, Kind.Own.nil _ _ _, rfl, by simp, fun i h hi => ?_, rfl, rfl, Nat.le_refl _⟩
  · rw [← h2]; exact heap_alloc_new _ _
  · exact Kind.own_mk rfl hs (heap_up h1) (Nat.le_refl _) (by unfold maxLen; omega) rfl rfl
  · obtain rfl : i = 0 := by simpa using h
    refine ⟨hm, rfl, 0, ?_⟩
    show MapIs _ _ _ m 0 0 (keysF [])
    rw [keysF_nil]
    exact (M.alloc _).alloc _
set_option maxRecDepth 100000 in
set_option maxHeartbeats 4000000 in
theorem check_c : CheckC := by
  intro l A n c w hh hn hnc hcm hl hsm
  have q3 := err_neq_nil
  have q5 := nil_neq_nil
  have KH := Lib.hid hh
  have KN := Lib.hid hn
  have HSM := Lib.hid hsm
  have hcm' : c ≤ 9223372036854775807 := by unfold maxLen at hcm; omega
  clear hh hn hcm hsm
  by_cases h120 : 120 < n
  · have HC : Hid (checkP l = 13) := Lib.hid (by rw [checkP, if_pos (by rw [KN.out]; exact h120)])
    have i1 : (120 : Int) < (n : Int) := by omega
    rw [HC.out]
    go_enter Try.func32, Try.ntmps32
    go_wp2_with fail
    go_ret
    exact ⟨rfl, Below.refl _ _⟩
  have i1 : ¬ (120 : Int) < (n : Int) := by omega
  go_enter Try.func32, Try.ntmps32
  go_wp2_with fail
  refine (newPlace_any w).mono ?_
  rintro e w1 ⟨m, rfl, hm, M, b1⟩
  have F0 := Lib.hid (fr_new hm M b1)
  have B0 : Hid (Below w.heap.size w ((w1.alloc (.cells #[.map (some m), .bool false] 91)).alloc (.cells #[.slice (some ⟨w1.heap.size, 0, none⟩) 1 1, .bool false, .slice none 0 0] 96))) := Lib.hid ((b1.alloc b1.size _).alloc (by have := b1.size; simp; omega) _)
  clear hm M b1
  go_upto_region 4 with fail
  generalize (w1.alloc (.cells #[.map (some m), .bool false] 91)).alloc (.cells #[.slice (some ⟨w1.heap.size, 0, none⟩) 1 1, .bool false, .slice none 0 0] 96) = W at F0 B0 ⊢
  generalize w1.heap.size + 1 = p at F0 ⊢
  go_wp2_with fail
  go_loopw [16] (fun s wr => ∃ i : Nat, i ≤ n ∧ s = .int .i64 i ∧ Hid (FrIs wr w.heap.size p i (placesK l i) (namesK l i)) ∧ Hid (firstW l i = 0) ∧ Hid (Below w.heap.size w wr)) (fun s _ => n - (intOf s).toNat)
  case atStart => exact ⟨0, by omega, rfl, F0, Lib.hid rfl, B0⟩
  case round =>
    obtain ⟨i, hi, rfl, HF, HW, HB⟩ := hrel
    clear F0 B0
    by_cases hin : i < n
    · have hil : i < l.length := by have := KN.out; omega
      obtain ⟨b, o, rfl, hb, g0, g1, g2⟩ := cell_of_ins (KH.out.on HB.out) hil
      have HS := HSM.out _ (List.getElem_mem hil)
      have WP : Hid (wrongP l i = wrongV (placesK l i) (namesK l i) l[i]) := Lib.hid (wrong_places hil HW.out)
      have PS : Hid (placesK l (i + 1) = stepP (placesK l i) l[i]) := Lib.hid (placesK_step hil)
      have NS : Hid (namesK l (i + 1) = stepN (namesK l i) l[i]) := Lib.hid (namesK_step hil)
      have HIL := Lib.hid hil
      generalize l[i] = d at g0 g1 g2 HS WP PS NS
      obtain ⟨op, a, bb⟩ := d
      simp only at g0 g1 g2
      obtain ⟨cd, hcd⟩ : ∃ z, wrongV (placesK l i) (namesK l i) ⟨op, a, bb⟩ = z := ⟨_, rfl⟩
      have B1 : Hid (Below wr.heap.size wr (wr.alloc (.cells #[.int .i64 op, .string a, .string bb] 71))) := Lib.hid ((Below.refl _ _).alloc (Nat.le_refl _) _)
      have N1 : Hid (XB (wr.alloc (.cells #[.int .i64 op, .string a, .string bb] 71)) wr.heap.size ⟨op, a, bb⟩) := Lib.hid (XB.new wr ⟨op, a, bb⟩)
      have FB : Hid (∀ w9, Below wr.heap.size wr w9 → FrIs w9 w.heap.size p i (placesK l i) (namesK l i)) := Lib.hid (fun w9 h9 => by
        obtain ⟨_, _, _, _, _, _, _, _, F, ht⟩ := HF.out.fr
        exact (F.below h9).is rfl ht)
      rw [hcd] at WP
      have HCD := Lib.hid hcd
      clear hcd hil
      go_upto_region 7 with fail
      generalize wr.alloc (.cells #[.int .i64 op, .string a, .string bb] 71) = W1 at B1 N1 ⊢
      generalize wr.heap.size = x at N1 ⊢
      have c0 := N1.out.c0; have c1 := N1.out.c1; have c2 := N1.out.c2
      simp only at c0 c1 c2
      have CF := Lib.hid (fault_any (FB.out _ B1.out) (by omega) ⟨op, a, bb⟩ HS.1 HS.2)
      rw [HCD.out] at CF
      go_wp2_with fail
      refine CF.out.mono ?_
      rintro e w2 ⟨rfl, b2⟩
      have B2 := Lib.hid (B1.out.trans (b2.mono B1.out.size))
      have N2 := Lib.hid (N1.out.below b2 N1.out.lt)
      clear b2 CF c0 c1 c2 N1
      by_cases h0 : cd = 0
      · subst h0
        have he : errV ((0 : Nat) : Int) = .nilIface := rfl
        rw [he]
        have c0 := N2.out.c0; have c1 := N2.out.c1; have c2 := N2.out.c2
        simp only at c0 c1 c2
        have CT := Lib.hid (take_any (FB.out _ B2.out) (by omega) ⟨op, a, bb⟩ HS.1 HS.2 HCD.out)
        have BX : Hid (Below w.heap.size w w2) := Lib.hid (HB.out.trans (B2.out.mono HB.out.size))
        go_wp2_with fail
        refine CT.out.mono ?_
        rintro e w3 ⟨rfl, f3, b3⟩
        rw [← PS.out, ← NS.out] at f3
        have F3 := Lib.hid f3
        have B3 := Lib.hid (BX.out.trans b3)
        clear f3 b3 CT c0 c1 c2
        go_wp2_with fail
        go_roundw
        case rel => exact ⟨i + 1, by omega, by go_num, F3, Lib.hid (by rw [firstW, if_pos HW.out, WP.out]), B3⟩
        case measure => simp [intOf]; omega
      · have he : errV (cd : Int) = .iface 88 (.int .i64 cd) := by unfold errV; rw [if_neg (by omega)]
        have HC : Hid (checkP l = cd) := Lib.hid (check_bad (by have := KN.out; omega) HIL.out HW.out WP.out h0)
        rw [he]
        go_wp2_with fail
        go_ret
        exact ⟨by rw [HC.out, he]; rfl, HB.out.trans (B2.out.mono HB.out.size)⟩
    · obtain rfl : i = n := by omega
      obtain ⟨g, cc, d, _, _, _, _, _, F, _⟩ := HF.out.fr
      have HC : Hid (checkP l = if 0 < d then 8 else 0) := Lib.hid (by
        have h1 := HW.out
        have h2 := F.len
        rw [← KN.out] at h1 h2
        exact check_end (by have := KN.out; omega) h1 h2)
      have HD := Lib.hid (depth_any p d cc _ wr F.c0 (by have := F.d8; omega))
      clear F
      by_cases h0 : 0 < d
      · have i2 : (0 : Int) < (d : Int) := by omega
        rw [if_pos h0] at HC
        go_wp2_with fail
        refine HD.out.mono ?_
        rintro e w' ⟨rfl, rfl⟩
        go_wp2_with fail
        go_ret
        exact ⟨by rw [HC.out]; rfl, HB.out⟩
      · have i2 : ¬ (0 : Int) < (d : Int) := by omega
        rw [if_neg h0] at HC
        go_wp2_with fail
        refine HD.out.mono ?_
        rintro e w' ⟨rfl, rfl⟩
        go_wp2_with fail
        go_ret
        exact ⟨by rw [HC.out]; rfl, HB.out⟩
end Go.Proofs.Ythdgaoifbejpjaa.P13

/- What the program's wish.Of, Back, Count and Same answer: the contracts of layer 14. No condition but those stated. -/
set_option linter.unusedVariables false
set_option linter.unusedSimpArgs false
namespace Go.Proofs.Ythdgaoifbejpjaa.P14
open Go.RowKit Kd P4 P5 P11 P12 P13

theorem wof_c : WOfC := by
  intro l A n c w hh hn hnc hcm hl hs
  have CC : Hid (Calls Try.prog 32 #[.slice A n c] w fun e w' => e = .returned (errV ((checkP l : Nat) : Int)) ∧ Below w.heap.size w w') := Lib.hid (check_c l A n c w hh hn hnc hcm hl hs)
  have q2 := err_neq_nil
  have q3 := nil_neq_nil
  have HR : Hid (Rs w w.heap.size A n c l) := Lib.hid ⟨hn, hnc, hcm, hl, hh⟩
  by_cases hz : checkP l = 0
  · have HZ := Lib.hid hz
    have HB := Lib.hid (want_back hz)
    have CG : Hid (∀ wz : World, Below w.heap.size w wz → Calls Try.prog 33 #[.slice A n c] wz (GotA wz w.heap.size (wantP l) [])) := Lib.hid (fun wz hz => getAll_any (wantP l) [] A n c w.heap.size wz HB.out.2 (fun x hx => by cases hx) (by rw [HB.out.1, List.append_nil]; exact HR.out.below hz (Nat.le_refl _)) hz.size)
    have e0 : errV ((checkP l : Nat) : Int) = .nilIface := by rw [hz]; rfl
    rw [e0] at CC
    clear hh hn hnc hcm hl hs hz e0
    go_enter Try.func16, Try.ntmps16
    go_wp2_with fail
    refine CC.out.mono ?_
    rintro e w1 ⟨rfl, b1⟩
    have B1 := Lib.hid b1
    clear b1
    go_wp2_with fail
    refine (CG.out w1 B1.out).mono ?_
    rintro e w2 ⟨A1, n1, c1, ts, A2, n2, c2, rfl, her, own, new, _, b2⟩
    have HE := Lib.hid her
    have B2 := Lib.hid (B1.out.trans (b2.mono B1.out.size))
    have HO := Lib.hid own
    have HN := Lib.hid new
    clear her own new b2
    go_wp2_with fail
    go_ret2
    obtain ⟨o1, o2, o3, o4, o5⟩ := ownK_is HO.out
    refine ⟨A1, n1, c1, ts, by rw [HZ.out]; rfl, by rw [HE.out, if_pos HZ.out], ⟨o1, o2, o3, o4, o5, fun t ht => (HN.out t ht).ok⟩, B2.out⟩
  · have HZ := Lib.hid hz
    have e0 : errV ((checkP l : Nat) : Int) = .iface 88 (.int .i64 ((checkP l : Nat) : Int)) := by unfold errV; rw [if_neg (by omega)]
    have HE := Lib.hid e0
    rw [e0] at CC
    clear hh hn hnc hcm hl hs hz e0
    go_enter Try.func16, Try.ntmps16
    go_wp2_with fail
    refine CC.out.mono ?_
    rintro e w1 ⟨rfl, b1⟩
    have B1 := Lib.hid b1
    clear b1
    go_wp2_with fail
    go_ret2
    exact ⟨none, 0, 0, [], by rw [HE.out]; rfl, by rw [if_neg HZ.out]; rfl, ⟨rfl, Nat.le_refl _, by unfold maxLen; omega, fun _ => rfl, Kind.Holds.nil _ _ _, fun t ht => by cases ht⟩, B1.out⟩
end Go.Proofs.Ythdgaoifbejpjaa.P14

/- What denote's own, ownAll, at and olds answer. No condition but those stated. -/
namespace Go.Proofs.Ythdgaoifbejpjaa.P17
open Go.RowKit Kd P4 P5 P11 P12 P13 P14 P16
set_option linter.unusedSimpArgs false
set_option linter.unusedVariables false

def zT : P8.TV := .mk ⟨#[]⟩ ⟨#[]⟩ ⟨#[]⟩ ⟨none, 0, 0⟩ [] ⟨none, 0, 0⟩ []
theorem tb_frozen17 {w : World} {s : Nat} {t : P8.TV} (h : P8.TB w s t) (i : Nat) : w.frozen? ⟨s, i, none⟩ = false := by
  have hb : w.heap[s]? = _ := h
  simp [World.frozen?, hb]
def AtV (os : List P8.TV) (A : Option Addr) (c : Nat) (a : Int) (w : World) (e : Ending) (w' : World) : Prop := w = w' ∧ ((a < 0 ∧ e = .returned (.slice none 0 0)) ∨ (∃ (x : Nat) (b o : Nat), a = (x : Int) ∧ x < os.length ∧ A = some ⟨b, o, none⟩ ∧ e = .returned (.slice (some ⟨b, o + x * 5, none⟩) 1 (c - x))))
/-- the place of a tree, alone, or none -/
theorem at_any (os : List P8.TV) (A : Option Addr) (n c : Nat) (a : Int) (w : World) (hn : os.length = n) (hnc : n ≤ c) (hc : n ≤ 200) (hh : P8.kT.Holds w w.heap.size A os) (ha : -1 ≤ a) (han : a < n) :
    Calls Try.prog 21 #[.slice A n c, .int .i64 a] w (AtV os A c a w) := by
  by_cases h0 : a < 0
  · have q0 : decide (a < 0) = true := by simpa using h0
    clear hh hn
    go_enter Try.func21, Try.ntmps21
    go_wp2_with fail
    go_ret
    exact ⟨rfl, .inl ⟨h0, rfl⟩⟩
  · have q0 : decide (a < 0) = false := by simpa using h0
    obtain ⟨x, rfl⟩ : ∃ x : Nat, a = (x : Int) := ⟨a.toNat, by omega⟩
    have hx : x < os.length := by omega
    obtain ⟨b, o, rfl, hb, _⟩ := P8.cell_of_trees hh hx
    have w1 : IntKind.i64.wrap ((x : Int) + 1) = (x : Int) + 1 := by rw [IntKind.wrap_i64]; omega
    have k0 : (0 : Int) ≤ (x : Int) := by omega
    have k1 : (x : Int) ≤ (x : Int) + 1 := by omega
    have k2 : (x : Int) + 1 ≤ (c : Int) := by omega
    have e1 : (x + 1 - x : Nat) = 1 := by omega
    have hxc : x ≠ c := by omega
    clear hh
    go_enter Try.func21, Try.ntmps21
    go_wp2_with fail
    go_ret
    refine ⟨rfl, .inr ⟨x, b, o, rfl, hx, rfl, ?_⟩⟩
    simp
/-! ### A tree of one's own -/
def OwV (w : World) (l : P8.PT) (e : Ending) (w' : World) : Prop := ∃ u : P8.TV, e = .returned (.agg #[.string u.tag, .string u.txt, .string u.key, .slice u.sa.A u.sa.n u.sa.c, .slice u.sk.A u.sk.n u.sk.c]) ∧ P8.er u = l ∧ TQ w' (fun b => w.heap.size ≤ b) u ∧ Below w.heap.size w w'
def OwnC (t : P8.TV) : Prop := ∀ w : World, P8.TOk w w.heap.size t → wtP (P8.er t) ≤ 2000 → Calls Try.prog 23 #[.agg #[.string t.tag, .string t.txt, .string t.key, .slice t.sa.A t.sa.n t.sa.c, .slice t.sk.A t.sk.n t.sk.c]] w (OwV w (P8.er t))
def OwnAllC (ts : List P8.TV) : Prop := ∀ (A : Option Addr) (n c : Nat) (w : World), P8.kT.Holds w w.heap.size A ts → ts.length = n → (∀ t ∈ ts, P8.TOk w w.heap.size t) → wtPL (ts.map P8.er) ≤ 2000 → Calls Try.prog 22 #[.slice A n c] w (TrV 0 w (ts.map P8.er))
theorem own17_end {w W2 w2 wf : World} {tag txt key : ByteArray} {attrs : List P3.At} {us : List P8.TV} {A5 A6 : Option Addr} {n5 c5 n6 c6 D D2 : Nat} (hB : Below w.heap.size w w2) (l5 : attrs.length = n5) (k5 : n5 ≤ c5) (z5 : A5 = none → c5 = 0)
    (hA : HoldsQ kA w2 (fun b => D ≤ b) A5 attrs) (hK : P8.kT.Own w2 D2 (.slice A6 n6 c6) us) (hq : ∀ t ∈ us, TQ w2 (fun b => D ≤ b) t) (hD : w.heap.size + 1 < D) (hD2 : w.heap.size + 1 < D2)
    (hb : But (fun k => k = w.heap.size ∨ k = w.heap.size + 1) w2 wf) : OwV w (.mk tag txt key attrs (us.map P8.er)) (.returned (.agg #[.string tag, .string txt, .string key, .slice A5 n5 c5, .slice A6 n6 c6])) wf := by
  have o6 := own_isU hK
  refine ⟨.mk tag txt key ⟨A5, n5, c5⟩ attrs ⟨A6, n6, c6⟩ us, rfl, by rw [P8.er_mk]; rfl, ?_, hB.trans (hb.to_below (fun i _ hi => by omega) hB.size)⟩
  exact .mk l5 k5 z5 ((hA.but hb (fun b hb e => by omega)).mono (fun b _ hb => by omega)) o6.1 o6.2.1 o6.2.2.2.1 (((own_q hK).but hb (fun b hb e => by omega)).mono (fun b _ hb => by omega))
    (fun t ht => ((hq t ht).but hb (fun b hb e => by omega)).mono (fun b _ hb => by omega))
set_option maxRecDepth 100000 in
set_option maxHeartbeats 4000000 in
theorem own_of (t : P8.TV) (IH : OwnAllC t.kids) : OwnC t := by
  intro w hok hwt
  obtain ⟨tag, txt, key, ⟨A, n, c⟩, attrs, ⟨A2, n2, c2⟩, kids⟩ := t
  have HI := Lib.hid IH
  have hwp := wt_parts (P8.er (.mk tag txt key ⟨A, n, c⟩ attrs ⟨A2, n2, c2⟩ kids))
  rw [P8.er_mk] at hwp hwt
  simp only [P8.PT.attrs, P8.PT.kids, P8.TV.tag, P8.TV.txt, P8.TV.key, P8.TV.attrs, P8.TV.kids, P8.TV.sa, P8.TV.sk] at hwp hwt HI
  have HWK : Hid (wtPL (kids.map P8.er) ≤ 2000) := Lib.hid (by omega)
  have al := hok.al
  have az := hok.az
  have ac := hok.ac
  have kl := hok.kl
  simp only [P8.TV.sa, P8.TV.attrs, P8.TV.kids, P8.TV.sk] at al az ac kl
  have hatt : attrs.length ≤ 2000 := by omega
  have AH : Hid (kA.Holds w w.heap.size A attrs) := Lib.hid hok.ah
  have KH : Hid (P8.kT.Holds w w.heap.size A2 kids) := Lib.hid hok.kh
  have KS : Hid (∀ k ∈ kids, P8.TOk w w.heap.size k) := Lib.hid hok.ks
  have AL := Lib.hid al
  have AZ := Lib.hid az
  have KL := Lib.hid kl
  rw [P8.er_mk]
  simp only [P8.TV.tag, P8.TV.txt, P8.TV.key, P8.TV.attrs, P8.TV.kids, P8.TV.sa, P8.TV.sk]
  clear hok hwt hwp al az ac kl IH
  go_enter Try.func23, Try.ntmps23
  go_upto_region 1 with fail
  have W0 : Hid (Below w.heap.size w ((w.alloc (.cells #[.string tag, .string txt, .string key, .slice A n c, .slice A2 n2 c2] 37)).alloc (.cells #[.string ⟨#[]⟩, .string ⟨#[]⟩, .string ⟨#[]⟩, .slice none 0 0, .slice none 0 0] 37))) := Lib.hid (((Below.refl _ _).alloc (Nat.le_refl _) _).alloc (by simp) _)
  have K0 : Hid (P8.TB ((w.alloc (.cells #[.string tag, .string txt, .string key, .slice A n c, .slice A2 n2 c2] 37)).alloc (.cells #[.string ⟨#[]⟩, .string ⟨#[]⟩, .string ⟨#[]⟩, .slice none 0 0, .slice none 0 0] 37)) w.heap.size (.mk tag txt key ⟨A, n, c⟩ attrs ⟨A2, n2, c2⟩ kids)) := Lib.hid (heap_up (heap_alloc_new w _))
  have K1 : Hid (P8.TB ((w.alloc (.cells #[.string tag, .string txt, .string key, .slice A n c, .slice A2 n2 c2] 37)).alloc (.cells #[.string ⟨#[]⟩, .string ⟨#[]⟩, .string ⟨#[]⟩, .slice none 0 0, .slice none 0 0] 37)) (w.heap.size + 1) zT) := Lib.hid (by show ((w.alloc (.cells #[.string tag, .string txt, .string key, .slice A n c, .slice A2 n2 c2] 37)).alloc (.cells #[.string ⟨#[]⟩, .string ⟨#[]⟩, .string ⟨#[]⟩, .slice none 0 0, .slice none 0 0] 37)).heap[w.heap.size + 1]? = some (.cells #[.string ⟨#[]⟩, .string ⟨#[]⟩, .string ⟨#[]⟩, .slice none 0 0, .slice none 0 0] 37 (0, 0)); have := heap_alloc_new (w.alloc (.cells #[.string tag, .string txt, .string key, .slice A n c, .slice A2 n2 c2] 37)) (.cells #[.string ⟨#[]⟩, .string ⟨#[]⟩, .string ⟨#[]⟩, .slice none 0 0, .slice none 0 0] 37); simpa using this)
  generalize ((w.alloc (.cells #[.string tag, .string txt, .string key, .slice A n c, .slice A2 n2 c2] 37)).alloc (.cells #[.string ⟨#[]⟩, .string ⟨#[]⟩, .string ⟨#[]⟩, .slice none 0 0, .slice none 0 0] 37)) = W at W0 K0 K1 ⊢
  have hz0 : w.heap.size < W.heap.size := K0.out.lt
  have hz1 : w.heap.size + 1 < W.heap.size := K1.out.lt
  have d3 : W.cell? ⟨w.heap.size, 3, none⟩ = some (.slice A n c) := K0.out.c3
  go_upto_region 2 with (at_builtin; refine kA.wp_app rfl _ _ rfl (v := .slice none 0 0) (l := []) (m := attrs) (B := W.heap.size) rfl (Kind.Own.nil kA W _) rfl AL.out AZ.out (AH.out.on W0.out) (by have := AL.out; simp; omega) (Nat.le_refl _) ?_; intro v' w1 hown hgrow hat; obtain ⟨A5, n5, c5, rfl, l5, k5, m5, z5, h5⟩ := hown.slice; have b1 : Below W.heap.size W w1 := (Below.refl _ _).grown hgrow (Nat.le_refl _) (fun i hi => by cases hi); have L0 : Hid (P8.TB w1 w.heap.size (.mk tag txt key ⟨A, n, c⟩ attrs ⟨A2, n2, c2⟩ kids)) := Lib.hid (K0.out.below b1 hz0); have L1 : Hid (P8.TB w1 (w.heap.size + 1) zT) := Lib.hid (K1.out.below b1 hz1); have O1 := Lib.hid hown; have B1 := Lib.hid (W0.out.trans (b1.mono W0.out.size)); have X1 := Lib.hid b1; have f3 := tb_frozen17 L0.out 3; have d3 := L0.out.c3; clear hown hgrow hat b1 m5 h5)
  have M0 : Hid (P8.TB (w1.setCell ⟨w.heap.size, 3, none⟩ (.slice A5 n5 c5)) w.heap.size (.mk tag txt key ⟨A5, n5, c5⟩ attrs ⟨A2, n2, c2⟩ kids)) := Lib.hid (heap_set L0.out 3 _)
  have M1 : Hid (P8.TB (w1.setCell ⟨w.heap.size, 3, none⟩ (.slice A5 n5 c5)) (w.heap.size + 1) zT) := Lib.hid ((Below.heap_setCell _ _ _ _ (by show w.heap.size + 1 ≠ w.heap.size; omega)).trans L1.out)
  have BM : Hid (Below w.heap.size w (w1.setCell ⟨w.heap.size, 3, none⟩ (.slice A5 n5 c5))) := Lib.hid (B1.out.setCell (p := ⟨w.heap.size, 3, none⟩) (Nat.le_refl _) _)
  have QM : Hid (HoldsQ kA (w1.setCell ⟨w.heap.size, 3, none⟩ (.slice A5 n5 c5)) (fun b => W.heap.size ≤ b) A5 attrs) := Lib.hid ((own_q O1.out).but (But.setCell (S := fun b => b = w.heap.size) (p := ⟨w.heap.size, 3, none⟩) (But.refl _ w1) (fun _ => rfl) _) (fun b hb e => by omega))
  have hW1 : W.heap.size ≤ (w1.setCell ⟨w.heap.size, 3, none⟩ (.slice A5 n5 c5)).heap.size := by have := X1.out.size; simpa [World.setCell] using this
  generalize w1.setCell ⟨w.heap.size, 3, none⟩ (.slice A5 n5 c5) = W1 at M0 M1 BM QM hW1 ⊢
  clear d3 f3 L0 L1 B1 O1 K0 K1 X1
  have d4 : W1.cell? ⟨w.heap.size, 4, none⟩ = some (.slice A2 n2 c2) := M0.out.c4
  go_wp2_with fail
  refine (HI.out A2 n2 c2 W1 (KH.out.on BM.out) KL.out (fun k hk => (KS.out k hk).on BM.out) HWK.out).mono ?_
  rintro e w2 ⟨A6, n6, c6, us, rfl, hus, own6, q6, b2⟩
  have hz2 : w.heap.size < W1.heap.size := M0.out.lt
  have hz3 : w.heap.size + 1 < W1.heap.size := M1.out.lt
  have O6 := Lib.hid own6
  have Q6 : Hid (∀ t ∈ us, TQ w2 (fun b => W.heap.size ≤ b) t) := Lib.hid (fun t ht => (q6 t ht).mono (fun b _ hb => by omega))
  have HUS := Lib.hid hus
  have QA := Lib.hid (QM.out.but (But.of_below b2 (fun _ => False)) (fun _ _ h => h))
  have B2 := Lib.hid (BM.out.trans (b2.mono BM.out.size))
  have N0 := Lib.hid (M0.out.below b2 hz2)
  have N1 := Lib.hid (M1.out.below b2 hz3)
  have hz4 : w.heap.size + 1 < w2.heap.size := N1.out.lt
  have e0 := N0.out.c0
  have e1 := N0.out.c1
  have e2 := N0.out.c2
  have e3 := N0.out.c3
  have e4 := N0.out.c4
  have g4 := tb_frozen17 N0.out 4
  have r0 := N1.out.c0
  have r1 := N1.out.c1
  have r2 := N1.out.c2
  have r3 := N1.out.c3
  have r4 := N1.out.c4
  have rf := tb_frozen17 N1.out
  simp only [zT, P8.TV.tag, P8.TV.txt, P8.TV.key, P8.TV.sa, P8.TV.sk] at e0 e1 e2 e3 e4 r0 r1 r2 r3 r4
  clear own6 q6 hus b2 M0 M1 BM QM d4 HI AH KH KS
  go_wp2_with fail
  refine bodyPost_ret (v := .agg #[.string tag, .string txt, .string key, .slice A5 n5 c5, .slice A6 n6 c6]) (by simp [results, Try.results23, go_sem, e0, e1, e2, e3, e4, r0, r1, r2, r3, r4, hz4]) rfl ?_
  rw [← HUS.out]
  refine own17_end (W2 := W) B2.out l5 k5 z5 QA.out O6.out Q6.out hz1 hz3 ?_
  exact But.setCell (But.setCell (But.setCell (But.setCell (But.setCell (But.setCell (But.refl _ _) (fun _ => .inl rfl) _) (fun _ => .inr rfl) _) (fun _ => .inr rfl) _) (fun _ => .inr rfl) _) (fun _ => .inr rfl) _) (fun _ => .inr rfl) _
def AwRel (w : World) (l : List P8.PT) (n : Nat) (s3 s8 : Value) (wr : World) : Prop := ∃ (k : Nat) (A' : Option Addr) (n' c' : Nat) (us : List P8.TV), k ≤ n ∧ s8 = .int .i64 k ∧ s3 = .slice A' n' c' ∧ Hid (us.map P8.er = l.take k) ∧
  Hid (P8.kT.Own wr w.heap.size (.slice A' n' c') us) ∧ Hid (∀ t ∈ us, TQ wr (fun b => w.heap.size ≤ b ∧ (Value.slice A' n' c').ownBlock ≠ some b) t) ∧ Hid (Below w.heap.size w wr)
set_option maxRecDepth 100000 in
set_option maxHeartbeats 4000000 in
theorem ownAll_of (ts : List P8.TV) (IH : ∀ t ∈ ts, OwnC t) : OwnAllC ts := by
  intro A n c w hh hn hok hwt
  have HH := Lib.hid hh
  have HN := Lib.hid hn
  have HS := Lib.hid hok
  have HW := Lib.hid hwt
  have HI : Hid (∀ t ∈ ts, OwnC t) := Lib.hid IH
  have hn2 : n ≤ 2000 := by have := wtPL_len (ts.map P8.er); simp at this; omega
  have ST : Hid (AwRel w (ts.map P8.er) n (.slice none 0 0) (.int .i64 0) w) := Lib.hid ⟨0, none, 0, 0, [], by omega, rfl, rfl, Lib.hid (by simp), Lib.hid (Kind.Own.nil _ w _), Lib.hid (by intro t ht; cases ht), Lib.hid (Below.refl _ _)⟩
  clear hh hn hok hwt IH
  go_enter Try.func22, Try.ntmps22
  go_wp2_with fail
  go_loopw [3, 8] (fun s3 s8 wr => AwRel w (ts.map P8.er) n s3 s8 wr) (fun _ s8 _ => n - (intOf s8).toNat)
  case atStart => exact ST.out
  case round =>
    obtain ⟨k, A3, n3, c3, us, hk, rfl, rfl, HU, HO, HQ, HB⟩ := hrel
    clear ST
    obtain ⟨W, rfl⟩ : ∃ W : World, W = wr := ⟨_, rfl⟩
    by_cases hkn : k < n
    · have hkl : k < ts.length := by have := HN.out; omega
      obtain ⟨b, o, rfl, hb, g0, g1, g2, g3, g4⟩ := P8.cell_of_trees (HH.out.on HB.out) hkl
      have hul : us.length ≤ 2000 := by have := congrArg List.length HU.out; rw [List.length_map, List.length_take] at this; omega
      have NX : Hid ((ts.map P8.er).take (k + 1) = us.map P8.er ++ [P8.er ts[k]]) := Lib.hid (by rw [List.take_add_one, List.getElem?_map, List.getElem?_eq_getElem hkl, HU.out]; rfl)
      have CO : Hid (∀ wz, Below W.heap.size W wz → Calls Try.prog 23 #[.agg #[.string ts[k].tag, .string ts[k].txt, .string ts[k].key, .slice ts[k].sa.A ts[k].sa.n ts[k].sa.c, .slice ts[k].sk.A ts[k].sk.n ts[k].sk.c]] wz (OwV wz (P8.er ts[k]))) := Lib.hid (fun wz h => by
        have h1 := wtPL_at (l := ts.map P8.er) (k := k) (by simpa using hkl)
        rw [List.getElem_map] at h1
        exact HI.out _ (List.getElem_mem hkl) wz (((HS.out _ (List.getElem_mem hkl)).on HB.out).on h) (by have := HW.out; omega))
      generalize ts[k] = d at g0 g1 g2 g3 g4 CO NX
      clear hkl
      go_upto_region 5 with fail
      have XT : Hid (P8.TB (W.alloc (.cells #[.string d.tag, .string d.txt, .string d.key, .slice d.sa.A d.sa.n d.sa.c, .slice d.sk.A d.sk.n d.sk.c] 37)) W.heap.size d) := Lib.hid (P8.TB.new W d)
      have B1 : Hid (Below W.heap.size W (W.alloc (.cells #[.string d.tag, .string d.txt, .string d.key, .slice d.sa.A d.sa.n d.sa.c, .slice d.sk.A d.sk.n d.sk.c] 37))) := Lib.hid ((Below.refl _ _).alloc (Nat.le_refl _) _)
      generalize W.alloc (.cells #[.string d.tag, .string d.txt, .string d.key, .slice d.sa.A d.sa.n d.sa.c, .slice d.sk.A d.sk.n d.sk.c] 37) = W1 at XT B1 ⊢
      clear g0 g1 g2 g3 g4
      have t0 := XT.out.c0
      have t1 := XT.out.c1
      have t2 := XT.out.c2
      have t3 := XT.out.c3
      have t4 := XT.out.c4
      go_wp2_with fail
      refine (CO.out W1 B1.out).mono ?_
      rintro e w2 ⟨u, rfl, hu, qu, b2⟩
      have X2 : Hid (Below W.heap.size W w2) := Lib.hid (B1.out.trans (b2.mono B1.out.size))
      have HO2 := Lib.hid (HO.out.below X2.out (Nat.le_refl _))
      have HQ2 : Hid (∀ t ∈ us, TQ w2 (fun b => w.heap.size ≤ b ∧ (Value.slice A3 n3 c3).ownBlock ≠ some b) t) := Lib.hid (fun t ht => (HQ.out t ht).later X2.out)
      have HB2 : Hid (Below w.heap.size w w2) := Lib.hid (HB.out.trans (X2.out.mono HB.out.size))
      have QU : Hid (TQ w2 (fun b => w.heap.size ≤ b ∧ (Value.slice A3 n3 c3).ownBlock ≠ some b) u) := Lib.hid (qu.mono (fun b _ hb => ⟨by have := B1.out.size; have := HB.out.size; omega, fun e => by have := (HO.out.lt e).2; have := B1.out.size; omega⟩))
      have NEW : Hid ((us ++ [u]).map P8.er = (ts.map P8.er).take (k + 1)) := Lib.hid (by rw [NX.out, List.map_append, ← hu]; rfl)
      have hsz := HB2.out.size
      clear t0 t1 t2 t3 t4 XT B1 CO hu qu b2 HO HQ HB HI HU
      go_wp2_with (at_builtin; refine P8.kT.wp_app rfl _ _ rfl (v := .slice A3 n3 c3) (l := us) (m := [u]) (B := w.heap.size) rfl (HO2.out.alloc _) rfl rfl (fun e => by cases e) (Kind.Holds.lit (heap_alloc_new _ _) rfl) (by simp; omega) (by simp; omega) ?_; intro v' w7 hown7 hgrow hat; obtain ⟨A7, n7, c7, rfl, _, _, _, _, _⟩ := hown7.slice; have O7 := Lib.hid hown7; have GR := Lib.hid (tq_grew HO2.out HQ2.out QU.out hgrow hat); clear hown7 hgrow hat)
      have B7 : Hid (Below w.heap.size w w7) := Lib.hid (HB2.out.trans (GR.out.2.to_below (fun i _ hi => (HO2.out.lt hi).1) HB2.out.size))
      go_roundw
      case rel => exact ⟨k + 1, A7, n7, c7, us ++ [u], by omega, by go_num, rfl, NEW, O7, Lib.hid GR.out.1, B7⟩
      case measure => simp [intOf]; omega
    · obtain rfl : k = n := by omega
      go_wp2_with fail
      go_ret
      exact ⟨A3, n3, c3, us, rfl, by rw [HU.out, List.take_of_length_le (by have := HN.out; simp; omega)], HO.out, fun t ht => (HQ.out t ht).mono (fun b _ hb => ⟨.inr hb.1, hb.2⟩), HB.out⟩
theorem own_any (t : P8.TV) : OwnC t := by
  induction t using P8.TV.ind with
  | h tag txt key sa attrs sk kids ih => exact own_of _ (ownAll_of _ ih)
theorem ownAll_any (ts : List P8.TV) : OwnAllC ts := ownAll_of ts (fun t _ => own_any t)
/-! ### What the match looks at -/
def OdRel (w : World) (os : List P8.TV) (n : Nat) (s3 s8 : Value) (wr : World) : Prop := ∃ (k : Nat) (A' : Option Addr) (n' c' : Nat), k ≤ n ∧ s8 = .int .i64 k ∧ s3 = .slice A' n' c' ∧ Hid (kO.Own wr w.heap.size (.slice A' n' c') ((os.map fun o => (⟨o.tag, o.key⟩ : Ol)).take k)) ∧ Hid (Below w.heap.size w wr)
set_option maxRecDepth 100000 in
set_option maxHeartbeats 4000000 in
theorem olds_any (os : List P8.TV) (A : Option Addr) (n c : Nat) (w : World) (hh : P8.kT.Holds w w.heap.size A os) (hn : os.length = n) (hn2 : n ≤ 2000) :
    Calls Try.prog 19 #[.slice A n c] w fun e w' => ∃ (A' : Option Addr) (n' c' : Nat), e = .returned (.slice A' n' c') ∧ kO.Own w' w.heap.size (.slice A' n' c') (os.map fun o => (⟨o.tag, o.key⟩ : Ol)) ∧ Below w.heap.size w w' := by
  have HH := Lib.hid hh
  have HN := Lib.hid hn
  have ST : Hid (OdRel w os n (.slice none 0 0) (.int .i64 0) w) := Lib.hid ⟨0, none, 0, 0, by omega, rfl, rfl, Lib.hid (Kind.Own.nil kO w _), Lib.hid (Below.refl _ _)⟩
  clear hh hn
  go_enter Try.func19, Try.ntmps19
  go_wp2_with fail
  go_loopw [3, 8] (fun s3 s8 wr => OdRel w os n s3 s8 wr) (fun _ s8 _ => n - (intOf s8).toNat)
  case atStart => exact ST.out
  case round =>
    obtain ⟨k, A3, n3, c3, hk, rfl, rfl, HO, HB⟩ := hrel
    clear ST
    obtain ⟨W, rfl⟩ : ∃ W : World, W = wr := ⟨_, rfl⟩
    by_cases hkn : k < n
    · have hkl : k < os.length := by have := HN.out; omega
      obtain ⟨b, o, rfl, hb, g0, g1, g2, g3, g4⟩ := P8.cell_of_trees (HH.out.on HB.out) hkl
      have NX : Hid ((os.map fun o => (⟨o.tag, o.key⟩ : Ol)).take (k + 1) = (os.map fun o => (⟨o.tag, o.key⟩ : Ol)).take k ++ [⟨os[k].tag, os[k].key⟩]) := Lib.hid (by rw [List.take_add_one, List.getElem?_map, List.getElem?_eq_getElem hkl]; rfl)
      have HTL : Hid (((os.map fun o => (⟨o.tag, o.key⟩ : Ol)).take k).length ≤ 2000) := Lib.hid (by rw [List.length_take]; omega)
      generalize os[k] = d at g0 g1 g2 g3 g4 NX
      clear hkl
      go_upto_region 5 with fail
      have XT : Hid (P8.TB (W.alloc (.cells #[.string d.tag, .string d.txt, .string d.key, .slice d.sa.A d.sa.n d.sa.c, .slice d.sk.A d.sk.n d.sk.c] 37)) W.heap.size d) := Lib.hid (P8.TB.new W d)
      have B1 : Hid (Below W.heap.size W (W.alloc (.cells #[.string d.tag, .string d.txt, .string d.key, .slice d.sa.A d.sa.n d.sa.c, .slice d.sk.A d.sk.n d.sk.c] 37))) := Lib.hid ((Below.refl _ _).alloc (Nat.le_refl _) _)
      generalize W.alloc (.cells #[.string d.tag, .string d.txt, .string d.key, .slice d.sa.A d.sa.n d.sa.c, .slice d.sk.A d.sk.n d.sk.c] 37) = W1 at XT B1 ⊢
      clear g0 g1 g2 g3 g4
      have t0 := XT.out.c0
      have t2 := XT.out.c2
      have HO2 := Lib.hid (HO.out.below B1.out (Nat.le_refl _))
      have HB2 : Hid (Below w.heap.size w W1) := Lib.hid (HB.out.trans (B1.out.mono HB.out.size))
      have hsz := HB2.out.size
      clear HO HB
      go_wp2_with (at_builtin; refine kO.wp_app rfl _ _ rfl (v := .slice A3 n3 c3) (l := (os.map fun o => (⟨o.tag, o.key⟩ : Ol)).take k) (m := [⟨d.tag, d.key⟩]) (B := w.heap.size) rfl (HO2.out.alloc _) rfl rfl (fun e => by cases e) (Kind.Holds.lit (heap_alloc_new _ _) rfl) (by have := HTL.out; omega) (by simp; omega) ?_; intro v' w7 hown7 hgrow hat; obtain ⟨A7, n7, c7, rfl, _, _, _, _, _⟩ := hown7.slice; have O7 := Lib.hid hown7; have B7 : Hid (Below w.heap.size w w7) := Lib.hid ((HB2.out.alloc HB2.out.size _).grown hgrow (by simp; omega) (fun i hi => (HO2.out.lt hi).1)); clear hown7 hgrow hat)
      go_roundw
      case rel => exact ⟨k + 1, A7, n7, c7, by omega, by go_num, rfl, Lib.hid (by rw [NX.out]; exact O7.out), B7⟩
      case measure => simp [intOf]; omega
    · obtain rfl : k = n := by omega
      go_wp2_with fail
      go_ret
      exact ⟨A3, n3, c3, rfl, by have := HO.out; rwa [List.take_of_length_le (by have := HN.out; simp; omega)] at this, HB.out⟩
end Go.Proofs.Ythdgaoifbejpjaa.P17
