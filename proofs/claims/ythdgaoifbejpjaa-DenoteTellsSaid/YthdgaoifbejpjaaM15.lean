/- What placketref16.takes and Of answer. No condition but those stated. -/
import Derived.Deep.RegionHeld3
import Derived.Deep.DeepCutAuto
import Derived.Deep.CutBlock
import Derived.Test.YthdgaoifbejpjaaM14
set_option linter.unusedVariables false
set_option linter.unusedSimpArgs false
set_option linter.unusedVariables false
set_option linter.unusedSimpArgs false
namespace Go.Proofs.Ythdgaoifbejpjaa.P16
open Go.RowKit Kd P4 P5 P11 P12 P13 P14

theorem er_takes (t : WV) (o : Ol) (f : Bool) : takesW (er t) o f = (if t.kind = 1 then bq o.tag t.tag && bq o.key t.key && (f || !t.key.toList.isEmpty) else if t.kind = 2 then f && o.tag.toList.isEmpty else if t.kind = 3 then f else false) := by rw [er_parts]; rfl
set_option maxHeartbeats 4000000 in
theorem takes_any (t : WV) (ob : Ol) (f : Bool) (w : World) : Calls Try.prog 40 #[.agg #[.int .i64 t.kind, .string t.tag, .string t.key, .string t.txt, .slice t.sa.A t.sa.n t.sa.c, .slice t.sk.A t.sk.n t.sk.c], .agg #[.string ob.tag, .string ob.key], .bool f] w fun e w' => e = .returned (.bool (takesW (er t) ob f)) ∧ Below w.heap.size w w' := by
  rw [er_takes]
  obtain ⟨tag, key⟩ := ob
  obtain ⟨kind, tg, ky, tx, sa, ats, sk, ks⟩ := t
  simp only [WV.kind, WV.tag, WV.key, WV.txt, WV.sa, WV.sk]
  obtain ⟨A, n, c⟩ := sa
  obtain ⟨A2, n2, c2⟩ := sk
  have B1 : Hid (Below w.heap.size w ((w.alloc (.cells #[.int .i64 kind, .string tg, .string ky, .string tx, .slice A n c, .slice A2 n2 c2] 65)).alloc (.cells #[.string tag, .string key] 61))) := Lib.hid (((Below.refl _ _).alloc (Nat.le_refl _) _).alloc (by simp) _)
  have X1 : Hid (((w.alloc (.cells #[.int .i64 kind, .string tg, .string ky, .string tx, .slice A n c, .slice A2 n2 c2] 65)).alloc (.cells #[.string tag, .string key] 61)).heap[w.heap.size]? = some (.cells #[.int .i64 kind, .string tg, .string ky, .string tx, .slice A n c, .slice A2 n2 c2] 65 (0, 0))) := Lib.hid (heap_up (heap_alloc_new w _))
  have Y1 : Hid (((w.alloc (.cells #[.int .i64 kind, .string tg, .string ky, .string tx, .slice A n c, .slice A2 n2 c2] 65)).alloc (.cells #[.string tag, .string key] 61)).heap[w.heap.size + 1]? = some (.cells #[.string tag, .string key] 61 (0, 0))) := Lib.hid (by
    have := heap_alloc_new (w.alloc (.cells #[.int .i64 kind, .string tg, .string ky, .string tx, .slice A n c, .slice A2 n2 c2] 65)) (.cells #[.string tag, .string key] 61)
    simpa using this)
  go_enter Try.func40, Try.ntmps40
  go_upto_region 1 with fail
  generalize (w.alloc (.cells #[.int .i64 kind, .string tg, .string ky, .string tx, .slice A n c, .slice A2 n2 c2] 65)).alloc (.cells #[.string tag, .string key] 61) = W at B1 X1 Y1 ⊢
  have a0 : W.cell? ⟨w.heap.size, 0, none⟩ = some (.int .i64 kind) := cell_of_row W w.heap.size 0 _ _ (0, 0) X1.out
  have a1 : W.cell? ⟨w.heap.size, 1, none⟩ = some (.string tg) := cell_of_row W w.heap.size 1 _ _ (0, 0) X1.out
  have a2 : W.cell? ⟨w.heap.size, 2, none⟩ = some (.string ky) := cell_of_row W w.heap.size 2 _ _ (0, 0) X1.out
  have b0 : W.cell? ⟨w.heap.size + 1, 0, none⟩ = some (.string tag) := cell_of_row W (w.heap.size + 1) 0 _ _ (0, 0) Y1.out
  have b1 : W.cell? ⟨w.heap.size + 1, 1, none⟩ = some (.string key) := cell_of_row W (w.heap.size + 1) 1 _ _ (0, 0) Y1.out
  obtain ⟨bt, hbt⟩ : ∃ b, (tag.toList == tg.toList) = b := ⟨_, rfl⟩
  obtain ⟨bk, hbk⟩ : ∃ b, (key.toList == ky.toList) = b := ⟨_, rfl⟩
  obtain ⟨ek, hek⟩ : ∃ b, ky.toList.isEmpty = b := ⟨_, rfl⟩
  obtain ⟨et, het⟩ : ∃ b, tag.toList.isEmpty = b := ⟨_, rfl⟩
  by_cases h1 : kind = 1
  · subst h1
    have HR : Hid ((if (1 : Int) = 1 then bq tag tg && bq key ky && (f || !ky.toList.isEmpty) else if (1 : Int) = 2 then f && tag.toList.isEmpty else if (1 : Int) = 3 then f else false) = (bt && bk && (f || !ek))) := Lib.hid (by rw [if_pos rfl, bq, bq, hbt, hbk, hek])
    cases bt <;> cases bk <;> cases f <;> cases ek
    all_goals
      go_wp2_with fail
      go_ret
      exact ⟨by first | rfl | (simp_all [bq]), B1.out⟩
  · have q1 := int_ne h1
    by_cases h2 : kind = 2
    · subst h2
      cases et <;> cases f
      all_goals
        go_wp2_with fail
        go_ret
        exact ⟨by first | rfl | (simp_all), B1.out⟩
    · have q2 := int_ne h2
      by_cases h3 : kind = 3
      · subst h3
        go_wp2_with fail
        go_ret
        exact ⟨by simp, B1.out⟩
      · have q3 := int_ne h3
        go_wp2_with fail
        go_ret
        exact ⟨by simp [h1, h2, h3], B1.out⟩
/-- three rows of integers -/
def Mv3 (w : World) (a b d : List Int) (e : Ending) (w' : World) : Prop := ∃ (A1 : Option Addr) (n1 c1 : Nat) (A2 : Option Addr) (n2 c2 : Nat) (A3 : Option Addr) (n3 c3 : Nat), e = .returned (.tuple #[.slice A1 n1 c1, .slice A2 n2 c2, .slice A3 n3 c3]) ∧
  kI.Own w' w.heap.size (.slice A1 n1 c1) a ∧ kI.Own w' w.heap.size (.slice A2 n2 c2) b ∧ kI.Own w' w.heap.size (.slice A3 n3 c3) d ∧ Below w.heap.size w w'
def MRel (w : World) (g n : Nat) (old : List Ol) (ws : List PW) (s9 s10 s11 : Value) (wr : World) : Prop := ∃ (j : Nat) (A1 : Option Addr) (n1 c1 : Nat) (A2 : Option Addr) (n2 c2 : Nat), j ≤ ws.length ∧ s11 = .int .i64 j ∧ s9 = .slice A1 n1 c1 ∧ s10 = .slice A2 n2 c2 ∧
  Hid (kBo.Own wr w.heap.size (.slice (some ⟨g, 0, none⟩) n n) (foldM old (ws.take j)).left) ∧ Hid (kI.Own wr w.heap.size (.slice A1 n1 c1) (foldM old (ws.take j)).take) ∧ Hid (kI.Own wr w.heap.size (.slice A2 n2 c2) (foldM old (ws.take j)).kept) ∧ Hid (Apart (.slice A1 n1 c1) (.slice A2 n2 c2)) ∧ Hid (Below w.heap.size w wr)
def KRel (W : World) (C g n : Nat) (left1 : List Bool) (kept0 take1 : List Int) (v9 : Value) (s10 s15 : Value) (wr : World) : Prop := ∃ (k : Nat) (A2 : Option Addr) (n2 c2 : Nat), k ≤ n ∧ s15 = .int .i64 k ∧ s10 = .slice A2 n2 c2 ∧
  Hid (kBo.Own wr C (.slice (some ⟨g, 0, none⟩) n n) (clearM left1 k)) ∧ Hid (kI.Own wr C (.slice A2 n2 c2) (kept0 ++ idxM left1 k)) ∧ Hid (kI.Own wr C v9 take1) ∧ Hid (Apart v9 (.slice A2 n2 c2)) ∧ Hid (Below C W wr)
theorem int_bool (C : Nat) : kI.e ≠ kBo.e := by decide
theorem own_int_bool {w : World} {B B' g n : Nat} {v u : Value} {l : List Int} {m : List Bool} (h : kI.Own w B v l) (hb : kBo.Own w B' (.slice (some ⟨g, 0, none⟩) n n) m) (k : Nat) : kI.Own (w.setCell ⟨g, k, none⟩ u) B v l :=
  h.but (set_but w g k u) (fun i hi e => Kind.Own.ne_ h hb (by decide) i hi (by rw [e]; rfl))
set_option maxRecDepth 100000 in
set_option maxHeartbeats 16000000 in
theorem rof16_any (old : List Ol) (ts : List WV) (A : Option Addr) (n c : Nat) (A' : Option Addr) (n' c' : Nat) (w : World) (hh : kU.Holds w w.heap.size A old) (hn : old.length = n) (hl : n ≤ 1000) (hh' : kQ.Holds w w.heap.size A' ts) (hn' : ts.length = n') (hl' : n' ≤ 1000) :
    Calls Try.prog 24 #[.slice A n c, .slice A' n' c'] w (Mv3 w (foldM old (erL ts)).take (foldM old (erL ts)).kept (idxM (foldM old (erL ts)).left old.length)) := by
  have KH := Lib.hid hh
  have KL := Lib.hid hn
  have KH' := Lib.hid hh'
  have KL' := Lib.hid hn'
  have EL : Hid ((erL ts).length = n') := Lib.hid (by rw [erL_map]; simpa using hn')
  obtain ⟨wm, hmk, ownM, grM⟩ := make_bools w w.heap.size n (Nat.le_refl _) (by omega)
  have BM : Hid (Below w.heap.size w wm) := Lib.hid ((Below.refl _ _).grown grM (Nat.le_refl _) (fun k hk => by cases hk))
  obtain ⟨g, hg⟩ : ∃ g, g = w.heap.size := ⟨_, rfl⟩
  rw [← hg] at hmk
  have OM : Hid (kBo.Own wm w.heap.size (.slice (some ⟨g, 0, none⟩) n n) (List.replicate n false)) := Lib.hid (by rw [hg]; exact ownM)
  have HG := Lib.hid hg
  clear hh hn hh' hn' ownM grM hg
  go_enter Try.func24, Try.ntmps24
  go_wp2_with fail
  -- all are left
  go_loopw [8] (fun s wr => ∃ (k : Nat), k ≤ n ∧ s = .int .i64 k ∧ Hid (kBo.Own wr w.heap.size (.slice (some ⟨g, 0, none⟩) n n) (List.replicate k true ++ List.replicate (n - k) false)) ∧ Hid (Below w.heap.size w wr)) (fun s _ => n - (intOf s).toNat)
  case atStart => exact ⟨0, by omega, rfl, Lib.hid (by simpa using OM.out), BM⟩
  case round =>
    obtain ⟨k, hk, rfl, HO, HB⟩ := hrel
    clear hmk
    by_cases hkn : k < n
    · have OB := own_bool HO.out (k := k) (by simp; omega)
      obtain ⟨c0, f0, st⟩ := OB
      have HO2 : Hid (kBo.Own (wr.setCell ⟨g, k, none⟩ (.bool true)) w.heap.size (.slice (some ⟨g, 0, none⟩) n n) (List.replicate (k + 1) true ++ List.replicate (n - (k + 1)) false)) := Lib.hid (by
        have := st true
        obtain ⟨r, hr⟩ : ∃ r, n - k = r + 1 := ⟨n - k - 1, by omega⟩
        rw [hr, List.set_append_right _ _ (by simp), List.length_replicate, Nat.sub_self, List.replicate_succ, List.set_cons_zero] at this
        rw [show n - (k + 1) = r by omega, List.replicate_succ', List.append_assoc]
        exact this)
      have HB2 : Hid (Below w.heap.size w (wr.setCell ⟨g, k, none⟩ (.bool true))) := Lib.hid (HB.out.trans ((set_but wr g k _).to_below (fun i _ hi => by have := HG.out; omega) HB.out.size))
      clear st OM BM
      go_wp2_with fail
      go_roundw
      case rel => exact ⟨k + 1, by omega, by go_num, HO2, HB2⟩
      case measure => simp [intOf]; omega
    · obtain rfl : k = n := by omega
      have HO3 : Hid (kBo.Own wr w.heap.size (.slice (some ⟨g, 0, none⟩) k k) (foldM old ((erL ts).take 0)).left) := Lib.hid (by
        have := HO.out
        simp only [Nat.sub_self, List.replicate_zero, List.append_nil] at this
        rw [List.take_zero]
        show kBo.Own wr w.heap.size _ (List.replicate old.length true)
        rw [KL.out]
        exact this)
      have ST : Hid (MRel w g k old (erL ts) (.slice none 0 0) (.slice none 0 0) (.int .i64 0) wr) := Lib.hid ⟨0, none, 0, 0, none, 0, 0, by omega, rfl, rfl, rfl, HO3, Lib.hid (Kind.Own.nil kI wr _), Lib.hid (Kind.Own.nil kI wr _), Lib.hid (fun g hg => by cases hg), HB⟩
      clear HO HO3 OM BM
      go_wp2_with fail
      go_loopw [9, 10, 11] (fun s9 s10 s11 wr => MRel w g k old (erL ts) s9 s10 s11 wr) (fun _ _ s11 _ => n' - (intOf s11).toNat)
      case atStart => exact ST.out
      case round =>
        obtain ⟨j, A1, n1, c1, A2, n2, c2, hj, rfl, rfl, rfl, HL, HTa, HKe, HAp, HB1⟩ := hrel
        clear ST HB
        rw [EL.out] at hj
        have hns := foldM_lens old ((erL ts).take j)
        have hlf := foldM_left old ((erL ts).take j)
        by_cases hjn : j < n'
        · have hjl : j < ts.length := by have := KL'.out; omega
          have hje : j < (erL ts).length := by have := EL.out; omega
          have SN := Lib.hid (foldM_snoc (old := old) hje)
          rw [erL_at hjl hje] at SN
          rw [List.length_take] at hns
          generalize foldM old ((erL ts).take j) = s at HL HTa HKe SN hns hlf
          obtain ⟨left, take, kept⟩ := s
          simp only at HL HTa HKe SN hns hlf
          have hlf2 : left.length = k := by have := KL.out; omega
          have htl : take.length ≤ 1000 := by omega
          have hkl2 : kept.length ≤ 1000000 := by
            have h1 : min j (erL ts).length * old.length ≤ 1000 * 1000 := Nat.mul_le_mul (by omega) (by have := KL.out; omega)
            omega
          have HTL := Lib.hid htl
          have HKL2 := Lib.hid hkl2
          have HLF := Lib.hid hlf2
          clear hns hlf htl hkl2 hlf2
          obtain ⟨b', o', rfl, hb', y0, y1, y2, y3, y4, y5⟩ := cell_of_q KH'.out hjl
          have GW : Hid (∀ wz, Below w.heap.size w wz → wz.cell? ⟨b', o' + j * 6, none⟩ = some (.int .i64 ts[j].kind) ∧ wz.cell? ⟨b', o' + j * 6 + 1, none⟩ = some (.string ts[j].tag) ∧ wz.cell? ⟨b', o' + j * 6 + 2, none⟩ = some (.string ts[j].key) ∧ wz.cell? ⟨b', o' + j * 6 + 3, none⟩ = some (.string ts[j].txt) ∧ wz.cell? ⟨b', o' + j * 6 + 4, none⟩ = some (.slice ts[j].sa.A ts[j].sa.n ts[j].sa.c) ∧ wz.cell? ⟨b', o' + j * 6 + 5, none⟩ = some (.slice ts[j].sk.A ts[j].sk.n ts[j].sk.c)) := Lib.hid (fun wz h => ⟨(h.cell hb').trans y0, (h.cell hb').trans y1, (h.cell hb').trans y2, (h.cell hb').trans y3, (h.cell hb').trans y4, (h.cell hb').trans y5⟩)
          clear y0 y1 y2 y3 y4 y5 hje
          have HKD : Hid ((er ts[j]).kind = ts[j].kind) := Lib.hid (by rw [er_parts]; rfl)
          generalize ts[j] = t at GW SN HKD
          clear hjl
          obtain ⟨W, rfl⟩ : ∃ W : World, W = wr := ⟨_, rfl⟩
          obtain ⟨av, hav⟩ : ∃ a, (scanM (er t) old left old.length).1 = a := ⟨_, rfl⟩
          have HAV := Lib.hid hav
          have SN2 : Hid ((t.kind = 4 → foldM old ((erL ts).take (j + 1)) = ⟨List.replicate old.length false, take ++ [av], kept ++ idxM (leftM left av) old.length⟩) ∧ (¬ t.kind = 4 → foldM old ((erL ts).take (j + 1)) = ⟨leftM left av, take ++ [av], kept⟩)) := Lib.hid (by
            rw [SN.out, stepM, HKD.out]
            simp only [hav]
            exact ⟨fun h => by rw [if_pos h], fun h => by rw [if_neg h]⟩)
          clear hav SN HKD
          have ST1 : Hid (∃ (m : Nat), m ≤ k ∧ (Value.int .i64 0) = .int .i64 (m : Int) ∧ (Value.int .i64 (-1)) = .int .i64 (scanM (er t) old left m).1 ∧ (Value.bool true) = .bool (scanM (er t) old left m).2 ∧ Hid (Below W.heap.size W W)) := Lib.hid ⟨0, by omega, rfl, rfl, rfl, Lib.hid (Below.refl _ _)⟩
          go_upto_block 4 with fail
          go_cut [12] (fun s12 wx => s12 = .int .i64 av ∧ Hid (Below W.heap.size W wx))
          case first =>
            go_wp2_with fail
            go_loopw [12, 13, 14] (fun s12 s13 s14 wr => ∃ (m : Nat), m ≤ k ∧ s14 = .int .i64 (m : Int) ∧ s12 = .int .i64 (scanM (er t) old left m).1 ∧ s13 = .bool (scanM (er t) old left m).2 ∧ Hid (Below W.heap.size W wr)) (fun _ _ s14 _ => k - (intOf s14).toNat)
            case atStart => exact ST1.out
            case round =>
              obtain ⟨m, hm, rfl, rfl, rfl, HX⟩ := hrel
              clear ST1
              have hrg := scanM_range (er t) old left m
              by_cases hmk : m < k ∧ ¬ 0 ≤ (scanM (er t) old left m).1
              · obtain ⟨hmk, hneg⟩ := hmk
                have hml : m < old.length := by have := KL.out; omega
                have hml2 : m < left.length := by have := HLF.out; omega
                have OB := own_bool (HL.out.below HX.out (Nat.le_refl _)) (k := m) hml2
                obtain ⟨c0, f0, _⟩ := OB
                have S1 : Hid (left[m] = false → scanM (er t) old left (m + 1) = scanM (er t) old left m) := Lib.hid (fun e => scanM_gone hneg (by rw [List.getElem?_eq_getElem hml2, e]))
                have S2 : Hid (left[m] = true → scanM (er t) old left (m + 1) = (if takesW (er t) old[m] (scanM (er t) old left m).2 then (m : Int) else -1, false)) := Lib.hid (fun e => scanM_left hneg (List.getElem?_eq_getElem hml) (by rw [List.getElem?_eq_getElem hml2, e]))
                have ev : (scanM (er t) old left m).1 = -1 := hrg.2.2 (by omega)
                obtain ⟨bo, oo, rfl, hbo, z0', z1'⟩ := cell_of_u KH.out hml
                have BWX : Hid (Below w.heap.size w wr) := Lib.hid (HB1.out.trans (HX.out.mono HB1.out.size))
                have z0 := (BWX.out.cell hbo).trans z0'
                have z1 := (BWX.out.cell hbo).trans z1'
                obtain ⟨y0, y1, y2, y3, y4, y5⟩ := GW.out wr BWX.out
                clear z0' z1' f0
                have HEV := Lib.hid ev
                generalize left[m] = lb at c0 S1 S2
                generalize old[m] = ob at z0 z1 S2
                generalize hfs : (scanM (er t) old left m).2 = fs at S2
                have HFS := Lib.hid hfs
                rw [ev]
                clear hneg ev hrg hml2 hfs hml
                cases lb with
                | false =>
                  have S3 := Lib.hid (S1.out rfl)
                  go_wp2_with fail
                  go_roundw
                  case rel => exact ⟨m + 1, by omega, by go_num, by rw [S3.out, HEV.out], by rw [S3.out, HFS.out], HX⟩
                  case measure => simp [intOf]; omega
                | true =>
                  have S3 := Lib.hid (S2.out rfl)
                  have CT : Hid (∀ w9, Below wr.heap.size wr w9 → Calls Try.prog 40 #[.agg #[.int .i64 t.kind, .string t.tag, .string t.key, .string t.txt, .slice t.sa.A t.sa.n t.sa.c, .slice t.sk.A t.sk.n t.sk.c], .agg #[.string ob.tag, .string ob.key], .bool fs] w9 fun e w' => e = .returned (.bool (takesW (er t) ob fs)) ∧ Below w9.heap.size w9 w') := Lib.hid (fun w9 _ => takes_any t ob fs w9)
                  generalize takesW (er t) ob fs = tb at CT S3
                  have SK0 : Hid (∀ wz, Below wr.heap.size wr wz → wz.cell? ⟨b', o' + j * 6, none⟩ = some (.int .i64 t.kind) ∧ wz.cell? ⟨b', o' + j * 6 + 1, none⟩ = some (.string t.tag) ∧ wz.cell? ⟨b', o' + j * 6 + 2, none⟩ = some (.string t.key) ∧ wz.cell? ⟨b', o' + j * 6 + 3, none⟩ = some (.string t.txt) ∧ wz.cell? ⟨b', o' + j * 6 + 4, none⟩ = some (.slice t.sa.A t.sa.n t.sa.c) ∧ wz.cell? ⟨b', o' + j * 6 + 5, none⟩ = some (.slice t.sk.A t.sk.n t.sk.c) ∧ wz.cell? ⟨bo, oo + m * 2, none⟩ = some (.string ob.tag) ∧ wz.cell? ⟨bo, oo + m * 2 + 1, none⟩ = some (.string ob.key)) := Lib.hid (fun wz h => by
                    have hz := BWX.out.trans (h.mono BWX.out.size)
                    obtain ⟨x0, x1, x2, x3, x4, x5⟩ := GW.out wz hz
                    exact ⟨x0, x1, x2, x3, x4, x5, (h.cell (show bo < wr.heap.size by have := BWX.out.size; omega)).trans z0, (h.cell (show bo < wr.heap.size by have := BWX.out.size; omega)).trans z1⟩)
                  go_upto_region 17 with fail
                  have SK := SK0.out wr (Below.refl _ _)
                  go_region_held3 (fun w' => w'.cell? ⟨b', o' + j * 6, none⟩ = some (.int .i64 t.kind) ∧ w'.cell? ⟨b', o' + j * 6 + 1, none⟩ = some (.string t.tag) ∧ w'.cell? ⟨b', o' + j * 6 + 2, none⟩ = some (.string t.key) ∧ w'.cell? ⟨b', o' + j * 6 + 3, none⟩ = some (.string t.txt) ∧ w'.cell? ⟨b', o' + j * 6 + 4, none⟩ = some (.slice t.sa.A t.sa.n t.sa.c) ∧ w'.cell? ⟨b', o' + j * 6 + 5, none⟩ = some (.slice t.sk.A t.sk.n t.sk.c) ∧ w'.cell? ⟨bo, oo + m * 2, none⟩ = some (.string ob.tag) ∧ w'.cell? ⟨bo, oo + m * 2 + 1, none⟩ = some (.string ob.key)) (first | go_keep | exact SK) ((first
                    | (go_at_call 40; refine (CT.out _ (by first | exact Below_drewN (Below.refl _ _) _ | exact (Below.refl _ _).drew | exact Below.refl _ _)).mono ?_; rintro e w10 ⟨rfl, b10⟩; have b10x : Below wr.heap.size wr w10 := (by first | exact (Below_drewN (Below.refl _ _) _).trans b10 | exact ((Below.refl _ _).drew).trans b10 | exact b10); have HX2 : Hid (Below W.heap.size W w10) := Lib.hid (HX.out.trans (b10x.mono HX.out.size)); have SK := SK0.out w10 b10x; clear b10 b10x)
                    | fail))
                  clear z0 z1 y0 y1 y2 y3 y4 y5
                  cases tb with
                  | true =>
                    go_wp2_with fail
                    go_roundw
                    case rel => exact ⟨m + 1, by omega, by go_num, by rw [S3.out]; rfl, by rw [S3.out], HX2⟩
                    case measure => simp [intOf]; omega
                  | false =>
                    go_wp2_with fail
                    go_roundw
                    case rel => exact ⟨m + 1, by omega, by go_num, by rw [S3.out]; rfl, by rw [S3.out], HX2⟩
                    case measure => simp [intOf]; omega
              · have HE : Hid ((scanM (er t) old left old.length).1 = (scanM (er t) old left m).1) := Lib.hid (by
                  by_cases h : 0 ≤ (scanM (er t) old left m).1
                  · have := scanM_stays h (old.length - m)
                    rw [show m + (old.length - m) = old.length by have := KL.out; omega] at this
                    rw [this]
                  · rw [show m = old.length by have := KL.out; omega])
                rw [HAV.out] at HE
                by_cases hmk2 : m < k
                · have h0 : 0 ≤ (scanM (er t) old left m).1 := by
                    rcases Classical.em (0 ≤ (scanM (er t) old left m).1) with h | h
                    · exact h
                    · exact absurd ⟨hmk2, h⟩ hmk
                  generalize (scanM (er t) old left m).1 = a1 at HE h0 hrg ⊢
                  go_wp2_with fail
                  go_meet
                  exact ⟨by rw [HE.out], HX⟩
                · generalize (scanM (er t) old left m).1 = a1 at HE hrg ⊢
                  go_wp2_with fail
                  go_meet
                  exact ⟨by rw [HE.out], HX⟩
          case rest =>
            obtain ⟨rfl, HX⟩ := hcut
            obtain ⟨w5, rfl⟩ : ∃ x, x = wc := ⟨_, rfl⟩
            have hr1 := (scanM_range (er t) old left old.length)
            rw [HAV.out, KL.out] at hr1
            have hr1a := hr1.1
            have hr1b := hr1.2.1
            clear hr1
            have L5 := Lib.hid (HL.out.below HX.out (Nat.le_refl _))
            have T5 := Lib.hid (HTa.out.below HX.out (Nat.le_refl _))
            have K5 := Lib.hid (HKe.out.below HX.out (Nat.le_refl _))
            have B5 := Lib.hid (HB1.out.trans (HX.out.mono HB1.out.size))
            go_upto_if 63 with fail
            go_cut [] (fun wx => Hid (kBo.Own wx w.heap.size (.slice (some ⟨g, 0, none⟩) k k) (leftM left av)) ∧ Hid (kI.Own wx w.heap.size (.slice A1 n1 c1) take) ∧ Hid (kI.Own wx w.heap.size (.slice A2 n2 c2) kept) ∧ Hid (Below w.heap.size w wx))
            case first =>
              by_cases h0 : 0 ≤ av
              · obtain ⟨a, rfl⟩ : ∃ a : Nat, av = a := ⟨av.toNat, by omega⟩
                have hal : a < left.length := by have := HLF.out; omega
                have hak : a < k := by have := HLF.out; omega
                obtain ⟨c0, f0, st⟩ := own_bool L5.out hal
                have e : leftM left (a : Int) = left.set a false := by rw [leftM, if_pos h0]; rfl
                have ST5 : Hid (kBo.Own (w5.setCell ⟨g, a, none⟩ (.bool false)) w.heap.size (.slice (some ⟨g, 0, none⟩) k k) (leftM left (a : Int))) := Lib.hid (by rw [e]; exact st false)
                have T6 := Lib.hid (own_int_bool (u := .bool false) T5.out L5.out a)
                have K6 := Lib.hid (own_int_bool (u := .bool false) K5.out L5.out a)
                have B6 : Hid (Below w.heap.size w (w5.setCell ⟨g, a, none⟩ (.bool false))) := Lib.hid (B5.out.trans ((set_but w5 g a _).to_below (fun i _ hi => by have := HG.out; omega) B5.out.size))
                generalize left[a] = lv at c0
                clear st e hal
                go_wp2_with fail
                go_meet
                exact ⟨ST5, T6, K6, B6⟩
              · have e : leftM left av = left := by rw [leftM, if_neg h0]
                go_wp2_with fail
                go_meet
                exact ⟨by rw [e]; exact L5, T5, K5, B5⟩
            case rest =>
              obtain ⟨L6, T6, K6, B6⟩ := hcut
              obtain ⟨w6, rfl⟩ : ∃ x, x = wc := ⟨_, rfl⟩
              have hb6 := B6.out.size
              clear L5 T5 K5 B5
              have LD : Hid (kI.Holds (w6.alloc (.cells #[.int .i64 av] 3)) (w6.heap.size + 1) (some ⟨w6.heap.size, 0, none⟩) [av]) := Lib.hid (Kind.Holds.lit (heap_alloc_new w6 _) rfl)
              have LL : Hid ((leftM left av).length = k) := Lib.hid (by rw [leftM_len, HLF.out])
              go_upto_region 24 with (at_builtin; refine kI.wp_app rfl _ _ rfl (v := .slice A1 n1 c1) (l := take) (m := [av]) (B := w.heap.size) rfl (T6.out.alloc _) rfl rfl (fun e => by cases e) LD.out (by have := HTL.out; simp; omega) (by simp; omega) ?_; intro v' w7 hown hgrow hat; have B7 : Hid (Below w.heap.size w w7) := Lib.hid ((B6.out.alloc hb6 _).grown hgrow (by simp; omega) (fun i hi => (T6.out.lt hi).1)); have L7 : Hid (kBo.Own w7 w.heap.size (.slice (some ⟨g, 0, none⟩) k k) (leftM left av)) := Lib.hid ((L6.out.alloc _).grown hgrow (fun i hi e => (Kind.Own.ne_ L6.out T6.out (by decide)) i hi e)); have K7 : Hid (kI.Own w7 w.heap.size (.slice A2 n2 c2) kept) := Lib.hid ((K6.out.alloc _).grown hgrow (fun i hi e => HAp.out i e hi)); have AP7 := Lib.hid (apart_grows HAp.out K6.out hat); obtain ⟨A7, n7, c7, rfl, _, _, _, _, _⟩ := hown.slice; have T7 := Lib.hid hown; clear hown hgrow hat)
              clear LD T6 L6 K6
              have hb7 := B7.out.size
              generalize leftM left av = left1 at L7 LL SN2
              by_cases h4 : t.kind = 4
              · have SN3 : Hid (foldM old ((erL ts).take (j + 1)) = ⟨List.replicate old.length false, take ++ [av], kept ++ idxM left1 old.length⟩) := Lib.hid (SN2.out.1 h4)
                have ST7 : Hid (KRel w7 w.heap.size g k left1 kept (take ++ [av]) (.slice A7 n7 c7) (.slice A2 n2 c2) (.int .i64 0) w7) := Lib.hid ⟨0, A2, n2, c2, by omega, rfl, rfl, by rw [clearM_zero]; exact L7, by simp only [idxM, List.append_nil]; exact K7, T7, AP7, Lib.hid (Below.refl _ _)⟩
                go_wp2_with fail
                go_loopw [10, 15] (fun s10 s15 wr => KRel w7 w.heap.size g k left1 kept (take ++ [av]) (.slice A7 n7 c7) s10 s15 wr) (fun _ s15 _ => k - (intOf s15).toNat)
                case atStart => exact ST7.out
                case round =>
                  obtain ⟨m, A8, n8, c8, hm, rfl, rfl, HL8, HK8, HT8, HA8, HB8⟩ := hrel
                  clear ST7
                  have BW8 : Hid (Below w.heap.size w wr) := Lib.hid (B7.out.trans (HB8.out.mono (Nat.le_refl _)))
                  obtain ⟨y0, _, _, _, _, _⟩ := GW.out wr BW8.out
                  rw [h4] at y0
                  have hb8 := BW8.out.size
                  by_cases hmk : m < k
                  · have hml : m < (clearM left1 m).length := by rw [clearM_len (by have := LL.out; omega)]; have := LL.out; omega
                    have hml2 : m < left1.length := by have := LL.out; omega
                    obtain ⟨c0, f0, st⟩ := own_bool HL8.out hml
                    have e1 : (clearM left1 m)[m] = left1[m] := by
                      have := clearM_at hml2
                      rw [List.getElem?_eq_getElem hml, List.getElem?_eq_getElem hml2] at this
                      injection this
                    rw [e1] at c0
                    have I1 : Hid (left1[m] = true → idxM left1 (m + 1) = idxM left1 m ++ [(m : Int)]) := Lib.hid (fun e => idxM_yes (by rw [List.getElem?_eq_getElem hml2, e]))
                    have I2 : Hid (left1[m] = false → idxM left1 (m + 1) = idxM left1 m ∧ clearM left1 m = clearM left1 (m + 1)) := Lib.hid (fun e => ⟨idxM_no (by rw [List.getElem?_eq_getElem hml2, e]), clearM_no hml2 (by rw [List.getElem?_eq_getElem hml2, e])⟩)
                    have I3 := Lib.hid (clearM_yes hml2)
                    have STF := Lib.hid (st false)
                    rw [I3.out] at STF
                    have hil := idxM_len left1 m
                    clear st e1
                    generalize left1[m] = lb at c0 I1 I2
                    clear hml hml2
                    cases lb with
                    | false =>
                      obtain ⟨i1, i2⟩ := I2.out rfl
                      have I4 := Lib.hid i1
                      have I5 := Lib.hid i2
                      clear i1 i2 STF f0
                      go_wp2_with fail
                      go_roundw
                      case rel => exact ⟨m + 1, A8, n8, c8, by omega, by go_num, rfl, by rw [← I5.out]; exact HL8, by rw [I4.out]; exact HK8, HT8, HA8, HB8⟩
                      case measure => simp [intOf]; omega
                    | true =>
                      have I4 := Lib.hid (I1.out rfl)
                      have LD8 : Hid (kI.Holds (wr.alloc (.cells #[.int .i64 (m : Int)] 3)) (wr.heap.size + 1) (some ⟨wr.heap.size, 0, none⟩) [(m : Int)]) := Lib.hid (Kind.Holds.lit (heap_alloc_new wr _) rfl)
                      clear STF f0
                      go_upto_region 28 with (at_builtin; refine kI.wp_app rfl _ _ rfl (v := .slice A8 n8 c8) (l := kept ++ idxM left1 m) (m := [(m : Int)]) (B := w.heap.size) rfl (HK8.out.alloc _) rfl rfl (fun e => by cases e) LD8.out (by have := HKL2.out; simp; omega) (by simp; omega) ?_; intro v' w9 hown hgrow hat; have B9 : Hid (Below w.heap.size w7 w9) := Lib.hid ((HB8.out.alloc hb8 _).grown hgrow (by simp; omega) (fun i hi => (HK8.out.lt hi).1)); have L9 : Hid (kBo.Own w9 w.heap.size (.slice (some ⟨g, 0, none⟩) k k) (clearM left1 m)) := Lib.hid ((HL8.out.alloc _).grown hgrow (fun i hi e => (Kind.Own.ne_ HL8.out HK8.out (by decide)) i hi e)); have T9 : Hid (kI.Own w9 w.heap.size (.slice A7 n7 c7) (take ++ [av])) := Lib.hid ((HT8.out.alloc _).grown hgrow (fun i hi e => HA8.out i hi e)); have AP9 := Lib.hid (apart_grows (Apart.symm HA8.out) HT8.out hat); obtain ⟨A9, n9, c9, rfl, _, _, _, _, _⟩ := hown.slice; have K9 := Lib.hid hown; clear hown hgrow hat)
                      clear LD8 c0
                      obtain ⟨c0, f0, st⟩ := own_bool L9.out (k := m) (by rw [clearM_len (by have := LL.out; omega)]; have := LL.out; omega)
                      have STF := Lib.hid (st false)
                      rw [I3.out] at STF
                      have T10 := Lib.hid (own_int_bool (u := .bool false) T9.out L9.out m)
                      have K10 := Lib.hid (own_int_bool (u := .bool false) K9.out L9.out m)
                      have B10 : Hid (Below w.heap.size w7 (w9.setCell ⟨g, m, none⟩ (.bool false))) := Lib.hid (B9.out.trans ((set_but w9 g m _).to_below (fun i _ hi => by have := HG.out; omega) (by have := B9.out.size; omega)))
                      have AP10 := Lib.hid (Apart.symm AP9.out)
                      clear st
                      go_wp2_with fail
                      go_roundw
                      case rel => exact ⟨m + 1, A9, n9, c9, by omega, by go_num, rfl, STF, by rw [I4.out, ← List.append_assoc]; exact K10, T10, AP10, B10⟩
                      case measure => simp [intOf]; omega
                  · obtain rfl : m = k := by omega
                    have REL : Hid (MRel w g m old (erL ts) (.slice A7 n7 c7) (.slice A8 n8 c8) (.int .i64 ((j + 1 : Nat) : Int)) wr) := Lib.hid ⟨j + 1, A7, n7, c7, A8, n8, c8, by rw [EL.out]; omega, rfl, rfl, rfl, by
                      rw [SN3.out]
                      have := HL8.out
                      rw [← LL.out, clearM_all] at this
                      simp only
                      rw [KL.out, ← LL.out]
                      exact Lib.hid this, by rw [SN3.out]; exact HT8, by
                      rw [SN3.out]
                      simp only
                      rw [KL.out]
                      exact HK8, HA8, BW8⟩
                    go_wp2_with fail
                    go_roundw
                    case rel => exact REL.out
                    case measure => simp [intOf]; omega
              · have SN3 : Hid (foldM old ((erL ts).take (j + 1)) = ⟨left1, take ++ [av], kept⟩) := Lib.hid (SN2.out.2 h4)
                have q4 := int_ne h4
                go_wp2_with fail
                go_loopw [10, 15] (fun s10 s15 wr => s10 = .slice A2 n2 c2 ∧ s15 = .int .i64 0 ∧ Hid (wr = w7)) (fun _ _ _ => 0)
                case atStart => exact ⟨rfl, rfl, Lib.hid rfl⟩
                case round =>
                  obtain ⟨rfl, rfl, HE⟩ := hrel
                  obtain rfl := HE.out
                  obtain ⟨y0, _, _, _, _, _⟩ := GW.out wr B7.out
                  have REL : Hid (MRel w g k old (erL ts) (.slice A7 n7 c7) (.slice A2 n2 c2) (.int .i64 ((j + 1 : Nat) : Int)) wr) := Lib.hid ⟨j + 1, A7, n7, c7, A2, n2, c2, by rw [EL.out]; omega, rfl, rfl, rfl, by rw [SN3.out]; exact L7, by rw [SN3.out]; exact T7, by rw [SN3.out]; exact K7, AP7, B7⟩
                  by_cases hk0 : 0 < k
                  · go_wp2_with fail
                    go_roundw
                    case rel => exact REL.out
                    case measure => simp [intOf]; omega
                  · go_wp2_with fail
                    go_roundw
                    case rel => exact REL.out
                    case measure => simp [intOf]; omega
        · obtain rfl : j = n' := by omega
          have FJ : Hid ((erL ts).take j = erL ts) := Lib.hid (List.take_of_length_le (by have := EL.out; omega))
          rw [FJ.out] at HL HTa HKe hlf
          have hlf2 : (foldM old (erL ts)).left.length = k := by rw [hlf, KL.out]
          have HLF := Lib.hid hlf2
          clear hns hlf hlf2 FJ
          obtain ⟨s, hs⟩ : ∃ s, foldM old (erL ts) = s := ⟨_, rfl⟩
          rw [hs] at HL HTa HKe HLF
          have HS := Lib.hid hs
          clear hs
          obtain ⟨left, take, kept⟩ := s
          simp only at HL HTa HKe HLF
          obtain ⟨W, rfl⟩ : ∃ W : World, W = wr := ⟨_, rfl⟩
          have hbW := HB1.out.size
          have STG : Hid (∃ (m : Nat) (A3 : Option Addr) (n3 c3 : Nat), m ≤ k ∧ (Value.int .i64 0) = .int .i64 (m : Int) ∧ (Value.slice none 0 0) = .slice A3 n3 c3 ∧ Hid (kI.Own W W.heap.size (.slice A3 n3 c3) (idxM left m)) ∧ Hid (Below W.heap.size W W)) := Lib.hid ⟨0, none, 0, 0, by omega, rfl, rfl, Lib.hid (Kind.Own.nil kI W _), Lib.hid (Below.refl _ _)⟩
          go_wp2_with fail
          go_loopw [16, 17] (fun s16 s17 wr => ∃ (m : Nat) (A3 : Option Addr) (n3 c3 : Nat), m ≤ k ∧ s17 = .int .i64 (m : Int) ∧ s16 = .slice A3 n3 c3 ∧ Hid (kI.Own wr W.heap.size (.slice A3 n3 c3) (idxM left m)) ∧ Hid (Below W.heap.size W wr)) (fun _ s17 _ => k - (intOf s17).toNat)
          case atStart => exact STG.out
          case round =>
            obtain ⟨m, A3, n3, c3, hm, rfl, rfl, HO3, HX⟩ := hrel
            clear STG
            have hbx := HX.out.size
            by_cases hmk : m < k
            · have hml : m < left.length := by have := HLF.out; omega
              obtain ⟨c0, _, _⟩ := own_bool (HL.out.below HX.out (Nat.le_refl _)) hml
              have I1 : Hid (left[m] = true → idxM left (m + 1) = idxM left m ++ [(m : Int)]) := Lib.hid (fun e => idxM_yes (by rw [List.getElem?_eq_getElem hml, e]))
              have I2 : Hid (left[m] = false → idxM left (m + 1) = idxM left m) := Lib.hid (fun e => idxM_no (by rw [List.getElem?_eq_getElem hml, e]))
              have hil := idxM_len left m
              generalize left[m] = lb at c0 I1 I2
              clear hml
              cases lb with
              | false =>
                have I4 := Lib.hid (I2.out rfl)
                go_wp2_with fail
                go_roundw
                case rel => exact ⟨m + 1, A3, n3, c3, by omega, by go_num, rfl, by rw [I4.out]; exact HO3, HX⟩
                case measure => simp [intOf]; omega
              | true =>
                have I4 := Lib.hid (I1.out rfl)
                have LD8 : Hid (kI.Holds (wr.alloc (.cells #[.int .i64 (m : Int)] 3)) (wr.heap.size + 1) (some ⟨wr.heap.size, 0, none⟩) [(m : Int)]) := Lib.hid (Kind.Holds.lit (heap_alloc_new wr _) rfl)
                go_wp2_with (at_builtin; refine kI.wp_app rfl _ _ rfl (v := .slice A3 n3 c3) (l := idxM left m) (m := [(m : Int)]) (B := W.heap.size) rfl (HO3.out.alloc _) rfl rfl (fun e => by cases e) LD8.out (by simp; omega) (by simp; omega) ?_; intro v' w9 hown hgrow hat; have B9 : Hid (Below W.heap.size W w9) := Lib.hid ((HX.out.alloc hbx _).grown hgrow (by simp; omega) (fun i hi => (HO3.out.lt hi).1)); obtain ⟨A9, n9, c9, rfl, _, _, _, _, _⟩ := hown.slice; have K9 := Lib.hid hown; clear hown hgrow hat)
                go_roundw
                case rel => exact ⟨m + 1, A9, n9, c9, by omega, by go_num, rfl, by rw [I4.out]; exact K9, B9⟩
                case measure => simp [intOf]; omega
            · obtain rfl : m = k := by omega
              go_wp2_with fail
              go_ret3
              rw [HS.out]
              exact ⟨A1, n1, c1, A2, n2, c2, A3, n3, c3, rfl, HTa.out.below HX.out (Nat.le_refl _), HKe.out.below HX.out (Nat.le_refl _), by rw [KL.out]; exact HO3.out.base_le hbW, HB1.out.trans (HX.out.mono hbW)⟩
end Go.Proofs.Ythdgaoifbejpjaa.P16
