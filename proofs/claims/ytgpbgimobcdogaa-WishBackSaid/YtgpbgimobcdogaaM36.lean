/- What the program's wish.Same answers. No condition but those stated. -/
import Derived.Test.YtgpbgimobcdogaaM25
import Derived.Test.YtgpbgimobcdogaaM31
import Derived.Test.YtgpbgimobcdogaaM35
set_option linter.unusedVariables false
set_option linter.unusedSimpArgs false
set_option linter.unusedVariables false
set_option linter.unusedSimpArgs false
namespace Go.Proofs.Ytgpbgimobcdogaa.P14
open Go.RowKit Kd P4 P5 P11 P12 P13

def SameP (ts : List WV) : Prop := ∀ (us : List WV) (w : World) (A : Option Addr) (n c : Nat) (A' : Option Addr) (n' c' : Nat), kW.Holds w w.heap.size A ts → ts.length = n → (∀ t ∈ ts, WOk kW w w.heap.size t) → wtL (erL ts) ≤ 1000 →
  kW.Holds w w.heap.size A' us → us.length = n' → (∀ t ∈ us, WOk kW w w.heap.size t) → wtL (erL us) ≤ 1000 →
  Calls Try.prog 15 #[.slice A n c, .slice A' n' c'] w fun e w' => e = .returned (.bool (alL (erL ts) (erL us))) ∧ Below w.heap.size w w'
set_option maxRecDepth 100000 in
set_option maxHeartbeats 16000000 in
theorem same_one (d d' : WV) (IH : SameP d.kids) (w : World) (h : WOk kW w w.heap.size d) (h' : WOk kW w w.heap.size d') (hw : wtW (er d) ≤ 1000) (hw' : wtW (er d') ≤ 1000) :
    Calls Try.prog 26 #[.agg #[.int .i64 d.kind, .string d.tag, .string d.key, .string d.txt, .slice d.sa.A d.sa.n d.sa.c, .slice d.sk.A d.sk.n d.sk.c], .agg #[.int .i64 d'.kind, .string d'.tag, .string d'.key, .string d'.txt, .slice d'.sa.A d'.sa.n d'.sa.c, .slice d'.sk.A d'.sk.n d'.sk.c]] w fun e w' => e = .returned (.bool (alW (er d) (er d'))) ∧ Below w.heap.size w w' := by
  have B1 : Hid (Below w.heap.size w ((w.alloc (.cells #[.int .i64 d.kind, .string d.tag, .string d.key, .string d.txt, .slice d.sa.A d.sa.n d.sa.c, .slice d.sk.A d.sk.n d.sk.c] 46)).alloc (.cells #[.int .i64 d'.kind, .string d'.tag, .string d'.key, .string d'.txt, .slice d'.sa.A d'.sa.n d'.sa.c, .slice d'.sk.A d'.sk.n d'.sk.c] 46))) := Lib.hid (((Below.refl _ _).alloc (Nat.le_refl _) _).alloc (by simp) _)
  have N1 : Hid (WB ((w.alloc (.cells #[.int .i64 d.kind, .string d.tag, .string d.key, .string d.txt, .slice d.sa.A d.sa.n d.sa.c, .slice d.sk.A d.sk.n d.sk.c] 46)).alloc (.cells #[.int .i64 d'.kind, .string d'.tag, .string d'.key, .string d'.txt, .slice d'.sa.A d'.sa.n d'.sa.c, .slice d'.sk.A d'.sk.n d'.sk.c] 46)) w.heap.size d) := Lib.hid (heap_up (WB.new w d))
  have M1 : Hid (WB ((w.alloc (.cells #[.int .i64 d.kind, .string d.tag, .string d.key, .string d.txt, .slice d.sa.A d.sa.n d.sa.c, .slice d.sk.A d.sk.n d.sk.c] 46)).alloc (.cells #[.int .i64 d'.kind, .string d'.tag, .string d'.key, .string d'.txt, .slice d'.sa.A d'.sa.n d'.sa.c, .slice d'.sk.A d'.sk.n d'.sk.c] 46)) (w.heap.size + 1) d') := Lib.hid (heap_top (by simp))
  have ww : d.attrs.length + wtL (erL d.kids) ≤ 999 := by rw [er_parts, wtW] at hw; omega
  have ww' : d'.attrs.length + wtL (erL d'.kids) ≤ 999 := by rw [er_parts, wtW] at hw'; omega
  have CA : Hid (∀ w9, Below w.heap.size w w9 → Calls Try.prog 36 #[.slice d.sa.A d.sa.n d.sa.c, .slice d'.sa.A d'.sa.n d'.sa.c] w9 fun e w' => e = .returned (.bool (P3.sameA d.attrs d'.attrs)) ∧ Below w9.heap.size w9 w') := Lib.hid (fun w9 h9 => by
    have h1 := h.on h9
    have h2 := h'.on h9
    exact P3.equal_any _ _ _ _ _ _ _ _ w9 h1.al h2.al (by have := h1.al; omega) (by have := h2.al; omega) (p3holds h1.ah) (p3holds h2.ah))
  have CK : Hid (∀ w9, Below w.heap.size w w9 → Calls Try.prog 15 #[.slice d.sk.A d.sk.n d.sk.c, .slice d'.sk.A d'.sk.n d'.sk.c] w9 fun e w' => e = .returned (.bool (alL (erL d.kids) (erL d'.kids))) ∧ Below w9.heap.size w9 w') := Lib.hid (fun w9 h9 => by
    have h1 := h.on h9
    have h2 := h'.on h9
    exact IH _ w9 _ _ _ _ _ _ h1.kh h1.kl h1.ks (by omega) h2.kh h2.kl h2.ks (by omega))
  have HX : Hid (alW (er d) (er d') = (P3.sameA d.attrs d'.attrs && alL (erL d.kids) (erL d'.kids) && (d.kind == d'.kind) && bq d.tag d'.tag && bq d.key d'.key && bq d.txt d'.txt)) := Lib.hid (al_parts d d')
  obtain ⟨sb, hsb⟩ : ∃ x, P3.sameA d.attrs d'.attrs = x := ⟨_, rfl⟩
  obtain ⟨kb, hkb⟩ : ∃ x, alL (erL d.kids) (erL d'.kids) = x := ⟨_, rfl⟩
  obtain ⟨b1, hb1⟩ : ∃ x, (d.kind == d'.kind) = x := ⟨_, rfl⟩
  obtain ⟨b2, hb2⟩ : ∃ x, (d.tag.toList == d'.tag.toList) = x := ⟨_, rfl⟩
  obtain ⟨b3, hb3⟩ : ∃ x, (d.key.toList == d'.key.toList) = x := ⟨_, rfl⟩
  obtain ⟨b4, hb4⟩ : ∃ x, (d.txt.toList == d'.txt.toList) = x := ⟨_, rfl⟩
  unfold bq at HX
  rw [hsb] at CA HX
  rw [hkb] at CK HX
  rw [hb1, hb2, hb3, hb4] at HX
  clear hsb hkb h h' hw hw' ww ww' IH
  generalize alW (er d) (er d') = rx at HX ⊢
  go_enter Try.func26, Try.ntmps26
  go_upto_region 1 with fail
  generalize (w.alloc (.cells #[.int .i64 d.kind, .string d.tag, .string d.key, .string d.txt, .slice d.sa.A d.sa.n d.sa.c, .slice d.sk.A d.sk.n d.sk.c] 46)).alloc (.cells #[.int .i64 d'.kind, .string d'.tag, .string d'.key, .string d'.txt, .slice d'.sa.A d'.sa.n d'.sa.c, .slice d'.sk.A d'.sk.n d'.sk.c] 46) = W at B1 N1 M1 ⊢
  generalize w.heap.size + 1 = g1 at M1 ⊢
  have a0 := N1.out.c0; have a1 := N1.out.c1; have a2 := N1.out.c2; have a3 := N1.out.c3; have a4 := N1.out.c4; have a5 := N1.out.c5
  have d0 := M1.out.c0; have d1 := M1.out.c1; have d2 := M1.out.c2; have d3 := M1.out.c3; have d4 := M1.out.c4; have d5 := M1.out.c5
  have bad : Hid ((b1 && b2 && b3 && b4) = false → rx = false) := Lib.hid (fun e => by rw [HX.out]; revert e; cases b1 <;> cases b2 <;> cases b3 <;> cases b4 <;> simp)
  cases b1 with
  | false =>
    go_wp2_with fail
    go_ret
    exact ⟨by rw [bad.out rfl]; rfl, B1.out⟩
  | true =>
  cases b2 with
  | false =>
    go_wp2_with fail
    go_ret
    exact ⟨by rw [bad.out rfl]; rfl, B1.out⟩
  | true =>
  cases b3 with
  | false =>
    go_wp2_with fail
    go_ret
    exact ⟨by rw [bad.out rfl]; rfl, B1.out⟩
  | true =>
  cases b4 with
  | false =>
    go_wp2_with fail
    go_ret
    exact ⟨by rw [bad.out rfl]; rfl, B1.out⟩
  | true =>
  have HX2 : Hid (rx = (sb && kb)) := Lib.hid (by rw [HX.out]; cases sb <;> cases kb <;> rfl)
  clear HX bad
  go_wp2_with fail
  refine (CA.out W B1.out).mono ?_
  rintro e w2 ⟨rfl, bb⟩
  have B2 := Lib.hid (B1.out.trans (bb.mono B1.out.size))
  have N2 := Lib.hid (N1.out.below bb N1.out.lt)
  have M2 := Lib.hid (M1.out.below bb M1.out.lt)
  clear bb a0 a1 a2 a3 a4 a5 d0 d1 d2 d3 d4 d5
  have a5 := N2.out.c5
  have d5 := M2.out.c5
  cases sb with
  | false =>
    go_wp2_with fail
    go_ret
    exact ⟨by rw [HX2.out]; rfl, B2.out⟩
  | true =>
    go_wp2_with fail
    refine (CK.out w2 B2.out).mono ?_
    rintro e w3 ⟨rfl, bb⟩
    have B3 := Lib.hid (B2.out.trans (bb.mono B2.out.size))
    clear bb a5 d5
    go_wp2_with fail
    go_ret
    exact ⟨by rw [HX2.out]; cases kb <;> rfl, B3.out⟩
set_option maxRecDepth 100000 in
set_option maxHeartbeats 16000000 in
theorem same_of (ts : List WV) (IH : ∀ t ∈ ts, SameP t.kids) : SameP ts := by
  intro us w A n c A' n' c' hh hn hok hw hh' hn' hok' hw'
  have HEQ : Hid (Calls Try.prog 25 #[.slice A n c, .slice A' n' c', .func (.func 26) #[] #[]] w fun e w' => e = .returned (.bool (alL (erL ts) (erL us))) ∧ Below w.heap.size w w') := Lib.hid (by
    have KH := Lib.hid hh
    have KL := Lib.hid hn
    have KS := Lib.hid hok
    have KH' := Lib.hid hh'
    have KL' := Lib.hid hn'
    have KS' := Lib.hid hok'
    have HI : Hid (∀ t ∈ ts, SameP t.kids) := Lib.hid IH
    have EL : Hid ((erL ts).length = n) := Lib.hid (by rw [erL_map]; simpa using hn)
    have EL' : Hid ((erL us).length = n') := Lib.hid (by rw [erL_map]; simpa using hn')
    have HW := Lib.hid hw
    have HW' := Lib.hid hw'
    have hn1 : n ≤ 1000 := by have := wtL_len (erL ts); have := EL.out; omega
    have hn2 : n' ≤ 1000 := by have := wtL_len (erL us); have := EL'.out; omega
    clear hh hn hok hw hh' hn' hok' hw' IH
    by_cases hnn : n = n'
    · subst hnn
      go_enter Try.func25, Try.ntmps25
      go_wp2_with fail
      go_loopw [17] (fun s wr => ∃ (k : Nat), k ≤ n ∧ s = .int .i64 k ∧ Hid (PreW (erL ts) (erL us) k) ∧ Hid (Below w.heap.size w wr)) (fun s _ => n - (intOf s).toNat)
      case atStart => exact ⟨0, by omega, rfl, Lib.hid (fun j _ _ h => by omega), Lib.hid (Below.refl _ _)⟩
      case round =>
        obtain ⟨k, hk, rfl, HP, HB⟩ := hrel
        by_cases hkn : k < n
        · have hkl : k < ts.length := by have := KL.out; omega
          have hkl' : k < us.length := by have := KL'.out; omega
          have hke : k < (erL ts).length := by have := EL.out; omega
          have hke' : k < (erL us).length := by have := EL'.out; omega
          obtain ⟨b, o, rfl, hb, g0, g1, g2, g3, g4, g5⟩ := cell_of_w (KH.out.on HB.out) hkl
          have CB : Hid (∀ wz, Below wr.heap.size wr wz → ∃ b' o', A' = some ⟨b', o', none⟩ ∧ wz.cell? ⟨b', o' + k * 6, none⟩ = some (.int .i64 us[k].kind) ∧ wz.cell? ⟨b', o' + k * 6 + 1, none⟩ = some (.string us[k].tag) ∧ wz.cell? ⟨b', o' + k * 6 + 2, none⟩ = some (.string us[k].key) ∧ wz.cell? ⟨b', o' + k * 6 + 3, none⟩ = some (.string us[k].txt) ∧
              wz.cell? ⟨b', o' + k * 6 + 4, none⟩ = some (.slice us[k].sa.A us[k].sa.n us[k].sa.c) ∧ wz.cell? ⟨b', o' + k * 6 + 5, none⟩ = some (.slice us[k].sk.A us[k].sk.n us[k].sk.c)) := Lib.hid (fun wz hz => by
            obtain ⟨b', o', e1, _, e2, e3, e4, e5, e6, e7⟩ := cell_of_w (KH'.out.on (HB.out.trans (hz.mono HB.out.size))) hkl'
            exact ⟨b', o', e1, e2, e3, e4, e5, e6, e7⟩)
          have hwk : wtW (er ts[k]) ≤ 1000 := by have := wtL_mem (List.getElem_mem hke); rw [erL_at hkl hke] at this; have := HW.out; omega
          have hwk' : wtW (er us[k]) ≤ 1000 := by have := wtL_mem (List.getElem_mem hke'); rw [erL_at hkl' hke'] at this; have := HW'.out; omega
          have CK : Hid (∀ wz, Below wr.heap.size wr wz → Calls Try.prog 26 #[.agg #[.int .i64 ts[k].kind, .string ts[k].tag, .string ts[k].key, .string ts[k].txt, .slice ts[k].sa.A ts[k].sa.n ts[k].sa.c, .slice ts[k].sk.A ts[k].sk.n ts[k].sk.c], .agg #[.int .i64 us[k].kind, .string us[k].tag, .string us[k].key, .string us[k].txt, .slice us[k].sa.A us[k].sa.n us[k].sa.c, .slice us[k].sk.A us[k].sk.n us[k].sk.c]] wz fun e w' => e = .returned (.bool (alW (er ts[k]) (er us[k]))) ∧ Below wz.heap.size wz w') := Lib.hid (fun wz hz =>
            same_one ts[k] us[k] (HI.out _ (List.getElem_mem hkl)) wz ((KS.out _ (List.getElem_mem hkl)).on (HB.out.trans (hz.mono HB.out.size))) ((KS'.out _ (List.getElem_mem hkl')).on (HB.out.trans (hz.mono HB.out.size))) hwk hwk')
          obtain ⟨mk, hmk⟩ : ∃ mk, alW (er ts[k]) (er us[k]) = mk := ⟨_, rfl⟩
          rw [hmk] at CK
          have HMK : Hid (alW (erL ts)[k] (erL us)[k] = mk) := Lib.hid (by rw [erL_at hkl hke, erL_at hkl' hke']; exact hmk)
          have HKE := Lib.hid (And.intro hke hke')
          clear hmk hwk hwk'
          generalize ts[k] = d at g0 g1 g2 g3 g4 g5 CK
          generalize us[k] = d' at CB CK
          go_upto_region 6 with fail
          have NA : Hid (WB (wr.alloc (.cells #[.int .i64 d.kind, .string d.tag, .string d.key, .string d.txt, .slice d.sa.A d.sa.n d.sa.c, .slice d.sk.A d.sk.n d.sk.c] 46)) wr.heap.size d) := Lib.hid (WB.new wr d)
          have BA : Hid (Below wr.heap.size wr (wr.alloc (.cells #[.int .i64 d.kind, .string d.tag, .string d.key, .string d.txt, .slice d.sa.A d.sa.n d.sa.c, .slice d.sk.A d.sk.n d.sk.c] 46))) := Lib.hid ((Below.refl _ _).alloc (Nat.le_refl _) _)
          generalize wr.alloc (.cells #[.int .i64 d.kind, .string d.tag, .string d.key, .string d.txt, .slice d.sa.A d.sa.n d.sa.c, .slice d.sk.A d.sk.n d.sk.c] 46) = wa at NA BA ⊢
          clear g0 g1 g2 g3 g4 g5
          obtain ⟨b', o', rfl, g0, g1, g2, g3, g4, g5⟩ := CB.out wa BA.out
          go_upto_region 7 with fail
          have NB : Hid (WB (wa.alloc (.cells #[.int .i64 d'.kind, .string d'.tag, .string d'.key, .string d'.txt, .slice d'.sa.A d'.sa.n d'.sa.c, .slice d'.sk.A d'.sk.n d'.sk.c] 46)) wa.heap.size d') := Lib.hid (WB.new wa d')
          have BB : Hid (Below wa.heap.size wa (wa.alloc (.cells #[.int .i64 d'.kind, .string d'.tag, .string d'.key, .string d'.txt, .slice d'.sa.A d'.sa.n d'.sa.c, .slice d'.sk.A d'.sk.n d'.sk.c] 46))) := Lib.hid ((Below.refl _ _).alloc (Nat.le_refl _) _)
          generalize wa.alloc (.cells #[.int .i64 d'.kind, .string d'.tag, .string d'.key, .string d'.txt, .slice d'.sa.A d'.sa.n d'.sa.c, .slice d'.sk.A d'.sk.n d'.sk.c] 46) = wb at NB BB ⊢
          have NA2 := Lib.hid (NA.out.below BB.out NA.out.lt)
          have BW := Lib.hid (BA.out.trans (BB.out.mono BA.out.size))
          clear g0 g1 g2 g3 g4 g5 CB NA
          have a0 := NA2.out.c0; have a1 := NA2.out.c1; have a2 := NA2.out.c2; have a3 := NA2.out.c3; have a4 := NA2.out.c4; have a5 := NA2.out.c5
          have b0 := NB.out.c0; have b1 := NB.out.c1; have b2 := NB.out.c2; have b3 := NB.out.c3; have b4 := NB.out.c4; have b5 := NB.out.c5
          go_wp2_with fail
          refine (CK.out wb BW.out).mono ?_
          rintro e w5 ⟨rfl, bb⟩
          have B5 := Lib.hid (HB.out.trans ((BW.out.trans (bb.mono BW.out.size)).mono HB.out.size))
          clear bb
          cases mk with
          | false =>
            go_wp2_with fail
            go_ret
            exact ⟨by rw [alL_bad HKE.out.1 HKE.out.2 HMK.out]; rfl, B5.out⟩
          | true =>
            go_wp2_with fail
            go_roundw
            case rel =>
              refine ⟨k + 1, by omega, by go_num, Lib.hid (fun j h1 h2 hj => ?_), B5⟩
              rcases Nat.lt_or_ge j k with e | e
              · exact HP.out j h1 h2 e
              · obtain rfl : j = k := by omega
                exact HMK.out
            case measure => simp [intOf]; omega
        · obtain rfl : k = n := by omega
          go_wp2_with fail
          go_ret
          refine ⟨?_, HB.out⟩
          rw [alL_all (by have := EL.out; have := EL'.out; omega) (fun j h1 h2 => HP.out j h1 h2 (by have := EL.out; omega))]
          rfl
    · have qn : ((n : Int) != (n' : Int)) = true := by simp; omega
      go_enter Try.func25, Try.ntmps25
      go_wp2_with fail
      go_ret
      exact ⟨by rw [alL_len (by have := EL.out; have := EL'.out; omega)]; rfl, Below.refl _ _⟩)
  clear hh hn hok hw hh' hn' hok' hw' IH
  go_enter Try.func15, Try.ntmps15
  go_wp2_with fail
  refine HEQ.out.mono ?_
  rintro e w' ⟨rfl, b⟩
  go_wp2_with fail
  go_ret
  exact ⟨rfl, b⟩
theorem same_kids : ∀ t : WV, SameP t.kids := by
  intro t
  induction t using WV.ind with
  | h kind tag key txt sa attrs sk kids ih => exact same_of kids ih
theorem same_all (ts : List WV) : SameP ts := same_of ts (fun t _ => same_kids t)
end Go.Proofs.Ytgpbgimobcdogaa.P14
