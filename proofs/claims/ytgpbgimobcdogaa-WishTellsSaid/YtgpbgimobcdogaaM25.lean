/- What placketref11.Alike answers. No condition but those stated. -/
import Derived.Deep.DeepCutAuto
import Derived.Test.YtgpbgimobcdogaaM24
set_option linter.unusedVariables false
set_option linter.unusedSimpArgs false
set_option linter.unusedVariables false
set_option linter.unusedSimpArgs false
namespace Go.Proofs.Ytgpbgimobcdogaa.P14
open Go.RowKit Kd P4 P5 P11 P12 P13

def AlkC (ts : List WV) : Prop := ∀ (us : List WV) (w : World) (A : Option Addr) (n c : Nat) (A' : Option Addr) (n' c' : Nat), kQ.Holds w w.heap.size A ts → ts.length = n → (∀ t ∈ ts, WOk kQ w w.heap.size t) → wtL (erL ts) ≤ 100000 →
  kQ.Holds w w.heap.size A' us → us.length = n' → (∀ t ∈ us, WOk kQ w w.heap.size t) → wtL (erL us) ≤ 100000 →
  Calls Try.prog 11 #[.slice A n c, .slice A' n' c'] w fun e w' => e = .returned (.bool (alL (erL ts) (erL us))) ∧ Below w.heap.size w w'
def PreW (l m : List PW) (k : Nat) : Prop := ∀ j (h : j < l.length) (h' : j < m.length), j < k → alW l[j] m[j] = true
theorem al_parts (t u : WV) : alW (er t) (er u) = (P3.sameA t.attrs u.attrs && alL (erL t.kids) (erL u.kids) && (t.kind == u.kind) && bq t.tag u.tag && bq t.key u.key && bq t.txt u.txt) := by rw [er_parts, er_parts, alW]
set_option maxRecDepth 100000 in
set_option maxHeartbeats 16000000 in
theorem ralike_of (ts : List WV) (IH : ∀ t ∈ ts, AlkC t.kids) : AlkC ts := by
  intro us w A n c A' n' c' hh hn hok hw hh' hn' hok' hw'
  have KH := Lib.hid hh
  have KL := Lib.hid hn
  have KS := Lib.hid hok
  have KH' := Lib.hid hh'
  have KL' := Lib.hid hn'
  have KS' := Lib.hid hok'
  have HI : Hid (∀ t ∈ ts, AlkC t.kids) := Lib.hid IH
  have EL : Hid ((erL ts).length = n) := Lib.hid (by rw [erL_map]; simpa using hn)
  have EL' : Hid ((erL us).length = n') := Lib.hid (by rw [erL_map]; simpa using hn')
  have HW := Lib.hid hw
  have HW' := Lib.hid hw'
  have hn1 : n ≤ 100000 := by have := wtL_len (erL ts); have := EL.out; omega
  have hn2 : n' ≤ 100000 := by have := wtL_len (erL us); have := EL'.out; omega
  clear hh hn hok hw hh' hn' hok' hw' IH
  go_enter Try.func11, Try.ntmps11
  by_cases hnn : n = n'
  · subst hnn
    go_wp2_with fail
    go_loopw [5] (fun s wr => ∃ (k : Nat), k ≤ n ∧ s = .int .i64 k ∧ Hid (PreW (erL ts) (erL us) k) ∧ Hid (Below w.heap.size w wr)) (fun s _ => n - (intOf s).toNat)
    case atStart => exact ⟨0, by omega, rfl, Lib.hid (fun j _ _ h => by omega), Lib.hid (Below.refl _ _)⟩
    case round =>
      obtain ⟨k, hk, rfl, HP, HB⟩ := hrel
      by_cases hkn : k < n
      · have hkl : k < ts.length := by have := KL.out; omega
        have hkl' : k < us.length := by have := KL'.out; omega
        have hke : k < (erL ts).length := by have := EL.out; omega
        have hke' : k < (erL us).length := by have := EL'.out; omega
        obtain ⟨b, o, rfl, hb, g0, g1, g2, g3, g4, g5⟩ := cell_of_q KH.out hkl
        obtain ⟨b', o', rfl, hb', j0, j1, j2, j3, j4, j5⟩ := cell_of_q KH'.out hkl'
        have SK0 : Hid (∀ wz, Below w.heap.size w wz → wz.cell? ⟨b, o + k * 6, none⟩ = some (.int .i64 ts[k].kind) ∧ wz.cell? ⟨b, o + k * 6 + 1, none⟩ = some (.string ts[k].tag) ∧ wz.cell? ⟨b, o + k * 6 + 2, none⟩ = some (.string ts[k].key) ∧ wz.cell? ⟨b, o + k * 6 + 3, none⟩ = some (.string ts[k].txt) ∧ wz.cell? ⟨b, o + k * 6 + 4, none⟩ = some (.slice ts[k].sa.A ts[k].sa.n ts[k].sa.c) ∧ wz.cell? ⟨b, o + k * 6 + 5, none⟩ = some (.slice ts[k].sk.A ts[k].sk.n ts[k].sk.c) ∧ wz.cell? ⟨b', o' + k * 6, none⟩ = some (.int .i64 us[k].kind) ∧ wz.cell? ⟨b', o' + k * 6 + 1, none⟩ = some (.string us[k].tag) ∧ wz.cell? ⟨b', o' + k * 6 + 2, none⟩ = some (.string us[k].key) ∧ wz.cell? ⟨b', o' + k * 6 + 3, none⟩ = some (.string us[k].txt) ∧ wz.cell? ⟨b', o' + k * 6 + 4, none⟩ = some (.slice us[k].sa.A us[k].sa.n us[k].sa.c) ∧ wz.cell? ⟨b', o' + k * 6 + 5, none⟩ = some (.slice us[k].sk.A us[k].sk.n us[k].sk.c)) := Lib.hid (fun wz h => ⟨(h.cell hb).trans g0, (h.cell hb).trans g1, (h.cell hb).trans g2, (h.cell hb).trans g3, (h.cell hb).trans g4, (h.cell hb).trans g5, (h.cell hb').trans j0, (h.cell hb').trans j1, (h.cell hb').trans j2, (h.cell hb').trans j3, (h.cell hb').trans j4, (h.cell hb').trans j5⟩)
        have hts := (KS.out _ (List.getElem_mem hkl))
        have hus := (KS'.out _ (List.getElem_mem hkl'))
        have hwk := wtL_kids (List.getElem_mem hkl)
        have hwk' := wtL_kids (List.getElem_mem hkl')
        have hat : ∀ {l : List WV} {t : WV}, t ∈ l → t.attrs.length ≤ wtL (erL l) := fun {l t} h => by
          have h1 := wtL_mem (l := erL l) (t := er t) (by rw [erL_map]; exact List.mem_map_of_mem h)
          rw [er_parts, wtW] at h1
          omega
        have CA : Hid (∀ w9, Below w.heap.size w w9 → Calls Try.prog 24 #[.slice ts[k].sa.A ts[k].sa.n ts[k].sa.c, .slice us[k].sa.A us[k].sa.n us[k].sa.c] w9 fun e w' => e = .returned (.bool (P3.sameA ts[k].attrs us[k].attrs)) ∧ Below w9.heap.size w9 w') := Lib.hid (fun w9 h => by
          have h1 := hts.on h
          have h2 := hus.on h
          have e1 := hat (List.getElem_mem hkl)
          have e2 := hat (List.getElem_mem hkl')
          exact P3.rsame_any _ _ _ _ _ _ _ _ w9 h1.al h2.al (by have := h1.al; have := HW.out; omega) (by have := h2.al; have := HW'.out; omega) (p3holds h1.ah) (p3holds h2.ah))
        have CK : Hid (∀ w9, Below w.heap.size w w9 → Calls Try.prog 11 #[.slice ts[k].sk.A ts[k].sk.n ts[k].sk.c, .slice us[k].sk.A us[k].sk.n us[k].sk.c] w9 fun e w' => e = .returned (.bool (alL (erL ts[k].kids) (erL us[k].kids))) ∧ Below w9.heap.size w9 w') := Lib.hid (fun w9 h => by
          have h1 := hts.on h
          have h2 := hus.on h
          exact HI.out _ (List.getElem_mem hkl) _ w9 _ _ _ _ _ _ h1.kh h1.kl h1.ks (by have := HW.out; omega) h2.kh h2.kl h2.ks (by have := HW'.out; omega))
        have HX : Hid (alW (erL ts)[k] (erL us)[k] = (P3.sameA ts[k].attrs us[k].attrs && alL (erL ts[k].kids) (erL us[k].kids) && (ts[k].kind == us[k].kind) && bq ts[k].tag us[k].tag && bq ts[k].key us[k].key && bq ts[k].txt us[k].txt)) := Lib.hid (by rw [erL_at hkl hke, erL_at hkl' hke', al_parts])
        have HKE := Lib.hid (And.intro hke hke')
        clear g0 g1 g2 g3 g4 g5 j0 j1 j2 j3 j4 j5 hts hus hwk hwk' hat
        generalize ts[k] = d at SK0 CA CK HX
        generalize us[k] = e' at SK0 CA CK HX
        obtain ⟨sb, hsb⟩ : ∃ x, P3.sameA d.attrs e'.attrs = x := ⟨_, rfl⟩
        obtain ⟨kb, hkb⟩ : ∃ x, alL (erL d.kids) (erL e'.kids) = x := ⟨_, rfl⟩
        rw [hsb] at CA HX
        rw [hkb] at CK HX
        have GD : Hid (∀ x, alW (erL ts)[k] (erL us)[k] = x → x = false → alL (erL ts) (erL us) = false) := Lib.hid (fun x h1 h2 => alL_bad HKE.out.1 HKE.out.2 (by rw [h1, h2]))
        have NX : Hid (alW (erL ts)[k] (erL us)[k] = true → PreW (erL ts) (erL us) (k + 1)) := Lib.hid (fun hx j h1 h2 h3 => by
          by_cases hjk : j = k
          · subst hjk; exact hx
          · exact HP.out j h1 h2 (by omega))
        generalize alW (erL ts)[k] (erL us)[k] = rx at HX GD NX
        clear hsb hkb HP HKE hke hke'
        obtain ⟨g0, g1, g2, g3, g4, g5, j0, j1, j2, j3, j4, j5⟩ := SK0.out wr HB.out
        go_upto_region 6 with fail
        have SK := And.intro g4 j4
        go_region_held3 (fun w' => w'.cell? ⟨b, o + k * 6 + 4, none⟩ = some (.slice d.sa.A d.sa.n d.sa.c) ∧ w'.cell? ⟨b', o' + k * 6 + 4, none⟩ = some (.slice e'.sa.A e'.sa.n e'.sa.c)) (first | go_keep | exact SK) ((first
          | (go_at_call 24; refine (CA.out _ (Below_drewN HB.out _)).mono ?_; rintro e w10 ⟨rfl, b10⟩; have B10 : Hid (Below w.heap.size w w10) := Lib.hid ((Below_drewN HB.out _).trans (b10.mono HB.out.size)); have SK := And.intro (SK0.out w10 B10.out).2.2.2.2.1 (SK0.out w10 B10.out).2.2.2.2.2.2.2.2.2.2.1; clear b10)
          | fail))
        clear g0 g1 g2 g3 g4 g5 j0 j1 j2 j3 j4 j5
        obtain ⟨g0, g1, g2, g3, g4, g5, j0, j1, j2, j3, j4, j5⟩ := SK0.out _ B10.out
        go_upto_region 7 with fail
        have SK := And.intro g5 j5
        go_region_held3 (fun w' => w'.cell? ⟨b, o + k * 6 + 5, none⟩ = some (.slice d.sk.A d.sk.n d.sk.c) ∧ w'.cell? ⟨b', o' + k * 6 + 5, none⟩ = some (.slice e'.sk.A e'.sk.n e'.sk.c)) (first | go_keep | exact SK) ((first
          | (go_at_call 11; refine (CK.out _ (Below_drewN B10.out _)).mono ?_; rintro e w11 ⟨rfl, b11⟩; have B11 : Hid (Below w.heap.size w w11) := Lib.hid ((Below_drewN B10.out _).trans (b11.mono B10.out.size)); have SK := And.intro (SK0.out w11 B11.out).2.2.2.2.2.1 (SK0.out w11 B11.out).2.2.2.2.2.2.2.2.2.2.2; clear b11)
          | fail))
        clear g0 g1 g2 g3 g4 g5 j0 j1 j2 j3 j4 j5
        obtain ⟨g0, g1, g2, g3, g4, g5, j0, j1, j2, j3, j4, j5⟩ := SK0.out _ B11.out
        clear SK0 SK CA CK
        go_upto_region 8 with fail
        go_cut [98] (fun s wx => s = .bool (!rx) ∧ Hid (Below w.heap.size w wx))
        case first =>
          cases sb with
          | false =>
            obtain rfl : rx = false := by rw [HX.out]; rfl
            go_quiet (fail)
            go_wp2_with fail
            go_meet
            exact ⟨by first | rfl | simp, Lib.hid (by first | exact Below_drewN B11.out _ | exact B11.out)⟩
          | true =>
            cases kb with
            | false =>
              obtain rfl : rx = false := by rw [HX.out]; rfl
              go_quiet (fail)
              go_wp2_with fail
              go_meet
              exact ⟨by first | rfl | simp, Lib.hid (by first | exact Below_drewN B11.out _ | exact B11.out)⟩
            | true =>
              by_cases h2 : d.kind = e'.kind
              · have q2 : (d.kind != e'.kind) = false := by simp [h2]
                by_cases h3 : d.tag.toList = e'.tag.toList
                · have q3 : (d.tag.toList == e'.tag.toList) = true := by simp [h3]
                  by_cases h4 : d.key.toList = e'.key.toList
                  · have q4 : (d.key.toList == e'.key.toList) = true := by simp [h4]
                    by_cases h5 : d.txt.toList = e'.txt.toList
                    · have q5 : (d.txt.toList == e'.txt.toList) = true := by simp [h5]
                      obtain rfl : rx = true := by rw [HX.out]; simp [bq, h2, h3, h4, h5]
                      go_quiet (fail)
                      go_wp2_with fail
                      go_meet
                      exact ⟨by first | rfl | simp, Lib.hid (by first | exact Below_drewN B11.out _ | exact B11.out)⟩
                    · have q5 : (d.txt.toList == e'.txt.toList) = false := by simp [h5]
                      obtain rfl : rx = false := by rw [HX.out]; simp [bq, h5]
                      go_quiet (fail)
                      go_wp2_with fail
                      go_meet
                      exact ⟨by first | rfl | simp, Lib.hid (by first | exact Below_drewN B11.out _ | exact B11.out)⟩
                  · have q4 : (d.key.toList == e'.key.toList) = false := by simp [h4]
                    obtain rfl : rx = false := by rw [HX.out]; simp [bq, h4]
                    go_quiet (fail)
                    go_wp2_with fail
                    go_meet
                    exact ⟨by first | rfl | simp, Lib.hid (by first | exact Below_drewN B11.out _ | exact B11.out)⟩
                · have q3 : (d.tag.toList == e'.tag.toList) = false := by simp [h3]
                  obtain rfl : rx = false := by rw [HX.out]; simp [bq, h3]
                  go_quiet (fail)
                  go_wp2_with fail
                  go_meet
                  exact ⟨by first | rfl | simp, Lib.hid (by first | exact Below_drewN B11.out _ | exact B11.out)⟩
              · have q2 : (d.kind != e'.kind) = true := by simp [h2]
                obtain rfl : rx = false := by rw [HX.out]; simp [h2]
                go_quiet (fail)
                go_wp2_with fail
                go_meet
                exact ⟨by first | rfl | simp, Lib.hid (by first | exact Below_drewN B11.out _ | exact B11.out)⟩
        case rest =>
          obtain ⟨rfl, HC⟩ := hcut
          cases rx with
          | false =>
            have HR := Lib.hid (GD.out false rfl rfl)
            go_wp2_with fail
            go_ret
            exact ⟨by rw [HR.out]; rfl, HC.out⟩
          | true =>
            have HN := Lib.hid (NX.out rfl)
            go_wp2_with fail
            go_roundw
            case rel => exact ⟨k + 1, by omega, by go_num, HN, HC⟩
            case measure => simp [intOf]; omega
      · obtain rfl : k = n := by omega
        have HR : Hid (alL (erL ts) (erL us) = true) := Lib.hid (alL_all (by rw [EL.out, EL'.out]) (fun j h h' => HP.out j h h' (by have := EL.out; omega)))
        go_wp2_with fail
        go_ret
        exact ⟨by rw [HR.out]; rfl, HB.out⟩
  · have qn : ((n : Int) != (n' : Int)) = true := by simp; omega
    have HR : Hid (alL (erL ts) (erL us) = false) := Lib.hid (alL_len (by rw [EL.out, EL'.out]; exact hnn))
    go_wp2_with fail
    go_ret
    exact ⟨by rw [HR.out]; rfl, Below.refl _ _⟩
theorem ralike_kids : ∀ t : WV, AlkC t.kids := by
  intro t
  induction t using WV.ind with
  | h kind tag key txt sa attrs sk kids ih => exact ralike_of kids ih
theorem ralike_any (ts : List WV) : AlkC ts := ralike_of ts (fun t _ => ralike_kids t)
end Go.Proofs.Ytgpbgimobcdogaa.P14
