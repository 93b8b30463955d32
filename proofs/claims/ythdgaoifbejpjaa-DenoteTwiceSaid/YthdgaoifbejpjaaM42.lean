/- The law's stays and shaped, and the walk of DenoteTwice, over the contracts of the program's Of (wish) and Of (denote). No condition but those stated. -/
import Derived.Deep.RegionHeld3
import Derived.Test.YthdgaoifbejpjaaM26
import Derived.Test.YthdgaoifbejpjaaM41
set_option linter.unusedVariables false
set_option linter.unusedSimpArgs false
namespace Go.Proofs.Ythdgaoifbejpjaa.P17
open Go.RowKit Kd P4 P5 P11 P12 P13 P14 P16
set_option linter.unusedSimpArgs false
set_option linter.unusedVariables false

theorem st_parts (t : WV) : stW (er t) = (if t.kind = 3 ∨ t.kind = 4 then 1 else 0) + stL (erL t.kids) := by rw [er_parts, stW]
def StC (ts : List WV) : Prop := ∀ (w : World) (A : Option Addr) (n c : Nat), kW.Holds w w.heap.size A ts → ts.length = n → (∀ t ∈ ts, WOk kW w w.heap.size t) → wtL (erL ts) ≤ 1000 →
  Calls Try.prog 12 #[.slice A n c] w fun e w' => e = .returned (.int .i64 (stL (erL ts) : Nat)) ∧ Below w.heap.size w w'
set_option maxHeartbeats 4000000 in
theorem stays_of (ts : List WV) (IH : ∀ t ∈ ts, StC t.kids) : StC ts := by
  intro w A n c hh hn hok hw
  have KH := Lib.hid hh
  have KL := Lib.hid hn
  have KS := Lib.hid hok
  have HI : Hid (∀ t ∈ ts, StC t.kids) := Lib.hid IH
  have EL : Hid ((erL ts).length = n) := Lib.hid (by rw [erL_map]; simpa using hn)
  have HC : Hid (∀ k, stL ((erL ts).take k) ≤ 1000) := Lib.hid (fun k => by
    have h1 := stL_wt ((erL ts).take k)
    have h2 : wtL (erL ts) = wtL ((erL ts).take k) + wtL ((erL ts).drop k) := by rw [← wtL_append, List.take_append_drop]
    omega)
  have HW := Lib.hid hw
  have hn1 : n ≤ 1000 := by have := wtL_len (erL ts); have := EL.out; omega
  clear hh hn hok hw IH
  go_enter Try.func12, Try.ntmps12
  go_wp2_with fail
  go_loopw [3, 4] (fun s3 s4 wr => ∃ (k : Nat), k ≤ n ∧ s4 = .int .i64 k ∧ s3 = .int .i64 (stL ((erL ts).take k) : Nat) ∧ Hid (Below w.heap.size w wr)) (fun _ s4 _ => n - (intOf s4).toNat)
  case atStart => exact ⟨0, by omega, rfl, by simp [stL], Lib.hid (Below.refl _ _)⟩
  case round =>
    obtain ⟨k, hk, rfl, rfl, HB⟩ := hrel
    by_cases hkn : k < n
    · have hkl : k < ts.length := by have := KL.out; omega
      have hke : k < (erL ts).length := by have := EL.out; omega
      have SN := Lib.hid (stL_take hke)
      rw [erL_at hkl hke, st_parts] at SN
      have hd1 := HC.out k
      have hd2 := HC.out (k + 1)
      obtain ⟨b, o, rfl, hb, g0', g1', g2', g3', g4', g5'⟩ := cell_of_w KH.out hkl
      have G : Hid (∀ wz, Below w.heap.size w wz → wz.cell? ⟨b, o + k * 6, none⟩ = some (.int .i64 ts[k].kind) ∧ wz.cell? ⟨b, o + k * 6 + 5, none⟩ = some (.slice ts[k].sk.A ts[k].sk.n ts[k].sk.c)) := Lib.hid (fun wz h => ⟨(h.cell hb).trans g0', (h.cell hb).trans g5'⟩)
      obtain ⟨g0, g5⟩ := G.out wr HB.out
      have CK : Hid (Calls Try.prog 12 #[.slice ts[k].sk.A ts[k].sk.n ts[k].sk.c] wr fun e w' => e = .returned (.int .i64 (stL (erL ts[k].kids) : Nat)) ∧ Below wr.heap.size wr w') := Lib.hid (by
        have ht := (KS.out _ (List.getElem_mem hkl)).on HB.out
        exact HI.out _ (List.getElem_mem hkl) wr _ _ _ ht.kh ht.kl ht.ks (by have := wtL_kids (List.getElem_mem hkl); have := HW.out; omega))
      clear g0' g1' g2' g3' g4' g5' G
      generalize ts[k] = d at g0 g5 CK SN
      generalize stL (erL d.kids) = dk at CK SN
      generalize stL ((erL ts).take k) = m at SN hd1 ⊢
      rw [SN.out] at hd2
      obtain ⟨kind, hkd⟩ : ∃ x, d.kind = x := ⟨_, rfl⟩
      rw [hkd] at g0 SN hd2
      by_cases h3 : kind = 3
      · subst h3
        rw [if_pos (Or.inl rfl)] at SN hd2
        go_wp2_with fail
        refine CK.out.mono ?_
        rintro e w2 ⟨rfl, b2⟩
        have B2 := Lib.hid (HB.out.trans (b2.mono HB.out.size))
        clear b2
        go_wp2_with fail
        go_roundw
        case rel => exact ⟨k + 1, by omega, by go_num, by rw [SN.out]; congr 1; omega, B2⟩
        case measure => simp [intOf]; omega
      · have q3 := int_ne h3
        by_cases h4 : kind = 4
        · subst h4
          rw [if_pos (Or.inr rfl)] at SN hd2
          go_wp2_with fail
          refine CK.out.mono ?_
          rintro e w2 ⟨rfl, b2⟩
          have B2 := Lib.hid (HB.out.trans (b2.mono HB.out.size))
          clear b2
          go_wp2_with fail
          go_roundw
          case rel => exact ⟨k + 1, by omega, by go_num, by rw [SN.out]; congr 1; omega, B2⟩
          case measure => simp [intOf]; omega
        · have q4 := int_ne h4
          rw [if_neg (by rintro (h | h) <;> contradiction)] at SN hd2
          go_wp2_with fail
          refine CK.out.mono ?_
          rintro e w2 ⟨rfl, b2⟩
          have B2 := Lib.hid (HB.out.trans (b2.mono HB.out.size))
          clear b2
          go_wp2_with fail
          go_roundw
          case rel => exact ⟨k + 1, by omega, by go_num, by rw [SN.out]; congr 1; omega, B2⟩
          case measure => simp [intOf]; omega
    · obtain rfl : k = n := by omega
      go_wp2_with fail
      go_ret
      exact ⟨by rw [List.take_of_length_le (by have := EL.out; omega)]; rfl, HB.out⟩
theorem stays_kids : ∀ t : WV, StC t.kids := by
  intro t
  induction t using WV.ind with
  | h kind tag key txt sa attrs sk kids ih => exact stays_of kids ih
theorem stays_any (ts : List WV) : StC ts := stays_of ts (fun t _ => stays_kids t)
theorem sh_parts {t : WV} {u : P8.TV} (h : ShW (er t) (P8.er u)) : t.tag = u.tag ∧ t.key = u.key ∧ t.txt = u.txt ∧ ShL (erL t.kids) (u.kids.map P8.er) := by
  rw [er_parts, P8.er_mk] at h
  generalize t.tag = a1 at h
  generalize t.key = a2 at h
  generalize t.txt = a3 at h
  generalize u.tag = b1 at h
  generalize u.key = b2 at h
  generalize u.txt = b3 at h
  generalize erL t.kids = ks at h
  generalize u.kids.map P8.er = us at h
  cases h with
  | mk hl hk => exact ⟨rfl, rfl, rfl, hl, hk⟩
def ShC (ts : List WV) : Prop := ∀ (us : List P8.TV) (A : Option Addr) (n c : Nat) (A' : Option Addr) (n' c' : Nat) (w : World), kW.Holds w w.heap.size A ts → ts.length = n → (∀ t ∈ ts, WOk kW w w.heap.size t) → wtL (erL ts) ≤ 1000 →
  P8.kT.Holds w w.heap.size A' us → us.length = n' → (∀ t ∈ us, P8.TOk w w.heap.size t) → ShL (erL ts) (us.map P8.er) → Calls Try.prog 13 #[.slice A n c, .slice A' n' c'] w fun e w' => e = .returned (.bool true) ∧ Below w.heap.size w w'
set_option maxRecDepth 100000 in
set_option maxHeartbeats 8000000 in
theorem shaped_of (ts : List WV) (IH : ∀ t ∈ ts, ShC t.kids) : ShC ts := by
  intro us A n c A' n' c' w hh hn hok hw hh' hn' hok' hs
  have KH := Lib.hid hh
  have KL := Lib.hid hn
  have KS := Lib.hid hok
  have UH := Lib.hid hh'
  have UL := Lib.hid hn'
  have US := Lib.hid hok'
  have HS := Lib.hid hs
  have HI : Hid (∀ t ∈ ts, ShC t.kids) := Lib.hid IH
  have HW := Lib.hid hw
  have hnn : n = n' := by have h1 := hs.1; rw [erL_map] at h1; simp at h1; omega
  subst hnn
  have hn1 : n ≤ 1000 := by have h1 := wtL_len (erL ts); rw [erL_map, List.length_map] at h1; rw [erL_map] at hw; have := KL.out; omega
  clear hh hn hok hw hh' hn' hok' hs IH
  have q0 : ((n : Int) != (n : Int)) = false := by simp
  go_enter Try.func13, Try.ntmps13
  go_wp2_with fail
  go_loopw [5] (fun s5 wr => ∃ (k : Nat), k ≤ n ∧ s5 = .int .i64 k ∧ Hid (Below w.heap.size w wr)) (fun s5 _ => n - (intOf s5).toNat)
  case atStart => exact ⟨0, by omega, rfl, Lib.hid (Below.refl _ _)⟩
  case round =>
    obtain ⟨k, hk, rfl, HB⟩ := hrel
    by_cases hkn : k < n
    · have hkl : k < ts.length := by have := KL.out; omega
      have hku : k < us.length := by have := UL.out; omega
      obtain ⟨b, o, rfl, hb, g0', g1', g2', g3', g4', g5'⟩ := cell_of_w KH.out hkl
      obtain ⟨b', o', rfl, hb', z0', z1', z2', z3', z4'⟩ := P8.cell_of_trees UH.out hku
      have SH := HS.out.2 k (by rw [erL_map]; simpa using hkl) (by simpa using hku)
      rw [erL_at hkl (by rw [erL_map]; simpa using hkl), List.getElem_map] at SH
      obtain ⟨s1, s2, s3, s4⟩ := sh_parts SH
      rw [← s1] at z0'
      rw [← s3] at z1'
      rw [← s2] at z2'
      have SK0 : Hid (∀ wz, Below w.heap.size w wz → wz.cell? ⟨b, o + k * 6 + 1, none⟩ = some (.string ts[k].tag) ∧ wz.cell? ⟨b, o + k * 6 + 2, none⟩ = some (.string ts[k].key) ∧ wz.cell? ⟨b, o + k * 6 + 3, none⟩ = some (.string ts[k].txt) ∧ wz.cell? ⟨b, o + k * 6 + 5, none⟩ = some (.slice ts[k].sk.A ts[k].sk.n ts[k].sk.c) ∧ wz.cell? ⟨b', o' + k * 5, none⟩ = some (.string ts[k].tag) ∧ wz.cell? ⟨b', o' + k * 5 + 1, none⟩ = some (.string ts[k].txt) ∧ wz.cell? ⟨b', o' + k * 5 + 2, none⟩ = some (.string ts[k].key) ∧ wz.cell? ⟨b', o' + k * 5 + 4, none⟩ = some (.slice us[k].sk.A us[k].sk.n us[k].sk.c)) := Lib.hid (fun wz h => ⟨(h.cell hb).trans g1', (h.cell hb).trans g2', (h.cell hb).trans g3', (h.cell hb).trans g5', (h.cell hb').trans z0', (h.cell hb').trans z1', (h.cell hb').trans z2', (h.cell hb').trans z4'⟩)
      have CK : Hid (∀ w9, Below w.heap.size w w9 → Calls Try.prog 13 #[.slice ts[k].sk.A ts[k].sk.n ts[k].sk.c, .slice us[k].sk.A us[k].sk.n us[k].sk.c] w9 fun e w' => e = .returned (.bool true) ∧ Below w9.heap.size w9 w') := Lib.hid (fun w9 h => by
        have ht := (KS.out _ (List.getElem_mem hkl)).on h
        have hu := (US.out _ (List.getElem_mem hku)).on h
        exact HI.out _ (List.getElem_mem hkl) us[k].kids _ _ _ _ _ _ w9 ht.kh ht.kl ht.ks (by have := wtL_kids (List.getElem_mem hkl); have := HW.out; omega) hu.kh hu.kl hu.ks s4)
      clear g0' g1' g2' g3' g4' g5' z0' z1' z2' z3' z4' SH s1 s2 s3 s4
      generalize ts[k] = d at SK0 CK
      generalize us[k] = u at SK0 CK
      generalize d.tag = tg at SK0
      generalize d.key = ky at SK0
      generalize d.txt = tx at SK0
      clear hkl hku
      have p1 : (tg.toList == tg.toList) = true := by simp
      have p2 : (ky.toList == ky.toList) = true := by simp
      have p3 : (tx.toList == tx.toList) = true := by simp
      have SK := SK0.out wr HB.out
      go_upto_region 6 with fail
      go_region_held3 (fun w' => w'.cell? ⟨b, o + k * 6 + 1, none⟩ = some (.string tg) ∧ w'.cell? ⟨b, o + k * 6 + 2, none⟩ = some (.string ky) ∧ w'.cell? ⟨b, o + k * 6 + 3, none⟩ = some (.string tx) ∧ w'.cell? ⟨b, o + k * 6 + 5, none⟩ = some (.slice d.sk.A d.sk.n d.sk.c) ∧ w'.cell? ⟨b', o' + k * 5, none⟩ = some (.string tg) ∧ w'.cell? ⟨b', o' + k * 5 + 1, none⟩ = some (.string tx) ∧ w'.cell? ⟨b', o' + k * 5 + 2, none⟩ = some (.string ky) ∧ w'.cell? ⟨b', o' + k * 5 + 4, none⟩ = some (.slice u.sk.A u.sk.n u.sk.c)) (first | go_keep | exact SK) ((first
        | (go_at_call 13; refine (CK.out _ (by first | exact Below_drewN HB.out _ | exact HB.out.drew | exact HB.out)).mono ?_; rintro e w5 ⟨rfl, b5⟩; have HB5 : Hid (Below w.heap.size w w5) := Lib.hid (by first | exact HB.out.trans (b5.mono HB.out.size) | exact (Below_drewN HB.out _).trans (b5.mono HB.out.size) | exact HB.out.drew.trans (b5.mono HB.out.size)); have SK := SK0.out w5 HB5.out; clear b5)
        | fail))
      all_goals
        go_wp2_with fail
        go_roundw
        case rel => exact ⟨k + 1, by omega, by go_num, HB5⟩
        case measure => simp [intOf]; omega
    · obtain rfl : k = n := by omega
      go_wp2_with fail
      go_ret
      exact ⟨rfl, HB.out⟩
theorem shaped_kids : ∀ t : WV, ShC t.kids := by
  intro t
  induction t using WV.ind with
  | h kind tag key txt sa attrs sk kids ih => exact shaped_of kids ih
theorem shaped_any (ts : List WV) : ShC ts := shaped_of ts (fun t _ => shaped_kids t)
end Go.Proofs.Ythdgaoifbejpjaa.P17

/- The walk of DenoteTwice, over the contracts of the program's Of (wish) and Of (denote). No condition but those stated. -/
namespace Go.Proofs.Ythdgaoifbejpjaa.P17
open Go.RowKit Kd P4 P5 P11 P12 P13 P14 P16
set_option linter.unusedSimpArgs false
set_option linter.unusedVariables false

set_option maxRecDepth 100000 in
set_option maxHeartbeats 8000000 in
theorem twice17_any (W14 : WOfC) (C : DenC) (l : List In) (A : Option Addr) (n c : Nat) (os : List P8.TV) (A' : Option Addr) (n' c' : Nat) (w : World) (hh : kX.Holds w w.heap.size A l) (hn : l.length = n) (hnc : n ≤ c) (hcm : c ≤ maxLen)
    (hh' : P8.kT.Holds w w.heap.size A' os) (hn' : os.length = n') (hnc' : n' ≤ c') (hcm' : c' ≤ maxLen) (hok : ∀ o ∈ os, P8.TOk w w.heap.size o) (hfit : ∀ o ∈ os, P8.TFit o) :
    Calls Try.prog 4 #[.slice A n c, .slice A' n' c'] w fun e w' => e = .returned (.bool true) ∧ Below w.heap.size w w' := by
  have HU := Lib.hid (up17_any C)
  have HC := Lib.hid C
  have OH := Lib.hid hh'
  have ON := Lib.hid hn'
  have OS := Lib.hid hok
  have OC := Lib.hid hcm'
  have WN : Hid (∀ w9, Below w.heap.size w w9 → Calls Try.prog 6 #[.slice A n c, .slice A' n' c'] w9 (Wants17V w9 l os)) := Lib.hid (fun w9 h => wants17_any W14 l A n c os A' n' c' w9 (hh.on h) hn hnc hcm (hh'.on h) hn' hnc' hcm' (fun o ho => (hok o ho).on h) hfit)
  clear hh hn hcm hh' hn' hcm' hok hfit C
  go_enter Try.func4, Try.ntmps4
  go_wp2_with fail
  refine (HU.out w).mono ?_
  rintro e w1 ⟨rfl, b1⟩
  have B1 := Lib.hid b1
  clear b1 HU
  go_wp2_with fail
  refine (WN.out w1 B1.out).mono ?_
  rintro e w2 ⟨b2, hv⟩
  have B2 := Lib.hid (B1.out.trans (b2.mono B1.out.size))
  clear b2 WN
  rcases hv with ⟨A2, n2, c2, rfl⟩ | ⟨A2, n2, c2, ts, rfl, hck, her, hm, hfew, hmay, hcnt⟩
  · go_wp2_with fail
    go_ret
    exact ⟨rfl, B2.out⟩
  have HM := Lib.hid hm
  have HWT := Lib.hid (wt_small hck)
  have HWF : Hid (∀ t ∈ erL ts, WfW t) := Lib.hid (by rw [her]; exact (want_back hck).2)
  have HLP : Hid (P20.LastP (erL ts)) := Lib.hid (by rw [her]; exact P20.last_all hck)
  have DMY : Hid (P8.mayL (denP (erL ts) (os.map P8.er)) = true) := Lib.hid (by rw [her]; exact den_may hck hmay)
  have DTW : Hid ((∀ t ∈ erL ts, NoSt t) → denP (erL ts) (denP (erL ts) (os.map P8.er)) = denP (erL ts) (os.map P8.er)) := Lib.hid (by rw [her]; exact fun hn => den_twice hck hn hmay)
  rw [← her] at HWT
  have DOK := Lib.hid (den_ok HWF.out (by have := HWT.out; omega) (few_small hfew hcnt) (by omega))
  have D1 := Lib.hid (HC.out ts A2 n2 c2 os A' n' c' w2 hm HWF.out HLP.out (by have := HWT.out; omega) (OH.out.on B2.out) ON.out hnc' OC.out (fun o ho => (OS.out o ho).on B2.out) hmay (by omega))
  clear hck her hm hfew hmay hcnt
  go_wp2_with fail
  refine D1.out.mono ?_
  rintro e w3 ⟨A3, n3, c3, us, rfl, hus, u1, u2, u3, u4, u5, u6, b3⟩
  have X3 := Lib.hid b3
  have B3 := Lib.hid (B2.out.trans (b3.mono B2.out.size))
  rw [← hus] at DMY DOK DTW
  have HUS := Lib.hid hus
  have U1 := Lib.hid u1
  have U4 := Lib.hid u4
  have U5 := Lib.hid u5
  have U6 := Lib.hid u6
  have hn3 : n3 ≤ 100000 := by have h1 := DOK.out.2; rw [List.length_map] at h1; omega
  have ST : Hid (∃ (k : Nat), k ≤ n3 ∧ (Value.int .i64 0) = .int .i64 k ∧ Hid (Below w3.heap.size w3 w3)) := Lib.hid ⟨0, by omega, rfl, Lib.hid (Below.refl _ _)⟩
  clear b3 hus u1 u4 u5 u6 D1
  go_wp2_with fail
  go_loopw [9] (fun s9 wr => ∃ (k : Nat), k ≤ n3 ∧ s9 = .int .i64 k ∧ Hid (Below w3.heap.size w3 wr)) (fun s9 _ => n3 - (intOf s9).toNat)
  case atStart => exact ST.out
  case round =>
    obtain ⟨k, hk, rfl, HB⟩ := hrel
    clear ST
    by_cases hkn : k < n3
    · have hkl : k < us.length := by have := U1.out; omega
      obtain ⟨b, o, rfl, hb, g0, g1, g2, g3, g4⟩ := P8.cell_of_trees (U5.out.on HB.out) hkl
      have CM : Hid (Calls Try.prog 11 #[.agg #[.string us[k].tag, .string us[k].txt, .string us[k].key, .slice us[k].sa.A us[k].sa.n us[k].sa.c, .slice us[k].sk.A us[k].sk.n us[k].sk.c]] wr fun e w' => e = .returned (.bool true) ∧ Below wr.heap.size wr w') := Lib.hid (by
        have h1 := okL_mem DOK.out.1 (List.mem_map_of_mem (f := P8.er) (List.getElem_mem hkl))
        have h2 : P8.mayP (P8.er us[k]) = true := by
          have := DMY.out
          rw [P8.mayL_all, List.all_eq_true] at this
          exact this _ (List.mem_map_of_mem (f := P8.er) (List.getElem_mem hkl))
        have := P10.rmay_ok us[k] wr ((U6.out _ (List.getElem_mem hkl)).on HB.out) h1
        rw [h2] at this
        exact this)
      generalize us[k] = d at g0 g1 g2 g3 g4 CM
      clear hkl
      go_wp2_with fail
      refine CM.out.mono ?_
      rintro e w4 ⟨rfl, b4⟩
      have B4 : Hid (Below w3.heap.size w3 w4) := Lib.hid (HB.out.trans (b4.mono HB.out.size))
      clear b4 CM
      go_wp2_with fail
      go_roundw
      case rel => exact ⟨k + 1, by omega, by go_num, B4⟩
      case measure => simp [intOf]; omega
    · obtain rfl : k = n3 := by omega
      have XW : Hid (Below w2.heap.size w2 wr) := Lib.hid (X3.out.trans (HB.out.mono X3.out.size))
      have BW : Hid (Below w.heap.size w wr) := Lib.hid (B3.out.trans (HB.out.mono B3.out.size))
      have HMW := Lib.hid (HM.out.on XW.out)
      have CS := Lib.hid (stays_any ts wr A2 n2 c2 HMW.out.holds HMW.out.len HMW.out.ok (by have := HWT.out; omega))
      generalize hst : stL (erL ts) = st at CS
      have HST := Lib.hid hst
      clear hst
      go_wp2_with fail
      refine CS.out.mono ?_
      rintro e w4 ⟨rfl, b4⟩
      have X4 := Lib.hid b4
      have B4 := Lib.hid (BW.out.trans (b4.mono BW.out.size))
      clear b4 CS
      by_cases h0 : 0 < st
      · have q0 : decide ((0 : Int) < (st : Int)) = true := by simp; omega
        go_wp2_with fail
        go_ret
        exact ⟨rfl, B4.out⟩
      have q0 : decide ((0 : Int) < (st : Int)) = false := by simp; omega
      have NS := Lib.hid (st_noneL HWF.out (by have := HST.out; omega))
      have SHP : Hid (ShL (erL ts) (us.map P8.er)) := Lib.hid (by rw [HUS.out]; exact shape_all HWF.out NS.out _)
      have CNT : Hid (P8.countL (us.map P8.er) ≤ 200) := Lib.hid (by rw [HUS.out]; have := count_den NS.out (os.map P8.er); have := HWT.out; omega)
      have X34 : Hid (Below w3.heap.size w3 w4) := Lib.hid (HB.out.trans (X4.out.mono HB.out.size))
      have HM4 := Lib.hid (HMW.out.on X4.out)
      have CH := Lib.hid (shaped_any ts us A2 n2 c2 A3 k c3 w4 HM4.out.holds HM4.out.len HM4.out.ok (by have := HWT.out; omega) (U5.out.on X34.out) U1.out (fun t ht => (U6.out t ht).on X34.out) SHP.out)
      go_wp2_with fail
      refine CH.out.mono ?_
      rintro e w5 ⟨rfl, b5⟩
      have X5 := Lib.hid b5
      have B5 := Lib.hid (B4.out.trans (b5.mono B4.out.size))
      have X35 : Hid (Below w3.heap.size w3 w5) := Lib.hid (X34.out.trans (b5.mono X34.out.size))
      have D2 := Lib.hid (HC.out ts A2 n2 c2 us A3 k c3 w5 (HM4.out.on X5.out) HWF.out HLP.out (by have := HWT.out; omega) (U5.out.on X35.out) U1.out u2 u3 (fun t ht => (U6.out t ht).on X35.out) DMY.out CNT.out)
      rw [DTW.out NS.out] at D2
      clear b5 CH
      go_wp2_with fail
      refine D2.out.mono ?_
      rintro e w6 ⟨A6, n6, c6, vs, rfl, hvs, v1, v2, v3, v4, v5, v6, b6⟩
      have B6 := Lib.hid (B5.out.trans (b6.mono B5.out.size))
      have X36 := X35.out.trans (b6.mono X35.out.size)
      have CL : Hid (Calls Try.prog 7 #[.slice A6 n6 c6, .slice A3 k c3] w6 fun e w' => e = .returned (.bool true) ∧ Below w6.heap.size w6 w') := Lib.hid (by
        exact alike17_any w6 v1 v2 v4 v5 v6 U1.out u2 U4.out (U5.out.on X36) (fun t ht => (U6.out t ht).on X36) (by rw [hvs]; exact DOK.out.1) (by have h1 := congrArg List.length hvs; rw [List.length_map, List.length_map] at h1; have := U1.out; omega) hvs)
      clear v1 v2 v4 v5 v6 X36 b6 hvs D2
      go_wp2_with fail
      refine CL.out.mono ?_
      rintro e w7 ⟨rfl, b7⟩
      have B7 := Lib.hid (B6.out.trans (b7.mono B6.out.size))
      clear b7
      go_wp2_with fail
      go_ret
      exact ⟨rfl, B7.out⟩
end Go.Proofs.Ythdgaoifbejpjaa.P17
