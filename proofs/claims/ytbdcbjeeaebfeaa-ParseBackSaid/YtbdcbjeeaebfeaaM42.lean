/- What parse.depth, parse.may and parse.Get answer. No condition but those stated. -/
import Derived.Deep.DeepCutAuto
import Derived.Deep.CutBlock
import Derived.Test.YtbdcbjeeaebfeaaM37
import Derived.Test.YtbdcbjeeaebfeaaM39
import Derived.Test.YtbdcbjeeaebfeaaM40
import Derived.Test.YtbdcbjeeaebfeaaM41
set_option linter.unusedVariables false
set_option linter.unusedSimpArgs false
namespace Go.Proofs.Ytbdcbjeeaebfeaa.P10
open Go.RowKit Kd P4 P5 P8 P9

theorem read_all : ∀ f, ReadC f := by
  intro f
  induction f using Nat.strongRecOn with
  | ind f ih => exact read_of f (fun f' h => re_of f' (ih f' h))
/-! ### depth -/
theorem dpL_snoc : ∀ {l : List PT} {k : Nat} (h : k < l.length), dpL (l.take (k + 1)) = max (dpL (l.take k)) (if l[k].tag.toList.isEmpty then 0 else 1 + dpT l[k])
  | a :: l, 0, h => by simp [dpL]
  | a :: l, k + 1, h => by
    have := dpL_snoc (l := l) (k := k) (by simpa using h)
    simp only [List.take_succ_cons, dpL, List.getElem_cons_succ, this]
    omega
def DepC (ts : List TV) : Prop := ∀ (w : World) (A : Option Addr) (n c : Nat), kT.Holds w w.heap.size A ts → ts.length = n → (∀ t ∈ ts, TOk w w.heap.size t) → wL (erL ts) ≤ 100000 →
  Calls Try.prog 13 #[.slice A n c] w fun e w' => e = .returned (.int .i64 (dpL (erL ts) : Nat)) ∧ Below w.heap.size w w'
set_option maxHeartbeats 2000000 in
theorem dep_of (ts : List TV) (IH : ∀ t ∈ ts, DepC t.kids) : DepC ts := by
  intro w A n c hh hn hok hw
  have KH := Lib.hid hh
  have KL := Lib.hid hn
  have KS := Lib.hid hok
  have HI : Hid (∀ t ∈ ts, DepC t.kids) := Lib.hid IH
  have EL : Hid ((erL ts).length = n) := Lib.hid (by rw [erL_map]; simpa using hn)
  have F5 : Hid (∀ k (hk : k < ts.length), wP (er ts[k]) ≤ 100000) := Lib.hid (fun k hk => by
    have hk' : k < (erL ts).length := by rw [erL_map]; simpa using hk
    have h2 := wL_at (List.getElem_mem hk')
    rw [erL_at hk] at h2
    omega)
  have HD : Hid (∀ k, dpL ((erL ts).take k) ≤ 100000) := Lib.hid (fun k => by
    have h1 := dpL_w ((erL ts).take k)
    have h2 : wL (erL ts) = wL ((erL ts).take k) + wL ((erL ts).drop k) := by rw [← wL_append, List.take_append_drop]
    omega)
  have hn1 : n ≤ 100000 := by have := wL_len (erL ts); have := EL.out; omega
  clear hh hn hok hw IH
  go_enter Try.func13, Try.ntmps13
  go_wp2_with fail
  go_loopw [3, 8] (fun m s wr => ∃ (k : Nat), k ≤ n ∧ s = .int .i64 k ∧ m = .int .i64 (dpL ((erL ts).take k) : Nat) ∧ Hid (Below w.heap.size w wr)) (fun _ s _ => n - (intOf s).toNat)
  case atStart => exact ⟨0, by omega, rfl, by simp [dpL], Lib.hid (Below.refl _ _)⟩
  case round =>
    obtain ⟨k, hk, rfl, rfl, HB⟩ := hrel
    by_cases hkn : k < n
    · have hkl : k < ts.length := by have := KL.out; omega
      have hke : k < (erL ts).length := by have := EL.out; omega
      have SN := Lib.hid (dpL_snoc hke)
      rw [erL_at hkl hke] at SN
      have hd1 := HD.out k
      have hd2 := HD.out (k + 1)
      obtain ⟨b, o, rfl, hb, g0, g1, g2, g3, g4⟩ := cell_of_trees (KH.out.on HB.out) hkl
      have hw1 := F5.out k hkl
      have CK : Hid (∀ w9, Below wr.heap.size wr w9 → Calls Try.prog 13 #[.slice ts[k].sk.A ts[k].sk.n ts[k].sk.c] w9 fun e w' => e = .returned (.int .i64 (dpL (erL ts[k].kids) : Nat)) ∧ Below w9.heap.size w9 w') := Lib.hid (fun w9 h9 => by
        have ht := (KS.out _ (List.getElem_mem hkl)).on (HB.out.trans (h9.mono HB.out.size))
        exact HI.out _ (List.getElem_mem hkl) w9 _ _ _ ht.kh ht.kl ht.ks (by rw [er_parts, wP] at hw1; omega))
      have hdk := dpL_w (erL ts[k].kids)
      have HP : Hid ((if (er ts[k]).tag.toList.isEmpty then 0 else 1 + dpT (er ts[k])) = if ts[k].tag.toList.isEmpty then 0 else 1 + dpL (erL ts[k].kids)) := Lib.hid (by rw [er_parts, dpT]; rfl)
      have hwk : wL (erL ts[k].kids) ≤ 100000 := by rw [er_parts, wP] at hw1; omega
      rw [HP.out] at SN
      clear hw1 HP
      generalize ts[k] = d at g0 g1 g2 g3 g4 CK SN hdk hwk
      generalize dpL (erL d.kids) = dk at CK SN hdk
      generalize dpL ((erL ts).take k) = m at SN hd1 ⊢
      rw [SN.out] at hd2
      go_upto_region 5 with fail
      have NA : Hid (TB (wr.alloc (.cells #[.string d.tag, .string d.txt, .string d.key, .slice d.sa.A d.sa.n d.sa.c, .slice d.sk.A d.sk.n d.sk.c] 38)) wr.heap.size d) := Lib.hid (TB.new wr d)
      have BA : Hid (Below wr.heap.size wr (wr.alloc (.cells #[.string d.tag, .string d.txt, .string d.key, .slice d.sa.A d.sa.n d.sa.c, .slice d.sk.A d.sk.n d.sk.c] 38))) := Lib.hid ((Below.refl _ _).alloc (Nat.le_refl _) _)
      generalize wr.alloc (.cells #[.string d.tag, .string d.txt, .string d.key, .slice d.sa.A d.sa.n d.sa.c, .slice d.sk.A d.sk.n d.sk.c] 38) = wa at NA BA ⊢
      clear g0 g1 g2 g3 g4
      have a0 := NA.out.c0; have a1 := NA.out.c1; have a2 := NA.out.c2; have a3 := NA.out.c3; have a4 := NA.out.c4
      cases tE : d.tag.toList.isEmpty with
      | true =>
        rw [tE, if_pos rfl] at SN hd2
        go_wp2_with fail
        go_roundw
        case rel => exact ⟨k + 1, by omega, by go_num, by rw [SN.out]; congr 2; omega, Lib.hid (HB.out.trans (BA.out.mono HB.out.size))⟩
        case measure => simp [intOf]; omega
      | false =>
        rw [tE, if_neg (by simp)] at SN hd2
        go_wp2_with fail
        refine (CK.out wa BA.out).mono ?_
        rintro e w2 ⟨rfl, b2⟩
        have B2 := Lib.hid (HB.out.trans ((BA.out.trans (b2.mono BA.out.size)).mono HB.out.size))
        clear b2
        by_cases hm : m < 1 + dk
        · have q : decide ((m : Int) < 1 + (dk : Int)) = true := by simp; omega
          go_wp2_with fail
          go_roundw
          case rel => exact ⟨k + 1, by omega, by go_num, by rw [SN.out, show max m (1 + dk) = 1 + dk by omega]; go_num, B2⟩
          case measure => simp [intOf]; omega
        · have q : decide ((m : Int) < 1 + (dk : Int)) = false := by simp; omega
          go_wp2_with fail
          go_roundw
          case rel => exact ⟨k + 1, by omega, by go_num, by rw [SN.out]; congr 2; omega, B2⟩
          case measure => simp [intOf]; omega
    · obtain rfl : k = n := by omega
      go_wp2_with fail
      go_ret
      exact ⟨by rw [List.take_of_length_le (by have := EL.out; omega)]; rfl, HB.out⟩
theorem dep_kids : ∀ t : TV, DepC t.kids := by
  intro t
  induction t using TV.ind with
  | h tag txt key sa attrs sk kids ih => exact dep_of kids ih
theorem dep_any (ts : List TV) : DepC ts := dep_of ts (fun t _ => dep_kids t)
/-! ### may -/
set_option maxHeartbeats 2000000 in
theorem pmay_any (ts : List TV) (w : World) (A : Option Addr) (n c : Nat) (hh : kT.Holds w w.heap.size A ts) (hn : ts.length = n) (hok : ∀ t ∈ ts, TOk w w.heap.size t) (hf : okL (erL ts) = true) (hn1 : n ≤ 100000) :
    Calls Try.prog 14 #[.slice A n c] w fun e w' => e = .returned (.bool (mayL (erL ts))) ∧ Below w.heap.size w w' := by
  have KH := Lib.hid hh
  have KL := Lib.hid hn
  have KS := Lib.hid hok
  have OKL := Lib.hid hf
  have EL : Hid ((erL ts).length = n) := Lib.hid (by rw [erL_map]; simpa using hn)
  clear hh hn hok hf
  go_enter Try.func14, Try.ntmps14
  go_wp2_with fail
  go_loopw [7] (fun s wr => ∃ (k : Nat), k ≤ n ∧ s = .int .i64 k ∧ Hid (mayL ((erL ts).take k) = true) ∧ Hid (Below w.heap.size w wr)) (fun s _ => n - (intOf s).toNat)
  case atStart => exact ⟨0, by omega, rfl, Lib.hid (by simp [mayL]), Lib.hid (Below.refl _ _)⟩
  case round =>
    obtain ⟨k, hk, rfl, HM, HB⟩ := hrel
    by_cases hkn : k < n
    · have hkl : k < ts.length := by have := KL.out; omega
      have hke : k < (erL ts).length := by have := EL.out; omega
      obtain ⟨b, o, rfl, hb, g0, g1, g2, g3, g4⟩ := cell_of_trees (KH.out.on HB.out) hkl
      have CK : Hid (∀ w9, Below wr.heap.size wr w9 → Calls Try.prog 27 #[.agg #[.string ts[k].tag, .string ts[k].txt, .string ts[k].key, .slice ts[k].sa.A ts[k].sa.n ts[k].sa.c, .slice ts[k].sk.A ts[k].sk.n ts[k].sk.c]] w9 fun e w' => e = .returned (.bool (mayP (erL ts)[k])) ∧ Below w9.heap.size w9 w') := Lib.hid (fun w9 h9 => by
        rw [erL_at hkl hke]
        exact may_ok ts[k] w9 ((KS.out _ (List.getElem_mem hkl)).on (HB.out.trans (h9.mono HB.out.size))) (by have := okL_at hke OKL.out; rwa [erL_at hkl hke] at this))
      generalize ts[k] = d at g0 g1 g2 g3 g4 CK
      obtain ⟨mk, hmk⟩ : ∃ b, mayP (erL ts)[k] = b := ⟨_, rfl⟩
      rw [hmk] at CK
      have HMK := Lib.hid hmk
      have HKE := Lib.hid hke
      clear hmk
      go_upto_region 4 with fail
      have NA : Hid (TB (wr.alloc (.cells #[.string d.tag, .string d.txt, .string d.key, .slice d.sa.A d.sa.n d.sa.c, .slice d.sk.A d.sk.n d.sk.c] 38)) wr.heap.size d) := Lib.hid (TB.new wr d)
      have BA : Hid (Below wr.heap.size wr (wr.alloc (.cells #[.string d.tag, .string d.txt, .string d.key, .slice d.sa.A d.sa.n d.sa.c, .slice d.sk.A d.sk.n d.sk.c] 38))) := Lib.hid ((Below.refl _ _).alloc (Nat.le_refl _) _)
      generalize wr.alloc (.cells #[.string d.tag, .string d.txt, .string d.key, .slice d.sa.A d.sa.n d.sa.c, .slice d.sk.A d.sk.n d.sk.c] 38) = wa at NA BA ⊢
      clear g0 g1 g2 g3 g4
      have a0 := NA.out.c0; have a1 := NA.out.c1; have a2 := NA.out.c2; have a3 := NA.out.c3; have a4 := NA.out.c4
      go_wp2_with fail
      refine (CK.out wa BA.out).mono ?_
      rintro e w2 ⟨rfl, b2⟩
      have B2 := Lib.hid (HB.out.trans ((BA.out.trans (b2.mono BA.out.size)).mono HB.out.size))
      clear b2
      cases mk with
      | false =>
        go_wp2_with fail
        go_ret
        exact ⟨by rw [mayL_bad HKE.out HMK.out]; rfl, B2.out⟩
      | true =>
        go_wp2_with fail
        go_roundw
        case rel => exact ⟨k + 1, by omega, by go_num, Lib.hid (mayL_take HKE.out HM.out HMK.out), B2⟩
        case measure => simp [intOf]; omega
    · obtain rfl : k = n := by omega
      go_wp2_with fail
      go_ret
      refine ⟨?_, HB.out⟩
      have h1 := HM.out
      rw [List.take_of_length_le (by have := EL.out; omega)] at h1
      rw [h1]
      rfl
/-! ### Get -/
theorem parsed_none {w w' : World} {p : List PT × Nat} {k : Nat} (h : p = ([], k)) (hb : Below w.heap.size w w') : Parsed w p (.returned (.tuple #[.slice none 0 0, errV (k : Nat)])) w' := by
  subst h
  exact ⟨none, 0, 0, [], rfl, by simp [erL], rfl, Nat.le_refl _, by decide, fun _ => rfl, Kind.Holds.nil _ _ _, (by intro t ht; cases ht), hb⟩
theorem e7_is : errV ((7 : Nat) : Int) = .iface 39 (.int .i64 7) := rfl
theorem e13_is : errV ((13 : Nat) : Int) = .iface 39 (.int .i64 13) := rfl
theorem e0_is : errV ((0 : Nat) : Int) = .nilIface := rfl
set_option maxRecDepth 100000 in
set_option maxHeartbeats 4000000 in
theorem parse_c : ParseC := by
  intro s w hm hML
  by_cases hs : 6000 < s.size
  · have HR : Hid (getR s.data.toList = ([], 13)) := Lib.hid (getR_long (by rw [size_len]; exact hs))
    go_enter Try.func6, Try.ntmps6
    go_wp2_with fail
    go_ret2
    exact e13_is ▸ parsed_none HR.out (Below.refl _ _)
  · have CG : Hid (Calls Try.prog 12 #[.string s] w (Gv w (readL s.data.toList))) := Lib.hid (by
      have := read_all (s.size + 1) s w (by omega) (by omega) hML
      unfold readL
      rw [size_len]
      exact this)
    have HW : Hid (wL (readL s.data.toList).1 ≤ 12000) := Lib.hid (by have := read_w s.data.toList; rw [size_len] at this; omega)
    have HR : Hid (getR s.data.toList = if decide (dpL (readL s.data.toList).1 ≤ 200) && mayL (readL s.data.toList).1 && decide (allH (readL s.data.toList).1 = s.data.toList) then ((readL s.data.toList).1, 0) else ([], 7)) := Lib.hid (getR_is _ (by rw [size_len]; omega))
    go_enter Try.func6, Try.ntmps6
    go_wp2_with fail
    refine CG.out.mono ?_
    rintro e w1 ⟨A, n, c, ts, rfl, her, own, new, b1⟩
    rw [← her] at HW HR
    have OI := own_is own
    have OI2 := Lib.hid OI
    have B1 := Lib.hid b1
    have KL : Hid (ts.length = n) := Lib.hid OI.1
    have KH : Hid (kT.Holds w1 w1.heap.size A ts) := Lib.hid OI.2.2.2.2
    have KS : Hid (∀ t ∈ ts, TOk w1 w1.heap.size t) := Lib.hid (fun t ht => (new t ht).ok)
    have EL : Hid ((erL ts).length = n) := Lib.hid (by rw [erL_map, List.length_map]; exact OI.1)
    have hn1 : n ≤ 12000 := by have := wL_len (erL ts); have := EL.out; have := HW.out; omega
    have OKL : Hid (okL (erL ts) = true) := Lib.hid (wL_ok (by have := HW.out; omega))
    have CD : Hid (Calls Try.prog 13 #[.slice A n c] w1 fun e w' => e = .returned (.int .i64 (dpL (erL ts) : Nat)) ∧ Below w1.heap.size w1 w') := Lib.hid (dep_any ts w1 A n c KH.out KL.out KS.out (by have := HW.out; omega))
    have CM : Hid (∀ w9, Below w1.heap.size w1 w9 → Calls Try.prog 14 #[.slice A n c] w9 fun e w' => e = .returned (.bool (mayL (erL ts))) ∧ Below w9.heap.size w9 w') := Lib.hid (fun w9 h => pmay_any ts w9 A n c (KH.out.on h) KL.out (fun t ht => (KS.out t ht).on h) OKL.out (by omega))
    have CA : Hid (∀ w9, Below w1.heap.size w1 w9 → Calls Try.prog 11 #[.slice A n c] w9 fun e w' => e = .returned (.string (bs (allH (erL ts)))) ∧ Below w9.heap.size w9 w') := Lib.hid (fun w9 h => sall_ok ts A n c w9 (KH.out.on h) KL.out (fun t ht => (KS.out t ht).on h) OKL.out (by have := KL.out; omega) (by have := allH_w (erL ts); have := HW.out; omega))
    have hdp : dpL (erL ts) ≤ 12000 := by have := dpL_w (erL ts); have := HW.out; omega
    have hhd : (bs (allH (erL ts))).data.toList = allH (erL ts) := bs_data _
    have FIN : Hid (∀ w9, Below w1.heap.size w1 w9 → getR s.data.toList = (erL ts, 0) → Parsed w (getR s.data.toList) (.returned (.tuple #[.slice A n c, .nilIface])) w9) := Lib.hid (fun w9 h e => by
      rw [e]
      exact ⟨A, n, c, ts, by rw [e0_is], rfl, OI2.out.1, OI2.out.2.1, OI2.out.2.2.1, OI2.out.2.2.2.1, KH.out.on h, fun t ht => (KS.out t ht).on h, B1.out.trans (h.mono B1.out.size)⟩)
    have BAD : Hid (∀ w9, Below w1.heap.size w1 w9 → getR s.data.toList = ([], 7) → Parsed w (getR s.data.toList) (.returned (.tuple #[.slice none 0 0, .iface 39 (.int .i64 7)])) w9) := Lib.hid (fun w9 h e => e7_is ▸ parsed_none e (B1.out.trans (h.mono B1.out.size)))
    rw [← hhd] at HR
    generalize bs (allH (erL ts)) = hh at CA HR hhd
    generalize mayL (erL ts) = bm at CM HR
    generalize dpL (erL ts) = dp at CD HR hdp
    clear her own new b1 OI hhd CG HW
    simp only
    go_wp2_with fail
    refine CD.out.mono ?_
    rintro e w2 ⟨rfl, b2⟩
    have B2 := Lib.hid b2
    clear b2 CD
    by_cases hd : dp ≤ 200
    · have q2 : decide ((200 : Int) < (dp : Int)) = false := by simp; omega
      have HR2 : Hid (getR s.data.toList = if bm && decide (hh.data.toList = s.data.toList) then (erL ts, 0) else ([], 7)) := Lib.hid (by rw [HR.out]; simp [hd])
      go_wp2_with fail
      refine (CM.out w2 B2.out).mono ?_
      rintro e w3 ⟨rfl, b3⟩
      have B3 : Hid (Below w1.heap.size w1 w3) := Lib.hid (B2.out.trans (b3.mono B2.out.size))
      clear b3 CM
      cases bm with
      | false =>
        go_wp2_with fail
        go_ret2
        exact BAD.out w3 B3.out (by rw [HR2.out]; rfl)
      | true =>
        by_cases hq : hh.data.toList = s.data.toList
        · have q := bytes_eq hq
          have HF : Hid (getR s.data.toList = (erL ts, 0)) := Lib.hid (by rw [HR2.out]; simp [hq])
          clear hq HR2 HR
          go_wp2_with fail
          refine (CA.out w3 B3.out).mono ?_
          rintro e w4 ⟨rfl, b4⟩
          have B4 : Hid (Below w1.heap.size w1 w4) := Lib.hid (B3.out.trans (b4.mono B3.out.size))
          clear b4
          go_wp2_with fail
          go_ret2
          exact FIN.out w4 B4.out HF.out
        · have q := bytes_ne hq
          have HF : Hid (getR s.data.toList = ([], 7)) := Lib.hid (by rw [HR2.out]; simp [hq])
          clear hq HR2 HR
          go_wp2_with fail
          refine (CA.out w3 B3.out).mono ?_
          rintro e w4 ⟨rfl, b4⟩
          have B4 : Hid (Below w1.heap.size w1 w4) := Lib.hid (B3.out.trans (b4.mono B3.out.size))
          clear b4
          go_wp2_with fail
          go_ret2
          exact BAD.out w4 B4.out HF.out
    · have q2 : decide ((200 : Int) < (dp : Int)) = true := by simp; omega
      have HF : Hid (getR s.data.toList = ([], 7)) := Lib.hid (by rw [HR.out]; simp [hd])
      go_wp2_with fail
      go_ret2
      exact BAD.out w2 B2.out HF.out
end Go.Proofs.Ytbdcbjeeaebfeaa.P10

/- The walk of ParseBack, over the contract of the program's Get. No condition but those stated. -/
namespace Go.Proofs.Ytbdcbjeeaebfeaa.P10
open Go.RowKit Kd P4 P5 P8 P9

theorem getR_back {s : List UInt8} (h : (getR s).2 = 0) : allH (getR s).1 = s := by
  rcases getR_cases s with e | e | ⟨_, _, k⟩
  · rw [e] at h; cases h
  · rw [e] at h; cases h
  · exact k.2.2.2
theorem getR_none {s : List UInt8} (h : (getR s).2 ≠ 0) : (getR s).1 = [] := by
  rcases getR_cases s with e | e | ⟨e, _⟩
  · rw [e]
  · rw [e]
  · exact absurd e h
theorem bs_of {l : List UInt8} {s : ByteArray} (h : l = s.data.toList) : (⟨l.toArray⟩ : ByteArray) = s := by subst h; exact bs_eta s
/-- what serial.All puts of trees that were told -/
theorem sall_told {s : ByteArray} {w : World} {A : Option Addr} {n c : Nat} {ts : List TV} (h0 : (getR s.data.toList).2 = 0) (her : erL ts = (getR s.data.toList).1) (h1 : ts.length = n) (h4 : kT.Holds w w.heap.size A ts) (h5 : ∀ t ∈ ts, TOk w w.heap.size t) :
    Calls Try.prog 11 #[.slice A n c] w fun e w' => e = .returned (.string s) ∧ Below w.heap.size w w' := by
  have hw := getR_w s.data.toList
  rw [← her] at hw
  have hb := getR_back h0
  rw [← her] at hb
  have := sall_ok ts A n c w h4 h1 h5 (wL_ok (by omega)) (by have := wL_len (erL ts); rw [erL_map, List.length_map] at this; rw [erL_map] at hw; omega) (by have := allH_w (erL ts); omega)
  rw [bs_of hb] at this
  exact this
set_option maxRecDepth 100000 in
set_option maxHeartbeats 4000000 in
theorem back10_any (PG : ParseC) (s : ByteArray) (ts : List TV) (A : Option Addr) (n c : Nat) (w : World) (hML : Bd.ML w) (hs : s.size ≤ maxLen) (hh : kT.Holds w w.heap.size A ts) (hn : ts.length = n) (hnc : n ≤ c) (hc : c ≤ maxLen) (hok : ∀ t ∈ ts, TOk w w.heap.size t) (hfit : ∀ t ∈ ts, TFit t) :
    Calls Try.prog 4 #[.string s, .slice A n c] w fun e w' => e = .returned (.bool true) ∧ Below w.heap.size w w' := by
  have q1 := err_eql
  have q2 := err_eql_nil
  have q3 := err_neq_nil
  have q4 := nil_eql_nil
  have q5 := nil_neq_nil
  have HU := Lib.hid (up10_any PG w hML)
  have HML := Lib.hid hML
  have HP := Lib.hid PG
  have HH : Hid (∀ w9, Below w.heap.size w w9 → kT.Holds w9 w9.heap.size A ts) := Lib.hid (fun w9 h => hh.on h)
  have HO : Hid (∀ w9, Below w.heap.size w w9 → ∀ t ∈ ts, TOk w9 w9.heap.size t) := Lib.hid (fun w9 h t hm => (hok t hm).on h)
  have HN := Lib.hid hn
  have HC := Lib.hid hc
  have HF := Lib.hid hfit
  have HNC := Lib.hid hnc
  unfold maxLen at hs
  clear PG hML hh hn hok hfit hc hnc
  go_enter Try.func4, Try.ntmps4
  go_wp2_with fail
  refine HU.out.mono ?_
  rintro e w1 ⟨rfl, b1⟩
  have B1 := Lib.hid b1
  clear b1 HU
  by_cases h7 : 7000 < s.size
  · go_wp2_with fail
    go_ret
    exact ⟨rfl, B1.out⟩
  have q7 : decide ((7000 : Int) < (s.size : Int)) = false := by simp; omega
  go_wp2_with fail
  refine (manyAll_any ts 50 w1 A n c (by omega) (HH.out w1 B1.out) HN.out HNC.out HC.out (HO.out w1 B1.out) HF.out).mono ?_
  rintro e w2 ⟨m, rfl, hm2, hm3, b2⟩
  have B2 := Lib.hid (bl_call b2 B1.out)
  clear b2 B1
  by_cases hm : 50 < m
  · have q8 : decide ((50 : Int) < (m : Int)) = true := by simp; omega
    go_wp2_with fail
    go_ret
    exact ⟨rfl, B2.out⟩
  have q8 : decide ((50 : Int) < (m : Int)) = false := by simp; omega
  obtain ⟨hmc, hmf⟩ := hm3 (by omega)
  have HLE : Hid ((allH (erL ts)).length ≤ 1500000) := Lib.hid (by have := allH_len hmf; omega)
  have HOK : Hid (okL (erL ts) = true) := Lib.hid (fewL_ok hmf (by omega))
  have HTL : Hid (ts.length ≤ 100000) := Lib.hid (by have := len_le_count (erL ts); rw [erL_map, List.length_map] at this; rw [erL_map] at hmc; omega)
  clear hm3 hm2 hmc hmf hm
  -- the text's own trees
  go_wp2_with fail
  refine (HP.out s w2 (by omega) (HML.out.on B2.out)).mono ?_
  rintro e w3 ⟨Ax, nx, cx, xs, rfl, her, h1, _, _, _, h4, h5, b3⟩
  have B3 := Lib.hid (bl_call b3 B2.out)
  clear b3 B2
  have CX : Hid ((getR s.data.toList).2 = 0 → Calls Try.prog 11 #[.slice Ax nx cx] w3 fun e w' => e = .returned (.string s) ∧ Below w3.heap.size w3 w') := Lib.hid (fun h0 => sall_told h0 her h1 h4 h5)
  clear her h1 h4 h5
  generalize (getR s.data.toList).2 = code at CX
  obtain ⟨ev, hev⟩ : ∃ v, errV ((code : Nat) : Int) = v := ⟨_, rfl⟩
  rw [hev]
  -- behind it
  go_upto_region 5 with fail
  go_cut [33] (fun v wx => v = .bool false ∧ Hid (Below w.heap.size w wx))
  case first =>
    by_cases h0 : code = 0
    · subst h0
      obtain rfl : ev = .nilIface := hev.symm
      have q9 : (s.toList == s.toList) = true := by simp
      go_wp2_with fail
      refine (CX.out (by first | rfl | trivial)).mono ?_
      rintro e w4 ⟨rfl, b4⟩
      have B4 := Lib.hid (bl_call b4 B3.out)
      clear b4
      go_wp2_with fail
      go_meet
      exact ⟨by first | rfl | simp, B4⟩
    · obtain rfl : ev = .iface 39 (.int .i64 code) := by rw [← hev]; unfold errV; rw [if_neg (by omega)]
      go_wp2_with fail
      go_meet
      exact ⟨by first | rfl | simp, B3⟩
  case rest =>
    obtain ⟨rfl, B4⟩ := hcut
    obtain ⟨w4, rfl⟩ : ∃ w4, w4 = wc := ⟨_, rfl⟩
    clear CX B3 hev
    have CA : Hid (Calls Try.prog 11 #[.slice A n c] w4 fun e w' => e = .returned (.string ⟨(allH (erL ts)).toArray⟩) ∧ Below w4.heap.size w4 w') := Lib.hid (sall_ok ts A n c w4 (HH.out w4 B4.out) HN.out (HO.out w4 B4.out) HOK.out HTL.out (by have := HLE.out; omega))
    have hsz : (⟨(allH (erL ts)).toArray⟩ : ByteArray).size ≤ 1500000 := by
      show (allH (erL ts)).toArray.size ≤ _
      rw [List.size_toArray]
      exact HLE.out
    generalize (⟨(allH (erL ts)).toArray⟩ : ByteArray) = h at CA hsz
    clear HLE HOK HTL HH HO HN HC HF HNC
    go_wp2_with fail
    refine CA.out.mono ?_
    rintro e w5 ⟨rfl, b5⟩
    have B5 := Lib.hid (bl_call b5 B4.out)
    clear b5 B4 CA
    go_wp2_with fail
    refine (HP.out h w5 (by omega) (HML.out.on B5.out)).mono ?_
    rintro e w6 ⟨Ay, ny, cy, ys, rfl, her, h1, _, _, _, h4, h5, b6⟩
    have B6 := Lib.hid (bl_call b6 B5.out)
    clear b6 B5
    by_cases h0 : (getR h.data.toList).2 = 0
    · have CY : Hid (Calls Try.prog 11 #[.slice Ay ny cy] w6 fun e w' => e = .returned (.string h) ∧ Below w6.heap.size w6 w') := Lib.hid (sall_told h0 her h1 h4 h5)
      have e0 : errV (((getR h.data.toList).2 : Nat) : Int) = .nilIface := by rw [h0]; rfl
      rw [e0]
      clear e0 her h1 h4 h5 h0
      have q9 : (h.toList == h.toList) = true := by simp
      go_wp2_with fail
      refine CY.out.mono ?_
      rintro e w7 ⟨rfl, b7⟩
      have B7 := Lib.hid (bl_call b7 B6.out)
      clear b7
      go_wp2_with fail
      go_ret
      exact ⟨by first | rfl | simp, B7.out⟩
    · have hny : ny = 0 := by
        have h2 := getR_none h0
        rw [h2, erL_map] at her
        have hl := congrArg List.length her
        simp at hl
        rw [← h1, hl]
        rfl
      subst hny
      have e0 : errV (((getR h.data.toList).2 : Nat) : Int) = .iface 39 (.int .i64 ((getR h.data.toList).2 : Nat)) := by unfold errV; rw [if_neg (by omega)]
      rw [e0]
      clear e0 her h1 h4 h5 h0
      go_wp2_with fail
      go_ret
      exact ⟨by first | rfl | simp, B6.out⟩
end Go.Proofs.Ytbdcbjeeaebfeaa.P10
