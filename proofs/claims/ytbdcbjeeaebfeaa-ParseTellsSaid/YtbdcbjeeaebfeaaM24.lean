/- What placketref08.deep and placketref08.plain answer. No condition but those stated. -/
import Derived.Deep.DeepCutAuto
import Derived.Deep.CutBlock
import Derived.Test.YtbdcbjeeaebfeaaM23
set_option linter.unusedVariables false
set_option linter.unusedSimpArgs false
namespace Go.Proofs.Ytbdcbjeeaebfeaa.P10
open Go.RowKit Kd P4 P5 P8 P9

theorem deepL_snoc : ∀ {l : List PT} {k : Nat} (h : k < l.length), deepL (l.take (k + 1)) = max (deepL (l.take k)) (deepP l[k])
  | a :: l, 0, h => by simp [deepL]
  | a :: l, k + 1, h => by
    have := deepL_snoc (l := l) (k := k) (by simpa using h)
    simp only [List.take_succ_cons, deepL, List.getElem_cons_succ, this]
    omega
theorem deep_w (t : PT) : deepP t ≤ wP t ∧ ∀ l, (∀ k ∈ l, deepP k ≤ wP k) → deepL l ≤ wL l := by
  have key : ∀ l : List PT, (∀ k ∈ l, deepP k ≤ wP k) → deepL l ≤ wL l := by
    intro l
    induction l with
    | nil => intro _; simp [deepL]
    | cons a l ih =>
      intro h
      have h1 := h a (by simp)
      have h2 := ih (fun k hk => h k (by simp [hk]))
      rw [deepL, wL]
      omega
  refine ⟨?_, key⟩
  induction t using PT.ind with
  | h tag txt key' attrs kids ih =>
    have := key kids ih
    rw [deepP, wP]
    split <;> omega
theorem deepL_w (l : List PT) : deepL l ≤ wL l := (deep_w (.mk ⟨#[]⟩ ⟨#[]⟩ ⟨#[]⟩ [] [])).2 l (fun k _ => (deep_w k).1)
theorem erL_at {ts : List TV} {k : Nat} (h : k < ts.length) (h' : k < (erL ts).length) : (erL ts)[k] = er ts[k] := by simp [erL_map]
theorem er_parts (t : TV) : er t = .mk t.tag t.txt t.key t.attrs (erL t.kids) := by cases t; rw [er]; rfl
def DeepC (ts : List TV) : Prop := ∀ (w : World) (A : Option Addr) (n c : Nat), kT.Holds w w.heap.size A ts → ts.length = n → (∀ t ∈ ts, TOk w w.heap.size t) → wL (erL ts) ≤ 100000 →
  Calls Try.prog 19 #[.slice A n c] w fun e w' => e = .returned (.int .i64 (deepL (erL ts) : Nat)) ∧ Below w.heap.size w w'
set_option maxHeartbeats 2000000 in
theorem deep_of (ts : List TV) (IH : ∀ t ∈ ts, DeepC t.kids) : DeepC ts := by
  intro w A n c hh hn hok hw
  have KH := Lib.hid hh
  have KL := Lib.hid hn
  have KS := Lib.hid hok
  have HI : Hid (∀ t ∈ ts, DeepC t.kids) := Lib.hid IH
  have EL : Hid ((erL ts).length = n) := Lib.hid (by rw [erL_map]; simpa using hn)
  have F5 : Hid (∀ k (hk : k < ts.length), wP (er ts[k]) ≤ 100000) := Lib.hid (fun k hk => by
    have hk' : k < (erL ts).length := by rw [erL_map]; simpa using hk
    have h2 := wL_at (List.getElem_mem hk')
    rw [erL_at hk] at h2
    omega)
  have HD : Hid (∀ k, deepL ((erL ts).take k) ≤ 100000) := Lib.hid (fun k => by
    have h1 := deepL_w ((erL ts).take k)
    have h2 : wL (erL ts) = wL ((erL ts).take k) + wL ((erL ts).drop k) := by rw [← wL_append, List.take_append_drop]
    omega)
  have hn1 : n ≤ 100000 := by have := wL_len (erL ts); have := EL.out; omega
  clear hh hn hok hw IH
  go_enter Try.func19, Try.ntmps19
  go_wp2_with fail
  go_loopw [3, 4] (fun m s wr => ∃ (k : Nat), k ≤ n ∧ s = .int .i64 k ∧ m = .int .i64 (deepL ((erL ts).take k) : Nat) ∧ Hid (Below w.heap.size w wr)) (fun _ s _ => n - (intOf s).toNat)
  case atStart => exact ⟨0, by omega, rfl, by simp [deepL], Lib.hid (Below.refl _ _)⟩
  case round =>
    obtain ⟨k, hk, rfl, rfl, HB⟩ := hrel
    by_cases hkn : k < n
    · have hkl : k < ts.length := by have := KL.out; omega
      have hke : k < (erL ts).length := by have := EL.out; omega
      have SN := Lib.hid (deepL_snoc hke)
      rw [erL_at hkl hke] at SN
      have hd1 := HD.out k
      have hd2 := HD.out (k + 1)
      obtain ⟨b, o, rfl, hb, g0, g1, g2, g3, g4⟩ := cell_of_trees (KH.out.on HB.out) hkl
      have hw1 := F5.out k hkl
      have CK : Hid (Calls Try.prog 19 #[.slice ts[k].sk.A ts[k].sk.n ts[k].sk.c] wr fun e w' => e = .returned (.int .i64 (deepL (erL ts[k].kids) : Nat)) ∧ Below wr.heap.size wr w') := Lib.hid (by
        have ht := (KS.out _ (List.getElem_mem hkl)).on HB.out
        exact HI.out _ (List.getElem_mem hkl) wr _ _ _ ht.kh ht.kl ht.ks (by rw [er_parts, wP] at hw1; omega))
      have G0 : Hid (∀ wz, Below wr.heap.size wr wz → wz.cell? ⟨b, o + k * 5, none⟩ = some (.string ts[k].tag)) := Lib.hid (fun wz h => (h.cell hb).trans g0)
      have hdk := deepL_w (erL ts[k].kids)
      have HP : Hid (deepP (er ts[k]) = if ts[k].tag.toList.isEmpty then deepL (erL ts[k].kids) else deepL (erL ts[k].kids) + 1) := Lib.hid (by rw [er_parts, deepP])
      have hwk : wL (erL ts[k].kids) ≤ 100000 := by rw [er_parts, wP] at hw1; omega
      clear hw1
      generalize ts[k] = d at g0 g1 g2 g3 g4 CK G0 SN hdk HP hwk
      rw [HP.out] at SN
      generalize deepL (erL d.kids) = dk at CK SN hdk
      generalize deepL ((erL ts).take k) = m at SN hd1
      rw [SN.out] at hd2
      go_wp2_with fail
      refine CK.out.mono ?_
      rintro e w2 ⟨rfl, b2⟩
      have B2 := Lib.hid (HB.out.trans (b2.mono HB.out.size))
      have a0 := G0.out w2 b2
      clear b2 g0 g1 g2 g3 g4 G0
      cases tE : d.tag.toList.isEmpty with
      | true =>
        rw [tE, if_pos rfl] at SN hd2
        by_cases hm : m < dk
        · have q : decide ((m : Int) < (dk : Int)) = true := by simp; omega
          go_wp2_with fail
          go_roundw
          case rel => exact ⟨k + 1, by omega, by go_num, by rw [SN.out]; congr 2; omega, B2⟩
          case measure => simp [intOf]; omega
        · have q : decide ((m : Int) < (dk : Int)) = false := by simp; omega
          go_wp2_with fail
          go_roundw
          case rel => exact ⟨k + 1, by omega, by go_num, by rw [SN.out]; congr 2; omega, B2⟩
          case measure => simp [intOf]; omega
      | false =>
        rw [tE, if_neg (by simp)] at SN hd2
        by_cases hm : m < dk + 1
        · have q : decide ((m : Int) < (dk : Int) + 1) = true := by simp; omega
          go_wp2_with fail
          go_roundw
          case rel => exact ⟨k + 1, by omega, by go_num, by rw [SN.out, show max m (dk + 1) = dk + 1 by omega]; go_num, B2⟩
          case measure => simp [intOf]; omega
        · have q : decide ((m : Int) < (dk : Int) + 1) = false := by simp; omega
          go_wp2_with fail
          go_roundw
          case rel => exact ⟨k + 1, by omega, by go_num, by rw [SN.out]; congr 2; omega, B2⟩
          case measure => simp [intOf]; omega
    · obtain rfl : k = n := by omega
      go_wp2_with fail
      go_ret
      exact ⟨by rw [List.take_of_length_le (by have := EL.out; omega)]; rfl, HB.out⟩
theorem deep_kids : ∀ t : TV, DeepC t.kids := by
  intro t
  induction t using TV.ind with
  | h tag txt key sa attrs sk kids ih => exact deep_of kids ih
theorem deep_any (ts : List TV) : DeepC ts := deep_of ts (fun t _ => deep_kids t)

/-! ### plain -/
theorem txL_drop {l : List PT} {k : Nat} (h : k < l.length) : txL (l.drop k) (pv l k) = (txT l[k] && (!l[k].tag.toList.isEmpty || (!l[k].txt.toList.isEmpty && !pv l k)) && txL (l.drop (k + 1)) (pv l (k + 1))) := by
  rw [List.drop_eq_getElem_cons h, txL, pv_at h]
def TxC (ts : List TV) : Prop := ∀ (w : World) (A : Option Addr) (n c : Nat), kT.Holds w w.heap.size A ts → ts.length = n → (∀ t ∈ ts, TOk w w.heap.size t) → wL (erL ts) ≤ 100000 →
  Calls Try.prog 18 #[.slice A n c] w fun e w' => e = .returned (.bool (txL (erL ts) false)) ∧ Below w.heap.size w w'
set_option maxRecDepth 100000 in
set_option maxHeartbeats 4000000 in
theorem tx_of (ts : List TV) (IH : ∀ t ∈ ts, TxC t.kids) : TxC ts := by
  intro w A n c hh hn hok hw
  have KH := Lib.hid hh
  have KL := Lib.hid hn
  have KS := Lib.hid hok
  have HI : Hid (∀ t ∈ ts, TxC t.kids) := Lib.hid IH
  have EL : Hid ((erL ts).length = n) := Lib.hid (by rw [erL_map]; simpa using hn)
  have F5 : Hid (∀ k (hk : k < ts.length), wP (er ts[k]) ≤ 100000) := Lib.hid (fun k hk => by
    have hk' : k < (erL ts).length := by rw [erL_map]; simpa using hk
    have h2 := wL_at (List.getElem_mem hk')
    rw [erL_at hk] at h2
    omega)
  have hn1 : n ≤ 100000 := by have := wL_len (erL ts); have := EL.out; omega
  clear hh hn hok hw IH
  go_enter Try.func18, Try.ntmps18
  go_wp2_with fail
  go_loopw [3] (fun s wr => ∃ (k : Nat), k ≤ n ∧ s = .int .i64 k ∧ Hid (txL (erL ts) false = txL ((erL ts).drop k) (pv (erL ts) k)) ∧ Hid (Below w.heap.size w wr)) (fun s _ => n - (intOf s).toNat)
  case atStart => exact ⟨0, by omega, rfl, Lib.hid rfl, Lib.hid (Below.refl _ _)⟩
  case round =>
    obtain ⟨k, hk, rfl, HP, HB⟩ := hrel
    by_cases hkn : k < n
    · have hkl : k < ts.length := by have := KL.out; omega
      have hke : k < (erL ts).length := by have := EL.out; omega
      have PV : Hid (txL (erL ts) false = (txL (erL ts[k].kids) false && (!ts[k].tag.toList.isEmpty || (!ts[k].txt.toList.isEmpty && !pv (erL ts) k)) && txL ((erL ts).drop (k + 1)) (pv (erL ts) (k + 1)))) := Lib.hid (by
        rw [HP.out, txL_drop hke, erL_at hkl hke, er_parts, txT]
        rfl)
      have PR : Hid (∀ (j : Nat), k = j + 1 → ∃ b o g, A = some ⟨b, o, none⟩ ∧ wr.cell? ⟨b, o + j * 5, none⟩ = some (.string g) ∧ g.toList.isEmpty = pv (erL ts) k) := Lib.hid (fun j h0 => by
        subst h0
        have hk1 : j < ts.length := by omega
        obtain ⟨b, o, h1, _, h2, _⟩ := cell_of_trees (KH.out.on HB.out) hk1
        refine ⟨b, o, ts[j].tag, h1, h2, ?_⟩
        rw [pv_at (l := erL ts) (k := j) (by omega), erL_at hk1 (by omega), er_parts]
        rfl)
      obtain ⟨b, o, rfl, hb, g0, g1, g2, g3, g4⟩ := cell_of_trees (KH.out.on HB.out) hkl
      have hw1 := F5.out k hkl
      have CK : Hid (Calls Try.prog 18 #[.slice ts[k].sk.A ts[k].sk.n ts[k].sk.c] wr fun e w' => e = .returned (.bool (txL (erL ts[k].kids) false)) ∧ Below wr.heap.size wr w') := Lib.hid (by
        have ht := (KS.out _ (List.getElem_mem hkl)).on HB.out
        exact HI.out _ (List.getElem_mem hkl) wr _ _ _ ht.kh ht.kl ht.ks (by rw [er_parts, wP] at hw1; omega))
      clear hw1
      generalize ts[k] = d at g0 g1 g2 g3 g4 CK PV
      generalize txL (erL d.kids) false = tk at CK PV
      go_upto_region 4 with fail
      obtain ⟨q, hq⟩ : ∃ q, pv (erL ts) k = q := ⟨_, rfl⟩
      rw [hq] at PV PR
      have HQ := Lib.hid hq
      clear hq
      go_cut [37] (fun s wx => s = .bool (d.tag.toList.isEmpty && (d.txt.toList.isEmpty || q)) ∧ Hid (wx = wr))
      case first =>
        cases tE : d.tag.toList.isEmpty with
        | false =>
          go_wp2_with fail
          go_meet
          exact ⟨by first | rfl | simp [*], Lib.hid rfl⟩
        | true =>
        cases xE : d.txt.toList.isEmpty with
        | true =>
          go_wp2_with fail
          go_meet
          exact ⟨by first | rfl | simp [*], Lib.hid rfl⟩
        | false =>
        cases k with
        | zero =>
          obtain rfl : q = false := HQ.out.symm
          simp only [Nat.zero_mul, Nat.add_zero] at g0 g1
          go_wp2_with fail
          go_meet
          exact ⟨by first | rfl | simp [*], Lib.hid rfl⟩
        | succ j =>
          obtain ⟨b', o', g, e1, g5, g6⟩ := PR.out j rfl
          injection e1 with e1
          injection e1 with e1 e2
          subst e1; subst e2
          cases q with
          | true =>
            go_wp2_with fail
            go_meet
            exact ⟨by first | rfl | simp [*], Lib.hid rfl⟩
          | false =>
            go_wp2_with fail
            go_meet
            exact ⟨by first | rfl | simp [*], Lib.hid rfl⟩
      case rest =>
        obtain ⟨rfl, HE⟩ := hcut
        obtain rfl := HE.out
        obtain ⟨w1, rfl⟩ : ∃ w1, w1 = wc := ⟨_, rfl⟩
        generalize hbd : (d.tag.toList.isEmpty && (d.txt.toList.isEmpty || q)) = bd
        have HBD := Lib.hid hbd
        clear hbd
        cases bd with
        | true =>
          go_wp2_with fail
          go_ret
          refine ⟨P3.ret_bool ?_, HB.out⟩
          rw [PV.out]
          have h := HBD.out
          revert h
          cases d.tag.toList.isEmpty <;> cases d.txt.toList.isEmpty <;> cases q <;> simp
        | false =>
          have PW : Hid (txL (erL ts) false = (tk && txL ((erL ts).drop (k + 1)) (pv (erL ts) (k + 1)))) := Lib.hid (by
            rw [PV.out]
            have h := HBD.out
            revert h
            cases d.tag.toList.isEmpty <;> cases d.txt.toList.isEmpty <;> cases q <;> simp)
          clear PR PV HQ
          go_wp2_with fail
          refine CK.out.mono ?_
          rintro e w2 ⟨rfl, b2⟩
          have B2 := Lib.hid (HB.out.trans (b2.mono HB.out.size))
          clear b2
          cases tk with
          | false =>
            go_wp2_with fail
            go_ret
            exact ⟨P3.ret_bool (by rw [PW.out]; rfl), B2.out⟩
          | true =>
            go_wp2_with fail
            go_roundw
            case rel => exact ⟨k + 1, by omega, by go_num, Lib.hid (by rw [PW.out]; rfl), B2⟩
            case measure => simp [intOf]; omega
    · obtain rfl : k = n := by omega
      go_wp2_with fail
      go_ret
      refine ⟨P3.ret_bool ?_, HB.out⟩
      rw [HP.out, List.drop_of_length_le (by have := EL.out; omega), txL]
theorem tx_kids : ∀ t : TV, TxC t.kids := by
  intro t
  induction t using TV.ind with
  | h tag txt key sa attrs sk kids ih => exact tx_of kids ih
theorem tx_any (ts : List TV) : TxC ts := tx_of ts (fun t _ => tx_kids t)
end Go.Proofs.Ytbdcbjeeaebfeaa.P10
