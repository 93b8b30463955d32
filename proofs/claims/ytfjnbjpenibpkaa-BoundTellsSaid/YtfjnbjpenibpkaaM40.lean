/- What the program's take leaves: the front goes on behind an instruction that has no error. No condition but those stated. -/
import Derived.Deep.RegionWith
import Derived.Deep.RegionHeld3
import Derived.Test.YtfjnbjpenibpkaaM23
import Derived.Test.YtfjnbjpenibpkaaM39
set_option linter.unusedVariables false
set_option linter.unusedSimpArgs false
set_option linter.unusedVariables false
set_option linter.unusedSimpArgs false
namespace Go.Proofs.Ytfjnbjpenibpkaa.P13
open Go.RowKit Kd P4 P5 P11 P12 Mv

theorem bl_drewR {w w' : World} (j : Nat) (h : Below (w.drewN j).heap.size (w.drewN j) w') : Below w.heap.size w w' := (bl_drewN (Below.refl w.heap.size w) j).trans h
/-- 'm[k] = v', at an operation that waits for all others -/
theorem step_store {P : Program} {ops : Array Oper} {o : Oper} {act : Act} {Kk : Act → World → Prop} {Q : Exit → Act → World → Prop} {E : Prop} {w : World} {kt : TypeId} {b n s : Nat} {f : Lit → Option Value} (hg : o.guard = none) (m x v : Operand) {t e : TypeId} (hop : o.op = Op.mapUpdate t m x v) (K : Go.Maps.Keyed P kt) (ht : P.underlying t = some (.map kt e))
    (hm : act.eval m = .map (some b)) (h : MapIs P kt w b n s f) (hn : n < maxLen) {key val : Value} {l : Lit} (hx : act.eval x = key) (hv : act.eval v = val) (hkey : keyOf P kt key = some l) {f' : Lit → Option Value} (hf : PutF f f' l (some val))
    (hK : ∀ w', MapIs P kt w' b (n + 1) (if (f l).isSome then s else s + 1) f' → w.grownBy w' (some b) → Kk (act.put o.dst undef) w') : if Region.wanted o (yielded ops act.tmps) = true then Oper.wp P o act w Kk Q else E := by
  have hw : Region.wanted o (yielded ops act.tmps) = true := by simp [Region.wanted, hg]
  rw [if_pos hw]
  obtain ⟨w', hrun, r1, r2⟩ := h.store K ht hn hkey hf
  unfold Oper.wp
  simp [execOp, hop, hm, hx, hv, hrun, Result.andThen]
  exact hK w' r1 r2
/-- the front, later: at a world that grew on -/
theorem Fr.below_of {w w1 w2 : World} {B p k g c d : Nat} {A : Option Addr} {n c' : Nat} {tl : Bool} {ps : List Pl} {td : List ByteArray} {P : List (List In)} {r : Option Nat} (h : Fr w B p k g c d A n c' tl ps td P) (b : Below w.heap.size w w1) (_ : w1.grownBy w2 r) :
    Fr w1 B p k g c d A n c' tl ps td P ∧ Below w.heap.size w w1 := ⟨h.below b, b⟩
def Took (w : World) (B p k : Nat) (P : List (List In)) (nm : Option (List (List UInt8))) (e : Ending) (w' : World) : Prop := e = .returned (.tuple #[]) ∧ FrIs w' B p k P nm ∧ Below B w w'
/-- the walk behind the key: what the place becomes -/
theorem stepP_open {P : List (List In)} {x : In} (h : x.op = 1) : stepP P x = lastX P x ++ [[]] := by rw [stepP, if_pos h, lastX, lastP, List.append_assoc]; rfl
theorem stepP_close {P : List (List In)} {x : In} (h : x.op = 2) : stepP P x = P.dropLast := by rw [stepP, if_neg (by omega), if_pos h]
theorem stepP_other {P : List (List In)} {x : In} (h : x.op ≠ 1) (h' : x.op ≠ 2) : stepP P x = lastX P x := by rw [stepP, if_neg h, if_neg h']; rfl
set_option maxRecDepth 100000 in
set_option maxHeartbeats 8000000 in
theorem take_any {w : World} {B p k : Nat} {P : List (List In)} {nm : Option (List (List UInt8))} (h : FrIs w B p k P nm) (hk : k ≤ 1000) (i : In) (ha : i.a.size ≤ 300) (hb : i.b.size ≤ 300) (hw : wrongV P nm i = 0) :
    Calls Try.prog 17 #[.pointer (some ⟨p, 0, none⟩), .agg #[.int .i64 i.op, .string i.a, .string i.b]] w (Took w B p (k + 1) (stepP P i) (stepN nm i)) := by
  obtain ⟨op, a, b⟩ := i
  have ha : a.size ≤ 300 := ha
  have hb : b.size ≤ 300 := hb
  obtain ⟨g, c, d, A, n, c', ps, td, F, HTD⟩ := h.fr
  have hwc := wrong_code (nm := nm) F.len F.d8 ⟨op, a, b⟩
  rw [hw] at hwc
  simp only at hwc
  have hT : tellsO op = true → ∃ ns, nm = some ns := fun e => by
    cases nm with
    | some ns => exact ⟨ns, rfl⟩
    | none =>
      exfalso
      rw [attrN_none, e] at hwc
      unfold codeF at hwc
      split at hwc <;> cases hwc
  have hT2 : tellsO op = true → op ≠ 7 ∧ op ≠ 1 ∧ op ≠ 2 ∧ keyedB ⟨op, a, b⟩ = false := fun e => by
    simp only [tellsO, decide_eq_true_eq] at e
    refine ⟨by omega, by omega, by omega, ?_⟩
    simp only [keyedB, makesO]
    rw [decide_eq_false (by omega)]
    rfl
  have hO : op = 1 → d ≤ 7 := fun e => by
    have := F.d8
    subst e
    rcases Nat.lt_or_ge d 8 with h8 | h8
    · omega
    · exfalso
      obtain rfl : d = 8 := by omega
      unfold codeF at hwc
      simp [tellsO] at hwc
      split at hwc
      · cases hwc
      · split at hwc
        · cases hwc
        · split at hwc <;> cases hwc
  have hC : op = 2 → ∃ d', d = d' + 1 := fun e => by
    subst e
    rcases Nat.eq_zero_or_pos d with h0 | h0
    · exfalso
      subst h0
      unfold codeF at hwc
      simp [tellsO] at hwc
      split at hwc <;> cases hwc
    · exact ⟨d - 1, by omega⟩
  clear hwc hw h
  have HT := Lib.hid hT
  have HT2 := Lib.hid hT2
  have HO := Lib.hid hO
  have HC := Lib.hid hC
  have HTD := Lib.hid HTD
  have HKEY : Hid (keyOf Try.prog 9 (.string b) = some (.string b.toList)) := Lib.hid (by rw [ByteArray.toList_eq]; exact Go.WideMaps.keyOf_string_mk Try.underlying9 (by unfold maxLen; omega))
  have hk2 : k < maxLen := by unfold maxLen; omega
  clear hT hT2 hO hC ha hb
  have B1 : Hid (Below w.heap.size w (w.alloc (.cells #[.int .i64 op, .string a, .string b] 38))) := Lib.hid ((Below.refl _ _).alloc (Nat.le_refl _) _)
  have N1 : Hid (XB (w.alloc (.cells #[.int .i64 op, .string a, .string b] 38)) w.heap.size ⟨op, a, b⟩) := Lib.hid (XB.new w ⟨op, a, b⟩)
  have F1 := Lib.hid (F.below B1.out)
  have hBw := F.size
  have hxw : w.heap.size ≤ w.heap.size := Nat.le_refl _
  clear F
  go_enter Try.func17, Try.ntmps17
  go_upto_region 1 with fail
  have BB := Lib.hid (B1.out.mono hBw)
  generalize w.alloc (.cells #[.int .i64 op, .string a, .string b] 38) = W at BB N1 F1 ⊢
  obtain ⟨x, hx⟩ : ∃ x, x = w.heap.size := ⟨_, rfl⟩
  rw [← hx] at N1 ⊢
  have hxB : B ≤ x := by omega
  clear hx hxw B1
  have c0 := N1.out.c0; have c1 := N1.out.c1; have c2 := N1.out.c2
  simp only at c0 c1 c2
  go_wp2_with fail
  cases hbt : tellsO op with
  | true =>
    obtain ⟨ns, hns⟩ := HT.out hbt
    subst hns
    obtain ⟨h7, h1, h2, hkb⟩ := HT2.out hbt
    have HP : Hid (stepP P ⟨op, a, b⟩ = lastX P ⟨op, a, b⟩) := Lib.hid (stepP_other h1 h2)
    have HN : Hid (stepN (some ns) ⟨op, a, b⟩ = some (ns ++ [a.toList])) := Lib.hid (by rw [stepN_tells hbt]; rfl)
    have F2 := Lib.hid (F1.out.put_none (x := ⟨op, a, b⟩) hkb h7)
    refine (tells_at op _ hbt).mono ?_
    rintro e w' ⟨rfl, rfl⟩
    have d2 := F2.out.c2
    have f2 := F2.out.frozen 2
    have hxp : x ≠ p := fun e => heap_ne (show W.heap[x]? = _ from N1.out) (e ▸ F2.out.blk) (by decide) rfl
    have htn := F2.out.tlen
    have hnk := F2.out.nk
    have hxt : (Value.slice A n c').ownBlock ≠ some x := fun e => by
      obtain ⟨y, hy⟩ := F2.out.told.ty e
      exact heap_ne hy (show W.heap[x]? = _ from N1.out) (by decide) rfl
    clear h1 h2 h7 hkb hbt
    go_upto_region 2 with fail
    refine Tl.region_last (S := (fun w' => w'.cell? ⟨p, 2, none⟩ = some (.slice A n c') ∧ w'.cell? ⟨x, 1, none⟩ = some (.string a))) (by kernel_rfl) 11 _ rfl rfl rfl (by kernel_rfl) (by first | go_keep | exact ⟨d2, c1⟩) (fun hHeld => ?_)
    simp only [List.setIfInBounds_toArray, List.set_cons_zero, List.set_cons_succ, Tl.idle]
    refine wpAnyH_take (i := 0) (v := ?v1) rfl (by kernel_rfl) (by kernel_rfl) (by kernel_rfl) (fun _ _ _ h => h) (Or.inl ⟨by rfl, ?hy1⟩) (by assumption) ?hr1
    case hy1 => (intro w' hSw; (try dsimp only at hSw); go_simp; try with_reducible rfl)
    (try simp only [Act.put, List.setIfInBounds_toArray, List.set_cons_zero, List.set_cons_succ])
    refine wpAnyH_take (i := 1) (v := ?v2) rfl (by kernel_rfl) (by kernel_rfl) (by kernel_rfl) (fun _ _ _ h => h) (Or.inl ⟨by rfl, ?hy2⟩) (by assumption) ?hr2
    case hy2 => (intro w' hSw; (try dsimp only at hSw); go_simp; try with_reducible rfl)
    (try simp only [Act.put, List.setIfInBounds_toArray, List.set_cons_zero, List.set_cons_succ])
    refine wpAnyH_take (i := 2) (v := ?v3) rfl (by kernel_rfl) (by kernel_rfl) (by kernel_rfl) (fun _ _ _ h => h) (Or.inl ⟨by rfl, ?hy3⟩) (by assumption) ?hr3
    case hy3 => (intro w' hSw; (try dsimp only at hSw); go_simp; try with_reducible rfl)
    (try simp only [Act.put, List.setIfInBounds_toArray, List.set_cons_zero, List.set_cons_succ])
    refine wpAnyH_take (i := 3) (v := ?v4) rfl (by kernel_rfl) (by kernel_rfl) (by kernel_rfl) (fun _ _ _ h => h) (Or.inl ⟨by rfl, ?hy4⟩) (by assumption) ?hr4
    case hy4 => (intro w' hSw; (try dsimp only at hSw); go_simp; try with_reducible rfl)
    (try simp only [Act.put, List.setIfInBounds_toArray, List.set_cons_zero, List.set_cons_succ])
    refine wpAnyH_take (i := 4) (v := ?v5) rfl (by kernel_rfl) (by kernel_rfl) (by kernel_rfl) (fun _ _ _ h => h) (Or.inl ⟨by rfl, ?hy5⟩) (by assumption) ?hr5
    case hy5 => (intro w' hSw; (try dsimp only at hSw); go_simp; try with_reducible rfl)
    (try simp only [Act.put, List.setIfInBounds_toArray, List.set_cons_zero, List.set_cons_succ])
    refine wpAnyH_take (i := 5) (v := ?v6) rfl (by kernel_rfl) (by kernel_rfl) (by kernel_rfl) (fun _ _ _ h => h) (Or.inl ⟨by rfl, ?hy6⟩) (by assumption) ?hr6
    case hy6 => (intro w' hSw; (try dsimp only at hSw); go_simp; try with_reducible rfl)
    (try simp only [Act.put, List.setIfInBounds_toArray, List.set_cons_zero, List.set_cons_succ])
    refine wpAnyH_take (i := 6) (v := ?v7) rfl (by kernel_rfl) (by kernel_rfl) (by kernel_rfl) (fun _ _ _ h => h) (Or.inl ⟨by rfl, ?hy7⟩) (by assumption) ?hr7
    case hy7 => (intro w' hSw; (try dsimp only at hSw); go_simp; try with_reducible rfl)
    (try simp only [Act.put, List.setIfInBounds_toArray, List.set_cons_zero, List.set_cons_succ])
    refine wpAnyH_ready (rs := [7]) (by kernel_rfl) (by simp) ?_
    refine AllReadyH.cons rfl (fun K hK => ?_) ?_
    · go_simp
      refine hK.out _ _ ?_ (fun hHeld => ?_)
      · go_keep
      clear hK K
      (try simp only [Act.put, List.setIfInBounds_toArray, List.set_cons_zero, List.set_cons_succ])
      refine wpAnyH_ready (rs := [8]) (by kernel_rfl) (by simp) ?_
      refine AllReadyH.cons rfl (fun K hK => ?_) ?_
      · refine kStr.step_app rfl (.tmp 11) (.tmp 14) rfl (v := .slice A n c') (l := td) (m := [a]) (B := B) (A := some ⟨W.heap.size, 0, none⟩) (n := 1) (c := 1) rfl (F2.out.told.below (by first | exact ((Below.refl _ _).drew).alloc (Nat.le_refl _) _ | exact ((Below.refl _ _).alloc (Nat.le_refl _) _).drew | exact (Below.refl _ _).alloc (Nat.le_refl _) _) (Nat.le_refl _)) rfl rfl (fun e => by cases e) (Kind.Holds.lit (heap_alloc_new _ _) rfl) (by simp; omega) (by have := F2.out.size; simp; omega) ?_
        intro v7 w7 hown7 hgrow7 hat7
        obtain ⟨A7, n7, c7, rfl, hl7, _, _, _, _⟩ := hown7.slice
        have b5 := Fr.below_of F2.out (by first | exact ((Below.refl _ _).drew).alloc (Nat.le_refl _) _ | exact ((Below.refl _ _).alloc (Nat.le_refl _) _).drew | exact (Below.refl _ _).alloc (Nat.le_refl _) _) hgrow7
        have T7 := Lib.hid (Fr.tell b5.1 hgrow7 hown7 (by rw [← hl7, List.length_append, htn]; rfl))
        have hp7 := (hgrow7.block p (by have := F2.out.lt; simp; omega) (fun e => F2.out.ne_told e.symm rfl)).trans b5.1.blk
        have e7 : w7.cell? ⟨p, 2, none⟩ = some (.slice A n c') := cell_of_row w7 p 2 _ _ (0, 0) hp7
        have f7 : w7.frozen? ⟨p, 2, none⟩ = false := by simp [World.frozen?, hp7]
        have x7 : w7.cell? ⟨x, 1, none⟩ = some (.string a) := cell_of_row w7 x 1 _ _ (0, 0) ((hgrow7.block x (by have := N1.out.lt; simp; omega) (fun e => hxt e.symm)).trans ((b5.2.block x N1.out.lt).trans N1.out))
        have B7 : Hid (Below B w (w7.setCell ⟨p, 2, none⟩ (.slice A7 n7 c7))) := Lib.hid ((BB.out.trans (b5.2.mono F2.out.size)).trans T7.out.2)
        clear hown7 hgrow7 hat7 hp7 b5 hl7
        refine hK.out _ _ ?_ (fun hHeld => ?_)
        · exact ⟨e7, x7⟩
        clear hK K
        (try simp only [Act.put, List.setIfInBounds_toArray, List.set_cons_zero, List.set_cons_succ])
        refine wpAnyH_take (i := 9) (v := ?v8) rfl (by kernel_rfl) (by kernel_rfl) (by kernel_rfl) (fun _ _ _ h => h) (Or.inl ⟨by rfl, ?hy8⟩) (by assumption) ?hr8
        case hy8 => (intro w' hSw; (try dsimp only at hSw); go_simp; try with_reducible rfl)
        (try simp only [Act.put, List.setIfInBounds_toArray, List.set_cons_zero, List.set_cons_succ])
        refine wpAnyH_take (i := 10) (v := ?v9) rfl (by kernel_rfl) (by kernel_rfl) (by kernel_rfl) (fun _ _ _ h => h) (Or.inl ⟨by rfl, ?hy9⟩) (by assumption) ?hr9
        case hy9 => (intro w' hSw; (try dsimp only at hSw); go_simp; try with_reducible rfl)
        (try simp only [Act.put, List.setIfInBounds_toArray, List.set_cons_zero, List.set_cons_succ])
        refine wpAnyH_take (i := 11) (v := ?v10) rfl (by kernel_rfl) (by kernel_rfl) (by kernel_rfl) (fun _ _ _ h => h) (Or.inl ⟨by rfl, ?hy10⟩) (by assumption) ?hr10
        case hy10 => (intro w' hSw; (try dsimp only at hSw); go_simp; try with_reducible rfl)
        (try simp only [Act.put, List.setIfInBounds_toArray, List.set_cons_zero, List.set_cons_succ])
        refine wpAnyH_done (by kernel_rfl) ?_ _
        intro K hK
        go_simp
        refine hK _ _ ?_
        clear hK K
        go_wp2_with fail
        go_end0
        exact ⟨rfl, (by rw [HP.out, HN.out]; exact Fr.is T7.out.1 rfl (by rw [List.map_append]; have := HTD.out; simp only [Option.getD_some] at this ⊢; rw [this]; rfl)), B7.out⟩
      exact AllReadyH.nil
    exact AllReadyH.nil
  | false =>
    clear HT HT2
    refine (tells_at op _ hbt).mono ?_
    rintro e w' ⟨rfl, rfl⟩
    have d1 := F1.out.c1
    have d2 := F1.out.c2
    have f1 := F1.out.frozen 1
    have f2 := F1.out.frozen 2
    have hxp : x ≠ p := fun e => heap_ne (show W.heap[x]? = _ from N1.out) (e ▸ F1.out.blk) (by decide) rfl
    have N2 : Hid (XB ((W.setCell ⟨p, 1, none⟩ (.bool (makesO op))).setCell ⟨p, 2, none⟩ (.slice none 0 0)) x ⟨op, a, b⟩) := Lib.hid (((Below.heap_setCell _ _ _ _ hxp).trans (Below.heap_setCell _ _ _ _ hxp)).trans N1.out)
    obtain ⟨mk, hmk⟩ : ∃ z, makesO op = z := ⟨_, rfl⟩
    have HB : Hid (∀ w9, Calls Try.prog 26 #[.int .i64 op] w9 fun e w' => e = .returned (.bool mk) ∧ w9 = w') := Lib.hid (fun w9 => by rw [← hmk]; exact begins_any op w9)
    have F2 := Lib.hid (F1.out.turn mk)
    rw [hmk] at N2
    have BB2 := Lib.hid (BB.out.trans F2.out.2)
    have HSN : Hid (∃ nm', stepN nm ⟨op, a, b⟩ = nm' ∧ mk = nm'.isSome ∧ nm'.getD [] = []) := Lib.hid (by
      cases mk with
      | true => exact ⟨some [], stepN_makes hmk, rfl, rfl⟩
      | false => exact ⟨none, stepN_other hmk hbt, rfl, rfl⟩)
    clear hmk
    go_wp2_with fail
    refine (HB.out _).mono ?_
    rintro e w' ⟨rfl, rfl⟩
    go_upto_region 4 with fail
    clear c0 c1 c2 d1 d2 f1 f2 N1 F1 BB
    generalize (W.setCell ⟨p, 1, none⟩ (.bool mk)).setCell ⟨p, 2, none⟩ (.slice none 0 0) = W2 at F2 BB2 N2 ⊢
    obtain ⟨nm', hn1, hn2, hn3⟩ := HSN.out
    have HN1 := Lib.hid hn1
    have HN3 : Hid ([] = nm'.getD []) := Lib.hid hn3.symm
    have HMK := Lib.hid hn2
    clear hn1 hn2 hn3 HSN HTD HB
    have c0 := N2.out.c0; have c1 := N2.out.c1; have c2 := N2.out.c2
    simp only at c0 c1 c2
    have HKE : Hid (∀ w9, Calls Try.prog 24 #[.agg #[.int .i64 op, .string a, .string b]] w9 fun e w' => e = .returned (.bool (keyedB ⟨op, a, b⟩)) ∧ Below w9.heap.size w9 w') := Lib.hid (fun w9 => keyed_any op a b w9)
    have HKT : Hid (keyedB ⟨op, a, b⟩ = true → op = 1 ∨ op = 3) := Lib.hid (fun e => by
      simp only [keyedB, makesO, Bool.and_eq_true, decide_eq_true_eq] at e
      exact e.1)
    go_wp2_with fail
    refine (HKE.out _).mono ?_
    rintro e w3 ⟨rfl, b3⟩
    have F3 := Lib.hid (F2.out.1.below b3)
    have N3 := Lib.hid (N2.out.below b3 N2.out.lt)
    have BB3 := Lib.hid (BB2.out.trans (b3.mono F2.out.1.size))
    clear b3 c0 c1 c2 F2 N2 BB2 HKE
    have KPUT : Hid (keyedB ⟨op, a, b⟩ = true → PutF (keysF (lastP P)) (keysF (lastP P ++ [⟨op, a, b⟩])) (.string b.toList) (some (.agg #[]))) := Lib.hid (fun e => keysF_put e)
    have HH : Hid (∀ w9, Below w3.heap.size w3 w9 → Calls Try.prog 23 #[.pointer (some ⟨p, 0, none⟩)] w9 fun e w' => e = .returned (.pointer (some ⟨g, d * 2, none⟩)) ∧ ∃ j, w' = w9.drewN j) := Lib.hid (fun w9 h9 => here_any p g d c w9 (F3.out.below h9).c0 (by have := F3.out.d8; omega))
    have HD : Hid (∀ w9, Below w3.heap.size w3 w9 → Calls Try.prog 18 #[.pointer (some ⟨p, 0, none⟩)] w9 fun e w' => e = .returned (.int .i64 d) ∧ w9 = w') := Lib.hid (fun w9 h9 => depth_any p d c _ w9 (F3.out.below h9).c0 (by have := F3.out.d8; omega))
    have c0 := N3.out.c0; have c1 := N3.out.c1; have c2 := N3.out.c2
    simp only at c0 c1 c2
    have g0 := F3.out.place.1
    have hdl : d < ps.length := by have := F3.out.pl; omega
    obtain ⟨m, hm⟩ : ∃ m, ps[d].m = m := ⟨_, rfl⟩
    rw [hm] at g0
    have HM := Lib.hid hm
    clear hm
    by_cases h1 : op = 1
    · have q1 := int_eq h1
      have h7 : op ≠ 7 := by omega
      cases hkb : keyedB ⟨op, a, b⟩ with
      | true =>
        go_upto_region 5 with fail
        refine Tl.region_last (S := (fun w' => w'.cell? ⟨g, d * 2, none⟩ = some (.map (some m)) ∧ w'.cell? ⟨x, 2, none⟩ = some (.string b))) (by kernel_rfl) 8 _ rfl rfl rfl (by kernel_rfl) (by first | go_keep | exact ⟨g0, c2⟩) (fun hHeld => ?_)
        simp only [List.setIfInBounds_toArray, List.set_cons_zero, List.set_cons_succ, Tl.idle]
        refine wpAnyH_take (i := 0) (v := ?v19) rfl (by kernel_rfl) (by kernel_rfl) (by kernel_rfl) (fun _ _ _ h => h) (Or.inl ⟨by rfl, ?hy19⟩) (by assumption) ?hr19
        case hy19 => (intro w' hSw; (try dsimp only at hSw); go_simp; try with_reducible rfl)
        (try simp only [Act.put, List.setIfInBounds_toArray, List.set_cons_zero, List.set_cons_succ])
        refine wpAnyH_take (i := 5) (v := ?v20) rfl (by kernel_rfl) (by kernel_rfl) (by kernel_rfl) (fun _ _ _ h => h) (Or.inl ⟨by rfl, ?hy20⟩) (by assumption) ?hr20
        case hy20 => (intro w' hSw; (try dsimp only at hSw); go_simp; try with_reducible rfl)
        (try simp only [Act.put, List.setIfInBounds_toArray, List.set_cons_zero, List.set_cons_succ])
        refine wpAnyH_take (i := 6) (v := ?v21) rfl (by kernel_rfl) (by kernel_rfl) (by kernel_rfl) (fun _ _ _ h => h) (Or.inl ⟨by rfl, ?hy21⟩) (by assumption) ?hr21
        case hy21 => (intro w' hSw; (try dsimp only at hSw); go_simp; try with_reducible rfl)
        (try simp only [Act.put, List.setIfInBounds_toArray, List.set_cons_zero, List.set_cons_succ])
        refine wpAnyH_take (i := 7) (v := ?v22) rfl (by kernel_rfl) (by kernel_rfl) (by kernel_rfl) (fun _ _ _ h => h) (Or.inl ⟨by rfl, ?hy22⟩) (by assumption) ?hr22
        case hy22 => (intro w' hSw; (try dsimp only at hSw); go_simp; try with_reducible rfl)
        (try simp only [Act.put, List.setIfInBounds_toArray, List.set_cons_zero, List.set_cons_succ])
        refine wpAnyH_ready (rs := [1]) (by kernel_rfl) (by simp) ?_
        refine AllReadyH.cons rfl (fun K hK => ?_) ?_
        · go_simp
          go_at_call 23
          refine (HH.out _ (by first | exact Below.refl _ _ | exact (Below.refl _ _).drew)).mono ?_
          rintro e w5 ⟨rfl, j5, hw5⟩
          have B5 : Hid (Below w3.heap.size w3 w5) := Lib.hid (by first | exact hw5 ▸ bl_drewN (Below.refl _ _) _ | exact hw5 ▸ bl_drewN (Below.refl _ _).drew _)
          clear hw5
          refine hK.out _ _ ?_ (fun hHeld => ?_)
          · exact ⟨(F3.out.below B5.out).place.1.trans (by rw [HM.out]), (N3.out.below B5.out N3.out.lt).c2⟩
          clear hK K
          (try simp only [Act.put, List.setIfInBounds_toArray, List.set_cons_zero, List.set_cons_succ])
          refine wpAnyH_take (i := 2) (v := ?v23) rfl (by kernel_rfl) (by kernel_rfl) (by kernel_rfl) (fun _ _ _ h => h) (Or.inl ⟨by rfl, ?hy23⟩) (by assumption) ?hr23
          case hy23 => (intro w' hSw; (try dsimp only at hSw); go_simp; try with_reducible rfl)
          (try simp only [Act.put, List.setIfInBounds_toArray, List.set_cons_zero, List.set_cons_succ])
          refine wpAnyH_take (i := 3) (v := ?v24) rfl (by kernel_rfl) (by kernel_rfl) (by kernel_rfl) (fun _ _ _ h => h) (Or.inl ⟨by rfl, ?hy24⟩) (by assumption) ?hr24
          case hy24 => (intro w' hSw; (try dsimp only at hSw); go_simp; try with_reducible rfl)
          (try simp only [Act.put, List.setIfInBounds_toArray, List.set_cons_zero, List.set_cons_succ])
          refine wpAnyH_take (i := 4) (v := ?v25) rfl (by kernel_rfl) (by kernel_rfl) (by kernel_rfl) (fun _ _ _ h => h) (Or.inl ⟨by rfl, ?hy25⟩) (by assumption) ?hr25
          case hy25 => (intro w' hSw; (try dsimp only at hSw); go_simp; try with_reducible rfl)
          (try simp only [Act.put, List.setIfInBounds_toArray, List.set_cons_zero, List.set_cons_succ])
          refine wpAnyH_take (i := 8) (v := ?v26) rfl (by kernel_rfl) (by kernel_rfl) (by kernel_rfl) (fun _ _ _ h => h) (Or.inl ⟨by rfl, ?hy26⟩) (by assumption) ?hr26
          case hy26 => (intro w' hSw; (try dsimp only at hSw); go_simp; try with_reducible rfl)
          (try simp only [Act.put, List.setIfInBounds_toArray, List.set_cons_zero, List.set_cons_succ])
          refine wpAnyH_done (by kernel_rfl) ?_ _
          intro K hK
          obtain ⟨s5, M5⟩ := (F3.out.below B5.out).map
          obtain ⟨es5, cl5, hb5⟩ := M5.blk
          rw [HM.out] at hb5
          refine step_store rfl _ _ _ rfl lawS Try.underlying48 (by rw [HM.out] at M5; rfl) (by rw [HM.out] at M5; exact M5) hk2 rfl rfl HKEY.out (KPUT.out hkb) ?_
          intro w7 m7 g7
          have P7 := Fr.put_key (x := ⟨op, a, b⟩) (F3.out.below B5.out) h7 (by rw [HM.out]; exact g7) (by rw [HM.out]; exact m7)
          have F4 := Lib.hid P7.1
          have BB4 := Lib.hid ((BB3.out.trans (B5.out.mono F3.out.size)).trans P7.2)
          have N4 : Hid (XB w7 x ⟨op, a, b⟩) := Lib.hid ((g7.block x (N3.out.below B5.out N3.out.lt).lt (fun e => (map_ne hb5 (N3.out.below B5.out N3.out.lt)) (Option.some.inj e).symm)).trans (N3.out.below B5.out N3.out.lt))
          refine hK _ _ ?_
          clear hK K P7 g7 m7 M5 hb5 c0 c1 c2 g0 F3 N3 BB3
          generalize w7 = w9 at F4 BB4 N4 ⊢
          have c0 := N4.out.c0
          simp only at c0
          have d0 := F4.out.c0
          have HP : Hid (stepP P ⟨op, a, b⟩ = lastX P ⟨op, a, b⟩ ++ [[]]) := Lib.hid (stepP_open h1)
          go_upto_region 8 with fail
          refine Tl.region_last (S := (fun w' => w'.cell? ⟨p, 0, none⟩ = some (.slice (some ⟨g, 0, none⟩) (d + 1) c))) (by kernel_rfl) 10 _ rfl rfl rfl (by kernel_rfl) (by first | go_keep | exact d0) (fun hHeld => ?_)
          simp only [List.setIfInBounds_toArray, List.set_cons_zero, List.set_cons_succ, Tl.idle]
          refine wpAnyH_take (i := 0) (v := ?v11) rfl (by kernel_rfl) (by kernel_rfl) (by kernel_rfl) (fun _ _ _ h => h) (Or.inl ⟨by rfl, ?hy11⟩) (by assumption) ?hr11
          case hy11 => (intro w' hSw; (try dsimp only at hSw); go_simp; try with_reducible rfl)
          (try simp only [Act.put, List.setIfInBounds_toArray, List.set_cons_zero, List.set_cons_succ])
          refine wpAnyH_take (i := 1) (v := ?v12) rfl (by kernel_rfl) (by kernel_rfl) (by kernel_rfl) (fun _ _ _ h => h) (Or.inl ⟨by rfl, ?hy12⟩) (by assumption) ?hr12
          case hy12 => (intro w' hSw; (try dsimp only at hSw); go_simp; try with_reducible rfl)
          (try simp only [Act.put, List.setIfInBounds_toArray, List.set_cons_zero, List.set_cons_succ])
          refine wpAnyH_take (i := 2) (v := ?v13) rfl (by kernel_rfl) (by kernel_rfl) (by kernel_rfl) (fun _ _ _ h => h) (Or.inl ⟨by rfl, ?hy13⟩) (by assumption) ?hr13
          case hy13 => (intro w' hSw; (try dsimp only at hSw); go_simp; try with_reducible rfl)
          (try simp only [Act.put, List.setIfInBounds_toArray, List.set_cons_zero, List.set_cons_succ])
          refine wpAnyH_take (i := 3) (v := ?v14) rfl (by kernel_rfl) (by kernel_rfl) (by kernel_rfl) (fun _ _ _ h => h) (Or.inl ⟨by rfl, ?hy14⟩) (by assumption) ?hr14
          case hy14 => (intro w' hSw; (try dsimp only at hSw); go_simp; try with_reducible rfl)
          (try simp only [Act.put, List.setIfInBounds_toArray, List.set_cons_zero, List.set_cons_succ])
          refine wpAnyH_take (i := 4) (v := ?v15) rfl (by kernel_rfl) (by kernel_rfl) (by kernel_rfl) (fun _ _ _ h => h) (Or.inl ⟨by rfl, ?hy15⟩) (by assumption) ?hr15
          case hy15 => (intro w' hSw; (try dsimp only at hSw); go_simp; try with_reducible rfl)
          (try simp only [Act.put, List.setIfInBounds_toArray, List.set_cons_zero, List.set_cons_succ])
          refine wpAnyH_ready (rs := [5]) (by kernel_rfl) (by simp) ?_
          refine AllReadyH.cons rfl (fun K hK => ?_) ?_
          · go_simp
            go_at_call 15
            refine (newPlace_any _).mono ?_
            rintro e w5 ⟨m5, rfl, hm5, M5, b5⟩
            have B5 : Hid (Below w9.heap.size w9 w5) := Lib.hid (by first | exact b5 | exact (Below.refl _ _).drew.trans b5)
            have HM5 : Hid (w9.heap.size ≤ m5) := Lib.hid hm5
            have MM5 := Lib.hid M5
            have F5 := Lib.hid (F4.out.below B5.out)
            clear b5 hm5 M5
            refine hK.out _ _ ?_ (fun hHeld => ?_)
            · exact F5.out.c0
            clear hK K
            (try simp only [Act.put, List.setIfInBounds_toArray, List.set_cons_zero, List.set_cons_succ])
            refine wpAnyH_ready (rs := [6]) (by kernel_rfl) (by simp) ?_
            refine AllReadyH.cons rfl (fun K hK => ?_) ?_
            · go_simp
              refine hK.out _ _ ?_ (fun hHeld => ?_)
              · first | go_keep | exact (F5.out.below (by first | exact ((Below.refl _ _).drew).alloc (Nat.le_refl _) _ | exact ((Below.refl _ _).alloc (Nat.le_refl _) _).drew | exact (Below.refl _ _).alloc (Nat.le_refl _) _)).c0
              clear hK K
              (try simp only [Act.put, List.setIfInBounds_toArray, List.set_cons_zero, List.set_cons_succ])
              refine wpAnyH_ready (rs := [7]) (by kernel_rfl) (by simp) ?_
              refine AllReadyH.cons rfl (fun K hK => ?_) ?_
              · refine kPl.step_app rfl (.tmp 45) (.tmp 47) rfl (v := .slice (some ⟨g, 0, none⟩) (d + 1) c) (l := ps) (m := [⟨m5, false⟩]) (B := B) (A := some ⟨w5.heap.size, 0, none⟩) (n := 1) (c := 1) rfl (F5.out.own.below (by first | exact ((Below.refl _ _).drew).alloc (Nat.le_refl _) _ | exact ((Below.refl _ _).alloc (Nat.le_refl _) _).drew | exact (Below.refl _ _).alloc (Nat.le_refl _) _) (Nat.le_refl _)) rfl rfl (fun e => by cases e) (Kind.Holds.lit (heap_alloc_new _ _) rfl) (by have := F5.out.pl; have := F5.out.d8; simp; omega) (by have := F5.out.size; simp; omega) ?_
                intro v7 w7 hown7 hgrow7 hat7
                obtain ⟨g7, n7, c7, rfl, hl7⟩ := own_form hown7 (by simp)
                have b7 := Fr.below_of F5.out (by first | exact ((Below.refl _ _).drew).alloc (Nat.le_refl _) _ | exact ((Below.refl _ _).alloc (Nat.le_refl _) _).drew | exact (Below.refl _ _).alloc (Nat.le_refl _) _) hgrow7
                have T7 := Lib.hid (Fr.push b7.1 (HO.out h1) hgrow7 hown7 (by rw [← hl7, List.length_append, F5.out.pl]; rfl) (MM5.out.below b7.2 MM5.out.lt) (by have := HM5.out; have := F4.out.size; omega) (fun i hi => by
                  obtain ⟨_, _, s, M⟩ := F4.out.at_ i hi (by have := F4.out.len; have := F4.out.pl; omega)
                  have := M.lt
                  have := HM5.out
                  omega))
                have hp7 := (hgrow7.block p (by have := F5.out.lt; simp; omega) (fun e => F5.out.ne_own (Option.some.inj e).symm)).trans b7.1.blk
                have e7 : w7.cell? ⟨p, 0, none⟩ = some (.slice (some ⟨g, 0, none⟩) (d + 1) c) := cell_of_row w7 p 0 _ _ (0, 0) hp7
                have f7 : w7.frozen? ⟨p, 0, none⟩ = false := by simp [World.frozen?, hp7]
                have B7 : Hid (Below B w (w7.setCell ⟨p, 0, none⟩ (.slice (some ⟨g7, 0, none⟩) n7 c7))) := Lib.hid (((BB4.out.trans (B5.out.mono F4.out.size)).trans (b7.2.mono F5.out.size)).trans T7.out.2)
                clear hown7 hgrow7 hat7 hp7 b7 hl7
                refine hK.out _ _ ?_ (fun hHeld => ?_)
                · exact e7
                clear hK K
                (try simp only [Act.put, List.setIfInBounds_toArray, List.set_cons_zero, List.set_cons_succ])
                refine wpAnyH_take (i := 8) (v := ?v16) rfl (by kernel_rfl) (by kernel_rfl) (by kernel_rfl) (fun _ _ _ h => h) (Or.inl ⟨by rfl, ?hy16⟩) (by assumption) ?hr16
                case hy16 => (intro w' hSw; (try dsimp only at hSw); go_simp; try with_reducible rfl)
                (try simp only [Act.put, List.setIfInBounds_toArray, List.set_cons_zero, List.set_cons_succ])
                refine wpAnyH_take (i := 9) (v := ?v17) rfl (by kernel_rfl) (by kernel_rfl) (by kernel_rfl) (fun _ _ _ h => h) (Or.inl ⟨by rfl, ?hy17⟩) (by assumption) ?hr17
                case hy17 => (intro w' hSw; (try dsimp only at hSw); go_simp; try with_reducible rfl)
                (try simp only [Act.put, List.setIfInBounds_toArray, List.set_cons_zero, List.set_cons_succ])
                refine wpAnyH_take (i := 10) (v := ?v18) rfl (by kernel_rfl) (by kernel_rfl) (by kernel_rfl) (fun _ _ _ h => h) (Or.inl ⟨by rfl, ?hy18⟩) (by assumption) ?hr18
                case hy18 => (intro w' hSw; (try dsimp only at hSw); go_simp; try with_reducible rfl)
                (try simp only [Act.put, List.setIfInBounds_toArray, List.set_cons_zero, List.set_cons_succ])
                refine wpAnyH_done (by kernel_rfl) ?_ _
                intro K hK
                go_simp
                refine hK _ _ ?_
                clear hK K
                go_wp2_with fail
                go_end0
                exact ⟨rfl, (by rw [HP.out, HN1.out]; exact Fr.is T7.out.1 HMK.out HN3.out), B7.out⟩
              exact AllReadyH.nil
            exact AllReadyH.nil
          exact AllReadyH.nil
        exact AllReadyH.nil
      | false =>
        have F4 := Lib.hid (F3.out.put_none (x := ⟨op, a, b⟩) hkb h7 |>.mono (Nat.le_succ k))
        have BB4 := BB3
        have N4 := N3
        clear c0 c1 c2 g0 F3 N3 BB3
        generalize w3 = w9 at F4 BB4 N4 HH HD ⊢
        have c0 := N4.out.c0
        simp only at c0
        have d0 := F4.out.c0
        have HP : Hid (stepP P ⟨op, a, b⟩ = lastX P ⟨op, a, b⟩ ++ [[]]) := Lib.hid (stepP_open h1)
        go_upto_region 8 with fail
        refine Tl.region_last (S := (fun w' => w'.cell? ⟨p, 0, none⟩ = some (.slice (some ⟨g, 0, none⟩) (d + 1) c))) (by kernel_rfl) 10 _ rfl rfl rfl (by kernel_rfl) (by first | go_keep | exact d0) (fun hHeld => ?_)
        simp only [List.setIfInBounds_toArray, List.set_cons_zero, List.set_cons_succ, Tl.idle]
        refine wpAnyH_take (i := 0) (v := ?v27) rfl (by kernel_rfl) (by kernel_rfl) (by kernel_rfl) (fun _ _ _ h => h) (Or.inl ⟨by rfl, ?hy27⟩) (by assumption) ?hr27
        case hy27 => (intro w' hSw; (try dsimp only at hSw); go_simp; try with_reducible rfl)
        (try simp only [Act.put, List.setIfInBounds_toArray, List.set_cons_zero, List.set_cons_succ])
        refine wpAnyH_take (i := 1) (v := ?v28) rfl (by kernel_rfl) (by kernel_rfl) (by kernel_rfl) (fun _ _ _ h => h) (Or.inl ⟨by rfl, ?hy28⟩) (by assumption) ?hr28
        case hy28 => (intro w' hSw; (try dsimp only at hSw); go_simp; try with_reducible rfl)
        (try simp only [Act.put, List.setIfInBounds_toArray, List.set_cons_zero, List.set_cons_succ])
        refine wpAnyH_take (i := 2) (v := ?v29) rfl (by kernel_rfl) (by kernel_rfl) (by kernel_rfl) (fun _ _ _ h => h) (Or.inl ⟨by rfl, ?hy29⟩) (by assumption) ?hr29
        case hy29 => (intro w' hSw; (try dsimp only at hSw); go_simp; try with_reducible rfl)
        (try simp only [Act.put, List.setIfInBounds_toArray, List.set_cons_zero, List.set_cons_succ])
        refine wpAnyH_take (i := 3) (v := ?v30) rfl (by kernel_rfl) (by kernel_rfl) (by kernel_rfl) (fun _ _ _ h => h) (Or.inl ⟨by rfl, ?hy30⟩) (by assumption) ?hr30
        case hy30 => (intro w' hSw; (try dsimp only at hSw); go_simp; try with_reducible rfl)
        (try simp only [Act.put, List.setIfInBounds_toArray, List.set_cons_zero, List.set_cons_succ])
        refine wpAnyH_take (i := 4) (v := ?v31) rfl (by kernel_rfl) (by kernel_rfl) (by kernel_rfl) (fun _ _ _ h => h) (Or.inl ⟨by rfl, ?hy31⟩) (by assumption) ?hr31
        case hy31 => (intro w' hSw; (try dsimp only at hSw); go_simp; try with_reducible rfl)
        (try simp only [Act.put, List.setIfInBounds_toArray, List.set_cons_zero, List.set_cons_succ])
        refine wpAnyH_ready (rs := [5]) (by kernel_rfl) (by simp) ?_
        refine AllReadyH.cons rfl (fun K hK => ?_) ?_
        · go_simp
          go_at_call 15
          refine (newPlace_any _).mono ?_
          rintro e w5 ⟨m5, rfl, hm5, M5, b5⟩
          have B5 : Hid (Below w9.heap.size w9 w5) := Lib.hid (by first | exact b5 | exact (Below.refl _ _).drew.trans b5)
          have HM5 : Hid (w9.heap.size ≤ m5) := Lib.hid hm5
          have MM5 := Lib.hid M5
          have F5 := Lib.hid (F4.out.below B5.out)
          clear b5 hm5 M5
          refine hK.out _ _ ?_ (fun hHeld => ?_)
          · exact F5.out.c0
          clear hK K
          (try simp only [Act.put, List.setIfInBounds_toArray, List.set_cons_zero, List.set_cons_succ])
          refine wpAnyH_ready (rs := [6]) (by kernel_rfl) (by simp) ?_
          refine AllReadyH.cons rfl (fun K hK => ?_) ?_
          · go_simp
            refine hK.out _ _ ?_ (fun hHeld => ?_)
            · first | go_keep | exact (F5.out.below (by first | exact ((Below.refl _ _).drew).alloc (Nat.le_refl _) _ | exact ((Below.refl _ _).alloc (Nat.le_refl _) _).drew | exact (Below.refl _ _).alloc (Nat.le_refl _) _)).c0
            clear hK K
            (try simp only [Act.put, List.setIfInBounds_toArray, List.set_cons_zero, List.set_cons_succ])
            refine wpAnyH_ready (rs := [7]) (by kernel_rfl) (by simp) ?_
            refine AllReadyH.cons rfl (fun K hK => ?_) ?_
            · refine kPl.step_app rfl (.tmp 45) (.tmp 47) rfl (v := .slice (some ⟨g, 0, none⟩) (d + 1) c) (l := ps) (m := [⟨m5, false⟩]) (B := B) (A := some ⟨w5.heap.size, 0, none⟩) (n := 1) (c := 1) rfl (F5.out.own.below (by first | exact ((Below.refl _ _).drew).alloc (Nat.le_refl _) _ | exact ((Below.refl _ _).alloc (Nat.le_refl _) _).drew | exact (Below.refl _ _).alloc (Nat.le_refl _) _) (Nat.le_refl _)) rfl rfl (fun e => by cases e) (Kind.Holds.lit (heap_alloc_new _ _) rfl) (by have := F5.out.pl; have := F5.out.d8; simp; omega) (by have := F5.out.size; simp; omega) ?_
              intro v7 w7 hown7 hgrow7 hat7
              obtain ⟨g7, n7, c7, rfl, hl7⟩ := own_form hown7 (by simp)
              have b7 := Fr.below_of F5.out (by first | exact ((Below.refl _ _).drew).alloc (Nat.le_refl _) _ | exact ((Below.refl _ _).alloc (Nat.le_refl _) _).drew | exact (Below.refl _ _).alloc (Nat.le_refl _) _) hgrow7
              have T7 := Lib.hid (Fr.push b7.1 (HO.out h1) hgrow7 hown7 (by rw [← hl7, List.length_append, F5.out.pl]; rfl) (MM5.out.below b7.2 MM5.out.lt) (by have := HM5.out; have := F4.out.size; omega) (fun i hi => by
                obtain ⟨_, _, s, M⟩ := F4.out.at_ i hi (by have := F4.out.len; have := F4.out.pl; omega)
                have := M.lt
                have := HM5.out
                omega))
              have hp7 := (hgrow7.block p (by have := F5.out.lt; simp; omega) (fun e => F5.out.ne_own (Option.some.inj e).symm)).trans b7.1.blk
              have e7 : w7.cell? ⟨p, 0, none⟩ = some (.slice (some ⟨g, 0, none⟩) (d + 1) c) := cell_of_row w7 p 0 _ _ (0, 0) hp7
              have f7 : w7.frozen? ⟨p, 0, none⟩ = false := by simp [World.frozen?, hp7]
              have B7 : Hid (Below B w (w7.setCell ⟨p, 0, none⟩ (.slice (some ⟨g7, 0, none⟩) n7 c7))) := Lib.hid (((BB4.out.trans (B5.out.mono F4.out.size)).trans (b7.2.mono F5.out.size)).trans T7.out.2)
              clear hown7 hgrow7 hat7 hp7 b7 hl7
              refine hK.out _ _ ?_ (fun hHeld => ?_)
              · exact e7
              clear hK K
              (try simp only [Act.put, List.setIfInBounds_toArray, List.set_cons_zero, List.set_cons_succ])
              refine wpAnyH_take (i := 8) (v := ?v32) rfl (by kernel_rfl) (by kernel_rfl) (by kernel_rfl) (fun _ _ _ h => h) (Or.inl ⟨by rfl, ?hy32⟩) (by assumption) ?hr32
              case hy32 => (intro w' hSw; (try dsimp only at hSw); go_simp; try with_reducible rfl)
              (try simp only [Act.put, List.setIfInBounds_toArray, List.set_cons_zero, List.set_cons_succ])
              refine wpAnyH_take (i := 9) (v := ?v33) rfl (by kernel_rfl) (by kernel_rfl) (by kernel_rfl) (fun _ _ _ h => h) (Or.inl ⟨by rfl, ?hy33⟩) (by assumption) ?hr33
              case hy33 => (intro w' hSw; (try dsimp only at hSw); go_simp; try with_reducible rfl)
              (try simp only [Act.put, List.setIfInBounds_toArray, List.set_cons_zero, List.set_cons_succ])
              refine wpAnyH_take (i := 10) (v := ?v34) rfl (by kernel_rfl) (by kernel_rfl) (by kernel_rfl) (fun _ _ _ h => h) (Or.inl ⟨by rfl, ?hy34⟩) (by assumption) ?hr34
              case hy34 => (intro w' hSw; (try dsimp only at hSw); go_simp; try with_reducible rfl)
              (try simp only [Act.put, List.setIfInBounds_toArray, List.set_cons_zero, List.set_cons_succ])
              refine wpAnyH_done (by kernel_rfl) ?_ _
              intro K hK
              go_simp
              refine hK _ _ ?_
              clear hK K
              go_wp2_with fail
              go_end0
              exact ⟨rfl, (by rw [HP.out, HN1.out]; exact Fr.is T7.out.1 HMK.out HN3.out), B7.out⟩
            exact AllReadyH.nil
          exact AllReadyH.nil
        exact AllReadyH.nil
    · have q1 := int_ne h1
      by_cases h2 : op = 2
      · have q2 := int_eq h2
        have hkb : keyedB ⟨op, a, b⟩ = false := by
          cases hz : keyedB ⟨op, a, b⟩ with
          | false => rfl
          | true => exact absurd (HKT.out hz) (by omega)
        rw [hkb]
        obtain ⟨d', hd'⟩ := HC.out h2
        have d0 := F3.out.c0
        have f0 := F3.out.frozen 0
        have i0 : (0 : Int) ≤ (d : Int) := by omega
        have i1 : (d : Int) ≤ (c : Int) := by have := F3.out.cap; omega
        have HP : Hid (stepP P ⟨op, a, b⟩ = P.dropLast) := Lib.hid (stepP_close h2)
        have T7 := Lib.hid (F3.out.pop hd')
        clear hd'
        go_upto_region 10 with fail
        refine Tl.region_last (S := (fun w' => w'.cell? ⟨p, 0, none⟩ = some (.slice (some ⟨g, 0, none⟩) (d + 1) c))) (by kernel_rfl) 10 _ rfl rfl rfl (by kernel_rfl) (by first | go_keep | exact d0) (fun hHeld => ?_)
        simp only [List.setIfInBounds_toArray, List.set_cons_zero, List.set_cons_succ, Tl.idle]
        refine wpAnyH_take (i := 0) (v := ?v35) rfl (by kernel_rfl) (by kernel_rfl) (by kernel_rfl) (fun _ _ _ h => h) (Or.inl ⟨by rfl, ?hy35⟩) (by assumption) ?hr35
        case hy35 => (intro w' hSw; (try dsimp only at hSw); go_simp; try with_reducible rfl)
        (try simp only [Act.put, List.setIfInBounds_toArray, List.set_cons_zero, List.set_cons_succ])
        refine wpAnyH_take (i := 1) (v := ?v36) rfl (by kernel_rfl) (by kernel_rfl) (by kernel_rfl) (fun _ _ _ h => h) (Or.inl ⟨by rfl, ?hy36⟩) (by assumption) ?hr36
        case hy36 => (intro w' hSw; (try dsimp only at hSw); go_simp; try with_reducible rfl)
        (try simp only [Act.put, List.setIfInBounds_toArray, List.set_cons_zero, List.set_cons_succ])
        refine wpAnyH_take (i := 2) (v := ?v37) rfl (by kernel_rfl) (by kernel_rfl) (by kernel_rfl) (fun _ _ _ h => h) (Or.inl ⟨by rfl, ?hy37⟩) (by assumption) ?hr37
        case hy37 => (intro w' hSw; (try dsimp only at hSw); go_simp; try with_reducible rfl)
        (try simp only [Act.put, List.setIfInBounds_toArray, List.set_cons_zero, List.set_cons_succ])
        refine wpAnyH_take (i := 3) (v := ?v38) rfl (by kernel_rfl) (by kernel_rfl) (by kernel_rfl) (fun _ _ _ h => h) (Or.inl ⟨by rfl, ?hy38⟩) (by assumption) ?hr38
        case hy38 => (intro w' hSw; (try dsimp only at hSw); go_simp; try with_reducible rfl)
        (try simp only [Act.put, List.setIfInBounds_toArray, List.set_cons_zero, List.set_cons_succ])
        refine wpAnyH_take (i := 4) (v := ?v39) rfl (by kernel_rfl) (by kernel_rfl) (by kernel_rfl) (fun _ _ _ h => h) (Or.inl ⟨by rfl, ?hy39⟩) (by assumption) ?hr39
        case hy39 => (intro w' hSw; (try dsimp only at hSw); go_simp; try with_reducible rfl)
        (try simp only [Act.put, List.setIfInBounds_toArray, List.set_cons_zero, List.set_cons_succ])
        refine wpAnyH_take (i := 5) (v := ?v40) rfl (by kernel_rfl) (by kernel_rfl) (by kernel_rfl) (fun _ _ _ h => h) (Or.inl ⟨by rfl, ?hy40⟩) (by assumption) ?hr40
        case hy40 => (intro w' hSw; (try dsimp only at hSw); go_simp; try with_reducible rfl)
        (try simp only [Act.put, List.setIfInBounds_toArray, List.set_cons_zero, List.set_cons_succ])
        refine wpAnyH_ready (rs := [6]) (by kernel_rfl) (by simp) ?_
        refine AllReadyH.cons rfl (fun K hK => ?_) ?_
        · go_simp
          go_at_call 18
          refine (HD.out _ (by first | exact Below.refl _ _ | exact (Below.refl _ _).drew)).mono ?_
          rintro e w5 ⟨rfl, rfl⟩
          refine hK.out _ _ ?_ (fun hHeld => ?_)
          · go_keep
          clear hK K
          (try simp only [Act.put, List.setIfInBounds_toArray, List.set_cons_zero, List.set_cons_succ])
          refine wpAnyH_ready (rs := [7]) (by kernel_rfl) (by simp) ?_
          refine AllReadyH.cons rfl (fun K hK => ?_) ?_
          · go_simp
            refine hK.out _ _ ?_ (fun hHeld => ?_)
            · go_keep
            clear hK K
            (try simp only [Act.put, List.setIfInBounds_toArray, List.set_cons_zero, List.set_cons_succ])
            refine wpAnyH_take (i := 8) (v := ?v41) rfl (by kernel_rfl) (by kernel_rfl) (by kernel_rfl) (fun _ _ _ h => h) (Or.inl ⟨by rfl, ?hy41⟩) (by assumption) ?hr41
            case hy41 => (intro w' hSw; (try dsimp only at hSw); go_simp; try with_reducible rfl)
            (try simp only [Act.put, List.setIfInBounds_toArray, List.set_cons_zero, List.set_cons_succ])
            refine wpAnyH_take (i := 9) (v := ?v42) rfl (by kernel_rfl) (by kernel_rfl) (by kernel_rfl) (fun _ _ _ h => h) (Or.inl ⟨by rfl, ?hy42⟩) (by assumption) ?hr42
            case hy42 => (intro w' hSw; (try dsimp only at hSw); go_simp; try with_reducible rfl)
            (try simp only [Act.put, List.setIfInBounds_toArray, List.set_cons_zero, List.set_cons_succ])
            refine wpAnyH_take (i := 10) (v := ?v43) rfl (by kernel_rfl) (by kernel_rfl) (by kernel_rfl) (fun _ _ _ h => h) (Or.inl ⟨by rfl, ?hy43⟩) (by assumption) ?hr43
            case hy43 => (intro w' hSw; (try dsimp only at hSw); go_simp; try with_reducible rfl)
            (try simp only [Act.put, List.setIfInBounds_toArray, List.set_cons_zero, List.set_cons_succ])
            refine wpAnyH_done (by kernel_rfl) ?_ _
            intro K hK
            go_simp
            refine hK _ _ ?_
            clear hK K
            go_wp2_with fail
            go_end0
            exact ⟨rfl, (by rw [HP.out, HN1.out]; exact Fr.is ((T7.out.1.below ((Below.refl _ _).drew)).mono (Nat.le_succ k)) HMK.out HN3.out), (BB3.out.trans T7.out.2).drew⟩
          exact AllReadyH.nil
        exact AllReadyH.nil
      · have q2 := int_ne h2
        by_cases h7 : op = 7
        · have q7 := int_eq h7
          have hkb : keyedB ⟨op, a, b⟩ = false := by
            cases hz : keyedB ⟨op, a, b⟩ with
            | false => rfl
            | true => exact absurd (HKT.out hz) (by omega)
          rw [hkb]
          have HP : Hid (stepP P ⟨op, a, b⟩ = lastX P ⟨op, a, b⟩) := Lib.hid (stepP_other (by omega) (by omega))
          go_wp2_with fail
          refine (HH.out _ (Below.refl _ _)).mono ?_
          rintro e w5 ⟨rfl, j5, hw5⟩
          have B5 : Hid (Below w3.heap.size w3 w5) := Lib.hid (hw5 ▸ bl_drewN (Below.refl _ _) _)
          have F5 := Lib.hid (F3.out.below B5.out)
          obtain ⟨_, g1, fg⟩ := F5.out.place
          have T7 := Lib.hid (Fr.skip (x := ⟨op, a, b⟩) F5.out h7)
          clear hw5 g0
          go_wp2_with fail
          go_end0
          exact ⟨rfl, (by rw [HP.out, HN1.out]; exact Fr.is T7.out.1 HMK.out HN3.out), (BB3.out.trans (B5.out.mono F3.out.size)).trans T7.out.2⟩
        · have q7 := int_ne h7
          cases hkb : keyedB ⟨op, a, b⟩ with
          | true =>
            go_upto_region 5 with fail
            refine Tl.region_last (S := (fun w' => w'.cell? ⟨g, d * 2, none⟩ = some (.map (some m)) ∧ w'.cell? ⟨x, 2, none⟩ = some (.string b))) (by kernel_rfl) 8 _ rfl rfl rfl (by kernel_rfl) (by first | go_keep | exact ⟨g0, c2⟩) (fun hHeld => ?_)
            simp only [List.setIfInBounds_toArray, List.set_cons_zero, List.set_cons_succ, Tl.idle]
            refine wpAnyH_take (i := 0) (v := ?v44) rfl (by kernel_rfl) (by kernel_rfl) (by kernel_rfl) (fun _ _ _ h => h) (Or.inl ⟨by rfl, ?hy44⟩) (by assumption) ?hr44
            case hy44 => (intro w' hSw; (try dsimp only at hSw); go_simp; try with_reducible rfl)
            (try simp only [Act.put, List.setIfInBounds_toArray, List.set_cons_zero, List.set_cons_succ])
            refine wpAnyH_take (i := 5) (v := ?v45) rfl (by kernel_rfl) (by kernel_rfl) (by kernel_rfl) (fun _ _ _ h => h) (Or.inl ⟨by rfl, ?hy45⟩) (by assumption) ?hr45
            case hy45 => (intro w' hSw; (try dsimp only at hSw); go_simp; try with_reducible rfl)
            (try simp only [Act.put, List.setIfInBounds_toArray, List.set_cons_zero, List.set_cons_succ])
            refine wpAnyH_take (i := 6) (v := ?v46) rfl (by kernel_rfl) (by kernel_rfl) (by kernel_rfl) (fun _ _ _ h => h) (Or.inl ⟨by rfl, ?hy46⟩) (by assumption) ?hr46
            case hy46 => (intro w' hSw; (try dsimp only at hSw); go_simp; try with_reducible rfl)
            (try simp only [Act.put, List.setIfInBounds_toArray, List.set_cons_zero, List.set_cons_succ])
            refine wpAnyH_take (i := 7) (v := ?v47) rfl (by kernel_rfl) (by kernel_rfl) (by kernel_rfl) (fun _ _ _ h => h) (Or.inl ⟨by rfl, ?hy47⟩) (by assumption) ?hr47
            case hy47 => (intro w' hSw; (try dsimp only at hSw); go_simp; try with_reducible rfl)
            (try simp only [Act.put, List.setIfInBounds_toArray, List.set_cons_zero, List.set_cons_succ])
            refine wpAnyH_ready (rs := [1]) (by kernel_rfl) (by simp) ?_
            refine AllReadyH.cons rfl (fun K hK => ?_) ?_
            · go_simp
              go_at_call 23
              refine (HH.out _ (by first | exact Below.refl _ _ | exact (Below.refl _ _).drew)).mono ?_
              rintro e w5 ⟨rfl, j5, hw5⟩
              have B5 : Hid (Below w3.heap.size w3 w5) := Lib.hid (by first | exact hw5 ▸ bl_drewN (Below.refl _ _) _ | exact hw5 ▸ bl_drewN (Below.refl _ _).drew _)
              clear hw5
              refine hK.out _ _ ?_ (fun hHeld => ?_)
              · exact ⟨(F3.out.below B5.out).place.1.trans (by rw [HM.out]), (N3.out.below B5.out N3.out.lt).c2⟩
              clear hK K
              (try simp only [Act.put, List.setIfInBounds_toArray, List.set_cons_zero, List.set_cons_succ])
              refine wpAnyH_take (i := 2) (v := ?v48) rfl (by kernel_rfl) (by kernel_rfl) (by kernel_rfl) (fun _ _ _ h => h) (Or.inl ⟨by rfl, ?hy48⟩) (by assumption) ?hr48
              case hy48 => (intro w' hSw; (try dsimp only at hSw); go_simp; try with_reducible rfl)
              (try simp only [Act.put, List.setIfInBounds_toArray, List.set_cons_zero, List.set_cons_succ])
              refine wpAnyH_take (i := 3) (v := ?v49) rfl (by kernel_rfl) (by kernel_rfl) (by kernel_rfl) (fun _ _ _ h => h) (Or.inl ⟨by rfl, ?hy49⟩) (by assumption) ?hr49
              case hy49 => (intro w' hSw; (try dsimp only at hSw); go_simp; try with_reducible rfl)
              (try simp only [Act.put, List.setIfInBounds_toArray, List.set_cons_zero, List.set_cons_succ])
              refine wpAnyH_take (i := 4) (v := ?v50) rfl (by kernel_rfl) (by kernel_rfl) (by kernel_rfl) (fun _ _ _ h => h) (Or.inl ⟨by rfl, ?hy50⟩) (by assumption) ?hr50
              case hy50 => (intro w' hSw; (try dsimp only at hSw); go_simp; try with_reducible rfl)
              (try simp only [Act.put, List.setIfInBounds_toArray, List.set_cons_zero, List.set_cons_succ])
              refine wpAnyH_take (i := 8) (v := ?v51) rfl (by kernel_rfl) (by kernel_rfl) (by kernel_rfl) (fun _ _ _ h => h) (Or.inl ⟨by rfl, ?hy51⟩) (by assumption) ?hr51
              case hy51 => (intro w' hSw; (try dsimp only at hSw); go_simp; try with_reducible rfl)
              (try simp only [Act.put, List.setIfInBounds_toArray, List.set_cons_zero, List.set_cons_succ])
              refine wpAnyH_done (by kernel_rfl) ?_ _
              intro K hK
              obtain ⟨s5, M5⟩ := (F3.out.below B5.out).map
              obtain ⟨es5, cl5, hb5⟩ := M5.blk
              rw [HM.out] at hb5
              refine step_store rfl _ _ _ rfl lawS Try.underlying48 (by rw [HM.out] at M5; rfl) (by rw [HM.out] at M5; exact M5) hk2 rfl rfl HKEY.out (KPUT.out hkb) ?_
              intro w7 m7 g7
              have P7 := Fr.put_key (x := ⟨op, a, b⟩) (F3.out.below B5.out) h7 (by rw [HM.out]; exact g7) (by rw [HM.out]; exact m7)
              have F4 := Lib.hid P7.1
              have BB4 := Lib.hid ((BB3.out.trans (B5.out.mono F3.out.size)).trans P7.2)
              have N4 : Hid (XB w7 x ⟨op, a, b⟩) := Lib.hid ((g7.block x (N3.out.below B5.out N3.out.lt).lt (fun e => (map_ne hb5 (N3.out.below B5.out N3.out.lt)) (Option.some.inj e).symm)).trans (N3.out.below B5.out N3.out.lt))
              refine hK _ _ ?_
              clear hK K P7 g7 m7 M5 hb5 c0 c1 c2 g0 F3 N3 BB3
              generalize w7 = w9 at F4 BB4 N4 ⊢
              have c0 := N4.out.c0
              simp only at c0
              have HP : Hid (stepP P ⟨op, a, b⟩ = lastX P ⟨op, a, b⟩) := Lib.hid (stepP_other h1 h2)
              go_wp2_with fail
              go_end0
              exact ⟨rfl, (by rw [HP.out, HN1.out]; exact Fr.is F4.out HMK.out HN3.out), BB4.out⟩
            exact AllReadyH.nil
          | false =>
            have F4 := Lib.hid (F3.out.put_none (x := ⟨op, a, b⟩) hkb h7 |>.mono (Nat.le_succ k))
            have BB4 := BB3
            have N4 := N3
            clear c0 c1 c2 g0 F3 N3 BB3
            generalize w3 = w9 at F4 BB4 N4 HH HD ⊢
            have c0 := N4.out.c0
            simp only at c0
            have HP : Hid (stepP P ⟨op, a, b⟩ = lastX P ⟨op, a, b⟩) := Lib.hid (stepP_other h1 h2)
            go_wp2_with fail
            go_end0
            exact ⟨rfl, (by rw [HP.out, HN1.out]; exact Fr.is F4.out HMK.out HN3.out), BB4.out⟩
end Go.Proofs.Ytfjnbjpenibpkaa.P13
