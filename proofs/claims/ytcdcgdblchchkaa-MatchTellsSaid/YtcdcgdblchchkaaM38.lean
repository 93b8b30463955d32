/- What the program's three tests of the first one that is left answer, and takeFirst over each of them. No condition but those stated. -/
import Derived.Test.YtcdcgdblchchkaaM37
set_option linter.unusedVariables false
set_option linter.unusedSimpArgs false
set_option linter.unusedVariables false
set_option linter.unusedSimpArgs false
namespace Go.Proofs.Ytcdcgdblchchkaa.P16
open Go.RowKit Kd P4 P5 P11 P12 P13 P14 Mv

set_option maxRecDepth 100000
theorem eqgO : Try.prog.eqGuardType Try.prog.depth 30 = false := by kernel_rfl
theorem heldO : Try.prog.stoodInHeld 30 = false := by kernel_rfl
theorem eq_runO (a b : Ol) (d : Nat) (w : World) : (Op.equalIn (d + 2) 30 (.agg #[.string a.tag, .string a.key]) (.agg #[.string b.tag, .string b.key])).run Try.prog w = .ok (isK b.tag b.key a) w := by
  rw [run_equalIn_struct w (d + 1) 30 _ _ (by unfold Program.fieldsOf; rw [Try.underlying30]) heldO]
  simp [Program.fieldsOf, Try.underlying30, Op.eqFields, go_sem, Try.underlying9, part]
  unfold isK bq
  by_cases h1 : a.tag.toList = b.tag.toList <;> by_cases h2 : a.key.toList = b.key.toList <;> simp [h1, h2]
theorem eql_atO {a b : Ol} {r : Bool} (h : isK b.tag b.key a = r) (w : World) : (binOp .eql 30 (.agg #[.string a.tag, .string a.key]) (.agg #[.string b.tag, .string b.key])).run Try.prog w = .ok (.bool r) w := by
  rw [run_eql_struct, eq_runO a b 9998 w, h]; rfl
theorem bytes_empty {b : ByteArray} (h : b.toList.isEmpty = true) : b = ⟨#[]⟩ := by
  obtain ⟨⟨l⟩⟩ := b
  rw [ByteArray.toList_eq, List.isEmpty_iff] at h
  simp only at h
  rw [h]
/-- an element without a key, of a tag -/
theorem fitsE_any (t : PW) (o : Ol) (q : Nat) (w : World) (h1 : t.kind = 1) (ht : t.tag.toList.isEmpty = false) (hk : t.key.toList.isEmpty = true) (hq : w.cell? ⟨q, 1, none⟩ = some (.string t.tag)) (hlt : q < w.heap.size) :
    Calls Try.prog 23 #[.agg #[.string o.tag, .string o.key], .pointer (some ⟨q, 0, none⟩)] w fun e w' => e = .returned (.bool (takesW t o true)) ∧ Below w.heap.size w w' := by
  obtain ⟨r, hr⟩ : ∃ r, isK t.tag ⟨#[]⟩ o = r := ⟨_, rfl⟩
  have HR : Hid (takesW t o true = (!o.tag.toList.isEmpty && r)) := Lib.hid (by
    rw [← hr]
    unfold takesW isK
    rw [if_pos h1, bytes_empty hk]
    cases ho : o.tag.toList.isEmpty with
    | false => simp
    | true =>
      have : bq o.tag t.tag = false := by
        unfold bq
        rw [List.isEmpty_iff] at ho
        rw [ho]
        cases hx : t.tag.toList with
        | nil => rw [hx] at ht; cases ht
        | cons _ _ => rfl
      rw [this]
      simp)
  rw [HR.out]
  have B1 : Hid (Below w.heap.size w (w.alloc (.cells #[.string o.tag, .string o.key] 30))) := Lib.hid ((Below.refl _ _).alloc (Nat.le_refl _) _)
  have X1 : Hid ((w.alloc (.cells #[.string o.tag, .string o.key] 30)).heap[w.heap.size]? = some (.cells #[.string o.tag, .string o.key] 30 (0, 0))) := Lib.hid (heap_alloc_new w _)
  have HQ : Hid (w.cell? ⟨q, 1, none⟩ = some (.string t.tag)) := Lib.hid hq
  have HRR : Hid (r = (decide (o.tag.toList = t.tag.toList) && decide (o.key.toList = []))) := Lib.hid (by rw [← hr]; unfold isK bq; rw [show (⟨#[]⟩ : ByteArray).toList = [] from by simp [ByteArray.toList_eq]]; rw [Bool.eq_iff_iff]; simp only [Bool.and_eq_true, beq_iff_eq, decide_eq_true_eq])
  clear hq HR hr h1 ht hk
  generalize t.tag = tg at HQ HRR
  obtain ⟨tag, key⟩ := o
  simp only at B1 X1 HRR ⊢
  have hg := eqgO
  go_enter Try.func23, Try.ntmps23
  go_upto_region 1 with fail
  have hqW := (B1.out.cell (p := ⟨q, 1, none⟩) hlt).trans HQ.out
  generalize w.alloc (.cells #[.string tag, .string key] 30) = W at B1 X1 hqW ⊢
  have a0 : W.cell? ⟨w.heap.size, 0, none⟩ = some (.string tag) := cell_of_row W w.heap.size 0 _ _ (0, 0) X1.out
  have a1 : W.cell? ⟨w.heap.size, 1, none⟩ = some (.string key) := cell_of_row W w.heap.size 1 _ _ (0, 0) X1.out
  have CE := Lib.hid (isElement_any tag key W)
  obtain ⟨et, het⟩ : ∃ b, tag.toList.isEmpty = b := ⟨_, rfl⟩
  rw [het] at CE
  have HET := Lib.hid het
  have HWS : Hid (w.heap.size < W.heap.size) := Lib.hid (heap_lt X1.out)
  go_wp2_with fail
  refine CE.out.mono ?_
  rintro e w1 ⟨rfl, b1⟩
  have a0' := (b1.cell (p := ⟨w.heap.size, 0, none⟩) HWS.out).trans a0
  have a1' := (b1.cell (p := ⟨w.heap.size, 1, none⟩) HWS.out).trans a1
  have q1' := (b1.cell (p := ⟨q, 1, none⟩) (show q < W.heap.size by have := HWS.out; omega)).trans hqW
  have B2 := Lib.hid (B1.out.trans (b1.mono B1.out.size))
  clear b1 a0 a1 hqW CE X1 het
  have hrr := HRR.out
  subst hrr
  clear HRR
  cases et <;> (go_wp2_with fail) <;> (go_ret; exact ⟨by first | rfl | (have h1 := HET.out; simp_all), B2.out⟩)
/-- a text -/
theorem fitsT_any (t : PW) (o : Ol) (w : World) (h2 : t.kind = 2) :
    Calls Try.prog 24 #[.agg #[.string o.tag, .string o.key]] w fun e w' => e = .returned (.bool (takesW t o true)) ∧ Below w.heap.size w w' := by
  have HR : takesW t o true = !(!o.tag.toList.isEmpty) := by
    unfold takesW
    rw [if_neg (by omega), if_pos h2]
    simp
  rw [HR]
  clear HR h2
  have B1 : Hid (Below w.heap.size w (w.alloc (.cells #[.string o.tag, .string o.key] 30))) := Lib.hid ((Below.refl _ _).alloc (Nat.le_refl _) _)
  have X1 : Hid ((w.alloc (.cells #[.string o.tag, .string o.key] 30)).heap[w.heap.size]? = some (.cells #[.string o.tag, .string o.key] 30 (0, 0))) := Lib.hid (heap_alloc_new w _)
  obtain ⟨tag, key⟩ := o
  simp only at B1 X1 ⊢
  go_enter Try.func24, Try.ntmps24
  go_upto_region 1 with fail
  generalize w.alloc (.cells #[.string tag, .string key] 30) = W at B1 X1 ⊢
  have a0 : W.cell? ⟨w.heap.size, 0, none⟩ = some (.string tag) := cell_of_row W w.heap.size 0 _ _ (0, 0) X1.out
  have a1 : W.cell? ⟨w.heap.size, 1, none⟩ = some (.string key) := cell_of_row W w.heap.size 1 _ _ (0, 0) X1.out
  have CE := Lib.hid (isElement_any tag key W)
  obtain ⟨et, het⟩ : ∃ b, tag.toList.isEmpty = b := ⟨_, rfl⟩
  rw [het] at CE
  go_wp2_with fail
  refine CE.out.mono ?_
  rintro e w1 ⟨rfl, b1⟩
  have B2 := Lib.hid (B1.out.trans (b1.mono B1.out.size))
  clear b1
  go_wp2_with fail
  go_ret
  exact ⟨by rw [het]; cases et <;> rfl, B2.out⟩
/-- whatever it is -/
theorem fitsN_any (t : PW) (o : Ol) (w : World) (h3 : t.kind = 3) :
    Calls Try.prog 25 #[.agg #[.string o.tag, .string o.key]] w fun e w' => e = .returned (.bool (takesW t o true)) ∧ Below w.heap.size w w' := by
  have HR : takesW t o true = true := by
    unfold takesW
    rw [if_neg (by omega), if_neg (by omega), if_pos h3]
  rw [HR]
  clear HR h3
  have B1 : Hid (Below w.heap.size w (w.alloc (.cells #[.string o.tag, .string o.key] 30))) := Lib.hid ((Below.refl _ _).alloc (Nat.le_refl _) _)
  go_enter Try.func25, Try.ntmps25
  go_wp2_with fail
  go_ret
  exact ⟨rfl, B1.out⟩
set_option maxHeartbeats 4000000 in
theorem takeFirstE_any {w : World} {B p g h m : Nat} {A : Option Addr} {n c : Nat} {old : List Ol} {left : List Bool} {F s : Nat} {f : Lit → Option Value} {nl : List Int} (x : Lf w B p g h m A n c old left F s f nl)
    (pw : PW) (hw : ∀ o, takesW pw o false = false) (q : Nat) (HF : ∀ (o : Ol) (wz : World), But (fun k => k = p) w wz → Calls Try.prog 23 #[.agg #[.string o.tag, .string o.key], .pointer (some ⟨q, 0, none⟩)] wz fun e w' => e = .returned (.bool (takesW pw o true)) ∧ Below wz.heap.size wz w') :
    Calls Try.prog 22 #[.pointer (some ⟨p, 0, none⟩), .func (.func 23) #[] #[.pointer (some ⟨q, 0, none⟩)]] w (TkV w B p g h m A n c old left (scanM pw old left old.length).1) := by
  have CF := Lib.hid (first_any x)
  have HFF := Lib.hid HF
  have HLEN := Lib.hid x.len
  have hsm := x.small
  have HSC : Hid (∀ F', F' ≤ n → (∀ i : Nat, i < F' → left[i]? = some false) → (F' = n → (scanM pw old left old.length).1 = -1) ∧ (∀ (hl : F' < old.length), left[F']? = some true → (scanM pw old left old.length).1 = if takesW pw old[F'] true then (F' : Int) else -1)) := Lib.hid (fun F' hF' hg => ⟨fun e => by rw [scan_gone (n := old.length) (fun i hi => hg i (by have := x.len; omega)) _ (Nat.le_refl _)], fun hl hlt => scan_front hw hg hlt (List.getElem?_eq_getElem hl) hl⟩)
  clear x HF hw
  generalize (scanM pw old left old.length).1 = res at HSC ⊢
  go_enter Try.func22, Try.ntmps22
  go_wp2_with fail
  refine CF.out.mono ?_
  rintro e w1 ⟨F', a, rfl, hfr, hle, x1, b1⟩
  have XX := Lib.hid x1
  have BB := Lib.hid b1
  have hsc := HSC.out F' x1.front x1.gone
  clear CF HSC
  rcases hfr with ⟨rfl, rfl⟩ | ⟨hlt, rfl, hl⟩
  · obtain rfl := hsc.1 rfl
    clear hsc x1 b1
    go_wp2_with fail
    go_ret
    exact ⟨rfl, ⟨F', s, f, nl, by rw [leftM_none]; exact XX.out⟩, BB.out.mono (T := W3 p g m) (fun _ _ h => .inl h)⟩
  · have hlo : F' < old.length := by have := HLEN.out; omega
    have HRS := Lib.hid (hsc.2 hlo hl)
    obtain ⟨b, o, rfl, hb, z0, z1⟩ := cell_of_o x1.old_ hlo
    have CC := Lib.hid (HFF.out old[F'] w1 b1)
    have c0 := x1.c0
    clear hsc x1 b1 HFF
    generalize old[F'] = ob at z0 z1 CC HRS
    obtain ⟨tag, key⟩ := ob
    simp only at z0 z1 CC
    obtain ⟨tk, htk⟩ : ∃ r, takesW pw ⟨tag, key⟩ true = r := ⟨_, rfl⟩
    rw [htk] at CC HRS
    clear htk
    go_wp2_with fail
    refine CC.out.mono ?_
    rintro e w2 ⟨rfl, b2⟩
    have X2 := Lib.hid (XX.out.on b2)
    have B2 : Hid (But (W3 p g m) w w2) := Lib.hid ((BB.out.mono (T := W3 p g m) (fun _ _ h => .inl h)).trans (T := fun _ => False) (But.of_below b2 _) (fun _ _ h => h.elim))
    clear b2 z0 z1 c0 CC
    cases tk with
    | false =>
      have hrs := HRS.out
      simp only [Bool.false_eq_true, if_false] at hrs
      subst hrs
      go_wp2_with fail
      go_ret
      exact ⟨rfl, ⟨F', s, f, nl, by rw [leftM_none]; exact X2.out⟩, B2.out⟩
    | true =>
      have hrs := HRS.out
      simp only [if_true] at hrs
      subst hrs
      have c1 := X2.out.c1
      obtain ⟨bb, hbb, g0, gf⟩ := X2.out.taken hlt
      clear hbb
      go_wp2_with fail
      go_ret
      refine ⟨rfl, ⟨F', s, f, nl, ?_⟩, ?_⟩
      · rw [leftM_nat]
        exact X2.out.take hlt
      · exact But.setCell (S := W3 p g m) (p := ⟨g, F', none⟩) B2.out (fun _ => .inr (.inl rfl)) _
set_option maxHeartbeats 4000000 in
theorem takeFirstT_any {w : World} {B p g h m : Nat} {A : Option Addr} {n c : Nat} {old : List Ol} {left : List Bool} {F s : Nat} {f : Lit → Option Value} {nl : List Int} (x : Lf w B p g h m A n c old left F s f nl)
    (pw : PW) (hw : ∀ o, takesW pw o false = false) (HF : ∀ (o : Ol) (wz : World), But (fun k => k = p) w wz → Calls Try.prog 24 #[.agg #[.string o.tag, .string o.key]] wz fun e w' => e = .returned (.bool (takesW pw o true)) ∧ Below wz.heap.size wz w') :
    Calls Try.prog 22 #[.pointer (some ⟨p, 0, none⟩), .func (.func 24) #[] #[]] w (TkV w B p g h m A n c old left (scanM pw old left old.length).1) := by
  have CF := Lib.hid (first_any x)
  have HFF := Lib.hid HF
  have HLEN := Lib.hid x.len
  have hsm := x.small
  have HSC : Hid (∀ F', F' ≤ n → (∀ i : Nat, i < F' → left[i]? = some false) → (F' = n → (scanM pw old left old.length).1 = -1) ∧ (∀ (hl : F' < old.length), left[F']? = some true → (scanM pw old left old.length).1 = if takesW pw old[F'] true then (F' : Int) else -1)) := Lib.hid (fun F' hF' hg => ⟨fun e => by rw [scan_gone (n := old.length) (fun i hi => hg i (by have := x.len; omega)) _ (Nat.le_refl _)], fun hl hlt => scan_front hw hg hlt (List.getElem?_eq_getElem hl) hl⟩)
  clear x HF hw
  generalize (scanM pw old left old.length).1 = res at HSC ⊢
  go_enter Try.func22, Try.ntmps22
  go_wp2_with fail
  refine CF.out.mono ?_
  rintro e w1 ⟨F', a, rfl, hfr, hle, x1, b1⟩
  have XX := Lib.hid x1
  have BB := Lib.hid b1
  have hsc := HSC.out F' x1.front x1.gone
  clear CF HSC
  rcases hfr with ⟨rfl, rfl⟩ | ⟨hlt, rfl, hl⟩
  · obtain rfl := hsc.1 rfl
    clear hsc x1 b1
    go_wp2_with fail
    go_ret
    exact ⟨rfl, ⟨F', s, f, nl, by rw [leftM_none]; exact XX.out⟩, BB.out.mono (T := W3 p g m) (fun _ _ h => .inl h)⟩
  · have hlo : F' < old.length := by have := HLEN.out; omega
    have HRS := Lib.hid (hsc.2 hlo hl)
    obtain ⟨b, o, rfl, hb, z0, z1⟩ := cell_of_o x1.old_ hlo
    have CC := Lib.hid (HFF.out old[F'] w1 b1)
    have c0 := x1.c0
    clear hsc x1 b1 HFF
    generalize old[F'] = ob at z0 z1 CC HRS
    obtain ⟨tag, key⟩ := ob
    simp only at z0 z1 CC
    obtain ⟨tk, htk⟩ : ∃ r, takesW pw ⟨tag, key⟩ true = r := ⟨_, rfl⟩
    rw [htk] at CC HRS
    clear htk
    go_wp2_with fail
    refine CC.out.mono ?_
    rintro e w2 ⟨rfl, b2⟩
    have X2 := Lib.hid (XX.out.on b2)
    have B2 : Hid (But (W3 p g m) w w2) := Lib.hid ((BB.out.mono (T := W3 p g m) (fun _ _ h => .inl h)).trans (T := fun _ => False) (But.of_below b2 _) (fun _ _ h => h.elim))
    clear b2 z0 z1 c0 CC
    cases tk with
    | false =>
      have hrs := HRS.out
      simp only [Bool.false_eq_true, if_false] at hrs
      subst hrs
      go_wp2_with fail
      go_ret
      exact ⟨rfl, ⟨F', s, f, nl, by rw [leftM_none]; exact X2.out⟩, B2.out⟩
    | true =>
      have hrs := HRS.out
      simp only [if_true] at hrs
      subst hrs
      have c1 := X2.out.c1
      obtain ⟨bb, hbb, g0, gf⟩ := X2.out.taken hlt
      clear hbb
      go_wp2_with fail
      go_ret
      refine ⟨rfl, ⟨F', s, f, nl, ?_⟩, ?_⟩
      · rw [leftM_nat]
        exact X2.out.take hlt
      · exact But.setCell (S := W3 p g m) (p := ⟨g, F', none⟩) B2.out (fun _ => .inr (.inl rfl)) _
set_option maxHeartbeats 4000000 in
theorem takeFirstN_any {w : World} {B p g h m : Nat} {A : Option Addr} {n c : Nat} {old : List Ol} {left : List Bool} {F s : Nat} {f : Lit → Option Value} {nl : List Int} (x : Lf w B p g h m A n c old left F s f nl)
    (pw : PW) (hw : ∀ o, takesW pw o false = false) (HF : ∀ (o : Ol) (wz : World), But (fun k => k = p) w wz → Calls Try.prog 25 #[.agg #[.string o.tag, .string o.key]] wz fun e w' => e = .returned (.bool (takesW pw o true)) ∧ Below wz.heap.size wz w') :
    Calls Try.prog 22 #[.pointer (some ⟨p, 0, none⟩), .func (.func 25) #[] #[]] w (TkV w B p g h m A n c old left (scanM pw old left old.length).1) := by
  have CF := Lib.hid (first_any x)
  have HFF := Lib.hid HF
  have HLEN := Lib.hid x.len
  have hsm := x.small
  have HSC : Hid (∀ F', F' ≤ n → (∀ i : Nat, i < F' → left[i]? = some false) → (F' = n → (scanM pw old left old.length).1 = -1) ∧ (∀ (hl : F' < old.length), left[F']? = some true → (scanM pw old left old.length).1 = if takesW pw old[F'] true then (F' : Int) else -1)) := Lib.hid (fun F' hF' hg => ⟨fun e => by rw [scan_gone (n := old.length) (fun i hi => hg i (by have := x.len; omega)) _ (Nat.le_refl _)], fun hl hlt => scan_front hw hg hlt (List.getElem?_eq_getElem hl) hl⟩)
  clear x HF hw
  generalize (scanM pw old left old.length).1 = res at HSC ⊢
  go_enter Try.func22, Try.ntmps22
  go_wp2_with fail
  refine CF.out.mono ?_
  rintro e w1 ⟨F', a, rfl, hfr, hle, x1, b1⟩
  have XX := Lib.hid x1
  have BB := Lib.hid b1
  have hsc := HSC.out F' x1.front x1.gone
  clear CF HSC
  rcases hfr with ⟨rfl, rfl⟩ | ⟨hlt, rfl, hl⟩
  · obtain rfl := hsc.1 rfl
    clear hsc x1 b1
    go_wp2_with fail
    go_ret
    exact ⟨rfl, ⟨F', s, f, nl, by rw [leftM_none]; exact XX.out⟩, BB.out.mono (T := W3 p g m) (fun _ _ h => .inl h)⟩
  · have hlo : F' < old.length := by have := HLEN.out; omega
    have HRS := Lib.hid (hsc.2 hlo hl)
    obtain ⟨b, o, rfl, hb, z0, z1⟩ := cell_of_o x1.old_ hlo
    have CC := Lib.hid (HFF.out old[F'] w1 b1)
    have c0 := x1.c0
    clear hsc x1 b1 HFF
    generalize old[F'] = ob at z0 z1 CC HRS
    obtain ⟨tag, key⟩ := ob
    simp only at z0 z1 CC
    obtain ⟨tk, htk⟩ : ∃ r, takesW pw ⟨tag, key⟩ true = r := ⟨_, rfl⟩
    rw [htk] at CC HRS
    clear htk
    go_wp2_with fail
    refine CC.out.mono ?_
    rintro e w2 ⟨rfl, b2⟩
    have X2 := Lib.hid (XX.out.on b2)
    have B2 : Hid (But (W3 p g m) w w2) := Lib.hid ((BB.out.mono (T := W3 p g m) (fun _ _ h => .inl h)).trans (T := fun _ => False) (But.of_below b2 _) (fun _ _ h => h.elim))
    clear b2 z0 z1 c0 CC
    cases tk with
    | false =>
      have hrs := HRS.out
      simp only [Bool.false_eq_true, if_false] at hrs
      subst hrs
      go_wp2_with fail
      go_ret
      exact ⟨rfl, ⟨F', s, f, nl, by rw [leftM_none]; exact X2.out⟩, B2.out⟩
    | true =>
      have hrs := HRS.out
      simp only [if_true] at hrs
      subst hrs
      have c1 := X2.out.c1
      obtain ⟨bb, hbb, g0, gf⟩ := X2.out.taken hlt
      clear hbb
      go_wp2_with fail
      go_ret
      refine ⟨rfl, ⟨F', s, f, nl, ?_⟩, ?_⟩
      · rw [leftM_nat]
        exact X2.out.take hlt
      · exact But.setCell (S := W3 p g m) (p := ⟨g, F', none⟩) B2.out (fun _ => .inr (.inl rfl)) _
end Go.Proofs.Ytcdcgdblchchkaa.P16
