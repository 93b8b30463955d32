/- What the program's three tests of the first one that is left answer, and takeFirst over each of them. No condition but those stated. -/
import Derived.Test.YthdgaoifbejpjaaM11
import Derived.Test.YthdgaoifbejpjaaM35
set_option linter.unusedVariables false
set_option linter.unusedSimpArgs false
set_option linter.unusedVariables false
set_option linter.unusedSimpArgs false
namespace Go.Proofs.Ythdgaoifbejpjaa.P16
open Go.RowKit Kd P4 P5 P11 P12 P13 P14 Mv

set_option maxRecDepth 100000
theorem eqgO : Try.prog.eqGuardType Try.prog.depth 81 = false := by kernel_rfl
theorem heldO : Try.prog.stoodInHeld 81 = false := by kernel_rfl
theorem eq_runO (a b : Ol) (d : Nat) (w : World) : (Op.equalIn (d + 2) 81 (.agg #[.string a.tag, .string a.key]) (.agg #[.string b.tag, .string b.key])).run Try.prog w = .ok (isK b.tag b.key a) w := by
  rw [run_equalIn_struct w (d + 1) 81 _ _ (by unfold Program.fieldsOf; rw [Try.underlying81]) heldO]
  simp [Program.fieldsOf, Try.underlying81, Op.eqFields, go_sem, Try.underlying9, part]
  unfold isK bq
  by_cases h1 : a.tag.toList = b.tag.toList <;> by_cases h2 : a.key.toList = b.key.toList <;> simp [h1, h2]
theorem eql_atO {a b : Ol} {r : Bool} (h : isK b.tag b.key a = r) (w : World) : (binOp .eql 81 (.agg #[.string a.tag, .string a.key]) (.agg #[.string b.tag, .string b.key])).run Try.prog w = .ok (.bool r) w := by
  rw [run_eql_struct, eq_runO a b 9998 w, h]; rfl
theorem bytes_empty {b : ByteArray} (h : b.toList.isEmpty = true) : b = ⟨#[]⟩ := by
  obtain ⟨⟨l⟩⟩ := b
  rw [ByteArray.toList_eq, List.isEmpty_iff] at h
  simp only at h
  rw [h]
/-- an element without a key, of a tag -/
theorem fitsE_any (t : PW) (o : Ol) (q : Nat) (w : World) (h1 : t.kind = 1) (ht : t.tag.toList.isEmpty = false) (hk : t.key.toList.isEmpty = true) (hq : w.cell? ⟨q, 1, none⟩ = some (.string t.tag)) (hlt : q < w.heap.size) :
    Calls Try.prog 52 #[.agg #[.string o.tag, .string o.key], .pointer (some ⟨q, 0, none⟩)] w fun e w' => e = .returned (.bool (takesW t o true)) ∧ Below w.heap.size w w' := by
  obtain ⟨r, hr⟩ : ∃ r, isK t.tag ⟨#[]⟩ o = r := ⟨_, rfl⟩
  have HR : Hid (takesW t o true = (!o.tag.toList.isEmpty && r)) := Lib.hid (by
    rw [← hr]
    unfold takesW isK
    rw [if_pos h1, bytes_empty hk]
    cases ho : o.tag.toList.isEmpty with
    | false => simp
    | true =>
      have : bq o.tag t.tag = false := by
        unfold bq
        rw [List.isEmpty_iff] at ho
        rw [ho]
        cases hx : t.tag.toList with
        | nil => rw [hx] at ht; cases ht
        | cons _ _ => rfl
      rw [this]
      simp)
  rw [HR.out]
  have B1 : Hid (Below w.heap.size w (w.alloc (.cells #[.string o.tag, .string o.key] 81))) := Lib.hid ((Below.refl _ _).alloc (Nat.le_refl _) _)
  have X1 : Hid ((w.alloc (.cells #[.string o.tag, .string o.key] 81)).heap[w.heap.size]? = some (.cells #[.string o.tag, .string o.key] 81 (0, 0))) := Lib.hid (heap_alloc_new w _)
  have HQ : Hid (w.cell? ⟨q, 1, none⟩ = some (.string t.tag)) := Lib.hid hq
  have HRR : Hid (r = (decide (o.tag.toList = t.tag.toList) && decide (o.key.toList = []))) := Lib.hid (by rw [← hr]; unfold isK bq; rw [show (⟨#[]⟩ : ByteArray).toList = [] from by simp [ByteArray.toList_eq]]; rw [Bool.eq_iff_iff]; simp only [Bool.and_eq_true, beq_iff_eq, decide_eq_true_eq])
  clear hq HR hr h1 ht hk
  generalize t.tag = tg at HQ HRR
  obtain ⟨tag, key⟩ := o
  simp only at B1 X1 HRR ⊢
  have hg := eqgO
  go_enter Try.func52, Try.ntmps52
  go_upto_region 1 with fail
  have hqW := (B1.out.cell (p := ⟨q, 1, none⟩) hlt).trans HQ.out
  generalize w.alloc (.cells #[.string tag, .string key] 81) = W at B1 X1 hqW ⊢
  have a0 : W.cell? ⟨w.heap.size, 0, none⟩ = some (.string tag) := cell_of_row W w.heap.size 0 _ _ (0, 0) X1.out
  have a1 : W.cell? ⟨w.heap.size, 1, none⟩ = some (.string key) := cell_of_row W w.heap.size 1 _ _ (0, 0) X1.out
  have CE := Lib.hid (isElement_any tag key W)
  obtain ⟨et, het⟩ : ∃ b, tag.toList.isEmpty = b := ⟨_, rfl⟩
  rw [het] at CE
  have HET := Lib.hid het
  have HWS : Hid (w.heap.size < W.heap.size) := Lib.hid (heap_lt X1.out)
  go_wp2_with fail
  refine CE.out.mono ?_
  rintro e w1 ⟨rfl, b1⟩
  have a0' := (b1.cell (p := ⟨w.heap.size, 0, none⟩) HWS.out).trans a0
  have a1' := (b1.cell (p := ⟨w.heap.size, 1, none⟩) HWS.out).trans a1
  have q1' := (b1.cell (p := ⟨q, 1, none⟩) (show q < W.heap.size by have := HWS.out; omega)).trans hqW
  have B2 := Lib.hid (B1.out.trans (b1.mono B1.out.size))
  clear b1 a0 a1 hqW CE X1 het
  have hrr := HRR.out
  subst hrr
  clear HRR
  cases et <;> (go_wp2_with fail) <;> (go_ret; exact ⟨by first | rfl | (have h1 := HET.out; simp_all), B2.out⟩)
/-- a text -/
theorem fitsT_any (t : PW) (o : Ol) (w : World) (h2 : t.kind = 2) :
    Calls Try.prog 53 #[.agg #[.string o.tag, .string o.key]] w fun e w' => e = .returned (.bool (takesW t o true)) ∧ Below w.heap.size w w' := by
  have HR : takesW t o true = !(!o.tag.toList.isEmpty) := by
    unfold takesW
    rw [if_neg (by omega), if_pos h2]
    simp
  rw [HR]
  clear HR h2
  have B1 : Hid (Below w.heap.size w (w.alloc (.cells #[.string o.tag, .string o.key] 81))) := Lib.hid ((Below.refl _ _).alloc (Nat.le_refl _) _)
  have X1 : Hid ((w.alloc (.cells #[.string o.tag, .string o.key] 81)).heap[w.heap.size]? = some (.cells #[.string o.tag, .string o.key] 81 (0, 0))) := Lib.hid (heap_alloc_new w _)
  obtain ⟨tag, key⟩ := o
  simp only at B1 X1 ⊢
  go_enter Try.func53, Try.ntmps53
  go_upto_region 1 with fail
  generalize w.alloc (.cells #[.string tag, .string key] 81) = W at B1 X1 ⊢
  have a0 : W.cell? ⟨w.heap.size, 0, none⟩ = some (.string tag) := cell_of_row W w.heap.size 0 _ _ (0, 0) X1.out
  have a1 : W.cell? ⟨w.heap.size, 1, none⟩ = some (.string key) := cell_of_row W w.heap.size 1 _ _ (0, 0) X1.out
  have CE := Lib.hid (isElement_any tag key W)
  obtain ⟨et, het⟩ : ∃ b, tag.toList.isEmpty = b := ⟨_, rfl⟩
  rw [het] at CE
  go_wp2_with fail
  refine CE.out.mono ?_
  rintro e w1 ⟨rfl, b1⟩
  have B2 := Lib.hid (B1.out.trans (b1.mono B1.out.size))
  clear b1
  go_wp2_with fail
  go_ret
  exact ⟨by rw [het]; cases et <;> rfl, B2.out⟩
/-- whatever it is -/
theorem fitsN_any (t : PW) (o : Ol) (w : World) (h3 : t.kind = 3) :
    Calls Try.prog 54 #[.agg #[.string o.tag, .string o.key]] w fun e w' => e = .returned (.bool (takesW t o true)) ∧ Below w.heap.size w w' := by
  have HR : takesW t o true = true := by
    unfold takesW
    rw [if_neg (by omega), if_neg (by omega), if_pos h3]
  rw [HR]
  clear HR h3
  have B1 : Hid (Below w.heap.size w (w.alloc (.cells #[.string o.tag, .string o.key] 81))) := Lib.hid ((Below.refl _ _).alloc (Nat.le_refl _) _)
  go_enter Try.func54, Try.ntmps54
  go_wp2_with fail
  go_ret
  exact ⟨rfl, B1.out⟩
set_option maxHeartbeats 4000000 in
theorem takeFirstE_any {w : World} {B p g h m : Nat} {A : Option Addr} {n c : Nat} {old : List Ol} {left : List Bool} {F s : Nat} {f : Lit → Option Value} {nl : List Int} (x : Lf w B p g h m A n c old left F s f nl)
    (pw : PW) (hw : ∀ o, takesW pw o false = false) (q : Nat) (HF : ∀ (o : Ol) (wz : World), But (fun k => k = p) w wz → Calls Try.prog 52 #[.agg #[.string o.tag, .string o.key], .pointer (some ⟨q, 0, none⟩)] wz fun e w' => e = .returned (.bool (takesW pw o true)) ∧ Below wz.heap.size wz w') :
    Calls Try.prog 51 #[.pointer (some ⟨p, 0, none⟩), .func (.func 52) #[] #[.pointer (some ⟨q, 0, none⟩)]] w (TkV w B p g h m A n c old left (scanM pw old left old.length).1) := by
  have CF := Lib.hid (first_any x)
  have HFF := Lib.hid HF
  have HLEN := Lib.hid x.len
  have hsm := x.small
  have HSC : Hid (∀ F', F' ≤ n → (∀ i : Nat, i < F' → left[i]? = some false) → (F' = n → (scanM pw old left old.length).1 = -1) ∧ (∀ (hl : F' < old.length), left[F']? = some true → (scanM pw old left old.length).1 = if takesW pw old[F'] true then (F' : Int) else -1)) := Lib.hid (fun F' hF' hg => ⟨fun e => by rw [scan_gone (n := old.length) (fun i hi => hg i (by have := x.len; omega)) _ (Nat.le_refl _)], fun hl hlt => scan_front hw hg hlt (List.getElem?_eq_getElem hl) hl⟩)
  clear x HF hw
  generalize (scanM pw old left old.length).1 = res at HSC ⊢
  go_enter Try.func51, Try.ntmps51
  go_wp2_with fail
  refine CF.out.mono ?_
  rintro e w1 ⟨F', a, rfl, hfr, hle, x1, b1⟩
  have XX := Lib.hid x1
  have BB := Lib.hid b1
  have hsc := HSC.out F' x1.front x1.gone
  clear CF HSC
  rcases hfr with ⟨rfl, rfl⟩ | ⟨hlt, rfl, hl⟩
  · obtain rfl := hsc.1 rfl
    clear hsc x1 b1
    go_wp2_with fail
    go_ret
    exact ⟨rfl, ⟨F', s, f, nl, by rw [leftM_none]; exact XX.out⟩, BB.out.mono (T := W3 p g m) (fun _ _ h => .inl h)⟩
  · have hlo : F' < old.length := by have := HLEN.out; omega
    have HRS := Lib.hid (hsc.2 hlo hl)
    obtain ⟨b, o, rfl, hb, z0, z1⟩ := cell_of_o x1.old_ hlo
    have CC := Lib.hid (HFF.out old[F'] w1 b1)
    have c0 := x1.c0
    clear hsc x1 b1 HFF
    generalize old[F'] = ob at z0 z1 CC HRS
    obtain ⟨tag, key⟩ := ob
    simp only at z0 z1 CC
    obtain ⟨tk, htk⟩ : ∃ r, takesW pw ⟨tag, key⟩ true = r := ⟨_, rfl⟩
    rw [htk] at CC HRS
    clear htk
    go_wp2_with fail
    refine CC.out.mono ?_
    rintro e w2 ⟨rfl, b2⟩
    have X2 := Lib.hid (XX.out.on b2)
    have B2 : Hid (But (W3 p g m) w w2) := Lib.hid ((BB.out.mono (T := W3 p g m) (fun _ _ h => .inl h)).trans (T := fun _ => False) (But.of_below b2 _) (fun _ _ h => h.elim))
    clear b2 z0 z1 c0 CC
    cases tk with
    | false =>
      have hrs := HRS.out
      simp only [Bool.false_eq_true, if_false] at hrs
      subst hrs
      go_wp2_with fail
      go_ret
      exact ⟨rfl, ⟨F', s, f, nl, by rw [leftM_none]; exact X2.out⟩, B2.out⟩
    | true =>
      have hrs := HRS.out
      simp only [if_true] at hrs
      subst hrs
      have c1 := X2.out.c1
      obtain ⟨bb, hbb, g0, gf⟩ := X2.out.taken hlt
      clear hbb
      go_wp2_with fail
      go_ret
      refine ⟨rfl, ⟨F', s, f, nl, ?_⟩, ?_⟩
      · rw [leftM_nat]
        exact X2.out.take hlt
      · exact But.setCell (S := W3 p g m) (p := ⟨g, F', none⟩) B2.out (fun _ => .inr (.inl rfl)) _
set_option maxHeartbeats 4000000 in
theorem takeFirstT_any {w : World} {B p g h m : Nat} {A : Option Addr} {n c : Nat} {old : List Ol} {left : List Bool} {F s : Nat} {f : Lit → Option Value} {nl : List Int} (x : Lf w B p g h m A n c old left F s f nl)
    (pw : PW) (hw : ∀ o, takesW pw o false = false) (HF : ∀ (o : Ol) (wz : World), But (fun k => k = p) w wz → Calls Try.prog 53 #[.agg #[.string o.tag, .string o.key]] wz fun e w' => e = .returned (.bool (takesW pw o true)) ∧ Below wz.heap.size wz w') :
    Calls Try.prog 51 #[.pointer (some ⟨p, 0, none⟩), .func (.func 53) #[] #[]] w (TkV w B p g h m A n c old left (scanM pw old left old.length).1) := by
  have CF := Lib.hid (first_any x)
  have HFF := Lib.hid HF
  have HLEN := Lib.hid x.len
  have hsm := x.small
  have HSC : Hid (∀ F', F' ≤ n → (∀ i : Nat, i < F' → left[i]? = some false) → (F' = n → (scanM pw old left old.length).1 = -1) ∧ (∀ (hl : F' < old.length), left[F']? = some true → (scanM pw old left old.length).1 = if takesW pw old[F'] true then (F' : Int) else -1)) := Lib.hid (fun F' hF' hg => ⟨fun e => by rw [scan_gone (n := old.length) (fun i hi => hg i (by have := x.len; omega)) _ (Nat.le_refl _)], fun hl hlt => scan_front hw hg hlt (List.getElem?_eq_getElem hl) hl⟩)
  clear x HF hw
  generalize (scanM pw old left old.length).1 = res at HSC ⊢
  go_enter Try.func51, Try.ntmps51
  go_wp2_with fail
  refine CF.out.mono ?_
  rintro e w1 ⟨F', a, rfl, hfr, hle, x1, b1⟩
  have XX := Lib.hid x1
  have BB := Lib.hid b1
  have hsc := HSC.out F' x1.front x1.gone
  clear CF HSC
  rcases hfr with ⟨rfl, rfl⟩ | ⟨hlt, rfl, hl⟩
  · obtain rfl := hsc.1 rfl
    clear hsc x1 b1
    go_wp2_with fail
    go_ret
    exact ⟨rfl, ⟨F', s, f, nl, by rw [leftM_none]; exact XX.out⟩, BB.out.mono (T := W3 p g m) (fun _ _ h => .inl h)⟩
  · have hlo : F' < old.length := by have := HLEN.out; omega
    have HRS := Lib.hid (hsc.2 hlo hl)
    obtain ⟨b, o, rfl, hb, z0, z1⟩ := cell_of_o x1.old_ hlo
    have CC := Lib.hid (HFF.out old[F'] w1 b1)
    have c0 := x1.c0
    clear hsc x1 b1 HFF
    generalize old[F'] = ob at z0 z1 CC HRS
    obtain ⟨tag, key⟩ := ob
    simp only at z0 z1 CC
    obtain ⟨tk, htk⟩ : ∃ r, takesW pw ⟨tag, key⟩ true = r := ⟨_, rfl⟩
    rw [htk] at CC HRS
    clear htk
    go_wp2_with fail
    refine CC.out.mono ?_
    rintro e w2 ⟨rfl, b2⟩
    have X2 := Lib.hid (XX.out.on b2)
    have B2 : Hid (But (W3 p g m) w w2) := Lib.hid ((BB.out.mono (T := W3 p g m) (fun _ _ h => .inl h)).trans (T := fun _ => False) (But.of_below b2 _) (fun _ _ h => h.elim))
    clear b2 z0 z1 c0 CC
    cases tk with
    | false =>
      have hrs := HRS.out
      simp only [Bool.false_eq_true, if_false] at hrs
      subst hrs
      go_wp2_with fail
      go_ret
      exact ⟨rfl, ⟨F', s, f, nl, by rw [leftM_none]; exact X2.out⟩, B2.out⟩
    | true =>
      have hrs := HRS.out
      simp only [if_true] at hrs
      subst hrs
      have c1 := X2.out.c1
      obtain ⟨bb, hbb, g0, gf⟩ := X2.out.taken hlt
      clear hbb
      go_wp2_with fail
      go_ret
      refine ⟨rfl, ⟨F', s, f, nl, ?_⟩, ?_⟩
      · rw [leftM_nat]
        exact X2.out.take hlt
      · exact But.setCell (S := W3 p g m) (p := ⟨g, F', none⟩) B2.out (fun _ => .inr (.inl rfl)) _
set_option maxHeartbeats 4000000 in
theorem takeFirstN_any {w : World} {B p g h m : Nat} {A : Option Addr} {n c : Nat} {old : List Ol} {left : List Bool} {F s : Nat} {f : Lit → Option Value} {nl : List Int} (x : Lf w B p g h m A n c old left F s f nl)
    (pw : PW) (hw : ∀ o, takesW pw o false = false) (HF : ∀ (o : Ol) (wz : World), But (fun k => k = p) w wz → Calls Try.prog 54 #[.agg #[.string o.tag, .string o.key]] wz fun e w' => e = .returned (.bool (takesW pw o true)) ∧ Below wz.heap.size wz w') :
    Calls Try.prog 51 #[.pointer (some ⟨p, 0, none⟩), .func (.func 54) #[] #[]] w (TkV w B p g h m A n c old left (scanM pw old left old.length).1) := by
  have CF := Lib.hid (first_any x)
  have HFF := Lib.hid HF
  have HLEN := Lib.hid x.len
  have hsm := x.small
  have HSC : Hid (∀ F', F' ≤ n → (∀ i : Nat, i < F' → left[i]? = some false) → (F' = n → (scanM pw old left old.length).1 = -1) ∧ (∀ (hl : F' < old.length), left[F']? = some true → (scanM pw old left old.length).1 = if takesW pw old[F'] true then (F' : Int) else -1)) := Lib.hid (fun F' hF' hg => ⟨fun e => by rw [scan_gone (n := old.length) (fun i hi => hg i (by have := x.len; omega)) _ (Nat.le_refl _)], fun hl hlt => scan_front hw hg hlt (List.getElem?_eq_getElem hl) hl⟩)
  clear x HF hw
  generalize (scanM pw old left old.length).1 = res at HSC ⊢
  go_enter Try.func51, Try.ntmps51
  go_wp2_with fail
  refine CF.out.mono ?_
  rintro e w1 ⟨F', a, rfl, hfr, hle, x1, b1⟩
  have XX := Lib.hid x1
  have BB := Lib.hid b1
  have hsc := HSC.out F' x1.front x1.gone
  clear CF HSC
  rcases hfr with ⟨rfl, rfl⟩ | ⟨hlt, rfl, hl⟩
  · obtain rfl := hsc.1 rfl
    clear hsc x1 b1
    go_wp2_with fail
    go_ret
    exact ⟨rfl, ⟨F', s, f, nl, by rw [leftM_none]; exact XX.out⟩, BB.out.mono (T := W3 p g m) (fun _ _ h => .inl h)⟩
  · have hlo : F' < old.length := by have := HLEN.out; omega
    have HRS := Lib.hid (hsc.2 hlo hl)
    obtain ⟨b, o, rfl, hb, z0, z1⟩ := cell_of_o x1.old_ hlo
    have CC := Lib.hid (HFF.out old[F'] w1 b1)
    have c0 := x1.c0
    clear hsc x1 b1 HFF
    generalize old[F'] = ob at z0 z1 CC HRS
    obtain ⟨tag, key⟩ := ob
    simp only at z0 z1 CC
    obtain ⟨tk, htk⟩ : ∃ r, takesW pw ⟨tag, key⟩ true = r := ⟨_, rfl⟩
    rw [htk] at CC HRS
    clear htk
    go_wp2_with fail
    refine CC.out.mono ?_
    rintro e w2 ⟨rfl, b2⟩
    have X2 := Lib.hid (XX.out.on b2)
    have B2 : Hid (But (W3 p g m) w w2) := Lib.hid ((BB.out.mono (T := W3 p g m) (fun _ _ h => .inl h)).trans (T := fun _ => False) (But.of_below b2 _) (fun _ _ h => h.elim))
    clear b2 z0 z1 c0 CC
    cases tk with
    | false =>
      have hrs := HRS.out
      simp only [Bool.false_eq_true, if_false] at hrs
      subst hrs
      go_wp2_with fail
      go_ret
      exact ⟨rfl, ⟨F', s, f, nl, by rw [leftM_none]; exact X2.out⟩, B2.out⟩
    | true =>
      have hrs := HRS.out
      simp only [if_true] at hrs
      subst hrs
      have c1 := X2.out.c1
      obtain ⟨bb, hbb, g0, gf⟩ := X2.out.taken hlt
      clear hbb
      go_wp2_with fail
      go_ret
      refine ⟨rfl, ⟨F', s, f, nl, ?_⟩, ?_⟩
      · rw [leftM_nat]
        exact X2.out.take hlt
      · exact But.setCell (S := W3 p g m) (p := ⟨g, F', none⟩) B2.out (fun _ => .inr (.inl rfl)) _
end Go.Proofs.Ythdgaoifbejpjaa.P16

/- What the program's takeAll answers: the places of all that are left, which are left no more; and its take. No condition but those stated. -/
set_option linter.unusedVariables false
set_option linter.unusedSimpArgs false
namespace Go.Proofs.Ythdgaoifbejpjaa.P16
open Go.RowKit Kd P4 P5 P11 P12 P13 P14 Mv

set_option maxRecDepth 100000
/-- ahead of a round: the first q are taken, their places told -/
structure ARel (w : World) (B p g h m : Nat) (A : Option Addr) (n c : Nat) (old : List Ol) (left : List Bool) (s : Nat) (f : Lit → Option Value) (nl : List Int) (q : Nat) (a : Int) (A3 : Option Addr) (n3 c3 : Nat) (wr : World) : Prop where
  lf : Lf wr B p g h m A n c old (clearM left q) q s f nl
  own : kI.Own wr w.heap.size (.slice A3 n3 c3) (idxM left q)
  fr : (q = n ∧ a = -1) ∨ (q < n ∧ a = (q : Int) ∧ left[q]? = some true)
  but : But (W3 p g m) w wr
def AllV (w : World) (B p g h m : Nat) (A : Option Addr) (n c : Nat) (old : List Ol) (left : List Bool) (e : Ending) (w' : World) : Prop := ∃ (A3 : Option Addr) (n3 c3 : Nat), e = .returned (.slice A3 n3 c3) ∧ kI.Own w' w.heap.size (.slice A3 n3 c3) (idxM left n) ∧ LfE w' B p g h m A n c old (List.replicate n false) ∧ But (W3 p g m) w w'
/-- behind 'first', from q on -/
theorem all_next {w wa wr : World} {B p g h m : Nat} {A : Option Addr} {n c : Nat} {old : List Ol} {left : List Bool} {s : Nat} {f : Lit → Option Value} {nl : List Int} {q F' F0 : Nat} {l0 : List Bool} {a : Int} {v : Value} (hq : q ≤ n) (hl : left.length = n)
    (hb : But (W3 p g m) w wa) (ho : kI.Own wa w.heap.size v (idxM left q)) (x0 : Lf wa B p g h m A n c old l0 F0 s f nl) (hf : FrA (clearM left q) n F' a) (hle : q ≤ F') (x : Lf wr B p g h m A n c old (clearM left q) F' s f nl) (hb2 : But (fun k => k = p) wa wr) :
    Lf wr B p g h m A n c old (clearM left F') F' s f nl ∧ kI.Own wr w.heap.size v (idxM left F') ∧ ((F' = n ∧ a = -1) ∨ (F' < n ∧ a = (F' : Int) ∧ left[F']? = some true)) ∧ But (W3 p g m) w wr := by
  have hFn : F' ≤ n := x.front
  obtain ⟨e1, e2⟩ := clear_gone (left := left) (q := q) (F' - q) (fun i h1 h2 => by
    have := x.gone i (by omega)
    rw [clear_get h1 (by omega)] at this
    exact this) (by omega)
  rw [show q + (F' - q) = F' by omega] at e1 e2
  refine ⟨by rw [e1]; exact x, ?_, ?_, hb.trans (hb2.mono (T := W3 p g m) (fun _ _ h => .inl h)) (fun _ _ h => h)⟩
  · rw [e2]
    exact ho.but hb2 (fun i hi e => x0.noI ho i hi (.inl e))
  · rcases hf with h | ⟨h1, h2, h3⟩
    · exact .inl h
    · rw [clear_get hle (by omega)] at h3
      exact .inr ⟨h1, h2, h3⟩
theorem but_below {S : Nat → Prop} {w W w' : World} (h : But S w W) (hb : Below w.heap.size W w') : But S w w' :=
  h.trans (T := fun i => w.heap.size ≤ i) ⟨hb.os, hb.tape, hb.output, hb.size, fun i _ hn => hb.block i (by omega)⟩ (fun i h1 h2 => by omega)
set_option maxHeartbeats 8000000 in
theorem takeAll_any {w : World} {B p g h m : Nat} {A : Option Addr} {n c : Nat} {old : List Ol} {left : List Bool} {F s : Nat} {f : Lit → Option Value} {nl : List Int} (x : Lf w B p g h m A n c old left F s f nl) :
    Calls Try.prog 37 #[.pointer (some ⟨p, 0, none⟩)] w (AllV w B p g h m A n c old left) := by
  have CF := Lib.hid (first_any x)
  have HLL := Lib.hid x.lenL
  have hsm := x.small
  -- the front so far
  have hcl := clear_gone (left := left) (q := 0) F (fun i _ h2 => x.gone i (by omega)) (by have := x.front; have := x.lenL; omega)
  rw [Nat.zero_add, clearM_zero] at hcl
  have X0 : Hid (Lf w B p g h m A n c old (clearM left F) F s f nl) := Lib.hid (by rw [hcl.1]; exact x)
  have I0 : Hid (idxM left F = []) := Lib.hid hcl.2
  have CLF : Hid (clearM left F = left) := Lib.hid hcl.1
  have hFn := x.front
  have LT : Hid (B ≤ w.heap.size ∧ p < w.heap.size ∧ g < w.heap.size ∧ h < w.heap.size ∧ m < w.heap.size) := Lib.hid ⟨x.le, x.plt, (x.own.lt rfl).2, (x.nx.lt rfl).2, x.map.lt⟩
  clear x hcl
  go_enter Try.func37, Try.ntmps37
  go_wp2_with fail
  refine CF.out.mono ?_
  rintro e w1 ⟨F', a, rfl, hfr, hle, x1, b1⟩
  have ST : Hid (ARel w B p g h m A n c old left s f nl F' a none 0 0 w1) := Lib.hid (by
    obtain ⟨h1, h2, h3, h4⟩ := all_next (w := w) (v := .slice none 0 0) hFn HLL.out (But.refl _ _) (by rw [I0.out]; exact Kind.Own.nil kI w _) X0.out (by rw [CLF.out]; exact hfr) hle (by rw [CLF.out]; exact x1) b1
    exact ⟨h1, h2, h3, h4⟩)
  clear CF hfr x1 b1 X0 I0 CLF
  go_wp2_with fail
  go_loopg [3, 4] (n - F') (fun k s3 s4 wr => ∃ (q : Nat) (a : Int) (A3 : Option Addr) (n3 c3 : Nat), k = n - q ∧ s3 = .slice A3 n3 c3 ∧ s4 = .int .i64 a ∧ Hid (ARel w B p g h m A n c old left s f nl q a A3 n3 c3 wr))
  case atStart => exact ⟨F', a, none, 0, 0, rfl, rfl, rfl, ST⟩
  case round =>
    obtain ⟨q, a, A3, n3, c3, rfl, rfl, rfl, HR⟩ := hrel
    clear ST
    rcases HR.out.fr with ⟨rfl, rfl⟩ | ⟨hlt, rfl, hlq⟩
    · go_wp2_with fail
      go_ret
      refine ⟨A3, n3, c3, rfl, HR.out.own, ⟨q, s, f, nl, ?_⟩, HR.out.but⟩
      have h1 := HR.out.lf
      have h2 := clearM_all left
      rw [HLL.out] at h2
      rw [h2] at h1
      exact h1
    · have HLQ := Lib.hid hlq
      have hql : q < left.length := by have := HLL.out; omega
      obtain ⟨bb, _, g0, gf⟩ := HR.out.lf.taken hlt
      have c1 := HR.out.lf.c1
      have XT : Hid (Lf (wr.setCell ⟨g, q, none⟩ (.bool true)) B p g h m A n c old (clearM left (q + 1)) q s f nl) := Lib.hid (by
        have := HR.out.lf.take hlt
        rw [clearM_yes hql] at this
        exact this)
      have BT : Hid (But (W3 p g m) w (wr.setCell ⟨g, q, none⟩ (.bool true))) := Lib.hid (But.setCell (S := W3 p g m) (p := ⟨g, q, none⟩) HR.out.but (fun _ => .inr (.inl rfl)) _)
      have OT : Hid (kI.Own (wr.setCell ⟨g, q, none⟩ (.bool true)) w.heap.size (.slice A3 n3 c3) (idxM left q)) := Lib.hid (HR.out.own.but (set_but wr g q (.bool true)) (fun i hi e => HR.out.lf.noI HR.out.own i hi (.inr (.inl e))))
      have IY := Lib.hid (idxM_yes hlq)
      have hil := idxM_len left q
      have HW : Hid (w.heap.size ≤ (wr.setCell ⟨g, q, none⟩ (.bool true)).heap.size) := Lib.hid BT.out.size
      clear hlq HR
      go_upto_region 6 with fail
      generalize wr.setCell ⟨g, q, none⟩ (.bool true) = W at XT BT OT HW ⊢
      have LD : Hid (kI.Holds (W.alloc (.cells #[.int .i64 (q : Int)] 3)) (W.heap.size + 1) (some ⟨W.heap.size, 0, none⟩) [(q : Int)]) := Lib.hid (Kind.Holds.lit (heap_alloc_new W _) rfl)
      go_upto_region 4 with (at_builtin; refine kI.wp_app rfl _ _ rfl (v := .slice A3 n3 c3) (l := idxM left q) (m := [(q : Int)]) (B := w.heap.size) rfl (OT.out.alloc _) rfl rfl (fun e => by cases e) LD.out (by simp; omega) (by have := HW.out; simp; omega) ?_; intro v' w7 hown hgrow hat; have B7 : Hid (Below w.heap.size W w7) := Lib.hid (((Below.refl _ _).alloc HW.out _).grown hgrow (by have := HW.out; simp; omega) (fun i hi => (OT.out.lt hi).1)); obtain ⟨A7, n7, c7, rfl, _, _, _, _, _⟩ := hown.slice; have O7 := Lib.hid hown; clear hown hgrow hat)
      have X7 : Hid (Lf w7 B p g h m A n c old (clearM left (q + 1)) q s f nl) := Lib.hid (XT.out.below B7.out LT.out.1 LT.out.2.1 LT.out.2.2.1 LT.out.2.2.2.1 LT.out.2.2.2.2)
      have BB7 : Hid (But (W3 p g m) w w7) := Lib.hid (but_below BT.out B7.out)
      have CF := Lib.hid (first_any X7.out)
      clear XT BT OT LD B7
      go_wp2_with fail
      refine CF.out.mono ?_
      rintro e w8 ⟨F8, a8, rfl, hfr, hle8, x8, b8⟩
      have hF8 : q + 1 ≤ F8 := by
        rcases hfr with ⟨e, _⟩ | ⟨_, _, h3⟩
        · omega
        · by_cases e : F8 = q
          · subst e
            rw [clear_lo (by omega) (by omega)] at h3
            cases h3
          · omega
      have NR : Hid (ARel w B p g h m A n c old left s f nl F8 a8 A7 n7 c7 w8) := Lib.hid (by
        obtain ⟨h1, h2, h3, h4⟩ := all_next (w := w) (v := .slice A7 n7 c7) (q := q + 1) hlt HLL.out BB7.out (by rw [IY.out]; exact O7.out) X7.out hfr hF8 x8 b8
        exact ⟨h1, h2, h3, h4⟩)
      clear hfr x8 b8 CF X7 O7 BB7
      go_wp2_with fail
      go_roundg (n - F8)
      case measure => omega
      case rel => exact ⟨F8, a8, A7, n7, c7, rfl, rfl, rfl, NR⟩
end Go.Proofs.Ythdgaoifbejpjaa.P16

/- What the program's take answers: the place that a wanted one takes. No condition but those stated. -/
set_option linter.unusedVariables false
set_option linter.unusedSimpArgs false
namespace Go.Proofs.Ythdgaoifbejpjaa.P16
open Go.RowKit Kd P4 P5 P11 P12 P13 P14 Mv

set_option maxRecDepth 100000
theorem el16 {x : PW} (h : WfW x) (h1 : x.kind = 1) : x.tag.toList.isEmpty = false ∧ x.tag.size ≤ maxLen ∧ x.key.size ≤ maxLen := by
  have ne : ∀ {a : ByteArray}, P1.nameB a.data.toList = true → a.toList.isEmpty = false := fun {a} h => by
    rw [ByteArray.toList_eq]
    cases e : a.data.toList with
    | nil => rw [e] at h; cases h
    | cons _ _ => rfl
  have vn : ∀ {l : List UInt8}, P1.voidB l = true → P1.nameB l = true := fun {l} h => by
    unfold P1.voidB at h
    simp only [Bool.or_eq_true, beq_iff_eq] at h
    rcases h with ((h | h) | h) | h <;> rw [h] <;> decide
  have sm : ∀ {n : Nat}, n ≤ 300 → n ≤ maxLen := fun h => by unfold maxLen; omega
  cases h with
  | @el tag key attrs kids hm _ _ =>
    have hs := may_small hm
    simp only at hs
    simp only [mayI, if_true, Bool.and_eq_true, Bool.not_eq_true'] at hm
    exact ⟨ne hm.1.1, sm (by show tag.size ≤ 300; omega), sm (by show key.size ≤ 300; omega)⟩
  | @vo tag key attrs hm _ =>
    have hs := may_small hm
    simp only at hs
    exact ⟨ne (vn (may_void hm)), sm (by show tag.size ≤ 300; omega), sm (by show key.size ≤ 300; omega)⟩
  | tx => simp [PW.kind] at h1
  | nd => simp [PW.kind] at h1
  | al => simp [PW.kind] at h1
theorem kinds16 {x : PW} (h : WfW x) : x.kind = 1 ∨ x.kind = 2 ∨ x.kind = 3 ∨ x.kind = 4 := by
  cases h <;> simp [PW.kind]
theorem TkV.of {w W : World} {B p g h m : Nat} {A : Option Addr} {n c : Nat} {old : List Ol} {left : List Bool} {a : Int} {e : Ending} {w' : World} (hb : Below w.heap.size w W) (x : TkV W B p g h m A n c old left a e w') : TkV w B p g h m A n c old left a e w' :=
  ⟨x.1, x.2.1, (But.of_below hb (W3 p g m)).trans x.2.2 (fun _ _ h => h)⟩
set_option maxHeartbeats 8000000 in
theorem take_any {w : World} {B p g h m : Nat} {A : Option Addr} {n c : Nat} {old : List Ol} {left : List Bool} {F s : Nat} {f : Lit → Option Value} {nl : List Int} (x : Lf w B p g h m A n c old left F s f nl) (t : WV) (hw : WfW (er t)) :
    Calls Try.prog 36 #[.pointer (some ⟨p, 0, none⟩), .agg #[.int .i64 t.kind, .string t.tag, .string t.key, .string t.txt, .slice t.sa.A t.sa.n t.sa.c, .slice t.sk.A t.sk.n t.sk.c]] w (TkV w B p g h m A n c old left (scanM (er t) old left old.length).1) := by
  have hk := kinds16 hw
  have he := el16 hw
  obtain ⟨kind, tg, ky, tx, sa, ats, sk, ks⟩ := t
  rw [er_parts] at hk he ⊢
  simp only [WV.kind, WV.tag, WV.key, WV.txt, WV.sa, WV.sk, WV.attrs, WV.kids] at hk he ⊢
  generalize erL ks = kids at hk he ⊢
  obtain ⟨A1, n1, c1⟩ := sa
  obtain ⟨A2, n2, c2⟩ := sk
  simp only [PW.kind, PW.tag, PW.key] at hk he
  have B1 : Hid (Below w.heap.size w (w.alloc (.cells #[.int .i64 kind, .string tg, .string ky, .string tx, .slice A1 n1 c1, .slice A2 n2 c2] 41))) := Lib.hid ((Below.refl _ _).alloc (Nat.le_refl _) _)
  have X1 : Hid ((w.alloc (.cells #[.int .i64 kind, .string tg, .string ky, .string tx, .slice A1 n1 c1, .slice A2 n2 c2] 41)).heap[w.heap.size]? = some (.cells #[.int .i64 kind, .string tg, .string ky, .string tx, .slice A1 n1 c1, .slice A2 n2 c2] 41 (0, 0))) := Lib.hid (heap_alloc_new w _)
  have XL := Lib.hid (x.alloc (.cells #[.int .i64 kind, .string tg, .string ky, .string tx, .slice A1 n1 c1, .slice A2 n2 c2] 41))
  have HQ : Hid (w.heap.size ≠ p) := Lib.hid (by have := x.plt; omega)
  have HE := Lib.hid he
  clear x he hw
  go_enter Try.func36, Try.ntmps36
  go_upto_region 1 with fail
  generalize hq : w.heap.size = q at X1 HQ B1 ⊢
  rw [← hq] at B1
  generalize (w.alloc (.cells #[.int .i64 kind, .string tg, .string ky, .string tx, .slice A1 n1 c1, .slice A2 n2 c2] 41)) = W at B1 X1 XL ⊢
  have a0 : W.cell? ⟨q, 0, none⟩ = some (.int .i64 kind) := cell_of_row W q 0 _ _ (0, 0) X1.out
  have a1 : W.cell? ⟨q, 1, none⟩ = some (.string tg) := cell_of_row W q 1 _ _ (0, 0) X1.out
  have a2 : W.cell? ⟨q, 2, none⟩ = some (.string ky) := cell_of_row W q 2 _ _ (0, 0) X1.out
  obtain ⟨ek, hek⟩ : ∃ b, ky.toList.isEmpty = b := ⟨_, rfl⟩
  rcases hk with rfl | rfl | rfl | rfl
  · obtain ⟨h1, h2, h3⟩ := HE.out rfl
    cases ek with
    | false =>
      have CT := Lib.hid (takeNamed_any XL.out (.mk 1 tg ky tx ats kids) rfl h1 hek h2 h3)
      simp only [PW.tag, PW.key] at CT
      clear h1 h2 h3
      go_wp2_with fail
      refine CT.out.mono ?_
      rintro e w2 hv
      have HV := Lib.hid (TkV.of B1.out hv)
      obtain ⟨rfl, _⟩ := hv
      clear CT
      go_wp2_with fail
      go_ret
      exact HV.out
    | true =>
      have CT := Lib.hid (takeFirstE_any XL.out (.mk 1 tg ky tx ats kids) (takes_first (by rintro ⟨_, h⟩; simp only [PW.key] at h; rw [hek] at h; cases h)) q (fun o wz hb => fitsE_any (.mk 1 tg ky tx ats kids) o q wz rfl h1 hek (cell_of_row wz q 1 _ _ (0, 0) ((hb.block q (heap_lt X1.out) HQ.out).trans X1.out)) (by have := hb.size; have := heap_lt X1.out; omega)))
      clear h1 h2 h3
      go_wp2_with fail
      refine CT.out.mono ?_
      rintro e w2 hv
      have HV := Lib.hid (TkV.of B1.out hv)
      obtain ⟨rfl, _⟩ := hv
      clear CT
      go_wp2_with fail
      go_ret
      exact HV.out
  · have CT := Lib.hid (takeFirstT_any XL.out (.mk 2 tg ky tx ats kids) (takes_first (by rintro ⟨h, _⟩; simp [PW.kind] at h)) (fun o wz _ => fitsT_any (.mk 2 tg ky tx ats kids) o wz rfl))
    go_wp2_with fail
    refine CT.out.mono ?_
    rintro e w2 hv
    have HV := Lib.hid (TkV.of B1.out hv)
    obtain ⟨rfl, _⟩ := hv
    clear CT
    go_wp2_with fail
    go_ret
    exact HV.out
  · have CT := Lib.hid (takeFirstN_any XL.out (.mk 3 tg ky tx ats kids) (takes_first (by rintro ⟨h, _⟩; simp [PW.kind] at h)) (fun o wz _ => fitsN_any (.mk 3 tg ky tx ats kids) o wz rfl))
    go_wp2_with fail
    refine CT.out.mono ?_
    rintro e w2 hv
    have HV := Lib.hid (TkV.of B1.out hv)
    obtain ⟨rfl, _⟩ := hv
    clear CT
    go_wp2_with fail
    go_ret
    exact HV.out
  · have HV : Hid (TkV w B p g h m A n c old left (scanM (.mk 4 tg ky tx ats kids) old left old.length).1 (.returned (.int .i64 (-1))) W) := Lib.hid (TkV.of B1.out (by
      have : (scanM (.mk 4 tg ky tx ats kids) old left old.length).1 = -1 := scan_none (fun j _ o _ f => by simp [takesW, PW.kind]) _
      rw [this]
      exact ⟨rfl, ⟨F, s, f, nl, by rw [leftM_none]; exact XL.out⟩, But.refl _ _⟩))
    go_wp2_with fail
    go_ret
    exact HV.out
end Go.Proofs.Ythdgaoifbejpjaa.P16
