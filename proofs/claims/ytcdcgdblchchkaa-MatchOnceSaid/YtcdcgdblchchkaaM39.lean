/- What the program's takeAll answers: the places of all that are left, which are left no more; and its take. No condition but those stated. -/
import Derived.Test.YtcdcgdblchchkaaM11
import Derived.Test.YtcdcgdblchchkaaM38
set_option linter.unusedVariables false
set_option linter.unusedSimpArgs false
set_option linter.unusedVariables false
set_option linter.unusedSimpArgs false
namespace Go.Proofs.Ytcdcgdblchchkaa.P16
open Go.RowKit Kd P4 P5 P11 P12 P13 P14 Mv

set_option maxRecDepth 100000
/-- ahead of a round: the first q are taken, their places told -/
structure ARel (w : World) (B p g h m : Nat) (A : Option Addr) (n c : Nat) (old : List Ol) (left : List Bool) (s : Nat) (f : Lit → Option Value) (nl : List Int) (q : Nat) (a : Int) (A3 : Option Addr) (n3 c3 : Nat) (wr : World) : Prop where
  lf : Lf wr B p g h m A n c old (clearM left q) q s f nl
  own : kI.Own wr w.heap.size (.slice A3 n3 c3) (idxM left q)
  fr : (q = n ∧ a = -1) ∨ (q < n ∧ a = (q : Int) ∧ left[q]? = some true)
  but : But (W3 p g m) w wr
def AllV (w : World) (B p g h m : Nat) (A : Option Addr) (n c : Nat) (old : List Ol) (left : List Bool) (e : Ending) (w' : World) : Prop := ∃ (A3 : Option Addr) (n3 c3 : Nat), e = .returned (.slice A3 n3 c3) ∧ kI.Own w' w.heap.size (.slice A3 n3 c3) (idxM left n) ∧ LfE w' B p g h m A n c old (List.replicate n false) ∧ But (W3 p g m) w w'
/-- behind 'first', from q on -/
theorem all_next {w wa wr : World} {B p g h m : Nat} {A : Option Addr} {n c : Nat} {old : List Ol} {left : List Bool} {s : Nat} {f : Lit → Option Value} {nl : List Int} {q F' F0 : Nat} {l0 : List Bool} {a : Int} {v : Value} (hq : q ≤ n) (hl : left.length = n)
    (hb : But (W3 p g m) w wa) (ho : kI.Own wa w.heap.size v (idxM left q)) (x0 : Lf wa B p g h m A n c old l0 F0 s f nl) (hf : FrA (clearM left q) n F' a) (hle : q ≤ F') (x : Lf wr B p g h m A n c old (clearM left q) F' s f nl) (hb2 : But (fun k => k = p) wa wr) :
    Lf wr B p g h m A n c old (clearM left F') F' s f nl ∧ kI.Own wr w.heap.size v (idxM left F') ∧ ((F' = n ∧ a = -1) ∨ (F' < n ∧ a = (F' : Int) ∧ left[F']? = some true)) ∧ But (W3 p g m) w wr := by
  have hFn : F' ≤ n := x.front
  obtain ⟨e1, e2⟩ := clear_gone (left := left) (q := q) (F' - q) (fun i h1 h2 => by
    have := x.gone i (by omega)
    rw [clear_get h1 (by omega)] at this
    exact this) (by omega)
  rw [show q + (F' - q) = F' by omega] at e1 e2
  refine ⟨by rw [e1]; exact x, ?_, ?_, hb.trans (hb2.mono (T := W3 p g m) (fun _ _ h => .inl h)) (fun _ _ h => h)⟩
  · rw [e2]
    exact ho.but hb2 (fun i hi e => x0.noI ho i hi (.inl e))
  · rcases hf with h | ⟨h1, h2, h3⟩
    · exact .inl h
    · rw [clear_get hle (by omega)] at h3
      exact .inr ⟨h1, h2, h3⟩
theorem but_below {S : Nat → Prop} {w W w' : World} (h : But S w W) (hb : Below w.heap.size W w') : But S w w' :=
  h.trans (T := fun i => w.heap.size ≤ i) ⟨hb.os, hb.tape, hb.output, hb.size, fun i _ hn => hb.block i (by omega)⟩ (fun i h1 h2 => by omega)
set_option maxHeartbeats 8000000 in
theorem takeAll_any {w : World} {B p g h m : Nat} {A : Option Addr} {n c : Nat} {old : List Ol} {left : List Bool} {F s : Nat} {f : Lit → Option Value} {nl : List Int} (x : Lf w B p g h m A n c old left F s f nl) :
    Calls Try.prog 15 #[.pointer (some ⟨p, 0, none⟩)] w (AllV w B p g h m A n c old left) := by
  have CF := Lib.hid (first_any x)
  have HLL := Lib.hid x.lenL
  have hsm := x.small
  -- the front so far
  have hcl := clear_gone (left := left) (q := 0) F (fun i _ h2 => x.gone i (by omega)) (by have := x.front; have := x.lenL; omega)
  rw [Nat.zero_add, clearM_zero] at hcl
  have X0 : Hid (Lf w B p g h m A n c old (clearM left F) F s f nl) := Lib.hid (by rw [hcl.1]; exact x)
  have I0 : Hid (idxM left F = []) := Lib.hid hcl.2
  have CLF : Hid (clearM left F = left) := Lib.hid hcl.1
  have hFn := x.front
  have LT : Hid (B ≤ w.heap.size ∧ p < w.heap.size ∧ g < w.heap.size ∧ h < w.heap.size ∧ m < w.heap.size) := Lib.hid ⟨x.le, x.plt, (x.own.lt rfl).2, (x.nx.lt rfl).2, x.map.lt⟩
  clear x hcl
  go_enter Try.func15, Try.ntmps15
  go_wp2_with fail
  refine CF.out.mono ?_
  rintro e w1 ⟨F', a, rfl, hfr, hle, x1, b1⟩
  have ST : Hid (ARel w B p g h m A n c old left s f nl F' a none 0 0 w1) := Lib.hid (by
    obtain ⟨h1, h2, h3, h4⟩ := all_next (w := w) (v := .slice none 0 0) hFn HLL.out (But.refl _ _) (by rw [I0.out]; exact Kind.Own.nil kI w _) X0.out (by rw [CLF.out]; exact hfr) hle (by rw [CLF.out]; exact x1) b1
    exact ⟨h1, h2, h3, h4⟩)
  clear CF hfr x1 b1 X0 I0 CLF
  go_wp2_with fail
  go_loopg [3, 4] (n - F') (fun k s3 s4 wr => ∃ (q : Nat) (a : Int) (A3 : Option Addr) (n3 c3 : Nat), k = n - q ∧ s3 = .slice A3 n3 c3 ∧ s4 = .int .i64 a ∧ Hid (ARel w B p g h m A n c old left s f nl q a A3 n3 c3 wr))
  case atStart => exact ⟨F', a, none, 0, 0, rfl, rfl, rfl, ST⟩
  case round =>
    obtain ⟨q, a, A3, n3, c3, rfl, rfl, rfl, HR⟩ := hrel
    clear ST
    rcases HR.out.fr with ⟨rfl, rfl⟩ | ⟨hlt, rfl, hlq⟩
    · go_wp2_with fail
      go_ret
      refine ⟨A3, n3, c3, rfl, HR.out.own, ⟨q, s, f, nl, ?_⟩, HR.out.but⟩
      have h1 := HR.out.lf
      have h2 := clearM_all left
      rw [HLL.out] at h2
      rw [h2] at h1
      exact h1
    · have HLQ := Lib.hid hlq
      have hql : q < left.length := by have := HLL.out; omega
      obtain ⟨bb, _, g0, gf⟩ := HR.out.lf.taken hlt
      have c1 := HR.out.lf.c1
      have XT : Hid (Lf (wr.setCell ⟨g, q, none⟩ (.bool true)) B p g h m A n c old (clearM left (q + 1)) q s f nl) := Lib.hid (by
        have := HR.out.lf.take hlt
        rw [clearM_yes hql] at this
        exact this)
      have BT : Hid (But (W3 p g m) w (wr.setCell ⟨g, q, none⟩ (.bool true))) := Lib.hid (But.setCell (S := W3 p g m) (p := ⟨g, q, none⟩) HR.out.but (fun _ => .inr (.inl rfl)) _)
      have OT : Hid (kI.Own (wr.setCell ⟨g, q, none⟩ (.bool true)) w.heap.size (.slice A3 n3 c3) (idxM left q)) := Lib.hid (HR.out.own.but (set_but wr g q (.bool true)) (fun i hi e => HR.out.lf.noI HR.out.own i hi (.inr (.inl e))))
      have IY := Lib.hid (idxM_yes hlq)
      have hil := idxM_len left q
      have HW : Hid (w.heap.size ≤ (wr.setCell ⟨g, q, none⟩ (.bool true)).heap.size) := Lib.hid BT.out.size
      clear hlq HR
      go_upto_region 6 with fail
      generalize wr.setCell ⟨g, q, none⟩ (.bool true) = W at XT BT OT HW ⊢
      have LD : Hid (kI.Holds (W.alloc (.cells #[.int .i64 (q : Int)] 3)) (W.heap.size + 1) (some ⟨W.heap.size, 0, none⟩) [(q : Int)]) := Lib.hid (Kind.Holds.lit (heap_alloc_new W _) rfl)
      go_upto_region 4 with (at_builtin; refine kI.wp_app rfl _ _ rfl (v := .slice A3 n3 c3) (l := idxM left q) (m := [(q : Int)]) (B := w.heap.size) rfl (OT.out.alloc _) rfl rfl (fun e => by cases e) LD.out (by simp; omega) (by have := HW.out; simp; omega) ?_; intro v' w7 hown hgrow hat; have B7 : Hid (Below w.heap.size W w7) := Lib.hid (((Below.refl _ _).alloc HW.out _).grown hgrow (by have := HW.out; simp; omega) (fun i hi => (OT.out.lt hi).1)); obtain ⟨A7, n7, c7, rfl, _, _, _, _, _⟩ := hown.slice; have O7 := Lib.hid hown; clear hown hgrow hat)
      have X7 : Hid (Lf w7 B p g h m A n c old (clearM left (q + 1)) q s f nl) := Lib.hid (XT.out.below B7.out LT.out.1 LT.out.2.1 LT.out.2.2.1 LT.out.2.2.2.1 LT.out.2.2.2.2)
      have BB7 : Hid (But (W3 p g m) w w7) := Lib.hid (but_below BT.out B7.out)
      have CF := Lib.hid (first_any X7.out)
      clear XT BT OT LD B7
      go_wp2_with fail
      refine CF.out.mono ?_
      rintro e w8 ⟨F8, a8, rfl, hfr, hle8, x8, b8⟩
      have hF8 : q + 1 ≤ F8 := by
        rcases hfr with ⟨e, _⟩ | ⟨_, _, h3⟩
        · omega
        · by_cases e : F8 = q
          · subst e
            rw [clear_lo (by omega) (by omega)] at h3
            cases h3
          · omega
      have NR : Hid (ARel w B p g h m A n c old left s f nl F8 a8 A7 n7 c7 w8) := Lib.hid (by
        obtain ⟨h1, h2, h3, h4⟩ := all_next (w := w) (v := .slice A7 n7 c7) (q := q + 1) hlt HLL.out BB7.out (by rw [IY.out]; exact O7.out) X7.out hfr hF8 x8 b8
        exact ⟨h1, h2, h3, h4⟩)
      clear hfr x8 b8 CF X7 O7 BB7
      go_wp2_with fail
      go_roundg (n - F8)
      case measure => omega
      case rel => exact ⟨F8, a8, A7, n7, c7, rfl, rfl, rfl, NR⟩
end Go.Proofs.Ytcdcgdblchchkaa.P16

/- What the program's take answers: the place that a wanted one takes. No condition but those stated. -/
set_option linter.unusedVariables false
set_option linter.unusedSimpArgs false
namespace Go.Proofs.Ytcdcgdblchchkaa.P16
open Go.RowKit Kd P4 P5 P11 P12 P13 P14 Mv

set_option maxRecDepth 100000
theorem el16 {x : PW} (h : WfW x) (h1 : x.kind = 1) : x.tag.toList.isEmpty = false ∧ x.tag.size ≤ maxLen ∧ x.key.size ≤ maxLen := by
  have ne : ∀ {a : ByteArray}, P1.nameB a.data.toList = true → a.toList.isEmpty = false := fun {a} h => by
    rw [ByteArray.toList_eq]
    cases e : a.data.toList with
    | nil => rw [e] at h; cases h
    | cons _ _ => rfl
  have vn : ∀ {l : List UInt8}, P1.voidB l = true → P1.nameB l = true := fun {l} h => by
    unfold P1.voidB at h
    simp only [Bool.or_eq_true, beq_iff_eq] at h
    rcases h with ((h | h) | h) | h <;> rw [h] <;> decide
  have sm : ∀ {n : Nat}, n ≤ 300 → n ≤ maxLen := fun h => by unfold maxLen; omega
  cases h with
  | @el tag key attrs kids hm _ _ =>
    have hs := may_small hm
    simp only at hs
    simp only [mayI, if_true, Bool.and_eq_true, Bool.not_eq_true'] at hm
    exact ⟨ne hm.1.1, sm (by show tag.size ≤ 300; omega), sm (by show key.size ≤ 300; omega)⟩
  | @vo tag key attrs hm _ =>
    have hs := may_small hm
    simp only at hs
    exact ⟨ne (vn (may_void hm)), sm (by show tag.size ≤ 300; omega), sm (by show key.size ≤ 300; omega)⟩
  | tx => simp [PW.kind] at h1
  | nd => simp [PW.kind] at h1
  | al => simp [PW.kind] at h1
theorem kinds16 {x : PW} (h : WfW x) : x.kind = 1 ∨ x.kind = 2 ∨ x.kind = 3 ∨ x.kind = 4 := by
  cases h <;> simp [PW.kind]
theorem TkV.of {w W : World} {B p g h m : Nat} {A : Option Addr} {n c : Nat} {old : List Ol} {left : List Bool} {a : Int} {e : Ending} {w' : World} (hb : Below w.heap.size w W) (x : TkV W B p g h m A n c old left a e w') : TkV w B p g h m A n c old left a e w' :=
  ⟨x.1, x.2.1, (But.of_below hb (W3 p g m)).trans x.2.2 (fun _ _ h => h)⟩
set_option maxHeartbeats 8000000 in
theorem take_any {w : World} {B p g h m : Nat} {A : Option Addr} {n c : Nat} {old : List Ol} {left : List Bool} {F s : Nat} {f : Lit → Option Value} {nl : List Int} (x : Lf w B p g h m A n c old left F s f nl) (t : WV) (hw : WfW (er t)) :
    Calls Try.prog 14 #[.pointer (some ⟨p, 0, none⟩), .agg #[.int .i64 t.kind, .string t.tag, .string t.key, .string t.txt, .slice t.sa.A t.sa.n t.sa.c, .slice t.sk.A t.sk.n t.sk.c]] w (TkV w B p g h m A n c old left (scanM (er t) old left old.length).1) := by
  have hk := kinds16 hw
  have he := el16 hw
  obtain ⟨kind, tg, ky, tx, sa, ats, sk, ks⟩ := t
  rw [er_parts] at hk he ⊢
  simp only [WV.kind, WV.tag, WV.key, WV.txt, WV.sa, WV.sk, WV.attrs, WV.kids] at hk he ⊢
  generalize erL ks = kids at hk he ⊢
  obtain ⟨A1, n1, c1⟩ := sa
  obtain ⟨A2, n2, c2⟩ := sk
  simp only [PW.kind, PW.tag, PW.key] at hk he
  have B1 : Hid (Below w.heap.size w (w.alloc (.cells #[.int .i64 kind, .string tg, .string ky, .string tx, .slice A1 n1 c1, .slice A2 n2 c2] 44))) := Lib.hid ((Below.refl _ _).alloc (Nat.le_refl _) _)
  have X1 : Hid ((w.alloc (.cells #[.int .i64 kind, .string tg, .string ky, .string tx, .slice A1 n1 c1, .slice A2 n2 c2] 44)).heap[w.heap.size]? = some (.cells #[.int .i64 kind, .string tg, .string ky, .string tx, .slice A1 n1 c1, .slice A2 n2 c2] 44 (0, 0))) := Lib.hid (heap_alloc_new w _)
  have XL := Lib.hid (x.alloc (.cells #[.int .i64 kind, .string tg, .string ky, .string tx, .slice A1 n1 c1, .slice A2 n2 c2] 44))
  have HQ : Hid (w.heap.size ≠ p) := Lib.hid (by have := x.plt; omega)
  have HE := Lib.hid he
  clear x he hw
  go_enter Try.func14, Try.ntmps14
  go_upto_region 1 with fail
  generalize hq : w.heap.size = q at X1 HQ B1 ⊢
  rw [← hq] at B1
  generalize (w.alloc (.cells #[.int .i64 kind, .string tg, .string ky, .string tx, .slice A1 n1 c1, .slice A2 n2 c2] 44)) = W at B1 X1 XL ⊢
  have a0 : W.cell? ⟨q, 0, none⟩ = some (.int .i64 kind) := cell_of_row W q 0 _ _ (0, 0) X1.out
  have a1 : W.cell? ⟨q, 1, none⟩ = some (.string tg) := cell_of_row W q 1 _ _ (0, 0) X1.out
  have a2 : W.cell? ⟨q, 2, none⟩ = some (.string ky) := cell_of_row W q 2 _ _ (0, 0) X1.out
  obtain ⟨ek, hek⟩ : ∃ b, ky.toList.isEmpty = b := ⟨_, rfl⟩
  rcases hk with rfl | rfl | rfl | rfl
  · obtain ⟨h1, h2, h3⟩ := HE.out rfl
    cases ek with
    | false =>
      have CT := Lib.hid (takeNamed_any XL.out (.mk 1 tg ky tx ats kids) rfl h1 hek h2 h3)
      simp only [PW.tag, PW.key] at CT
      clear h1 h2 h3
      go_wp2_with fail
      refine CT.out.mono ?_
      rintro e w2 hv
      have HV := Lib.hid (TkV.of B1.out hv)
      obtain ⟨rfl, _⟩ := hv
      clear CT
      go_wp2_with fail
      go_ret
      exact HV.out
    | true =>
      have CT := Lib.hid (takeFirstE_any XL.out (.mk 1 tg ky tx ats kids) (takes_first (by rintro ⟨_, h⟩; simp only [PW.key] at h; rw [hek] at h; cases h)) q (fun o wz hb => fitsE_any (.mk 1 tg ky tx ats kids) o q wz rfl h1 hek (cell_of_row wz q 1 _ _ (0, 0) ((hb.block q (heap_lt X1.out) HQ.out).trans X1.out)) (by have := hb.size; have := heap_lt X1.out; omega)))
      clear h1 h2 h3
      go_wp2_with fail
      refine CT.out.mono ?_
      rintro e w2 hv
      have HV := Lib.hid (TkV.of B1.out hv)
      obtain ⟨rfl, _⟩ := hv
      clear CT
      go_wp2_with fail
      go_ret
      exact HV.out
  · have CT := Lib.hid (takeFirstT_any XL.out (.mk 2 tg ky tx ats kids) (takes_first (by rintro ⟨h, _⟩; simp [PW.kind] at h)) (fun o wz _ => fitsT_any (.mk 2 tg ky tx ats kids) o wz rfl))
    go_wp2_with fail
    refine CT.out.mono ?_
    rintro e w2 hv
    have HV := Lib.hid (TkV.of B1.out hv)
    obtain ⟨rfl, _⟩ := hv
    clear CT
    go_wp2_with fail
    go_ret
    exact HV.out
  · have CT := Lib.hid (takeFirstN_any XL.out (.mk 3 tg ky tx ats kids) (takes_first (by rintro ⟨h, _⟩; simp [PW.kind] at h)) (fun o wz _ => fitsN_any (.mk 3 tg ky tx ats kids) o wz rfl))
    go_wp2_with fail
    refine CT.out.mono ?_
    rintro e w2 hv
    have HV := Lib.hid (TkV.of B1.out hv)
    obtain ⟨rfl, _⟩ := hv
    clear CT
    go_wp2_with fail
    go_ret
    exact HV.out
  · have HV : Hid (TkV w B p g h m A n c old left (scanM (.mk 4 tg ky tx ats kids) old left old.length).1 (.returned (.int .i64 (-1))) W) := Lib.hid (TkV.of B1.out (by
      have : (scanM (.mk 4 tg ky tx ats kids) old left old.length).1 = -1 := scan_none (fun j _ o _ f => by simp [takesW, PW.kind]) _
      rw [this]
      exact ⟨rfl, ⟨F, s, f, nl, by rw [leftM_none]; exact XL.out⟩, But.refl _ _⟩))
    go_wp2_with fail
    go_ret
    exact HV.out
end Go.Proofs.Ytcdcgdblchchkaa.P16
