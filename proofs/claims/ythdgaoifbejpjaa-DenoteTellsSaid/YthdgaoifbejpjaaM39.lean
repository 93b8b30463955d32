/- What denote's element answers, if Of does what it is told below it. No condition but those stated. -/
import Derived.Test.YthdgaoifbejpjaaM16
import Derived.Test.YthdgaoifbejpjaaM26
import Derived.Test.YthdgaoifbejpjaaM33
import Derived.Test.YthdgaoifbejpjaaM38
set_option linter.unusedVariables false
set_option linter.unusedSimpArgs false
namespace Go.Proofs.Ythdgaoifbejpjaa.P17
open Go.RowKit Kd P4 P5 P11 P12 P13 P14 P16
set_option linter.unusedSimpArgs false
set_option linter.unusedVariables false

def DenK (ts : List WV) : Prop := ∀ (A : Option Addr) (n c : Nat) (os : List P8.TV) (A' : Option Addr) (n' c' : Nat) (w : World), Wn w A n c ts → (∀ t ∈ erL ts, WfW t) → P20.LastP (erL ts) → wtL (erL ts) ≤ 150 →
  P8.kT.Holds w w.heap.size A' os → os.length = n' → n' ≤ c' → (∀ o ∈ os, P8.TOk w w.heap.size o) → P8.mayL (os.map P8.er) = true → P8.countL (os.map P8.er) ≤ 200 → Calls Try.prog 8 #[.slice A n c, .slice A' n' c'] w (TrV 0 w (denP (erL ts) (os.map P8.er)))
/-- a tree that is made: its texts, its attributes and its children laid -/
theorem elem_end {w w6 wf : World} {tg ky : ByteArray} {ats : List P3.At} {us : List P8.TV} {A5 A6 : Option Addr} {n5 c5 n6 c6 D : Nat} (hB : Below w.heap.size w w6) (l5 : ats.length = n5) (k5 : n5 ≤ c5) (z5 : A5 = none → c5 = 0)
    (hA : HoldsQ kA w6 (fun b => D ≤ b) A5 ats) (hK : P8.kT.Own w6 D (.slice A6 n6 c6) us) (hq : ∀ t ∈ us, TQ w6 (fun b => D ≤ b) t) (hD : w.heap.size + 2 < D)
    (hb : But (fun k => k = w.heap.size + 1 ∨ k = w.heap.size + 2) w6 wf) : OwV w (.mk tg z0 ky ats (us.map P8.er)) (.returned (.agg #[.string tg, .string ⟨#[]⟩, .string ky, .slice A5 n5 c5, .slice A6 n6 c6])) wf := by
  have o6 := own_isU hK
  refine ⟨.mk tg ⟨#[]⟩ ky ⟨A5, n5, c5⟩ ats ⟨A6, n6, c6⟩ us, rfl, by rw [P8.er_mk]; rfl, ?_, hB.trans (hb.to_below (fun i _ hi => by omega) hB.size)⟩
  exact .mk l5 k5 z5 ((hA.but hb (fun b hb e => by omega)).mono (fun b _ hb => by omega)) o6.1 o6.2.1 o6.2.2.2.1 (((own_q hK).but hb (fun b hb e => by omega)).mono (fun b _ hb => by omega))
    (fun t ht => ((hq t ht).but hb (fun b hb e => by omega)).mono (fun b _ hb => by omega))
theorem five_set (w : World) (b : Nat) (u0 u1 u2 u3 u4 : Value) : But (fun i => i = b) w (((((w.setCell ⟨b, 0, none⟩ u0).setCell ⟨b, 1, none⟩ u1).setCell ⟨b, 2, none⟩ u2).setCell ⟨b, 3, none⟩ u3).setCell ⟨b, 4, none⟩ u4) :=
  But.setCell (S := fun i => i = b) (p := ⟨b, 4, none⟩) (But.setCell (S := fun i => i = b) (p := ⟨b, 3, none⟩) (But.setCell (S := fun i => i = b) (p := ⟨b, 2, none⟩) (But.setCell (S := fun i => i = b) (p := ⟨b, 1, none⟩) (But.setCell (S := fun i => i = b) (p := ⟨b, 0, none⟩) (But.refl _ _) (fun _ => rfl) _) (fun _ => rfl) _) (fun _ => rfl) _) (fun _ => rfl) _) (fun _ => rfl) _
theorem elem_set {w6 w7 : World} {g q : Nat} (h : But (fun k => k = g + 1 ∨ k = q) w6 w7) (hq : g + 2 = q) (u0 u1 u2 u3 u4 : Value) :
    But (fun k => k = g + 1 ∨ k = g + 2) w6 (((((w7.setCell ⟨g + 1, 0, none⟩ u0).setCell ⟨g + 1, 1, none⟩ u1).setCell ⟨g + 1, 2, none⟩ u2).setCell ⟨g + 1, 3, none⟩ u3).setCell ⟨g + 1, 4, none⟩ u4) := by
  subst hq
  exact h.trans (five_set w7 (g + 1) u0 u1 u2 u3 u4) (fun i _ e => .inl e)
theorem three_new (w : World) (d : WV) (tg ky : ByteArray) : P14.WB (((w.alloc (.cells #[.int .i64 d.kind, .string d.tag, .string d.key, .string d.txt, .slice d.sa.A d.sa.n d.sa.c, .slice d.sk.A d.sk.n d.sk.c] 41)).alloc (.cells #[.string ⟨#[]⟩, .string ⟨#[]⟩, .string ⟨#[]⟩, .slice none 0 0, .slice none 0 0] 37)).alloc (.cells #[.string tg, .string ⟨#[]⟩, .string ky, .slice none 0 0, .slice none 0 0] 37)) w.heap.size d ∧
    P8.TB (((w.alloc (.cells #[.int .i64 d.kind, .string d.tag, .string d.key, .string d.txt, .slice d.sa.A d.sa.n d.sa.c, .slice d.sk.A d.sk.n d.sk.c] 41)).alloc (.cells #[.string ⟨#[]⟩, .string ⟨#[]⟩, .string ⟨#[]⟩, .slice none 0 0, .slice none 0 0] 37)).alloc (.cells #[.string tg, .string ⟨#[]⟩, .string ky, .slice none 0 0, .slice none 0 0] 37)) (w.heap.size + 1) zT ∧
    P8.TB (((w.alloc (.cells #[.int .i64 d.kind, .string d.tag, .string d.key, .string d.txt, .slice d.sa.A d.sa.n d.sa.c, .slice d.sk.A d.sk.n d.sk.c] 41)).alloc (.cells #[.string ⟨#[]⟩, .string ⟨#[]⟩, .string ⟨#[]⟩, .slice none 0 0, .slice none 0 0] 37)).alloc (.cells #[.string tg, .string ⟨#[]⟩, .string ky, .slice none 0 0, .slice none 0 0] 37)) (w.heap.size + 2) (.mk tg ⟨#[]⟩ ky ⟨none, 0, 0⟩ [] ⟨none, 0, 0⟩ []) ∧
    Below w.heap.size w (((w.alloc (.cells #[.int .i64 d.kind, .string d.tag, .string d.key, .string d.txt, .slice d.sa.A d.sa.n d.sa.c, .slice d.sk.A d.sk.n d.sk.c] 41)).alloc (.cells #[.string ⟨#[]⟩, .string ⟨#[]⟩, .string ⟨#[]⟩, .slice none 0 0, .slice none 0 0] 37)).alloc (.cells #[.string tg, .string ⟨#[]⟩, .string ky, .slice none 0 0, .slice none 0 0] 37)) := by
  refine ⟨heap_up (heap_up (heap_alloc_new w _)), ?_, ?_, (((Below.refl _ _).alloc (Nat.le_refl _) _).alloc (by simp) _).alloc (by simp; omega) _⟩
  · have h := heap_alloc_new (w.alloc (.cells #[.int .i64 d.kind, .string d.tag, .string d.key, .string d.txt, .slice d.sa.A d.sa.n d.sa.c, .slice d.sk.A d.sk.n d.sk.c] 41)) (.cells #[.string ⟨#[]⟩, .string ⟨#[]⟩, .string ⟨#[]⟩, .slice none 0 0, .slice none 0 0] 37)
    have e : (w.alloc (.cells #[.int .i64 d.kind, .string d.tag, .string d.key, .string d.txt, .slice d.sa.A d.sa.n d.sa.c, .slice d.sk.A d.sk.n d.sk.c] 41)).heap.size = w.heap.size + 1 := by simp
    rw [e] at h
    exact heap_up h
  · have h := heap_alloc_new ((w.alloc (.cells #[.int .i64 d.kind, .string d.tag, .string d.key, .string d.txt, .slice d.sa.A d.sa.n d.sa.c, .slice d.sk.A d.sk.n d.sk.c] 41)).alloc (.cells #[.string ⟨#[]⟩, .string ⟨#[]⟩, .string ⟨#[]⟩, .slice none 0 0, .slice none 0 0] 37)) (.cells #[.string tg, .string ⟨#[]⟩, .string ky, .slice none 0 0, .slice none 0 0] 37)
    have e : ((w.alloc (.cells #[.int .i64 d.kind, .string d.tag, .string d.key, .string d.txt, .slice d.sa.A d.sa.n d.sa.c, .slice d.sk.A d.sk.n d.sk.c] 41)).alloc (.cells #[.string ⟨#[]⟩, .string ⟨#[]⟩, .string ⟨#[]⟩, .slice none 0 0, .slice none 0 0] 37)).heap.size = w.heap.size + 2 := by simp
    rw [e] at h
    exact h
theorem may_parts {t : P8.PT} (h : P8.mayP t = true) : t.attrs.length ≤ 8 ∧ P8.mayL t.kids = true := by
  obtain ⟨tag, txt, key, attrs, kids⟩ := t
  rw [P8.mayP] at h
  split at h
  · simp only [Bool.and_eq_true, List.isEmpty_iff] at h
    obtain ⟨⟨_, rfl⟩, rfl⟩ := h
    exact ⟨by simp [P8.PT.attrs], rfl⟩
  · simp only [Bool.and_eq_true] at h
    exact ⟨mayA_len h.1.1.1.2, h.2⟩
set_option maxRecDepth 100000 in
set_option maxHeartbeats 8000000 in
theorem elem_new (d : WV) (IH : DenK d.kids) (B : Option Addr) (r : Nat) (w : World) (hd : WOk kW w w.heap.size d) (hwf : ∀ t ∈ erL d.kids, WfW t) (hl : P20.LastP (erL d.kids)) (hwt : wtL (erL d.kids) ≤ 150) (hat : d.attrs.length ≤ 1000) :
    Calls Try.prog 20 #[.agg #[.int .i64 d.kind, .string d.tag, .string d.key, .string d.txt, .slice d.sa.A d.sa.n d.sa.c, .slice d.sk.A d.sk.n d.sk.c], .slice B 0 r] w (OwV w (.mk d.tag z0 d.key (P3.newA d.attrs) (denP (erL d.kids) []))) := by
  obtain ⟨n1, n2, n3, n4⟩ := three_new w d d.tag d.key
  have N1 := Lib.hid n1
  have N2 := Lib.hid n2
  have N3 := Lib.hid n3
  have B0 := Lib.hid n4
  have NC : Hid (∀ w9, Below w.heap.size w w9 → Calls Try.prog 38 #[.slice d.sa.A d.sa.n d.sa.c] w9 (P3.GivesA w9 (P3.newA d.attrs))) := Lib.hid (fun w9 h => by
    have ht := hd.on h
    exact P3.new_any d.attrs d.sa.A d.sa.n d.sa.c w9 ht.al (by have := ht.al; omega) (p3holds ht.ah))
  have CK : Hid (∀ w9, Below w.heap.size w w9 → Calls Try.prog 8 #[.slice d.sk.A d.sk.n d.sk.c, .slice none 0 0] w9 (TrV 0 w9 (denP (erL d.kids) []))) := Lib.hid (fun w9 h => by
    have ht := hd.on h
    exact IH d.sk.A d.sk.n d.sk.c [] none 0 0 w9 ⟨ht.kl, ht.kc, ht.kz, ht.kh, ht.ks⟩ hwf hl hwt (Kind.Holds.nil _ _ _) rfl (Nat.le_refl _) (by intro o ho; cases ho) rfl (by simp [P8.countL]))
  clear n1 n2 n3 n4 hd hwf hl hwt hat IH
  obtain ⟨kind, tg, ky, tx, sa, ats, sk, kds⟩ := d
  simp only [WV.kind, WV.tag, WV.key, WV.txt, WV.sa, WV.attrs, WV.sk, WV.kids] at N1 N2 N3 B0 NC CK ⊢
  go_enter Try.func20, Try.ntmps20
  go_upto_region 3 with fail
  generalize (((w.alloc (.cells #[.int .i64 kind, .string tg, .string ky, .string tx, .slice sa.A sa.n sa.c, .slice sk.A sk.n sk.c] 41)).alloc (.cells #[.string ⟨#[]⟩, .string ⟨#[]⟩, .string ⟨#[]⟩, .slice none 0 0, .slice none 0 0] 37)).alloc (.cells #[.string tg, .string ⟨#[]⟩, .string ky, .slice none 0 0, .slice none 0 0] 37)) = W at N1 N2 N3 B0 ⊢
  obtain ⟨q, hq⟩ : ∃ q, w.heap.size + 1 + 1 = q := ⟨_, rfl⟩
  have hq2 : w.heap.size + 2 = q := hq
  rw [hq2] at N3
  simp only [hq]
  have hp0 : w.heap.size < W.heap.size := N1.out.lt
  have hp1 : w.heap.size + 1 < W.heap.size := N2.out.lt
  have hp2 : q < W.heap.size := N3.out.lt
  have SKA : Hid (∀ wz, Below W.heap.size W wz → wz.cell? ⟨w.heap.size, 4, none⟩ = some (.slice sa.A sa.n sa.c) ∧ wz.cell? ⟨w.heap.size, 5, none⟩ = some (.slice sk.A sk.n sk.c)) := Lib.hid (fun wz h => ⟨(h.cell hp0).trans N1.out.c4, (h.cell hp0).trans N1.out.c5⟩)
  have SK := SKA.out W (Below.refl _ _)
  have SKS : ∀ (wz : World) (u : Value), True := fun _ _ => trivial
  have BW : Hid (Below W.heap.size W W) := Lib.hid (Below.refl _ _)
  have AT5 : True := trivial
  go_region_held3 (fun w' => w'.cell? ⟨w.heap.size, 4, none⟩ = some (.slice sa.A sa.n sa.c) ∧ w'.cell? ⟨w.heap.size, 5, none⟩ = some (.slice sk.A sk.n sk.c)) (first | go_keep | exact SK | exact SKS _ | exact SKT _ _) ((first
    | (go_at_call 38; refine (NC.out _ (by first | exact Below_drewN B0.out _ | exact B0.out.drew | exact B0.out)).mono ?_; rintro e w5 ⟨v5, rfl, own5, b5⟩; obtain ⟨A5, n5, c5, rfl, l5, k5, z5, h5⟩ := gives_q own5; have bx : Below W.heap.size W w5 := (by first | exact (Below_drewN (Below.refl _ _) _).trans b5 | exact ((Below.refl _ _).drew).trans b5 | exact b5); have AT5 : Hid (HoldsQ kA w5 (fun b => W.heap.size ≤ b) A5 (P3.newA ats)) := Lib.hid h5; have BW : Hid (Below W.heap.size W w5) := Lib.hid bx; have SK := SKA.out w5 bx; have L5 := Lib.hid (And.intro l5 (And.intro k5 z5)); clear own5 h5 b5 bx l5 k5 z5)
    | (go_at_call 8; refine (CK.out _ (by first | exact Below_drewN (B0.out.trans (BW.out.mono B0.out.size)) _ | exact (B0.out.trans (BW.out.mono B0.out.size)).drew | exact B0.out.trans (BW.out.mono B0.out.size))).mono ?_; rintro e w6 ⟨A6, n6, c6, ks6, rfl, hks, own6, q6, b6⟩; have bx : Below W.heap.size W w6 := (by first | exact (Below_drewN BW.out _).trans (b6.mono (by have := BW.out.size; simp; omega)) | exact (BW.out.drew).trans (b6.mono (by have := BW.out.size; simp; omega)) | exact BW.out.trans (b6.mono BW.out.size)); have OW6 : Hid (P8.kT.Own w6 W.heap.size (.slice A6 n6 c6) ks6) := Lib.hid (own6.base_le (by have := BW.out.size; simp; omega)); have QW6 : Hid (∀ t ∈ ks6, TQ w6 (fun b => W.heap.size ≤ b) t) := Lib.hid (fun t ht => (q6 t ht).mono (fun b _ hb => by have := BW.out.size; have := hb.1; simp at this; omega)); have HKS := Lib.hid hks; have QA6 : Hid (HoldsQ kA w6 (fun b => W.heap.size ≤ b) A5 (P3.newA ats)) := Lib.hid (AT5.out.but (But.of_below (by first | exact (Below_drewN (Below.refl _ _) _).trans b6 | exact ((Below.refl _ _).drew).trans b6 | exact b6) (fun _ => False)) (fun _ _ h => h)); have BX := Lib.hid bx; have SK := SKA.out w6 bx; have XT6 : Hid (P8.TB w6 (q) (.mk tg ⟨#[]⟩ ky ⟨none, 0, 0⟩ [] ⟨none, 0, 0⟩ [])) := Lib.hid (N3.out.below bx hp2); have e3 : w6.cell? ⟨q, 3, none⟩ = some (.slice none 0 0) := XT6.out.c3; have e4 : w6.cell? ⟨q, 4, none⟩ = some (.slice none 0 0) := XT6.out.c4; have f7 : ∀ i, w6.frozen? ⟨q, i, none⟩ = false := tb_frozen17 XT6.out; have SKS : ∀ u, (w6.setCell ⟨q, 3, none⟩ u).cell? ⟨w.heap.size, 4, none⟩ = some (.slice sa.A sa.n sa.c) ∧ (w6.setCell ⟨q, 3, none⟩ u).cell? ⟨w.heap.size, 5, none⟩ = some (.slice sk.A sk.n sk.c) := (fun u => ⟨(World.cell?_setCell_far w6 _ _ u (by simp only; omega)).trans SK.1, (World.cell?_setCell_far w6 _ _ u (by simp only; omega)).trans SK.2⟩); have SKT : ∀ u v, ((w6.setCell ⟨q, 3, none⟩ u).setCell ⟨q, 4, none⟩ v).cell? ⟨w.heap.size, 4, none⟩ = some (.slice sa.A sa.n sa.c) ∧ ((w6.setCell ⟨q, 3, none⟩ u).setCell ⟨q, 4, none⟩ v).cell? ⟨w.heap.size, 5, none⟩ = some (.slice sk.A sk.n sk.c) := (fun u v => ⟨(World.cell?_setCell_far _ _ _ v (by simp only; omega)).trans (SKS u).1, (World.cell?_setCell_far _ _ _ v (by simp only; omega)).trans (SKS u).2⟩); clear own6 q6 b6 bx hks)
    | fail))
  have l5 := L5.out
  have M1 : Hid (P8.TB ((w6.setCell ⟨q, 3, none⟩ (.slice A5 n5 c5)).setCell ⟨q, 4, none⟩ (.slice A6 n6 c6)) q (.mk tg ⟨#[]⟩ ky ⟨A5, n5, c5⟩ [] ⟨A6, n6, c6⟩ [])) := Lib.hid (heap_set (heap_set XT6.out 3 _) 4 _)
  have M2 : Hid (P8.TB ((w6.setCell ⟨q, 3, none⟩ (.slice A5 n5 c5)).setCell ⟨q, 4, none⟩ (.slice A6 n6 c6)) (w.heap.size + 1) zT) := Lib.hid ((Below.heap_setCell _ _ _ _ (by simp only; omega)).trans ((Below.heap_setCell _ _ _ _ (by simp only; omega)).trans (N2.out.below BX.out hp1)))
  have BS : Hid (But (fun k => k = w.heap.size + 1 ∨ k = q) w6 ((w6.setCell ⟨q, 3, none⟩ (.slice A5 n5 c5)).setCell ⟨q, 4, none⟩ (.slice A6 n6 c6))) := Lib.hid (But.setCell (But.setCell (But.refl _ _) (fun _ => .inr rfl) _) (fun _ => .inr rfl) _)
  generalize ((w6.setCell ⟨q, 3, none⟩ (.slice A5 n5 c5)).setCell ⟨q, 4, none⟩ (.slice A6 n6 c6)) = w7 at M1 M2 BS ⊢
  have e0 := M1.out.c0
  have e1 := M1.out.c1
  have e2 := M1.out.c2
  have e3 := M1.out.c3
  have e4 := M1.out.c4
  have r0 := M2.out.c0
  have r1 := M2.out.c1
  have r2 := M2.out.c2
  have r3 := M2.out.c3
  have r4 := M2.out.c4
  have rf := tb_frozen17 M2.out
  have hz4 : w.heap.size + 1 < w7.heap.size := M2.out.lt
  simp only [zT, P8.TV.tag, P8.TV.txt, P8.TV.key, P8.TV.sa, P8.TV.sk] at e0 e1 e2 e3 e4 r0 r1 r2 r3 r4
  have B6 := Lib.hid (B0.out.trans (BX.out.mono B0.out.size))
  have HQ := Lib.hid hq2
  clear SK SKS SKT SKA N1 N2 N3 B0 NC CK BW AT5 XT6 M1 M2 f7 hq hq2
  go_wp2_with fail
  refine bodyPost_ret (v := .agg #[.string tg, .string ⟨#[]⟩, .string ky, .slice A5 n5 c5, .slice A6 n6 c6]) (by simp [results, Try.results20, go_sem, e0, e1, e2, e3, e4, r0, r1, r2, r3, r4, hz4]) rfl ?_
  rw [← HKS.out]
  refine elem_end (D := W.heap.size) B6.out l5.1 l5.2.1 l5.2.2 QA6.out OW6.out QW6.out (by have := HQ.out; omega) ?_
  exact elem_set BS.out HQ.out _ _ _ _ _
set_option maxRecDepth 100000 in
set_option maxHeartbeats 8000000 in
theorem elem_take (d : WV) (IH : DenK d.kids) (ov : P8.TV) (b o r : Nat) (w : World) (hv : P8.kT.Holds w w.heap.size (some ⟨b, o, none⟩) [ov]) (hvo : P8.TOk w w.heap.size ov) (hmy : P8.mayP (P8.er ov) = true) (hct : P8.countP (P8.er ov) ≤ 200) (hd : WOk kW w w.heap.size d) (hwf : ∀ t ∈ erL d.kids, WfW t) (hl : P20.LastP (erL d.kids)) (hwt : wtL (erL d.kids) ≤ 150) (hat : d.attrs.length ≤ 1000) :
    Calls Try.prog 20 #[.agg #[.int .i64 d.kind, .string d.tag, .string d.key, .string d.txt, .slice d.sa.A d.sa.n d.sa.c, .slice d.sk.A d.sk.n d.sk.c], .slice (some ⟨b, o, none⟩) 1 r] w (OwV w (.mk d.tag z0 d.key (P3.joinA ov.attrs d.attrs) (denP (erL d.kids) (ov.kids.map P8.er)))) := by
  obtain ⟨n1, n2, n3, n4⟩ := three_new w d d.tag d.key
  have N1 := Lib.hid n1
  have N2 := Lib.hid n2
  have N3 := Lib.hid n3
  have B0 := Lib.hid n4
  obtain ⟨b0, o0, hA0, hb, _, _, _, g3, g4⟩ := P8.cell_of_trees hv (k := 0) (by simp)
  injection hA0 with hA0
  injection hA0 with hb0 ho0
  subst hb0; subst ho0
  have hm1 := may_parts hmy
  have hov := P8.er_mk ov
  have hat2 : ov.attrs.length ≤ 8 := by have h := hm1.1; rw [hov] at h; exact h
  have hmk : P8.mayL (ov.kids.map P8.er) = true := by have h := hm1.2; rw [hov] at h; exact h
  have hck : P8.countL (ov.kids.map P8.er) ≤ 200 := by rw [hov, P8.countP] at hct; omega
  have JC : Hid (∀ w9, Below w.heap.size w w9 → Calls Try.prog 39 #[.slice ov.sa.A ov.sa.n ov.sa.c, .slice d.sa.A d.sa.n d.sa.c] w9 (P3.GivesA w9 (P3.joinA ov.attrs d.attrs))) := Lib.hid (fun w9 h => by
    have ht := hd.on h
    have ho := hvo.on h
    exact P3.join_any ov.attrs d.attrs ov.sa.A d.sa.A ov.sa.n d.sa.n ov.sa.c d.sa.c w9 ho.al ht.al (by have := ho.al; omega) (by have := ht.al; omega) (p3holds ho.ah) (p3holds ht.ah))
  have CK : Hid (∀ w9, Below w.heap.size w w9 → Calls Try.prog 8 #[.slice d.sk.A d.sk.n d.sk.c, .slice ov.sk.A ov.sk.n ov.sk.c] w9 (TrV 0 w9 (denP (erL d.kids) (ov.kids.map P8.er)))) := Lib.hid (fun w9 h => by
    have ht := hd.on h
    have ho := hvo.on h
    exact IH d.sk.A d.sk.n d.sk.c ov.kids ov.sk.A ov.sk.n ov.sk.c w9 ⟨ht.kl, ht.kc, ht.kz, ht.kh, ht.ks⟩ hwf hl hwt ho.kh ho.kl ho.kc ho.ks hmk hck)
  have G3 : Hid (w.cell? ⟨b, o + 3, none⟩ = some (.slice ov.sa.A ov.sa.n ov.sa.c)) := Lib.hid (by simpa using g3)
  have G4 : Hid (w.cell? ⟨b, o + 4, none⟩ = some (.slice ov.sk.A ov.sk.n ov.sk.c)) := Lib.hid (by simpa using g4)
  clear n1 n2 n3 n4 hd hwf hl hwt hat IH hv hvo hmy hct g3 g4 hm1 hov hat2 hmk hck
  obtain ⟨ot1, ot2, ot3, osa, oats, osk, okds⟩ := ov
  simp only [P8.TV.sa, P8.TV.sk, P8.TV.attrs, P8.TV.kids] at JC CK G3 G4 ⊢
  obtain ⟨kind, tg, ky, tx, sa, ats, sk, kds⟩ := d
  simp only [WV.kind, WV.tag, WV.key, WV.txt, WV.sa, WV.attrs, WV.sk, WV.kids] at N1 N2 N3 B0 JC CK ⊢
  go_enter Try.func20, Try.ntmps20
  go_upto_region 5 with fail
  generalize (((w.alloc (.cells #[.int .i64 kind, .string tg, .string ky, .string tx, .slice sa.A sa.n sa.c, .slice sk.A sk.n sk.c] 41)).alloc (.cells #[.string ⟨#[]⟩, .string ⟨#[]⟩, .string ⟨#[]⟩, .slice none 0 0, .slice none 0 0] 37)).alloc (.cells #[.string tg, .string ⟨#[]⟩, .string ky, .slice none 0 0, .slice none 0 0] 37)) = W at N1 N2 N3 B0 ⊢
  obtain ⟨q, hq⟩ : ∃ q, w.heap.size + 1 + 1 = q := ⟨_, rfl⟩
  have hq2 : w.heap.size + 2 = q := hq
  rw [hq2] at N3
  simp only [hq]
  have hp0 : w.heap.size < W.heap.size := N1.out.lt
  have hp1 : w.heap.size + 1 < W.heap.size := N2.out.lt
  have hp2 : q < W.heap.size := N3.out.lt
  have SKA : Hid (∀ wz, Below W.heap.size W wz → wz.cell? ⟨w.heap.size, 4, none⟩ = some (.slice sa.A sa.n sa.c) ∧ wz.cell? ⟨w.heap.size, 5, none⟩ = some (.slice sk.A sk.n sk.c) ∧ wz.cell? ⟨b, o + 3, none⟩ = some (.slice osa.A osa.n osa.c) ∧ wz.cell? ⟨b, o + 4, none⟩ = some (.slice osk.A osk.n osk.c)) := Lib.hid (fun wz h => ⟨(h.cell hp0).trans N1.out.c4, (h.cell hp0).trans N1.out.c5, ((B0.out.trans (h.mono B0.out.size)).cell hb).trans G3.out, ((B0.out.trans (h.mono B0.out.size)).cell hb).trans G4.out⟩)
  have SK := SKA.out W (Below.refl _ _)
  have SKS : ∀ (wz : World) (u : Value), True := fun _ _ => trivial
  have BW : Hid (Below W.heap.size W W) := Lib.hid (Below.refl _ _)
  have AT5 : True := trivial
  go_region_held3 (fun w' => w'.cell? ⟨w.heap.size, 4, none⟩ = some (.slice sa.A sa.n sa.c) ∧ w'.cell? ⟨w.heap.size, 5, none⟩ = some (.slice sk.A sk.n sk.c) ∧ w'.cell? ⟨b, o + 3, none⟩ = some (.slice osa.A osa.n osa.c) ∧ w'.cell? ⟨b, o + 4, none⟩ = some (.slice osk.A osk.n osk.c)) (first | go_keep | exact SK | exact SKS _ | exact SKT _ _) ((first
    | (go_at_call 39; refine (JC.out _ (by first | exact Below_drewN B0.out _ | exact B0.out.drew | exact B0.out)).mono ?_; rintro e w5 ⟨v5, rfl, own5, b5⟩; obtain ⟨A5, n5, c5, rfl, l5, k5, z5, h5⟩ := gives_q own5; have bx : Below W.heap.size W w5 := (by first | exact (Below_drewN (Below.refl _ _) _).trans b5 | exact ((Below.refl _ _).drew).trans b5 | exact b5); have AT5 : Hid (HoldsQ kA w5 (fun b => W.heap.size ≤ b) A5 (P3.joinA oats ats)) := Lib.hid h5; have BW : Hid (Below W.heap.size W w5) := Lib.hid bx; have SK := SKA.out w5 bx; have L5 := Lib.hid (And.intro l5 (And.intro k5 z5)); clear own5 h5 b5 bx l5 k5 z5)
    | (go_at_call 8; refine (CK.out _ (by first | exact Below_drewN (B0.out.trans (BW.out.mono B0.out.size)) _ | exact (B0.out.trans (BW.out.mono B0.out.size)).drew | exact B0.out.trans (BW.out.mono B0.out.size))).mono ?_; rintro e w6 ⟨A6, n6, c6, ks6, rfl, hks, own6, q6, b6⟩; have bx : Below W.heap.size W w6 := (by first | exact (Below_drewN BW.out _).trans (b6.mono (by have := BW.out.size; simp; omega)) | exact (BW.out.drew).trans (b6.mono (by have := BW.out.size; simp; omega)) | exact BW.out.trans (b6.mono BW.out.size)); have OW6 : Hid (P8.kT.Own w6 W.heap.size (.slice A6 n6 c6) ks6) := Lib.hid (own6.base_le (by have := BW.out.size; simp; omega)); have QW6 : Hid (∀ t ∈ ks6, TQ w6 (fun b => W.heap.size ≤ b) t) := Lib.hid (fun t ht => (q6 t ht).mono (fun b _ hb => by have := BW.out.size; have := hb.1; simp at this; omega)); have HKS := Lib.hid hks; have QA6 : Hid (HoldsQ kA w6 (fun b => W.heap.size ≤ b) A5 (P3.joinA oats ats)) := Lib.hid (AT5.out.but (But.of_below (by first | exact (Below_drewN (Below.refl _ _) _).trans b6 | exact ((Below.refl _ _).drew).trans b6 | exact b6) (fun _ => False)) (fun _ _ h => h)); have BX := Lib.hid bx; have SK := SKA.out w6 bx; have XT6 : Hid (P8.TB w6 (q) (.mk tg ⟨#[]⟩ ky ⟨none, 0, 0⟩ [] ⟨none, 0, 0⟩ [])) := Lib.hid (N3.out.below bx hp2); have e3 : w6.cell? ⟨q, 3, none⟩ = some (.slice none 0 0) := XT6.out.c3; have e4 : w6.cell? ⟨q, 4, none⟩ = some (.slice none 0 0) := XT6.out.c4; have f7 : ∀ i, w6.frozen? ⟨q, i, none⟩ = false := tb_frozen17 XT6.out; have SKS : ∀ u, (w6.setCell ⟨q, 3, none⟩ u).cell? ⟨w.heap.size, 4, none⟩ = some (.slice sa.A sa.n sa.c) ∧ (w6.setCell ⟨q, 3, none⟩ u).cell? ⟨w.heap.size, 5, none⟩ = some (.slice sk.A sk.n sk.c) ∧ (w6.setCell ⟨q, 3, none⟩ u).cell? ⟨b, o + 3, none⟩ = some (.slice osa.A osa.n osa.c) ∧ (w6.setCell ⟨q, 3, none⟩ u).cell? ⟨b, o + 4, none⟩ = some (.slice osk.A osk.n osk.c) := (fun u => ⟨(World.cell?_setCell_far w6 _ _ u (by simp only; omega)).trans SK.1, (World.cell?_setCell_far w6 _ _ u (by simp only; omega)).trans SK.2.1, (World.cell?_setCell_far w6 _ _ u (by simp only; omega)).trans SK.2.2.1, (World.cell?_setCell_far w6 _ _ u (by simp only; omega)).trans SK.2.2.2⟩); have SKT : ∀ u v, ((w6.setCell ⟨q, 3, none⟩ u).setCell ⟨q, 4, none⟩ v).cell? ⟨w.heap.size, 4, none⟩ = some (.slice sa.A sa.n sa.c) ∧ ((w6.setCell ⟨q, 3, none⟩ u).setCell ⟨q, 4, none⟩ v).cell? ⟨w.heap.size, 5, none⟩ = some (.slice sk.A sk.n sk.c) ∧ ((w6.setCell ⟨q, 3, none⟩ u).setCell ⟨q, 4, none⟩ v).cell? ⟨b, o + 3, none⟩ = some (.slice osa.A osa.n osa.c) ∧ ((w6.setCell ⟨q, 3, none⟩ u).setCell ⟨q, 4, none⟩ v).cell? ⟨b, o + 4, none⟩ = some (.slice osk.A osk.n osk.c) := (fun u v => ⟨(World.cell?_setCell_far _ _ _ v (by simp only; omega)).trans (SKS u).1, (World.cell?_setCell_far _ _ _ v (by simp only; omega)).trans (SKS u).2.1, (World.cell?_setCell_far _ _ _ v (by simp only; omega)).trans (SKS u).2.2.1, (World.cell?_setCell_far _ _ _ v (by simp only; omega)).trans (SKS u).2.2.2⟩); clear own6 q6 b6 bx hks)
    | fail))
  have l5 := L5.out
  have M1 : Hid (P8.TB ((w6.setCell ⟨q, 3, none⟩ (.slice A5 n5 c5)).setCell ⟨q, 4, none⟩ (.slice A6 n6 c6)) q (.mk tg ⟨#[]⟩ ky ⟨A5, n5, c5⟩ [] ⟨A6, n6, c6⟩ [])) := Lib.hid (heap_set (heap_set XT6.out 3 _) 4 _)
  have M2 : Hid (P8.TB ((w6.setCell ⟨q, 3, none⟩ (.slice A5 n5 c5)).setCell ⟨q, 4, none⟩ (.slice A6 n6 c6)) (w.heap.size + 1) zT) := Lib.hid ((Below.heap_setCell _ _ _ _ (by simp only; omega)).trans ((Below.heap_setCell _ _ _ _ (by simp only; omega)).trans (N2.out.below BX.out hp1)))
  have BS : Hid (But (fun k => k = w.heap.size + 1 ∨ k = q) w6 ((w6.setCell ⟨q, 3, none⟩ (.slice A5 n5 c5)).setCell ⟨q, 4, none⟩ (.slice A6 n6 c6))) := Lib.hid (But.setCell (But.setCell (But.refl _ _) (fun _ => .inr rfl) _) (fun _ => .inr rfl) _)
  generalize ((w6.setCell ⟨q, 3, none⟩ (.slice A5 n5 c5)).setCell ⟨q, 4, none⟩ (.slice A6 n6 c6)) = w7 at M1 M2 BS ⊢
  have e0 := M1.out.c0
  have e1 := M1.out.c1
  have e2 := M1.out.c2
  have e3 := M1.out.c3
  have e4 := M1.out.c4
  have r0 := M2.out.c0
  have r1 := M2.out.c1
  have r2 := M2.out.c2
  have r3 := M2.out.c3
  have r4 := M2.out.c4
  have rf := tb_frozen17 M2.out
  have hz4 : w.heap.size + 1 < w7.heap.size := M2.out.lt
  simp only [zT, P8.TV.tag, P8.TV.txt, P8.TV.key, P8.TV.sa, P8.TV.sk] at e0 e1 e2 e3 e4 r0 r1 r2 r3 r4
  have B6 := Lib.hid (B0.out.trans (BX.out.mono B0.out.size))
  have HQ := Lib.hid hq2
  clear SK SKS SKT SKA N1 N2 N3 B0 JC CK BW AT5 XT6 M1 M2 f7 hq hq2
  go_wp2_with fail
  refine bodyPost_ret (v := .agg #[.string tg, .string ⟨#[]⟩, .string ky, .slice A5 n5 c5, .slice A6 n6 c6]) (by simp [results, Try.results20, go_sem, e0, e1, e2, e3, e4, r0, r1, r2, r3, r4, hz4]) rfl ?_
  rw [← HKS.out]
  refine elem_end (D := W.heap.size) B6.out l5.1 l5.2.1 l5.2.2 QA6.out OW6.out QW6.out (by have := HQ.out; omega) ?_
  exact elem_set BS.out HQ.out _ _ _ _ _
end Go.Proofs.Ythdgaoifbejpjaa.P17
