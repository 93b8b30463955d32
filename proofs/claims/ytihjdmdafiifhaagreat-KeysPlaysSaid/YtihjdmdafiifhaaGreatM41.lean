/- keys: New, Find, Len, Drop. No condition but those stated. -/
import Derived.Test.YtihjdmdafiifhaaGreatM40
set_option linter.unusedVariables false
set_option linter.unusedSimpArgs false
set_option linter.unusedVariables false
set_option linter.unusedSimpArgs false
namespace Go.Proofs.YtihjdmdafiifhaaGreat.P15
open Go.RowKit Kd P4 P5 Mv
set_option maxRecDepth 100000

def NewPost (p : Option Nat) (ids : List Int) (A : Option Addr) (w : World) (e : Ending) (w' : World) : Prop := ∃ (g : Nat) (Rd Wr : Nat → Prop), e = .returned (.pointer (some ⟨g, 0, none⟩)) ∧ MpW w' g ⟨false, p, ids, []⟩ Rd Wr ∧ Below w.heap.size w w' ∧ (∀ k, Wr k → w.heap.size ≤ k) ∧ ∀ k, Rd k → (∃ o, A = some ⟨k, o, none⟩ ∧ ids ≠ []) ∨ w.heap.size ≤ k
theorem new_c (p : Option Nat) (ids : List Int) (A : Option Addr) (n c : Nat) (w : World) (hh : kI.Holds w w.heap.size A ids) (hn : ids.length = n) (h1 : n ≤ 1000) :
    Calls Tryz.prog 9 #[dptr p, .slice A n c] w (NewPost p ids A w) := by
  have HH := Lib.hid hh
  have HN := Lib.hid hn
  clear hh hn
  obtain ⟨q, hq⟩ : ∃ q, dptr p = .pointer q := ⟨_, rfl⟩
  have HQ := Lib.hid hq
  rw [hq]
  clear hq
  go_enter Tryz.func9, Tryz.ntmps9
  go_wp2_with fail
  go_ret
  have hb := (Below.refl w.heap.size w).alloc (Nat.le_refl _) (.cells #[.int .u32 0, .int .i32 0, .int .u32 0, .pointer q, .slice A n c, .map none, .map none] 79)
  refine ⟨w.heap.size, fun k => ∃ o, A = some ⟨k, o, none⟩ ∧ ids ≠ [], fun k => k = w.heap.size, rfl, .inl ⟨rfl, A, n, c, (by show KB _ _ _ _ (dptr p) _ _ _; rw [HQ.out]; exact heap_alloc_new w _), HH.out.on hb, HN.out, h1, fun o hA => ?_, fun k => Iff.rfl, fun k => Iff.rfl⟩, hb, fun k hk => by omega, fun k hk => .inl hk⟩
  show ids = []
  cases hi : ids with
  | nil => rfl
  | cons a r =>
    exfalso
    obtain ⟨b, o', hA', hlt, _⟩ := cell_int HH.out (k := 0) (by rw [hi]; simp)
    rw [hA] at hA'
    injection hA' with e
    injection e with e
    omega
theorem len_c (l : List Nd) (S : MS) (Rd Wr : Nat → Prop) (g : Nat) (w : World) (h : MpW w g S Rd Wr) (hd : S.ids.Nodup) (hx : AskOk w S l) :
    Calls Tryz.prog 13 #[.pointer (some ⟨g, 0, none⟩)] w fun e w' => e = .returned (.int .i64 ((asks S l).left.length : Nat)) ∧ AfterM MpW w g Rd Wr (asks S l) w' := by
  have HA := Lib.hid (ask_any h hd hx)
  clear h hd hx
  go_enter Tryz.func13, Tryz.ntmps13
  go_upto_region 2 with (go_at_call 21; refine HA.out.mono ?_; rintro e w1 ⟨rfl, ha⟩)
  have HK := Lib.hid ha
  obtain ⟨m1, m2, s1, f, f2, k1, k2, _, _⟩ := ha
  have c6 := k1.c6
  have hlen := k2.a2.len Tryz.underlying77 3
  clear k1 k2 HA
  go_wp2_with fail
  go_ret
  exact ⟨rfl, HK.out.after (asks_asked S l)⟩
theorem find_c (tag key : ByteArray) (l : List Nd) (S : MS) (Rd Wr : Nat → Prop) (g : Nat) (w : World) (h : MpW w g S Rd Wr) (hd : S.ids.Nodup) (hx : AskOk w S l) (ht : tag.size ≤ 100000) (hk : key.size ≤ 100000) :
    Calls Tryz.prog 11 #[.pointer (some ⟨g, 0, none⟩), .string tag, .string key] w fun e w' => e = .returned (.tuple #[.int .i64 (findM (asks S l).left tag key).1, .bool (findM (asks S l).left tag key).2]) ∧ AfterM MpW w g Rd Wr (asks S l) w' := by
  have HA := Lib.hid (ask_any h hd hx)
  have HT1 : tag.size ≤ maxLen := by unfold maxLen; omega
  have HT2 : key.size ≤ maxLen := by unfold maxLen; omega
  have HKEY : Hid (keyOf Tryz.prog 82 (.agg #[.string tag, .string key]) = some (kn tag key)) := Lib.hid (key_n HT1 HT2)
  have HF := find_ids (asks S l).left tag key
  obtain ⟨ids, hids⟩ : ∃ ids, idsK (asks S l).left tag key = ids := ⟨_, rfl⟩
  rw [hids] at HF
  rw [HF]
  have HIDS := Lib.hid hids
  clear h hd hx HF hids ht hk
  cases ids with
  | nil =>
    go_enter Tryz.func11, Tryz.ntmps11
    go_upto_region 2 with (go_at_call 21; refine HA.out.mono ?_; rintro e w1 ⟨rfl, ha⟩)
    have HK := Lib.hid ha
    obtain ⟨m1, m2, s1, f, f2, k1, k2, _, _⟩ := ha
    have c5 := k1.c5
    have HM := Lib.hid k2.a1
    have HO := k2.at_ tag key HT1 HT2
    rw [HIDS.out] at HO
    obtain ⟨A, n, c, hv, ho1, _, _, _, _⟩ := HO.slice
    obtain rfl : 0 = n := ho1
    have HVV := Lib.hid hv
    clear k1 k2 HA HO hv HT1 HT2
    go_wp2_with (at_lookup; refine wp_look rfl _ _ rfl (Maps.Keyed.of_law lawN) Tryz.underlying76 (zeroL _) rfl HM.out rfl HKEY.out ?_; rw [HVV.out])
    go_ret2
    exact ⟨rfl, HK.out.after (asks_asked S l)⟩
  | cons i r =>
    go_enter Tryz.func11, Tryz.ntmps11
    go_upto_region 2 with (go_at_call 21; refine HA.out.mono ?_; rintro e w1 ⟨rfl, ha⟩)
    have HK := Lib.hid ha
    obtain ⟨m1, m2, s1, f, f2, k1, k2, _, _⟩ := ha
    have c5 := k1.c5
    have HM := Lib.hid k2.a1
    have HO := k2.at_ tag key HT1 HT2
    have HL := Nat.le_trans (idsK_len (asks S l).left tag key) k2.lN
    rw [HIDS.out] at HO HL
    obtain ⟨A, n, c, hv, ho1, _, _, _, ho2⟩ := HO.slice
    have HVV := Lib.hid hv
    have hpos : 0 < (i :: r).length := by simp
    obtain ⟨b, o, rfl, _, g0⟩ := cell_int ho2 hpos
    simp only [List.getElem_cons_zero, Nat.add_zero] at g0
    have hn1 : (0 : Int) < (n : Int) := by omega
    have hq : ((n : Int) == 0) = false := beq_eq_false_iff_ne.2 (by omega)
    clear k1 k2 HA HO ho1 ho2 hv HT1 HT2 hpos HL
    go_wp2_with (at_lookup; refine wp_look rfl _ _ rfl (Maps.Keyed.of_law lawN) Tryz.underlying76 (zeroL _) rfl HM.out rfl HKEY.out ?_; rw [HVV.out])
    go_ret2
    exact ⟨rfl, HK.out.after (asks_asked S l)⟩
/-- what goes, where it stands -/
theorem drop_at {left : List Ch} {c : Ch} (hd : (cids left).Nodup) (hc : c ∈ left) : ∃ (k r : Nat), idsK left c.tag c.key = (idsK left c.tag c.key).take k ++ c.id :: (idsK left c.tag c.key).drop (k + 1) ∧ idxA (idsK left c.tag c.key) c.id = k ∧ (idsK left c.tag c.key).length = k + 1 + r ∧ (idsK left c.tag c.key).eraseIdx k = idsK (dropM left c.id) c.tag c.key := by
  have hm := (ch_at hd hc).2
  have hn : (idsK left c.tag c.key).Nodup := (idsK_sub left c.tag c.key).nodup hd
  obtain ⟨k, hk, e⟩ := List.getElem_of_mem hm
  refine ⟨k, (idsK left c.tag c.key).length - (k + 1), ?_, ?_, by omega, ?_⟩
  · conv => lhs; rw [← List.take_append_drop k (idsK left c.tag c.key), List.drop_eq_getElem_cons hk, e]
  · exact idxA_of hk e (fun j hj hjk h => (List.pairwise_iff_getElem.1 hn j k hj hk hjk) (h.trans e.symm))
  · rw [idsK_drop, filter_out hn hk e, List.eraseIdx_eq_take_drop_succ]
theorem drop_len {left : List Ch} {c : Ch} (hd : (cids left).Nodup) (hc : c ∈ left) : (dropM left c.id).length = left.length - 1 := by
  have h1 : c.id ∈ cids left := List.mem_map.2 ⟨c, hc, rfl⟩
  obtain ⟨k, hk, e⟩ := List.getElem_of_mem h1
  have h2 := congrArg List.length (drop_ids left c.id)
  rw [filter_out hd hk e] at h2
  simp only [cids, List.length_map, List.length_append, List.length_take, List.length_drop] at h2 hk
  omega
theorem but_drewN {S : Nat → Prop} {w w' : World} {n : Nat} (h : But S (w.drewN n) w') : But S w w' := ⟨h.os, h.tape, h.output, h.size, h.block⟩
/-- what is read stays, when the maps and the slice turn -/
theorem reads5 {W w' : World} {g m1 m2 s1 N b8 : Nat} {done lock : Int} {d s vv : Value} {f f2 : Lit → Option Value} {left : List Ch} {tg ky : ByteArray} {ids : List Int} (hk : KB W g done lock d s (some m1) (some m2)) (hm : MpK W m1 m2 s1 N f f2 left) (h8 : W.heap[b8]? = some (.cells #[.string tg, .string ky] 82 (0, 0)))
    (ho : kI.Own W 0 vv ids) (hb : But (fun k => k = m1 ∨ k = m2 ∨ vv.ownBlock = some k) W w') : KB w' g done lock d s (some m1) (some m2) ∧ w'.heap[b8]? = some (.cells #[.string tg, .string ky] 82 (0, 0)) := by
  refine ⟨hk.kept (hb.block g hk.lt fun e => ?_), (hb.block b8 (heap_lt h8) fun e => ?_).trans h8⟩
  · rcases e with rfl | rfl | e
    · exact not_map hm.a1 hk
    · exact not_map hm.a2 hk
    · obtain ⟨cur, hc⟩ := ho.ty e
      exact heap_ne hc hk (by decide) rfl
  · rcases e with rfl | rfl | e
    · exact not_map hm.a1 h8
    · exact not_map hm.a2 h8
    · obtain ⟨cur, hc⟩ := ho.ty e
      exact heap_ne hc h8 (by decide) rfl
set_option maxHeartbeats 4000000 in
theorem drop_c (i : Int) (l : List Nd) (S : MS) (Rd Wr : Nat → Prop) (g : Nat) (w : World) (h : MpW w g S Rd Wr) (hd : S.ids.Nodup) (hx : AskOk w S l) :
    Calls Tryz.prog 10 #[.pointer (some ⟨g, 0, none⟩), .int .i64 i] w fun e w' => e = .returned (.bool (hasM (asks S l).left i)) ∧ AfterM MpW w g Rd Wr { asks S l with left := dropM (asks S l).left i } w' := by
  have HA := Lib.hid (ask_any h hd hx)
  have HAS : (asks S l).asked = true := asks_asked S l
  clear h hd hx
  generalize asks S l = S1 at HA HAS ⊢
  cases hf : S1.left.find? (fun c => decide (c.id = i)) with
  | none =>
    have HH : hasM S1.left i = false := by rw [has_find, hf]; rfl
    rw [HH, drop_no HH]
    go_enter Tryz.func10, Tryz.ntmps10
    go_upto_region 2 with (go_at_call 21; refine HA.out.mono ?_; rintro e w1 ⟨rfl, ha⟩)
    have HK := Lib.hid ha
    obtain ⟨m1, m2, s1, f, f2, k1, k2, k3, k4⟩ := ha
    have c6 := k1.c6
    have HM := Lib.hid k2
    have HB1 := Lib.hid k1
    have HNM := Lib.hid (k2.names i)
    have HBT := Lib.hid k3
    have HW4 := Lib.hid k4
    clear k1 k2 k3 k4 HA
    have HN : Hid (f2 (.int .i64 i) = none) := Lib.hid (by rw [HNM.out, hf]; rfl)
    go_wp2_with (at_lookup; refine wp_look_int rfl _ _ rfl Tryz.underlying3 Tryz.underlying77 (zeroN _) rfl HM.out.a2 rfl (HM.out.out i) HN.out ?_)
    go_ret
    exact ⟨rfl, (HK.out.on ((Below.refl _ _).alloc (Nat.le_refl _) _)).after HAS⟩
  | some c =>
    have hcm := List.mem_of_find?_eq_some hf
    have hci := List.find?_some hf
    simp only [decide_eq_true_eq] at hci
    subst hci
    have HH : hasM S1.left c.id = true := by rw [has_find, hf]; rfl
    rw [HH]
    go_enter Tryz.func10, Tryz.ntmps10
    go_upto_region 2 with (go_at_call 21; refine HA.out.mono ?_; rintro e w1 ⟨rfl, ha⟩)
    have HK := Lib.hid ha
    obtain ⟨m1, m2, s1, f, f2, k1, k2, k3, k4⟩ := ha
    have c6 := k1.c6
    have HM := Lib.hid k2
    have HB1 := Lib.hid k1
    have HNM := Lib.hid (k2.names c.id)
    have HBT := Lib.hid k3
    have HW4 := Lib.hid k4
    clear k1 k2 k3 k4 HA
    have HN : Hid (f2 (.int .i64 c.id) = some (.agg #[.string c.tag, .string c.key])) := Lib.hid (by rw [HNM.out, hf]; rfl)
    go_upto_region 3 with (at_lookup; refine wp_look_int rfl _ _ rfl Tryz.underlying3 Tryz.underlying77 (zeroN _) rfl HM.out.a2 rfl (HM.out.out c.id) HN.out ?_)
    have HW1 : Hid (w1.heap.size ≤ (w1.alloc (.cells #[.string c.tag, .string c.key] 82)).heap.size) := Lib.hid (by simp)
    have B1 : Hid (Below w1.heap.size w1 (w1.alloc (.cells #[.string c.tag, .string c.key] 82))) := Lib.hid ((Below.refl _ _).alloc (Nat.le_refl _) _)
    have HB8 : Hid ((w1.alloc (.cells #[.string c.tag, .string c.key] 82)).heap[w1.heap.size]? = some (.cells #[.string c.tag, .string c.key] 82 (0, 0))) := Lib.hid (heap_alloc_new w1 _)
    have HKB := Lib.hid (HB1.out.kept (B1.out.block g HB1.out.lt))
    have HM1 := Lib.hid (HM.out.but (But.of_below B1.out (fun _ => False)) (fun _ _ h => h))
    have HBT1 := Lib.hid (HBT.out.trans (But.of_below B1.out (fun _ => False)) (fun _ _ h => h.elim))
    obtain ⟨hwi, ht1, ht2⟩ := HM.out.rng c hcm
    have HT := Lib.hid (And.intro ht1 ht2)
    have HKEY : Hid (keyOf Tryz.prog 82 (.agg #[.string c.tag, .string c.key]) = some (kn c.tag c.key)) := Lib.hid (key_n ht1 ht2)
    have HKI : Hid (keyOf Tryz.prog 3 (.int .i64 c.id) = some (.int .i64 c.id)) := Lib.hid (Maps.keyOf_int_mk Tryz.underlying3 hwi)
    obtain ⟨k, r, _, hix, hlk, hers⟩ := drop_at HM.out.nd hcm
    have HIX := Lib.hid hix
    have HLK := Lib.hid hlk
    have HERS := Lib.hid hers
    have hkr : k + 1 + r ≤ 1000 := by have h1 := idsK_len S1.left c.tag c.key; have h2 := HM.out.lN; omega
    clear hix hers B1 HM HB1 HBT HNM c6 HN
    generalize w1.heap.size = b8 at HB8 HW1 ⊢
    generalize (w1.alloc (.cells #[.string c.tag, .string c.key] 82)) = W at HW1 HB8 HKB HM1 HBT1 ⊢
    -- PART 2
    have HOV := HM1.out.at_ c.tag c.key ht1 ht2
    obtain ⟨vv, hvv⟩ : ∃ vv, (f (kn c.tag c.key)).getD (.slice none 0 0) = vv := ⟨_, rfl⟩
    rw [hvv] at HOV
    rcases HOV.form with ⟨_, e⟩ | ⟨sb, cc, cur, hv, hob, _⟩
    · exfalso
      rw [e] at hlk
      simp only [List.length_nil] at hlk
      omega
    rw [hlk] at hv
    subst hv
    have HFS : Hid (f (kn c.tag c.key) = some (.slice (some ⟨sb, 0, none⟩) (k + 1 + r) cc)) := Lib.hid (by
      cases h : f (kn c.tag c.key) with
      | none => rw [h] at hvv; cases hvv
      | some u => rw [h] at hvv; exact congrArg some hvv)
    have HVV := Lib.hid hvv
    have OV := Lib.hid HOV
    clear HOV hvv hob hwi ht1 ht2 hlk
    obtain ⟨w2, run2, m2', g2⟩ := HM1.out.a2.drop lawI Tryz.underlying77 HKI.out 0 (setL_put f2 (.int .i64 c.id) none)
    have M2 := Lib.hid m2'
    have BW2 : Hid (But (fun k => k = m1 ∨ k = m2 ∨ (Value.slice (some ⟨sb, 0, none⟩) (k + 1 + r) cc).ownBlock = some k) W w2) := Lib.hid (But.of_grown g2 (fun k hk _ => .inr (.inl (Option.some.inj hk).symm)))
    have hR2 := reads5 HKB.out HM1.out HB8.out OV.out BW2.out
    have msb : ∀ {m n q : Nat} {t : TypeId} {h : Lit → Option Value}, MapIs Tryz.prog t W m n q h → sb ≠ m := fun hm e => by
      obtain ⟨cur, hc⟩ := OV.out.ty (g := sb) rfl
      subst e
      exact not_map hm hc
    have hs1 := msb HM1.out.a1
    have hs2 := msb HM1.out.a2
    have M1 : Hid (MapIs Tryz.prog 82 w2 m1 s1 s1 f) := Lib.hid (HM1.out.a1.kept (g2.block m1 HM1.out.a1.lt (fun e => HM1.out.ne (Option.some.inj e))))
    have O2 : Hid (kI.Own w2 0 (.slice (some ⟨sb, 0, none⟩) (k + 1 + r) cc) (idsK S1.left c.tag c.key)) := Lib.hid (OV.out.grown g2 (fun j hj e => hs2 (by
      have h1 : some sb = some j := hj
      exact (Option.some.inj h1).trans (Option.some.inj e).symm)))
    have HH2 : Hid (kI.Holds w2 w2.heap.size (some ⟨sb, 0, none⟩) (idsK S1.left c.tag c.key)) := Lib.hid (by
      obtain ⟨A, n, c', hv, _, _, _, _, hh⟩ := O2.out.slice
      injection hv with e1 e2 e3
      subst e1
      exact hh)
    have c6 := HKB.out.c6
    clear m2' msb
    go_upto_region 6 with fail
    have c5 := hR2.1.c5
    have e0 : w2.cell? ⟨b8, 0, none⟩ = some (.string c.tag) := cell_of_row w2 b8 0 _ _ (0, 0) hR2.2
    have e1 : w2.cell? ⟨b8, 1, none⟩ = some (.string c.key) := cell_of_row w2 b8 1 _ _ (0, 0) hR2.2
    have hlook := (M1.out.kept (w' := w2.drew) rfl).look (Maps.Keyed.of_law lawN) Tryz.underlying76 (zeroL _) HKEY.out
    rw [HVV.out] at hlook
    clear run2 c6 g2
    go_region_held3 (fun w' => w'.cell? ⟨g, 5, none⟩ = some (.map (some m1)) ∧ w'.cell? ⟨b8, 0, none⟩ = some (.string c.tag) ∧ w'.cell? ⟨b8, 1, none⟩ = some (.string c.key)) (go_keep) (fail)
    clear hlook
    have hmem : c.id ∈ idsK S1.left c.tag c.key := (ch_at HM1.out.nd hcm).2
    go_upto_region 8 with (go_at_call 23; refine (index_any (idsK S1.left c.tag c.key) c.id (some ⟨sb, 0, none⟩) (k + 1 + r) cc _ HLK.out (by omega) hmem (by first | exact HH2.out.drewN _ | exact HH2.out)).mono ?_; rw [HIX.out]; rintro e w3 ⟨rfl, rfl⟩)
    have hwrap : IntKind.i64.wrap ((k : Int) + 1) = (k : Int) + 1 := by
      simp [IntKind.wrap, IntKind.bits, IntKind.signed]
      omega
    -- PART 3
    have hsN : s1 < maxLen := by have := HM1.out.sN; unfold maxLen; omega
    go_region_held3 (fun w' => w'.cell? ⟨g, 5, none⟩ = some (.map (some m1)) ∧ w'.cell? ⟨b8, 0, none⟩ = some (.string c.tag) ∧ w'.cell? ⟨b8, 1, none⟩ = some (.string c.key)) (first | go_keep | exact K6 | exact K5) ((first
      | (go_at_call 24; refine (deleteInt_any sb k r cc (B := 0) (l := idsK S1.left c.tag c.key) _ HLK.out (by omega) (by first | exact O2.out.drewN _ | exact O2.out.drew.drew | exact O2.out.drew | exact O2.out)).mono ?_; rintro e w5 ⟨rfl, ho5, hb5⟩; have O5 := Lib.hid ho5; have B5 : Hid (But (fun j => j = m1 ∨ j = m2 ∨ (Value.slice (some ⟨sb, 0, none⟩) (k + 1 + r) cc).ownBlock = some j) W w5) := Lib.hid (BW2.out.trans (T := fun j => j = sb) ⟨hb5.os, hb5.tape, hb5.output, hb5.size, hb5.block⟩ (fun j _ e => .inr (.inr (congrArg some e.symm)))); have M5 : Hid (MapIs Tryz.prog 82 w5 m1 s1 s1 f) := Lib.hid (M1.out.kept (hb5.block m1 M1.out.lt (fun e => hs1 e.symm))); have M6 : Hid (MapIs Tryz.prog 3 w5 m2 S1.left.length _ _) := Lib.hid (M2.out.kept (hb5.block m2 M2.out.lt (fun e => hs2 e.symm))); have hR5 := reads5 HKB.out HM1.out HB8.out OV.out B5.out; have K5 : w5.cell? ⟨g, 5, none⟩ = some (.map (some m1)) ∧ w5.cell? ⟨b8, 0, none⟩ = some (.string c.tag) ∧ w5.cell? ⟨b8, 1, none⟩ = some (.string c.key) := ⟨hR5.1.c5, cell_of_row w5 b8 0 _ _ (0, 0) hR5.2, cell_of_row w5 b8 1 _ _ (0, 0) hR5.2⟩; clear hb5 ho5 hR5; obtain ⟨w6, run6, m6, g6⟩ := M5.out.store (Maps.Keyed.of_law lawN) Tryz.underlying76 hsN (val := .slice (some ⟨sb, 0, none⟩) (k + r) cc) HKEY.out (setL_put f (kn c.tag c.key) (some (.slice (some ⟨sb, 0, none⟩) (k + r) cc))); have B6 : Hid (But (fun j => j = m1 ∨ j = m2 ∨ (Value.slice (some ⟨sb, 0, none⟩) (k + 1 + r) cc).ownBlock = some j) W w6) := Lib.hid (B5.out.trans (T := fun j => j = m1) (But.of_grown g6 (fun j hj _ => (Option.some.inj hj).symm)) (fun j _ e => .inl e)); have hR6 := reads5 HKB.out HM1.out HB8.out OV.out B6.out; have K6 : w6.cell? ⟨g, 5, none⟩ = some (.map (some m1)) ∧ w6.cell? ⟨b8, 0, none⟩ = some (.string c.tag) ∧ w6.cell? ⟨b8, 1, none⟩ = some (.string c.key) := ⟨hR6.1.c5, cell_of_row w6 b8 0 _ _ (0, 0) hR6.2, cell_of_row w6 b8 1 _ _ (0, 0) hR6.2⟩; have N6 := Lib.hid m6; have G6 := Lib.hid g6; clear m6 g6 hR6)
      | fail))
    go_wp2_with fail
    go_ret
    refine ⟨rfl, Asked.after (S := { S1 with left := dropM S1.left c.id }) ?_ HAS⟩
    have hlen := drop_len HM1.out.nd hcm
    have hiss : (f (kn c.tag c.key)).isSome = true := by rw [HFS.out]; rfl
    have his2 : (f2 (.int .i64 c.id)).isSome = true := by rw [HM1.out.names, hf]; rfl
    have hp := HM1.out.put (left' := dropM S1.left c.id) (M := 1000) (tag := c.tag) (key := c.key) (v' := .slice (some ⟨sb, 0, none⟩) (k + r) cc) HT.out.1 HT.out.2 (by rw [HVV.out]; exact B6.out) N6.out.tight (setL_put f (kn c.tag c.key) (some (.slice (some ⟨sb, 0, none⟩) (k + r) cc)))
      (by
        have h1 := (M6.out.kept (G6.out.block m2 M6.out.lt (fun e => HM1.out.ne (Option.some.inj e).symm)))
        rw [if_pos his2, ← hlen] at h1
        exact h1.tight)
      (names_del HM1.out.names (setL_put f2 (.int .i64 c.id) none)) (by rw [if_pos hiss]; exact HM1.out.sN) (by have := HM1.out.lN; omega)
      (by
        rw [← HERS.out]
        refine O5.out.grown G6.out (fun j hj e => hs1 ?_)
        have h1 : some sb = some j := hj
        exact (Option.some.inj h1).trans (Option.some.inj e).symm)
      (fun j hj => .inl (by rw [HVV.out]; exact hj))
      (fun t q h => by
        rw [idsK_drop]
        exact List.filter_eq_self.2 (fun a ha => by
          have : a ≠ c.id := fun e => ids_other HM1.out.nd hcm (fun e2 => h ⟨e2.1.symm, e2.2.symm⟩) (e ▸ ha)
          simpa using this))
      (fun d hd => HM1.out.rng d (List.mem_filter.1 hd).1)
      (by rw [drop_ids]; exact HM1.out.nd.filter _)
    have hkb := (reads5 HKB.out HM1.out HB8.out OV.out B6.out).1
    have hwr : ∀ j, j < w.heap.size → (j = m1 ∨ j = m2 ∨ (Value.slice (some ⟨sb, 0, none⟩) (k + 1 + r) cc).ownBlock = some j) → Wr j := fun j hj e => by
      rcases HW4.out j (.inr (HM1.out.writes c.tag c.key (by rw [HVV.out]; exact e))) with h | h
      · exact h
      · omega
    refine ⟨m1, m2, _, _, _, hkb, hp.1, HBT1.out.trans B6.out hwr, fun j hj => ?_⟩
    rcases hj with e | e
    · exact HW4.out j (.inl e)
    · rcases hp.2 j e with h | h
      · exact HW4.out j (.inr h)
      · have := HBT1.out.size
        exact .inr (by omega)
theorem keys_c : KeysC := ⟨MpW, {
  rd := fun h hk => mp_rd h hk
  wr := fun h hk => mp_wr h hk
  noA := fun h => mp_noA h
  keep := fun h hb hr hw => mp_keep h hb hr hw
  new := fun p ids A n c w hh hn _ _ _ h1 => new_c p ids A n c w hh hn h1
  find := fun tag key l S Rd Wr g w h _ hd hx ht hk => find_c tag key l S Rd Wr g w h hd hx ht hk
  drop := fun i l S Rd Wr g w h _ hd hx => drop_c i l S Rd Wr g w h hd hx
  len := fun l S Rd Wr g w h _ hd hx => len_c l S Rd Wr g w h hd hx }⟩
end Go.Proofs.YtihjdmdafiifhaaGreat.P15
