/- keys: one more node is looked at: the walk. No condition but those stated. -/
import Derived.Test.YtihjdmdafiifhaaGreatM38
set_option linter.unusedVariables false
set_option linter.unusedSimpArgs false
set_option linter.unusedVariables false
set_option linter.unusedSimpArgs false
namespace Go.Proofs.YtihjdmdafiifhaaGreat.P15
open Go.RowKit Kd P4 P5 Mv

def AddPost (w : World) (m1 m2 N : Nat) (f : Lit → Option Value) (left' : List Ch) (e : Ending) (w' : World) : Prop := e = .returned (.tuple #[]) ∧ ∃ (s' : Nat) (f' f2' : Lit → Option Value), MpK w' m1 m2 s' N f' f2' left' ∧ But (Wm m1 m2 f) w w' ∧ ∀ k, Wm m1 m2 f' k → Wm m1 m2 f k ∨ w.heap.size ≤ k
set_option maxRecDepth 100000
set_option maxHeartbeats 4000000 in
theorem add_any {w : World} {g m1 m2 s1 N p B : Nat} {f f2 : Lit → Option Value} {left : List Ch} {x : Dx} {s : Value} (i : Int) (hg : KB w g 0 1 (.pointer (some ⟨p, 0, none⟩)) s (some m1) (some m2)) (hm : MpK w m1 m2 s1 N f f2 left) (hx : Dc w B p x) (hwf : WF x.d) (hid : ∀ z ∈ x.d.l, z.id ≤ 1000000) (hN : N ≤ 1000) (hi : i ∉ cids left) :
    Calls Tryz.prog 43 #[.pointer (some ⟨g, 0, none⟩), .int .i64 i] w (AddPost w m1 m2 (N + 1) f (left ++ keyedL x.l [i])) := by
  have c3 := hg.c3
  have HG := Lib.hid hg
  have HM := Lib.hid hm
  have HI := Lib.hid hi
  have HN := Lib.hid (node_k i hwf hx)
  have HWF := Lib.hid hwf
  have HID := Lib.hid hid
  clear hg hm hi hx hwf hid
  go_enter Tryz.func43, Tryz.ntmps43
  go_upto_region 1 with (go_at_call 14; refine HN.out.mono ?_; rintro e w1 ⟨nd, A, n, c, A2, n2, c2, rfl, hnd, hb⟩)
  have B1 := Lib.hid ((hb.alloc (Nat.le_of_lt_succ (Nat.lt_succ_of_le hb.size)) (.cells #[.int .i64 nd.id, .int .i64 nd.par, .string nd.tag, .string nd.txt, .string nd.key, .slice A n c, .slice A2 n2 c2, .int .i64 nd.note] 34)))
  have HB4 : Hid ((w1.alloc (.cells #[.int .i64 nd.id, .int .i64 nd.par, .string nd.tag, .string nd.txt, .string nd.key, .slice A n c, .slice A2 n2 c2, .int .i64 nd.note] 34)).heap[w1.heap.size]? = some (.cells #[.int .i64 nd.id, .int .i64 nd.par, .string nd.tag, .string nd.txt, .string nd.key, .slice A n c, .slice A2 n2 c2, .int .i64 nd.note] 34 (0, 0))) := Lib.hid (heap_alloc_new w1 _)
  have hb4 : w.heap.size ≤ w1.heap.size := hb.size
  have HND := Lib.hid hnd
  clear hnd hb HN c3
  generalize w1.heap.size = b4 at HB4 hb4 ⊢
  generalize (w1.alloc (.cells #[.int .i64 nd.id, .int .i64 nd.par, .string nd.tag, .string nd.txt, .string nd.key, .slice A n c, .slice A2 n2 c2, .int .i64 nd.note] 34)) = W at B1 HB4 ⊢
  have HG1 := Lib.hid (HG.out.kept (B1.out.block g HG.out.lt))
  have HM1 := Lib.hid (HM.out.but (But.of_below B1.out (fun _ => False)) (fun _ _ h => h))
  have HF : Hid (f2 (.int .i64 i) = none) := Lib.hid (by
    rw [HM.out.names]
    have : left.find? (fun c => decide (c.id = i)) = none := List.find?_eq_none.2 fun x hx h => HI.out (List.mem_map.2 ⟨x, hx, by simpa using h⟩)
    rw [this]
    rfl)
  have c6 := HG1.out.c6
  go_upto_region 2 with (at_lookup; refine wp_look_int rfl _ _ rfl Tryz.underlying3 Tryz.underlying77 (zeroN _) rfl HM1.out.a2 rfl (HM1.out.out i) HF.out ?_)
  have B2 := Lib.hid (B1.out.alloc B1.out.size (.cells #[.string ⟨#[]⟩, .string ⟨#[]⟩] 82))
  have HG2 := Lib.hid (HG.out.kept (B2.out.block g HG.out.lt))
  have HM2 := Lib.hid (HM.out.but (But.of_below B2.out (fun _ => False)) (fun _ _ h => h))
  have HB42 : Hid ((W.alloc (.cells #[.string ⟨#[]⟩, .string ⟨#[]⟩] 82)).heap[b4]? = _) := Lib.hid (heap_up HB4.out)
  clear HB4 c6 HG1 HM1 B1
  generalize (W.alloc (.cells #[.string ⟨#[]⟩, .string ⟨#[]⟩] 82)) = W2 at B2 HG2 HM2 HB42 ⊢
  have d2 : W2.cell? ⟨b4, 2, none⟩ = some (.string nd.tag) := cell_of_row W2 b4 2 _ _ (0, 0) HB42.out
  have d4 : W2.cell? ⟨b4, 4, none⟩ = some (.string nd.key) := cell_of_row W2 b4 4 _ _ (0, 0) HB42.out
  have HK1 := Lib.hid (keyed_one HWF.out HND.out)
  by_cases hk : nd.key.toList = []
  · have hq : (nd.key.toList == (⟨#[]⟩ : ByteArray).toList) = true := by rw [hk]; simp [ByteArray.toList_eq]
    have HK2 : Hid (left ++ keyedL x.l [i] = left) := Lib.hid (by rw [show x.l = x.d.l from rfl, HK1.out, if_pos hk, List.append_nil])
    go_wp2_with fail
    go_end0
    exact ⟨rfl, s1, f, f2, by rw [HK2.out]; exact HM2.out.mono (by omega), But.of_below B2.out _, fun k hk => .inl hk⟩
  have hq : (nd.key.toList == []) = false := beq_eq_false_iff_ne.2 hk
  have HK2 : Hid (keyedL x.l [i] = [⟨i, nd.tag, nd.key⟩]) := Lib.hid (by rw [show x.l = x.d.l from rfl, HK1.out, if_neg hk])
  obtain ⟨⟨hi1, z, hz, hzi⟩, hs1, hs2⟩ := keyed_sz HWF.out HND.out hk
  have HSZ := Lib.hid (And.intro hs1 hs2)
  have HWI : Hid ((Lit.int .i64 i).wf = true) := Lib.hid (by
    have := HID.out z hz
    rw [hzi] at this
    simp [Lit.wf, IntKind.min, IntKind.max, IntKind.bits, IntKind.signed]
    omega)
  clear hi1 hz hzi hs1 hs2 HK1 HND hk
  generalize nd.tag = tg at d2 HSZ HK2 HB42 ⊢
  generalize nd.key = ky at d4 HSZ hq HK2 HB42 ⊢
  go_upto_region 4 with fail
  have B3 := Lib.hid (B2.out.alloc B2.out.size (.cells #[.string tg, .string ky] 82))
  have HB8 : Hid ((W2.alloc (.cells #[.string tg, .string ky] 82)).heap[W2.heap.size]? = some (.cells #[.string tg, .string ky] 82 (0, 0))) := Lib.hid (heap_alloc_new W2 _)
  have hb8 : w.heap.size ≤ W2.heap.size := B2.out.size
  clear HB42 B2 HG2 HM2 d2 d4 hq
  generalize W2.heap.size = b8 at HB8 hb8 ⊢
  generalize (W2.alloc (.cells #[.string tg, .string ky] 82)) = W3 at B3 HB8 ⊢
  have HG3 := Lib.hid (HG.out.kept (B3.out.block g HG.out.lt))
  have HM3 := Lib.hid (HM.out.but (But.of_below B3.out (fun _ => False)) (fun _ _ h => h))
  obtain ⟨vv, hvv⟩ : ∃ vv, (f (kn tg ky)).getD (.slice none 0 0) = vv := ⟨_, rfl⟩
  have HT1 : tg.size ≤ maxLen := by have := HSZ.out.1; unfold maxLen; omega
  have HT2 : ky.size ≤ maxLen := by have := HSZ.out.2; unfold maxLen; omega
  have HKEY : Hid (keyOf Tryz.prog 82 (.agg #[.string tg, .string ky]) = some (kn tg ky)) := Lib.hid (key_n HT1 HT2)
  have HR : Hid (R4 (W3.alloc (.cells #[.int .i64 i] 3)) g m1 m2 b8 W3.heap.size s1 N tg ky i f f2 left vv (.pointer (some ⟨p, 0, none⟩)) s) := Lib.hid
    ⟨HG3.out.kept (Below.heap_alloc W3 _ g HG3.out.lt), HM3.out.but (But.of_below ((Below.refl _ W3).alloc (Nat.le_refl _) _) (fun _ => False)) (fun _ _ h => h), heap_up HB8.out, heap_alloc_new W3 _, hvv, fun e => by
      have h1 := HM3.out.at_ tg ky HT1 HT2
      rw [hvv] at h1
      have := (h1.lt e).2
      omega, HT1, HT2⟩
  have B4 := Lib.hid (B3.out.alloc B3.out.size (.cells #[.int .i64 i] 3))
  have HVV := Lib.hid hvv
  have hnb : w.heap.size ≤ W3.heap.size := B3.out.size
  have HSI : Hid ((idsK left tg ky).length ≤ 1000) := Lib.hid (by have := idsK_len left tg ky; have := HM.out.lN; omega)
  have e0 : W3.cell? ⟨b8, 0, none⟩ = some (.string tg) := cell_of_row W3 b8 0 _ _ (0, 0) HB8.out
  have e1 : W3.cell? ⟨b8, 1, none⟩ = some (.string ky) := cell_of_row W3 b8 1 _ _ (0, 0) HB8.out
  have c5 := HG3.out.c5
  clear hvv HB8 HG3 HM3 hb8 HT1 HT2
  obtain ⟨st, w4, run4, hf4, g4⟩ := (HR.out.mp.a1.kept (w' := (W3.alloc (.cells #[.int .i64 i] 3)).drew) rfl).entry lawN Tryz.underlying76 zeroL (by have := HR.out.mp.sN; unfold maxLen; omega) HKEY.out
  rw [HVV.out] at run4
  simp only [goInt] at run4
  have O4 := Lib.hid (HR.out.one (grown_drew g4))
  have K1 := (HR.out.reads O4.out.1).1
  unfold S4 at K1
  have H4 := Lib.hid hf4
  clear hf4 g4
  go_region_held3 (fun w' => w'.cell? ⟨g, 5, none⟩ = some (.map (some m1)) ∧ w'.cell? ⟨b8, 0, none⟩ = some (.string tg) ∧ w'.cell? ⟨b8, 1, none⟩ = some (.string ky)) (first | go_keep | exact K3 | exact K2 | exact K1) ((first
    | (refine kI.step_app rfl (.tmp 43) (.tmp 45) rfl (v := vv) (l := idsK left tg ky) (m := [i]) (B := 0) rfl O4.out.2.1 rfl rfl (fun e => by cases e) O4.out.2.2 (by have := HSI.out; simp; omega) (Nat.zero_le _) ?_; intro v5 w5 hown5 hgrow5 hat5; have O5 := Lib.hid (HR.out.two O4.out.1 H4.out hgrow5); have K2 := (HR.out.reads O5.out.1).1; unfold S4 at K2; have V5 := Lib.hid hown5; have T5 : Hid (v5.ownBlock = vv.ownBlock ∨ ∃ k, v5.ownBlock = some k ∧ (W3.alloc (.cells #[.int .i64 i] 3)).heap.size ≤ k) := Lib.hid (hat5.imp (fun e => e) (fun e => ⟨_, e, O4.out.1.size⟩)); clear hown5 hgrow5 hat5; obtain ⟨w6, run6, m6, g6⟩ := O5.out.2.store v5 (setL_put f (kn tg ky) (some v5)); simp only [goInt] at run6; have O6 := Lib.hid (HR.out.three O5.out.1 V5.out T5.out g6); have K3 := (HR.out.reads O6.out.1).1; unfold S4 at K3; have M6 := Lib.hid m6; clear m6 g6)
    | fail))
  have hR6 := HR.out.reads O6.out.1
  have c6 := hR6.2.1.c6
  obtain ⟨e0, e1⟩ := K3.2
  have M2 : Hid (MapIs Tryz.prog 3 w6 m2 left.length left.length f2) := Lib.hid (HR.out.mp.a2.kept (O6.out.1.block m2 HR.out.mp.a2.lt (fun e => by
    rcases e with e | e
    · exact HR.out.mp.ne e.symm
    · exact HR.out.m2vv e)))
  have HKI : Hid (keyOf Tryz.prog 3 (.int .i64 i) = some (.int .i64 i)) := Lib.hid (Maps.keyOf_int_mk Tryz.underlying3 HWI.out)
  obtain ⟨w7, run7, m7, g7'⟩ := (M2.out.kept (w' := w6.drew) rfl).store lawI Tryz.underlying77 (by have := HM.out.lN; unfold maxLen; omega) (val := .agg #[.string tg, .string ky]) HKI.out (setL_put f2 (.int .i64 i) (some (.agg #[.string tg, .string ky])))
  have g7 := grown_drew g7'
  have hg6 := hR6.2.1.lt
  have h8ty := hR6.2.2.1
  have K7 : w7.cell? ⟨g, 6, none⟩ = some (.map (some m2)) ∧ w7.cell? ⟨b8, 0, none⟩ = some (.string tg) ∧ w7.cell? ⟨b8, 1, none⟩ = some (.string ky) := by
    have q1 := g7.block g hg6 (fun e => by have e := Option.some.inj e; subst e; exact not_map M2.out hR6.2.1)
    have q2 := g7.block b8 (heap_lt h8ty) (fun e => by have e := Option.some.inj e; subst e; exact not_map M2.out h8ty)
    have h8' := q2.trans h8ty
    exact ⟨(hR6.2.1.kept q1).c6, cell_of_row w7 b8 0 _ _ (0, 0) h8', cell_of_row w7 b8 1 _ _ (0, 0) h8'⟩
  have M7 := Lib.hid m7
  have G7 := Lib.hid g7
  clear m7 g7 g7' h8ty hg6 hR6 K1 K2 K3 c5
  go_upto_region 5 with fail
  go_region_held3 (fun w' => w'.cell? ⟨g, 6, none⟩ = some (.map (some m2)) ∧ w'.cell? ⟨b8, 0, none⟩ = some (.string tg) ∧ w'.cell? ⟨b8, 1, none⟩ = some (.string ky)) (first | go_keep | exact K7) (fail)
  go_wp2_with fail
  go_end0
  have hm12 := HM.out.ne
  have hV : ∀ k, v5.ownBlock = some k → vv.ownBlock = some k ∨ (W3.alloc (.cells #[.int .i64 i] 3)).heap.size ≤ k := fun k hk => by
    rcases T5.out with e | ⟨k', e, h⟩
    · exact .inl (e.symm.trans hk)
    · rw [hk] at e
      exact .inr (by have := Option.some.inj e; omega)
  have hbw : But (fun k => k = m1 ∨ k = m2 ∨ vv.ownBlock = some k) w w7 := by
    refine (But.of_below B4.out (fun k => k = m1 ∨ k = m2 ∨ vv.ownBlock = some k)).trans (T := fun k => k = m1 ∨ k = m2 ∨ vv.ownBlock = some k) ?_ (fun _ _ e => e)
    refine (O6.out.1.mono (T := fun k => k = m1 ∨ k = m2 ∨ vv.ownBlock = some k) (fun k _ e => e.imp id (fun e => .inr e))).trans (T := fun k => k = m2) (But.of_grown G7.out (fun k hk _ => (Option.some.inj hk).symm)) (fun k _ e => .inr (.inl e))
  have hf2 := HF.out
  have hpos : (left ++ [(⟨i, tg, ky⟩ : Ch)]).length = left.length + 1 := by simp
  have hp := HM.out.put (left' := left ++ [⟨i, tg, ky⟩]) (M := N + 1) (tag := tg) (key := ky) (v' := v5) HR.out.t1 HR.out.t2 (by rw [HVV.out]; exact hbw) (M6.out.kept (G7.out.block m1 M6.out.lt (fun e => hm12 (Option.some.inj e)))).tight (setL_put f (kn tg ky) (some v5))
    (by have := M7.out.tight; rw [hf2] at this; rw [hpos]; exact this) (names_put (c := ⟨i, tg, ky⟩) HM.out.names HI.out (setL_put f2 (.int .i64 i) (some (.agg #[.string tg, .string ky]))))
    (by have := HM.out.sN; split <;> omega) (by have := HM.out.lN; rw [hpos]; omega)
    (by
      rw [idsK_snoc, if_pos ⟨rfl, rfl⟩]
      refine O6.out.2.grown G7.out (fun k hk e => ?_)
      have e := Option.some.inj e
      subst e
      rcases hV _ hk with h | h
      · exact HR.out.m2vv h
      · have := HR.out.mp.a2.lt; omega)
    (fun k hk => by
      rw [HVV.out]
      rcases hV k hk with h | h
      · exact .inl h
      · have := B4.out.size; exact .inr (by omega))
    (fun t k h => by rw [idsK_snoc, if_neg (fun e => h ⟨e.1.symm, e.2.symm⟩)])
    (fun c hc => by
      rcases List.mem_append.1 hc with h | h
      · exact HM.out.rng c h
      · rcases List.mem_singleton.1 h with rfl
        exact ⟨HWI.out, HR.out.t1, HR.out.t2⟩)
    (by
      unfold cids
      rw [List.map_append]
      refine List.nodup_append.2 ⟨HM.out.nd, by simp, fun a ha b hb e => ?_⟩
      simp only [List.map_cons, List.map_nil, List.mem_singleton] at hb
      subst hb
      subst e
      exact HI.out ha)
  refine ⟨rfl, _, _, _, by rw [HK2.out]; exact hp.1, hbw.mono (fun k _ e => HM.out.writes tg ky (by rw [HVV.out]; exact e)), hp.2⟩
end Go.Proofs.YtihjdmdafiifhaaGreat.P15

/- keys: the map is made, when it is first asked. No condition but those stated. -/
set_option linter.unusedVariables false
set_option linter.unusedSimpArgs false
namespace Go.Proofs.YtihjdmdafiifhaaGreat.P15
open Go.RowKit Kd P4 P5 Mv

theorem foot_not {w : World} {B p g : Nat} {x : Dx} {cur : Array Value} (h : Dc w B p x) (hg : w.heap[g]? = some (.cells cur 79 (0, 0))) : ¬ foot p x g := by
  rintro (rfl | rfl | e | e | ⟨r, hr, e | e⟩)
  · exact heap_ne h.blk hg (by decide) rfl
  · exact heap_ne h.ar.blk hg (by decide) rfl
  · obtain ⟨cur', hc⟩ := h.ar.own.ty e
    exact heap_ne hc hg (by decide) rfl
  · obtain ⟨cur', hc⟩ := h.ids.ty e
    exact heap_ne hc hg (by decide) rfl
  · subst e
    exact heap_ne (h.nodes r hr).blk hg (by decide) rfl
  · obtain ⟨cur', hc⟩ := (h.nodes r hr).kids.ty e
    exact heap_ne hc hg (by decide) rfl
theorem noA_one {w : World} {g : Nat} {cur : Array Value} (hg : w.heap[g]? = some (.cells cur 79 (0, 0))) : NoA w (fun k => k = g) := by
  rintro k cur' fr rfl hh
  exact heap_ne hg hh (by decide) rfl
def leftOf (doc : Option Nat) (l : List Nd) (ids : List Int) : List Ch := match doc with | none => [] | some _ => keyedL l ids
/-- what is left behind: the two maps, of nothing that was there before -/
def Filled (W0 : World) (g : Nat) (d s : Value) (lock : Int) (left : List Ch) (w' : World) : Prop := ∃ (m1 m2 s1 : Nat) (f f2 : Lit → Option Value), KB w' g 0 lock d s (some m1) (some m2) ∧ MpK w' m1 m2 s1 1000 f f2 left ∧ But (fun k => k = g) W0 w' ∧ ∀ k, Wm m1 m2 f k → W0.heap.size ≤ k
def FlRel (W0 : World) (g m1 m2 n : Nat) (d s : Value) (l : List Nd) (ids : List Int) (i : Value) (wr : World) : Prop := ∃ (k s1 : Nat) (f f2 : Lit → Option Value), k ≤ n ∧ i = .int .i64 k ∧ Hid (KB wr g 0 1 d s (some m1) (some m2)) ∧ Hid (MpK wr m1 m2 s1 k f f2 (keyedL l (ids.take k))) ∧ Hid (But (fun k => k = g) W0 wr) ∧ Hid (∀ k, Wm m1 m2 f k → W0.heap.size ≤ k)
theorem KB.set {w : World} {g : Nat} {cur : Array Value} {o : Nat} {u : Value} (h : w.heap[g]? = some (.cells cur 79 (0, 0))) : (w.setCell ⟨g, o, none⟩ u).heap[g]? = some (.cells (cur.setIfInBounds o u) 79 (0, 0)) := heap_set h o u
/-- two maps are made, laid in the block -/
theorem fill_made {W0 : World} {g : Nat} {d s : Value} (hg : KB W0 g 0 1 d s none none) :
    KB ((((W0.alloc (.map #[] 0)).alloc (.map #[] 0)).setCell ⟨g, 5, none⟩ (.map (some W0.heap.size))).setCell ⟨g, 6, none⟩ (.map (some (W0.heap.size + 1)))) g 0 1 d s (some W0.heap.size) (some (W0.heap.size + 1)) ∧
    MpK ((((W0.alloc (.map #[] 0)).alloc (.map #[] 0)).setCell ⟨g, 5, none⟩ (.map (some W0.heap.size))).setCell ⟨g, 6, none⟩ (.map (some (W0.heap.size + 1)))) W0.heap.size (W0.heap.size + 1) 0 0 (fun _ => none) (fun _ => none) [] ∧
    But (fun k => k = g) W0 ((((W0.alloc (.map #[] 0)).alloc (.map #[] 0)).setCell ⟨g, 5, none⟩ (.map (some W0.heap.size))).setCell ⟨g, 6, none⟩ (.map (some (W0.heap.size + 1)))) := by
  have hl := hg.lt
  have h1 : ((W0.alloc (.map #[] 0)).alloc (.map #[] 0)).heap[g]? = _ := heap_up (heap_up hg)
  have h2 := KB.set (o := 5) (u := .map (some W0.heap.size)) h1
  have h3 := KB.set (o := 6) (u := .map (some (W0.heap.size + 1))) h2
  have a1 : MapIs Tryz.prog 82 ((W0.alloc (.map #[] 0)).alloc (.map #[] 0)) W0.heap.size 0 0 (fun _ => none) := (MapIs.made Tryz.prog 82 W0).alloc _
  have a2 : MapIs Tryz.prog 3 ((W0.alloc (.map #[] 0)).alloc (.map #[] 0)) (W0.heap.size + 1) 0 0 (fun _ => none) := by
    have := MapIs.made Tryz.prog 3 (W0.alloc (.map #[] 0))
    simpa using this
  refine ⟨h3, MpK.made ((a1.setCell (by show W0.heap.size ≠ g; omega) _).setCell (by show W0.heap.size ≠ g; omega) _) ((a2.setCell (by show W0.heap.size + 1 ≠ g; omega) _).setCell (by show W0.heap.size + 1 ≠ g; omega) _) (by omega), ?_⟩
  exact But.setCell (S := fun k => k = g) (But.setCell (S := fun k => k = g) (((But.refl _ W0).alloc _).alloc _) (p := ⟨g, 5, none⟩) (fun _ => rfl) _) (p := ⟨g, 6, none⟩) (fun _ => rfl) _
/-- what was kept is let go -/
theorem fill_end {W0 w : World} {g m1 m2 s1 : Nat} {f f2 : Lit → Option Value} {left : List Ch} {d s : Value} (hg : KB w g 0 1 d s (some m1) (some m2)) (hm : MpK w m1 m2 s1 1000 f f2 left) (hb : But (fun k => k = g) W0 w) (hw : ∀ k, Wm m1 m2 f k → W0.heap.size ≤ k) :
    Filled W0 g (.pointer none) (.slice none 0 0) 1 left ((w.setCell ⟨g, 3, none⟩ (.pointer none)).setCell ⟨g, 4, none⟩ (.slice none 0 0)) := by
  have h2 := KB.set (o := 3) (u := .pointer none) hg
  have h3 := KB.set (o := 4) (u := .slice none 0 0) h2
  have hb2 : But (fun k => k = g) w ((w.setCell ⟨g, 3, none⟩ (.pointer none)).setCell ⟨g, 4, none⟩ (.slice none 0 0)) := But.setCell (S := fun k => k = g) (But.setCell (S := fun k => k = g) (But.refl _ w) (p := ⟨g, 3, none⟩) (fun _ => rfl) _) (p := ⟨g, 4, none⟩) (fun _ => rfl) _
  exact ⟨m1, m2, s1, f, f2, h3, hm.but hb2 (fun k hk e => hm.not_KB hg (e ▸ hk)), hb.trans hb2 (fun _ _ e => e), hw⟩
set_option maxRecDepth 100000
set_option maxHeartbeats 4000000 in
theorem fill_any {w : World} {g n c : Nat} {A : Option Addr} (doc : Option Nat) (ids : List Int) (l : List Nd) (hg : KB w g 0 1 (dptr doc) (.slice A n c) none none) (hh : kI.Holds w w.heap.size A ids) (hn : ids.length = n) (hn2 : n ≤ 1000) (hd : ids.Nodup) (hag : ∀ o, A = some ⟨g, o, none⟩ → ids = [])
    (hx : ∀ p, doc = some p → ∃ B x, Dc w B p x ∧ WF x.d ∧ x.d.l = l ∧ ∀ z ∈ l, z.id ≤ 1000000) :
    Calls Tryz.prog 22 #[.pointer (some ⟨g, 0, none⟩)] w fun e w' => e = .returned (.tuple #[]) ∧ Filled w g (.pointer none) (.slice none 0 0) 1 (leftOf doc l ids) w' := by
  have HF := Lib.hid (fill_made hg)
  have HB := Lib.hid hg
  have hmm := @run_makeMap Tryz.prog
  have hg2 : KB ((w.alloc (.map #[] 0)).alloc (.map #[] 0)) g 0 1 (dptr doc) (.slice A n c) none none := heap_up (heap_up hg)
  have c5 := hg2.c5
  have c6 := hg2.c6
  have f5 := hg2.fz 5
  have f6 := hg2.fz 6
  clear hg2
  have HH := Lib.hid hh
  have HN := Lib.hid hn
  have HD := Lib.hid hd
  have HAG := Lib.hid hag
  clear hg hh hn hd hag
  cases doc with
  | none =>
    clear hx HH HD HAG HN
    go_enter Tryz.func22, Tryz.ntmps22
    have c3 := HF.out.1.c3
    go_upto_region 1 with fail
    obtain ⟨hk, hm, hb⟩ := HF.out
    generalize ((((w.alloc (.map #[] 0)).alloc (.map #[] 0)).setCell ⟨g, 5, none⟩ (.map (some w.heap.size))).setCell ⟨g, 6, none⟩ (.map (some (w.heap.size + 1)))) = W at hk hm hb c3 ⊢
    have FE := Lib.hid (fill_end hk (hm.mono (by omega)) hb (fun k hk => by
      rcases hk with e | e | ⟨l, v, e, _⟩
      · omega
      · omega
      · cases e))
    have d3 := hk.c3
    have d4 := hk.c4
    have f3 := hk.fz 3
    have f4 := hk.fz 4
    clear hk hm hb HF c5 c6 f5 f6 hmm
    unfold dptr at d3 c3
    simp only [Option.map_none] at d3 c3
    go_wp2_with fail
    go_end0
    exact ⟨rfl, FE.out⟩
  | some p =>
    obtain ⟨B, x, hdc, hwf, rfl, hid⟩ := hx p rfl
    have HX := Lib.hid hdc
    have WX := Lib.hid hwf
    have HID := Lib.hid hid
    have HFN := Lib.hid (foot_not hdc HB.out)
    have HNA := Lib.hid (noA_one HB.out)
    clear hdc hwf hid hx
    go_enter Tryz.func22, Tryz.ntmps22
    have c3 := HF.out.1.c3
    go_upto_region 1 with fail
    obtain ⟨hk, hm, hb⟩ := HF.out
    have ST : Hid (FlRel w g w.heap.size (w.heap.size + 1) n (.pointer (some ⟨p, 0, none⟩)) (.slice A n c) x.d.l ids (.int .i64 0) ((((w.alloc (.map #[] 0)).alloc (.map #[] 0)).setCell ⟨g, 5, none⟩ (.map (some w.heap.size))).setCell ⟨g, 6, none⟩ (.map (some (w.heap.size + 1))))) := Lib.hid
      ⟨0, 0, fun _ => none, fun _ => none, by omega, rfl, Lib.hid hk, Lib.hid hm, Lib.hid hb, Lib.hid (fun k hk => by
        rcases hk with e | e | ⟨l, v, e, _⟩
        · omega
        · omega
        · cases e)⟩
    generalize ((((w.alloc (.map #[] 0)).alloc (.map #[] 0)).setCell ⟨g, 5, none⟩ (.map (some w.heap.size))).setCell ⟨g, 6, none⟩ (.map (some (w.heap.size + 1)))) = W at hk c3 ST ⊢
    have d4 := hk.c4
    clear hk hm hb HF c5 c6 f5 f6 hmm
    unfold dptr at c3
    simp only [Option.map_some] at c3
    generalize w.heap.size = m1 at ST ⊢
    generalize m1 + 1 = m2 at ST ⊢
    go_wp2_with fail
    go_loopw [22] (fun s22 wr => FlRel w g m1 m2 n (.pointer (some ⟨p, 0, none⟩)) (.slice A n c) x.d.l ids s22 wr) (fun s22 _ => n - (intOf s22).toNat)
    case atStart => exact ST.out
    case round =>
      obtain ⟨k, s1, f, f2, hk, rfl, HK, HM, HBk, HW⟩ := hrel
      clear ST c3 d4
      by_cases hkn : k < n
      · have hkl : k < ids.length := by have := HN.out; omega
        have HHr : Hid (kI.Holds wr wr.heap.size A ids) := Lib.hid ((HH.out.keep (fun b ⟨o, hA⟩ hlt => HBk.out.block b hlt (fun e => by
          subst e
          rw [HAG.out o hA] at hkl
          simp at hkl))).more HBk.out.size)
        obtain ⟨b, o, rfl, hb, g0⟩ := cell_int HHr.out hkl
        have NI : Hid (ids[k] ∉ cids (keyedL x.d.l (ids.take k))) := Lib.hid (fun h => by
          have h1 := (keyed_sub x.d.l (ids.take k)).subset h
          obtain ⟨j, hj, e⟩ := List.getElem_of_mem h1
          rw [List.length_take] at hj
          rw [List.getElem_take] at e
          exact (List.pairwise_iff_getElem.1 HD.out j k (by omega) hkl (by omega)) e)
        have TK : Hid (keyedL x.d.l (ids.take k) ++ keyedL x.l [ids[k]] = keyedL x.d.l (ids.take (k + 1))) := Lib.hid (by
          rw [List.take_succ_eq_append_getElem hkl, keyed_snoc]
          rfl)
        generalize ids[k] = ij at g0 NI TK
        have CA := Lib.hid (add_any ij HK.out HM.out (HX.out.but HBk.out (fun j hj e => HFN.out (e ▸ hj)) HNA.out) WX.out HID.out (by omega) NI.out)
        rw [TK.out] at CA
        go_wp2_with fail
        refine CA.out.mono ?_
        rintro e w2 ⟨rfl, s', f', f2', hm2, hb2, hw2⟩
        have HK2 := Lib.hid (HK.out.kept (hb2.block g HK.out.lt (HM.out.not_KB HK.out)))
        have HM2 := Lib.hid hm2
        have HB2 : Hid (But (fun k => k = g) w w2) := Lib.hid (HBk.out.trans hb2 (fun i hi e => by have := HW.out i e; omega))
        have HW2 : Hid (∀ k, Wm m1 m2 f' k → w.heap.size ≤ k) := Lib.hid (fun j hj => by
          rcases hw2 j hj with e | e
          · exact HW.out j e
          · have := HBk.out.size; omega)
        clear hm2 hb2 hw2 HK HM HBk HW CA TK NI HHr g0
        go_wp2_with fail
        go_roundw
        case rel => exact ⟨k + 1, s', f', f2', by omega, by go_num, HK2, HM2, HB2, HW2⟩
        case measure => simp [intOf]; omega
      · obtain rfl : k = n := by omega
        have FE := Lib.hid (fill_end HK.out (HM.out.mono (by omega)) HBk.out HW.out)
        rw [List.take_of_length_le (by have := HN.out; omega)] at FE
        have d3 := HK.out.c3
        have d4 := HK.out.c4
        have f3 := HK.out.fz 3
        have f4 := HK.out.fz 4
        clear HK HM HBk HW
        go_wp2_with fail
        go_end0
        exact ⟨rfl, FE.out⟩
end Go.Proofs.YtihjdmdafiifhaaGreat.P15
