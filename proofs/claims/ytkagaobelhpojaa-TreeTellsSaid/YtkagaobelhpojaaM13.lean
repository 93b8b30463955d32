/- A document's own block, its slots, its identities turned: what it is then. No condition. -/
import Derived.Test.YtkagaobelhpojaaM12
set_option linter.unusedVariables false
set_option linter.unusedSimpArgs false
namespace Go.Proofs.Ytkagaobelhpojaa.P5
open Go.RowKit Kd P4
variable {B p : Nat} {x : Dx}

theorem Dc.re {w w' : World} (h : Dc w B p x) {v' vi' : Value} {n' foc' : Int} {rs' : List Rw}
    (hb : But (fun g => g = p ∨ Arm x.a x.v g ∨ x.vi.ownBlock = some g) w w')
    (blk : w'.heap[p]? = some (.cells #[.pointer (some ⟨x.a, 0, none⟩), vi', .int .i64 foc'] 78 (0, 0)))
    (ar : ArP w' B x.a x.R n' v' (rs'.map slotOf)) (ids : kI.Own w' B vi' (idsOf (rs'.map (·.nd))))
    (hv : ∀ g, v'.ownBlock = some g → x.v.ownBlock = some g ∨ w.heap.size ≤ g) (hvi : ∀ g, vi'.ownBlock = some g → x.vi.ownBlock = some g ∨ w.heap.size ≤ g)
    (nodes : ∀ r ∈ rs', r ∈ x.rs ∨ NdAt w' B r ∧ w.heap.size ≤ r.b ∧ (∀ g, r.vk.val.ownBlock = some g → w.heap.size ≤ g) ∧ Apart vi' r.vk.val)
    (pw : rs'.Pairwise fun r s => r.b ≠ s.b ∧ Apart r.vk.val s.vk.val) : Did w B p x ⟨x.a, v', vi', x.R, n', foc', rs'⟩ w' := by
  have hS : ∀ g, (g = p ∨ Arm x.a x.v g ∨ x.vi.ownBlock = some g) → foot p x g := by
    rintro g (e | (e | e) | e)
    · exact .inl e
    · exact .inr (.inl e)
    · exact .inr (.inr (.inl e))
    · exact .inr (.inr (.inr (.inl e)))
  have hnA : NoA w (fun g => g = p ∨ Arm x.a x.v g ∨ x.vi.ownBlock = some g) := fun g c f hg => h.noA g c f (hS g hg)
  have kb : ∀ r ∈ x.rs, w'.heap[r.b]? = w.heap[r.b]? := by
    intro r hr
    have hn := h.nodes r hr
    refine hb.block _ hn.lt ?_
    rintro (e | e | e)
    · exact heap_ne hn.blk (e ▸ h.blk) (by decide) rfl
    · exact h.ar.other hn.blk (by decide) (by decide) e
    · obtain ⟨d, hd⟩ := h.ids.ty e
      exact heap_ne hn.blk hd (by decide) rfl
  have kk : ∀ r ∈ x.rs, ∀ g, r.vk.val.ownBlock = some g → w'.heap[g]? = w.heap[g]? := by
    intro r hr g hg
    have hn := h.nodes r hr
    obtain ⟨c, hc⟩ := hn.kids.ty hg
    refine hb.block _ (heap_lt hc) ?_
    rintro (e | e | e)
    · exact heap_ne hc (e ▸ h.blk) (by decide) rfl
    · exact h.ar.other hc (by decide) (by decide) e
    · exact h.apV r hr g e hg
  refine ⟨⟨blk, h.base, ar, ids, fun r hr => ?_, fun r hr => ?_, pw⟩, hb.mono fun g _ hg => hS g hg, fun g hg => ?_⟩
  · rcases nodes r hr with h1 | h1
    · exact (h.nodes r h1).keep (kb r h1) (kk r h1) ((h.nodes r h1).att.but hb hnA)
    · exact h1.1
  · rcases nodes r hr with h1 | h1
    · intro g hg e
      rcases hvi g hg with e2 | e2
      · exact h.apV r h1 g e2 e
      · have := ((h.nodes r h1).kids.lt e).2; omega
    · exact h1.2.2.2
  · rcases hg with e | e | e | e | ⟨r, hr, e⟩
    · exact .inl (.inl e)
    · exact .inl (.inr (.inl e))
    · rcases hv g e with e2 | e2
      · exact .inl (.inr (.inr (.inl e2)))
      · exact .inr e2
    · rcases hvi g e with e2 | e2
      · exact .inl (.inr (.inr (.inr (.inl e2))))
      · exact .inr e2
    · rcases nodes r hr with h1 | h1
      · exact .inl (.inr (.inr (.inr (.inr ⟨r, h1, e⟩))))
      · rcases e with e | e
        · exact .inr (by rw [e]; exact h1.2.1)
        · exact .inr (h1.2.2.1 g e)
theorem idsl (x : Dx) : idsOf (x.rs.map (·.nd)) = idsOf x.l := rfl
/-- the focus is another -/
theorem Dc.focus_ {w : World} (h : Dc w B p x) (i : Int) : Did w B p x { x with foc := i } (w.setCell ⟨p, 2, none⟩ (.int .i64 i)) := by
  have hb : But (fun g => g = p ∨ Arm x.a x.v g ∨ x.vi.ownBlock = some g) w (w.setCell ⟨p, 2, none⟩ (.int .i64 i)) := But.setCell (But.refl _ _) (fun _ => .inl rfl) _
  refine h.re (v' := x.v) (vi' := x.vi) (n' := x.n) (foc' := i) (rs' := x.rs) hb (heap_set h.blk 2 _) ?_ ?_ (fun g hg => .inl hg) (fun g hg => .inl hg) (fun r hr => .inl hr) h.pw
  · refine h.ar.keep (Below.heap_setCell _ _ _ _ (heap_ne h.ar.blk h.blk (by decide))) (fun g hg => Below.heap_setCell _ _ _ _ ?_)
    rintro rfl
    obtain ⟨d, hd⟩ := h.ar.own.ty hg
    exact heap_ne hd h.blk (by decide) rfl
  · refine h.ids.keep (fun g hg => Below.heap_setCell _ _ _ _ ?_)
    rintro rfl
    obtain ⟨d, hd⟩ := h.ids.ty hg
    exact heap_ne hd h.blk (by decide) rfl
theorem own_not {w : World} {C g : Nat} {v : Value} {l : List Int} {cur : Array Value} {t : TypeId} {fr : Nat × Nat} (h : kI.Own w C v l) (hg : w.heap[g]? = some (.cells cur t fr)) (ht : t ≠ 3) : some g ≠ v.ownBlock := fun e => by
  obtain ⟨d, hd⟩ := h.ty e.symm
  exact heap_ne hg hd ht rfl
/-- an error's number, as a value -/
def errV (c : Int) : Value := if c = 0 then .nilIface else .iface 29 (.int .i64 c)
/-- a call's post: it has answered r; the document is d then -/
def Made (w : World) (B p : Nat) (x : Dx) (r : Value) (d : D) (e : Ending) (w' : World) : Prop := e = .returned r ∧ ∃ x', Did w B p x x' w' ∧ x'.d = d
theorem Made.same {w w' : World} {r r' : Value} {d : D} (h : Dc w B p x) (hb : Below w.heap.size w w') (hr : r = r') (hd : x.d = d) : Made w B p x r' d (.returned r) w' := ⟨by rw [hr], x, Did.below_ h hb, hd⟩
end Go.Proofs.Ytkagaobelhpojaa.P5

/- What SetFocus, Note, setText, setAttrs answer and leave; whether one is inside another; a node that leaves. -/
namespace Go.Proofs.Ytkagaobelhpojaa.P5
open Go.RowKit Kd P4
variable {B p : Nat} {x : Dx}

theorem setFocus_any (i : Int) (w : World) (h : Dc w B p x) : Calls Try.prog 13 #[.pointer (some ⟨p, 0, none⟩), .int .i64 i] w (Made w B p x (errV (focusD x.d i).1) (focusD x.d i).2) := by
  have H := Lib.hid h
  have c2 := h.c2
  have f2 := h.frozen 2
  by_cases hi : i = 0
  · have hq : (i != 0) = false := by simp [hi]
    have HD : Hid (focusD x.d i = (0, { x.d with foc := i })) := Lib.hid (by unfold focusD; rw [if_neg (by simp [hi])])
    clear h hi
    go_enter Try.func13, Try.ntmps13
    go_wp2_with fail
    go_ret
    rw [HD.out]
    exact ⟨rfl, _, H.out.focus_ i, rfl⟩
  · have hq : (i != 0) = true := by simp [hi]
    cases hh : hasL x.l i with
    | false =>
      have HH := Lib.hid hh
      have HD : Hid (focusD x.d i = (2, x.d)) := Lib.hid (by unfold focusD; rw [if_pos ⟨hi, hh⟩])
      clear h hi hh
      go_enter Try.func13, Try.ntmps13
      go_wp2_with fail
      refine (has_at i w HH.out H.out).mono ?_
      rintro e w1 ⟨rfl, b1⟩
      have B1 := Lib.hid b1
      clear b1
      go_wp2_with fail
      go_ret
      rw [HD.out]
      exact Made.same H.out B1.out rfl rfl
    | true =>
      have HH := Lib.hid hh
      have HD : Hid (focusD x.d i = (0, { x.d with foc := i })) := Lib.hid (by unfold focusD; rw [if_neg (by rintro ⟨_, e⟩; rw [show x.d.l = x.l from rfl, hh] at e; cases e)])
      clear h hi hh
      go_enter Try.func13, Try.ntmps13
      go_wp2_with fail
      refine (has_at i w HH.out H.out).mono ?_
      rintro e w1 ⟨rfl, b1⟩
      have B1 := Lib.hid b1
      have H1 := Lib.hid (H.out.below b1)
      have d2 := H1.out.c2
      have g2 := H1.out.frozen 2
      clear b1 c2 f2
      go_wp2_with fail
      go_ret
      rw [HD.out]
      exact ⟨rfl, _, (Did.below_ H.out B1.out).trans (H1.out.focus_ i), rfl⟩
theorem place_upd {w : World} {i : Int} (h : Dc w B p x) (hh : hasL x.l i = true) : ∃ k, ∃ hk : k < x.rs.length, x.rs[k].nd.id = i ∧ ∀ (f : Nd → Nd) (r : Rw), r.nd = f x.rs[k].nd → (x.put k r).d = { x.d with l := upd x.d.l i f } := by
  obtain ⟨k, hk, hy, _⟩ := h.place hh
  refine ⟨k, hk, hy, fun f r hr => ?_⟩
  have := put_l h hk hr
  rw [hy] at this
  show D.mk (x.put k r).l _ _ _ = D.mk _ _ _ _
  rw [this]
  rfl
theorem tag_at {w : World} {k : Nat} {i : Int} (h : Dc w B p x) (hk : k < x.rs.length) (hy : x.rs[k].nd.id = i) : tagOf x.l i = x.rs[k].nd.tag ∧ parOf x.l i = x.rs[k].nd.par ∧ kidsOf x.l i = x.rs[k].nd.kids := by
  have hm : x.rs[k].nd ∈ x.l := List.mem_map.2 ⟨x.rs[k], List.getElem_mem hk, rfl⟩
  have hf := h.asc.find hm
  rw [hy] at hf
  unfold tagOf parOf kidsOf
  rw [hf]
  exact ⟨rfl, rfl, rfl⟩

theorem note_any (i n : Int) (w : World) (h : Dc w B p x) : Calls Try.prog 15 #[.pointer (some ⟨p, 0, none⟩), .int .i64 i, .int .i64 n] w (Made w B p x (errV (noteD x.d i n).1) (noteD x.d i n).2) := by
  have H := Lib.hid h
  have c0 := h.c0
  cases hh : hasL x.l i with
  | false =>
    have HH := Lib.hid hh
    have HD : Hid (noteD x.d i n = (2, x.d)) := Lib.hid (by unfold noteD; rw [if_pos (show hasL x.d.l i = false from hh)])
    clear h hh
    go_enter Try.func15, Try.ntmps15
    go_wp2_with fail
    refine (getP_no i w (by rw [H.out.has_slot]; exact HH.out) H.out.ar).mono ?_
    rintro e w1 ⟨rfl, b1⟩
    have B1 := Lib.hid b1
    clear b1
    go_wp2_with fail
    go_ret
    rw [HD.out]
    exact Made.same H.out B1.out rfl rfl
  | true =>
    obtain ⟨k, hk, hy, hu⟩ := place_upd h hh
    have HY := Lib.hid hy
    have HU := Lib.hid hu
    have HD : Hid (noteD x.d i n = (0, { x.d with l := upd x.d.l i (withNote n) })) := Lib.hid (by unfold noteD; rw [if_neg (by rw [show x.d.l = x.l from rfl, hh]; simp)])
    obtain ⟨b, hb⟩ : ∃ b, x.rs[k].b = b := ⟨_, rfl⟩
    have HB := Lib.hid hb
    clear h hh hy hu hb
    go_enter Try.func15, Try.ntmps15
    go_wp2_with fail
    refine (getP_at i k (x := b) w (l := x.rs.map slotOf) (by simpa using hk) (by simp [slotOf, HY.out]) (by simp [slotOf, HB.out]) H.out.ar).mono ?_
    rintro e w1 ⟨rfl, b1⟩
    have H1 := Lib.hid (H.out.below b1)
    have B1 := Lib.hid b1
    have d7 : w1.cell? ⟨b, 7, none⟩ = some (.int .i64 x.rs[k].nd.note) := by have := (H1.out.nd hk).c7; rwa [HB.out] at this
    have g7 : w1.frozen? ⟨b, 7, none⟩ = false := by have := (H1.out.nd hk).frozen 7; rwa [HB.out] at this
    clear b1
    go_wp2_with fail
    go_ret
    rw [HD.out]
    have hd := H1.out.cell_ hk (r := ⟨x.rs[k].b, x.rs[k].va, x.rs[k].vk, withNote n x.rs[k].nd⟩) rfl rfl rfl rfl (H1.out.nd hk).att (i := 7) (u := .int .i64 n) rfl
    rw [HB.out] at hd
    exact ⟨rfl, _, (Did.below_ H.out B1.out).trans hd, HU.out (withNote n) _ rfl⟩

theorem setText_any (i : Int) (t : ByteArray) (w : World) (ht : t.size ≤ maxLen) (h : Dc w B p x) : Calls Try.prog 57 #[.pointer (some ⟨p, 0, none⟩), .int .i64 i, .string t] w (Made w B p x (errV (dataD x.d i t).1) (dataD x.d i t).2) := by
  have H := Lib.hid h
  have c0 := h.c0
  cases hh : hasL x.l i with
  | false =>
    have HH := Lib.hid hh
    have HD : Hid (dataD x.d i t = (2, x.d)) := Lib.hid (by unfold dataD; rw [if_pos (show hasL x.d.l i = false from hh)])
    clear h hh
    go_enter Try.func57, Try.ntmps57
    go_wp2_with fail
    refine (getP_no i w (by rw [H.out.has_slot]; exact HH.out) H.out.ar).mono ?_
    rintro e w1 ⟨rfl, b1⟩
    have B1 := Lib.hid b1
    clear b1
    go_wp2_with fail
    go_ret
    rw [HD.out]
    exact Made.same H.out B1.out rfl rfl
  | true =>
    obtain ⟨k, hk, hy, hu⟩ := place_upd h hh
    have htag := (tag_at h hk hy).1
    obtain ⟨tg, htg⟩ : ∃ tg, x.rs[k].nd.tag = tg := ⟨_, rfl⟩
    rw [htg] at htag
    have HY := Lib.hid hy
    have HU := Lib.hid hu
    have HTG := Lib.hid htg
    obtain ⟨b, hb⟩ : ∃ b, x.rs[k].b = b := ⟨_, rfl⟩
    have HB := Lib.hid hb
    have hl : x.d.l = x.l := rfl
    cases he : tg.toList.isEmpty with
    | false =>
      have he1 : ¬ tg.toList = [] := by rw [← List.isEmpty_iff]; simp [he]
      have hq : tg.toList.isEmpty = false := he
      have HD : Hid (dataD x.d i t = (3, x.d)) := Lib.hid (by unfold dataD; rw [if_neg (by rw [hl, hh]; simp), if_pos (by rw [hl, htag]; exact he1)])
      clear h hh hy hu hb htag htg he hl
      go_enter Try.func57, Try.ntmps57
      go_wp2_with fail
      refine (getP_at i k (x := b) w (l := x.rs.map slotOf) (by simpa using hk) (by simp [slotOf, HY.out]) (by simp [slotOf, HB.out]) H.out.ar).mono ?_
      rintro e w1 ⟨rfl, b1⟩
      have B1 := Lib.hid b1
      have d2 : w1.cell? ⟨b, 2, none⟩ = some (.string tg) := by have := ((H.out.below b1).nd hk).c2; rwa [HB.out, HTG.out] at this
      clear b1
      go_wp2_with fail
      go_ret
      rw [HD.out]
      exact Made.same H.out B1.out rfl rfl
    | true =>
      have he1 : tg.toList = [] := by rw [← List.isEmpty_iff]; exact he
      have HE := Lib.hid he1
      have hq : tg.toList.isEmpty = true := he
      cases hm : P1.textB t.data.toList with
      | false =>
        have HD : Hid (dataD x.d i t = (1, x.d)) := Lib.hid (by unfold dataD; rw [if_neg (by rw [hl, hh]; simp), if_neg (by rw [hl, htag]; simpa using he1), if_pos hm])
        have HM := Lib.hid hm
        clear h hh hy hu hb htag htg he hl hm
        go_enter Try.func57, Try.ntmps57
        go_wp2_with fail
        refine (getP_at i k (x := b) w (l := x.rs.map slotOf) (by simpa using hk) (by simp [slotOf, HY.out]) (by simp [slotOf, HB.out]) H.out.ar).mono ?_
        rintro e w1 ⟨rfl, b1⟩
        have B1 := Lib.hid b1
        have d2 : w1.cell? ⟨b, 2, none⟩ = some (.string tg) := by have := ((H.out.below b1).nd hk).c2; rwa [HB.out, HTG.out] at this
        clear b1
        go_wp2_with fail
        refine (P3.ntext_at t w1 HM.out ht).mono ?_
        rintro e w' ⟨rfl, rfl⟩
        go_wp2_with fail
        go_ret
        rw [HD.out]
        exact Made.same H.out B1.out rfl rfl
      | true =>
        have HD : Hid (dataD x.d i t = (0, { x.d with l := upd x.d.l i (withTxt t) })) := Lib.hid (by unfold dataD; rw [if_neg (by rw [hl, hh]; simp), if_neg (by rw [hl, htag]; simpa using he1), if_neg (by simp [hm])])
        have HM := Lib.hid hm
        clear h hh hy hu hb htag htg he hl hm
        go_enter Try.func57, Try.ntmps57
        go_wp2_with fail
        refine (getP_at i k (x := b) w (l := x.rs.map slotOf) (by simpa using hk) (by simp [slotOf, HY.out]) (by simp [slotOf, HB.out]) H.out.ar).mono ?_
        rintro e w1 ⟨rfl, b1⟩
        have B1 := Lib.hid b1
        have H1 := Lib.hid (H.out.below b1)
        have d2 : w1.cell? ⟨b, 2, none⟩ = some (.string tg) := by have := (H1.out.nd hk).c2; rwa [HB.out, HTG.out] at this
        have d3 : w1.cell? ⟨b, 3, none⟩ = some (.string x.rs[k].nd.txt) := by have := (H1.out.nd hk).c3; rwa [HB.out] at this
        have g3 : w1.frozen? ⟨b, 3, none⟩ = false := by have := (H1.out.nd hk).frozen 3; rwa [HB.out] at this
        clear b1
        go_wp2_with fail
        refine (P3.ntext_at t w1 HM.out ht).mono ?_
        rintro e w' ⟨rfl, rfl⟩
        go_wp2_with fail
        go_ret
        rw [HD.out]
        have hd := H1.out.cell_ hk (r := ⟨x.rs[k].b, x.rs[k].va, x.rs[k].vk, withTxt t x.rs[k].nd⟩) rfl rfl rfl rfl (H1.out.nd hk).att (i := 3) (u := .string t) rfl
        rw [HB.out] at hd
        exact ⟨rfl, _, (Did.below_ H.out B1.out).trans hd, HU.out (withTxt t) _ rfl⟩

end Go.Proofs.Ytkagaobelhpojaa.P5
