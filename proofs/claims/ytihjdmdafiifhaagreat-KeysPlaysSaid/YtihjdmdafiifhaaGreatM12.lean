/- An error's number, as a value. No condition. -/
import Derived.Test.YtihjdmdafiifhaaGreatM1
import Derived.Test.YtihjdmdafiifhaaGreatM11
set_option linter.unusedVariables false
set_option linter.unusedSimpArgs false
set_option linter.unusedVariables false
set_option linter.unusedSimpArgs false
namespace Go.Proofs.YtihjdmdafiifhaaGreat.P5
open Go.RowKit Kd

/-- an error's number, as a value -/
def errV (c : Int) : Value := if c = 0 then .nilIface else .iface 97 (.int .i64 c)
end Go.Proofs.YtihjdmdafiifhaaGreat.P5

/- A document's own block, its slots, its identities turned: what it is then. No condition. -/
set_option linter.unusedVariables false
set_option linter.unusedSimpArgs false
namespace Go.Proofs.YtihjdmdafiifhaaGreat.P5
open Go.RowKit Kd P4
variable {B p : Nat} {x : Dx}

theorem Dc.re {w w' : World} (h : Dc w B p x) {v' vi' : Value} {n' foc' : Int} {rs' : List Rw}
    (hb : But (fun g => g = p ∨ Arm x.a x.v g ∨ x.vi.ownBlock = some g) w w')
    (blk : w'.heap[p]? = some (.cells #[.pointer (some ⟨x.a, 0, none⟩), vi', .int .i64 foc'] 90 (0, 0)))
    (ar : ArP w' B x.a x.R n' v' (rs'.map slotOf)) (ids : kI.Own w' B vi' (idsOf (rs'.map (·.nd))))
    (hv : ∀ g, v'.ownBlock = some g → x.v.ownBlock = some g ∨ w.heap.size ≤ g) (hvi : ∀ g, vi'.ownBlock = some g → x.vi.ownBlock = some g ∨ w.heap.size ≤ g)
    (nodes : ∀ r ∈ rs', r ∈ x.rs ∨ NdAt w' B r ∧ w.heap.size ≤ r.b ∧ (∀ g, r.vk.val.ownBlock = some g → w.heap.size ≤ g) ∧ Apart vi' r.vk.val)
    (pw : rs'.Pairwise fun r s => r.b ≠ s.b ∧ Apart r.vk.val s.vk.val) : Did w B p x ⟨x.a, v', vi', x.R, n', foc', rs'⟩ w' := by
  have hS : ∀ g, (g = p ∨ Arm x.a x.v g ∨ x.vi.ownBlock = some g) → foot p x g := by
    rintro g (e | (e | e) | e)
    · exact .inl e
    · exact .inr (.inl e)
    · exact .inr (.inr (.inl e))
    · exact .inr (.inr (.inr (.inl e)))
  have hnA : NoA w (fun g => g = p ∨ Arm x.a x.v g ∨ x.vi.ownBlock = some g) := fun g c f hg => h.noA g c f (hS g hg)
  have kb : ∀ r ∈ x.rs, w'.heap[r.b]? = w.heap[r.b]? := by
    intro r hr
    have hn := h.nodes r hr
    refine hb.block _ hn.lt ?_
    rintro (e | e | e)
    · exact heap_ne hn.blk (e ▸ h.blk) (by decide) rfl
    · exact h.ar.other hn.blk (by decide) (by decide) e
    · obtain ⟨d, hd⟩ := h.ids.ty e
      exact heap_ne hn.blk hd (by decide) rfl
  have kk : ∀ r ∈ x.rs, ∀ g, r.vk.val.ownBlock = some g → w'.heap[g]? = w.heap[g]? := by
    intro r hr g hg
    have hn := h.nodes r hr
    obtain ⟨c, hc⟩ := hn.kids.ty hg
    refine hb.block _ (heap_lt hc) ?_
    rintro (e | e | e)
    · exact heap_ne hc (e ▸ h.blk) (by decide) rfl
    · exact h.ar.other hc (by decide) (by decide) e
    · exact h.apV r hr g e hg
  refine ⟨⟨blk, h.base, ar, ids, fun r hr => ?_, fun r hr => ?_, pw⟩, hb.mono fun g _ hg => hS g hg, fun g hg => ?_⟩
  · rcases nodes r hr with h1 | h1
    · exact (h.nodes r h1).keep (kb r h1) (kk r h1) ((h.nodes r h1).att.but hb hnA)
    · exact h1.1
  · rcases nodes r hr with h1 | h1
    · intro g hg e
      rcases hvi g hg with e2 | e2
      · exact h.apV r h1 g e2 e
      · have := ((h.nodes r h1).kids.lt e).2; omega
    · exact h1.2.2.2
  · rcases hg with e | e | e | e | ⟨r, hr, e⟩
    · exact .inl (.inl e)
    · exact .inl (.inr (.inl e))
    · rcases hv g e with e2 | e2
      · exact .inl (.inr (.inr (.inl e2)))
      · exact .inr e2
    · rcases hvi g e with e2 | e2
      · exact .inl (.inr (.inr (.inr (.inl e2))))
      · exact .inr e2
    · rcases nodes r hr with h1 | h1
      · exact .inl (.inr (.inr (.inr (.inr ⟨r, h1, e⟩))))
      · rcases e with e | e
        · exact .inr (by rw [e]; exact h1.2.1)
        · exact .inr (h1.2.2.1 g e)
theorem idsl (x : Dx) : idsOf (x.rs.map (·.nd)) = idsOf x.l := rfl
/-- the focus is another -/
theorem Dc.focus_ {w : World} (h : Dc w B p x) (i : Int) : Did w B p x { x with foc := i } (w.setCell ⟨p, 2, none⟩ (.int .i64 i)) := by
  have hb : But (fun g => g = p ∨ Arm x.a x.v g ∨ x.vi.ownBlock = some g) w (w.setCell ⟨p, 2, none⟩ (.int .i64 i)) := But.setCell (But.refl _ _) (fun _ => .inl rfl) _
  refine h.re (v' := x.v) (vi' := x.vi) (n' := x.n) (foc' := i) (rs' := x.rs) hb (heap_set h.blk 2 _) ?_ ?_ (fun g hg => .inl hg) (fun g hg => .inl hg) (fun r hr => .inl hr) h.pw
  · refine h.ar.keep (Below.heap_setCell _ _ _ _ (heap_ne h.ar.blk h.blk (by decide))) (fun g hg => Below.heap_setCell _ _ _ _ ?_)
    rintro rfl
    obtain ⟨d, hd⟩ := h.ar.own.ty hg
    exact heap_ne hd h.blk (by decide) rfl
  · refine h.ids.keep (fun g hg => Below.heap_setCell _ _ _ _ ?_)
    rintro rfl
    obtain ⟨d, hd⟩ := h.ids.ty hg
    exact heap_ne hd h.blk (by decide) rfl
theorem own_not {w : World} {C g : Nat} {v : Value} {l : List Int} {cur : Array Value} {t : TypeId} {fr : Nat × Nat} (h : kI.Own w C v l) (hg : w.heap[g]? = some (.cells cur t fr)) (ht : t ≠ 3) : some g ≠ v.ownBlock := fun e => by
  obtain ⟨d, hd⟩ := h.ty e.symm
  exact heap_ne hg hd ht rfl
/-- a call's post: it has answered r; the document is d then -/
def Made (w : World) (B p : Nat) (x : Dx) (r : Value) (d : D) (e : Ending) (w' : World) : Prop := e = .returned r ∧ ∃ x', Did w B p x x' w' ∧ x'.d = d
theorem Made.same {w w' : World} {r r' : Value} {d : D} (h : Dc w B p x) (hb : Below w.heap.size w w') (hr : r = r') (hd : x.d = d) : Made w B p x r' d (.returned r) w' := ⟨by rw [hr], x, Did.below_ h hb, hd⟩
end Go.Proofs.YtihjdmdafiifhaaGreat.P5

/- What SetFocus, Note, setText, setAttrs answer and leave; whether one is inside another; a node that leaves. -/
set_option linter.unusedVariables false
set_option linter.unusedSimpArgs false
namespace Go.Proofs.YtihjdmdafiifhaaGreat.P5
open Go.RowKit Kd P4
variable {B p : Nat} {x : Dx}

theorem place_upd {w : World} {i : Int} (h : Dc w B p x) (hh : hasL x.l i = true) : ∃ k, ∃ hk : k < x.rs.length, x.rs[k].nd.id = i ∧ ∀ (f : Nd → Nd) (r : Rw), r.nd = f x.rs[k].nd → (x.put k r).d = { x.d with l := upd x.d.l i f } := by
  obtain ⟨k, hk, hy, _⟩ := h.place hh
  refine ⟨k, hk, hy, fun f r hr => ?_⟩
  have := put_l h hk hr
  rw [hy] at this
  show D.mk (x.put k r).l _ _ _ = D.mk _ _ _ _
  rw [this]
  rfl
theorem tag_at {w : World} {k : Nat} {i : Int} (h : Dc w B p x) (hk : k < x.rs.length) (hy : x.rs[k].nd.id = i) : tagOf x.l i = x.rs[k].nd.tag ∧ parOf x.l i = x.rs[k].nd.par ∧ kidsOf x.l i = x.rs[k].nd.kids := by
  have hm : x.rs[k].nd ∈ x.l := List.mem_map.2 ⟨x.rs[k], List.getElem_mem hk, rfl⟩
  have hf := h.asc.find hm
  rw [hy] at hf
  unfold tagOf parOf kidsOf
  rw [hf]
  exact ⟨rfl, rfl, rfl⟩

theorem setText_any (i : Int) (t : ByteArray) (w : World) (ht : t.size ≤ maxLen) (h : Dc w B p x) : Calls Tryz.prog 31 #[.pointer (some ⟨p, 0, none⟩), .int .i64 i, .string t] w (Made w B p x (errV (dataD x.d i t).1) (dataD x.d i t).2) := by
  have H := Lib.hid h
  have c0 := h.c0
  cases hh : hasL x.l i with
  | false =>
    have HH := Lib.hid hh
    have HD : Hid (dataD x.d i t = (2, x.d)) := Lib.hid (by unfold dataD; rw [if_pos (show hasL x.d.l i = false from hh)])
    clear h hh
    go_enter Tryz.func31, Tryz.ntmps31
    go_wp2_with fail
    refine (getP_no i w (by rw [H.out.has_slot]; exact HH.out) H.out.ar).mono ?_
    rintro e w1 ⟨rfl, b1⟩
    have B1 := Lib.hid b1
    clear b1
    go_wp2_with fail
    go_ret
    rw [HD.out]
    exact Made.same H.out B1.out rfl rfl
  | true =>
    obtain ⟨k, hk, hy, hu⟩ := place_upd h hh
    have htag := (tag_at h hk hy).1
    obtain ⟨tg, htg⟩ : ∃ tg, x.rs[k].nd.tag = tg := ⟨_, rfl⟩
    rw [htg] at htag
    have HY := Lib.hid hy
    have HU := Lib.hid hu
    have HTG := Lib.hid htg
    obtain ⟨b, hb⟩ : ∃ b, x.rs[k].b = b := ⟨_, rfl⟩
    have HB := Lib.hid hb
    have hl : x.d.l = x.l := rfl
    cases he : tg.toList.isEmpty with
    | false =>
      have he1 : ¬ tg.toList = [] := by rw [← List.isEmpty_iff]; simp [he]
      have hq : tg.toList.isEmpty = false := he
      have HD : Hid (dataD x.d i t = (3, x.d)) := Lib.hid (by unfold dataD; rw [if_neg (by rw [hl, hh]; simp), if_pos (by rw [hl, htag]; exact he1)])
      clear h hh hy hu hb htag htg he hl
      go_enter Tryz.func31, Tryz.ntmps31
      go_wp2_with fail
      refine (getP_at i k (x := b) w (l := x.rs.map slotOf) (by simpa using hk) (by simp [slotOf, HY.out]) (by simp [slotOf, HB.out]) H.out.ar).mono ?_
      rintro e w1 ⟨rfl, b1⟩
      have B1 := Lib.hid b1
      have d2 : w1.cell? ⟨b, 2, none⟩ = some (.string tg) := by have := ((H.out.below b1).nd hk).c2; rwa [HB.out, HTG.out] at this
      clear b1
      go_wp2_with fail
      go_ret
      rw [HD.out]
      exact Made.same H.out B1.out rfl rfl
    | true =>
      have he1 : tg.toList = [] := by rw [← List.isEmpty_iff]; exact he
      have HE := Lib.hid he1
      have hq : tg.toList.isEmpty = true := he
      cases hm : P1.textB t.data.toList with
      | false =>
        have HD : Hid (dataD x.d i t = (1, x.d)) := Lib.hid (by unfold dataD; rw [if_neg (by rw [hl, hh]; simp), if_neg (by rw [hl, htag]; simpa using he1), if_pos hm])
        have HM := Lib.hid hm
        clear h hh hy hu hb htag htg he hl hm
        go_enter Tryz.func31, Tryz.ntmps31
        go_wp2_with fail
        refine (getP_at i k (x := b) w (l := x.rs.map slotOf) (by simpa using hk) (by simp [slotOf, HY.out]) (by simp [slotOf, HB.out]) H.out.ar).mono ?_
        rintro e w1 ⟨rfl, b1⟩
        have B1 := Lib.hid b1
        have d2 : w1.cell? ⟨b, 2, none⟩ = some (.string tg) := by have := ((H.out.below b1).nd hk).c2; rwa [HB.out, HTG.out] at this
        clear b1
        go_wp2_with fail
        refine (P3.ntext_at t w1 HM.out ht).mono ?_
        rintro e w' ⟨rfl, rfl⟩
        go_wp2_with fail
        go_ret
        rw [HD.out]
        exact Made.same H.out B1.out rfl rfl
      | true =>
        have HD : Hid (dataD x.d i t = (0, { x.d with l := upd x.d.l i (withTxt t) })) := Lib.hid (by unfold dataD; rw [if_neg (by rw [hl, hh]; simp), if_neg (by rw [hl, htag]; simpa using he1), if_neg (by simp [hm])])
        have HM := Lib.hid hm
        clear h hh hy hu hb htag htg he hl hm
        go_enter Tryz.func31, Tryz.ntmps31
        go_wp2_with fail
        refine (getP_at i k (x := b) w (l := x.rs.map slotOf) (by simpa using hk) (by simp [slotOf, HY.out]) (by simp [slotOf, HB.out]) H.out.ar).mono ?_
        rintro e w1 ⟨rfl, b1⟩
        have B1 := Lib.hid b1
        have H1 := Lib.hid (H.out.below b1)
        have d2 : w1.cell? ⟨b, 2, none⟩ = some (.string tg) := by have := (H1.out.nd hk).c2; rwa [HB.out, HTG.out] at this
        have d3 : w1.cell? ⟨b, 3, none⟩ = some (.string x.rs[k].nd.txt) := by have := (H1.out.nd hk).c3; rwa [HB.out] at this
        have g3 : w1.frozen? ⟨b, 3, none⟩ = false := by have := (H1.out.nd hk).frozen 3; rwa [HB.out] at this
        clear b1
        go_wp2_with fail
        refine (P3.ntext_at t w1 HM.out ht).mono ?_
        rintro e w' ⟨rfl, rfl⟩
        go_wp2_with fail
        go_ret
        rw [HD.out]
        have hd := H1.out.cell_ hk (r := ⟨x.rs[k].b, x.rs[k].va, x.rs[k].vk, withTxt t x.rs[k].nd⟩) rfl rfl rfl rfl (H1.out.nd hk).att (i := 3) (u := .string t) rfl
        rw [HB.out] at hd
        exact ⟨rfl, _, (Did.below_ H.out B1.out).trans hd, HU.out (withTxt t) _ rfl⟩

end Go.Proofs.YtihjdmdafiifhaaGreat.P5

/- What setAttrs answers and leaves; whether one is inside another; a node that leaves. -/
set_option linter.unusedVariables false
set_option linter.unusedSimpArgs false
namespace Go.Proofs.YtihjdmdafiifhaaGreat.P5
open Go.RowKit Kd P4
variable {B p : Nat} {x : Dx}

/-- attributes that are handed in -/
structure ArgA (w : World) (A : Option Addr) (n c : Nat) (l : List P3.At) : Prop where
  len : l.length = n
  cap : n ≤ c
  nil : A = none → c = 0
  few : n ≤ 1000000
  wf : P3.Wf l
  holds : kA.Holds w w.heap.size A l
theorem ArgA.below {w w' : World} {A : Option Addr} {n c : Nat} {l : List P3.At} (h : ArgA w A n c l) (hb : Below w.heap.size w w') : ArgA w' A n c l := ⟨h.len, h.cap, h.nil, h.few, h.wf, h.holds.on hb⟩

theorem may_at (l : List P3.At) (A : Option Addr) (n c : Nat) {r : Bool} (w : World) (hr : P3.mayA l = r) (h : ArgA w A n c l) :
    Calls Tryz.prog 55 #[.slice A n c] w fun e w' => e = .returned (.bool r) ∧ Below w.heap.size w w' := by
  subst hr
  exact P3.may_any l A n c w h.len h.few h.cap h.wf (p3holds h.holds)
set_option maxHeartbeats 1000000 in
theorem setAttrs_any (i : Int) (A : Option Addr) (n c : Nat) (l : List P3.At) (w : World) (hl : ArgA w A n c l) (h : Dc w B p x) : Calls Tryz.prog 30 #[.pointer (some ⟨p, 0, none⟩), .int .i64 i, .slice A n c] w (Made w B p x (errV (attrsD x.d i l).1) (attrsD x.d i l).2) := by
  have H := Lib.hid h
  have HL := Lib.hid hl
  have c0 := h.c0
  clear hl
  cases hh : hasL x.l i with
  | false =>
    have HH := Lib.hid hh
    have HD : Hid (attrsD x.d i l = (2, x.d)) := Lib.hid (by unfold attrsD; rw [if_pos (show hasL x.d.l i = false from hh)])
    clear h hh
    go_enter Tryz.func30, Tryz.ntmps30
    go_wp2_with fail
    refine (getP_no i w (by rw [H.out.has_slot]; exact HH.out) H.out.ar).mono ?_
    rintro e w1 ⟨rfl, b1⟩
    have B1 := Lib.hid b1
    clear b1
    go_wp2_with fail
    go_ret
    rw [HD.out]
    exact Made.same H.out B1.out rfl rfl
  | true =>
    obtain ⟨k, hk, hy, hu⟩ := place_upd h hh
    have htag := (tag_at h hk hy).1
    obtain ⟨tg, htg⟩ : ∃ tg, x.rs[k].nd.tag = tg := ⟨_, rfl⟩
    rw [htg] at htag
    have HY := Lib.hid hy
    have HU := Lib.hid hu
    have HTG := Lib.hid htg
    obtain ⟨b, hb⟩ : ∃ b, x.rs[k].b = b := ⟨_, rfl⟩
    have HB := Lib.hid hb
    have hl : x.d.l = x.l := rfl
    cases he : tg.toList.isEmpty with
    | true =>
      have he1 : tg.toList = [] := by rw [← List.isEmpty_iff]; exact he
      have hq : tg.toList.isEmpty = true := he
      have HD : Hid (attrsD x.d i l = (3, x.d)) := Lib.hid (by unfold attrsD; rw [if_neg (by rw [hl, hh]; simp), if_pos (by rw [hl, htag]; exact he1)])
      clear h hh hy hu hb htag htg he hl he1
      go_enter Tryz.func30, Tryz.ntmps30
      go_wp2_with fail
      refine (getP_at i k (x := b) w (l := x.rs.map slotOf) (by simpa using hk) (by simp [slotOf, HY.out]) (by simp [slotOf, HB.out]) H.out.ar).mono ?_
      rintro e w1 ⟨rfl, b1⟩
      have B1 := Lib.hid b1
      have H1 := Lib.hid (H.out.below b1)
      have d2 : w1.cell? ⟨b, 2, none⟩ = some (.string tg) := by have := (H1.out.nd hk).c2; rwa [HB.out, HTG.out] at this
      clear b1
      go_wp2_with fail
      go_ret
      rw [HD.out]
      exact Made.same H.out B1.out rfl rfl
    | false =>
      have he1 : ¬ tg.toList = [] := by rw [← List.isEmpty_iff]; simp [he]
      have hq : tg.toList.isEmpty = false := he
      cases hm : P3.mayA l with
      | false =>
        have HD : Hid (attrsD x.d i l = (1, x.d)) := Lib.hid (by unfold attrsD; rw [if_neg (by rw [hl, hh]; simp), if_neg (by rw [hl, htag]; exact he1), if_pos hm])
        have HM := Lib.hid hm
        clear h hh hy hu hb htag htg he hl hm he1
        go_enter Tryz.func30, Tryz.ntmps30
        go_wp2_with fail
        refine (getP_at i k (x := b) w (l := x.rs.map slotOf) (by simpa using hk) (by simp [slotOf, HY.out]) (by simp [slotOf, HB.out]) H.out.ar).mono ?_
        rintro e w1 ⟨rfl, b1⟩
        have B1 := Lib.hid b1
        have H1 := Lib.hid (H.out.below b1)
        have d2 : w1.cell? ⟨b, 2, none⟩ = some (.string tg) := by have := (H1.out.nd hk).c2; rwa [HB.out, HTG.out] at this
        have HL1 := Lib.hid (HL.out.below b1)
        clear b1
        go_wp2_with fail
        refine (may_at l A n c w1 HM.out HL1.out).mono ?_
        rintro e w2 ⟨rfl, b2⟩
        have B2 := Lib.hid (B1.out.trans (b2.mono B1.out.size))
        clear b2
        go_wp2_with fail
        go_ret
        rw [HD.out]
        exact Made.same H.out B2.out rfl rfl
      | true =>
        have HD : Hid (attrsD x.d i l = (0, { x.d with l := upd x.d.l i (withAttrs l) })) := Lib.hid (by unfold attrsD; rw [if_neg (by rw [hl, hh]; simp), if_neg (by rw [hl, htag]; exact he1), if_neg (by simp [hm])])
        have HM := Lib.hid hm
        clear h hh hy hu hb htag htg he hl hm he1
        go_enter Tryz.func30, Tryz.ntmps30
        go_wp2_with fail
        refine (getP_at i k (x := b) w (l := x.rs.map slotOf) (by simpa using hk) (by simp [slotOf, HY.out]) (by simp [slotOf, HB.out]) H.out.ar).mono ?_
        rintro e w1 ⟨rfl, b1⟩
        have B1 := Lib.hid b1
        have H1 := Lib.hid (H.out.below b1)
        have d2 : w1.cell? ⟨b, 2, none⟩ = some (.string tg) := by have := (H1.out.nd hk).c2; rwa [HB.out, HTG.out] at this
        have HL1 := Lib.hid (HL.out.below b1)
        clear b1
        go_wp2_with fail
        refine (may_at l A n c w1 HM.out HL1.out).mono ?_
        rintro e w2 ⟨rfl, b2⟩
        have B2 := Lib.hid (B1.out.trans (b2.mono B1.out.size))
        have HL2 := Lib.hid (HL1.out.below b2)
        have H2 := Lib.hid (H1.out.below b2)
        clear b2 d2
        go_wp2_with fail
        refine (cloneAt_any l A n c w2 HL2.out.len HL2.out.few (fun e => by have := HL2.out.nil e; have := HL2.out.cap; omega) HL2.out.holds).mono ?_
        rintro e w3 ⟨A3, n3, c3, rfl, o3, b3⟩
        have B3 := Lib.hid (B2.out.trans (b3.mono B2.out.size))
        have H3 := Lib.hid (H2.out.below b3)
        have O3 := Lib.hid o3
        have d5 : w3.cell? ⟨b, 5, none⟩ = some x.rs[k].va.val := by have := (H3.out.nd hk).c5; rwa [HB.out] at this
        have g5 : w3.frozen? ⟨b, 5, none⟩ = false := by have := (H3.out.nd hk).frozen 5; rwa [HB.out] at this
        clear b3 o3
        go_wp2_with fail
        go_ret
        rw [HD.out]
        obtain ⟨⟨sA, sn, sc⟩, hs, ha⟩ := AOk.own O3.out
        simp only [Sv.val, Value.slice.injEq] at hs
        obtain ⟨rfl, rfl, rfl⟩ := hs
        have hd := H3.out.cell_ hk (r := ⟨x.rs[k].b, ⟨A3, n3, c3⟩, x.rs[k].vk, withAttrs l x.rs[k].nd⟩) rfl rfl rfl rfl ha (i := 5) (u := .slice A3 n3 c3) rfl
        rw [HB.out] at hd
        exact ⟨rfl, _, (Did.below_ H.out B3.out).trans hd, HU.out (withAttrs l) _ rfl⟩

/-! ### inside -/
open Classical in
noncomputable def depOf (P : Int → Int) (y : Int) : Nat := if h : ∃ k, Dep P y k then Classical.choose h else 0
theorem dep_uniq {P : Int → Int} {y : Int} {i j : Nat} (hi : Dep P y i) (hj : Dep P y j) : i = j := by
  rcases Nat.lt_trichotomy i j with h | h | h
  · exact absurd hi.1 (hj.2 i h)
  · exact h
  · exact absurd hj.1 (hi.2 j h)
theorem depOf_is {P : Int → Int} {y : Int} {k : Nat} (h : Dep P y k) : depOf P y = k := by
  have hx : ∃ k, Dep P y k := ⟨k, h⟩
  unfold depOf
  rw [dif_pos hx]
  exact dep_uniq (Classical.choose_spec hx) h
theorem depOf_lt {l : List Nd} (h : Tr (fun y => hasL l y = true) (parOf l) (kidsOf l)) {y : Int} (hy : y ≠ 0) : depOf (parOf l) (parOf l y) < depOf (parOf l) y := by
  obtain ⟨k, hk⟩ := h.dep y
  rw [depOf_is hk]
  cases k with
  | zero => exact absurd hk.1 hy
  | succ k =>
    have : Dep (parOf l) (parOf l y) k := ⟨hk.1, fun i hi => hk.2 (i + 1) (by omega)⟩
    rw [depOf_is this]
    omega
theorem inside_yes {l : List Nd} (h : Tr (fun y => hasL l y = true) (parOf l) (kidsOf l)) {a b : Int} {j : Nat} (ha : hasL l a = true) (hb : b ≠ 0) (hj : it (parOf l) j a = b) : inside l a b = true := by
  obtain ⟨k, hk⟩ := h.dep a
  have hkl := h.dep_le (L := idsOf l) (fun y hy => has_ids.1 hy) ha hk
  have hjk : j < k := by
    rcases Nat.lt_or_ge j k with hlt | hge
    · exact hlt
    · exact absurd (hj.symm.trans (h.it_ge hk.1 hge)) hb
  unfold inside aboveL
  rw [decide_eq_true_iff, ← hj]
  simp only [idsOf, List.length_map] at hkl
  exact h.it_up _ a k j ha hk hjk (by omega)
theorem inside_no {l : List Nd} (h : Tr (fun y => hasL l y = true) (parOf l) (kidsOf l)) {a b : Int} {j : Nat} (hj : it (parOf l) j a = 0) (hn : ∀ m, m < j → it (parOf l) m a ≠ b) : inside l a b = false := by
  unfold inside aboveL
  rw [decide_eq_false_iff_not]
  intro hm
  obtain ⟨m, hm1, hm2⟩ := up_it _ _ _ hm
  rcases Nat.lt_or_ge m j with hlt | hge
  · exact hn m hlt hm1
  · rw [h.it_ge hj hge] at hm1
    subst hm1
    exact h.z hm2
set_option maxHeartbeats 1000000 in
theorem inside_any (a b : Int) (w : World) (hwf : WF x.d) (ha : hasL x.l a = true) (hb : hasL x.l b = true) (h : Dc w B p x) : Calls Tryz.prog 51 #[.pointer (some ⟨p, 0, none⟩), .int .i64 a, .int .i64 b] w fun e w' => e = .returned (.bool (inside x.l a b)) ∧ Below w.heap.size w w' := by
  have H := Lib.hid h
  have HT : Hid (Tr (fun y => hasL x.l y = true) (parOf x.l) (kidsOf x.l)) := Lib.hid hwf.tr
  have HA := Lib.hid ha
  have hb0 : 1 ≤ b := (hwf.pos hb).1
  clear h hwf ha hb
  go_enter Tryz.func51, Tryz.ntmps51
  go_wp2_with fail
  go_loopw [1] (fun i wr => ∃ (cur : Int) (j : Nat), i = .int .i64 cur ∧ Hid (it (parOf x.l) j a = cur) ∧ Hid (∀ m, m < j → it (parOf x.l) m a ≠ b) ∧ Hid (Below w.heap.size w wr)) (fun i _ => depOf (parOf x.l) (intOf i))
  case atStart => exact ⟨a, 0, rfl, Lib.hid rfl, Lib.hid (fun m hm => absurd hm (by omega)), Lib.hid (Below.refl _ _)⟩
  case round =>
    obtain ⟨cur, j, rfl, HC, HN, HB⟩ := hrel
    by_cases h0 : cur = 0
    · subst h0
      have hq : ((0 : Int) == b) = false := beq_eq_false_iff_ne.2 (by omega)
      go_wp2_with fail
      go_ret
      exact ⟨ret_bool (inside_no HT.out HC.out HN.out).symm, HB.out⟩
    · have hq0 : (cur != 0) = true := by simpa using h0
      by_cases h1 : cur = b
      · have hq1 : (cur != b) = false := by simpa using h1
        have hq2 : (cur == b) = true := by simpa using h1
        have HI : Hid (inside x.l a b = true) := Lib.hid (inside_yes HT.out HA.out (by omega) (HC.out.trans h1))
        clear h1 h0
        go_wp2_with fail
        go_ret
        exact ⟨ret_bool HI.out.symm, HB.out⟩
      · have hq1 : (cur != b) = true := by simpa using h1
        have hhas : hasL x.l cur = true := by
          have hi := HC.out
          have := HT.out.h_it HA.out j (by rw [hi]; exact h0)
          rwa [hi] at this
        have H1 := Lib.hid (H.out.below HB.out)
        obtain ⟨k, hk, hy, _⟩ := H1.out.place hhas
        obtain ⟨nb, hnb⟩ : ∃ nb, x.rs[k].b = nb := ⟨_, rfl⟩
        have HY := Lib.hid hy
        have HNB := Lib.hid hnb
        have hz : w.heap.size ≤ wr.heap.size := HB.out.size
        have H0 := Lib.hid h0
        have HNE := Lib.hid h1
        clear hy hnb hhas h0 h1
        go_wp2_with fail
        refine (node_at cur _ hk HY.out HNB.out H1.out).mono ?_
        rintro e w2 ⟨rfl, b2⟩
        have B2 := Lib.hid (HB.out.trans (b2.mono HB.out.size))
        have d1 : w2.cell? ⟨nb, 1, none⟩ = some (.int .i64 (parOf x.l cur)) := by
          have h2 := H1.out.below b2
          have := (h2.nd hk).c1
          rw [HNB.out] at this
          rw [(tag_at h2 hk HY.out).2.1]
          exact this
        clear b2
        go_wp2_with fail
        go_roundw
        case rel =>
          refine ⟨_, j + 1, rfl, Lib.hid (by rw [it_succ, HC.out]), Lib.hid (fun m hm => ?_), B2⟩
          by_cases e : m = j
          · subst e; rw [HC.out]; exact HNE.out
          · exact HN.out m (by omega)
        case measure => exact depOf_lt HT.out H0.out
end Go.Proofs.YtihjdmdafiifhaaGreat.P5

/- A node that leaves; a node that is put, or the error. -/
set_option linter.unusedVariables false
set_option linter.unusedSimpArgs false
namespace Go.Proofs.YtihjdmdafiifhaaGreat.P5
open Go.RowKit Kd P4
variable {B p : Nat} {x : Dx}

theorem put_slots {k : Nat} (hk : k < x.rs.length) {r : Rw} (hb : r.b = x.rs[k].b) (hid : r.nd.id = x.rs[k].nd.id) : (x.put k r).rs.map slotOf = x.rs.map slotOf := by
  show (x.rs.set k r).map slotOf = x.rs.map slotOf
  apply List.ext_getElem
  · simp
  · intro j h1 h2
    simp only [List.getElem_map, List.getElem_set]
    split
    · rename_i e; subst e; simp [slotOf, hb, hid]
    · rfl
theorem put_other {k m : Nat} (hk : k < x.rs.length) {r : Rw} (hne : m ≠ k) : ∃ h1 : k < (x.put m r).rs.length, (x.put m r).rs[k] = x.rs[k] := by
  refine ⟨by show k < (x.rs.set m r).length; simpa using hk, ?_⟩
  show (x.rs.set m r)[k]'(by simpa using hk) = x.rs[k]
  exact List.getElem_set_ne hne _
/-- one's slots stand as before: so does each one's block -/
theorem slots_at {rs rs' : List Rw} (h : rs'.map slotOf = rs.map slotOf) {k : Nat} (hk : k < rs.length) : ∃ h1 : k < rs'.length, rs'[k].nd.id = rs[k].nd.id ∧ rs'[k].b = rs[k].b := by
  have hl : rs'.length = rs.length := by simpa using congrArg List.length h
  have h1 : k < rs'.length := by omega
  refine ⟨h1, ?_⟩
  have e := congrArg (fun l => l[k]?) h
  simp only [List.getElem?_map, List.getElem?_eq_getElem hk, List.getElem?_eq_getElem h1, Option.map_some, Option.some.injEq] at e
  unfold slotOf at e
  injection e with e1 e2
  exact ⟨e1, e2⟩

def Left (w : World) (B p : Nat) (x : Dx) (i : Int) (e : Ending) (w' : World) : Prop :=
  e = .returned (.tuple #[]) ∧ ∃ rs' : List Rw, Did w B p x { x with rs := rs' } w' ∧ rs'.map (·.nd) = leaveL x.l i ∧ rs'.map slotOf = x.rs.map slotOf
theorem leave_end {w2 w3 : World} {i q : Int} {k m : Nat} (H2 : Dc w2 B p x) (hk : k < x.rs.length) (hm : m < x.rs.length) (hne : m ≠ k) (hy : x.rs[k].nd.id = i) (hym : x.rs[m].nd.id = q)
    (hE : leaveL x.l i = upd (upd x.l q (withKids (less i))) i (withPar 0)) {A3 : Option Addr} {n3 c3 : Nat} (hb : But (fun g => x.rs[m].vk.val.ownBlock = some g) w2 w3) (ho : kI.Own w3 B (.slice A3 n3 c3) (less i x.rs[m].nd.kids))
    (hat : (Value.slice A3 n3 c3).ownBlock = x.rs[m].vk.val.ownBlock) :
    ∃ rs' : List Rw, Did w2 B p x { x with rs := rs' } ((w3.setCell ⟨x.rs[m].b, 6, none⟩ (.slice A3 n3 c3)).setCell ⟨x.rs[k].b, 1, none⟩ (.int .i64 0)) ∧ rs'.map (·.nd) = leaveL x.l i ∧ rs'.map slotOf = x.rs.map slotOf := by
  obtain ⟨r1, hr1⟩ : ∃ r1 : Rw, r1 = ⟨x.rs[m].b, x.rs[m].va, ⟨A3, n3, c3⟩, withKids (less i) x.rs[m].nd⟩ := ⟨_, rfl⟩
  have hd := H2.kids_ hm (r := r1) (f := less i) (w' := w3) (by rw [hr1]) (by rw [hr1]) (by rw [hr1]) hb (by rw [hr1]; exact ho) (fun g hg => .inl (by rw [hr1] at hg; rw [← hat]; exact hg))
  obtain ⟨hk1, ek1⟩ := put_other (x := x) hk (r := r1) hne
  have hv : r1.vk.val = .slice A3 n3 c3 := by rw [hr1]; rfl
  rw [hv] at hd
  have e2 := put_l H2 hm (r := r1) (f := withKids (less i)) (by rw [hr1])
  rw [hym] at e2
  have hs := put_slots (x := x) hm (r := r1) (by rw [hr1]) (by rw [hr1]; rfl)
  obtain ⟨y, hyx⟩ : ∃ y, y = x.put m r1 := ⟨_, rfl⟩
  rw [← hyx] at hd e2 hs
  obtain ⟨hk2, ek2⟩ : ∃ h : k < y.rs.length, y.rs[k] = x.rs[k] := by subst hyx; exact ⟨hk1, ek1⟩
  have hd2 := hd.dc.cell_ hk2 (r := ⟨y.rs[k].b, y.rs[k].va, y.rs[k].vk, withPar 0 y.rs[k].nd⟩) rfl rfl rfl rfl (hd.dc.nd hk2).att (i := 1) (u := .int .i64 0) rfl
  have e1 := put_l hd.dc hk2 (r := ⟨y.rs[k].b, y.rs[k].va, y.rs[k].vk, withPar 0 y.rs[k].nd⟩) (f := withPar 0) rfl
  have hs2 := put_slots (x := y) hk2 (r := ⟨y.rs[k].b, y.rs[k].va, y.rs[k].vk, withPar 0 y.rs[k].nd⟩) rfl rfl
  obtain ⟨z, hz⟩ : ∃ z, z = y.put k ⟨y.rs[k].b, y.rs[k].va, y.rs[k].vk, withPar 0 y.rs[k].nd⟩ := ⟨_, rfl⟩
  rw [← hz] at hd2 e1 hs2
  rw [show y.rs[k].b = x.rs[k].b by rw [ek2]] at hd2
  refine ⟨z.rs, ?_, ?_, hs2.trans hs⟩
  · have : ({ x with rs := z.rs } : Dx) = z := by subst hz; subst hyx; rfl
    rw [this]
    exact hd.trans hd2
  · rw [e2, show y.rs[k].nd.id = i by rw [ek2, hy], ← hE] at e1
    exact e1
set_option maxHeartbeats 1000000 in
theorem leave_any (i : Int) (w : World) (hwf : WF x.d) (hi : hasL x.l i = true) (h : Dc w B p x) : Calls Tryz.prog 52 #[.pointer (some ⟨p, 0, none⟩), .int .i64 i] w (Left w B p x i) := by
  have HT : Hid (Tr (fun y => hasL x.l y = true) (parOf x.l) (kidsOf x.l)) := Lib.hid hwf.tr
  have H := Lib.hid h
  obtain ⟨k, hk, hy, _⟩ := h.place hi
  have hpar := (tag_at h hk hy).2.1
  obtain ⟨b, hb⟩ : ∃ b, x.rs[k].b = b := ⟨_, rfl⟩
  obtain ⟨q, hq⟩ : ∃ q, parOf x.l i = q := ⟨_, rfl⟩
  rw [hq] at hpar
  have HY := Lib.hid hy
  have HB := Lib.hid hb
  have HQ := Lib.hid hq
  have HP := Lib.hid hpar
  have hR : x.rs.length ≤ 200 := by have h1 := h.ar.len; have h2 := h.ar.room; rw [List.length_map] at h1; omega
  by_cases hq0 : q = 0
  · have HE : Hid (leaveL x.l i = x.l) := Lib.hid (by unfold leaveL; rw [hq, if_pos hq0])
    have hqq : (q == 0) = true := by simpa using hq0
    clear h hy hb hq hpar hi hwf hq0
    go_enter Tryz.func52, Tryz.ntmps52
    go_wp2_with fail
    refine (node_at i w hk HY.out HB.out H.out).mono ?_
    rintro e w1 ⟨rfl, b1⟩
    have B1 := Lib.hid b1
    have d1 : w1.cell? ⟨b, 1, none⟩ = some (.int .i64 q) := by have := ((H.out.below b1).nd hk).c1; rwa [HB.out, ← HP.out] at this
    clear b1
    go_wp2_with fail
    refine bodyPost_ret (results_none rfl _ _ _) rfl ?_
    exact ⟨rfl, x.rs, Did.below_ H.out B1.out, HE.out.symm, rfl⟩
  · have hqq : (q == 0) = false := by simpa using hq0
    have hpm : hasL x.l q = true := by rw [← hq]; exact HT.out.hpar (by rw [hq]; exact hq0)
    have hin : i ∈ kidsOf x.l q := by rw [← hq]; exact HT.out.par i (by rw [hq]; exact hq0)
    obtain ⟨m, hm, hym, _⟩ := h.place hpm
    have hkd := (tag_at h hm hym).2.2
    obtain ⟨bm, hbm⟩ : ∃ bm, x.rs[m].b = bm := ⟨_, rfl⟩
    have hne : m ≠ k := by
      rintro rfl
      refine HT.out.no_cycle (x := i) (j := 0) (HT.out.ne0 hi) ?_
      show parOf x.l i = i
      rw [hq, ← hym, hy]
    have HE : Hid (leaveL x.l i = upd (upd x.l q (withKids (less i))) i (withPar 0)) := Lib.hid (by unfold leaveL; rw [hq, if_neg hq0])
    have HNE := Lib.hid hne
    have HYM := Lib.hid hym
    have HBM := Lib.hid hbm
    have HIN : Hid (i ∈ x.rs[m].nd.kids) := Lib.hid (by rw [← hkd]; exact hin)
    have HND : Hid (x.rs[m].nd.kids.Nodup) := Lib.hid (by rw [← hkd]; exact HT.out.nod q)
    have hkl : x.rs[m].nd.kids.length ≤ 1000000 := by have := hwf.kids_len (x := x.rs[m].nd) (List.mem_map.2 ⟨_, List.getElem_mem hm, rfl⟩); omega
    obtain ⟨vm, hvm⟩ : ∃ vm, x.rs[m].vk.val = vm := ⟨_, rfl⟩
    have HVM := Lib.hid hvm
    clear h hy hb hq hpar hi hwf hq0 hpm hin hym hkd hbm hne hvm
    go_enter Tryz.func52, Tryz.ntmps52
    go_wp2_with fail
    refine (node_at i w hk HY.out HB.out H.out).mono ?_
    rintro e w1 ⟨rfl, b1⟩
    have B1 := Lib.hid b1
    have H1 := Lib.hid (H.out.below b1)
    have d1 : w1.cell? ⟨b, 1, none⟩ = some (.int .i64 q) := by have := (H1.out.nd hk).c1; rwa [HB.out, ← HP.out] at this
    clear b1
    go_wp2_with fail
    refine (node_at q w1 hm HYM.out HBM.out H1.out).mono ?_
    rintro e w2 ⟨rfl, b2⟩
    have B2 := Lib.hid (B1.out.trans (b2.mono B1.out.size))
    have H2 := Lib.hid (H1.out.below b2)
    have d6 : w2.cell? ⟨bm, 6, none⟩ = some vm := by have := (H2.out.nd hm).c6; rwa [HBM.out, HVM.out] at this
    clear b2 d1
    go_wp2_with fail
    refine (without_any x.rs[m].nd.kids i w2 hkl HIN.out HND.out (by have := (H2.out.nd hm).kids; rwa [HVM.out] at this)).mono ?_
    rintro e w3 ⟨A3, n3, c3, rfl, o3, b3, hat⟩
    have O3 := Lib.hid o3
    have B3 := Lib.hid b3
    have HAT := Lib.hid hat
    have keep : ∀ (j : Nat) (hj : j < x.rs.length), w3.heap[x.rs[j].b]? = w2.heap[x.rs[j].b]? := fun j hj => b3.block _ (H2.out.nd hj).lt (fun e => by
      obtain ⟨d, hd⟩ := (H2.out.nd hm).kids.ty (by rw [HVM.out]; exact e)
      exact heap_ne hd (H2.out.nd hj).blk (by decide) rfl)
    have K3 := Lib.hid keep
    have e6 : w3.cell? ⟨bm, 6, none⟩ = some vm := by have := World.cell?_of_block (a := ⟨x.rs[m].b, 6, none⟩) (keep m hm); rw [HBM.out] at this; rw [this]; exact d6
    have f6 : w3.frozen? ⟨bm, 6, none⟩ = false := by have hb := keep m hm; rw [(H2.out.nd hm).blk, HBM.out] at hb; simp [World.frozen?, hb]
    have e1 : w3.cell? ⟨b, 1, none⟩ = some (.int .i64 q) := by have := World.cell?_of_block (a := ⟨x.rs[k].b, 1, none⟩) (keep k hk); rw [(H2.out.nd hk).c1, ← HP.out, HB.out] at this; exact this
    have f1 : w3.frozen? ⟨b, 1, none⟩ = false := by have hb := keep k hk; rw [(H2.out.nd hk).blk, HB.out] at hb; simp [World.frozen?, hb]
    clear o3 b3 hat keep d6
    go_wp2_with fail
    go_end0
    obtain ⟨rs', h1, h2, h3⟩ := leave_end H2.out hk hm HNE.out HY.out HYM.out HE.out (A3 := A3) (n3 := n3) (c3 := c3) (w3 := w3) (by rw [HVM.out]; exact B3.out) O3.out (by rw [HVM.out]; exact HAT.out)
    rw [HBM.out, HB.out] at h1
    exact ⟨rfl, rs', (Did.below_ H.out B2.out).trans h1, h2, h3⟩
end Go.Proofs.YtihjdmdafiifhaaGreat.P5
