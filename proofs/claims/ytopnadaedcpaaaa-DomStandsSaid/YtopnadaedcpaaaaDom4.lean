/- A node that leaves; a node that is put, or the error. -/
import Derived.Test.YtopnadaedcpaaaaDom3
namespace Go.Proofs.Ytopnadaedcpaaaa.P5
open Go.RowKit Kd P4
variable {B p : Nat} {x : Dx}

theorem put_slots {k : Nat} (hk : k < x.rs.length) {r : Rw} (hb : r.b = x.rs[k].b) (hid : r.nd.id = x.rs[k].nd.id) : (x.put k r).rs.map slotOf = x.rs.map slotOf := by
  show (x.rs.set k r).map slotOf = x.rs.map slotOf
  apply List.ext_getElem
  · simp
  · intro j h1 h2
    simp only [List.getElem_map, List.getElem_set]
    split
    · rename_i e; subst e; simp [slotOf, hb, hid]
    · rfl
theorem put_other {k m : Nat} (hk : k < x.rs.length) {r : Rw} (hne : m ≠ k) : ∃ h1 : k < (x.put m r).rs.length, (x.put m r).rs[k] = x.rs[k] := by
  refine ⟨by show k < (x.rs.set m r).length; simpa using hk, ?_⟩
  show (x.rs.set m r)[k]'(by simpa using hk) = x.rs[k]
  exact List.getElem_set_ne hne _
/-- one's slots stand as before: so does each one's block -/
theorem slots_at {rs rs' : List Rw} (h : rs'.map slotOf = rs.map slotOf) {k : Nat} (hk : k < rs.length) : ∃ h1 : k < rs'.length, rs'[k].nd.id = rs[k].nd.id ∧ rs'[k].b = rs[k].b := by
  have hl : rs'.length = rs.length := by simpa using congrArg List.length h
  have h1 : k < rs'.length := by omega
  refine ⟨h1, ?_⟩
  have e := congrArg (fun l => l[k]?) h
  simp only [List.getElem?_map, List.getElem?_eq_getElem hk, List.getElem?_eq_getElem h1, Option.map_some, Option.some.injEq] at e
  unfold slotOf at e
  injection e with e1 e2
  exact ⟨e1, e2⟩

def Left (w : World) (B p : Nat) (x : Dx) (i : Int) (e : Ending) (w' : World) : Prop :=
  e = .returned (.tuple #[]) ∧ ∃ rs' : List Rw, Did w B p x { x with rs := rs' } w' ∧ rs'.map (·.nd) = leaveL x.l i ∧ rs'.map slotOf = x.rs.map slotOf
theorem leave_end {w2 w3 : World} {i q : Int} {k m : Nat} (H2 : Dc w2 B p x) (hk : k < x.rs.length) (hm : m < x.rs.length) (hne : m ≠ k) (hy : x.rs[k].nd.id = i) (hym : x.rs[m].nd.id = q)
    (hE : leaveL x.l i = upd (upd x.l q (withKids (less i))) i (withPar 0)) {A3 : Option Addr} {n3 c3 : Nat} (hb : But (fun g => x.rs[m].vk.val.ownBlock = some g) w2 w3) (ho : kI.Own w3 B (.slice A3 n3 c3) (less i x.rs[m].nd.kids))
    (hat : (Value.slice A3 n3 c3).ownBlock = x.rs[m].vk.val.ownBlock) :
    ∃ rs' : List Rw, Did w2 B p x { x with rs := rs' } ((w3.setCell ⟨x.rs[m].b, 6, none⟩ (.slice A3 n3 c3)).setCell ⟨x.rs[k].b, 1, none⟩ (.int .i64 0)) ∧ rs'.map (·.nd) = leaveL x.l i ∧ rs'.map slotOf = x.rs.map slotOf := by
  obtain ⟨r1, hr1⟩ : ∃ r1 : Rw, r1 = ⟨x.rs[m].b, x.rs[m].va, ⟨A3, n3, c3⟩, withKids (less i) x.rs[m].nd⟩ := ⟨_, rfl⟩
  have hd := H2.kids_ hm (r := r1) (f := less i) (w' := w3) (by rw [hr1]) (by rw [hr1]) (by rw [hr1]) hb (by rw [hr1]; exact ho) (fun g hg => .inl (by rw [hr1] at hg; rw [← hat]; exact hg))
  obtain ⟨hk1, ek1⟩ := put_other (x := x) hk (r := r1) hne
  have hv : r1.vk.val = .slice A3 n3 c3 := by rw [hr1]; rfl
  rw [hv] at hd
  have e2 := put_l H2 hm (r := r1) (f := withKids (less i)) (by rw [hr1])
  rw [hym] at e2
  have hs := put_slots (x := x) hm (r := r1) (by rw [hr1]) (by rw [hr1]; rfl)
  obtain ⟨y, hyx⟩ : ∃ y, y = x.put m r1 := ⟨_, rfl⟩
  rw [← hyx] at hd e2 hs
  obtain ⟨hk2, ek2⟩ : ∃ h : k < y.rs.length, y.rs[k] = x.rs[k] := by subst hyx; exact ⟨hk1, ek1⟩
  have hd2 := hd.dc.cell_ hk2 (r := ⟨y.rs[k].b, y.rs[k].va, y.rs[k].vk, withPar 0 y.rs[k].nd⟩) rfl rfl rfl rfl (hd.dc.nd hk2).att (i := 1) (u := .int .i64 0) rfl
  have e1 := put_l hd.dc hk2 (r := ⟨y.rs[k].b, y.rs[k].va, y.rs[k].vk, withPar 0 y.rs[k].nd⟩) (f := withPar 0) rfl
  have hs2 := put_slots (x := y) hk2 (r := ⟨y.rs[k].b, y.rs[k].va, y.rs[k].vk, withPar 0 y.rs[k].nd⟩) rfl rfl
  obtain ⟨z, hz⟩ : ∃ z, z = y.put k ⟨y.rs[k].b, y.rs[k].va, y.rs[k].vk, withPar 0 y.rs[k].nd⟩ := ⟨_, rfl⟩
  rw [← hz] at hd2 e1 hs2
  rw [show y.rs[k].b = x.rs[k].b by rw [ek2]] at hd2
  refine ⟨z.rs, ?_, ?_, hs2.trans hs⟩
  · have : ({ x with rs := z.rs } : Dx) = z := by subst hz; subst hyx; rfl
    rw [this]
    exact hd.trans hd2
  · rw [e2, show y.rs[k].nd.id = i by rw [ek2, hy], ← hE] at e1
    exact e1
set_option maxHeartbeats 1000000 in
theorem leave_any (i : Int) (w : World) (hwf : WF x.d) (hi : hasL x.l i = true) (h : Dc w B p x) : Calls Try.prog 60 #[.pointer (some ⟨p, 0, none⟩), .int .i64 i] w (Left w B p x i) := by
  have HT : Hid (Tr (fun y => hasL x.l y = true) (parOf x.l) (kidsOf x.l)) := Lib.hid hwf.tr
  have H := Lib.hid h
  obtain ⟨k, hk, hy, _⟩ := h.place hi
  have hpar := (tag_at h hk hy).2.1
  obtain ⟨b, hb⟩ : ∃ b, x.rs[k].b = b := ⟨_, rfl⟩
  obtain ⟨q, hq⟩ : ∃ q, parOf x.l i = q := ⟨_, rfl⟩
  rw [hq] at hpar
  have HY := Lib.hid hy
  have HB := Lib.hid hb
  have HQ := Lib.hid hq
  have HP := Lib.hid hpar
  have hR : x.rs.length ≤ 200 := by have h1 := h.ar.len; have h2 := h.ar.room; rw [List.length_map] at h1; omega
  by_cases hq0 : q = 0
  · have HE : Hid (leaveL x.l i = x.l) := Lib.hid (by unfold leaveL; rw [hq, if_pos hq0])
    have hqq : (q == 0) = true := by simpa using hq0
    clear h hy hb hq hpar hi hwf hq0
    go_enter Try.func60, Try.ntmps60
    go_wp2_with fail
    refine (node_at i w hk HY.out HB.out H.out).mono ?_
    rintro e w1 ⟨rfl, b1⟩
    have B1 := Lib.hid b1
    have d1 : w1.cell? ⟨b, 1, none⟩ = some (.int .i64 q) := by have := ((H.out.below b1).nd hk).c1; rwa [HB.out, ← HP.out] at this
    clear b1
    go_wp2_with fail
    refine bodyPost_ret (results_none rfl _ _ _) rfl ?_
    exact ⟨rfl, x.rs, Did.below_ H.out B1.out, HE.out.symm, rfl⟩
  · have hqq : (q == 0) = false := by simpa using hq0
    have hpm : hasL x.l q = true := by rw [← hq]; exact HT.out.hpar (by rw [hq]; exact hq0)
    have hin : i ∈ kidsOf x.l q := by rw [← hq]; exact HT.out.par i (by rw [hq]; exact hq0)
    obtain ⟨m, hm, hym, _⟩ := h.place hpm
    have hkd := (tag_at h hm hym).2.2
    obtain ⟨bm, hbm⟩ : ∃ bm, x.rs[m].b = bm := ⟨_, rfl⟩
    have hne : m ≠ k := by
      rintro rfl
      refine HT.out.no_cycle (x := i) (j := 0) (HT.out.ne0 hi) ?_
      show parOf x.l i = i
      rw [hq, ← hym, hy]
    have HE : Hid (leaveL x.l i = upd (upd x.l q (withKids (less i))) i (withPar 0)) := Lib.hid (by unfold leaveL; rw [hq, if_neg hq0])
    have HNE := Lib.hid hne
    have HYM := Lib.hid hym
    have HBM := Lib.hid hbm
    have HIN : Hid (i ∈ x.rs[m].nd.kids) := Lib.hid (by rw [← hkd]; exact hin)
    have HND : Hid (x.rs[m].nd.kids.Nodup) := Lib.hid (by rw [← hkd]; exact HT.out.nod q)
    have hkl : x.rs[m].nd.kids.length ≤ 1000000 := by have := hwf.kids_len (x := x.rs[m].nd) (List.mem_map.2 ⟨_, List.getElem_mem hm, rfl⟩); omega
    obtain ⟨vm, hvm⟩ : ∃ vm, x.rs[m].vk.val = vm := ⟨_, rfl⟩
    have HVM := Lib.hid hvm
    clear h hy hb hq hpar hi hwf hq0 hpm hin hym hkd hbm hne hvm
    go_enter Try.func60, Try.ntmps60
    go_wp2_with fail
    refine (node_at i w hk HY.out HB.out H.out).mono ?_
    rintro e w1 ⟨rfl, b1⟩
    have B1 := Lib.hid b1
    have H1 := Lib.hid (H.out.below b1)
    have d1 : w1.cell? ⟨b, 1, none⟩ = some (.int .i64 q) := by have := (H1.out.nd hk).c1; rwa [HB.out, ← HP.out] at this
    clear b1
    go_wp2_with fail
    refine (node_at q w1 hm HYM.out HBM.out H1.out).mono ?_
    rintro e w2 ⟨rfl, b2⟩
    have B2 := Lib.hid (B1.out.trans (b2.mono B1.out.size))
    have H2 := Lib.hid (H1.out.below b2)
    have d6 : w2.cell? ⟨bm, 6, none⟩ = some vm := by have := (H2.out.nd hm).c6; rwa [HBM.out, HVM.out] at this
    clear b2 d1
    go_wp2_with fail
    refine (without_any x.rs[m].nd.kids i w2 hkl HIN.out HND.out (by have := (H2.out.nd hm).kids; rwa [HVM.out] at this)).mono ?_
    rintro e w3 ⟨A3, n3, c3, rfl, o3, b3, hat⟩
    have O3 := Lib.hid o3
    have B3 := Lib.hid b3
    have HAT := Lib.hid hat
    have keep : ∀ (j : Nat) (hj : j < x.rs.length), w3.heap[x.rs[j].b]? = w2.heap[x.rs[j].b]? := fun j hj => b3.block _ (H2.out.nd hj).lt (fun e => by
      obtain ⟨d, hd⟩ := (H2.out.nd hm).kids.ty (by rw [HVM.out]; exact e)
      exact heap_ne hd (H2.out.nd hj).blk (by decide) rfl)
    have K3 := Lib.hid keep
    have e6 : w3.cell? ⟨bm, 6, none⟩ = some vm := by have := World.cell?_of_block (a := ⟨x.rs[m].b, 6, none⟩) (keep m hm); rw [HBM.out] at this; rw [this]; exact d6
    have f6 : w3.frozen? ⟨bm, 6, none⟩ = false := by have hb := keep m hm; rw [(H2.out.nd hm).blk, HBM.out] at hb; simp [World.frozen?, hb]
    have e1 : w3.cell? ⟨b, 1, none⟩ = some (.int .i64 q) := by have := World.cell?_of_block (a := ⟨x.rs[k].b, 1, none⟩) (keep k hk); rw [(H2.out.nd hk).c1, ← HP.out, HB.out] at this; exact this
    have f1 : w3.frozen? ⟨b, 1, none⟩ = false := by have hb := keep k hk; rw [(H2.out.nd hk).blk, HB.out] at hb; simp [World.frozen?, hb]
    clear o3 b3 hat keep d6
    go_wp2_with fail
    go_end0
    obtain ⟨rs', h1, h2, h3⟩ := leave_end H2.out hk hm HNE.out HY.out HYM.out HE.out (A3 := A3) (n3 := n3) (c3 := c3) (w3 := w3) (by rw [HVM.out]; exact B3.out) O3.out (by rw [HVM.out]; exact HAT.out)
    rw [HBM.out, HB.out] at h1
    exact ⟨rfl, rs', (Did.below_ H.out B2.out).trans h1, h2, h3⟩
end Go.Proofs.Ytopnadaedcpaaaa.P5
