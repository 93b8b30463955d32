/- The walk of TreeBack, over the contracts of the program's calls: what was built is told as it was. -/
import Derived.Test.YtkagaobelhpojaaM10
import Derived.Test.YtkagaobelhpojaaM22
import Derived.Test.YtkagaobelhpojaaM24
import Derived.Test.YtkagaobelhpojaaM37
import Derived.Test.YtkagaobelhpojaaM38
import Derived.Test.YtkagaobelhpojaaM39
set_option linter.unusedVariables false
set_option linter.unusedSimpArgs false
namespace Go.Proofs.Ytkagaobelhpojaa.P8
open Go.RowKit Kd P4 P5 P7

def BuildC : Prop := ∀ (t : TV) (w : World) (B C g p : Nat) (x : Dx) (vd : Value) (rs : List RR) (par bef : Int), C ≤ B → WF x.d → x.n ≤ 50000 → rs.length + 3 * countP (er t) ≤ 900 → Dc w B p x → Lg w B g p vd rs → TOk w C t → fewP (er t) = true →
  Calls Try.prog 38 #[.pointer (some ⟨g, 0, none⟩), .pointer (some ⟨p, 0, none⟩), .int .i64 par, .int .i64 bef, .agg #[.string t.tag, .string t.txt, .string t.key, .slice t.sa.A t.sa.n t.sa.c, .slice t.sk.A t.sk.n t.sk.c]] w fun e w' =>
    (mayP (er t) = false ∧ e = .returned (.tuple #[.int .i64 0, .iface 29 (.int .i64 1)]) ∧ Below w.heap.size w w') ∨
    (mayP (er t) = true ∧ ∃ x' vd' rs', e = .returned (.tuple #[.int .i64 (idP x.d par bef (er t)), errV (buildP x.d par bef (er t)).err]) ∧ LDid w B g p x vd x' vd' rs' w' ∧ x'.d = (buildP x.d par bef (er t)).d ∧ rs'.map (·.r) = rs.map (·.r) ++ (buildP x.d par bef (er t)).done)
def OfC : Prop := ∀ (w : World) (B p : Nat) (x : Dx) (i : Int), WF x.d → x.n ≤ 100000 → Dc w B p x → Calls Try.prog 39 #[.pointer (some ⟨p, 0, none⟩), .int .i64 i] w fun e w' =>
    (hasL x.l i = true ∧ ∃ tv : TV, e = .returned (.tuple #[.agg #[.string tv.tag, .string tv.txt, .string tv.key, .slice tv.sa.A tv.sa.n tv.sa.c, .slice tv.sk.A tv.sk.n tv.sk.c], .bool true]) ∧ er tv = treeP x.l (x.l.length + 1) i ∧ TOk w' w'.heap.size tv ∧ Below w.heap.size w w') ∨
    (hasL x.l i = false ∧ e = .returned (.tuple #[.agg #[.string ⟨#[]⟩, .string ⟨#[]⟩, .string ⟨#[]⟩, .slice none 0 0, .slice none 0 0], .bool false]) ∧ Below w.heap.size w w')
set_option maxRecDepth 100000 in
set_option maxHeartbeats 20000000 in
theorem back8_any (PM : MayC) (PC : CountC) (PS : SameC) (PO : OfNilC) (PB : BuildC) (PF : OfC) (t : TV) (w : World) (ht : TOk w w.heap.size t) (ft : TFit t) : Calls Try.prog 6 #[.agg #[.string t.tag, .string t.txt, .string t.key, .slice t.sa.A t.sa.n t.sa.c, .slice t.sk.A t.sk.n t.sk.c]] w fun e w' => e = .returned (.bool true) ∧ Below w.heap.size w w' := by
  have B1 : Hid (Below w.heap.size w (w.alloc (.cells #[.string t.tag, .string t.txt, .string t.key, .slice t.sa.A t.sa.n t.sa.c, .slice t.sk.A t.sk.n t.sk.c] 63))) := Lib.hid ((Below.refl _ _).alloc (Nat.le_refl _) _)
  have N1 : Hid (TB (w.alloc (.cells #[.string t.tag, .string t.txt, .string t.key, .slice t.sa.A t.sa.n t.sa.c, .slice t.sk.A t.sk.n t.sk.c] 63)) w.heap.size t) := Lib.hid (TB.new w t)
  have HT := Lib.hid ht
  have q3 := err_neq_nil
  have q4 := nil_eql_nil
  have q5 := nil_neq_nil
  clear ht
  go_enter Try.func6, Try.ntmps6
  go_upto_region 1 with fail
  generalize w.alloc (.cells #[.string t.tag, .string t.txt, .string t.key, .slice t.sa.A t.sa.n t.sa.c, .slice t.sk.A t.sk.n t.sk.c] 63) = W0 at B1 N1 ⊢
  go_wp2_with fail
  refine (up8_any PM PC PS PO W0).mono ?_
  rintro e w1 ⟨rfl, b⟩
  have B2 := Lib.hid (B1.out.trans (b.mono B1.out.size))
  have N2 := Lib.hid (N1.out.below b N1.out.lt)
  clear b B1 N1
  have a0 := N2.out.c0; have a1 := N2.out.c1; have a2 := N2.out.c2; have a3 := N2.out.c3; have a4 := N2.out.c4
  go_wp2_with fail
  refine (many_any t 60 w1 (by omega) (HT.out.on B2.out) ft).mono ?_
  rintro e w2 ⟨m, rfl, hm1, hm2, hm3, b⟩
  have B3 := Lib.hid (B2.out.trans (b.mono B2.out.size))
  have N3 := Lib.hid (N2.out.below b N2.out.lt)
  clear b B2 N2 a0 a1 a2 a3 a4
  have a0 := N3.out.c0; have a1 := N3.out.c1; have a2 := N3.out.c2; have a3 := N3.out.c3; have a4 := N3.out.c4
  by_cases hm : 60 < m
  · have q1 : decide ((60 : Int) < (m : Int)) = true := by simp; omega
    go_wp2_with fail
    go_ret
    exact ⟨rfl, B3.out⟩
  have q1 : decide ((60 : Int) < (m : Int)) = false := by simp; omega
  obtain ⟨hmc, hmf⟩ := hm3 (by omega)
  have hc1 : countP (er t) ≤ 60 := by omega
  have HMF := Lib.hid hmf
  have HC1 := Lib.hid hc1
  obtain ⟨bm, hbm⟩ : ∃ b, mayP (er t) = b := ⟨_, rfl⟩
  have CM : Hid (Calls Try.prog 32 #[.agg #[.string t.tag, .string t.txt, .string t.key, .slice t.sa.A t.sa.n t.sa.c, .slice t.sk.A t.sk.n t.sk.c]] w2 fun e w' => e = .returned (.bool bm) ∧ Below w2.heap.size w2 w') := Lib.hid (by have := PM t w2 (HT.out.on B3.out) hmf (by omega); rw [hbm] at this; exact this)
  have HBM := Lib.hid hbm
  clear hm3 hmc hmf hbm
  go_wp2_with fail
  refine CM.out.mono ?_
  rintro e w3 ⟨rfl, b⟩
  have B4 := Lib.hid (B3.out.trans (b.mono B3.out.size))
  have N4 := Lib.hid (N3.out.below b N3.out.lt)
  clear b B3 N3 CM a0 a1 a2 a3 a4
  cases bm with
  | false =>
    go_wp2_with fail
    go_ret
    exact ⟨rfl, B4.out⟩
  | true =>
  go_wp2_with fail
  refine (newDoc_at 200 200 w3 rfl (by omega) (by omega)).mono ?_
  rintro e w4 ⟨p, x, rfl, dc, hd, b⟩
  have D5 := Lib.hid (dc.base_le B4.out.size)
  have E5 := Lib.hid hd
  have B5 := Lib.hid (B4.out.trans (b.mono B4.out.size))
  have N5 := Lib.hid (N4.out.below b N4.out.lt)
  clear b dc hd B4 N4
  go_wp2_with fail
  refine (new_any (some ⟨p, 0, none⟩) w4).mono ?_
  rintro e w5 ⟨rfl, hw⟩
  have L6 : Hid (Lg w5 w.heap.size w4.heap.size p (.slice none 0 0) []) := Lib.hid (by rw [hw]; exact Lg.new B5.out.size p)
  have b : Below w4.heap.size w4 w5 := by rw [hw]; exact (Below.refl _ _).alloc (Nat.le_refl _) _
  have D6 := Lib.hid (D5.out.below b)
  have B6 := Lib.hid (B5.out.trans (b.mono B5.out.size))
  have N6 := Lib.hid (N5.out.below b N5.out.lt)
  clear hw b D5 B5 N5
  generalize w4.heap.size = g at L6 ⊢
  have a0 := N6.out.c0; have a1 := N6.out.c1; have a2 := N6.out.c2; have a3 := N6.out.c3; have a4 := N6.out.c4
  have hwf := wf_newD (R := 200) (by omega) (by omega)
  have hwfx : WF x.d := by rw [E5.out]; exact hwf
  have hxn : x.n = 1 := by have : x.d.n = 1 := by rw [E5.out]; rfl
                           exact this
  obtain ⟨k1, k2, k3, k4⟩ := back (t := er t) (R := 200) (by omega) (by omega) HBM.out (by omega)
  have hid : idP x.d 1 0 (er t) = 2 := by unfold idP; rw [E5.out, if_pos k1]; rfl
  have CB := Lib.hid (PB t w5 w.heap.size w.heap.size g p x _ _ 1 0 (Nat.le_refl _) hwfx (by omega) (by simp; omega) D6.out L6.out (HT.out.later B6.out (Nat.le_refl _)) HMF.out)
  have HW := Lib.hid hwf
  have K1 := Lib.hid k1
  have K2 := Lib.hid k2
  have K3 := Lib.hid k3
  have K4 := Lib.hid k4
  rw [hid, E5.out, k1, errV0] at CB
  clear hwf hwfx k1 k2 k3 k4 hid
  go_wp2_with fail
  refine CB.out.mono ?_
  rintro e w6 h
  obtain ⟨x', vd', rs', rfl, ld, hx', hr'⟩ : ∃ x' vd' rs', e = .returned (.tuple #[.int .i64 2, .nilIface]) ∧ LDid w5 w.heap.size g p x (.slice none 0 0) x' vd' rs' w6 ∧ x'.d = (buildP (newD 200) 1 0 (er t)).d ∧ rs'.map (·.r) = ([] : List RR).map (·.r) ++ (buildP (newD 200) 1 0 (er t)).done := by
    rcases h with ⟨h, _⟩ | ⟨_, h⟩
    · rw [HBM.out] at h; cases h
    · exact h
  have B7 := Lib.hid (B6.out.trans (ld.to_below D6.out L6.out))
  have D7 := Lib.hid ld.dc
  have hws : w.heap.size < w5.heap.size := N6.out.lt
  have N7 : Hid (TB w6 w.heap.size t) := Lib.hid ((ld.but.block _ hws (fun e => by
    rcases e with e | e | e
    · exact D6.out.other N6.out (by decide) (by decide) (by decide) (by decide) (by decide) e
    · rw [e] at hws
      have h1 := N6.out
      rw [e] at h1
      exact heap_ne h1 L6.out.blk (by decide) rfl
    · cases e)).trans N6.out)
  have HX := Lib.hid hx'
  have WX : Hid (WF x'.d) := Lib.hid (by rw [hx']; exact (build_keep (er t) (newD 200) 1 0).1 HW.out)
  have hxn' : x'.n ≤ 100000 := by
    have h1 := (build_keep (er t) (newD 200) 1 0).2.2.2
    rw [← hx'] at h1
    have h2 : (newD 200).n = 1 := rfl
    have h3 : x'.d.n = x'.n := rfl
    omega
  have hl' : x'.l = (buildP (newD 200) 1 0 (er t)).d.l := congrArg D.l hx'
  have HL := Lib.hid hl'
  have hh2 : hasL x'.l 2 = true := by rw [hl']; exact K3.out
  have hlen : x'.l.length = 1 + countP (er t) := by rw [hl']; exact K2.out
  have CF := Lib.hid (PF w6 w.heap.size p x' 2 WX.out hxn' D7.out)
  have HH2 := Lib.hid hh2
  have HLEN := Lib.hid hlen
  clear ld hx' hr' h CB L6 D6 N6 B6 hl' hh2 hlen a0 a1 a2 a3 a4
  go_wp2_with fail
  refine CF.out.mono ?_
  rintro e w7 h
  obtain ⟨tv, rfl, het, htk, b⟩ : ∃ tv : TV, e = .returned (.tuple #[.agg #[.string tv.tag, .string tv.txt, .string tv.key, .slice tv.sa.A tv.sa.n tv.sa.c, .slice tv.sk.A tv.sk.n tv.sk.c], .bool true]) ∧ er tv = treeP x'.l (x'.l.length + 1) 2 ∧ TOk w7 w7.heap.size tv ∧ Below w6.heap.size w6 w7 := by
    rcases h with ⟨_, h⟩ | ⟨h, _⟩
    · exact h
    · rw [HH2.out] at h; cases h
  have HE : Hid (er tv = er t) := Lib.hid (by rw [het, HL.out]; exact K4.out _ (by rw [← HL.out, HLEN.out]; omega))
  have B8 : Hid (Below w.heap.size w (w7.alloc (.cells #[.string tv.tag, .string tv.txt, .string tv.key, .slice tv.sa.A tv.sa.n tv.sa.c, .slice tv.sk.A tv.sk.n tv.sk.c] 63))) := Lib.hid ((B7.out.trans (b.mono B7.out.size)).alloc (B7.out.trans (b.mono B7.out.size)).size _)
  have bb : Below w6.heap.size w6 (w7.alloc (.cells #[.string tv.tag, .string tv.txt, .string tv.key, .slice tv.sa.A tv.sa.n tv.sa.c, .slice tv.sk.A tv.sk.n tv.sk.c] 63)) := b.alloc b.size _
  have N8 := Lib.hid (N7.out.below bb N7.out.lt)
  have D8 := Lib.hid (D7.out.below bb)
  have M8 : Hid (TB (w7.alloc (.cells #[.string tv.tag, .string tv.txt, .string tv.key, .slice tv.sa.A tv.sa.n tv.sa.c, .slice tv.sk.A tv.sk.n tv.sk.c] 63)) w7.heap.size tv) := Lib.hid (TB.new w7 tv)
  have T8 : Hid (TOk (w7.alloc (.cells #[.string tv.tag, .string tv.txt, .string tv.key, .slice tv.sa.A tv.sa.n tv.sa.c, .slice tv.sk.A tv.sk.n tv.sk.c] 63)) (w7.alloc (.cells #[.string tv.tag, .string tv.txt, .string tv.key, .slice tv.sa.A tv.sa.n tv.sa.c, .slice tv.sk.A tv.sk.n tv.sk.c] 63)).heap.size tv) := Lib.hid (htk.on ((Below.refl _ _).alloc (Nat.le_refl _) _))
  clear h het htk b bb CF N7 D7 B7
  go_upto_region 10 with fail
  generalize w7.alloc (.cells #[.string tv.tag, .string tv.txt, .string tv.key, .slice tv.sa.A tv.sa.n tv.sa.c, .slice tv.sk.A tv.sk.n tv.sk.c] 63) = W at B8 N8 D8 M8 T8 ⊢
  generalize w7.heap.size = s2 at M8 ⊢
  obtain ⟨cn, hcn⟩ : ∃ n, countP (er t) = n := ⟨_, rfl⟩
  have hcn60 : cn ≤ 60 := by omega
  have CS : Hid (∀ w9, Below W.heap.size W w9 → Calls Try.prog 36 #[.agg #[.string tv.tag, .string tv.txt, .string tv.key, .slice tv.sa.A tv.sa.n tv.sa.c, .slice tv.sk.A tv.sk.n tv.sk.c], .agg #[.string t.tag, .string t.txt, .string t.key, .slice t.sa.A t.sa.n t.sa.c, .slice t.sk.A t.sk.n t.sk.c]] w9 fun e w' => e = .returned (.bool true) ∧ Below w9.heap.size w9 w') := Lib.hid (fun w9 h => by
    have := PS tv t w9 (T8.out.on h) (HT.out.on (B8.out.trans (h.mono B8.out.size))) (by rw [HE.out]; exact HMF.out) HMF.out (by rw [HE.out]; omega) (by omega)
    rw [HE.out, sameP_refl] at this
    exact this)
  have CC : Hid (∀ w9, Below W.heap.size W w9 → Calls Try.prog 34 #[.agg #[.string t.tag, .string t.txt, .string t.key, .slice t.sa.A t.sa.n t.sa.c, .slice t.sk.A t.sk.n t.sk.c]] w9 fun e w' => e = .returned (.int .i64 (cn : Nat)) ∧ Below w9.heap.size w9 w') := Lib.hid (fun w9 h => by have := PC t w9 (HT.out.on (B8.out.trans (h.mono B8.out.size))) (by omega); rw [hcn] at this; exact this)
  have hlen2 : x'.rs.length = 1 + cn := by rw [← l_len, HLEN.out, hcn]
  have CI : Hid (∀ w9, Below W.heap.size W w9 → Calls Try.prog 40 #[.pointer (some ⟨p, 0, none⟩)] w9 fun e w' => (∃ A c, e = .returned (.slice A (1 + cn) c)) ∧ Below w9.heap.size w9 w') := Lib.hid (fun w9 h => (ids_any w9 (by omega) (D8.out.below h)).mono fun e w' ⟨A, n, c, he, ho, hb⟩ => by
    obtain ⟨h1, _⟩ := own_nil_zero ho rfl
    have h2 : (idsOf x'.l).length = x'.rs.length := by simp [idsOf, Dx.l]
    exact ⟨⟨A, c, by rw [he, ← h1, h2, hlen2]⟩, hb⟩)
  have SKEEP : Hid (∀ w', Below W.heap.size W w' → (w'.cell? ⟨s2, 0, none⟩ = some (.string tv.tag) ∧ w'.cell? ⟨s2, 1, none⟩ = some (.string tv.txt) ∧ w'.cell? ⟨s2, 2, none⟩ = some (.string tv.key) ∧ w'.cell? ⟨s2, 3, none⟩ = some (.slice tv.sa.A tv.sa.n tv.sa.c) ∧ w'.cell? ⟨s2, 4, none⟩ = some (.slice tv.sk.A tv.sk.n tv.sk.c) ∧ w'.cell? ⟨w.heap.size, 0, none⟩ = some (.string t.tag) ∧ w'.cell? ⟨w.heap.size, 1, none⟩ = some (.string t.txt) ∧ w'.cell? ⟨w.heap.size, 2, none⟩ = some (.string t.key) ∧ w'.cell? ⟨w.heap.size, 3, none⟩ = some (.slice t.sa.A t.sa.n t.sa.c) ∧ w'.cell? ⟨w.heap.size, 4, none⟩ = some (.slice t.sk.A t.sk.n t.sk.c))) := Lib.hid (fun w' h => ⟨(M8.out.below h M8.out.lt).c0, (M8.out.below h M8.out.lt).c1, (M8.out.below h M8.out.lt).c2, (M8.out.below h M8.out.lt).c3, (M8.out.below h M8.out.lt).c4, (N8.out.below h N8.out.lt).c0, (N8.out.below h N8.out.lt).c1, (N8.out.below h N8.out.lt).c2, (N8.out.below h N8.out.lt).c3, (N8.out.below h N8.out.lt).c4⟩)
  have BW : Hid (Below W.heap.size W W) := Lib.hid (Below.refl _ _)
  have qs : (((1 + cn : Nat) : Int) == 1 + (cn : Int)) = true := by simp
  have qs2 : ((1 + (cn : Int)) == 1 + (cn : Int)) = true := by simp
  have qw : IntKind.i64.wrap (1 + (cn : Int)) = 1 + (cn : Int) := by rw [IntKind.wrap_i64]; omega
  have qs3 : (1 + (cn : Int) == IntKind.i64.wrap (1 + (cn : Int))) = true := by rw [qw]; simp
  clear hcn hc1 hlen2 hxn' HX HL
  have a0 := M8.out.c0; have a1 := M8.out.c1; have a2 := M8.out.c2; have a3 := M8.out.c3; have a4 := M8.out.c4; have b0 := N8.out.c0; have b1 := N8.out.c1; have b2 := N8.out.c2; have b3 := N8.out.c3; have b4 := N8.out.c4
  clear M8 N8
  go_wp2_with fail
  go_region_held3 (fun w' => w'.cell? ⟨s2, 0, none⟩ = some (.string tv.tag) ∧ w'.cell? ⟨s2, 1, none⟩ = some (.string tv.txt) ∧ w'.cell? ⟨s2, 2, none⟩ = some (.string tv.key) ∧ w'.cell? ⟨s2, 3, none⟩ = some (.slice tv.sa.A tv.sa.n tv.sa.c) ∧ w'.cell? ⟨s2, 4, none⟩ = some (.slice tv.sk.A tv.sk.n tv.sk.c) ∧ w'.cell? ⟨w.heap.size, 0, none⟩ = some (.string t.tag) ∧ w'.cell? ⟨w.heap.size, 1, none⟩ = some (.string t.txt) ∧ w'.cell? ⟨w.heap.size, 2, none⟩ = some (.string t.key) ∧ w'.cell? ⟨w.heap.size, 3, none⟩ = some (.slice t.sa.A t.sa.n t.sa.c) ∧ w'.cell? ⟨w.heap.size, 4, none⟩ = some (.slice t.sk.A t.sk.n t.sk.c)) (first | go_keep | exact SK) ((first
    | (go_at_call 36; refine (CS.out _ (by first | exact BW.out | exact Below_drewN BW.out _)).mono ?_; rintro e w5 ⟨rfl, b5⟩; have BW : Hid (Below W.heap.size W w5) := Lib.hid (by first | exact BW.out.trans (b5.mono BW.out.size) | exact (Below_drewN BW.out _).trans (b5.mono BW.out.size)); have SK := SKEEP.out w5 BW.out; clear b5)
    | (go_at_call 34; refine (CC.out _ (by first | exact BW.out | exact Below_drewN BW.out _)).mono ?_; rintro e w5 ⟨rfl, b5⟩; have BW : Hid (Below W.heap.size W w5) := Lib.hid (by first | exact BW.out.trans (b5.mono BW.out.size) | exact (Below_drewN BW.out _).trans (b5.mono BW.out.size)); have SK := SKEEP.out w5 BW.out; clear b5)
    | (go_at_call 40; refine (CI.out _ (by first | exact BW.out | exact Below_drewN BW.out _)).mono ?_; rintro e w5 ⟨⟨A5, c5, rfl⟩, b5⟩; have BW : Hid (Below W.heap.size W w5) := Lib.hid (by first | exact BW.out.trans (b5.mono BW.out.size) | exact (Below_drewN BW.out _).trans (b5.mono BW.out.size)); have SK := SKEEP.out w5 BW.out; clear b5)
    | fail))
  all_goals
    go_wp2_with fail
    go_ret
    exact ⟨rfl, B8.out.trans (BW.out.mono B8.out.size)⟩
end Go.Proofs.Ytkagaobelhpojaa.P8

/- Changes one behind the other, up to the first that fails, as a loop comes to them; a change whose attributes are read. No condition. -/
namespace Go.Proofs.Ytkagaobelhpojaa.P8
open Go.RowKit Kd P4 P5 P7

/-- a change whose attributes lie below C -/
structure RecIn (w : World) (C : Nat) (a : RR) : Prop where
  len : a.r.attrs.length = a.va.n
  few : a.va.n ≤ 1000
  cap : a.va.n ≤ a.va.c
  nil : a.va.A = none → a.va.c = 0
  wf : P3.Wf a.r.attrs
  holds : kA.Holds w C a.va.A a.r.attrs
  tag : a.r.tag.size ≤ maxLen
  txt : a.r.txt.size ≤ maxLen
  key : a.r.key.size ≤ maxLen
theorem RecIn.later {w w' : World} {C D : Nat} {a : RR} (h : RecIn w C a) (hb : Below D w w') (hC : C ≤ D) : RecIn w' C a := ⟨h.len, h.few, h.cap, h.nil, h.wf, h.holds.below hb hC, h.tag, h.txt, h.key⟩
theorem RecIn.arg {w : World} {C : Nat} {a : RR} (h : RecIn w C a) (hC : C ≤ w.heap.size) : ArgR w a.va.A a.va.n a.va.c a.r := ⟨⟨h.len, h.cap, h.nil, by have := h.few; omega, h.wf, h.holds.more hC⟩, h.tag, h.txt, h.key⟩
theorem on_nil (a : Ran) : (⟨a.done, 0, a.d⟩ : Ran).on ⟨[], a.err, a.d⟩ = a := by cases a; simp [Ran.on]
theorem on_assoc (a b c : Ran) : (a.on b).on c = a.on (b.on c) := by simp [Ran.on, List.append_assoc]
theorem headR_size (i p b : Int) (t : PT) : (headR i p b t).length ≤ 3 := by unfold headR; split <;> simp
/-- how far the changes have come: those up to k are done -/
theorem run_start (d : D) (L : List Rc) : runR d L = (⟨L.take 0, 0, d⟩ : Ran).on (runR d (L.drop 0)) := by
  show runR d L = ⟨[] ++ (runR d L).done, (runR d L).err, (runR d L).d⟩
  cases runR d L
  rfl
theorem run_next {d dk : D} {L : List Rc} {k : Nat} (hk : k < L.length) (h : runR d L = (⟨L.take k, 0, dk⟩ : Ran).on (runR dk (L.drop k))) (h0 : (applyD dk L[k]).1 = 0) : runR d L = (⟨L.take (k + 1), 0, (applyD dk L[k]).2⟩ : Ran).on (runR (applyD dk L[k]).2 (L.drop (k + 1))) := by
  have e : L.take (k + 1) = L.take k ++ [L[k]] := by rw [List.take_add_one, List.getElem?_eq_getElem hk]; rfl
  rw [h, List.drop_eq_getElem_cons hk, runR, if_pos h0, e]
  unfold Ran.on
  rw [List.append_assoc]
  rfl
theorem run_bad {d dk : D} {L : List Rc} {k : Nat} (hk : k < L.length) (h : runR d L = (⟨L.take k, 0, dk⟩ : Ran).on (runR dk (L.drop k))) (h0 : (applyD dk L[k]).1 ≠ 0) : runR d L = ⟨L.take k, (applyD dk L[k]).1, (applyD dk L[k]).2⟩ := by
  rw [h, List.drop_eq_getElem_cons hk, runR, if_neg h0]
  unfold Ran.on
  simp
theorem run_end {d dk : D} {L : List Rc} (h : runR d L = (⟨L.take L.length, 0, dk⟩ : Ran).on (runR dk (L.drop L.length))) : runR d L = ⟨L, 0, dk⟩ := by
  rw [h, List.drop_length, runR]
  unfold Ran.on
  simp
theorem kids_next {d : D} {p : Int} {L : List PT} {k : Nat} (hk : k < L.length) (h0 : (buildP d p 0 L[k]).err = 0) : buildL d p (L.drop k) = (⟨(buildP d p 0 L[k]).done, 0, (buildP d p 0 L[k]).d⟩ : Ran).on (buildL (buildP d p 0 L[k]).d p (L.drop (k + 1))) := by
  rw [List.drop_eq_getElem_cons hk, buildL, if_pos h0]
  unfold Ran.on
  rfl
theorem kids_bad {d : D} {p : Int} {L : List PT} {k : Nat} (hk : k < L.length) (h0 : (buildP d p 0 L[k]).err ≠ 0) : buildL d p (L.drop k) = buildP d p 0 L[k] := by
  rw [List.drop_eq_getElem_cons hk, buildL, if_neg h0]
theorem rec_noA {w : World} {B : Nat} {v : Value} {ms : List RR} (ho : kR.Own w B v ms) : NoA w (fun i => v.ownBlock = some i) := by
  intro i cur fr hi hc
  obtain ⟨d, hd⟩ := ho.ty hi
  exact heap_ne hc hd (by decide) rfl
theorem tb_rec {w5 w8 : World} {B s : Nat} {v : Value} {ms : List RR} {t : TV} (ho : kR.Own w5 B v ms) (hb : But (fun i => v.ownBlock = some i) w5 w8) (h : TB w5 s t) : TB w8 s t := (hb.block s h.lt (fun e => by
  obtain ⟨d, hd⟩ := ho.ty e
  exact heap_ne hd h (by decide) rfl)).trans h
theorem app_but {w5 : World} {o : Obj} {w8 : World} {v : Value} (hg : (w5.alloc o).grownBy w8 v.ownBlock) : But (fun i => v.ownBlock = some i) w5 w8 := (But.alloc (But.refl _ _) _).trans (But.of_grown (S := fun i => v.ownBlock = some i) hg (fun i hi _ => hi)) (fun _ _ h => h)
theorem runR_len : ∀ (l : List Rc) (d : D), (runR d l).done.length ≤ l.length
  | [], _ => by simp [runR]
  | r :: l, d => by
    rw [runR]
    split
    · have := runR_len l (applyD d r).2
      simp; omega
    · simp
/-- how many changes there may be -/
theorem build_len (t : PT) : ∀ (d : D) (p b : Int), (buildP d p b t).done.length ≤ 3 * countP t := by
  induction t using PT.ind with
  | h tag txt key attrs kids ih =>
    have key' : ∀ (l : List PT), (∀ k ∈ l, k ∈ kids) → ∀ (d : D) (p : Int), (buildL d p l).done.length ≤ 3 * countL l := by
      intro l
      induction l with
      | nil => intro _ d p; simp [buildL]
      | cons a l ihl =>
        intro hl d p
        have h1 := ih a (hl a (by simp)) d p 0
        have h2 := ihl (fun k hk => hl k (by simp [hk])) (buildP d p 0 a).d p
        rw [buildL, countL]
        split
        · unfold Ran.on; simp; omega
        · omega
    intro d p b
    have h1 := runR_len (headR (d.n + 1) p b (.mk tag txt key attrs kids)) d
    have h2 := headR_size (d.n + 1) p b (.mk tag txt key attrs kids)
    have h3 := key' kids (fun _ h => h) (runR d (headR (d.n + 1) p b (.mk tag txt key attrs kids))).d (d.n + 1)
    rw [buildP, countP]
    split
    · unfold Ran.on; simp; omega
    · omega
end Go.Proofs.Ytkagaobelhpojaa.P8

/- One call behind the other, to a document and its log; what a call that made memory alone has done. No condition. -/
namespace Go.Proofs.Ytkagaobelhpojaa.P8
open Go.RowKit Kd P4 P5 P7
variable {w w1 w2 : World} {B g p : Nat} {x x1 x2 : Dx} {vd vd1 vd2 : Value} {rs rs1 rs2 : List RR}
theorem LDid.trans (h : LDid w B g p x vd x1 vd1 rs1 w1) (k : LDid w1 B g p x1 vd1 x2 vd2 rs2 w2) : LDid w B g p x vd x2 vd2 rs2 w2 := by
  have hs := h.but.size
  refine ⟨k.dc, k.lg, h.but.trans k.but (fun i hi hf => ?_), fun i hi => ?_, fun i hi => ?_⟩
  · rcases hf with hf | hf | hf
    · rcases h.ft i hf with e | e
      · exact .inl e
      · omega
    · exact .inr (.inl hf)
    · rcases h.lf i hf with e | e
      · exact .inr (.inr e)
      · omega
  · rcases k.ft i hi with e | e
    · exact h.ft i e
    · exact .inr (by omega)
  · rcases k.lf i hi with e | e
    · exact h.lf i e
    · exact .inr (by omega)
theorem LDid.same (h : Dc w B p x) (l : Lg w B g p vd rs) (hb : Below w.heap.size w w1) : LDid w B g p x vd x vd rs w1 := ⟨h.below hb, l.below hb, But.of_below hb _, fun _ hi => .inl hi, fun _ hi => .inl hi⟩
theorem LDid.below (h : LDid w B g p x vd x1 vd1 rs1 w1) (hb : Below w1.heap.size w1 w2) : LDid w B g p x vd x1 vd1 rs1 w2 := LDid.trans h (LDid.same h.dc h.lg hb)
end Go.Proofs.Ytkagaobelhpojaa.P8
