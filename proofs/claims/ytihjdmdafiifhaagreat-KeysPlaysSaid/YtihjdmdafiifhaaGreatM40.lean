/- sync.Once in one goroutine: its function is called the first time, and not again. No condition but those stated. -/
import Derived.Tactics
import Derived.Tactics2
import Derived.Defers
import Derived.Laws.Pointers
import Derived.Laws.LoneSync
import Derived.RegionTactic
import Derived.RegionCalls
import Derived.Laws.NewBlocks
import Derived.Test.YtihjdmdafiifhaaGreatM3
import Derived.Test.YtihjdmdafiifhaaGreatM39
set_option linter.unusedVariables false
set_option linter.unusedSimpArgs false
set_option linter.unusedVariables false
set_option linter.unusedSimpArgs false
namespace Go.Proofs.YtihjdmdafiifhaaGreat.On
open Go.RowKit
set_option maxRecDepth 100000

theorem disable (w : World) : (callFunc 95 #[]).run Tryz.prog w = .ok (.value (.tuple #[])) w := run_call_mark0 Tryz.func95 (by kernel_rfl) (by kernel_rfl) (by kernel_rfl) .disable (by kernel_rfl) w
theorem enable (w : World) : (callFunc 97 #[]).run Tryz.prog w = .ok (.value (.tuple #[])) w := run_call_mark0 Tryz.func97 (by kernel_rfl) (by kernel_rfl) (by kernel_rfl) .enable (by kernel_rfl) w
theorem acquire (a : Addr) (w : World) : (callFunc 98 #[.pointer (some a)]).run Tryz.prog w = .ok (.value (.tuple #[])) w := run_call_marked Tryz.func98 (by kernel_rfl) (by kernel_rfl) (by kernel_rfl) .acquire (by kernel_rfl) a w
theorem releaseMerge (a : Addr) (w : World) : (callFunc 100 #[.pointer (some a)]).run Tryz.prog w = .ok (.value (.tuple #[])) w := run_call_marked Tryz.func100 (by kernel_rfl) (by kernel_rfl) (by kernel_rfl) .releaseMerge (by kernel_rfl) a w
/-- '(*sync/atomic.Bool).Store(true)', deferred: the cell holds 1 -/
theorem store_deferred (a : Addr) (x : Value) (u : FrameMode) (w : World) (hc : w.cell? a = some x) (hz : w.frozen? a = false) :
    CallsD Tryz.prog 68 #[.pointer (some a), .bool true] u w fun e u' w' => u' = u ∧ (e = .returned (.tuple #[]) ∧ w' = w.drew.setCell a (.int .u32 1)) := by
  have hc' : w.drew.cell? a = some x := by go_simp
  have hz' : w.drew.frozen? a = false := by go_simp
  have hst := run_call_store (P := Tryz.prog) Tryz.func85 (by kernel_rfl) (by kernel_rfl) (by kernel_rfl) (by kernel_rfl) (k := .u32) (y := 1) hc' hz'
  go_enter_d Tryz.func68, Tryz.ntmps68
  go_wp2
  go_region_calls
  all_goals (go_end0; exact ⟨rfl, rfl⟩)
/-- '(*sync.Mutex).Unlock', deferred, the lock held, nobody waiting -/
theorem unlock_deferred (a : Addr) (u : FrameMode) (w : World) (hc : w.cell? a = some (.int .i32 1)) (hz : w.frozen? a = false) :
    CallsD Tryz.prog 67 #[.pointer (some a)] u w fun e u' w' => u' = u ∧ (e = .returned (.tuple #[]) ∧ w' = w.setCell a (.int .i32 0)) := by
  have hd := disable
  have he := enable
  have hr := releaseMerge
  have hadd := run_call_add (P := Tryz.prog) Tryz.func101 (by kernel_rfl) (by kernel_rfl) (by kernel_rfl) .i32 (by kernel_rfl) (y := -1) (s := 0) hc hz (by simp [go_sem]; rfl)
  have hcv := run_convert_to_unsafe (P := Tryz.prog) (src := 151) (dst := 155) Tryz.underlying151 Tryz.underlying155 (by kernel_rfl) hc
  go_enter_d Tryz.func67, Tryz.ntmps67
  go_wp2
  go_end0
  go_wp2
  go_end0
  exact ⟨rfl, rfl⟩
/-- '(*sync.Mutex).Lock', the lock free -/
theorem lock_free (a : Addr) (w : World) (hc : w.cell? a = some (.int .i32 0)) (hz : w.frozen? a = false) :
    Calls Tryz.prog 66 #[.pointer (some a)] w fun e w' => e = .returned (.tuple #[]) ∧ w' = w.setCell a (.int .i32 1) := by
  have hd := disable
  have he := enable
  have ha := acquire
  have hcas := run_call_cas_hit (P := Tryz.prog) Tryz.func96 (by kernel_rfl) (by kernel_rfl) (by kernel_rfl) .i32 (by kernel_rfl) (y := 1) hc hz
  have hc' : (w.setCell a (.int .i32 1)).cell? a = some (.int .i32 1) := World.cell?_setCell_same w a _ hc
  have hcv := run_convert_to_unsafe (P := Tryz.prog) (src := 151) (dst := 155) Tryz.underlying151 Tryz.underlying155 (by kernel_rfl) hc'
  go_enter Tryz.func66, Tryz.ntmps66
  go_wp2
  first | go_end0 | (simp only [Exit.inBlock, Exit.then]; refine bodyPost_ret (results_none rfl _ _ _) rfl ?_) | refine bodyPost_ret (results_none rfl _ _ _) rfl ?_
  go_wp2
  go_end0
  exact ⟨rfl, rfl⟩
/-- what the once's function must leave as it is: the once, under way -/
def Held (b off : Nat) (w : World) : Prop := w.cell? ⟨b, off, none⟩ = some (.int .u32 0) ∧ w.frozen? ⟨b, off, none⟩ = false ∧ w.cell? ⟨b, off + 1, none⟩ = some (.int .i32 1) ∧ w.frozen? ⟨b, off + 1, none⟩ = false
/-- a once that wasn't asked, its lock free -/
def Fresh (b off : Nat) (w : World) : Prop := w.cell? ⟨b, off, none⟩ = some (.int .u32 0) ∧ w.frozen? ⟨b, off, none⟩ = false ∧ w.cell? ⟨b, off + 1, none⟩ = some (.int .i32 0) ∧ w.frozen? ⟨b, off + 1, none⟩ = false
/-- the lock is taken -/
def begun (b off : Nat) (w : World) : World := w.setCell ⟨b, off + 1, none⟩ (.int .i32 1)
/-- it is done, the lock is let go -/
def ended (b off : Nat) (w : World) : World := (w.drew.setCell ⟨b, off, none⟩ (.int .u32 1)).setCell ⟨b, off + 1, none⟩ (.int .i32 0)
theorem begun_held {b off : Nat} {w : World} (h : Fresh b off w) : Held b off (begun b off w) :=
  ⟨(World.cell?_setCell_other _ ⟨b, off + 1, none⟩ ⟨b, off, none⟩ _ (by simp)).trans h.1, by simp [begun, h.2.1], World.cell?_setCell_same w _ _ h.2.2.1, by simp [begun, h.2.2.2]⟩
set_option maxRecDepth 100000 in
set_option maxHeartbeats 1600000 in
theorem slow_any (a : Addr) (b off : Nat) (w : World) (Q : World → Prop) (hf : Fresh b off w) (HF : Calls Tryz.prog 22 #[.pointer (some a)] (begun b off w) (fun e w' => e = .returned (.tuple #[]) ∧ Q w')) (HQ : ∀ w', Q w' → Held b off w') :
    Calls Tryz.prog 42 #[.pointer (some ⟨b, off, none⟩), .func (.func 22) #[.pointer (some a)] #[]] w fun e w' => e = .returned (.tuple #[]) ∧ ∃ w2, Q w2 ∧ w' = ended b off w2 := by
  obtain ⟨h0, f0, h1, f1⟩ := hf
  have hh := begun_held ⟨h0, f0, h1, f1⟩
  have hl := run_call_load (P := Tryz.prog) Tryz.func65 (by kernel_rfl) (by kernel_rfl) (by kernel_rfl) .u32 (by kernel_rfl) (w := begun b off w) (a := ⟨b, off, none⟩) (x := 0) hh.1
  have hnot : ∀ (x : Bool) (w : World), (Op.unary .not (.bool x)).run Tryz.prog w = .ok (.bool (!x)) w := fun _ _ => rfl
  unfold begun at hl HF
  go_enter_defers Tryz.func42, Tryz.ntmps42
  go_wp2_with (go_at_call 66; refine (lock_free ⟨b, off + 1, none⟩ _ (by go_simp) (by go_simp)).mono ?_; rintro e w' ⟨rfl, rfl⟩)
  go_wp2_with (first | (go_at_call 41; go_in) | (go_at_call 22; refine HF.mono ?_; rintro e w2 ⟨rfl, hq⟩))
  obtain ⟨c0, z0, c1, z1⟩ := HQ w2 hq
  clear hl hnot hh HF h0 f0 h1 f1
  refine leaves_cons (f := 68) (args := #[.pointer (some ⟨b, off, none⟩), .bool true]) (by simp) (by simp [go_sem]) ?_
  refine (store_deferred ⟨b, off, none⟩ (.int .u32 0) .returning _ c0 z0).mono ?_
  rintro e u' w'' ⟨rfl, rfl, rfl⟩
  refine leaves_cons (f := 67) (args := #[.pointer (some ⟨b, off + 1, none⟩)]) (by simp [settle]) (by simp [go_sem]) ?_
  refine (unlock_deferred ⟨b, off + 1, none⟩ _ _ ?_ (by simp [z1])).mono ?_
  · refine (World.cell?_setCell_other _ ⟨b, off, none⟩ ⟨b, off + 1, none⟩ _ (by simp)).trans ?_
    rw [World.cell?_drew]
    exact c1
  rintro e u' w'' ⟨rfl, rfl, rfl⟩
  simp [Leaves, settle, results, Tryz.results42]
  exact ⟨w2, hq, rfl⟩
set_option maxHeartbeats 1600000 in
/-- '(*sync.Once).Do', not yet done -/
theorem do_first (a : Addr) (b off : Nat) (w : World) (Q : World → Prop) (hf : Fresh b off w) (HF : Calls Tryz.prog 22 #[.pointer (some a)] (begun b off w) (fun e w' => e = .returned (.tuple #[]) ∧ Q w')) (HQ : ∀ w', Q w' → Held b off w') :
    Calls Tryz.prog 21 #[.pointer (some ⟨b, off, none⟩), .func (.func 22) #[.pointer (some a)] #[]] w fun e w' => e = .returned (.tuple #[]) ∧ ∃ w2, Q w2 ∧ w' = ended b off w2 := by
  have hl := run_call_load (P := Tryz.prog) Tryz.func65 (by kernel_rfl) (by kernel_rfl) (by kernel_rfl) .u32 (by kernel_rfl) hf.1
  have hnot : ∀ (x : Bool) (w : World), (Op.unary .not (.bool x)).run Tryz.prog w = .ok (.bool (!x)) w := fun _ _ => rfl
  have HS := slow_any a b off w Q hf HF HQ
  clear hf HF HQ
  go_enter Tryz.func21, Tryz.ntmps21
  go_wp2_with (first | (go_at_call 42; refine HS.mono ?_; rintro e w' ⟨rfl, hq⟩) | (go_at_call 41; go_in))
  go_end0
  exact ⟨rfl, hq⟩
/-- '(*sync.Once).Do', done already -/
theorem do_done (b off : Nat) (fv : Value) (w : World) (h0 : w.cell? ⟨b, off, none⟩ = some (.int .u32 1)) :
    Calls Tryz.prog 21 #[.pointer (some ⟨b, off, none⟩), fv] w fun e w' => e = .returned (.tuple #[]) ∧ w' = w := by
  have hl := run_call_load (P := Tryz.prog) Tryz.func65 (by kernel_rfl) (by kernel_rfl) (by kernel_rfl) .u32 (by kernel_rfl) h0
  have hnot : ∀ (x : Bool) (w : World), (Op.unary .not (.bool x)).run Tryz.prog w = .ok (.bool (!x)) w := fun _ _ => rfl
  go_enter Tryz.func21, Tryz.ntmps21
  go_wp2
  go_end0
  exact ⟨rfl, rfl⟩
end Go.Proofs.YtihjdmdafiifhaaGreat.On

/- keys: a map in memory, asked or not; what its once does. No condition but those stated. -/
set_option linter.unusedVariables false
set_option linter.unusedSimpArgs false
namespace Go.Proofs.YtihjdmdafiifhaaGreat.P15
open Go.RowKit Kd P4 P5 Mv

/-- a map at block g: what was handed in, not looked at yet; or what is left -/
def MpW (w : World) (g : Nat) (S : MS) (Rd Wr : Nat → Prop) : Prop :=
  (S.asked = false ∧ ∃ (A : Option Addr) (n c : Nat), KB w g 0 0 (dptr S.doc) (.slice A n c) none none ∧ kI.Holds w w.heap.size A S.ids ∧ S.ids.length = n ∧ n ≤ 1000 ∧ (∀ o, A = some ⟨g, o, none⟩ → S.ids = []) ∧ (∀ k, Rd k ↔ ∃ o, A = some ⟨k, o, none⟩ ∧ S.ids ≠ []) ∧ ∀ k, Wr k ↔ k = g) ∨
  (S.asked = true ∧ ∃ (m1 m2 s1 : Nat) (f f2 : Lit → Option Value), KB w g 1 0 (.pointer none) (.slice none 0 0) (some m1) (some m2) ∧ MpK w m1 m2 s1 1000 f f2 S.left ∧ (∀ k, ¬ Rd k) ∧ ∀ k, Wr k ↔ k = g ∨ Wm m1 m2 f k)
def Asked (w : World) (g : Nat) (Wr : Nat → Prop) (left : List Ch) (w' : World) : Prop := ∃ (m1 m2 s1 : Nat) (f f2 : Lit → Option Value), KB w' g 1 0 (.pointer none) (.slice none 0 0) (some m1) (some m2) ∧ MpK w' m1 m2 s1 1000 f f2 left ∧ But Wr w w' ∧ ∀ k, k = g ∨ Wm m1 m2 f k → Wr k ∨ w.heap.size ≤ k
theorem Asked.after {w w' : World} {g : Nat} {Rd Wr : Nat → Prop} {S : MS} (h : Asked w g Wr S.left w') (ha : S.asked = true) : AfterM MpW w g Rd Wr S w' := by
  obtain ⟨m1, m2, s1, f, f2, h1, h2, h3, h4⟩ := h
  exact ⟨fun _ => False, fun k => k = g ∨ Wm m1 m2 f k, .inr ⟨ha, m1, m2, s1, f, f2, h1, h2, fun _ h => h, fun _ => Iff.rfl⟩, h3, h4, fun _ h => h.elim⟩
theorem Asked.on {w w1 w2 : World} {g : Nat} {Wr : Nat → Prop} {left : List Ch} (h : Asked w g Wr left w1) (hb : Below w1.heap.size w1 w2) : Asked w g Wr left w2 := by
  obtain ⟨m1, m2, s1, f, f2, h1, h2, h3, h4⟩ := h
  exact ⟨m1, m2, s1, f, f2, h1.kept (hb.block _ h1.lt), h2.but (But.of_below hb (fun _ => False)) (fun _ _ h => h), h3.trans (But.of_below hb (fun _ => False)) (fun _ _ h => h.elim), h4⟩
theorem mp_rd {w : World} {g k : Nat} {S : MS} {Rd Wr : Nat → Prop} (h : MpW w g S Rd Wr) (hk : Rd k) : k < w.heap.size := by
  rcases h with ⟨_, A, n, c, _, hh, _, _, _, hr, _⟩ | ⟨_, _, _, _, _, _, _, _, hr, _⟩
  · obtain ⟨o, hA, hne⟩ := (hr k).1 hk
    obtain ⟨b, o', hA', hb, _⟩ := cell_int hh (List.length_pos_iff.2 hne)
    rw [hA] at hA'
    injection hA' with e
    injection e with e
    omega
  · exact absurd hk (hr k)
theorem mp_wr {w : World} {g k : Nat} {S : MS} {Rd Wr : Nat → Prop} (h : MpW w g S Rd Wr) (hk : Wr k) : k < w.heap.size := by
  rcases h with ⟨_, A, n, c, hb, _, _, _, _, _, hw⟩ | ⟨_, _, _, _, _, _, hb, hm, _, hw⟩
  · rw [(hw k).1 hk]; exact hb.lt
  · rcases (hw k).1 hk with e | e
    · rw [e]; exact hb.lt
    · exact hm.lt e
theorem mp_noA {w : World} {g : Nat} {S : MS} {Rd Wr : Nat → Prop} (h : MpW w g S Rd Wr) : NoA w Wr := by
  intro k cur fr hk
  rcases h with ⟨_, A, n, c, hb, _, _, _, _, _, hw⟩ | ⟨_, _, _, _, _, _, hb, hm, _, hw⟩
  · exact noA_one hb k cur fr ((hw k).1 hk)
  · rcases (hw k).1 hk with e | e
    · exact noA_one hb k cur fr e
    · exact hm.noA k cur fr e
theorem mp_keep {w w' : World} {g : Nat} {S : MS} {Rd Wr : Nat → Prop} {T : Nat → Prop} (h : MpW w g S Rd Wr) (hb : But T w w') (hr : ∀ k, Rd k → ¬ T k) (hw : ∀ k, Wr k → ¬ T k) : MpW w' g S Rd Wr := by
  rcases h with ⟨ha, A, n, c, h1, h2, h3, h4, h5, h6, h7⟩ | ⟨ha, m1, m2, s1, f, f2, h1, h2, h3, h4⟩
  · refine .inl ⟨ha, A, n, c, h1.kept (hb.block g h1.lt (hw g ((h7 g).2 rfl))), ?_, h3, h4, h5, h6, h7⟩
    cases hi : S.ids with
    | nil => exact Kind.Holds.nil _ _ _
    | cons a r =>
      rw [hi] at h2
      refine (h2.keep fun b ⟨o, hA⟩ hlt => hb.block b hlt (hr b ((h6 b).2 ⟨o, hA, by rw [hi]; simp⟩))).more hb.size
  · exact .inr ⟨ha, m1, m2, s1, f, f2, h1.kept (hb.block g h1.lt (hw g ((h4 g).2 (.inl rfl)))), h2.but hb (fun k hk => hw k ((h4 k).2 (.inr hk))), h3, h4⟩
set_option maxRecDepth 100000
/-- it is asked -/
theorem ask_any {w : World} {g : Nat} {S : MS} {Rd Wr : Nat → Prop} {l : List Nd} (h : MpW w g S Rd Wr) (hd : S.ids.Nodup) (hx : AskOk w S l) :
    Calls Tryz.prog 21 #[.pointer (some ⟨g, 0, none⟩), .func (.func 22) #[.pointer (some ⟨g, 0, none⟩)] #[]] w fun e w' => e = .returned (.tuple #[]) ∧ Asked w g Wr (asks S l).left w' := by
  rcases h with ⟨ha, A, n, c, h1, h2, h3, h4, h5, h6, h7⟩ | ⟨ha, m1, m2, s1, f, f2, h1, h2, h3, h4⟩
  · have hk : KB (On.begun g 0 w) g 0 1 (dptr S.doc) (.slice A n c) none none := KB.set h1
    have hbb : But (fun k => k = g) w (On.begun g 0 w) := But.setCell (S := fun k => k = g) (But.refl _ w) (p := ⟨g, 0 + 1, none⟩) (fun _ => rfl) _
    have hsz : (On.begun g 0 w).heap.size = w.heap.size := by simp [On.begun]
    refine (On.do_first ⟨g, 0, none⟩ g 0 w (Filled (On.begun g 0 w) g (.pointer none) (.slice none 0 0) 1 (leftOf S.doc l S.ids)) ⟨h1.c0, h1.fz 0, h1.c1, h1.fz 1⟩ ?_ ?_).mono ?_
    · refine fill_any S.doc S.ids l hk ?_ h3 h4 hd h5 ?_
      · cases hi : S.ids with
        | nil => exact Kind.Holds.nil _ _ _
        | cons a r =>
          rw [hi] at h2
          rw [hsz]
          exact h2.keep fun b ⟨o, hA⟩ hlt => hbb.block b hlt (fun e => by
            subst e
            have := h5 o hA
            rw [hi] at this
            cases this)
      · intro p hp
        obtain ⟨B, x, a1, a2, a3, a4⟩ := hx ha p hp
        exact ⟨B, x, a1.but hbb (fun k hk e => foot_not a1 h1 (e ▸ hk)) (noA_one h1), a2, a3, a4⟩
    · rintro w' ⟨m1, m2, s1, f, f2, q1, _⟩
      exact ⟨q1.c0, q1.fz 0, q1.c1, q1.fz 1⟩
    · rintro e w' ⟨rfl, w2, ⟨m1, m2, s1, f, f2, q1, q2, q3, q4⟩, rfl⟩
      have r1 : KB (On.ended g 0 w2) g 1 0 (.pointer none) (.slice none 0 0) (some m1) (some m2) := KB.set (KB.set (show w2.drew.heap[g]? = _ from q1))
      have hb2 : But (fun k => k = g) w2 (On.ended g 0 w2) := But.setCell (S := fun k => k = g) (But.setCell (S := fun k => k = g) (But.refl _ w2).drew (p := ⟨g, 0, none⟩) (fun _ => rfl) _) (p := ⟨g, 0 + 1, none⟩) (fun _ => rfl) _
      refine ⟨rfl, m1, m2, s1, f, f2, r1, ?_, ?_, fun k hk => ?_⟩
      · have : (asks S l).left = leftOf S.doc l S.ids := by
          unfold asks leftOf
          rw [if_neg (by rw [ha]; decide)]
          cases S.doc <;> rfl
        rw [this]
        exact q2.but hb2 (fun k hk e => q2.not_KB q1 (e ▸ hk))
      · exact ((hbb.trans q3 (fun _ _ e => e)).trans hb2 (fun _ _ e => e)).mono (fun k _ e => (h7 k).2 e)
      · rcases hk with e | e
        · exact .inl ((h7 k).2 e)
        · have := q4 k e
          rw [hsz] at this
          exact .inr this
  · refine (On.do_done g 0 _ w h1.c0).mono ?_
    rintro e w' ⟨rfl, rfl⟩
    rw [asks_left ha]
    exact ⟨rfl, m1, m2, s1, f, f2, h1, h2, But.refl _ _, fun k hk => .inl ((h4 k).2 hk)⟩
end Go.Proofs.YtihjdmdafiifhaaGreat.P15
