/- What placketref11.texts, text and Put answer. No condition but those stated. -/
import Derived.Test.YtmddlcnogckmdaaPlain12
import Derived.Lib.ConvBytes
import Derived.Deep.DeepCutAuto
import Derived.Deep.CutBlock
set_option linter.unusedVariables false
set_option linter.unusedSimpArgs false
namespace Go.Proofs.Ytmddlcnogckmdaa.P12
open Go.RowKit Kd P4 P11

theorem infoB : (Try.prog.info? 5).map (fun i => (i.zero, i.size, i.bytes)) = some (some (.int .u8 0), 1, 1) := by kernel_rfl
def kB : Kind Try.prog UInt8 where
  t := 25
  e := 5
  size := 1
  bytes := 1
  z := .int .u8 0
  cs := fun c => [.int .u8 (c.toNat : Int)]
  ht := Try.underlying25
  info := info_ex infoB
  hzs := rfl
  hpos := by decide
  hbb := by decide
  len := fun _ => rfl
  one := fun a u hu => by simp at hu; subst hu; rfl
theorem kB_at (l : List UInt8) (j : Nat) : (kB.cells l)[j]? = (l[j]?).map (fun c => Value.int .u8 (c.toNat : Int)) := by
  induction l generalizing j with
  | nil => simp [Kind.cells]
  | cons a l ih =>
    show ((.int .u8 (a.toNat : Int)) :: kB.cells l)[j]? = _
    cases j with
    | zero => rfl
    | succ j => simpa using ih j
theorem texts_any (op : Int) (w : World) : Calls Try.prog 20 #[.int .i64 op] w fun e w' => e = .returned (.int .i64 (textsN op : Nat)) ∧ w = w' := by
  by_cases h1 : op = 1
  · subst h1
    go_enter Try.func20, Try.ntmps20
    go_wp2_with fail
    go_ret
    exact ⟨rfl, rfl⟩
  by_cases h3 : op = 3
  · subst h3
    go_enter Try.func20, Try.ntmps20
    go_wp2_with fail
    go_ret
    exact ⟨rfl, rfl⟩
  by_cases h5 : op = 5
  · subst h5
    go_enter Try.func20, Try.ntmps20
    go_wp2_with fail
    go_ret
    exact ⟨rfl, rfl⟩
  by_cases h6 : op = 6
  · subst h6
    go_enter Try.func20, Try.ntmps20
    go_wp2_with fail
    go_ret
    exact ⟨rfl, rfl⟩
  by_cases h4 : op = 4
  · subst h4
    go_enter Try.func20, Try.ntmps20
    go_wp2_with fail
    go_ret
    exact ⟨rfl, rfl⟩
  have HT : Hid (textsN op = 0) := Lib.hid (by unfold textsN; rw [if_neg (by omega), if_neg h4])
  have q1 := int_ne h1; have q3 := int_ne h3; have q4 := int_ne h4; have q5 := int_ne h5; have q6 := int_ne h6
  go_enter Try.func20, Try.ntmps20
  go_wp2_with fail
  go_ret
  exact ⟨by rw [HT.out]; rfl, rfl⟩
/-- bytes of one's own -/
def Bv (w : World) (l : List UInt8) (e : Ending) (w' : World) : Prop := ∃ (A : Option Addr) (n c : Nat), e = .returned (.slice A n c) ∧ kB.Own w' w.heap.size (.slice A n c) l ∧ Below w.heap.size w w'
theorem bytes_holds (w : World) (s : ByteArray) : kB.Holds (Lib.bytesWorld w 5 s) (w.heap.size + 1) (some ⟨w.heap.size, 0, none⟩) s.data.toList := by
  intro j u hj
  rw [kB_at] at hj
  obtain ⟨c, hc, rfl⟩ := Option.map_eq_some_iff.1 hj
  have hl := (List.getElem?_eq_some_iff.1 hc).1
  refine ⟨_, 0, rfl, by omega, ?_⟩
  rw [Nat.zero_add, Lib.bytesWorld_cell w _ s j (by simpa using hl), List.getD_eq_getElem?_getD, hc]
  rfl
theorem bytes_below (w : World) (s : ByteArray) : Below w.heap.size w (Lib.bytesWorld w 5 s) :=
  ⟨by simp [Lib.bytesWorld, World.freeze]; rfl, by simp [Lib.bytesWorld, World.freeze], by simp [Lib.bytesWorld, World.freeze]; rfl, by rw [Lib.bytesWorld_size]; omega, fun k hk => Lib.bytesWorld_at_old w _ s k hk⟩
theorem own_one {w : World} {B : Nat} {c : UInt8} {g : Nat} (h : w.heap[g]? = some (.cells #[.int .u8 (c.toNat : Int)] 5 (0, 0))) (hB : B ≤ g) : kB.Own w B (.slice (some ⟨g, 0, none⟩) 1 1) [c] :=
  Kind.own_mk (K := kB) (cur := #[.int .u8 (c.toNat : Int)]) rfl hB h (Nat.le_refl _) (by simp [maxLen]) rfl rfl
set_option maxHeartbeats 2000000 in
theorem text_any (s : ByteArray) (w : World) (hs : s.size ≤ 255) : Calls Try.prog 21 #[.string s] w (Bv w (textH s)) := by
  have hn : IntKind.u8.wrap (s.size : Int) = (s.size : Int) := by
    simp [IntKind.wrap, IntKind.bits, IntKind.signed]
    omega
  have kc : ∀ W : World, (convert 9 25 (.string s)).run Try.prog W = .ok (.slice (some ⟨W.heap.size, 0, none⟩) s.size (grownCap W s.size 0 5)) (Lib.bytesWorld W 5 s) := fun W => Lib.run_convert_string_bytes W _ _ _ s Try.underlying9 Try.underlying25 Try.underlying5
  have OWN : Hid (kB.Own (Lib.bytesWorld (w.alloc (.cells #[.int .u8 (s.size : Int)] 5)) 5 s) w.heap.size (.slice (some ⟨w.heap.size, 0, none⟩) 1 1) [UInt8.ofNat s.size]) := Lib.hid (own_one (by
    rw [byte_size hs]
    exact (Lib.bytesWorld_at_old _ _ s w.heap.size (by simp)).trans (heap_alloc_new w _)) (Nat.le_refl _))
  have HLD : Hid (kB.Holds (Lib.bytesWorld (w.alloc (.cells #[.int .u8 (s.size : Int)] 5)) 5 s) (w.heap.size + 2) (some ⟨w.heap.size + 1, 0, none⟩) s.data.toList) := Lib.hid (by
    have := bytes_holds (w.alloc (.cells #[.int .u8 (s.size : Int)] 5)) s
    simpa using this)
  have BW : Hid (Below w.heap.size w (Lib.bytesWorld (w.alloc (.cells #[.int .u8 (s.size : Int)] 5)) 5 s)) := Lib.hid (((Below.refl w.heap.size w).alloc (Nat.le_refl _) _).trans ((bytes_below _ s).mono (by simp)))
  have hbs := BW.out.size
  go_enter Try.func21, Try.ntmps21
  go_wp2_with (at_builtin; refine kB.wp_app rfl _ _ rfl (v := .slice (some ⟨w.heap.size, 0, none⟩) 1 1) (l := [UInt8.ofNat s.size]) (m := s.data.toList) (B := w.heap.size) rfl OWN.out rfl (len_size s) (fun e => by cases e) HLD.out (by simp; omega) hbs ?_; intro v' w4 hown' hgrow hat; obtain ⟨A', n', c', rfl, e1, e2, e3, e4, e5⟩ := hown'.slice; have B4 : Hid (Below w.heap.size w w4) := Lib.hid (BW.out.grown hgrow (Nat.le_trans (Nat.le_refl _) hbs) (fun k hk => (OWN.out.lt hk).1)); have O4 := Lib.hid hown'; clear hown' hgrow hat e1 e2 e3 e4 e5)
  go_ret
  exact ⟨A', n', c', rfl, O4.out, B4.out⟩
end Go.Proofs.Ytmddlcnogckmdaa.P12
