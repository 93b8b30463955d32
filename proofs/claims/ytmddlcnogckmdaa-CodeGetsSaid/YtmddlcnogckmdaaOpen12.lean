/- A slice of instructions, and a slice of bytes, opened out of arguments. No condition. -/
import Derived.Test.YtmddlcnogckmdaaOpen11
import Derived.Test.YtmddlcnogckmdaaRcode12
set_option linter.unusedVariables false
set_option linter.unusedSimpArgs false
namespace Go.Proofs.Ytmddlcnogckmdaa.P12
open Go.RowKit Go.ChangeShapes Go.WideShapes Go.Deep Kd P4 P11

theorem cellsU8 : Try.prog.cellsOf 5 = 1 := by kernel_rfl
set_option maxRecDepth 100000 in
theorem open_inss {H : Type} {enc : TypeId × Value → H} {w : World} {v : Value} {d : DataW H} {p : List MemPlace} {base : Nat}
    (hv : Value.okWide Try.prog w .any base 22 v) (h : DataW.Trod enc Try.prog w 0 (fun _ => true) true 22 v d p) :
    ∃ A n c l, v = .slice A n c ∧ l.length = n ∧ n ≤ c ∧ c ≤ maxLen ∧ (∀ a ∈ l, a.a.size ≤ maxLen ∧ a.b.size ≤ maxLen) ∧ kX.Holds w w.heap.size A l :=
  kX.open_ (base := base) (⟨0, ⟨#[]⟩, ⟨#[]⟩⟩ : In) (fun a => a.a.size ≤ maxLen ∧ a.b.size ≤ maxLen) cellsX (fun fuel cs x h hl => open_ins_cells fuel cs x h hl) hv h
set_option maxRecDepth 100000 in
/-- a nil slice that is handed in has no room -/
theorem nil_room {H : Type} {enc : TypeId × Value → H} {w : World} {t e : TypeId} (ht : Try.prog.underlying t = some (.slice e)) {n c : Nat} {d : DataW H} {p : List MemPlace}
    (h : DataW.Trod enc Try.prog w 0 (fun _ => true) true t (.slice none n c) d p) : c = 0 := by
  obtain ⟨fuel, hf⟩ := h
  rcases DataW.trod_slice ht hf with ⟨hcs, _⟩ | ⟨ad, len, cap, elems, rest, m, hfu, hcs, _⟩
  · have e : n = 0 ∧ c = 0 := by simpa [Value.cells] using hcs
    exact e.2
  · exact absurd hcs (by simp [Value.cells])
set_option maxRecDepth 100000 in
theorem open_bytes {H : Type} {enc : TypeId × Value → H} {w : World} {v : Value} {d : DataW H} {p : List MemPlace} {base : Nat}
    (hv : Value.okWide Try.prog w .any base 25 v) (h : DataW.Trod enc Try.prog w 0 (fun _ => true) true 25 v d p) :
    ∃ A n c l, v = .slice A n c ∧ l.length = n ∧ n ≤ c ∧ c ≤ maxLen ∧ (A = none → c = 0) ∧ kB.Holds w w.heap.size A l := by
  obtain ⟨A, n, c, l, h1, h2, h3, h4, _, h5⟩ := kB.open_ (base := base) (0 : UInt8) (fun _ => True) cellsU8 (fun fuel cs x hx _ => by
    obtain ⟨z, rfl, _, hz⟩ := DataW.trod_int Try.underlying5 hx
    simp [Lit.wf] at hz
    refine ⟨UInt8.ofNat z.toNat, ?_, trivial⟩
    have h1 : 0 ≤ z := hz.1
    have h2 : z ≤ 255 := hz.2
    have hz2 : z.toNat < 256 := by omega
    have e : (((UInt8.ofNat z.toNat).toNat : Nat) : Int) = z := by
      rw [show (UInt8.ofNat z.toNat).toNat = z.toNat from UInt8.toNat_ofNat_of_lt' (by simpa using hz2)]
      omega
    show [Value.int .u8 z] = [Value.int .u8 (((UInt8.ofNat z.toNat).toNat : Nat) : Int)]
    rw [e]) hv h
  subst h1
  refine ⟨A, n, c, l, rfl, h2, h3, h4, ?_, h5⟩
  rintro rfl
  exact nil_room Try.underlying25 h
end Go.Proofs.Ytmddlcnogckmdaa.P12
