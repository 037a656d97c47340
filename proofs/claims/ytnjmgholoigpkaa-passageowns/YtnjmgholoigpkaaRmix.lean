/- What Join and Meet of the reference answer, for every two labels. -/
import Derived.Test.YtnjmgholoigpkaaMx
import Derived.Test.YtnjmgholoigpkaaTail
namespace Go.Proofs.Ytnjmgholoigpkaa
open Go.RowKit Go.Sort

/-- A world that is as another was, but for one block and what is new. -/
structure Kp (b : Nat) (w w' : World) : Prop where
  os : w'.os = w.os
  tape : w'.tape = w.tape
  output : w'.output = w.output
  size : w.heap.size ≤ w'.heap.size
  block : ∀ k, k < w.heap.size → k ≠ b → w'.heap[k]? = w.heap[k]?
theorem Kp.refl (b : Nat) (w : World) : Kp b w w := ⟨rfl, rfl, rfl, Nat.le_refl _, fun _ _ _ => rfl⟩
theorem Kp.on {b : Nat} {w w' w2 : World} (h : Kp b w w') (hb : Below w'.heap.size w' w2) : Kp b w w2 :=
  ⟨hb.os.trans h.os, hb.tape.trans h.tape, hb.output.trans h.output, Nat.le_trans h.size hb.size, fun k hk hn => (hb.block k (Nat.lt_of_lt_of_le hk h.size)).trans (h.block k hk hn)⟩
theorem Kp.set {b : Nat} {w w' : World} (h : Kp b w w') (o : Nat) (u : Value) : Kp b w (w'.setCell ⟨b, o, none⟩ u) :=
  ⟨h.os, h.tape, h.output, by simpa using h.size, fun k hk hn => (Below.heap_setCell w' ⟨b, o, none⟩ u k hn).trans (h.block k hk hn)⟩
theorem Kp.cell {b : Nat} {w w' : World} (h : Kp b w w') {p : Addr} (hp : p.block < w.heap.size) (hn : p.block ≠ b) : w'.cell? p = w.cell? p := World.cell?_of_block (w := w) (h.block p.block hp hn)
theorem Kp.frozen {b : Nat} {w w' : World} (h : Kp b w w') {p : Addr} (hp : p.block < w.heap.size) (hn : p.block ≠ b) : w'.frozen? p = w.frozen? p := World.frozen?_of_block (w := w) (h.block p.block hp hn)
theorem Kp.below {b B : Nat} {w w' : World} (h : Kp b w w') (hB : B ≤ b) (hB' : B ≤ w.heap.size) : Below B w w' :=
  ⟨h.os, h.tape, h.output, h.size, fun k hk => h.block k (by omega) (by omega)⟩

theorem calls_bel {P : Program} {f : FuncId} {args : Array Value} {W0 W : World} {v : Value} (hW : Below W0.heap.size W0 W)
    (h : Calls P f args W fun e w' => e = .returned v ∧ Below W.heap.size W w') : Calls P f args W fun e w'' => e = .returned v ∧ ∃ p : GrownBy, w'' = gx W0 p.n p.os :=
  h.mono fun _ _ ⟨he, hb⟩ => ⟨he, below_gx (hW.trans (hb.mono hW.size))⟩
theorem bel_drew0 {W : World} : Below W.heap.size W W.drew := (Below.refl _ _).drew
theorem bel_drew {W : World} {n : Nat} {os : Array Obj} : Below W.heap.size W (gx W n os).drew := (gx_below W n os).drew
theorem bel_put {b : Nat} {w1 wr w5 : World} {n : Nat} {os : Array Obj} (hK : Kp b w1 wr) (h : Below (gx wr n os).heap.size (gx wr n os) w5) : Kp b w1 w5 := hK.on ((gx_below wr n os).trans (h.mono (gx_below wr n os).size))
theorem out_kept {b : Nat} {wr w5 : World} {n : Nat} {os : Array Obj} {v0 v1 : Value} (o0 : wr.cell? ⟨b, 0, none⟩ = some v0) (o1 : wr.cell? ⟨b, 1, none⟩ = some v1) (of : ∀ o, wr.frozen? ⟨b, o, none⟩ = false) (h : Below (gx wr n os).heap.size (gx wr n os) w5) (hb : b < wr.heap.size) :
    w5.cell? ⟨b, 0, none⟩ = some v0 ∧ w5.cell? ⟨b, 1, none⟩ = some v1 ∧ ∀ o, w5.frozen? ⟨b, o, none⟩ = false := by
  have hB := (gx_below wr n os).trans (h.mono (gx_below wr n os).size)
  exact ⟨(hB.cell (p := ⟨b, 0, none⟩) hb).trans o0, (hB.cell (p := ⟨b, 1, none⟩) hb).trans o1, fun o => (hB.frozen (p := ⟨b, o, none⟩) hb).trans (of o)⟩
def rmixS (m : Int → Int → Int) (A B : Lab) : List (Int × Int) := shortS (m A.d B.d) (rowS (fun c => m (atS A.d A.xs c) (atS B.d B.xs c)) (namedS [A, B]))

end Go.Proofs.Ytnjmgholoigpkaa
