/- Worlds in which one block that holds an instruction may have turned, and nothing else that is old. -/
import Derived.Test.YtgldkmabhmlijaaGreatDoorRParse0
import Derived.Test.YtgldkmabhmlijaaGreatDoorPhase7
namespace Go.Proofs.YtgldkmabhmlijaaGreatDoor
open Go.RowKit Go.Sort
theorem yielded_of {l : List Oper} {a' : Act} {j d : Nat} {b : Bool} {n : Nat} (hs : a'.tmps.size = n) (hd : (l[j]?).bind (·.dst) = some d) (hn : d < n) (hv : a'.eval (.tmp d) = .bool b) : yielded l.toArray a'.tmps j = some b := by
  unfold yielded
  simp only [List.getElem?_toArray]
  rw [hd]
  simp only [Option.bind_some]
  have hlt : d < a'.tmps.size := by omega
  simp only [Act.eval, Array.getD_eq_getD_getElem?, Array.getElem?_eq_getElem hlt, Option.getD_some] at hv
  rw [Array.getElem?_eq_getElem hlt, hv]
theorem want_yes {l : List Oper} {o : Oper} {a' : Act} {j d : Nat} {b : Bool} {n : Nat} (ho : o.guard = some (j, b)) (hs : a'.tmps.size = n) (hn : d < n) (hd : (l[j]?).bind (·.dst) = some d) (hv : a'.eval (.tmp d) = .bool b) : Region.wanted o (yielded l.toArray a'.tmps) = true := by
  unfold Region.wanted
  rw [ho]
  simp only
  rw [yielded_of hs hd hn hv]
  simp
theorem text_up (c : Cod) (hr : rightC c = true) : (textC c).length ≤ 100 := by
  obtain ⟨l1, l2, l3, l4, l5⟩ := right_lim hr
  have := txK_len c (sh c.op) 3 (fOk_of l2 l3 l4 l5)
  show (txK c (sh c.op) 3).length ≤ 100
  omega
structure KR (R : Nat) (A B : World) : Prop where
  os : B.os = A.os
  tape : B.tape = A.tape
  output : B.output = A.output
  size : A.heap.size ≤ B.heap.size
  same : ∀ k, k < A.heap.size → k ≠ R → B.heap[k]? = A.heap[k]?
  res : ∀ c, At5 A R c → ∃ c', At5 B R c'
theorem KR.below {R : Nat} {A B : World} (h : Below A.heap.size A B) : KR R A B :=
  ⟨h.os, h.tape, h.output, h.size, fun k hk _ => h.block k hk, fun c hc => ⟨c, hc.below h hc.1⟩⟩
theorem KR.trans {R : Nat} {A B C : World} (h : KR R A B) (k : KR R B C) : KR R A C :=
  ⟨k.os.trans h.os, k.tape.trans h.tape, k.output.trans h.output, Nat.le_trans h.size k.size, fun j hj hn => (k.same j (Nat.lt_of_lt_of_le hj h.size) hn).trans (h.same j hj hn), fun c hc => by obtain ⟨c', hc'⟩ := h.res c hc; exact k.res c' hc'⟩
theorem KR.at5 {R B : Nat} {A X : World} {c : Cod} (h : KR R A X) (ha : At5 A B c) (hn : B ≠ R) : At5 X B c := ha.kept (h.same B ha.1 hn) h.size
theorem KR.set {R : Nat} {X : World} {c1 : Cod} (h : At5 X R c1) (c : Cod) : KR R X (set5 X R c) := by
  have hb := set5_below (n := R) (W := X) c (Nat.le_refl R)
  refine ⟨hb.os, hb.tape, hb.output, hb.size, fun k hk hn => ?_, fun _ _ => ⟨c, h.set5 c⟩⟩
  unfold set5
  simp only [World.setCell, Array.getElem?_modify, if_neg (Ne.symm hn)]
theorem KR.out {R : Nat} {w A B : World} (h : KR R A B) (hb : Below R w A) (hw : w.heap.size = R) : Below R w B :=
  ⟨h.os.trans hb.os, h.tape.trans hb.tape, h.output.trans hb.output, Nat.le_trans hb.size h.size, fun k hk => (h.same k (by have := hb.size; omega) (by omega)).trans (hb.block k hk)⟩
end Go.Proofs.YtgldkmabhmlijaaGreatDoor
