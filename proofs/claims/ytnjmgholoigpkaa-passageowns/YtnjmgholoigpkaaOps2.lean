/- More single operations; when a guarded operation is wanted. -/
import Derived.Test.YtnjmgholoigpkaaIdx
namespace Go.Proofs.Ytnjmgholoigpkaa
open Go.RowKit Go.Sort
section
variable {ev : Operand → Value} {W : World} {dst : Option Nat} {ty : TypeId} {pos : String} {af : Array Edge} {gd : Option (Nat × Bool)}
theorem run_loadF {F : Int → Int} {u : Value} {b : Nat} {x : Operand} (hx : ev x = .pointer (some ⟨b, 0, none⟩)) (hc : W.cell? ⟨b, 0, none⟩ = some u) (hu : Lev F u W) :
    (execOp ev { dst := dst, op := .load 60 x, type := ty, pos := pos, after := af, guard := gd }).run Try.prog W = .ok (.value u) W := by
  obtain ⟨f, cap, rfl, _, _⟩ := hu
  go_simp
theorem run_gtr {a b : Int} {x y : Operand} {t : TypeId} (hx : ev x = .int .i64 a) (hy : ev y = .int .i64 b) :
    (execOp ev { dst := dst, op := .binOp .gtr 3 x y t, type := ty, pos := pos, after := af, guard := gd }).run Try.prog W = .ok (.value (.bool (decide (b < a)))) W := by
  go_simp
theorem run_not {a : Bool} {x : Operand} (hx : ev x = .bool a) :
    (execOp ev { dst := dst, op := .unOp .not 4 x, type := ty, pos := pos, after := af, guard := gd }).run Try.prog W = .ok (.value (.bool (!a))) W := by
  go_simp
theorem run_pick_yes {x y z : Operand} {v : Value} (hx : ev x = .bool true) (hy : ev y = v) :
    (execOp ev { dst := dst, op := .pick x y z, type := ty, pos := pos, after := af, guard := gd }).run Try.prog W = .ok (.value v) W := by
  go_simp
theorem run_pick_no {x y z : Operand} {v : Value} (hx : ev x = .bool false) (hz : ev z = v) :
    (execOp ev { dst := dst, op := .pick x y z, type := ty, pos := pos, after := af, guard := gd }).run Try.prog W = .ok (.value v) W := by
  go_simp
theorem lv_nil (c : Int) (W : World) : LV (c, []) (.agg #[.int .i64 c, .slice none 0 0]) W := ⟨none, 0, rfl, fun j h => absurd h (by simp), by simp, by simp⟩
end
theorem map_1 {f : Operand → Value} {a : Operand} : Array.map f #[a] = #[f a] := by simp
theorem map_2 {f : Operand → Value} {a b : Operand} : Array.map f #[a, b] = #[f a, f b] := by simp
theorem map_3 {f : Operand → Value} {a b c : Operand} : Array.map f #[a, b, c] = #[f a, f b, f c] := by simp
theorem map_4 {f : Operand → Value} {a b c d : Operand} : Array.map f #[a, b, c, d] = #[f a, f b, f c, f d] := by simp
theorem map_6 {f : Operand → Value} {a b c d e g : Operand} : Array.map f #[a, b, c, d, e, g] = #[f a, f b, f c, f d, f e, f g] := by simp
/- Guards. -/
theorem yielded_of {l : List Oper} {a' : Act} {j d : Nat} {b : Bool} {n : Nat} (hs : a'.tmps.size = n) (hd : (l[j]?).bind (·.dst) = some d) (hn : d < n) (hv : a'.eval (.tmp d) = .bool b) : yielded l.toArray a'.tmps j = some b := by
  unfold yielded
  simp only [List.getElem?_toArray]
  rw [hd]
  simp only [Option.bind_some]
  have hlt : d < a'.tmps.size := by omega
  simp only [Act.eval, Array.getD_eq_getD_getElem?, Array.getElem?_eq_getElem hlt, Option.getD_some] at hv
  rw [Array.getElem?_eq_getElem hlt, hv]
theorem want_yes {l : List Oper} {o : Oper} {a' : Act} {j d : Nat} {b : Bool} {n : Nat} (ho : o.guard = some (j, b)) (hs : a'.tmps.size = n) (hn : d < n) (hd : (l[j]?).bind (·.dst) = some d) (hv : a'.eval (.tmp d) = .bool b) : Region.wanted o (yielded l.toArray a'.tmps) = true := by
  unfold Region.wanted
  rw [ho]
  simp only
  rw [yielded_of hs hd hn hv]
  simp
theorem want_no {l : List Oper} {o : Oper} {a' : Act} {j d : Nat} {b b' : Bool} {n : Nat} (ho : o.guard = some (j, b)) (hs : a'.tmps.size = n) (hn : d < n) (hd : (l[j]?).bind (·.dst) = some d) (hv : a'.eval (.tmp d) = .bool b') (hb : ¬ b' = b) : Region.wanted o (yielded l.toArray a'.tmps) = false := by
  unfold Region.wanted
  rw [ho]
  simp only
  rw [yielded_of hs hd hn hv]
  simpa using hb
end Go.Proofs.Ytnjmgholoigpkaa
