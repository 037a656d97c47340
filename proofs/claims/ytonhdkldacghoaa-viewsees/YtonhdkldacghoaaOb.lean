/- Objects: their cells, how they lie in memory, and how a whole one is loaded. -/
import Derived.Test.YtonhdkldacghoaaSame
import Derived.Test.YtonhdkldacghoaaTail
namespace Go.Proofs.Ytonhdkldacghoaa
open Go.RowKit Go.Sort

structure Mp where
  at_ : Int
  pg : Int
  inn : Int
  id : Int
  fr : Int
  wr : Bool
  rn : Bool
structure Ob where
  id : Int
  kind : Int
  quota : Int
  used : Int
  links : Int
  L : Lab
  lp : Option Addr
  lc : Nat
  ls : List Int
  bytes : ByteArray
  mp : Option Addr
  mc : Nat
  ms : List Mp
  C : Lab
  sin : Int
  sid : Int
  st : List Int
  entry : Int
  does : Int
  seg : Int
  off : Int
  ap : Option Addr
  ac : Nat
  al : List Int
  heard : ByteArray
  out : ByteArray
def Ob.hd (o : Ob) : List Value := [.int .i64 o.id, .int .i64 o.kind, .int .i64 o.quota, .int .i64 o.used, .int .i64 o.links, .int .i64 o.L.d, .slice o.L.p o.L.xs.length o.L.cap, .slice o.lp o.ls.length o.lc, .string o.bytes, .slice o.mp o.ms.length o.mc, .int .i64 o.C.d, .slice o.C.p o.C.xs.length o.C.cap, .int .i64 o.sin, .int .i64 o.sid]
def Ob.tl (o : Ob) : List Value := [.int .u64 o.entry, .int .i64 o.does, .int .i64 o.seg, .int .i64 o.off, .slice o.ap o.al.length o.ac, .string o.heard, .string o.out]
def Ob.cl (o : Ob) : List Value := o.hd ++ (o.st.map (Value.int .u64) ++ o.tl)
def Ob.cs (o : Ob) : Array Value := o.cl.toArray
theorem Ob.size {o : Ob} (h : o.st.length = 17) : o.cs.size = 38 := by simp [Ob.cs, Ob.cl, Ob.hd, Ob.tl, h]
theorem Ob.head (o : Ob) (i : Nat) (h : i < 14) : o.cs[i]? = o.hd[i]? := by
  simp only [Ob.cs, List.getElem?_toArray, Ob.cl]
  rw [List.getElem?_append_left (by simpa [Ob.hd] using h)]
theorem Ob.tail (o : Ob) (hs : o.st.length = 17) (i : Nat) : o.cs[31 + i]? = o.tl[i]? := by
  simp only [Ob.cs, List.getElem?_toArray, Ob.cl]
  rw [List.getElem?_append_right (by simp [Ob.hd]; omega), List.getElem?_append_right (by simp [Ob.hd, hs]; omega)]
  congr 1
  simp [Ob.hd, hs]; omega
theorem Ob.mid (o : Ob) (hs : o.st.length = 17) (i : Nat) (hi : i < 17) : o.cs[14 + i]? = some (.int .u64 (o.st[i]'(by omega))) := by
  simp only [Ob.cs, List.getElem?_toArray, Ob.cl]
  rw [List.getElem?_append_right (by simp [Ob.hd])]
  simp only [Ob.hd, List.length_cons, List.length_nil]
  rw [show 14 + i - (0 + 1 + 1 + 1 + 1 + 1 + 1 + 1 + 1 + 1 + 1 + 1 + 1 + 1 + 1) = i from by omega, List.getElem?_append_left (by simpa [hs] using hi)]
  simp [hs, hi]
theorem Ob.one {o : Ob} : o.cs.all (·.oneCell') = true := by
  simp [Ob.cs, Ob.cl, Ob.hd, Ob.tl, Value.oneCell']

def IntsAt (w : World) (p : Option Addr) (l : List Int) : Prop := ∀ k (h : k < l.length), ∃ b off, p = some ⟨b, off, none⟩ ∧ b < w.heap.size ∧ w.cell? ⟨b, off + k, none⟩ = some (.int .i64 l[k])
theorem IntsAt.below {w w' : World} {p : Option Addr} {l : List Int} (h : IntsAt w p l) (hb : Below w.heap.size w w') : IntsAt w' p l := fun k hk => by
  obtain ⟨b, off, hp, hbl, hc⟩ := h k hk
  exact ⟨b, off, hp, Nat.lt_of_lt_of_le hbl hb.size, (hb.cell (p := ⟨b, off + k, none⟩) hbl).trans hc⟩
def mpC (m : Mp) : Array Value := #[.int .i64 m.at_, .int .i64 m.pg, .int .i64 m.inn, .int .i64 m.id, .int .i64 m.fr, .bool m.wr, .bool m.rn]
def MsAt (w : World) (p : Option Addr) (l : List Mp) : Prop := ∀ k (h : k < l.length), ∃ b off, p = some ⟨b, off, none⟩ ∧ b < w.heap.size ∧ ∀ f u, (mpC l[k])[f]? = some u → w.cell? ⟨b, off + k * 7 + f, none⟩ = some u
theorem MsAt.below {w w' : World} {p : Option Addr} {l : List Mp} (h : MsAt w p l) (hb : Below w.heap.size w w') : MsAt w' p l := fun k hk => by
  obtain ⟨b, off, hp, hbl, hc⟩ := h k hk
  exact ⟨b, off, hp, Nat.lt_of_lt_of_le hbl hb.size, fun f u hu => (hb.cell (p := ⟨b, off + k * 7 + f, none⟩) hbl).trans (hc f u hu)⟩
def i64 (n : Int) : Prop := -9223372036854775808 ≤ n ∧ n ≤ 9223372036854775807
/-- The rows that an object points at, as they lie in memory. -/
structure ObOk (w : World) (o : Ob) : Prop where
  st : o.st.length = 17
  L : CatsAt w o.L.p o.L.xs
  Lm : o.L.xs.length ≤ maxLen
  ls : IntsAt w o.lp o.ls
  lm : o.ls.length ≤ maxLen
  ms : MsAt w o.mp o.ms
  mm : o.ms.length ≤ maxLen
  C : CatsAt w o.C.p o.C.xs
  Cm : o.C.xs.length ≤ maxLen
  al : IntsAt w o.ap o.al
  am : o.al.length ≤ maxLen
  idr : i64 o.id
  lsr : ∀ x ∈ o.ls, i64 x
  nils : (o.L.p = none → o.L.cap = 0) ∧ (o.lp = none → o.lc = 0) ∧ (o.mp = none → o.mc = 0) ∧ (o.C.p = none → o.C.cap = 0) ∧ (o.ap = none → o.ac = 0)
  lcap : o.L.xs.length ≤ o.L.cap ∧ o.ls.length ≤ o.lc ∧ o.ms.length ≤ o.mc ∧ o.C.xs.length ≤ o.C.cap ∧ o.al.length ≤ o.ac
theorem ObOk.below {w w' : World} {o : Ob} (h : ObOk w o) (hb : Below w.heap.size w w') : ObOk w' o :=
  ⟨h.st, h.L.below hb, h.Lm, h.ls.below hb, h.lm, h.ms.below hb, h.mm, h.C.below hb, h.Cm, h.al.below hb, h.am, h.idr, h.lsr, h.nils, h.lcap⟩
/-- The cells of an object at a place. -/
def ObAt (w : World) (b off : Nat) (o : Ob) : Prop := ∀ f u, o.cs[f]? = some u → w.cell? ⟨b, off + f, none⟩ = some u
theorem ObAt.below {B : Nat} {w w' : World} {b off : Nat} {o : Ob} (h : ObAt w b off o) (hb : Below B w w') (hB : b < B) : ObAt w' b off o := fun f u hu => (hb.cell (p := ⟨b, off + f, none⟩) hB).trans (h f u hu)
/-- A row of objects. -/
def ObsAt (w : World) (p : Option Addr) (l : List Ob) : Prop := ∀ k (h : k < l.length), ∃ b off, p = some ⟨b, off, none⟩ ∧ b < w.heap.size ∧ ObAt w b (off + k * 38) l[k] ∧ ObOk w l[k]
theorem ObsAt.below {w w' : World} {p : Option Addr} {l : List Ob} (h : ObsAt w p l) (hb : Below w.heap.size w w') : ObsAt w' p l := fun k hk => by
  obtain ⟨b, off, hp, hbl, hc, ho⟩ := h k hk
  exact ⟨b, off, hp, Nat.lt_of_lt_of_le hbl hb.size, hc.below hb hbl, ho.below hb⟩

section
variable {P : Program}
theorem run_load_at (w : World) (g off : Nat) (ty : TypeId) (cs : Array Value) (d : TypeDesc) (hc : ∀ f u, cs[f]? = some u → w.cell? ⟨g, off + f, none⟩ = some u)
    (hu : P.underlying ty = some d) (hd : (match d with | .struct _ | .array _ _ => true | _ => false) = true) (hi : (P.info? ty).map (·.size) = some cs.size) :
    (loadVar ty ⟨g, off, none⟩).run P w = .ok (.agg cs) w := by
  have hl : (loadCells ⟨g, off, none⟩ cs.toList.length).run P w = .ok cs.toList.toArray w :=
    run_loadCells_list (P := P) w ⟨g, off, none⟩ cs.toList (fun j v hv => by
      have hadd : (⟨g, off, none⟩ : Addr).add j = ⟨g, off + j, none⟩ := by unfold Addr.add; split <;> simp_all
      rw [hadd]
      exact hc j v (by simpa using hv))
  cases hq : P.info? ty with
  | none => simp [hq] at hi
  | some i =>
    have hs : i.size = cs.size := by simpa [hq] using hi
    have hagg : (isAgg ty).run P w = .ok true w := by
      unfold isAgg
      rw [Sem.run_bind, run_underlying hu w]
      cases d <;> simp_all
    simp only [Array.length_toList, Array.toArray_toList] at hl
    simp [loadVar, Sem.run_bind, hagg, sizeOf, typeInfo, hq, hs, hl]
theorem wp_load_at {o : Oper} {a : Act} {w : World} {K : Act → World → Prop} {Q : Exit → Act → World → Prop} (ty : TypeId) (x : Operand) (ho : o.op = .load ty x)
    (p : Addr) (hx : a.eval x = .pointer (some p)) (v : Value) (hl : (loadVar ty p).run P w = .ok v w) (h : K (a.put o.dst v) w) : o.wp P a w K Q := by
  unfold Oper.wp execOp
  simp only [ho, hx, Instr.loadAt, Instr.sureAddr, Sem.run_bind, Sem.run_pure, Result.andThen_ok, hl]
  exact h
theorem wpList_load_at {ops : Array Oper} {rest : List Oper} {o : Oper} {a : Act} {w : World} {Q : Exit → Act → World → Prop} (hgd : o.guard = none) (ty : TypeId) (x : Operand) (ho : o.op = .load ty x)
    (p : Addr) (hx : a.eval x = .pointer (some p)) (v : Value) (hl : (loadVar ty p).run P w = .ok v w) (h : wpList P ops Q rest (a.put o.dst v) w) : wpList P ops Q (o :: rest) a w :=
  wpList_plain hgd fun _ hK => wp_load_at ty x ho p hx v hl (hK _ _ h)
theorem quiet_load_at {C : World → Prop} {o : Oper} {a : Act} {K : Act → Prop} (ty : TypeId) (x : Operand) (p : Addr) (v : Value) (ho : o.op = .load ty x) (hx : a.eval x = .pointer (some p))
    (hl : ∀ w, C w → (loadVar ty p).run P w = .ok v w) (h : K (a.put o.dst v)) : o.quiet P a C K := by
  refine ⟨v, fun w hw => ?_, h⟩
  unfold Oper.quietAt execOp
  simp only [ho, hx, Instr.loadAt, Instr.sureAddr, Sem.run_bind, Sem.run_pure, Result.andThen_ok, hl w hw]
  exact ⟨rfl, rfl⟩
end
theorem infoOb : (Try.prog.info? 42).map (·.size) = some 38 := by kernel_rfl
theorem load_ob {w : World} {b off : Nat} {o : Ob} (h : ObAt w b off o) (hs : o.st.length = 17) : (loadVar 42 ⟨b, off, none⟩).run Try.prog w = .ok (.agg o.cs) w :=
  run_load_at w b off _ o.cs _ h Try.underlying42 rfl (by rw [Ob.size hs]; exact infoOb)
end Go.Proofs.Ytonhdkldacghoaa
