/- An object that several containers link to is there until the last of them drops it. -/
import Derived.Test.YtlblfelfaopjiaaLinkP
import Derived.Test.YtlblfelfaopjiaaShiftsBase
import Derived.Test.YtlblfelfaopjiaaPInv
import Derived.Deep.CutBlock
namespace Go.Proofs.Ytlblfelfaopjiaa
open Go.RowKit Go.Sort
theorem ivs_one (L : List Int) : ∀ u ∈ ivs L, u.oneCell' = true := fun u hu => by
  obtain ⟨n, _, rfl⟩ := List.mem_map.1 hu; rfl
theorem ivs_get {L : List Int} {j : Nat} {u : Value} (h : (ivs L)[j]? = some u) : ∃ hj : j < L.length, u = .int .i64 L[j] := by
  unfold ivs at h
  rw [List.getElem?_map] at h
  cases hj : L[j]? with
  | none => rw [hj] at h; cases h
  | some x =>
    obtain ⟨h1, h2⟩ := List.getElem?_eq_some_iff.1 hj
    rw [hj] at h
    simp at h
    exact ⟨h1, by rw [h2]; exact h.symm⟩
/-- append of integers to a row of one's own. -/
theorem app_ivs {W : World} {ops : Array Oper} {rest : List Oper} {o : Oper} {a : Act} {Q : Exit → Act → World → Prop} (hgd : o.guard = none) (s x : Operand)
    (ho : o.op = .call { callee := .builtin .append, args := #[s, x], argTypes := #[38, 38] }) (base : Nat) (v : Value) (L Y : List Int) (ad : Addr) (c : Nat) (hs : a.eval s = v) (hown : W.ownsRow base 3 1 v L.length (ivs L)) (hb : base ≤ W.heap.size) (hn : L.length + Y.length < 1000000)
    (hx : a.eval x = .slice (some ad) Y.length c) (hc : ∀ j u, (ivs Y)[j]? = some u → W.cell? (ad.add j) = some u)
    (h : ∀ v' w', w'.ownsRow base 3 1 v' (L ++ Y).length (ivs (L ++ Y)) → W.grownBy w' v.ownBlock → (∀ k, v'.ownBlock = some k → v.ownBlock = some k ∨ W.heap.size ≤ k) → wpList Try.prog ops Q rest (a.put o.dst v') w') : wpList Try.prog ops Q (o :: rest) a W := by
  obtain ⟨i0, hi, hz0, hz1, hz2⟩ := info_parts intInfo
  refine wpList_append_own_at _ hgd s x 38 ho base 3 i0 (.int .i64 0) 1 8 Try.underlying38 hi hz0 hz1 hz2 rfl (by decide) v L.length (ivs L) hs hown ad Y.length c (ivs Y) hx (by simp [ivs]) hc (ivs_one _) (by unfold maxLen; omega) (by omega) hb ?_
  intro v' w' h1 h2 _ h4
  refine h v' w' ?_ h2 (fun k hk => ?_)
  · rw [List.length_append, show ivs (L ++ Y) = ivs L ++ ivs Y from by simp [ivs]]
    exact h1
  · rcases h4 with e | e
    · exact .inl (e ▸ hk)
    · rw [e] at hk
      exact .inr (by have := Option.some.inj hk; omega)
theorem cell_new (W : World) (y : Int) (B : Nat) (hB : B = W.heap.size) : ∀ j u, (ivs [y])[j]? = some u → (W.alloc (.cells #[.int .i64 y] 3)).cell? ((⟨B, 0, none⟩ : Addr).add j) = some u := fun j u hu => by
  subst hB
  match j, hu with
  | 0, hu => simp [ivs] at hu; subst hu; show World.cell? _ ⟨W.heap.size, 0, none⟩ = _; rw [cell_of_row _ _ _ _ _ _ (heap_new _ _)]; rfl
  | j + 1, hu => simp [ivs] at hu
theorem ivs_len1 (L : List Int) : (ivs L).length = L.length := by simp [ivs]
theorem exec_hiI {o : Oper} {ev : Operand → Value} {x y : Operand} {g n cap k : Nat} (ho : o.op = Op.slice 38 x none (some y) none) (hx : ev x = .slice (some ⟨g, 0, none⟩) n cap) (hy : ev y = .int .i64 (k : Int)) (hk : k ≤ cap) (w : World) :
    (execOp ev o).run Try.prog w = .ok (.value (.slice (some ⟨g, 0, none⟩) k cap)) w := by
  have hkc : (k : Int) ≤ (cap : Int) := by omega
  obtain ⟨i0, hi, hz0, hz1, hz2⟩ := info_parts intInfo
  simp [execOp, ho, hx, hy, Instr.sliceAt, run_underlying Try.underlying38, Instr.slice, go_sem, hkc, sizeOf, typeInfo, hi]
theorem exec_loI {o : Oper} {ev : Operand → Value} {x y : Operand} {g n cap k : Nat} {AD : Addr} (hAD : (if cap = k + 1 then (⟨g, 0, none⟩ : Addr) else ⟨g, k + 1, none⟩) = AD) (ho : o.op = Op.slice 38 x (some y) none none) (hx : ev x = .slice (some ⟨g, 0, none⟩) n cap) (hy : ev y = .int .i64 ((k + 1 : Nat) : Int)) (hk : k < n) (w : World) :
    (execOp ev o).run Try.prog w = .ok (.value (.slice (some AD) (n - (k + 1)) (cap - (k + 1)))) w := by
  have hkc : ((k + 1 : Nat) : Int) ≤ (n : Int) := by omega
  obtain ⟨m, hm⟩ : ∃ m, k + 1 = m := ⟨_, rfl⟩
  rw [hm] at hy hkc hAD ⊢
  obtain ⟨i0, hi, hz0, hz1, hz2⟩ := info_parts intInfo
  subst hAD
  by_cases h : cap = m
  · simp [execOp, ho, hx, hy, Instr.sliceAt, run_underlying Try.underlying38, Instr.slice, go_sem, hkc, sizeOf, typeInfo, hi, hz1, h]
  · simp [execOp, ho, hx, hy, Instr.sliceAt, run_underlying Try.underlying38, Instr.slice, go_sem, hkc, sizeOf, typeInfo, hi, hz1, h]
theorem exec_appI {o : Oper} {ev : Operand → Value} {x y : Operand} {t : TypeId} {w w' : World} {v' vs vx : Value} (ho : o.op = .call { callee := .builtin .append, args := #[x, y], argTypes := #[t, t] }) (hx : ev x = vs) (hy : ev y = vx) (hr : (Builtin.append_ #[t, t] o.type #[vs, vx]).run Try.prog w = .ok v' w') : (execOp ev o).run Try.prog w = .ok (.value v') w' := by
  unfold execOp
  simp only [ho, resolve, invoke, builtin, Sem.run_bind, Sem.run_pure, Result.andThen_ok, List.map_toArray, List.map_cons, List.map_nil, hx, hy, hr]
theorem run_appI {W : World} {base : Nat} {v : Value} {L : List Int} (hown : W.ownsRow base 3 1 v L.length (ivs L)) (hb : base ≤ W.heap.size) {Y : List Int} {ad : Addr} {c : Nat} (hn : L.length + Y.length < 1000000) (hc : ∀ j u, (ivs Y)[j]? = some u → W.cell? (ad.add j) = some u) :
    ∃ v' w5, (Builtin.append_ #[38, 38] 38 #[v, .slice (some ad) Y.length c]).run Try.prog W = .ok v' w5 ∧ w5.ownsRow base 3 1 v' (L ++ Y).length (ivs (L ++ Y)) ∧ Below base W w5 := by
  obtain ⟨i0, hi, hz0, hz1, hz2⟩ := info_parts intInfo
  obtain ⟨v', w5, h1, h2, h3, _⟩ := run_append_own W base 38 38 3 i0 (.int .i64 0) 1 8 Try.underlying38 hi hz0 hz1 hz2 rfl (by decide) v L.length (ivs L) hown ad Y.length c (ivs Y) (by rw [ivs_len1]; omega) hc (ivs_one _) (by unfold maxLen; omega) (by omega) hb
  refine ⟨v', w5, h1, ?_, Below.grown (Below.refl _ _) h3 hb (fun j hj => (hown.lt j hj).1)⟩
  rw [List.length_append, show ivs (L ++ Y) = ivs L ++ ivs Y from by simp [ivs]]
  exact h2
/-- A row of integers of one's own, none of whose blocks is F. -/
structure Made (w : World) (b0 : Nat) (v : Value) (M : List Int) (F : Nat → Prop) : Prop where
  own : w.ownsRow b0 3 1 v M.length (ivs M)
  off : ∀ k, v.ownBlock = some k → ¬ F k
theorem Made.fm {w w' : World} {b0 : Nat} {v : Value} {M : List Int} {F F' : Nat → Prop} (h : Made w b0 v M F) (hF : Fm w w' F F') : Made w' b0 v M F' :=
  ⟨row_same h.own (fun k hk => hF.same k (h.own.lt k hk).2 (h.off k hk)), fun k hk hf => by
    rcases hF.new k hf with e | e
    · exact h.off k hk e
    · have := (h.own.lt k hk).2; omega⟩
theorem Made.below {w w' : World} {b0 : Nat} {v : Value} {M : List Int} {F : Nat → Prop} (h : Made w b0 v M F) (hb : Below w.heap.size w w') : Made w' b0 v M F :=
  ⟨row_same h.own (fun k hk => hb.block k (h.own.lt k hk).2), h.off⟩
/-- Is a number the last one of a list? -/
theorem last_any (base : Nat) (v : Value) (L : List Int) (x : Int) (w : World) (h : w.ownsRow base 3 1 v L.length (ivs L)) (hn : L.length < 1000000) :
    Calls Try.prog 29 #[v, .int .i64 x] w fun e w' => e = .returned (.bool (decide (L.getLast? = some x))) ∧ w' = w := by
  rcases h.2 with ⟨rfl, h0⟩ | ⟨g, c, cur, rfl, _⟩
  · obtain rfl : L = [] := List.length_eq_zero_iff.1 h0
    clear h
    go_enter Try.func29, Try.ntmps29
    go_wp2_with fail
    go_ret
    exact ⟨by simp, rfl⟩
  · by_cases hL : L.length = 0
    · obtain rfl : L = [] := List.length_eq_zero_iff.1 hL
      clear h
      go_enter Try.func29, Try.ntmps29
      go_wp2_with fail
      go_ret
      exact ⟨by simp, rfl⟩
    · obtain ⟨n, hnl⟩ : ∃ n, L.length = n + 1 := ⟨L.length - 1, by omega⟩
      obtain ⟨y, hy⟩ : ∃ y, L[n]? = some y := ⟨_, List.getElem?_eq_getElem (by omega)⟩
      have hc : w.cell? ⟨g, n, none⟩ = some (.int .i64 y) := by
        rw [h.cellAt n (by omega)]; unfold ivs; rw [List.getElem?_map, hy]; rfl
      have hdec : decide (L.getLast? = some x) = (y == x) := by
        rw [show L.getLast? = some y from by rw [List.getLast?_eq_getElem?, hnl]; exact hy]
        simp [BEq.beq]
      rw [hdec, hnl]
      have hn1 : ¬ ((n : Int) + 1 ≤ 0) := by omega
      have hn2 : (0 : Int) < ((n + 1 : Nat) : Int) := by omega
      clear h hdec hy
      go_enter Try.func29, Try.ntmps29
      go_wp2_with fail
      go_ret
      exact ⟨rfl, rfl⟩
end Go.Proofs.Ytlblfelfaopjiaa
