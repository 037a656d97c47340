/- A loop over an iterator, where the round is told that its element is the next one of a row. -/
import Derived.Test.YthknnmllibdggaaAllW
import Derived.Test.YthknnmllibdggaaAllI
namespace Go.Proofs.Ythknnmllibdggaa
open Go.RowKit
variable {F : Fence} {n : Nat} {P : Program}
/-- What an iterator tells: the elements of the row L, one by one, in their order; none is left out. -/
def Tells {α : Type} (F : Fence) (n : Nat) (P : Program) (gf : Nat) (lb : Array Value) (encs : α → Array Value) (Kp : World → World → Prop) (L : List α) (w : World) : Prop :=
  ∀ (l : Nat) (J : List α → World → Prop) (W : World), Below w.heap.size w W →
    (∀ pre x W1, J pre W1 → pre ++ [x] <+: L → YieldAt F (n - 1) P l (encs x) W1 fun e W' => e = .returned (.bool true) ∧ J (pre ++ [x]) W' ∧ Kp W1 W') →
    J [] W → CallsIn F n P gf (#[.func (.yield l) #[] #[]] ++ lb) W fun e W' => (∃ v, e = .returned v) ∧ J L W'
theorem wpIn_range_told {α : Type} {g : Operand} {ps : Array Tmp} {assign body : Code} {Q : Exit → Act → World → Prop} {a : Act} {w : World} (hro : F.round = none) (h1 : 1 ≤ n) {gf : Nat} {lb : Array Value}
    (hg : a.eval g = .func (.func gf) #[] lb) (hFg : F.fn gf) (eg : ∀ args w, (callFunc gf args).run P w = .ok (.enter gf args) w) {encs : α → Array Value} {Kp : World → World → Prop} {L : List α} (hseq : Tells F (n - 1) P gf lb encs Kp L w)
    (hps : ∀ x, (encs x).size = ps.size) (hKt : ∀ {A B C : World}, Kp A B → Kp B C → Kp A C) (hKb : ∀ (W : World) (l : Nat) (o o' : Obj), w.heap.size ≤ l → W.heap[l]? = some o → o.isCells = false → Kp W (W.putObj l o'))
    (I : List α → World → Prop) (hI : OwnFrom w.heap.size I) (h0 : I [] w) (a1 : α → Act)
    (hassign : ∀ (l : Nat) (x : α) (W : World) (K : Act → World → Prop), K (a1 x) W → assign.wpIn (F.inRound l) (n - 1 - 1) P (Exit.then K (fun _ _ _ => False)) { tmps := (ps.zip (encs x)).foldl (fun t (p, v) => t.setIfInBounds p v) a.tmps, defers := [] } W)
    (hbody : ∀ (l : Nat) (pre : List α) (x : α) (W : World), I pre W → pre ++ [x] <+: L → body.wpIn (F.inRound l) (n - 1 - 1) P (fun e _ W' => e = .normal ∧ KeepsFrom w.heap.size W W' ∧ Kp W W' ∧ I (pre ++ [x]) W') (a1 x) W)
    (hdone : ∀ (W : World), I L W → W.heap[w.heap.size]? = some (.deferred (some [])) → Q .normal { a with defers := { target := .collected w.heap.size, args := #[] } :: a.defers } W) :
    (Code.rangeFunc g ps assign body).wpIn F n P Q a w := by
  refine wpIn_rangeFunc fun fn hfn => ?_
  rw [hro]
  obtain ⟨r, hr⟩ : ∃ r : Loop, r = { state := .ready, pending := none, fn, tmps := a.tmps, params := ps, assign, body, defers := w.heap.size } := ⟨_, rfl⟩
  have hst : r.state = .ready := by rw [hr]
  have hfn' : r.fn = fn := by rw [hr]
  have hra : r.assign = assign := by rw [hr]
  have hrb : r.body = body := by rw [hr]
  have hrp : r.params = ps := by rw [hr]
  have hrt : r.tmps = a.tmps := by rw [hr]
  have e0 := run_enterLoop_outer (P := P) (w := w) fn a.tmps ps assign body
  rw [← hr] at e0
  obtain ⟨Wd, hWd⟩ : ∃ Wd, w.alloc (.deferred (some [])) = Wd := ⟨_, rfl⟩
  obtain ⟨Wl, hWl⟩ : ∃ Wl, Wd.alloc (.loop r) = Wl := ⟨_, rfl⟩
  rw [hWd, hWl] at e0
  have zd : Wd.heap.size = w.heap.size + 1 := by rw [← hWd]; simp
  have bd : Below w.heap.size w Wd := by rw [← hWd]; exact (Below.refl _ _).alloc (Nat.le_refl _) _
  have bl : Below Wd.heap.size Wd Wl := by rw [← hWl]; exact (Below.refl _ _).alloc (Nat.le_refl _) _
  have kd : Wl.heap[w.heap.size]? = some (.deferred (some [])) := by
    rw [bl.block _ (by omega), ← hWd]; exact World.alloc_heap_new w _
  have kl : Wl.heap[w.heap.size + 1]? = some (.loop r) := by rw [← zd, ← hWl]; exact World.alloc_heap_new Wd _
  have i0 : I [] Wl := by rw [← hWl, ← hWd]; exact hI.alloc _ (hI.alloc _ h0)
  refine ⟨w.heap.size + 1, _, Wl, { target := .fn (.func gf) lb, args := #[.func (.yield (w.heap.size + 1)) #[] #[]] }, Wl, gf, #[.func (.yield (w.heap.size + 1)) #[] #[]] ++ lb, Wl, e0, ?_, ?_, ?_, fun _ => h1, ?_⟩
  · simp only [resolve, hg]; simp [go_sem]
  · intro f' hf'; simp [Target.leads] at hf'; subst hf'; exact hFg
  · simp [invoke, go_sem, eg]
  have turn : ∀ (W : World) (o : Loop), W.heap[w.heap.size + 1]? = some (.loop o) → ∀ o' : Loop, (W.putObj (w.heap.size + 1) (.loop o')).heap[w.heap.size + 1]? = some (.loop o') ∧ (W.putObj (w.heap.size + 1) (.loop o')).heap[w.heap.size]? = W.heap[w.heap.size]? ∧ Kp W (W.putObj (w.heap.size + 1) (.loop o')) ∧ ∀ xs, I xs W → I xs (W.putObj (w.heap.size + 1) (.loop o')) := fun W o ho o' =>
    ⟨World.putObj_heap_same (Array.getElem?_eq_some_iff.1 ho).1, World.putObj_heap_other (by omega), hKb W _ _ _ (by omega) ho rfl, fun xs hx => hI.putObj _ hx (by omega) ho rfl⟩
  refine (hseq (w.heap.size + 1) (fun pre W => I pre W ∧ W.heap[w.heap.size + 1]? = some (.loop r) ∧ W.heap[w.heap.size]? = some (.deferred (some []))) Wl (bd.trans (bl.mono bd.size)) ?_ ⟨i0, kl, kd⟩).mono ?_
  · rintro pre x W ⟨hi, hl, hd⟩ hp
    have hy := run_yield (P := P) (args := encs x) hl (by rw [hr]; exact hps x)
    refine ⟨r.fn, _, r.assign, r.body, hy, roundIn_of_wpIn (by rw [hr]; exact hfn) ?_⟩
    obtain ⟨b1, b2, b3, b4⟩ := turn W r hl { r with state := .busy }
    have hb := hbody (w.heap.size + 1) pre x _ (b4 _ hi) hp
    simp only [hra, hrb, hrp, hrt]
    refine hassign (w.heap.size + 1) x W _ ⟨_, run_beginRound (P := P) hl hst, wpIn_mono hb ?_⟩
    rintro e a' W' ⟨rfl, hk, hkp, hi'⟩
    have l' := hk.same _ _ (by omega) b1 rfl
    have d' := hk.same _ _ (Nat.le_refl _) (b2.trans hd) rfl
    obtain ⟨c1, c2, c3, c4⟩ := turn W' _ l' { r with state := .ready, pending := none }
    refine ⟨_, _, run_endRound (P := P) none l', rfl, ⟨c4 _ hi', ?_, c2.trans d'⟩, hKt b3 (hKt hkp c3)⟩
    rw [hr] at c1 ⊢
    exact c1
  · rintro e W ⟨⟨v, rfl⟩, hi, hl, hd⟩
    obtain ⟨b1, b2, b3, b4⟩ := turn W r hl { r with state := .exhausted }
    refine ⟨none, _, ?_, hdone _ (b4 _ hi) (b2.trans hd)⟩
    have := run_endLoop (P := P) hl (by rw [hst]; simp)
    rw [this, hr]
theorem attach_eq {l : List It} {zs : List (Im l)} (h : zs.map (·.1) = l) : zs = l.attach := by
  refine List.map_inj_right (f := fun x : Im l => x.1) (fun x y e => Subtype.ext e) |>.1 ?_
  rw [h]; exact (List.attach_map_subtype_val l).symm
theorem pre_inj {α β : Type} {f : α → β} (hf : ∀ x y, f x = f y → x = y) {zs L : List α} (h : zs.map f <+: L.map f) : zs <+: L := by
  have h1 := List.prefix_iff_eq_take.1 h
  rw [List.length_map, ← List.map_take] at h1
  exact List.prefix_iff_eq_take.2 ((List.map_inj_right hf).1 h1)
theorem pre_at {α : Type} {a L : List α} {x : α} (h : a ++ [x] <+: L) : L[a.length]? = some x := by
  obtain ⟨r, rfl⟩ := h
  simp
theorem attach_pre {l : List It} {zs : List (Im l)} (h : zs.map (·.1) <+: l) : zs <+: l.attach :=
  pre_inj (f := fun x : Im l => x.1) (fun x y e => Subtype.ext e) (by rw [List.attach_map_subtype_val]; exact h)
theorem allW_tells (n : Nat) (hn : 1 ≤ n) (Bq Q : Nat) (l : List It) (w : World) (hv : ∀ x ∈ l, ∃ B, x.v = pv B) (t0 : Boxed w Bq 65 (pv Q)) (hq : QAW w Q l) :
    Tells Fence.wide n Try.prog 47 #[.pointer (some ⟨Bq, 0, none⟩)] (encI (l := l)) (KpQ Bq Q l) l.attach w := fun lp J W hW hY h0 =>
  (allW1_in n hn lp Bq Q l J (fun _ _ => False) hv (fun pre x W1 hJ hp => by
    obtain ⟨fn, tm, ac, bo, h1, h2⟩ := hY pre x W1 hJ (attach_pre hp)
    exact ⟨fn, tm, ac, bo, h1, h2.mono fun _ _ h => .inl h⟩) W ((hW.block Bq t0.lt).trans t0) (hq.same (fun k hk => hW.block k (hq.lt hk))) h0).mono fun e W' ⟨h1, h2⟩ => ⟨h1, by
    rcases h2 with ⟨zs, hz, hJ⟩ | ⟨_, _, h⟩
    · rw [← attach_eq hz]; exact hJ
    · exact h.elim⟩
theorem allI_tells (n : Nat) (hn : 1 ≤ n) (Bq Q : Nat) (l : List It) (w : World) (hv : ∀ x ∈ l, ∃ c, x.v = .int .i64 c) (t0 : Boxed w Bq 76 (pv Q)) (hq : QAI w Q l) :
    Tells Fence.wide n Try.prog 50 #[.pointer (some ⟨Bq, 0, none⟩)] (encI (l := l)) (KpQ Bq Q l) l.attach w := fun lp J W hW hY h0 =>
  (allI1_in n hn lp Bq Q l J (fun _ _ => False) hv (fun pre x W1 hJ hp => by
    obtain ⟨fn, tm, ac, bo, h1, h2⟩ := hY pre x W1 hJ (attach_pre hp)
    exact ⟨fn, tm, ac, bo, h1, h2.mono fun _ _ h => .inl h⟩) W ((hW.block Bq t0.lt).trans t0) (hq.same (fun k hk => hW.block k (hq.lt hk))) h0).mono fun e W' ⟨h1, h2⟩ => ⟨h1, by
    rcases h2 with ⟨zs, hz, hJ⟩ | ⟨_, _, h⟩
    · rw [← attach_eq hz]; exact hJ
    · exact h.elim⟩
/-- What stands at the next place of a row. -/
theorem attach_next {l : List It} {pre : List (Im l)} {x : Im l} (h : pre ++ [x] <+: l.attach) : l[pre.length]? = some x.1 := by
  have h1 := congrArg (Option.map (fun y : Im l => y.1)) (pre_at h)
  rw [← List.getElem?_map, List.attach_map_subtype_val] at h1
  exact h1
end Go.Proofs.Ythknnmllibdggaa
