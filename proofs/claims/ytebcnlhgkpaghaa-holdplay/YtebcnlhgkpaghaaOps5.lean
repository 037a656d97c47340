/- What the calls of package hold answer and leave, exactly. -/
import Derived.Test.YtebcnlhgkpaghaaCopyG
import Derived.Test.YtebcnlhgkpaghaaEnts
import Derived.Test.YtebcnlhgkpaghaaMakeQ
import Derived.Test.YtebcnlhgkpaghaaMakeE
import Derived.Test.YtebcnlhgkpaghaaLinkE
import Derived.Test.YtebcnlhgkpaghaaShift
import Derived.Test.YtebcnlhgkpaghaaRefX
import Derived.Test.YtebcnlhgkpaghaaRefR
import Derived.Test.YtebcnlhgkpaghaaRefN
namespace Go.Proofs.Ytebcnlhgkpaghaa
open Go.RowKit Go.Sort
open Go.Maps (Keyed)
theorem keysD {w : World} {base tb mb : Nat} {D : DataW Unit} {T : Tab} (h : TAt w base tb mb D T) : (intKeys D).Nodup ∧ (∀ k, k ∈ intKeys D ↔ (T k).isSome = true) ∧ (intKeys D).length = Maps.size D := by
  obtain ⟨es, hD, hpw, _⟩ := h.map.entries keyedI
  obtain ⟨es', hD', hko⟩ := h.map.keysOf
  obtain rfl : es = es' := by rw [hD] at hD'; simpa using hD'
  have hk : ∀ p ∈ es, ∃ x, p.1 = .int .i64 x := fun p hp => by obtain ⟨v, hv⟩ := hko p hp; obtain ⟨x, _, hx, _⟩ := Maps.keyOf_i64 ui hv; exact ⟨x, hx⟩
  have hhas := h.has
  rw [hD] at hhas ⊢
  refine ⟨?_, fun x => ?_, by rw [Maps.size_eq]; simp [intKeys]⟩
  · show (es.map fun p => Go.intOf p.1).Nodup
    refine List.pairwise_map.2 (hpw.imp_of_mem fun {p q} hp' hq' hne e => hne ?_)
    obtain ⟨a, ha⟩ := hk p hp'
    obtain ⟨b, hb⟩ := hk q hq'
    rw [ha, hb] at e ⊢
    exact congrArg _ e
  · rw [← hhas x, Maps.has_eq, List.any_eq_true]
    show x ∈ (es.map fun p => Go.intOf p.1) ↔ _
    rw [List.mem_map]
    constructor
    · rintro ⟨p, hp', rfl⟩
      obtain ⟨a, ha⟩ := hk p hp'
      exact ⟨p, hp', by rw [ha]; simp [Lit.sameKey, Go.intOf]⟩
    · rintro ⟨p, hp', hs⟩
      obtain ⟨a, ha⟩ := hk p hp'
      rw [ha] at hs
      exact ⟨p, hp', by rw [ha]; simpa [Lit.sameKey, Go.intOf] using hs⟩
/-- The table S lies at tb, in the blocks F, and is as it should be. -/
def HX (rt : Int) (w : World) (base tb mb : Nat) (F : Nat → Prop) (S : Abs) : Prop := ∃ K D T, TAt w base tb mb D T ∧ V T S ∧ tfoot tb mb T = F ∧ Inv rt S K
theorem V.isSome {T : Tab} {S : Abs} (h : V T S) (k : Int) : (T k).isSome = (S k).isSome := by rw [← h k]; cases T k <;> rfl
theorem size_len {w : World} {base tb mb : Nat} {D : DataW Unit} {T : Tab} {S : Abs} {K : List Int} {rt : Int} (h : TAt w base tb mb D T) (hv : V T S) (hi : Inv rt S K) : Maps.size D = K.length := by
  obtain ⟨h1, h2, h3⟩ := keysD h
  rw [← h3]
  exact ((List.perm_ext_iff_of_nodup h1 hi.bal.nd).2 (fun k => by rw [h2 k, hi.bal.mem k, hv.isSome])).length_eq
theorem HX.same {w w' : World} {base tb mb : Nat} {F : Nat → Prop} {S : Abs} {rt : Int} (h : HX rt w base tb mb F S) (hs : ∀ k, F k → w'.heap[k]? = w.heap[k]?) : HX rt w' base tb mb F S := by
  obtain ⟨K, D, T, h1, h2, rfl, h4⟩ := h
  exact ⟨K, D, T, h1.same hs, h2, rfl, h4⟩
theorem HX.lt {w : World} {base tb mb : Nat} {F : Nat → Prop} {S : Abs} {rt : Int} (h : HX rt w base tb mb F S) {k : Nat} (hk : F k) : base ≤ k ∧ k < w.heap.size := by
  obtain ⟨K, D, T, h1, h2, rfl, h4⟩ := h
  exact h1.lt hk
theorem HX.below {w w' : World} {base tb mb : Nat} {F : Nat → Prop} {S : Abs} {rt : Int} (h : HX rt w base tb mb F S) (hb : Below w.heap.size w w') : HX rt w' base tb mb F S := h.same (fun k hk => hb.block k (h.lt hk).2)
theorem inv_len {rt : Int} {S : Abs} {K K' : List Int} (h : Inv rt S K) (h' : Inv rt S K') : K.length = K'.length :=
  ((List.perm_ext_iff_of_nodup h.bal.nd h'.bal.nd).2 (fun k => by rw [h.bal.mem k, h'.bal.mem k])).length_eq
/-- What a call leaves. -/
def DidX (rt : Int) (w : World) (base tb mb : Nat) (F : Nat → Prop) (S' : Abs) (w' : World) : Prop := ∃ F', HX rt w' base tb mb F' S' ∧ Fm w w' F F'
theorem HX.stay {w w' : World} {base tb mb : Nat} {F : Nat → Prop} {S : Abs} {rt : Int} (h : HX rt w base tb mb F S) (hb : Below w.heap.size w w') : DidX rt w base tb mb F S w' := ⟨F, h.below hb, Fm.stay hb⟩
theorem contE_cases (T : Tab) (i : Int) : (∃ r, T i = some r ∧ r.ob.kind = 1 ∧ contE T i = 0) ∨ contE T i ≠ 0 := by
  unfold contE
  cases hT : T i with
  | none => exact .inr (by simp)
  | some r =>
    by_cases hk : r.ob.kind = 1
    · exact .inl ⟨r, rfl, hk, by simp [hk]⟩
    · exact .inr (by simp [hk])
theorem entE_cases (T : Tab) (i x : Int) : (∃ r, T i = some r ∧ r.ob.kind = 1 ∧ r.ob.ents.contains x = true) ∨ entE T i x ≠ 0 := by
  unfold entE
  cases hT : T i with
  | none => exact .inr (by simp)
  | some r =>
    by_cases hk : r.ob.kind = 1
    · by_cases hc : r.ob.ents.contains x = true
      · exact .inl ⟨r, rfl, hk, hc⟩
      · exact .inr (by simp only [if_pos hk, if_neg hc]; decide)
    · exact .inr (by simp only [if_neg hk]; decide)
theorem contE_S {T : Tab} {S : Abs} (h : V T S) (i : Int) : contE T i = contS S i := by
  unfold contE contS
  rw [← h i]
  cases T i <;> rfl
theorem entE_S {T : Tab} {S : Abs} (h : V T S) (i x : Int) : entE T i x = entC S i x := by
  unfold entE entC
  rw [← h i]
  cases hT : T i with
  | none => rfl
  | some r =>
    simp only [Option.map_some]
    by_cases hk : r.ob.kind = 1
    · rw [if_pos hk, if_pos hk]
      by_cases hc : r.ob.ents.contains x = true
      · have : inB r.ob.ents x = true := inB_iff.2 (by simpa using hc)
        rw [if_pos hc, if_pos this]
      · have : ¬ inB r.ob.ents x = true := fun e => hc (by simpa using inB_iff.1 e)
        rw [if_neg hc, if_neg this]
    · rw [if_neg hk, if_neg hk]
section
variable {w : World} {base tb mb : Nat} {F : Nat → Prop} {S : Abs} {rt : Int}
theorem make_x (h : HX rt w base tb mb F S) (n : Nat) (hn : ∀ K, Inv rt S K → K.length = n) (i id kind quota d : Int) (p : Option Addr) (cap : Nat) (xs : List (Int × Int)) (hm : xs.length ≤ maxLen) (hc : CatsAt w p xs) (hi : i64 i) :
    Calls Try.prog 10 #[.pointer (some ⟨tb, 0, none⟩), .int .i64 i, .int .i64 id, .int .i64 kind, .int .i64 quota, .agg #[.int .i64 d, .slice p xs.length cap]] w fun e w' => e = .returned (.int .i64 (makeS S n i id kind quota d xs)) ∧ DidX rt w base tb mb F (makeT S n i id kind quota d xs) w' := by
  have H := h
  obtain ⟨K, D, T, h1, h2, rfl, h4⟩ := h
  have hsz := size_len h1 h2 h4
  have hKn := hn K h4
  have no : ∀ {c : Int}, c ≠ 0 → makeS S n i id kind quota d xs = c → Calls Try.prog 10 #[.pointer (some ⟨tb, 0, none⟩), .int .i64 i, .int .i64 id, .int .i64 kind, .int .i64 quota, .agg #[.int .i64 d, .slice p xs.length cap]] w (fun e w' => e = .returned (.int .i64 c) ∧ Below w.heap.size w w') → Calls Try.prog 10 #[.pointer (some ⟨tb, 0, none⟩), .int .i64 i, .int .i64 id, .int .i64 kind, .int .i64 quota, .agg #[.int .i64 d, .slice p xs.length cap]] w fun e w' => e = .returned (.int .i64 (makeS S n i id kind quota d xs)) ∧ DidX rt w base tb mb (tfoot tb mb T) (makeT S n i id kind quota d xs) w' := fun {c} hc0 hz hh => hh.mono fun e w' ⟨a, b⟩ => ⟨by rw [hz]; exact a, by rw [makeT_no (by rw [hz]; exact hc0)]; exact H.stay b⟩
  rcases contE_cases T i with ⟨r, hr, hk, _⟩ | hne
  · have hSi : S i = some r.ob := by rw [← h2 i, hr]; rfl
    have g := h4.ok i r.ob hSi
    have hup := h4.upos hSi
    have hel := h4.elen hSi
    have hlen := h4.len
    have hcz : contS S i = 0 := by unfold contS; rw [hSi]; exact if_pos hk
    have hM : makeS S n i id kind quota d xs = if kind < 1 ∨ 6 < kind then 5 else if quota < 1 ∨ 1099511627776 < quota ∨ fitsS d (low kind) xs = false then 1 else if isCt id = false ∨ (S id).isSome = true then 8 else if 4096 ≤ n then 7 else if r.ob.quota - r.ob.used < quota then 6 else 0 := by
      unfold makeS; rw [if_neg (by rw [hcz]; simp), hSi]
    by_cases k1 : kind < 1 ∨ 6 < kind
    · exact no (by decide) (by rw [hM, if_pos k1]) (Make_kind h1 i id kind quota d p cap xs hi r hr hk k1)
    rw [if_neg k1] at hM
    by_cases q1 : quota < 1
    · exact no (by decide) (by rw [hM, if_pos (.inl q1)]) (Make_arg1 h1 i id kind quota d p cap xs hm hc hi r hr hk (by omega) q1)
    by_cases q2 : 1099511627776 < quota
    · exact no (by decide) (by rw [hM, if_pos (.inr (.inl q2))]) (Make_arg2 h1 i id kind quota d p cap xs hm hc hi r hr hk (by omega) (by omega) q2)
    cases hf : fitsS d (low kind) xs with
    | false => exact no (by decide) (by rw [hM, if_pos (.inr (.inr hf))]) (Make_arg3 h1 i id kind quota d p cap xs hm hc hi r hr hk (by omega) (by omega) hf)
    | true =>
      rw [if_neg (by rw [hf]; simp; omega)] at hM
      have hx16 : xs.length ≤ 16 := by unfold fitsS at hf; simp at hf; omega
      cases hid : isCt id with
      | false => exact no (by decide) (by rw [hM, if_pos (.inl hid)]) (Make_id1 h1 i id kind quota d p cap xs hm hc hi r hr hk (by omega) (by omega) hf hid)
      | true =>
        cases hT : T id with
        | some s => exact no (by decide) (by rw [hM, if_pos (.inr (by rw [← h2 id, hT]; rfl))]) (Make_id2 h1 i id kind quota d p cap xs hm hc hi r hr hk (by omega) (by omega) hf hid s hT)
        | none =>
          have hSid : S id = none := by rw [← h2 id, hT]; rfl
          rw [if_neg (by rw [hid, hSid]; simp)] at hM
          by_cases hful : 4096 ≤ Maps.size D
          · exact no (by decide) (by rw [hM, if_pos (by omega)]) (Make_full h1 i id kind quota d p cap xs hm hc hi r hr hk (by omega) (by omega) hf hid hT hful)
          rw [if_neg (by omega)] at hM
          by_cases hqr : r.ob.quota - r.ob.used < quota
          · exact no (by decide) (by rw [hM, if_pos hqr]) (Make_quota h1 i id kind quota d p cap xs r (by omega) hc hi hr hk (by omega) (by omega) hf hid hT (by omega) hqr hup g.q.2 g.le)
          rw [if_neg hqr] at hM
          refine (Make_ok h1 i id kind quota d p cap xs r (by omega) hc hi hr hk (by omega) (by omega) hf hid hT (by omega) (by omega) hup g.q.2 (by omega)).mono ?_
          rintro e w' ⟨rfl, D', r', s', a1, a2, a3, a4, a5⟩
          refine ⟨by rw [hM], _, ⟨id :: K, D', _, a1, ?_, rfl, ?_⟩, a5⟩
          · unfold makeT; rw [if_pos hM, hSi]; exact (h2.upd i r' a2).upd id s' a3
          · unfold makeT; rw [if_pos hM, hSi]; exact h4.make hSi hSid hk (by omega) (by omega) hid (by omega) (by omega) (by omega)
  · have hcs : contS S i ≠ 0 := by rw [← contE_S h2]; exact hne
    exact no (c := contE T i) hne (by unfold makeS; rw [if_pos hcs, contE_S h2]) (Make_cont h1 i id kind quota d p cap xs hi hne)
theorem link_x (h : HX rt w base tb mb F S) (i x : Int) (hi : i64 i) (hx : i64 x) :
    Calls Try.prog 11 #[.pointer (some ⟨tb, 0, none⟩), .int .i64 i, .int .i64 x] w fun e w' => e = .returned (.int .i64 (linkS S i x)) ∧ DidX rt w base tb mb F (linkT S i x) w' := by
  have H := h
  obtain ⟨K, D, T, h1, h2, rfl, h4⟩ := h
  have no : ∀ {c : Int}, c ≠ 0 → linkS S i x = c → Calls Try.prog 11 #[.pointer (some ⟨tb, 0, none⟩), .int .i64 i, .int .i64 x] w (fun e w' => e = .returned (.int .i64 c) ∧ Below w.heap.size w w') → Calls Try.prog 11 #[.pointer (some ⟨tb, 0, none⟩), .int .i64 i, .int .i64 x] w fun e w' => e = .returned (.int .i64 (linkS S i x)) ∧ DidX rt w base tb mb (tfoot tb mb T) (linkT S i x) w' := fun {c} hc0 hz hh => hh.mono fun e w' ⟨a, b⟩ => ⟨by rw [hz]; exact a, by rw [linkT_no (by rw [hz]; exact hc0)]; exact H.stay b⟩
  cases hT : T i with
  | none =>
    have hSi : S i = none := by rw [← h2 i, hT]; rfl
    exact no (by decide) (by unfold linkS; rw [hSi]) (Link_none1 h1 i x hi hx hT)
  | some r =>
    have hSi : S i = some r.ob := by rw [← h2 i, hT]; rfl
    cases hS : T x with
    | none =>
      have hSx : S x = none := by rw [← h2 x, hS]; rfl
      exact no (by decide) (by unfold linkS; rw [hSi, hSx]) (Link_none2 h1 i x hi hx r hT hS)
    | some s =>
      have hSx : S x = some s.ob := by rw [← h2 x, hS]; rfl
      have g := h4.ok i r.ob hSi
      have gx := h4.ok x s.ob hSx
      have hup := h4.upos hSi
      have hel := h4.elen hSi
      have hlen := h4.len
      have hgd := h4.good x s.ob hSx
      have hL : linkS S i x = if r.ob.kind ≠ 1 then 5 else if s.ob.kind ≠ 2 ∧ s.ob.kind ≠ 5 then 5 else if inB r.ob.ents x = true then 1 else if r.ob.quota - r.ob.used < s.ob.quota then 6 else 0 := by unfold linkS; rw [hSi, hSx]
      by_cases hk : r.ob.kind = 1
      · rw [if_neg (by simpa using hk)] at hL
        by_cases hs : s.ob.kind = 2 ∨ s.ob.kind = 5
        · rw [if_neg (by omega)] at hL
          have hix : i ≠ x := fun e => by subst e; rw [hT] at hS; cases hS; omega
          cases hc : r.ob.ents.contains x with
          | true =>
            have hin : inB r.ob.ents x = true := inB_iff.2 (by simpa using hc)
            rcases hs with hs | hs
            · exact no (by decide) (by rw [hL, if_pos hin]) (Link_arg2 h1 i x hi hx r s hT hS hk hs (by omega) hc)
            · exact no (by decide) (by rw [hL, if_pos hin]) (Link_arg5 h1 i x hi hx r s hT hS hk hs (by omega) hc)
          | false =>
            have hno : x ∉ r.ob.ents := by simpa using hc
            rw [if_neg (fun e => hno (inB_iff.1 e))] at hL
            by_cases hq : r.ob.quota - r.ob.used < s.ob.quota
            · rcases hs with hs | hs
              · exact no (by decide) (by rw [hL, if_pos hq]) (Link_quota2 h1 i x hi hx r s hT hS hk hs (by omega) hc hq hup g.q.2 g.le)
              · exact no (by decide) (by rw [hL, if_pos hq]) (Link_quota5 h1 i x hi hx r s hT hS hk hs (by omega) hc hq hup g.q.2 g.le)
            · rw [if_neg hq] at hL
              have fin : ∀ {e : Ending} {w' : World}, (e = .returned (.int .i64 0) ∧ ∃ iv, TAt w' base tb mb D (upd (upd T i (linkR r s iv)) x (upR s)) ∧ Fm w w' (tfoot tb mb T) (tfoot tb mb (upd (upd T i (linkR r s iv)) x (upR s)))) → e = .returned (.int .i64 (linkS S i x)) ∧ DidX rt w base tb mb (tfoot tb mb T) (linkT S i x) w' := by
                rintro e w' ⟨rfl, iv, a1, a2⟩
                refine ⟨by rw [hL], _, ⟨K, D, _, a1, ?_, rfl, ?_⟩, a2⟩
                · unfold linkT; rw [if_pos hL, hSi, hSx]
                  exact (h2.upd i _ (o := { r.ob with used := r.ob.used + s.ob.quota, ents := r.ob.ents ++ [x] }) (by rw [← gx.id]; rfl)).upd x _ rfl
                · unfold linkT; rw [if_pos hL, hSi, hSx]
                  exact h4.link hSi hSx hix hk hs hno (by omega)
              rcases hs with hs' | hs'
              · exact (Link_ok h1 i x hi hx r s hT hS hix hk hs' (by omega) hc (by omega) hup g.q.2 (by have := gx.q; omega) ⟨by omega, by omega⟩).mono fun e w' hh => fin hh
              · exact (Link_ok5 h1 i x hi hx r s hT hS hix hk hs' (by omega) hc (by omega) hup g.q.2 (by have := gx.q; omega) ⟨by omega, by omega⟩).mono fun e w' hh => fin hh
        · exact no (by decide) (by rw [hL, if_pos (by omega)]) (Link_kind2 h1 i x hi hx r s hT hS hk (fun e => hs (.inl e)) (fun e => hs (.inr e)))
      · exact no (by decide) (by rw [hL, if_pos hk]) (Link_kind1 h1 i x hi hx r s hT hS hk)
theorem Shift_kind {D : DataW Unit} {T : Tab} (h : TAt w base tb mb D T) (i x n : Int) (hi : i64 i) (hx : i64 x) (r s : Rc) (hT : T i = some r) (hS : T x = some s) (hk : r.ob.kind = 1) (hsk : s.ob.kind ≠ 1) (hn : r.ob.ents.length < 1000000) (hc : r.ob.ents.contains x = true) :
    Calls Try.prog 23 #[.pointer (some ⟨tb, 0, none⟩), .int .i64 i, .int .i64 x, .int .i64 n] w fun e w' => e = .returned (.int .i64 5) ∧ Below w.heap.size w w' := by
  have HE := Lib.hid (entry_at h i x hi hx r s hT hS hk hn hc)
  have so := (h.obj x s hS).1
  have k1 : w.cell? ⟨s.B, 1, none⟩ = some (.int .i64 s.ob.kind) := by simp [World.cell?, so.blk, cellsR]
  have hkb : (s.ob.kind != 1) = true := by simpa using hsk
  clear h so
  go_enter Try.func23, Try.ntmps23
  go_wp2_with (first
    | (go_at_call 43; refine HE.out.mono ?_; rintro e w1 ⟨rfl, hw1⟩; rw [hw1]; clear hw1 w1))
  go_ret
  exact ⟨rfl, Below.refl _ _⟩
theorem shift_x (h : HX rt w base tb mb F S) (i x n : Int) (hi : i64 i) :
    Calls Try.prog 23 #[.pointer (some ⟨tb, 0, none⟩), .int .i64 i, .int .i64 x, .int .i64 n] w fun e w' => e = .returned (.int .i64 (shiftS S i x n)) ∧ DidX rt w base tb mb F (shiftT S i x n) w' := by
  have H := h
  obtain ⟨K, D, T, h1, h2, rfl, h4⟩ := h
  have no : ∀ {c : Int}, c ≠ 0 → shiftS S i x n = c → Calls Try.prog 23 #[.pointer (some ⟨tb, 0, none⟩), .int .i64 i, .int .i64 x, .int .i64 n] w (fun e w' => e = .returned (.int .i64 c) ∧ Below w.heap.size w w') → Calls Try.prog 23 #[.pointer (some ⟨tb, 0, none⟩), .int .i64 i, .int .i64 x, .int .i64 n] w fun e w' => e = .returned (.int .i64 (shiftS S i x n)) ∧ DidX rt w base tb mb (tfoot tb mb T) (shiftT S i x n) w' := fun {c} hc0 hz hh => hh.mono fun e w' ⟨a, b⟩ => ⟨by rw [hz]; exact a, by rw [shiftT_no (by rw [hz]; exact hc0)]; exact H.stay b⟩
  have hlen := h4.len
  have hl : ∀ r, T i = some r → r.ob.ents.length < 1000000 := fun r hr => by
    have := h4.elen (k := i) (o := r.ob) (by rw [← h2 i, hr]; rfl)
    omega
  rcases entE_cases T i x with ⟨r, hr, hk, hc⟩ | hne
  · have hSi : S i = some r.ob := by rw [← h2 i, hr]; rfl
    have hxe : x ∈ r.ob.ents := by simpa using hc
    obtain ⟨p, hp⟩ := h4.ent hSi hxe
    obtain ⟨s, hs, rfl⟩ := h2.some hp
    have g := h4.ok i r.ob hSi
    have gx := h4.ok x s.ob hp
    have hup := h4.upos hSi
    have hux := h4.upos hp
    have hix : i ≠ x := fun e => g.slf (e ▸ hxe)
    have hx64 := ct_i64 gx.ct
    have q1 := g.q
    have q2 := gx.q
    have l1 := g.le
    have l2 := gx.le
    have hez : entC S i x = 0 := by unfold entC; rw [hSi]; simp only [if_pos hk, if_pos (inB_iff.2 hxe)]
    have hM : shiftS S i x n = if s.ob.kind ≠ 1 then 5 else if n < -1099511627776 ∨ 1099511627776 < n then 1 else if r.ob.quota - r.ob.used < n ∨ s.ob.quota - s.ob.used < -n ∨ s.ob.quota + n < 1 then 6 else 0 := by
      unfold shiftS; rw [if_neg (by rw [hez]; simp), hSi, hp]
    by_cases hsk : s.ob.kind = 1
    · rw [if_neg (by simpa using hsk)] at hM
      by_cases ha : n < -1099511627776 ∨ 1099511627776 < n
      · exact no (by decide) (by rw [hM, if_pos ha]) ((Shift_arg h1 i x n hi hx64 r s hr hs hk hsk (hl r hr) hc ha).mono fun e w' ⟨a, b⟩ => ⟨a, by rw [b]; exact Below.refl _ _⟩)
      rw [if_neg ha] at hM
      by_cases hno : r.ob.quota - r.ob.used < n ∨ s.ob.quota - s.ob.used < -n ∨ s.ob.quota + n < 1
      · exact no (by decide) (by rw [hM, if_pos hno]) (Shift_quota h1 i x n hi hx64 r s hr hs hk hsk (hl r hr) hc (by omega) (by unfold i64; omega) (by unfold i64; omega) (by unfold i64; omega) hno)
      rw [if_neg hno] at hM
      refine (Shift_ok h1 i x n hi hx64 r s hr hs hk hsk (hl r hr) hc (by omega) (by unfold i64; omega) (by unfold i64; omega) (by unfold i64; omega) hix (by omega) (by unfold i64; omega)).mono ?_
      rintro e w' ⟨rfl, a1, a2⟩
      refine ⟨by rw [hM], _, ⟨K, D, _, a1, ?_, rfl, ?_⟩, a2⟩
      · unfold shiftT; rw [if_pos hM, hSi, hp]; exact (h2.upd i (shR r n) rfl).upd x (shS s n) rfl
      · unfold shiftT; rw [if_pos hM, hSi, hp]; exact h4.shift hSi hxe hp hsk (by omega) (by omega) (by omega)
    · exact no (by decide) (by rw [hM, if_pos hsk]) (Shift_kind h1 i x n hi hx64 r s hr hs hk hsk (hl r hr) hc)
  · have hes : entC S i x ≠ 0 := by rw [← entE_S h2]; exact hne
    exact no (c := entE T i x) hne (by unfold shiftS; rw [if_pos hes, entE_S h2]) ((Shift_no h1 i x n hi hl hne).mono fun e w' ⟨a, b⟩ => ⟨a, by rw [b]; exact Below.refl _ _⟩)
theorem relab_x (h : HX rt w base tb mb F S) (id d : Int) (p : Option Addr) (cap : Nat) (xs : List (Int × Int)) (hm : xs.length ≤ maxLen) (hc : CatsAt w p xs) (hi : i64 id) :
    Calls Try.prog 25 #[.pointer (some ⟨tb, 0, none⟩), .int .i64 id, .agg #[.int .i64 d, .slice p xs.length cap]] w fun e w' => e = .returned (.int .i64 (relabS S id d xs)) ∧ DidX rt w base tb mb F (relabT S id d xs) w' := by
  have H := h
  obtain ⟨K, D, T, h1, h2, rfl, h4⟩ := h
  have no : ∀ {c : Int}, c ≠ 0 → relabS S id d xs = c → Calls Try.prog 25 #[.pointer (some ⟨tb, 0, none⟩), .int .i64 id, .agg #[.int .i64 d, .slice p xs.length cap]] w (fun e w' => e = .returned (.int .i64 c) ∧ Below w.heap.size w w') → Calls Try.prog 25 #[.pointer (some ⟨tb, 0, none⟩), .int .i64 id, .agg #[.int .i64 d, .slice p xs.length cap]] w fun e w' => e = .returned (.int .i64 (relabS S id d xs)) ∧ DidX rt w base tb mb (tfoot tb mb T) (relabT S id d xs) w' := fun {c} hc0 hz hh => hh.mono fun e w' ⟨a, b⟩ => ⟨by rw [hz]; exact a, by rw [relabT_no (by rw [hz]; exact hc0)]; exact H.stay b⟩
  cases hT : T id with
  | none =>
    have hSi : S id = none := by rw [← h2 id, hT]; rfl
    exact no (by decide) (by unfold relabS; rw [hSi]) (Relabel_none h1 id d p cap xs hi hT)
  | some r =>
    have hSi : S id = some r.ob := by rw [← h2 id, hT]; rfl
    have hM : relabS S id d xs = if r.ob.kind ≠ 4 then 5 else if plainS d xs = true then 0 else 1 := by unfold relabS; rw [hSi]
    by_cases hk : r.ob.kind = 4
    · rw [if_neg (by simpa using hk)] at hM
      refine (Relabel_four h1 id d p cap xs hm hc hi r hT hk).mono ?_
      intro e w' hh
      rw [show low 4 = 0 from rfl, fits_plain] at hh
      by_cases hf : plainS d xs = true
      · rw [if_pos hf] at hh hM
        obtain ⟨rfl, cv, a1, a2⟩ := hh
        have hx16 : xs.length ≤ 16 := by unfold plainS rightS at hf; simp at hf; omega
        refine ⟨by rw [hM], _, ⟨K, D, _, a1, ?_, rfl, ?_⟩, a2⟩
        · unfold relabT; rw [if_pos hM, hSi]; exact h2.upd id (labR r cv d xs) rfl
        · unfold relabT; rw [if_pos hM, hSi]; exact h4.turn hSi rfl rfl rfl (fun g => ⟨g.id, g.ct, g.kd, g.q, g.nd, g.us, g.le, g.non, g.lk, g.l1, g.slf, by show xs.length < 1000000; omega⟩)
      · rw [if_neg hf] at hh hM
        exact ⟨by rw [hM]; exact hh.1, by rw [relabT_no (by rw [hM]; decide)]; exact H.stay hh.2⟩
    · exact no (by decide) (by rw [hM, if_pos hk]) (Relabel_kind h1 id d p cap xs hi r hT hk)
theorem drop_x (h : HX rt w base tb mb F S) (i x : Int) (hi : i64 i) :
    Calls Try.prog 12 #[.pointer (some ⟨tb, 0, none⟩), .int .i64 i, .int .i64 x] w fun e w' => ∃ gv g S', e = .returned (.tuple #[gv, .int .i64 (entC S i x)]) ∧ w'.ownsRow w.heap.size 3 1 gv g.length (ivs g) ∧ DidX rt w base tb mb F S' w' ∧ (entC S i x ≠ 0 → S' = S ∧ g = []) ∧
      (entC S i x = 0 → ∃ o p K, S i = some o ∧ o.kind = 1 ∧ x ∈ o.ents ∧ S x = some p ∧ Inv rt S K ∧ loosS K.length (updS S i (dropO o p.quota x)) x [] = some (S', g)) := by
  have H := h
  obtain ⟨K, D, T, h1, h2, rfl, h4⟩ := h
  have hlen := h4.len
  have hl : ∀ r, T i = some r → r.ob.ents.length < 1000000 := fun r hr => by
    have := h4.elen (k := i) (o := r.ob) (by rw [← h2 i, hr]; rfl)
    omega
  rcases entE_cases T i x with ⟨r, hr, hk, hc⟩ | hne
  · have hSi : S i = some r.ob := by rw [← h2 i, hr]; rfl
    have hxe : x ∈ r.ob.ents := by simpa using hc
    obtain ⟨p, hp⟩ := h4.ent hSi hxe
    obtain ⟨s, hs, rfl⟩ := h2.some hp
    have g := h4.ok i r.ob hSi
    have gx := h4.ok x s.ob hp
    have hup := h4.upos hSi
    have hsz := size_len h1 h2 h4
    have hez : entC S i x = 0 := by unfold entC; rw [hSi]; simp only [if_pos hk, if_pos (inB_iff.2 hxe)]
    obtain ⟨S', gg, K', hlo, hinv, hpm, _⟩ := h4.drop hSi hxe hp
    have hix : i ≠ x := fun e => g.slf (e ▸ hxe)
    have hV : ∀ iv, V (upd T i (dropR r s x iv)) (updS S i (dropO r.ob s.ob.quota x)) := fun iv => h2.upd i _ rfl
    refine (Drop_ok h1 i x hi (ct_i64 gx.ct) r s hr hs hix hk hc (h2.good h4.good) (by omega) (by have := g.q; have := gx.q; have := g.le; unfold i64; omega) K.length (fun iv => ?_)).mono ?_
    · obtain ⟨T', h3, _⟩ := loosF_V K.length _ _ x [] S' gg (hV iv) hlo
      exact ⟨_, h3⟩
    · rintro e w' ⟨iv, T', gone', gv, D', a1, rfl, a3, a4, a5, a6, a7, a8⟩
      obtain ⟨T2, h3, h5⟩ := loosF_V K.length _ _ x [] S' gg (hV iv) hlo
      rw [a1] at h3
      cases h3
      rw [hez]
      exact ⟨gv, gg, S', rfl, a4, ⟨_, ⟨K', D', T', a3, h5, rfl, hinv⟩, ⟨a8.os, a8.tape, a8.output, a8.size, a8.same, fun k hk => .inl (a6 k hk)⟩⟩, fun hh => absurd rfl hh, fun _ => ⟨r.ob, s.ob, K, hSi, hk, hxe, hp, h4, hlo⟩⟩
  · have hes : entC S i x ≠ 0 := by rw [← entE_S h2]; exact hne
    refine (Drop_no h1 i x hi hl hne).mono ?_
    rintro e w' ⟨rfl, rfl⟩
    exact ⟨_, [], S, by rw [← entE_S h2], World.ownsRow_nil _ _ _ _, H.stay (Below.refl _ _), fun _ => ⟨rfl, rfl⟩, fun e => absurd e hes⟩
theorem copy_x (h : HX rt w base tb mb F S) :
    Calls Try.prog 27 #[.pointer (some ⟨tb, 0, none⟩)] w fun e w' => ∃ tb' mb' F', e = .returned (.pointer (some ⟨tb', 0, none⟩)) ∧ HX rt w' w.heap.size tb' mb' F' S ∧ Below w.heap.size w w' := by
  obtain ⟨K, D, T, h1, h2, rfl, h4⟩ := h
  have hsz := size_len h1 h2 h4
  have hlen := h4.len
  refine (Copy_any h1 (by omega) (fun k r hr => ?_)).mono ?_
  · have hSk : S k = some r.ob := by rw [← h2 k, hr]; rfl
    have := h4.elen hSk
    have := (h4.ok k r.ob hSk).cat
    omega
  · rintro e w' ⟨tb', mb', D', T', rfl, a1, a2, a3⟩
    exact ⟨tb', mb', _, rfl, ⟨K, D', T', a1, fun k => (a2 k).trans (h2 k), rfl, h4⟩, a3⟩
end
end Go.Proofs.Ytebcnlhgkpaghaa
