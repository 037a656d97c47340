/- Each call of package hold on a table that is as it should be. -/
import Derived.Test.YtlblfelfaopjiaaInvM
import Derived.Test.YtlblfelfaopjiaaMakeE
import Derived.Test.YtlblfelfaopjiaaMakeQ
import Derived.Test.YtlblfelfaopjiaaLinkE
import Derived.Test.YtlblfelfaopjiaaShift
import Derived.Test.YtlblfelfaopjiaaEnts
import Derived.Test.YtlblfelfaopjiaaCopyG
namespace Go.Proofs.Ytlblfelfaopjiaa
open Go.RowKit Go.Sort
open Go.Maps (Keyed)
theorem keysD {w : World} {base tb mb : Nat} {D : DataW Unit} {T : Tab} (h : TAt w base tb mb D T) : (intKeys D).Nodup ∧ (∀ k, k ∈ intKeys D ↔ (T k).isSome = true) ∧ (intKeys D).length = Maps.size D := by
  obtain ⟨es, hD, hpw, _⟩ := h.map.entries keyedI
  obtain ⟨es', hD', hko⟩ := h.map.keysOf
  obtain rfl : es = es' := by rw [hD] at hD'; simpa using hD'
  have hk : ∀ p ∈ es, ∃ x, p.1 = .int .i64 x := fun p hp => by obtain ⟨v, hv⟩ := hko p hp; obtain ⟨x, _, hx, _⟩ := Maps.keyOf_i64 ui hv; exact ⟨x, hx⟩
  have hhas := h.has
  rw [hD] at hhas ⊢
  refine ⟨?_, fun x => ?_, by rw [Maps.size_eq]; simp [intKeys]⟩
  · show (es.map fun p => Go.intOf p.1).Nodup
    refine List.pairwise_map.2 (hpw.imp_of_mem fun {p q} hp' hq' hne e => hne ?_)
    obtain ⟨a, ha⟩ := hk p hp'
    obtain ⟨b, hb⟩ := hk q hq'
    rw [ha, hb] at e ⊢
    exact congrArg _ e
  · rw [← hhas x, Maps.has_eq, List.any_eq_true]
    show x ∈ (es.map fun p => Go.intOf p.1) ↔ _
    rw [List.mem_map]
    constructor
    · rintro ⟨p, hp', rfl⟩
      obtain ⟨a, ha⟩ := hk p hp'
      exact ⟨p, hp', by rw [ha]; simp [Lit.sameKey, Go.intOf]⟩
    · rintro ⟨p, hp', hs⟩
      obtain ⟨a, ha⟩ := hk p hp'
      rw [ha] at hs
      exact ⟨p, hp', by rw [ha]; simpa [Lit.sameKey, Go.intOf] using hs⟩
/-- The table S lies at tb, in the blocks F, and is as it should be. -/
def HI (w : World) (base tb mb : Nat) (F : Nat → Prop) (S : Abs) : Prop := ∃ K D T, TAt w base tb mb D T ∧ V T S ∧ tfoot tb mb T = F ∧ Inv S K
theorem V.isSome {T : Tab} {S : Abs} (h : V T S) (k : Int) : (T k).isSome = (S k).isSome := by rw [← h k]; cases T k <;> rfl
theorem size_len {w : World} {base tb mb : Nat} {D : DataW Unit} {T : Tab} {S : Abs} {K : List Int} (h : TAt w base tb mb D T) (hv : V T S) (hi : Inv S K) : Maps.size D = K.length := by
  obtain ⟨h1, h2, h3⟩ := keysD h
  rw [← h3]
  exact ((List.perm_ext_iff_of_nodup h1 hi.bal.nd).2 (fun k => by rw [h2 k, hi.bal.mem k, hv.isSome])).length_eq
theorem HI.same {w w' : World} {base tb mb : Nat} {F : Nat → Prop} {S : Abs} (h : HI w base tb mb F S) (hs : ∀ k, F k → w'.heap[k]? = w.heap[k]?) : HI w' base tb mb F S := by
  obtain ⟨K, D, T, h1, h2, rfl, h4⟩ := h
  exact ⟨K, D, T, h1.same hs, h2, rfl, h4⟩
theorem HI.lt {w : World} {base tb mb : Nat} {F : Nat → Prop} {S : Abs} (h : HI w base tb mb F S) {k : Nat} (hk : F k) : base ≤ k ∧ k < w.heap.size := by
  obtain ⟨K, D, T, h1, h2, rfl, h4⟩ := h
  exact h1.lt hk
theorem HI.below {w w' : World} {base tb mb : Nat} {F : Nat → Prop} {S : Abs} (h : HI w base tb mb F S) (hb : Below w.heap.size w w') : HI w' base tb mb F S := h.same (fun k hk => hb.block k (h.lt hk).2)
theorem Fm.stay {w w' : World} {F : Nat → Prop} (hb : Below w.heap.size w w') : Fm w w' F F := ⟨hb.os, hb.tape, hb.output, hb.size, fun k hk _ => hb.block k hk, fun _ h => .inl h⟩
/-- What a call leaves: its error; and nothing has changed where there is one. -/
def Did (w : World) (base tb mb : Nat) (F : Nat → Prop) (S : Abs) (c : Int) (w' : World) : Prop := ∃ F' S', HI w' base tb mb F' S' ∧ Fm w w' F F' ∧ (c ≠ 0 → S' = S)
theorem HI.stay {w w' : World} {base tb mb : Nat} {F : Nat → Prop} {S : Abs} (h : HI w base tb mb F S) (hb : Below w.heap.size w w') (c : Int) : Did w base tb mb F S c w' := ⟨F, S, h.below hb, Fm.stay hb, fun _ => rfl⟩
theorem new_hi (w : World) :
    Calls Try.prog 9 #[.int .i64 1, .agg #[.int .i64 2, .slice none 0 0]] w fun e w' => ∃ tb mb F S, e = .returned (.pointer (some ⟨tb, 0, none⟩)) ∧ HI w' w.heap.size tb mb F S ∧ Below w.heap.size w w' := by
  refine (New_any 1 2 none 0 [] w (by simp) (cats0 w) (by decide) (by decide)).mono ?_
  rintro e w' ⟨tb, mb, D, r, rfl, h1, h2, h3, h4⟩
  obtain ⟨S, hS⟩ : ∃ S : Abs, S = updS (fun _ => none) 1 (root0 1 2 []) := ⟨_, rfl⟩
  have s1 : S 1 = some (root0 1 2 []) := by rw [hS, updS_at]
  have s2 : ∀ k, k ≠ 1 → S k = none := fun k hk => by rw [hS, updS_ne _ _ hk]
  refine ⟨tb, mb, _, S, rfl, ⟨[1], D, T0 1 r, h1, fun k => ?_, rfl, ⟨⟨by simp, fun k => ?_, fun x o hx => ?_, fun x hx => ?_⟩, fun k o hk => ?_, by simp, ⟨fun _ => 0, fun k o x hk hx => ?_⟩⟩⟩, h4⟩
  · unfold T0
    by_cases e : k = 1
    · subst e; rw [if_pos rfl, s1, ← h2]; rfl
    · rw [if_neg e, s2 k e]; rfl
  · by_cases e : k = 1
    · subst e; rw [s1]; simp
    · rw [s2 k e]; simp [e]
  · by_cases e : x = 1
    · subst e; rw [s1] at hx; cases hx; simp [cnt, occ, s1, root0]
    · rw [s2 x e] at hx; cases hx
  · by_cases e : x = 1
    · subst e; rw [s1] at hx; cases hx
    · exact ⟨by simp [cnt, occ, s1, root0], e⟩
  · by_cases e : k = 1
    · subst e
      rw [s1] at hk; cases hk
      exact ⟨rfl, by decide, by decide, by decide, List.nodup_nil, rfl, by decide, fun h => absurd rfl h, fun _ _ => rfl, by decide, (fun hm => by cases hm), by decide⟩
    · rw [s2 k e] at hk; cases hk
  · by_cases e : k = 1
    · subst e; rw [s1] at hk; cases hk; cases hx
    · rw [s2 k e] at hk; cases hk
theorem contE_cases (T : Tab) (i : Int) : (∃ r, T i = some r ∧ r.ob.kind = 1 ∧ contE T i = 0) ∨ contE T i ≠ 0 := by
  unfold contE
  cases hT : T i with
  | none => exact .inr (by simp)
  | some r =>
    by_cases hk : r.ob.kind = 1
    · exact .inl ⟨r, rfl, hk, by simp [hk]⟩
    · exact .inr (by simp [hk])
theorem entE_cases (T : Tab) (i x : Int) : (∃ r, T i = some r ∧ r.ob.kind = 1 ∧ r.ob.ents.contains x = true) ∨ entE T i x ≠ 0 := by
  unfold entE
  cases hT : T i with
  | none => exact .inr (by simp)
  | some r =>
    by_cases hk : r.ob.kind = 1
    · by_cases hc : r.ob.ents.contains x = true
      · exact .inl ⟨r, rfl, hk, hc⟩
      · exact .inr (by simp only [if_pos hk, if_neg hc]; decide)
    · exact .inr (by simp only [if_neg hk]; decide)
theorem make_hi {w : World} {base tb mb : Nat} {F : Nat → Prop} {S : Abs} (h : HI w base tb mb F S) (i id kind quota d : Int) (p : Option Addr) (cap : Nat) (xs : List (Int × Int)) (hm : xs.length ≤ maxLen) (hc : CatsAt w p xs) (hi : i64 i) :
    Calls Try.prog 20 #[.pointer (some ⟨tb, 0, none⟩), .int .i64 i, .int .i64 id, .int .i64 kind, .int .i64 quota, .agg #[.int .i64 d, .slice p xs.length cap]] w fun e w' => ∃ c, e = .returned (.int .i64 c) ∧ Did w base tb mb F S c w' := by
  have H := h
  obtain ⟨K, D, T, h1, h2, rfl, h4⟩ := h
  have hsz := size_len h1 h2 h4
  have no : ∀ {c : Int}, Calls Try.prog 20 #[.pointer (some ⟨tb, 0, none⟩), .int .i64 i, .int .i64 id, .int .i64 kind, .int .i64 quota, .agg #[.int .i64 d, .slice p xs.length cap]] w (fun e w' => e = .returned (.int .i64 c) ∧ Below w.heap.size w w') → Calls Try.prog 20 #[.pointer (some ⟨tb, 0, none⟩), .int .i64 i, .int .i64 id, .int .i64 kind, .int .i64 quota, .agg #[.int .i64 d, .slice p xs.length cap]] w fun e w' => ∃ c, e = .returned (.int .i64 c) ∧ Did w base tb mb (tfoot tb mb T) S c w' := fun {c} hh => hh.mono fun e w' ⟨a, b⟩ => ⟨c, a, H.stay b c⟩
  rcases contE_cases T i with ⟨r, hr, hk, _⟩ | hne
  · have hSi : S i = some r.ob := by rw [← h2 i, hr]; rfl
    have g := h4.ok i r.ob hSi
    have hup := h4.upos hSi
    have hel := h4.elen hSi
    have hlen := h4.len
    by_cases k1 : kind < 1 ∨ 6 < kind
    · exact no (Make_kind h1 i id kind quota d p cap xs hi r hr hk k1)
    by_cases q1 : quota < 1
    · exact no (Make_arg1 h1 i id kind quota d p cap xs hm hc hi r hr hk (by omega) q1)
    by_cases q2 : 1099511627776 < quota
    · exact no (Make_arg2 h1 i id kind quota d p cap xs hm hc hi r hr hk (by omega) (by omega) q2)
    cases hf : fitsS d (low kind) xs with
    | false => exact no (Make_arg3 h1 i id kind quota d p cap xs hm hc hi r hr hk (by omega) (by omega) hf)
    | true =>
      have hx16 : xs.length ≤ 16 := by unfold fitsS at hf; simp at hf; omega
      cases hid : isCt id with
      | false => exact no (Make_id1 h1 i id kind quota d p cap xs hm hc hi r hr hk (by omega) (by omega) hf hid)
      | true =>
        cases hT : T id with
        | some s => exact no (Make_id2 h1 i id kind quota d p cap xs hm hc hi r hr hk (by omega) (by omega) hf hid s hT)
        | none =>
          by_cases hful : 4096 ≤ Maps.size D
          · exact no (Make_full h1 i id kind quota d p cap xs hm hc hi r hr hk (by omega) (by omega) hf hid hT hful)
          by_cases hqr : r.ob.quota - r.ob.used < quota
          · exact no (Make_quota h1 i id kind quota d p cap xs r (by omega) hc hi hr hk (by omega) (by omega) hf hid hT (by omega) hqr hup g.q.2 g.le)
          refine (Make_ok h1 i id kind quota d p cap xs r (by omega) hc hi hr hk (by omega) (by omega) hf hid hT (by omega) (by omega) hup g.q.2 (by omega)).mono ?_
          rintro e w' ⟨rfl, D', r', s', a1, a2, a3, a4, a5⟩
          refine ⟨0, rfl, _, _, ⟨id :: K, D', _, a1, (h2.upd i r' a2).upd id s' a3, rfl, ?_⟩, a5, fun hh => absurd rfl hh⟩
          exact h4.make hSi (by rw [← h2 id, hT]; rfl) hk (by omega) (by omega) hid (by omega) (by omega) (by omega)
  · exact no (Make_cont h1 i id kind quota d p cap xs hi hne)
theorem link_hi {w : World} {base tb mb : Nat} {F : Nat → Prop} {S : Abs} (h : HI w base tb mb F S) (i x : Int) (hi : i64 i) (hx : i64 x) :
    Calls Try.prog 21 #[.pointer (some ⟨tb, 0, none⟩), .int .i64 i, .int .i64 x] w fun e w' => ∃ c, e = .returned (.int .i64 c) ∧ Did w base tb mb F S c w' := by
  have H := h
  obtain ⟨K, D, T, h1, h2, rfl, h4⟩ := h
  have no : ∀ {c : Int}, Calls Try.prog 21 #[.pointer (some ⟨tb, 0, none⟩), .int .i64 i, .int .i64 x] w (fun e w' => e = .returned (.int .i64 c) ∧ Below w.heap.size w w') → Calls Try.prog 21 #[.pointer (some ⟨tb, 0, none⟩), .int .i64 i, .int .i64 x] w fun e w' => ∃ c, e = .returned (.int .i64 c) ∧ Did w base tb mb (tfoot tb mb T) S c w' := fun {c} hh => hh.mono fun e w' ⟨a, b⟩ => ⟨c, a, H.stay b c⟩
  cases hT : T i with
  | none => exact no (Link_none1 h1 i x hi hx hT)
  | some r =>
    cases hS : T x with
    | none => exact no (Link_none2 h1 i x hi hx r hT hS)
    | some s =>
      have hSi : S i = some r.ob := by rw [← h2 i, hT]; rfl
      have hSx : S x = some s.ob := by rw [← h2 x, hS]; rfl
      have g := h4.ok i r.ob hSi
      have gx := h4.ok x s.ob hSx
      have hup := h4.upos hSi
      have hel := h4.elen hSi
      have hlen := h4.len
      have hgd := h4.good x s.ob hSx
      by_cases hk : r.ob.kind = 1
      · by_cases hs : s.ob.kind = 2 ∨ s.ob.kind = 5
        · have hix : i ≠ x := fun e => by subst e; rw [hT] at hS; cases hS; omega
          cases hc : r.ob.ents.contains x with
          | true =>
            rcases hs with hs | hs
            · exact no (Link_arg2 h1 i x hi hx r s hT hS hk hs (by omega) hc)
            · exact no (Link_arg5 h1 i x hi hx r s hT hS hk hs (by omega) hc)
          | false =>
            have hno : x ∉ r.ob.ents := by simpa using hc
            by_cases hq : r.ob.quota - r.ob.used < s.ob.quota
            · rcases hs with hs | hs
              · exact no (Link_quota2 h1 i x hi hx r s hT hS hk hs (by omega) hc hq hup g.q.2 g.le)
              · exact no (Link_quota5 h1 i x hi hx r s hT hS hk hs (by omega) hc hq hup g.q.2 g.le)
            · have fin : ∀ {e : Ending} {w' : World}, (e = .returned (.int .i64 0) ∧ ∃ iv, TAt w' base tb mb D (upd (upd T i (linkR r s iv)) x (upR s)) ∧ Fm w w' (tfoot tb mb T) (tfoot tb mb (upd (upd T i (linkR r s iv)) x (upR s)))) → ∃ c, e = .returned (.int .i64 c) ∧ Did w base tb mb (tfoot tb mb T) S c w' := by
                rintro e w' ⟨rfl, iv, a1, a2⟩
                refine ⟨0, rfl, _, _, ⟨K, D, _, a1, (h2.upd i _ (o := { r.ob with used := r.ob.used + s.ob.quota, ents := r.ob.ents ++ [x] }) (by rw [← gx.id]; rfl)).upd x _ rfl, rfl, ?_⟩, a2, fun hh => absurd rfl hh⟩
                exact h4.link hSi hSx hix hk hs hno (by omega)
              rcases hs with hs' | hs'
              · exact (Link_ok h1 i x hi hx r s hT hS hix hk hs' (by omega) hc (by omega) hup g.q.2 (by have := gx.q; omega) ⟨by omega, by omega⟩).mono fun e w' hh => fin hh
              · exact (Link_ok5 h1 i x hi hx r s hT hS hix hk hs' (by omega) hc (by omega) hup g.q.2 (by have := gx.q; omega) ⟨by omega, by omega⟩).mono fun e w' hh => fin hh
        · exact no (Link_kind2 h1 i x hi hx r s hT hS hk (fun e => hs (.inl e)) (fun e => hs (.inr e)))
      · exact no (Link_kind1 h1 i x hi hx r s hT hS hk)
theorem drop_hi {w : World} {base tb mb : Nat} {F : Nat → Prop} {S : Abs} (h : HI w base tb mb F S) (i x : Int) (hi : i64 i) :
    Calls Try.prog 22 #[.pointer (some ⟨tb, 0, none⟩), .int .i64 i, .int .i64 x] w fun e w' => ∃ gv c, e = .returned (.tuple #[gv, .int .i64 c]) ∧ (∃ sp n cp, gv = .slice sp n cp) ∧ Did w base tb mb F S c w' := by
  have H := h
  obtain ⟨K, D, T, h1, h2, rfl, h4⟩ := h
  have hlen := h4.len
  have hl : ∀ r, T i = some r → r.ob.ents.length < 1000000 := fun r hr => by
    have := h4.elen (k := i) (o := r.ob) (by rw [← h2 i, hr]; rfl)
    omega
  rcases entE_cases T i x with ⟨r, hr, hk, hc⟩ | hne
  · have hSi : S i = some r.ob := by rw [← h2 i, hr]; rfl
    have hxe : x ∈ r.ob.ents := by simpa using hc
    obtain ⟨p, hp⟩ := h4.ent hSi hxe
    obtain ⟨s, hs, rfl⟩ := h2.some hp
    have g := h4.ok i r.ob hSi
    have gx := h4.ok x s.ob hp
    have hup := h4.upos hSi
    have hsz := size_len h1 h2 h4
    obtain ⟨S', gg, K', hlo, hinv, hpm, _⟩ := h4.drop hSi hxe hp
    have hix : i ≠ x := fun e => g.slf (e ▸ hxe)
    have hV : ∀ iv, V (upd T i (dropR r s x iv)) (updS S i (dropO r.ob s.ob.quota x)) := fun iv => h2.upd i _ rfl
    refine (Drop_ok h1 i x hi (ct_i64 gx.ct) r s hr hs hix hk hc (h2.good h4.good) (by omega) (by have := g.q; have := gx.q; have := g.le; unfold i64; omega) K.length (fun iv => ?_)).mono ?_
    · obtain ⟨T', h3, _⟩ := loosF_V K.length _ _ x [] S' gg (hV iv) hlo
      exact ⟨_, h3⟩
    · rintro e w' ⟨iv, T', gone', gv, D', a1, rfl, a3, a4, a5, a6, a7, a8⟩
      obtain ⟨T2, h3, h5⟩ := loosF_V K.length _ _ x [] S' gg (hV iv) hlo
      rw [a1] at h3
      cases h3
      obtain ⟨sp, cp, hv⟩ := row_form a4
      exact ⟨gv, 0, rfl, ⟨sp, _, cp, hv⟩, _, _, ⟨K', D', T', a3, h5, rfl, hinv⟩, ⟨a8.os, a8.tape, a8.output, a8.size, a8.same, fun k hk => .inl (a6 k hk)⟩, fun hh => absurd rfl hh⟩
  · refine (Drop_no h1 i x hi hl hne).mono ?_
    rintro e w' ⟨rfl, rfl⟩
    exact ⟨_, _, rfl, ⟨none, 0, 0, rfl⟩, H.stay (Below.refl _ _) _⟩
theorem Shift_kind {w : World} {base tb mb : Nat} {D : DataW Unit} {T : Tab} (h : TAt w base tb mb D T) (i x n : Int) (hi : i64 i) (hx : i64 x) (r s : Rc) (hT : T i = some r) (hS : T x = some s) (hk : r.ob.kind = 1) (hsk : s.ob.kind ≠ 1) (hn : r.ob.ents.length < 1000000) (hc : r.ob.ents.contains x = true) :
    Calls Try.prog 23 #[.pointer (some ⟨tb, 0, none⟩), .int .i64 i, .int .i64 x, .int .i64 n] w fun e w' => e = .returned (.int .i64 5) ∧ Below w.heap.size w w' := by
  have HE := Lib.hid (entry_at h i x hi hx r s hT hS hk hn hc)
  have so := (h.obj x s hS).1
  have k1 : w.cell? ⟨s.B, 1, none⟩ = some (.int .i64 s.ob.kind) := by simp [World.cell?, so.blk, cellsR]
  have hkb : (s.ob.kind != 1) = true := by simpa using hsk
  clear h so
  go_enter Try.func23, Try.ntmps23
  go_wp2_with (first
    | (go_at_call 57; refine HE.out.mono ?_; rintro e w1 ⟨rfl, hw1⟩; rw [hw1]; clear hw1 w1))
  go_ret
  exact ⟨rfl, Below.refl _ _⟩
theorem shift_hi {w : World} {base tb mb : Nat} {F : Nat → Prop} {S : Abs} (h : HI w base tb mb F S) (i x n : Int) (hi : i64 i) :
    Calls Try.prog 23 #[.pointer (some ⟨tb, 0, none⟩), .int .i64 i, .int .i64 x, .int .i64 n] w fun e w' => ∃ c, e = .returned (.int .i64 c) ∧ Did w base tb mb F S c w' := by
  have H := h
  obtain ⟨K, D, T, h1, h2, rfl, h4⟩ := h
  have no : ∀ {c : Int}, Calls Try.prog 23 #[.pointer (some ⟨tb, 0, none⟩), .int .i64 i, .int .i64 x, .int .i64 n] w (fun e w' => e = .returned (.int .i64 c) ∧ Below w.heap.size w w') → Calls Try.prog 23 #[.pointer (some ⟨tb, 0, none⟩), .int .i64 i, .int .i64 x, .int .i64 n] w fun e w' => ∃ c, e = .returned (.int .i64 c) ∧ Did w base tb mb (tfoot tb mb T) S c w' := fun {c} hh => hh.mono fun e w' ⟨a, b⟩ => ⟨c, a, H.stay b c⟩
  have hlen := h4.len
  have hl : ∀ r, T i = some r → r.ob.ents.length < 1000000 := fun r hr => by
    have := h4.elen (k := i) (o := r.ob) (by rw [← h2 i, hr]; rfl)
    omega
  rcases entE_cases T i x with ⟨r, hr, hk, hc⟩ | hne
  · have hSi : S i = some r.ob := by rw [← h2 i, hr]; rfl
    have hxe : x ∈ r.ob.ents := by simpa using hc
    obtain ⟨p, hp⟩ := h4.ent hSi hxe
    obtain ⟨s, hs, rfl⟩ := h2.some hp
    have g := h4.ok i r.ob hSi
    have gx := h4.ok x s.ob hp
    have hup := h4.upos hSi
    have hux := h4.upos hp
    have hix : i ≠ x := fun e => g.slf (e ▸ hxe)
    have hx64 := ct_i64 gx.ct
    have q1 := g.q
    have q2 := gx.q
    have l1 := g.le
    have l2 := gx.le
    by_cases hsk : s.ob.kind = 1
    · by_cases ha : n < -1099511627776 ∨ 1099511627776 < n
      · exact no ((Shift_arg h1 i x n hi hx64 r s hr hs hk hsk (hl r hr) hc ha).mono fun e w' ⟨a, b⟩ => ⟨a, by rw [b]; exact Below.refl _ _⟩)
      by_cases hno : r.ob.quota - r.ob.used < n ∨ s.ob.quota - s.ob.used < -n ∨ s.ob.quota + n < 1
      · exact no (Shift_quota h1 i x n hi hx64 r s hr hs hk hsk (hl r hr) hc (by omega) (by unfold i64; omega) (by unfold i64; omega) (by unfold i64; omega) hno)
      refine (Shift_ok h1 i x n hi hx64 r s hr hs hk hsk (hl r hr) hc (by omega) (by unfold i64; omega) (by unfold i64; omega) (by unfold i64; omega) hix (by omega) (by unfold i64; omega)).mono ?_
      rintro e w' ⟨rfl, a1, a2⟩
      exact ⟨0, rfl, _, _, ⟨K, D, _, a1, (h2.upd i (shR r n) rfl).upd x (shS s n) rfl, rfl, h4.shift hSi hxe hp hsk (by omega) (by omega) (by omega)⟩, a2, fun hh => absurd rfl hh⟩
    · exact no (Shift_kind h1 i x n hi hx64 r s hr hs hk hsk (hl r hr) hc)
  · exact no ((Shift_no h1 i x n hi hl hne).mono fun e w' ⟨a, b⟩ => ⟨a, by rw [b]; exact Below.refl _ _⟩)
theorem relabel_hi {w : World} {base tb mb : Nat} {F : Nat → Prop} {S : Abs} (h : HI w base tb mb F S) (id d : Int) (p : Option Addr) (cap : Nat) (xs : List (Int × Int)) (hm : xs.length ≤ maxLen) (hc : CatsAt w p xs) (hi : i64 id) :
    Calls Try.prog 24 #[.pointer (some ⟨tb, 0, none⟩), .int .i64 id, .agg #[.int .i64 d, .slice p xs.length cap]] w fun e w' => ∃ c, e = .returned (.int .i64 c) ∧ Did w base tb mb F S c w' := by
  have H := h
  obtain ⟨K, D, T, h1, h2, rfl, h4⟩ := h
  have no : ∀ {c : Int}, Calls Try.prog 24 #[.pointer (some ⟨tb, 0, none⟩), .int .i64 id, .agg #[.int .i64 d, .slice p xs.length cap]] w (fun e w' => e = .returned (.int .i64 c) ∧ Below w.heap.size w w') → Calls Try.prog 24 #[.pointer (some ⟨tb, 0, none⟩), .int .i64 id, .agg #[.int .i64 d, .slice p xs.length cap]] w fun e w' => ∃ c, e = .returned (.int .i64 c) ∧ Did w base tb mb (tfoot tb mb T) S c w' := fun {c} hh => hh.mono fun e w' ⟨a, b⟩ => ⟨c, a, H.stay b c⟩
  cases hT : T id with
  | none => exact no (Relabel_none h1 id d p cap xs hi hT)
  | some r =>
    by_cases hk : r.ob.kind = 4
    · refine (Relabel_four h1 id d p cap xs hm hc hi r hT hk).mono ?_
      intro e w' hh
      by_cases hf : fitsS d (low 4) xs = true
      · rw [if_pos hf] at hh
        obtain ⟨rfl, cv, a1, a2⟩ := hh
        have hSi : S id = some r.ob := by rw [← h2 id, hT]; rfl
        have hx16 : xs.length ≤ 16 := by unfold fitsS at hf; simp at hf; omega
        exact ⟨0, rfl, _, _, ⟨K, D, _, a1, h2.upd id (labR r cv d xs) rfl, rfl, h4.turn hSi rfl rfl rfl (fun g => ⟨g.id, g.ct, g.kd, g.q, g.nd, g.us, g.le, g.non, g.lk, g.l1, g.slf, by show xs.length < 1000000; omega⟩)⟩, a2, fun hh => absurd rfl hh⟩
      · rw [if_neg hf] at hh
        exact ⟨1, hh.1, H.stay hh.2 1⟩
    · exact no (Relabel_kind h1 id d p cap xs hi r hT hk)
theorem copy_hi {w : World} {base tb mb : Nat} {F : Nat → Prop} {S : Abs} (h : HI w base tb mb F S) :
    Calls Try.prog 19 #[.pointer (some ⟨tb, 0, none⟩)] w fun e w' => ∃ tb' mb' F', e = .returned (.pointer (some ⟨tb', 0, none⟩)) ∧ HI w' w.heap.size tb' mb' F' S ∧ Below w.heap.size w w' := by
  obtain ⟨K, D, T, h1, h2, rfl, h4⟩ := h
  have hsz := size_len h1 h2 h4
  have hlen := h4.len
  refine (Copy_any h1 (by omega) (fun k r hr => ?_)).mono ?_
  · have hSk : S k = some r.ob := by rw [← h2 k, hr]; rfl
    have := h4.elen hSk
    have := (h4.ok k r.ob hSk).cat
    omega
  · rintro e w' ⟨tb', mb', D', T', rfl, a1, a2, a3⟩
    exact ⟨tb', mb', _, rfl, ⟨K, D', T', a1, fun k => (a2 k).trans (h2 k), rfl, h4⟩, a3⟩
end Go.Proofs.Ytlblfelfaopjiaa
