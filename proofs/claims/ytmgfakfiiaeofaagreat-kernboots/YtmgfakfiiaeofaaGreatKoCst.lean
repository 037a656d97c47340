/- The law of a drawn region all of whose values are known: what becomes of the world is told by which operations are done. -/
import Derived.Test.YtmgfakfiiaeofaaGreatKNew
import Derived.Test.YtmgfakfiiaeofaaGreatHoCut
import Derived.Test.YtmgfakfiiaeofaaGreatKBegin
import Derived.Test.YtmgfakfiiaeofaaGreatVwOb
import Derived.Test.YtmgfakfiiaeofaaGreatKNewP
/- What an object is told as, and a block that has just been made. -/
namespace Go.Proofs.YtmgfakfiiaeofaaGreat
open Go.RowKit Go.Sort
def tellO (b : Ho.Ob) (p : Option Addr) (cap : Nat) : Vw.Ob := ⟨b.id, b.kind, b.quota, b.used, b.links, ⟨b.df, p, cap, b.cats⟩, none, 0, [], ⟨#[]⟩, none, 0, [], ⟨0, none, 0, []⟩, 0, 0, List.replicate 17 0, 0, 0, 0, 0, none, 0, [], ⟨#[]⟩, ⟨#[]⟩⟩
theorem wp_new_block {P : Program} {c : Code} {Q : Exit -> Act -> World -> Prop} {a : Act} (w : World) (Z : Array Value) (t : TypeId) (n : Nat) (hZ : Z.size = n)
 (h : ∀ (X : World) (Zl : List Value), Zl.length = n -> Below w.heap.size w X -> Rg.At X w.heap.size 0 Zl -> X.heap.size = w.heap.size + 1 -> c.wp P Q a X) : c.wp P Q a (w.alloc (.cells Z t)) := by
 obtain ⟨X, e, h1, h2, h3⟩ := Rg.one_new w Z t
 rw [e]
 exact h X Z.toList (by simpa using hZ) h1 h2 h3
theorem infoO : (Tryz.prog.info? 91).map (·.size) = some 38 := by kernel_rfl
theorem infoI' : (Tryz.prog.info? 89).map (·.size) = some 7 := by kernel_rfl
theorem cl_one (o : Vw.Ob) : ∀ v ∈ o.cl, v.oneCell' = true := fun v hv => by
 unfold Vw.Ob.cl Vw.Ob.hd Vw.Ob.tl at hv
 simp only [List.mem_append, List.mem_cons, List.mem_map, List.not_mem_nil, or_false] at hv
 rcases hv with h | h | h
 · rcases h with h | h | h | h | h | h | h | h | h | h | h | h | h | h <;> subst h <;> rfl
 · obtain ⟨n, -, rfl⟩ := h; rfl
 · rcases h with h | h | h | h | h | h | h <;> subst h <;> rfl
theorem row_none {w : World} {base e size n : Nat} {p : Option Addr} {cap : Nat} {xs : List Value} (h : w.ownsRow base e size (.slice p n cap) n xs) (hp : p = none) : cap = 0 := by
 subst hp
 rcases h.2 with ⟨h1, -⟩ | ⟨g, c, cur, h1, -⟩
 · cases h1; rfl
 · cases h1
theorem row_lo {w : World} {base e size n : Nat} {p : Option Addr} {cap : Nat} {xs : List Value} (h : w.ownsRow base e size (.slice p n cap) n xs) : ∀ a, p = some a -> base <= a.block /\ a.block < w.heap.size := by
 intro a ha
 subst ha
 rcases h.2 with ⟨h1, -⟩ | ⟨g, c, cur, h1, hb, hg, -⟩
 · cases h1
 · cases h1; exact ⟨hb, (Array.getElem?_eq_some_iff.1 hg).1⟩
theorem ints_of {w : World} {base : Nat} {v : Value} {l : List Int} (h : w.ownsRow base 3 1 v l.length (Ho.ivs l)) : ∃ p cap, v = .slice p l.length cap /\ Vw.IntsAt w p l /\ (p = none -> cap = 0) /\ ∀ a, p = some a -> base <= a.block /\ a.block < w.heap.size := by
 obtain ⟨p, cap, rfl⟩ := Ho.row_form h
 refine ⟨p, cap, rfl, ?_, ?_, row_lo h⟩
 · intro k hlt
   rcases h.2 with ⟨hv, h0⟩ | ⟨g, cap', cur, hv, _, hg, _⟩
   · omega
   · simp at hv
     obtain ⟨rfl, rfl⟩ := hv
     refine ⟨g, 0, rfl, (Array.getElem?_eq_some_iff.1 hg).1, ?_⟩
     rw [Nat.zero_add, h.cellAt k (by omega)]
     unfold Ho.ivs; simp [hlt]
 · exact row_none h
theorem cats_of {w : World} {base : Nat} {p : Option Addr} {cap : Nat} {xs : List (Int × Int)} (h : w.ownsRow base 163 2 (.slice p xs.length cap) xs.length (Ho.flat xs)) : Vw.CatsAt w p xs /\ (p = none -> cap = 0) /\ ∀ a, p = some a -> base <= a.block /\ a.block < w.heap.size := by
 refine ⟨?_, row_none h, row_lo h⟩
 obtain ⟨p', cap', he, hc⟩ := Ho.cats_row h
 cases he
 exact hc
theorem cats_later {w w' : World} {p : Option Addr} {xs : List (Int × Int)} (h : Vw.CatsAt w p xs) (hb : Below w.heap.size w w') : Vw.CatsAt w' p xs := fun j hj => by
 obtain ⟨b, off, hp, hbl, h1, h2⟩ := h j hj
 exact ⟨b, off, hp, Nat.lt_of_lt_of_le hbl hb.size, (hb.cell (p := ⟨b, off + j * 2, none⟩) hbl).trans h1, (hb.cell (p := ⟨b, off + j * 2 + 1, none⟩) hbl).trans h2⟩
theorem cats_oth {w w' : World} {p : Option Addr} {xs : List (Int × Int)} {P : Nat -> Prop} (h : Vw.CatsAt w p xs) (hp : ∀ a, p = some a -> P a.block) (hs : ∀ k, k < w.heap.size -> P k -> w'.heap[k]? = w.heap[k]?) (hz : w.heap.size <= w'.heap.size) : Vw.CatsAt w' p xs := fun j hj => by
 obtain ⟨b, off, rfl, hbl, h1, h2⟩ := h j hj
 have e := hs b hbl (hp _ rfl)
 refine ⟨b, off, rfl, Nat.lt_of_lt_of_le hbl hz, ?_, ?_⟩
 · rw [<- h1]; simp only [World.cell?, e]
 · rw [<- h2]; simp only [World.cell?, e]
theorem ints_oth {w w' : World} {p : Option Addr} {l : List Int} {P : Nat -> Prop} (h : Vw.IntsAt w p l) (hp : ∀ a, p = some a -> P a.block) (hs : ∀ k, k < w.heap.size -> P k -> w'.heap[k]? = w.heap[k]?) (hz : w.heap.size <= w'.heap.size) : Vw.IntsAt w' p l := fun j hj => by
 obtain ⟨b, off, rfl, hbl, h1⟩ := h j hj
 have e := hs b hbl (hp _ rfl)
 refine ⟨b, off, rfl, Nat.lt_of_lt_of_le hbl hz, ?_⟩
 rw [<- h1]; simp only [World.cell?, e]
theorem store_all {w : World} {b : Nat} {Z cs : List Value} (h : Rg.At w b 0 Z) (hl : Z.length = cs.length) : Rg.At (w.setCells b 0 cs) b 0 cs := by
 have := h.sets (i := 0) cs (by omega)
 rw [Nat.zero_add, Nat.zero_add, List.take_zero, List.nil_append, <- hl, List.drop_length, List.append_nil] at this
 exact this
theorem put_at {w : World} {b i : Nat} {L L' vs : List Value} (h : Rg.At w b 0 L) (hi : i + vs.length <= L.length) (he : L.take i ++ vs ++ L.drop (i + vs.length) = L') : Rg.At (w.setCells b i vs) b 0 L' := by
 have := h.sets (i := i) vs hi
 rw [Nat.zero_add, he] at this
 exact this
theorem exec_store_mid {P : Program} {ρ : Operand -> Value} {o : Oper} {ty : TypeId} {x y : Operand} (ho : o.op = .store ty x y) {b off : Nat} {cells : Array Value} {w : World} (hx : ρ x = .pointer (some ⟨b, off, none⟩)) (hy : ρ y = .agg cells)
 (ht : w.there b off cells.size) (hi : (P.info? ty).map (·.size) = some cells.size) (h1 : cells.all (·.oneCell') = true) : (execOp ρ o).run P w = .ok .skip (w.setCells b off cells.toList) := by
 unfold execOp
 simp only [ho, hx, hy, Instr.storeAt, Instr.sureAddr, Sem.run_bind, Sem.run_pure, Result.andThen_ok, run_storeVar_mid w b off ty cells ht hi h1]
theorem there_of {w : World} {b : Nat} {Z cs : List Value} (h : Rg.At w b 0 Z) (hl : Z.length = cs.length) : w.there b 0 cs.toArray.size := by rw [List.size_toArray, <- hl]; exact h.there
set_option maxRecDepth 100000 in
set_option maxHeartbeats 4000000 in
theorem Object_box {lo : Nat} {W : World} {K : Kn} (hK : KAt lo W K) (x : Int) (hx : Ho.i64 x) (r : Ho.Rc) (hT : K.T x = some r) (hk : r.ob.kind = 1) (hm : r.ob.cats.length <= 16) (hn : r.ob.ents.length < 1000000) :
 Calls Tryz.prog 25 #[.pointer (some ⟨K.kb, 0, none⟩), .int .i64 x] W fun e W' => ∃ p cap lp lc, e = .returned (.tuple #[.agg ({ tellO r.ob p cap with lp := lp, lc := lc, ls := r.ob.ents } : Vw.Ob).cs, .bool true]) /\ (Vw.CatsAt W' p r.ob.cats /\ (p = none -> cap = 0)) /\ (Vw.IntsAt W' lp r.ob.ents /\ (lp = none -> lc = 0)) /\ Below W.heap.size W W' := by
 have HKX := Lib.hid (fun X (hX : Below W.heap.size W X) => hK.below hX)
 have hkz : K.kb < W.heap.size := (Array.getElem?_eq_some_iff.1 hK.blk).1
 have HI := Lib.hid infoO
 have Hm : Hid (r.ob.cats.length * 16 <= 140737488355328) := Lib.hid (by omega)
 have HT := Lib.hid hT
 have Hkz := Lib.hid hkz
 clear hK hT hkz
 go_enter Tryz.func25, Tryz.ntmps25
 go_upto_region 1 with fail
 refine wp_new_block W _ _ 38 rfl (fun X0 Z4 hz4 hb0 hA4 hs0 => ?_)
 obtain ⟨b4, hb4⟩ : ∃ b4, W.heap.size = b4 := ⟨_, rfl⟩
 have HKX0 := HKX.out X0 hb0
 have k0 : X0.cell? ⟨K.kb, 0, none⟩ = some (.pointer (some ⟨K.tb, 0, none⟩)) := HKX0.cell 0
 have HInfo := Lib.hid (Ho.Info_any HKX0.tab x hx r HT.out Hm.out)
 have HB0 := Lib.hid hb0
 rw [hb4] at hA4 hs0 |-
 have HA4 := Lib.hid hA4
 have Hz4 := Lib.hid hz4
 have Hs0 : Hid (b4 < X0.heap.size) := Lib.hid (by omega)
 have Hb4 := Lib.hid hb4
 clear HKX0 hb0 hA4 hs0 hb4 hz4
 go_wp2_with (go_at_call 48; refine HInfo.out.mono ?_; rintro e W2 ⟨v, rfl, ⟨sp, c, rfl, hrow⟩, hb2⟩; refine Hid.out ?_)
 refine Lib.hid ?_
 have HB2 := Lib.hid (HB0.out.trans (hb2.mono HB0.out.size))
 have HA42 := Lib.hid (HA4.out.below hb2 Hs0.out)
 have Hs2 := Lib.hid (Nat.lt_of_lt_of_le Hs0.out hb2.size)
 obtain ⟨hc1, hc2, hc3⟩ := cats_of hrow
 have Hrow := Lib.hid hc1
 have Hcn := Lib.hid hc2
 have Hcl : Hid (∀ a, sp = some a -> b4 < a.block /\ a.block < W2.heap.size) := Lib.hid (fun a ha => ⟨Nat.lt_of_lt_of_le Hs0.out (hc3 a ha).1, (hc3 a ha).2⟩)
 clear hb2 HA4 Hs0 HB0 HInfo k0 hrow hc1 hc2 hc3
 unfold Ho.infoV
 go_upto_region 4 with fail
 obtain ⟨X2, hX2⟩ : ∃ X2, W2.alloc (.cells #[.int .i64 r.ob.id, .int .i64 1, .int .i64 r.ob.quota, .int .i64 r.ob.used, .int .i64 r.ob.links, .int .i64 r.ob.df, .slice sp r.ob.cats.length c] 89) = X2 := ⟨_, rfl⟩
 have hx2 : Below W2.heap.size W2 X2 := by rw [<- hX2]; exact (Below.refl _ _).alloc (Nat.le_refl _) _
 have hi6 : X2.heap[W2.heap.size]? = some (.cells #[.int .i64 r.ob.id, .int .i64 1, .int .i64 r.ob.quota, .int .i64 r.ob.used, .int .i64 r.ob.links, .int .i64 r.ob.df, .slice sp r.ob.cats.length c] 89 (0, 0)) := by rw [<- hX2]; exact heap_alloc_new _ _
 obtain ⟨i6, hi6e⟩ : ∃ i6, W2.heap.size = i6 := ⟨_, rfl⟩
 rw [hi6e] at hi6
 rw [hX2, hi6e]
 have HB3 := Lib.hid (HB2.out.trans (hx2.mono HB2.out.size))
 have Hz26 : Hid (W2.heap.size <= X2.heap.size) := Lib.hid hx2.size
 have HA43 := Lib.hid (HA42.out.below hx2 Hs2.out)
 have Hs3 := Lib.hid (Nat.lt_of_lt_of_le Hs2.out hx2.size)
 have Hrow3 := Lib.hid (cats_later Hrow.out hx2)
 have q0 : X2.cell? ⟨i6, 0, none⟩ = some (.int .i64 r.ob.id) := by simp [World.cell?, hi6]
 have q1 : X2.cell? ⟨i6, 1, none⟩ = some (.int .i64 1) := by simp [World.cell?, hi6]
 have q1k : r.ob.kind = 1 := hk
 have q2 : X2.cell? ⟨i6, 2, none⟩ = some (.int .i64 r.ob.quota) := by simp [World.cell?, hi6]
 have q3 : X2.cell? ⟨i6, 3, none⟩ = some (.int .i64 r.ob.used) := by simp [World.cell?, hi6]
 have q4 : X2.cell? ⟨i6, 4, none⟩ = some (.int .i64 r.ob.links) := by simp [World.cell?, hi6]
 have q5 : X2.cell? ⟨i6, 5, none⟩ = some (.int .i64 r.ob.df) := by simp [World.cell?, hi6]
 have q6 : X2.cell? ⟨i6, 6, none⟩ = some (.slice sp r.ob.cats.length c) := by simp [World.cell?, hi6]
 have Hq1 : Hid (∀ X, Below X2.heap.size X2 X -> X.cell? ⟨i6, 1, none⟩ = some (.int .i64 1)) := Lib.hid (fun X hX => (hX.cell (p := ⟨i6, 1, none⟩) (Array.getElem?_eq_some_iff.1 hi6).1).trans q1)
 clear hX2 hx2 hi6 hi6e HB2 HA42 Hs2 Hrow
 obtain ⟨o, ho⟩ : ∃ o, tellO r.ob sp c = o := ⟨_, rfl⟩
 have HL : Hid (o.cl.toArray = #[.int .i64 r.ob.id, .int .i64 1, .int .i64 r.ob.quota, .int .i64 r.ob.used, .int .i64 r.ob.links, .int .i64 r.ob.df, .slice sp r.ob.cats.length c, .slice none 0 0, .string ⟨#[]⟩, .slice none 0 0, .int .i64 0, .slice none 0 0, .int .i64 0, .int .i64 0, .int .u64 0, .int .u64 0, .int .u64 0, .int .u64 0, .int .u64 0, .int .u64 0, .int .u64 0, .int .u64 0, .int .u64 0, .int .u64 0, .int .u64 0, .int .u64 0, .int .u64 0, .int .u64 0, .int .u64 0, .int .u64 0, .int .u64 0, .int .u64 0, .int .i64 0, .int .i64 0, .int .i64 0, .slice none 0 0, .string ⟨#[]⟩, .string ⟨#[]⟩]) := Lib.hid (by rw [<- ho]; unfold tellO Vw.Ob.cl Vw.Ob.hd Vw.Ob.tl; rw [hk]; rfl)
 have Hl : Hid (o.cl.length = 38) := Lib.hid (by rw [<- ho]; rfl)
 have HOo := Lib.hid ho
 clear ho q1k
 go_upto_region 6 with fail
 go_wp2_with (refine Rg.wpList_store_new X2 _ _ rfl _ _ _ rfl o.cl rfl (congrArg Value.agg HL.out.symm) (by rw [Hl.out]; rfl) (by rw [Hl.out]; exact HI.out) (cl_one o) (fun W4 hb4 hA8 hs4 => ?_); refine Hid.out ?_)
 refine Lib.hid ?_
 obtain ⟨b8, hb8⟩ : ∃ b8, X2.heap.size = b8 := ⟨_, rfl⟩
 have HB4 := Lib.hid (HB3.out.trans (hb4.mono HB3.out.size))
 have HA44 := Lib.hid (HA43.out.below hb4 Hs3.out)
 have Hs4 := Lib.hid (Nat.lt_of_lt_of_le Hs3.out hb4.size)
 have q1 := Hq1.out W4 hb4
 have Hc4 := Lib.hid (cats_later Hrow3.out hb4)
 have hne : b8 ≠ b4 := by have := Hs3.out; omega
 have Hne := Lib.hid hne
 have Hb8 : Hid (W.heap.size <= b8) := Lib.hid (by have := HB3.out.size; omega)
 have Hc8 : Hid (∀ a, sp = some a -> a.block ≠ b4 /\ a.block ≠ b8) := Lib.hid (fun a ha => by have := Hcl.out a ha; have := Hz26.out; omega)
 have HK4 := HKX.out W4 HB4.out
 rw [hb8] at hA8 hs4 |-
 have HA8 := Lib.hid hA8
 have Hs8 : Hid (b8 < W4.heap.size) := Lib.hid (by omega)
 clear hb4 hA8 hs4 hb8 hne HB3 HA43 Hs3 Hq1 Hrow3 q0 q2 q3 q4 q5 q6
 have k0 : W4.cell? ⟨K.kb, 0, none⟩ = some (.pointer (some ⟨K.tb, 0, none⟩)) := HK4.cell 0
 have HList := Lib.hid (Ho.List_ok HK4.tab x hx r HT.out hk hn)
 clear HK4
 go_wp2_with (go_at_call 49; refine HList.out.mono ?_; rintro e W5 ⟨v', rfl, hr5, hb5⟩; refine Hid.out ?_)
 refine Lib.hid ?_
 obtain ⟨lp, lc, rfl, hI5, hn5, hl5⟩ := ints_of hr5
 have Hl5 : Hid (∀ a, lp = some a -> a.block ≠ b4 /\ a.block ≠ b8) := Lib.hid (fun a ha => by have := hl5 a ha; have := Hs4.out; have := Hs8.out; omega)
 have HB5 := Lib.hid (HB4.out.trans (hb5.mono HB4.out.size))
 have hA45 := HA44.out.below hb5 Hs4.out
 have hA85 := HA8.out.below hb5 Hs8.out
 have hc5 := cats_later Hc4.out hb5
 have hs85 := Nat.lt_of_lt_of_le Hs8.out hb5.size
 have hs45 := Nat.lt_of_lt_of_le Hs4.out hb5.size
 have f7 : W5.frozen? ⟨b8, 7, none⟩ = false := by have := hA85.fz 7 (by rw [Hl.out]; decide); rwa [Nat.zero_add] at this
 have c7 : W5.cell? ⟨b8, 7, none⟩ = some (.slice none 0 0) := by
  have := hA85.cell (j := 7) (v := .slice none 0 0) (by rw [<- HOo.out]; rfl)
  rwa [Nat.zero_add] at this
 obtain ⟨o2, ho2⟩ : ∃ o2, ({ tellO r.ob sp c with lp := lp, lc := lc, ls := r.ob.ents } : Vw.Ob) = o2 := ⟨_, rfl⟩
 have hset : o.cl.set 7 (.slice lp r.ob.ents.length lc) = o2.cl := by rw [<- HOo.out, <- ho2]; rfl
 have h8 : Rg.At (W5.setCell ⟨b8, 7, none⟩ (.slice lp r.ob.ents.length lc)) b8 0 o2.cl := by
  have := hA85.set 7 (.slice lp r.ob.ents.length lc) (by rw [Hl.out]; decide)
  rw [Nat.zero_add, hset] at this; exact this
 have h4 : Rg.At (W5.setCell ⟨b8, 7, none⟩ (.slice lp r.ob.ents.length lc)) b4 0 Z4 := hA45.otherCell _ (.inl Hne.out.symm)
 have H8 := Lib.hid h8
 have H4 := Lib.hid h4
 have Hl2 : Hid (o2.cl.length = 38) := Lib.hid (by rw [<- ho2]; rfl)
 have Hcc := Lib.hid hc5
 have HII := Lib.hid hI5
 have HIn := Lib.hid hn5
 have HO2 := Lib.hid ho2
 clear hA45 hA85 hc5 hI5 hn5 hl5 hr5 hset h8 h4 ho2 hb5 hs85 hs45 HList HA44 HA8 Hs4 Hs8 HB4 Hc4 HL
 go_upto_region 22 with fail
 have HE : Hid (∀ k, k < W5.heap.size -> k ≠ b4 /\ k ≠ b8 -> ((W5.setCell ⟨b8, 7, none⟩ (.slice lp r.ob.ents.length lc)).setCells b4 0 o2.cl).heap[k]? = W5.heap[k]?) := Lib.hid (fun k h0 hk =>
  ((Rg.Oth.setCells b4 0 _ o2.cl).block k (Nat.lt_of_lt_of_le h0 (Rg.Oth.setCell b8 7 W5 _).size) hk.1).trans ((Rg.Oth.setCell b8 7 W5 _).block k h0 hk.2))
 obtain ⟨X6, hX6⟩ : ∃ X6, W5.setCell ⟨b8, 7, none⟩ (.slice lp r.ob.ents.length lc) = X6 := ⟨_, rfl⟩
 have HB6 : Hid (Below W.heap.size W X6) := Lib.hid (by rw [<- hX6]; exact HB5.out.setCell (p := ⟨b8, 7, none⟩) Hb8.out _)
 have HZ6 : Hid (X6.heap.size = W5.heap.size) := Lib.hid (by rw [<- hX6]; simp)
 rw [hX6] at H8 H4 HE
 try rw [hX6]
 have HR := Lib.hid (store_all H4.out (cs := o2.cl) (by rw [Hz4.out, Hl2.out]))
 have HTh := Lib.hid (there_of H4.out (cs := o2.cl) (by rw [Hz4.out, Hl2.out]))
 have HIs : Hid ((Tryz.prog.info? 91).map (·.size) = some o2.cl.toArray.size) := Lib.hid (by rw [List.size_toArray, Hl2.out]; exact HI.out)
 have HIl : Hid ((Tryz.prog.info? 91).map (·.size) = some o2.cl.length) := Lib.hid (by rw [Hl2.out]; exact HI.out)
 have HOne : Hid (o2.cl.toArray.all (·.oneCell') = true) := Lib.hid (all_oneCell_toArray (cl_one o2))
 clear hX6 H4
 go_wp2_with (first
  | (refine wpList_load_mid rfl 91 _ rfl b8 0 rfl o2.cl _ H8.out.rng Tryz.underlying91 rfl HIl.out ?_)
  | (refine wpList_store_mid rfl 91 _ _ rfl b4 0 o2.cl.toArray rfl rfl HTh.out HIs.out HOne.out ?_; rw [List.toList_toArray]))
 have hb9 : Below W.heap.size W (X6.setCells b4 0 o2.cl) := Go.below_setCells (show W.heap.size <= b4 from Nat.le_of_eq Hb4.out) o2.cl 0 X6 HB6.out
 have hz9 : W5.heap.size <= (X6.setCells b4 0 o2.cl).heap.size := by rw [<- HZ6.out]; exact (Rg.Oth.setCells b4 0 X6 o2.cl).size
 refine bodyPost_ret (v := .tuple #[.agg o2.cs, .bool true]) (results_cell_tmp Tryz.results25 _ _ b4 o2.cl _ rfl HR.out.rng Tryz.underlying91 rfl HIl.out) rfl ?_
 refine ⟨sp, c, lp, lc, by rw [HO2.out], ⟨cats_oth Hcc.out Hc8.out HE.out hz9, Hcn.out⟩, ⟨ints_oth HII.out Hl5.out HE.out hz9, HIn.out⟩, hb9⟩
end Go.Proofs.YtmgfakfiiaeofaaGreat
namespace Go.Proofs.YtmgfakfiiaeofaaGreat.Ko
open Go.RowKit Go.Sort
section
variable {P : Program}
def dstV (ops : Array Oper) (n : Nat) : Bool := ((List.range ops.size).all fun i => match ops[i]? with | some o => (match o.dst with | some d => decide (d < n) | none => true) | none => true) && decide (dsts ops).Nodup
theorem dstV_lt {ops : Array Oper} {n : Nat} (h : dstV ops n = true) {i : Nat} {o : Oper} {d : Nat} (ho : ops[i]? = some o) (hd : o.dst = some d) : d < n := by
 unfold dstV at h
 rw [Bool.and_eq_true, List.all_eq_true] at h
 have := h.1 i (List.mem_range.2 (Array.getElem?_eq_some_iff.1 ho).1)
 rw [ho] at this
 simp only [hd] at this
 simpa using this
theorem dstV_inj {ops : Array Oper} {n : Nat} (h : dstV ops n = true) {i j : Nat} {o o' : Oper} {d : Nat} (h1 : ops[i]? = some o) (h2 : ops[j]? = some o') (d1 : o.dst = some d) (d2 : o'.dst = some d) : i = j := by
 unfold dstV dsts at h
 rw [Bool.and_eq_true, decide_eq_true_eq] at h
 exact fm_inj h.2 (by rw [Array.getElem?_toList]; exact h1) (by rw [Array.getElem?_toList]; exact h2) d1 d2
theorem wp_region_cst {l : List Oper} {id : Nat} {Q : Exit -> Act -> World -> Prop} {a : Act} {w : World} (V : Nat -> Value) (J : Array Bool -> World -> Prop)
 (hm : P.follows .mixedOrders = true) (hback : backT l.toArray = true) (hdst : dstV l.toArray a.tmps.size = true) (hJ0 : J (Array.replicate l.length false) w.drew)
 (hstep : ∀ (a' : Act) (W : World) (li : Array Bool), J li W -> a'.tmps.size = a.tmps.size -> (∀ k, (dsts l.toArray).contains k = false -> a'.eval (.tmp k) = a.eval (.tmp k)) ->
  ∀ (i : Nat) (o : Oper), l[i]? = some o -> li.getD i false = false -> (∀ e ∈ o.after, Region.binds .any e = true -> li.getD e.on false = true) ->
  (∀ j dj, li.getD j false = true -> (l[j]?).bind (·.dst) = some dj -> a'.eval (.tmp dj) = V dj) -> ClB l.toArray li ->
  Region.wanted o (yielded l.toArray a'.tmps) = true /\ ((∃ d W', o.dst = some d /\ (execOp a'.eval o).run P W = .ok (.value (V d)) W' /\ ∀ li', li'.getD i false = true -> (∀ j, j ≠ i -> li'.getD j false = li.getD j false) -> J li' W') ∨
   (∃ W', o.dst = none /\ (execOp a'.eval o).run P W = .ok .skip W' /\ ∀ li', li'.getD i false = true -> (∀ j, j ≠ i -> li'.getD j false = li.getD j false) -> J li' W') ∨
   (∃ d f args, o.dst = some d /\ (execOp a'.eval o).run P W = .ok (.enter f args) W /\ Calls P f args W fun e W' => e = .returned (V d) /\ ∀ li', li'.getD i false = true -> (∀ j, j ≠ i -> li'.getD j false = li.getD j false) -> J li' W')))
 (hend : ∀ a' W li, J li W -> a'.tmps.size = a.tmps.size -> a'.defers = a.defers -> (∀ k, (dsts l.toArray).contains k = false -> a'.eval (.tmp k) = a.eval (.tmp k)) -> (∀ j, j < l.length -> li.getD j false = true) ->
  (∀ (i d : Nat), i < l.length -> (l[i]?).bind (·.dst) = some d -> a'.eval (.tmp d) = V d) -> Q .normal a' W) : (Code.region id l.toArray true).wp P Q a w := by
 refine wp_region_inv (fun li a' W => ClB l.toArray li /\ li.size = l.length /\ a'.tmps.size = a.tmps.size /\ a'.defers = a.defers /\ (∀ k, (dsts l.toArray).contains k = false -> a'.eval (.tmp k) = a.eval (.tmp k)) /\ J li W /\ (∀ (i d : Nat), li.getD i false = true -> (l[i]?).bind (·.dst) = some d -> a'.eval (.tmp d) = V d)) hm ?_ ?_ ?_
 · rintro li a' W i o ⟨hcb, hsz, hs, hdf, hk, hJ, hG⟩ hu ho hd
   have hlo : l[i]? = some o := by simpa using ho
   have huf := getD_one hu
   have hiT : (li.setIfInBounds i true).getD i false = true := getD_oneS hu
   obtain ⟨hw, h2⟩ := hstep a' W li hJ hs hk i o hlo huf hd hG hcb
   have next : ∀ (d : Nat) (W' : World), o.dst = some d -> J (li.setIfInBounds i true) W' ->
    ClB l.toArray (li.setIfInBounds i true) /\ (li.setIfInBounds i true).size = l.length /\ (a'.put o.dst (V d)).tmps.size = a.tmps.size /\ (a'.put o.dst (V d)).defers = a.defers /\ (∀ k, (dsts l.toArray).contains k = false -> (a'.put o.dst (V d)).eval (.tmp k) = a.eval (.tmp k)) /\ J (li.setIfInBounds i true) W' /\ (∀ (j dj : Nat), (li.setIfInBounds i true).getD j false = true -> (l[j]?).bind (·.dst) = some dj -> (a'.put o.dst (V d)).eval (.tmp dj) = V dj) := by
    intro d W' hdo hJ'
    rw [hdo]
    have hdn := dstV_lt hdst ho hdo
    refine ⟨hcb.set ho hd, by rw [Array.size_setIfInBounds]; exact hsz, by simp only [Act.put]; rw [Array.size_setIfInBounds]; exact hs, by simp only [Act.put]; exact hdf, ?_, hJ', ?_⟩
    · intro k hkn
      rw [put_ne a' (V d) (fun e => by rw [e, List.contains_iff_mem.2 (mem_dsts ho hdo)] at hkn; cases hkn)]
      exact hk k hkn
    · intro j dj hj hdj
      by_cases hij : j = i
      · subst hij
        rw [hlo] at hdj
        have : d = dj := Option.some.inj (hdo.symm.trans hdj)
        subst this
        exact put_eq a' (V d) (by rw [hs]; exact hdn)
      · rw [getD_oneN hij] at hj
        have hne : dj ≠ d := by
         intro e
         subst e
         cases hoj : l[j]? with
         | none => rw [hoj] at hdj; cases hdj
         | some o' =>
          rw [hoj] at hdj
          exact hij (dstV_inj hdst (show l.toArray[j]? = some o' from by simpa using hoj) ho hdj hdo)
        rw [put_ne a' (V d) hne]
        exact hG j dj hj hdj
   refine ⟨hw, ?_⟩
   rcases h2 with ⟨d, W', hdo, hr, hv⟩ | ⟨W', hdo, hr, hv⟩ | ⟨d, f', args, hdo, hr, hc⟩
   · exact .inl ⟨V d, W', hr, next d W' hdo (hv _ hiT (fun j hj => getD_oneN hj))⟩
   · have hput : a'.put o.dst undef = a' := by rw [hdo]; rfl
     refine .inr (.inl ⟨W', hr, hcb.set ho hd, by rw [Array.size_setIfInBounds]; exact hsz, by rw [hput]; exact hs, by rw [hput]; exact hdf, by rw [hput]; exact hk, hv _ hiT (fun j hj => getD_oneN hj), ?_⟩)
     intro j dj hj hdj
     rw [hput]
     have hij : j ≠ i := fun e => by subst e; rw [hlo] at hdj; rw [show (some o).bind (·.dst) = o.dst from rfl, hdo] at hdj; cases hdj
     rw [getD_oneN hij] at hj
     exact hG j dj hj hdj
   · exact .inr (.inr ⟨f', args, hr, hc.mono fun e W' ⟨he, hv⟩ => ⟨V d, he, next d W' hdo (hv _ hiT (fun j hj => getD_oneN hj))⟩⟩)
 · rintro li a' W ⟨hcb, hsz, hs, hdf, hk, hJ, hG⟩ he
   have hall : ∀ j, j < l.length -> li.getD j false = true := fun j hj => ready_nil_allT hback (by simpa using hsz) he j j (Nat.le_refl _) (by simpa using hj)
   exact hend a' W li hJ hs hdf hk hall (fun i d hi hd => hG i d (hall i hi) hd)
 · have h0 : ∀ i, (Array.replicate l.toArray.size false).getD i false = false := fun i => by
    rw [Array.getD_eq_getD_getElem?, Array.getElem?_replicate]; split <;> rfl
   refine ⟨?_, by simp, rfl, rfl, fun _ _ => rfl, by simpa using hJ0, ?_⟩
   · intro i o _ hi; rw [h0] at hi; cases hi
   · intro i d hi; rw [h0] at hi; cases hi
end
end Go.Proofs.YtmgfakfiiaeofaaGreat.Ko
