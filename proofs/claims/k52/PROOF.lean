import PyProof.Rows.All
import Wide.All
import OpenK.AllK
import Wide.FinOn
import HandS.ForMost
import HandS.AnyAll
import HandS.GenList
import PyProof.TupleOfGen
import HandS.Walk
import HandS.Codes
import HandS.TupAny
import HandS.IsInst
import HandS.EndTab
import HandS.Wide
import HandS.Conv
import KE.GoesMore
import PyProof.EnumMake
import HandS.Style
import HandS.TupMul
import HandS.SetFor
import HandS.Strs
import HandS.Zip
import HandS.NamedTupSort
import HandS.TupSets
import KE.BitLaws
import KE.IntBitsLaws
import HandS.WideBits
import HandS.Rev
import HandS.RevRange
import HandS.Dict
import KE.KIndexOf
import KE.KDictPairs
import HandS.Flow
import HandS.Lambda
import KE.KMinKey
import HandS.TupLe
import PyProof.EqKinds
import HandS.DictEq
import HandS.DictComp
import HandS.Comp
import HandS.Exc
import HandS.ExcOwn
import HandS.ExcIs
import HandS.ExcField
import KE.KExcIs
import KE.KExcSuper
import HandS.ExcSuper
import HandS.ExcInit
import HandS.FStr
import HandS.Iter
import HandS.SortInts
import HandS.More
import HandS.WordsDict
import HandS.RaiseMore
import KE.GoesEnum
import PyProof.ReprRoads
import PyProof.EqAt
import PyProof.NeKinds
import KE.RegKSuper
import PySem.Challenge.RW_tablecover_k52_fewest_refused
set_option Elab.async false
set_option linter.all false
set_option maxRecDepth 100000
set_option maxHeartbeats 4000000
/-! Generator expressions as arguments of all, any, tuple, over the hand layer: the element may call, make objects, hold further generator expressions. -/
namespace GX
open PySem PySem.Spec PyProof.Rows L2 GenW

/-- the frame of a generator expression made in the state s; A0: what runs around it while it runs -/
abbrev gcx (X : Cx) (A0 : Around) (s : Shared) (H : Hp) (scope : Scope) (code : Value) (fp : List Addr) : Cx :=
  { X with
    A := A0.deeper (genEnv scope (cloFrom X.env.cells scope.names []) s.heap.objs.size code builtinsNs X.env)
    s_0 := s
    H_0 := H
    env := genEnv scope (cloFrom X.env.cells scope.names []) s.heap.objs.size code builtinsNs X.env
    outer := X.stack
    stack := genEnv scope (cloFrom X.env.cells scope.names []) s.heap.objs.size code builtinsNs X.env :: X.stack
    ex := fp
    fn := fun _ => false
    calm := true
    pn := []
    xe := fun _ _ => False }

/-- the names of the generator expression's scope -/
structure GxOk (N : List Str) (sc scope : Scope) (own : List (Str × Nat)) : Prop where
  blk : BlkOk N sc scope own
  co : scope.isCoroutine = false
  cell : ∀ y ∈ scope.names, y.2 ≠ .cell
  dot : scope.names.lookup (".0" : Str) = some NameKind.local

section
variable {X : Cx} {pins : List (Addr × Obj)} {σ : L2.St} {H : Hp} {s : Shared}
theorem gen_start {A0 : Around} {scope : Scope} {own : List (Str × Nat)} {fp : List Addr} {code : Value} {h5 : Heap} {g5 : Array GenState} {t5 : Nat} {m : Str → Option Value}
    (I : Inv X pins σ H s) (ok : GxOk X.N X.env.scope scope own) (hN : X.N.Nodup) (hfp : ∀ b ∈ fp, FpOk X pins H b ∧ b < s.heap.objs.size)
    (hh : A0.handled = none) (hfr : A0.frames = some X.stack)
    (hn : h5.Ns s.heap.objs.size m) (kp : ∀ b o, s.heap.get? b = some o → h5.get? b = some o) (hg : AllBare g5) :
    Inv (gcx X A0 s H scope code fp) [] (wipe σ (own.map (·.2))) H { s with heap := h5, gens := g5, toks := t5 } := by
  have hfree : ∀ y ∈ scope.names, y.2 = .free → ∃ c, X.env.cells.lookup y.1 = some c := fun y hy e => by
    rcases ok.blk.free y hy e with k | k
    · exact I.ok.has _ (.inl k)
    · exact I.ok.has _ (.inr k)
  have cm : ∀ {y c}, (cloFrom X.env.cells scope.names []).lookup y = some c → X.env.cells.lookup y = some c ∧ c < s.heap.objs.size ∧ scope.names.lookup y = some .free := fun {y c} hl => by
    rcases cloFrom_mem (PySem.mem_of_lookup hl) with hm | ⟨h1, rfl⟩
    · cases hm
    · obtain ⟨c, hc⟩ := hfree _ h1 rfl
      rw [hc]
      obtain ⟨w, z⟩ := I.cell _ _ hc
      exact ⟨rfl, z.lt, ok.blk.uniq _ h1⟩
  have look : ∀ {y}, scope.names.lookup y = some .free → ∃ c, (cloFrom X.env.cells scope.names []).lookup y = some c ∧ X.env.cells.lookup y = some c := fun {y} hl => by
    have hy : (y, NameKind.free) ∈ scope.names := PySem.mem_of_lookup hl
    obtain ⟨c', e'⟩ := mem_lookup (cloFrom_has (cells := X.env.cells) (acc := []) hy)
    exact ⟨c', e', (cm e').1⟩
  have okB : (gcx X A0 s H scope code fp).Ok := by
    refine ⟨I.ok.mod, ok.blk.kind, I.ok.glob, rfl, Nat.le_refl _, fun y z c e1 e2 => ?_, fun y hy => ?_, fun y c z e => (by cases z), fun _ => hh, Around.frames_deeper hfr, .inr ⟨rfl, rfl⟩,
      fun b hb => ⟨Nat.ne_of_lt (hfp b hb).2, fun y c e z => ?_⟩, I.bs, Nat.le_trans I.ok.bsz I.sz, fun b o e hb => ?_, fun b hb z => ?_, I.stack, I.stkFree⟩
    · exact I.ok.inj y z c (cm e1).1 (cm e2).1
    · rcases hy with hy | hy
      · exact absurd rfl (ok.cell _ (PySem.mem_of_lookup hy))
      · obtain ⟨c, h1, _⟩ := look hy
        exact ⟨c, h1⟩
    · exact (hfp b hb).1.2.2.2.2.1 y c (cm e).1 z
    · rcases (hfp b hb).1.2.2.2.1 with z | z
      · exact I.ok.noex b o e z
      · exact absurd (Nat.lt_of_lt_of_le (Heap.lt_size e) (Nat.le_trans I.ok.bsz z)) (Nat.lt_irrefl _)
    · rcases List.mem_cons.mp (I.stkSub b z) with z | z
      · exact (hfp b hb).1.2.1 z
      · exact (hfp b hb).1.2.2.1 z
  refine ⟨okB, rfl, hg, Un.kept kp, ⟨m, hn, fun i y av e1 e2 e3 => ?_⟩, fun y c e => ?_, I.hok.fresh (Nat.le_refl _), fun y c e => I.freeC y c (cm e).1, fun p hp => absurd (show p ∈ ([] : List (Addr × Obj)) ++ [] from hp) (by simp), I.hok.kept kp, by rw [wipe_length]; exact I.len⟩
  · obtain ⟨e2, hne⟩ := wipe_some e2
    have no : ∀ k, scope.names.lookup y = some k → ¬ (k = .local ∨ k = .cell) := fun k e hh => by
      rcases ok.blk.own _ (PySem.mem_of_lookup e) hh with e' | e'
      · obtain ⟨p, hp, hpy⟩ := List.mem_map.mp e'
        have e3 := ok.blk.ix p hp
        have : p.1 = y := hpy
        rw [this] at e3
        exact hne (List.mem_map.mpr ⟨p, hp, nodup_ix hN e3 e1⟩)
      · exact e' (List.mem_of_getElem? e1)
    have hfr : scope.names.lookup y = some .free := by
      rcases e3 with e3 | e3 | e3
      · exact absurd (.inl rfl) (no _ e3)
      · exact absurd (.inr rfl) (no _ e3)
      · exact e3
    obtain ⟨m', hn', hl⟩ := I.loc
    have hvis : Vis X.env.scope y := (ok.blk.free _ (PySem.mem_of_lookup hfr) rfl).elim (fun k => .inr (.inl k)) (fun k => .inr (.inr k))
    obtain ⟨w, r, q⟩ := hl i y av e1 e2 hvis
    refine ⟨w, r, .inr ⟨.inr hfr, ?_⟩⟩
    obtain ⟨c, h1, h2⟩ := look hfr
    rcases q with ⟨k, _⟩ | ⟨_, c', e', z⟩
    · have k : X.env.scope.names.lookup y = some .local := k
      rcases ok.blk.free _ (PySem.mem_of_lookup hfr) rfl with k' | k' <;> rw [show X.env.scope.names.lookup y = _ from k'] at k <;> cases k
    · rw [h2] at e'; cases e'
      exact ⟨c, h1, z.keeps kp⟩
  · obtain ⟨w, z⟩ := I.cell y c (cm e).1
    exact ⟨w, z.keeps kp⟩
end

/-! ### asleep -/
/-- while the generator sleeps its consumer changes what stands at B alone -/
structure Slp (B : List Addr) (s s' : Shared) : Prop where
  os : s'.os = s.os
  bare : AllBare s'.gens
  keep : ∀ b o, b ∉ B → s.heap.get? b = some o → s'.heap.get? b = some o
/-- the consumer's own objects -/
structure Aprt (Y : Cx) (B fp : List Addr) (a : Addr) : Prop where
  hi : ∀ b ∈ B, Y.s_0.heap.objs.size ≤ b
  lo : ∀ b ∈ B, b ≠ Y.env.locals
  ce : ∀ b ∈ B, ∀ x c, Y.env.cells.lookup x = some c → c ≠ b
  sf : ∀ b ∈ B, b ∉ Y.fs
  bf : ∀ b ∈ B, b ∉ fp
  na : a ∉ B
  af : a ∉ fp
theorem woken {Y : Cx} {B fp : List Addr} {a : Addr} {go : Obj} {pins pins' : List (Addr × Obj)} {σ : L2.St} {H : Hp} {s s' : Shared} (hpn : Y.pn = []) (hB : Aprt Y B fp a) (I : Inv Y ((a, go) :: pins) σ H s)
    (hHB : ∀ b ∈ B, H b = none) (z : Slp B s s') (hp : ∀ p ∈ pins', p.1 ∈ B ∧ s'.heap.get? p.1 = some p.2 ∧ ∀ v, p.2.data ≠ .cell v) : Inv Y ((a, go) :: pins') σ H s' := by
  have I1 : Inv Y [(a, go)] σ H s := I.pins_of fun p hp => by
    have e : p = (a, go) := List.mem_singleton.mp hp
    rw [e]
    exact I.pin (a, go) (List.mem_append_right _ List.mem_cons_self)
  have nt : ∀ b u, H b = some u → b ∉ B := fun b u q hb => by rw [hHB b hb] at q; cases q
  obtain ⟨z1, z2, z3⟩ := z
  obtain ⟨hh, g, d, t, o⟩ := s'
  have ho : o = s.os := z1
  subst ho
  have J : Inv Y [(a, go)] σ H { s with heap := hh, gens := g, drawn := d, toks := t } := by
    refine I1.step (g' := g) (t' := t) (d' := d) (ch := B) (fun b hb => ?_)
      (fun b ob _ _ hc q _ => z3 b ob hc q) (fun b ob _ _ hc q _ => ⟨ob.slots, z3 b ob hc q⟩) (fun _ _ _ _ n => n) (fun b ob hc q => ⟨ob, z3 b ob hc q⟩)
      (fun _ _ q => q) (fun _ _ _ q => q) (fun b ps q => ⟨#[], by rw [q]; simp⟩) (fun m hm => ?_) (fun b u q => ?_) z2
    · refine ⟨.inr (hB.hi b hb), hB.lo b hb, hB.ce b hb, fun p hp => ?_⟩
      rw [hpn] at hp
      have e : p = (a, go) := by simpa using hp
      rw [e]
      intro e2
      have e3 : a = b := e2
      exact hB.na (by rw [e3]; exact hb)
    · obtain ⟨ob, es, ep, ho, r⟩ := hm
      exact ⟨ob, es, ep, z3 _ ob (fun hb => hB.lo _ hb rfl) ho, r⟩
    · refine (I1.hok b u q).stay (fun c v hc y => z3 c v ?_ y) (fun _ y => y) fun _ _ y => y
      rcases hc with y | y
      · rw [y]; exact nt b u q
      · exact nt c _ y
  refine J.pins_of fun p hp' => ?_
  rcases List.mem_cons.mp hp' with e | hp'
  · rw [e]
    exact J.pin (a, go) (List.mem_append_right _ List.mem_cons_self)
  · obtain ⟨h1, h2, h3⟩ := hp p hp'
    exact ⟨h2, hHB _ h1, hB.lo _ h1, hB.sf _ h1, h3⟩

/-! ### the turns -/
/-- what the consumer holds behind ys: Pn; what is wanted at a yield: Kx; where it goes on: Cn; at the end: Fi -/
structure Con where
  B : List Addr
  Pn : List V → List (Addr × Obj) → Prop
  Kx : List V → V → Hp → Prop
  Cn : List V → V → Prop
  Fi : List V → Hp → Prop
structure Con.Ok (C : Con) : Prop where
  pn : ∀ ys pins, C.Pn ys pins → ∀ p ∈ pins, p.1 ∈ C.B ∧ ∀ v, p.2.data ≠ .cell v
  all : ∀ ys pins, C.Pn ys pins → ∀ b ∈ C.B, ∃ o, (b, o) ∈ pins
def YG (Y : Cx) (C : Con) (a : Addr) (go : Obj) (σ0 : L2.St) : Protocol := fun n s₀ v s kap =>
  ∃ ys x pins H, RelV x v ∧ C.Pn ys pins ∧ Inv Y ((a, go) :: pins) σ0 H s ∧ C.Kx ys x H ∧
    (C.Cn ys x → ∀ s', Slp C.B s s' → (∃ pins', C.Pn (ys ++ [x]) pins' ∧ ∀ p ∈ pins', s'.heap.get? p.1 = some p.2) → kap (.send .none) s')
def RG (Y : Cx) (C : Con) (a : Addr) (go : Obj) (σ0 : L2.St) : Nat → Shared → Shared → Prop := fun n s₀ s => ∃ ys pins H, C.Pn ys pins ∧ Inv Y ((a, go) :: pins) σ0 H s ∧ C.Fi ys H
def GSt (Y : Cx) (C : Con) (fp : List Addr) (tn : Nat → Heap → Prop) (a : Addr) (go : Obj) (σ0 : L2.St) (W : Nat → Nat → List V → Hp → Prop) (i m : Nat) (ys : List V) (s : Shared) : Prop :=
  ∃ pins H, C.Pn ys pins ∧ Inv Y ((a, go) :: pins) σ0 H s ∧ tn i s.heap ∧ (∀ b ∈ fp, H b = none) ∧ W i m ys H
/-- the turns' reading -/
def Turns (J : It) (g : TG) (tt : TT) (te : TE) (vs : List Nat) (σ0 : L2.St) (C : Con) (W : Nat → Nat → List V → Hp → Prop) : Prop := ∀ i m ys H, W i m ys H →
  (J.stop i H ∧ C.Fi ys H) ∨ (J.go i H ∧ ∃ Nx : List V → Hp → Prop, (∀ ys' H', Nx ys' H' → ∃ m', m' < m ∧ W (i + 1) m' ys' H') ∧ ∀ x H', J.yld i H x H' → g x σ0 H' fun σ2 H2 => wipe σ2 vs = σ0 ∧ tt σ2 H2 fun b H3 =>
    if b = true then te σ2 H3 fun y H4 => C.Kx ys y H4 ∧ (C.Cn ys y → Nx (ys ++ [y]) H4) else Nx ys H3)

section
variable {Y : Cx} {C : Con} {A0 : Around} {elt tg iter : Expr} {ifs : List Expr} {scope : Scope} {pos : Pos} {it a : Addr} {fp : List Addr} {tn : Nat → Heap → Prop} {go : Obj} {J : It} {g : TG} {tt : TT} {te : TE} {vs : List Nat} {σ0 : L2.St} {W : Nat → Nat → List V → Hp → Prop}
theorem seg_loop (hA : A0.over (.compLoop (.GeneratorExp elt [⟨tg, iter, ifs, 0⟩] scope pos) 0 (.ref it) .none Y.env) [] = Y.A) (hc : Y.calm = true) (hx : ∀ e s, Y.xe e s → False) (hpn : Y.pn = []) (hco : Y.env.scope.isCoroutine = false)
    (CO : C.Ok) (hB : Aprt Y C.B fp a) (hst : ∀ b ∈ fp, b ≠ Y.env.locals ∧ b ∉ Y.fs ∧ (b ∈ Y.ex ∨ Y.s_0.heap.objs.size ≤ b) ∧ ∀ x c, Y.env.cells.lookup x = some c → c ≠ b)
    (T : Turn Y.prog Y.w Y.K tg J fp it tn) (hg : PG Y tg g) (ht : PTs Y ifs tt) (he : PE Y elt te) (turns : Turns J g tt te vs σ0 C W) :
    ∀ (m i n : Nat) (ys : List V) (s₀ s : Shared), m < n → GSt Y C fp tn a go σ0 W i m ys s →
      Seg (model Y.prog Y.w) A0 (fun n s₀ r s₁ => r = .ok .next ∧ RG Y C a go σ0 n s₀ s₁) (YG Y C a go σ0) n s₀
        (.compLoop (.GeneratorExp elt [⟨tg, iter, ifs, 0⟩] scope pos) 0 (.ref it) .none Y.env)
        ((model Y.prog Y.w).den (.compLoop (.GeneratorExp elt [⟨tg, iter, ifs, 0⟩] scope pos) 0 (.ref it) .none Y.env)) [] s := by
  intro m
  induction m using Nat.strongRecOn with
  | ind m ih =>
    intro i n ys s₀ s hmn ⟨pins, H, hP, I, st, fr, w⟩
    have stat : ∀ {H' : Hp}, (∀ b ∈ fp, H' b = none) → ∀ b ∈ fp, FpOk Y ((a, go) :: pins) H' b := fun hn b hb => by
      obtain ⟨h1, h2, h3, h4⟩ := hst b hb
      refine ⟨hn b hb, h1, h2, h3, h4, fun p hp => ?_⟩
      rw [hpn] at hp
      rcases List.mem_cons.mp (show p ∈ (a, go) :: pins from hp) with e | hp
      · rw [e]; intro e2; have e3 : a = b := e2; exact hB.af (by rw [e3]; exact hb)
      · intro e2; exact hB.bf _ (CO.pn _ _ hP p hp).1 (by rw [e2]; exact hb)
    obtain ⟨k, rfl⟩ : ∃ k, n = k + 1 := ⟨n - 1, by omega⟩
    show Seg _ A0 _ _ _ s₀ _ ((compTurn (.GeneratorExp elt [⟨tg, iter, ifs, 0⟩] scope pos) 0 (.ref it) .none Y.env).onRaise (leaving Y.env)) [] s
    rw [compTurn_gen, Sem.onRaise_eq_wrap]
    refine seg_bind_wrap (wpAny_standAt ?_)
    rcases turns i m ys H w with ⟨stop, q⟩ | ⟨go1, Nx, hN, step⟩
    · refine seg_bind_wrap ?_
      rw [hA]
      refine thn (T.done Y rfl rfl rfl hc i _ s σ0 H _ I (stat fr) st stop) fun r s1 ⟨hr, I1⟩ => ?_
      subst hr
      exact seg_end (.ok .next) ⟨rfl, ys, pins, H, hP, I1, q⟩
    · refine seg_bind_wrap ?_
      rw [hA]
      refine thn (T.item Y rfl rfl rfl hc i _ s σ0 H _ I (stat fr) st go1) fun r s1 ⟨u, hr, h1⟩ => ?_
      subst hr
      refine seg_bind_wrap ?_
      rw [hA]
      refine thn h1 fun _ s2 ⟨x, H2, I2, rx, y2, st2, fr2⟩ => ?_
      have I2' := I2.pinned (stat fr2) (T.obj _ _ st2)
      refine seg_bind_wrap ?_
      rw [hA]
      refine wpAny_mono (hg.run _ s2 σ0 H2 x u _ I2' rx (step x H2 y2)) (fun _ s3 ⟨σ3, H3, I3, hw, q3⟩ => ?_) (fun e s' z => (hx e s' z).elim)
      refine seg_bind_wrap ?_
      rw [hA]
      refine wpAny_mono (ht.run _ s3 σ3 H3 _ I3 q3) (fun b s4 ⟨H4, I4, q4⟩ => ?_) (fun e s' z => (hx e s' z).elim)
      have weak : ∀ {H' : Hp} {s' : Shared}, Inv Y ((a, go) :: pins ++ pinsAt fp s2.heap) σ3 H' s' → Inv Y ((a, go) :: pins ++ pinsAt fp s2.heap) σ0 H' s' := fun I' => by
        refine I'.weak (by rw [← hw, wipe_length]) fun j v e => ?_
        rw [← hw] at e
        exact (wipe_some e).1
      have tnk : ∀ {H' : Hp} {s' : Shared}, Inv Y ((a, go) :: pins ++ pinsAt fp s2.heap) σ3 H' s' → tn (i + 1) s'.heap ∧ ∀ b ∈ fp, H' b = none := fun I' => by
        refine ⟨T.keep _ _ _ st2 fun b hb o e => (I'.pin (b, o) (List.mem_append_right _ (List.mem_append_right _ (mem_pinsAt hb e)))).1, fun b hb => ?_⟩
        obtain ⟨o, e, d⟩ := T.obj _ _ st2 b hb
        exact (I'.pin (b, o) (List.mem_append_right _ (List.mem_append_right _ (mem_pinsAt hb e)))).2.1
      cases b with
      | false =>
        rw [if_neg Bool.false_ne_true] at q4
        obtain ⟨m', hm, w'⟩ := hN _ _ q4
        obtain ⟨t4, f4⟩ := tnk I4
        simp only [Bool.false_eq_true, if_false]
        exact seg_again rfl (ih m' hm (i + 1) (k + 1) ys s₀ s4 (by omega) ⟨pins, H4, hP, (weak I4).unpinned, t4, f4, w'⟩)
      | true =>
        rw [if_pos rfl] at q4
        simp only [if_true]
        have hy : ∀ v, yieldOut Y.env v = yieldValue v := fun v => by simp only [yieldOut, hco, Bool.false_eq_true, if_false]
        simp only [hy]
        rw [Sem.bind_eq_wrap', Sem.bind_eq_wrap', Sem.wrap_wrap, Sem.wrap_wrap]
        refine seg_wrap ?_
        rw [hA]
        refine wpAny_mono (he.run _ s4 σ3 H4 _ I4 q4) (fun v s5 ⟨y, H5, I5, ry, kx, nx⟩ => ?_) (fun e s' z => (hx e s' z).elim)
        obtain ⟨t5, f5⟩ := tnk I5
        have I5' := (weak I5).unpinned
        refine seg_at (seg_yield rfl rfl rfl ⟨ys, y, pins, H5, ry, hP, I5', kx, fun cn s6 z ⟨pins', hP', hp'⟩ => ?_⟩)
        obtain ⟨m', hm, w'⟩ := hN _ _ (nx cn)
        have hHB : ∀ b ∈ C.B, H5 b = none := fun b hb => by
          obtain ⟨o, ho⟩ := CO.all _ _ hP b hb
          exact (I5'.pin (b, o) (List.mem_append_right _ (List.mem_cons_of_mem _ ho))).2.1
        have I6 : Inv Y ((a, go) :: pins') σ0 H5 s6 := woken hpn hB I5' hHB z fun p hp => ⟨(CO.pn _ _ hP' p hp).1, hp' p hp, (CO.pn _ _ hP' p hp).2⟩
        refine seg_again rfl (ih m' hm (i + 1) k (ys ++ [y]) s6 s6 (by omega) ⟨pins', H5, hP', I6, T.keep _ _ _ t5 fun b hb o e => z.keep b o (fun hm => hB.bf b hm hb) e, f5, w'⟩)
end
end GX
set_option Elab.async false
set_option linter.all false
set_option maxRecDepth 100000
set_option maxHeartbeats 4000000
namespace GX
open PySem PySem.Spec PyProof.Rows L2 GenW

section
variable {Y : Cx} {C : Con} {A0 : Around} {elt tg iter : Expr} {ifs : List Expr} {scope : Scope} {pos : Pos} {it a : Addr} {fp : List Addr} {tn : Nat → Heap → Prop} {go : Obj} {J : It} {g : TG} {tt : TT} {te : TE} {vs : List Nat} {σ0 : L2.St} {W : Nat → Nat → List V → Hp → Prop}
theorem seg_start (hA : A0.over (.compLoop (.GeneratorExp elt [⟨tg, iter, ifs, 0⟩] scope pos) 0 (.ref it) .none Y.env) [] = Y.A) (hc : Y.calm = true) (hx : ∀ e s, Y.xe e s → False) (hpn : Y.pn = []) (hco : Y.env.scope.isCoroutine = false)
    (CO : C.Ok) (hB : Aprt Y C.B fp a) (hst : ∀ b ∈ fp, b ≠ Y.env.locals ∧ b ∉ Y.fs ∧ (b ∈ Y.ex ∨ Y.s_0.heap.objs.size ≤ b) ∧ ∀ x c, Y.env.cells.lookup x = some c → c ≠ b)
    (T : Turn Y.prog Y.w Y.K tg J fp it tn) (hg : PG Y tg g) (ht : PTs Y ifs tt) (he : PE Y elt te) (turns : Turns J g tt te vs σ0 C W)
    (m i n : Nat) (ys : List V) (s₀ s : Shared) (hmn : m < n) (h : GSt Y C fp tn a go σ0 W i m ys s) :
      Seg (model Y.prog Y.w) A0 (fun n s₀ r s₁ => r = .ok .next ∧ RG Y C a go σ0 n s₀ s₁) (YG Y C a go σ0) n s₀
        (.compStart (.GeneratorExp elt [⟨tg, iter, ifs, 0⟩] scope pos) 0 (.ref it) .none Y.env)
        ((model Y.prog Y.w).den (.compStart (.GeneratorExp elt [⟨tg, iter, ifs, 0⟩] scope pos) 0 (.ref it) .none Y.env)) [] s := by
  have loop := seg_loop (iter := iter) (scope := scope) (pos := pos) hA hc hx hpn hco CO hB hst T hg ht he turns m i n ys s₀ s hmn h
  obtain ⟨pins, H, hP, I, st, fr, w⟩ := h
  show Seg _ A0 _ _ _ s₀ _ ((compStart (.GeneratorExp elt [⟨tg, iter, ifs, 0⟩] scope pos) 0 (.ref it) .none Y.env).onRaise (leaving Y.env)) [] s
  unfold compStart
  rw [Sem.onRaise_eq_wrap]
  show Seg _ A0 _ _ _ s₀ _ ((ask >>= _).wrap _ _ _ _) [] s
  refine seg_bind_wrap (wpAny_askSetting ?_)
  split
  · exact seg_again rfl loop
  · first
      | exact seg_bind_wrap (wpAny_rule (seg_bind_wrap (wpAny_standAt (seg_bind_wrap (T.self _ i s _ _ st (seg_again rfl loop))))))
      | (refine seg_bind_wrap (wpAny_rule ?_); show Seg _ A0 _ _ _ s₀ _ ((standAt iter.pos >>= _).wrap _ _ _ _) [] s; exact seg_bind_wrap (wpAny_standAt (seg_bind_wrap (T.self _ i s _ _ st (seg_again rfl loop)))))
end

/-! ### the generator, as its consumer sees it -/
def Live (Y : Cx) (C : Con) (A0 : Around) (a : Addr) (go : Obj) (σ0 : L2.St) (g n : Nat) (s : Shared) : Prop :=
  s.heap.IsGen a g ∧ s.heap.NoLimit ∧ ∃ gs, s.gens[g]? = some gs ∧ gs.Goes (model Y.prog Y.w) A0 (fun n s₀ r s₁ => r = .ok .next ∧ RG Y C a go σ0 n s₀ s₁) (YG Y C a go σ0) n (.send .none) (s.setGen g .running)
theorem inv_setGen {Y : Cx} {pins : List (Addr × Obj)} {σ : L2.St} {H : Hp} {s : Shared} {g : Nat} {gs : GenState} (I : Inv Y pins σ H s) (hb : gs.bare = true) : Inv Y pins σ H (s.setGen g gs) :=
  ⟨I.ok, I.os, allBare_setGen I.bare hb, I.base, I.loc, I.cell, I.free, I.freeC, I.pin, I.hok, I.len⟩
/-- one next -/
theorem gx_next {Y : Cx} {C : Con} {A : Around} {a : Addr} {go : Obj} {σ0 : L2.St} {g n : Nat} {s : Shared} {Q : Option Value → Shared → Prop} {E : Value → Shared → Prop} (hh : A.handled = none) (hroom : A.depth < recursionLimit)
    (L : Live Y C A.in1 a go σ0 g n s) (hgo : ∀ h : Heap, h.get? a = some go → h.IsGen a g)
    (hY : ∀ ys x v pins H s₁, RelV x v → C.Pn ys pins → Inv Y ((a, go) :: pins) σ0 H s₁ → C.Kx ys x H →
      (C.Cn ys x → ∀ s', Slp C.B s₁ s' → (∃ pins', C.Pn (ys ++ [x]) pins' ∧ ∀ p ∈ pins', s'.heap.get? p.1 = some p.2) → s'.heap.get? a = some go → s'.heap.NoLimit → s'.gens = s₁.gens → ∃ k, n = k + 1 ∧ Live Y C A.in1 a go σ0 g k s') → Q (some v) s₁)
    (hF : ∀ ys pins H s₁, C.Pn ys pins → Inv Y ((a, go) :: pins) σ0 H s₁ → C.Fi ys H → Q none s₁) :
    wpAny (model Y.prog Y.w) A (pyNext (.ref a)) Q E s := by
  obtain ⟨hg, hl, gs, hgs, hgoes⟩ := L
  have hgl : g < s.gens.size := (Array.getElem?_eq_some_iff.mp hgs).1
  refine wpAny_gsz (n := g + 1) hgl (wpAny_pyNext_genexpQ hh hl hroom hg hgs hgoes (fun v s₁ gs' hb hv => ?_) (fun s₁ hp h' hk => ?_))
  · intro hsz
    obtain ⟨ys, x, pins, H, rv, hP, I, kx, kap⟩ := hv
    have hsz1 : g < s₁.gens.size := by
      have q : (s₁.setGen g gs').gens.size = s₁.gens.size := setGen_size _ _ _
      have hsz' : g + 1 ≤ (s₁.setGen g gs').gens.size := hsz
      omega
    refine hY ys x v pins H _ rv hP (inv_setGen I hb) kx fun cn s' z hp ha hl' hgens => ?_
    have z' : Slp C.B s₁ (s'.setGen g .running) := ⟨z.os, allBare_setGen z.bare rfl, fun b o hb e => z.keep b o hb e⟩
    have q := kap cn _ z' hp
    cases n with
    | zero => exact False.elim q
    | succ k => exact ⟨k, rfl, hgo _ ha, hl', gs', by rw [hgens]; exact setGen_at hsz1, q⟩
  · intro _
    obtain ⟨ys, pins, H, hP, I, fi⟩ := hp
    refine hF ys pins H _ hP ?_ fi
    exact (inv_setGen (gs := .finished) (g := g) I rfl).kept (t' := s₁.toks) hk
end GX
set_option Elab.async false
set_option linter.all false
set_option maxRecDepth 100000
set_option maxHeartbeats 4000000
namespace GX
open PySem PySem.Spec PyProof.Rows L2 GenW

/-- a generator expression has been made -/
structure Made (X : Cx) (pins : List (Addr × Obj)) (σ : L2.St) (A0 : Around) (elt tg iter : Expr) (ifs : List Expr) (scope : Scope) (gpos : Pos) (own : List (Str × Nat)) (it a : Addr) (fp : List Addr) (tn : Nat → Heap → Prop) (J : It) (H4 : Hp) (s4 s5 : Shared) (code : Value) (g : Nat) (go : Obj) : Prop where
  outer : Inv X pins σ H4 s4
  inner : Inv (gcx X A0 s4 H4 scope code fp) [(a, go)] (wipe σ (own.map (·.2))) H4 s5
  turn : Turn X.prog X.w X.K tg J fp it tn
  tn0 : tn 0 s5.heap
  fpk : ∀ b ∈ fp, FpOk X pins H4 b ∧ b < s4.heap.objs.size
  alo : s4.heap.objs.size < a
  asz : s5.heap.objs.size = a + 1
  gen : ∀ h : Heap, h.get? a = some go → h.IsGen a g
  gs : s5.gens[g]? = some (.fresh (.compStart (.GeneratorExp elt [⟨tg, iter, ifs, 0⟩] scope gpos) 0 (.ref it) .none (gcx X A0 s4 H4 scope code fp).env))
  ga : s5.heap.get? a = some go

section
variable {X : Cx} {pins : List (Addr × Obj)} {σ : L2.St} {H : Hp} {s : Shared}
theorem gx_make {A0 : Around} {c P : Addr} {elt tg iter : Expr} {ifs : List Expr} {gpos : Pos} {scope : Scope} {own : List (Str × Nat)} {wi : TI} {k : Nat} {R : It → Hp → Prop} {Q' : Value → Shared → Prop}
    (hA0h : A0.handled = none) (hA0f : A0.frames = X.A.frames) (hr : Room k X.A) (TB : GxR.TabB X.base X.mg c P) (hcode : X.env.code = .ref c) (ok : GxOk X.N X.env.scope scope own) (hN : X.N.Nodup) (hi : PI X tg iter wi)
    (hs : ∀ v, genFold iter X.env v = pure v) (I : Inv X pins σ H s) (h : wi σ H fun J H1 => GxR.TabG H1 P ∧ ∀ H2, GxR.Tabbed P H1 H2 → R J H2)
    (hQ : ∀ it a fp tn J H4 s4 s5 code g go, Made X pins σ A0 elt tg iter ifs scope gpos own it a fp tn J H4 s4 s5 code g go → R J H4 → Q' (.ref a) s5) :
    wpAny (model X.prog X.w) X.A (eval (.GeneratorExp elt [⟨tg, iter, ifs, 0⟩] scope gpos) X.env) Q' X.xe s := by
  have hfree : ∀ y ∈ scope.names, y.2 = .free → ∃ c, X.env.cells.lookup y.1 = some c := fun y hy e => by
    rcases ok.blk.free y hy e with k | k
    · exact I.ok.has _ (.inl k)
    · exact I.ok.has _ (.inr k)
  refine wpAny_GeneratorExp_make ok.co (closure_ok hfree) ok.cell ok.dot ok.blk.kind (by have := hr.dp; omega) ?_ hs
  refine thn (hi.run pins s σ H _ I h) fun xv s1 hx => thn hx fun itv s2 h2 => ?_
  obtain ⟨it, fp, tn, J, H2, e, I2, T, st2, f2, ⟨ps, hP, ht⟩, q⟩ := h2
  subst e
  have hPs : s2.heap.get? P = some { cls := .none, data := .fields ps } := I2.hok P _ hP
  have cd : PySem.W.CodeHd s2.heap c P := TB.code.keeps fun b u e => I2.bk b u e
  have sz : ∀ b ∈ fp, b < s2.heap.objs.size := fun b hb => by
    obtain ⟨o, e, _⟩ := T.obj _ _ st2 b hb
    exact Heap.lt_size e
  have fnP : ∀ b ∈ fp, b ≠ P := fun b hb e => by
    have q := (f2 b hb).1
    rw [e, hP] at q
    cases q
  have cont : ∀ (code : Value) (h3 : Heap) (tk : Nat) (ps' : Array Value), Heap.ExtBut P s2.heap h3 → s2.heap.objs.size ≤ h3.objs.size → h3.get? P = some { cls := .none, data := .fields ps' } → (∃ more, ps' = ps ++ more) → TriplesOk ps'.toList →
      wpAny (model X.prog X.w) X.A (builtinsFor X.env.globals X.env.builtins) (fun bi s₄ =>
        ∀ h', h'.Ns s₄.heap.objs.size (fun y => if y = ".0" then some (Value.ref it) else none) → Heap.SameBut s₄.heap.objs.size (s₄.heap.push { cls := .type "frame", data := .dict #[] }) h' →
          Q' (.ref h'.objs.size) { s₄ with
            gens := s₄.gens.push (.fresh (.compStart (.GeneratorExp elt [⟨tg, iter, ifs, 0⟩] scope gpos) 0 (.ref it) .none (genEnv scope (cloFrom X.env.cells scope.names []) s₄.heap.objs.size code bi X.env))),
            toks := s₄.toks + 1 + 1 + 1,
            heap := h'.push { cls := .type "generator", data := .fields #[.int s₄.gens.size 0, .str "<genexpr>" (s₄.toks + 1), .str (X.env.qual ++ "<genexpr>") (s₄.toks + 1 + 1)] } }) X.xe { s2 with heap := h3, toks := tk } := by
    intro code h3 tk ps' hx hsz hP3 hmore ht3
    obtain ⟨more, em⟩ := hmore
    obtain ⟨bm, ob, e1, e2, e3, e4, e5, e6, e7, e8⟩ := TB.bm
    have keep3 : ∀ b u, b ≠ P → s2.heap.get? b = some u → h3.get? b = some u := fun b u hb e => hx b u hb e
    refine wpAny_builtinsFor (m := X.mg) (by rw [I2.ok.glob]; exact (I2.mod.glob.keeps I2.bk).extBut hx TB.gP) e1 e2 (keep3 _ _ e4 (I2.bk _ _ e5)) e6 e7 e8 ?_
    have I4 : Inv X pins σ (upd H2 P (.tbl (ps ++ more))) { s2 with heap := h3, toks := tk } :=
      GxR.inv_tab (more := more) (h' := h3) (g' := s2.gens) (d' := s2.drawn) (t' := tk) I2 hP (fun b u hb e => keep3 b u hb e) (by rw [← em]; exact hP3) I2.bare
    have hT4 : GxR.Tabbed P H2 (upd H2 P (.tbl (ps ++ more))) := ⟨⟨ps ++ more, upd_same, by rw [← em]; exact ht3⟩, fun b hb => upd_ne hb⟩
    have fk : ∀ b ∈ fp, FpOk X pins (upd H2 P (.tbl (ps ++ more))) b ∧ b < h3.objs.size := fun b hb => by
      refine ⟨⟨?_, (f2 b hb).2⟩, Nat.lt_of_lt_of_le (sz b hb) hsz⟩
      rw [upd_ne (fnP b hb)]
      exact (f2 b hb).1
    intro h' hn' hs'
    have hszh : h'.objs.size = h3.objs.size + 1 := by rw [hs'.1, Heap.size_push]
    have keep' : ∀ b o, h3.get? b = some o → h'.get? b = some o := fun b o e => hs'.extBut b o (Nat.ne_of_lt (Heap.lt_size e)) (Heap.get?_push_of_some _ e)
    have keep5 : ∀ b o, h3.get? b = some o → (h'.push { cls := .type "generator", data := .fields #[.int s2.gens.size 0, .str "<genexpr>" (tk + 1), .str (X.env.qual ++ "<genexpr>") (tk + 1 + 1)] }).get? b = some o := fun b o e => Heap.get?_push_of_some _ (keep' b o e)
    have hat : (h'.push { cls := .type "generator", data := .fields #[.int s2.gens.size 0, .str "<genexpr>" (tk + 1), .str (X.env.qual ++ "<genexpr>") (tk + 1 + 1)] }).get? h'.objs.size = some { cls := .type "generator", data := .fields #[.int s2.gens.size 0, .str "<genexpr>" (tk + 1), .str (X.env.qual ++ "<genexpr>") (tk + 1 + 1)] } := Heap.get?_push_size _ rfl
    have IY : Inv (gcx X A0 { s2 with heap := h3, toks := tk } (upd H2 P (.tbl (ps ++ more))) scope code fp) [] (wipe σ (own.map (·.2))) (upd H2 P (.tbl (ps ++ more)))
        { s2 with heap := h'.push { cls := .type "generator", data := .fields #[.int s2.gens.size 0, .str "<genexpr>" (tk + 1), .str (X.env.qual ++ "<genexpr>") (tk + 1 + 1)] }, gens := s2.gens.push (.fresh (.compStart (.GeneratorExp elt [⟨tg, iter, ifs, 0⟩] scope gpos) 0 (.ref it) .none (genEnv scope (cloFrom X.env.cells scope.names []) h3.objs.size code builtinsNs X.env))), toks := tk + 1 + 1 + 1 } :=
      gen_start (s := { s2 with heap := h3, toks := tk }) I4 ok hN fk hA0h (hA0f.trans I2.ok.frames) (hn'.push _) keep5 (I2.bare.push rfl)
    have ano : ∀ b, b < h3.objs.size → h'.objs.size ≠ b := fun b hb => by rw [hszh]; omega
    refine hQ it h'.objs.size fp tn J _ { s2 with heap := h3, toks := tk } _ code s2.gens.size _ ⟨I4, IY.pins_of fun p hp => ?_, T, ?_, fk, ?_, ?_, ?_, Array.getElem?_push_size .., hat⟩ (q _ hT4)
    · rw [List.mem_singleton.mp hp]
      refine ⟨hat, I4.hok.fresh (by show h3.objs.size ≤ h'.objs.size; omega), ?_, fun hb => ?_, fun v z => by cases z⟩
      · show h'.objs.size ≠ h3.objs.size
        omega
      · obtain ⟨_, o, ho, _⟩ := (I4.stack).mem hb
        exact ano _ (Heap.lt_size ho) rfl
    · exact T.keep _ _ _ st2 fun b hb o e => keep5 b o (keep3 b o (fnP b hb) e)
    · show h3.objs.size < h'.objs.size
      omega
    · show (h'.push _).objs.size = h'.objs.size + 1
      rw [Heap.size_push]
    · intro h hh
      exact ⟨_, _, _, hh, rfl, rfl, rfl⟩
  refine ⟨I2.nolimit, ?_⟩
  cases hf : codeAmong gpos ps.toList with
  | none =>
    refine wpAny_genexprCodeX hcode (cd.code hPs ht) (cd.tab hPs) hf fun c' h' tk hx hge hlt hco' _ htab' _ => ?_
    obtain ⟨o1, vs, f1, tf, fl, tg', inF, tx, tt, op, _, _, _, _, _, _, _, _, _, htr, _⟩ := hco'
    exact cont _ h' tk _ hx (Nat.le_trans hge (Nat.le_of_lt hlt)) htab'.2 ⟨_, rfl⟩ htr
  | some cv =>
    refine wpAny_genexprCode_hit hcode (cd.code hPs ht) hf ?_
    exact cont cv s2.heap s2.toks ps (Heap.ExtBut.refl _ _) (Nat.le_refl _) hPs ⟨#[], by simp⟩ ht
end
end GX
set_option Elab.async false
set_option linter.all false
set_option maxRecDepth 100000
set_option maxHeartbeats 4000000
namespace GX
open PySem PySem.Spec PyProof.Rows L2 GenW

theorem over_comp {A : Around} {elt : Expr} {gs : List Comprehension} {scope : Scope} {pos : Pos} {it acc : Value} {env : Env} : A.over (.compLoop (.GeneratorExp elt gs scope pos) 0 it acc env) [] = A.deeper env := by
  first
    | rfl
    | (obtain ⟨hd, d, fr, gs, u⟩ := A; simp [Around.over, Around.deeper, marksOver, frameCount, unitsOf, envsOf, guardsOf, pushEnvs, pushGuards, Code.envs, Code.env?, Code.isFrame, Code.guards, Code.isGuard, Code.weight, Code.frames, Code.isCreation, Code.isCaller, Code.cUnits])

section
variable {X : Cx} {pins : List (Addr × Obj)} {σ : L2.St} {A0 : Around} {elt tg iter : Expr} {ifs : List Expr} {scope : Scope} {gpos : Pos} {own : List (Str × Nat)} {it a : Addr} {fp : List Addr} {tn : Nat → Heap → Prop} {J : It} {H4 : Hp} {s4 s5 : Shared} {code : Value} {g : Nat} {go : Obj}
/-- behind it: the outer frame again -/
theorem Made.back (M : Made X pins σ A0 elt tg iter ifs scope gpos own it a fp tn J H4 s4 s5 code g go) {pl : List (Addr × Obj)} {σ' : L2.St} {H' : Hp} {s' : Shared} (I : Inv (gcx X A0 s4 H4 scope code fp) pl σ' H' s') : Inv X pins σ H' s' := by
  have os : s'.os = s4.os := I.os
  have un : Un (frs X.stack) fp H4 H' s4.heap s'.heap := I.base
  have hok : HOk X.prog X.w H' s'.heap := I.hok
  have bare := I.bare
  obtain ⟨h', g', d', t', o'⟩ := s'
  obtain rfl : o' = s4.os := os
  exact M.outer.call (h' := h') (g' := g') (d' := d') (t' := t') (ch := fp) un hok bare fun b hb => ⟨(M.fpk b hb).1.2.2.2.1, (M.fpk b hb).1.2.1, (M.fpk b hb).1.2.2.2.2.1, (M.fpk b hb).1.2.2.2.2.2⟩
theorem Made.stat (M : Made X pins σ A0 elt tg iter ifs scope gpos own it a fp tn J H4 s4 s5 code g go) : ∀ b ∈ fp, b ≠ (gcx X A0 s4 H4 scope code fp).env.locals ∧ b ∉ (gcx X A0 s4 H4 scope code fp).fs ∧ (b ∈ (gcx X A0 s4 H4 scope code fp).ex ∨ (gcx X A0 s4 H4 scope code fp).s_0.heap.objs.size ≤ b) ∧ ∀ x c, (gcx X A0 s4 H4 scope code fp).env.cells.lookup x = some c → c ≠ b := fun b hb =>
  ⟨(M.inner.ok.exf b hb).1, M.inner.ok.exfs b hb, .inl hb, fun x c e => (M.inner.ok.exf b hb).2 x c e⟩
/-- the consumer's objects: none, or one that is new -/
theorem Made.apart0 (M : Made X pins σ A0 elt tg iter ifs scope gpos own it a fp tn J H4 s4 s5 code g go) : Aprt (gcx X A0 s4 H4 scope code fp) [] fp a :=
  ⟨fun b hb => (by cases hb), fun b hb => (by cases hb), fun b hb => (by cases hb), fun b hb => (by cases hb), fun b hb => (by cases hb), fun hb => (by cases hb), fun hb =>
    absurd (Nat.lt_trans (M.fpk a hb).2 M.alo) (Nat.lt_irrefl _)⟩
theorem Made.apart1 (M : Made X pins σ A0 elt tg iter ifs scope gpos own it a fp tn J H4 s4 s5 code g go) {S : Addr} (hS : a < S) : Aprt (gcx X A0 s4 H4 scope code fp) [S] fp a := by
  have h1 := M.alo
  have big : ∀ b ∈ [S], s5.heap.objs.size ≤ b := fun b hb => by
    rw [List.mem_singleton.mp hb, M.asz]
    exact hS
  have sz5 : s4.heap.objs.size ≤ s5.heap.objs.size := by rw [M.asz]; omega
  refine ⟨fun b hb => Nat.le_trans sz5 (big b hb), fun b hb => ?_, fun b hb x c e z => ?_, fun b hb => M.inner.nofs (big b hb), fun b hb hb2 => ?_, fun hb => ?_, M.apart0.af⟩
  · exact Nat.ne_of_gt (Nat.lt_of_lt_of_le M.inner.lt (big b hb))
  · obtain ⟨v, q⟩ := M.inner.cell x c e
    have q1 := q.lt
    have q2 := big b hb
    rw [z] at q1
    exact absurd (Nat.lt_of_lt_of_le q1 q2) (Nat.lt_irrefl _)
  · exact absurd (Nat.lt_of_lt_of_le (M.fpk b hb2).2 (Nat.le_trans sz5 (big b hb))) (Nat.lt_irrefl _)
  · exact Nat.ne_of_lt hS (List.mem_singleton.mp hb)
/-- the fresh generator, for a consumer whose objects stand in a later state -/
theorem Made.live (M : Made X pins σ A0 elt tg iter ifs scope gpos own it a fp tn J H4 s4 s5 code g go) {C : Con} {g1 : TG} {tt : TT} {te : TE} {W : Nat → Nat → List V → Hp → Prop} {m : Nat} {s6 : Shared} {pins' : List (Addr × Obj)} (CO : C.Ok) (hB : Aprt (gcx X A0 s4 H4 scope code fp) C.B fp a)
    (co : scope.isCoroutine = false)
    (hg : PG (gcx X A0 s4 H4 scope code fp) tg g1) (ht : PTs (gcx X A0 s4 H4 scope code fp) ifs tt) (he : PE (gcx X A0 s4 H4 scope code fp) elt te) (turns : Turns J g1 tt te (own.map (·.2)) (wipe σ (own.map (·.2))) C W) (w0 : W 0 m [] H4)
    (hHB : ∀ b ∈ C.B, H4 b = none) (z : Slp C.B s5 s6) (hP : C.Pn [] pins') (hp : ∀ p ∈ pins', s6.heap.get? p.1 = some p.2) (hgens : s6.gens = s5.gens) (hl : s6.heap.NoLimit) :
    Live (gcx X A0 s4 H4 scope code fp) C A0 a go (wipe σ (own.map (·.2))) g (m + 1) s6 := by
  have ga6 : s6.heap.get? a = some go := z.keep a go hB.na M.ga
  have z' : Slp C.B s5 (s6.setGen g .running) := ⟨z.os, allBare_setGen z.bare rfl, z.keep⟩
  have I6 : Inv (gcx X A0 s4 H4 scope code fp) ((a, go) :: pins') (wipe σ (own.map (·.2))) H4 (s6.setGen g .running) := woken rfl hB M.inner hHB z' fun p hp' => ⟨(CO.pn _ _ hP p hp').1, hp p hp', (CO.pn _ _ hP p hp').2⟩
  refine ⟨M.gen _ ga6, hl, _, (by rw [hgens]; exact M.gs), ?_⟩
  refine ⟨rfl, ?_⟩
  exact seg_start over_comp rfl (fun _ _ z => z) rfl co CO hB M.stat M.turn hg ht he turns m 0 (m + 1) [] _ _ (Nat.lt_succ_self _)
    ⟨pins', H4, hP, I6, M.turn.keep _ _ _ M.tn0 fun b hb o e => z.keep b o (fun hm => hB.bf b hm hb) e, fun b hb => (M.fpk b hb).1.1, w0⟩
end

/-! ### all, any -/
def conAll (Q : VK) : Con := ⟨[], fun _ pins => pins = [], fun _ y H => ∃ c, y = .bl c ∧ (c = false → Q (.bl false) H), fun _ y => y = .bl true, fun _ H => Q (.bl true) H⟩
def conAny (Q : VK) : Con := ⟨[], fun _ pins => pins = [], fun _ y H => ∃ c, y = .bl c ∧ (c = true → Q (.bl true) H), fun _ y => y = .bl false, fun _ H => Q (.bl false) H⟩
theorem ok_all (Q : VK) : (conAll Q).Ok := ⟨fun _ _ h p hp => (by rw [show _ = [] from h] at hp; cases hp), fun _ _ _ b hb => (by cases hb)⟩
theorem ok_any (Q : VK) : (conAny Q).Ok := ⟨fun _ _ h p hp => (by rw [show _ = [] from h] at hp; cases hp), fun _ _ _ b hb => (by cases hb)⟩
theorem all_loop {Y : Cx} {A : Around} {a : Addr} {go : Obj} {σ0 : L2.St} {g : Nat} {Q : VK} {R : Result → Shared → Prop} (hh : A.handled = none) (hd : A.depth < recursionLimit) (hgo : ∀ h : Heap, h.get? a = some go → h.IsGen a g)
    (hR : ∀ b s' H, Inv Y [(a, go)] σ0 H s' → Q (.bl b) H → R (.ok (.ret (.bool b))) s') : ∀ (n : Nat) (s : Shared), Live Y (conAll Q) A.in1.in1 a go σ0 g n s → codeAny (model Y.prog Y.w) A (.builtin "all.loop" ⟨[.ref a], []⟩) R s := by
  intro n
  induction n with
  | zero =>
    intro s L
    refine codeAny_builtin F.entry_all_loop ?_
    rw [Around.under_plainId F.plain_all_loop _]
    show wpAny _ A.in1 (pyNext (.ref a) >>= _) _ _ s
    refine wpAny_bind (gx_next (A := A.in1) hh hd L hgo (fun ys x v pins H s₁ rv hP I kx kap => ?_) fun ys pins H s₁ hP I fi => ?_)
    · obtain ⟨c, rfl, hc⟩ := kx
      obtain rfl : v = .bool c := rv
      obtain rfl : pins = [] := hP
      refine wpAny_bind (wpAny_holding (wpAny_truthy_bool ?_))
      refine wpAny_bind (wpAny_letGo ?_)
      cases c with
      | true =>
        obtain ⟨k, hk, _⟩ := kap rfl s₁ ⟨rfl, I.bare, fun _ _ _ e => e⟩ ⟨[], rfl, fun p hp => (by cases hp)⟩ (I.pin (a, go) (List.mem_append_right _ List.mem_cons_self)).1 I.nolimit rfl
        cases hk
      | false =>
        simp only [Bool.false_eq_true, if_false]
        exact wpAny_bind (wpAny_rule (wpAny_pure (hR false s₁ H I (hc rfl))))
    · obtain rfl : pins = [] := hP
      exact wpAny_bind (wpAny_rule (wpAny_pure (hR true s₁ H I fi)))
  | succ n ih =>
    intro s L
    refine codeAny_builtin F.entry_all_loop ?_
    rw [Around.under_plainId F.plain_all_loop _]
    show wpAny _ A.in1 (pyNext (.ref a) >>= _) _ _ s
    refine wpAny_bind (gx_next (A := A.in1) hh hd L hgo (fun ys x v pins H s₁ rv hP I kx kap => ?_) fun ys pins H s₁ hP I fi => ?_)
    · obtain ⟨c, rfl, hc⟩ := kx
      obtain rfl : v = .bool c := rv
      obtain rfl : pins = [] := hP
      refine wpAny_bind (wpAny_holding (wpAny_truthy_bool ?_))
      refine wpAny_bind (wpAny_letGo ?_)
      cases c with
      | true =>
        obtain ⟨k, hk, L'⟩ := kap rfl s₁ ⟨rfl, I.bare, fun _ _ _ e => e⟩ ⟨[], rfl, fun p hp => (by cases hp)⟩ (I.pin (a, go) (List.mem_append_right _ List.mem_cons_self)).1 I.nolimit rfl
        cases hk
        simp only [if_true]
        exact wpAny_pure ⟨plainId_quiet F.plain_all_loop _, ih s₁ L'⟩
      | false =>
        simp only [Bool.false_eq_true, if_false]
        exact wpAny_bind (wpAny_rule (wpAny_pure (hR false s₁ H I (hc rfl))))
    · obtain rfl : pins = [] := hP
      exact wpAny_bind (wpAny_rule (wpAny_pure (hR true s₁ H I fi)))
theorem any_loop {Y : Cx} {A : Around} {a : Addr} {go : Obj} {σ0 : L2.St} {g : Nat} {Q : VK} {R : Result → Shared → Prop} (hh : A.handled = none) (hd : A.depth < recursionLimit) (hgo : ∀ h : Heap, h.get? a = some go → h.IsGen a g)
    (hR : ∀ b s' H, Inv Y [(a, go)] σ0 H s' → Q (.bl b) H → R (.ok (.ret (.bool b))) s') : ∀ (n : Nat) (s : Shared), Live Y (conAny Q) A.in1.in1 a go σ0 g n s → codeAny (model Y.prog Y.w) A (.builtin "any.loop" ⟨[.ref a], []⟩) R s := by
  intro n
  induction n with
  | zero =>
    intro s L
    refine codeAny_builtin F.entry_any_loop ?_
    rw [Around.under_plainId F.plain_any_loop _]
    show wpAny _ A.in1 (pyNext (.ref a) >>= _) _ _ s
    refine wpAny_bind (gx_next (A := A.in1) hh hd L hgo (fun ys x v pins H s₁ rv hP I kx kap => ?_) fun ys pins H s₁ hP I fi => ?_)
    · obtain ⟨c, rfl, hc⟩ := kx
      obtain rfl : v = .bool c := rv
      obtain rfl : pins = [] := hP
      refine wpAny_bind (wpAny_holding (wpAny_truthy_bool ?_))
      refine wpAny_bind (wpAny_letGo ?_)
      cases c with
      | false =>
        obtain ⟨k, hk, _⟩ := kap rfl s₁ ⟨rfl, I.bare, fun _ _ _ e => e⟩ ⟨[], rfl, fun p hp => (by cases hp)⟩ (I.pin (a, go) (List.mem_append_right _ List.mem_cons_self)).1 I.nolimit rfl
        cases hk
      | true =>
        simp only [if_true]
        exact wpAny_bind (wpAny_rule (wpAny_pure (hR true s₁ H I (hc rfl))))
    · obtain rfl : pins = [] := hP
      exact wpAny_bind (wpAny_rule (wpAny_pure (hR false s₁ H I fi)))
  | succ n ih =>
    intro s L
    refine codeAny_builtin F.entry_any_loop ?_
    rw [Around.under_plainId F.plain_any_loop _]
    show wpAny _ A.in1 (pyNext (.ref a) >>= _) _ _ s
    refine wpAny_bind (gx_next (A := A.in1) hh hd L hgo (fun ys x v pins H s₁ rv hP I kx kap => ?_) fun ys pins H s₁ hP I fi => ?_)
    · obtain ⟨c, rfl, hc⟩ := kx
      obtain rfl : v = .bool c := rv
      obtain rfl : pins = [] := hP
      refine wpAny_bind (wpAny_holding (wpAny_truthy_bool ?_))
      refine wpAny_bind (wpAny_letGo ?_)
      cases c with
      | false =>
        obtain ⟨k, hk, L'⟩ := kap rfl s₁ ⟨rfl, I.bare, fun _ _ _ e => e⟩ ⟨[], rfl, fun p hp => (by cases hp)⟩ (I.pin (a, go) (List.mem_append_right _ List.mem_cons_self)).1 I.nolimit rfl
        cases hk
        simp only [Bool.false_eq_true, if_false]
        exact wpAny_pure ⟨plainId_quiet F.plain_any_loop _, ih s₁ L'⟩
      | true =>
        simp only [if_true]
        exact wpAny_bind (wpAny_rule (wpAny_pure (hR true s₁ H I (hc rfl))))
    · obtain rfl : pins = [] := hP
      exact wpAny_bind (wpAny_rule (wpAny_pure (hR false s₁ H I fi)))

/-- all(elt for tg in iter if ..) -/
def tAllG (P : Addr) (wi : TI) (g : TG) (tt : TT) (te : TE) (vs : List Nat) : TE := fun σ H Q => wi σ H fun J H1 => GxR.TabG H1 P ∧ ∀ H2, GxR.Tabbed P H1 H2 → ∃ W : Nat → Nat → List V → Hp → Prop, (∃ m, W 0 m [] H2) ∧ Turns J g tt te vs (wipe σ vs) (conAll Q) W
def tAnyG (P : Addr) (wi : TI) (g : TG) (tt : TT) (te : TE) (vs : List Nat) : TE := fun σ H Q => wi σ H fun J H1 => GxR.TabG H1 P ∧ ∀ H2, GxR.Tabbed P H1 H2 → ∃ W : Nat → Nat → List V → Hp → Prop, (∃ m, W 0 m [] H2) ∧ Turns J g tt te vs (wipe σ vs) (conAny Q) W
section
variable {X : Cx} {c P : Addr} {elt tg iter : Expr} {ifs : List Expr} {p pos gpos : Pos} {scope : Scope} {own : List (Str × Nat)} {wi : TI} {g : TG} {tt : TT} {te : TE} {k : Nat}
theorem pe_allG (hr : Room k X.A) (hgl : Gl X "all") (hm : X.mg "all" = none) (TB : GxR.TabB X.base X.mg c P) (hcode : X.env.code = .ref c) (ok : GxOk X.N X.env.scope scope own) (hN : X.N.Nodup) (hi : PI X tg iter wi)
    (hg : ∀ (s : Shared) (H : Hp) (code : Value) (fp : List Addr), PG (gcx X X.A.in1.in1 s H scope code fp) tg g) (ht : ∀ (s : Shared) (H : Hp) (code : Value) (fp : List Addr), PTs (gcx X X.A.in1.in1 s H scope code fp) ifs tt)
    (hel : ∀ (s : Shared) (H : Hp) (code : Value) (fp : List Addr), PE (gcx X X.A.in1.in1 s H scope code fp) elt te) (hs : ∀ v, genFold iter X.env v = pure v := by intro _; rfl)
    (he : starEach [.GeneratorExp elt [⟨tg, iter, ifs, 0⟩] scope gpos] X.env = (false, eval (.GeneratorExp elt [⟨tg, iter, ifs, 0⟩] scope gpos) X.env) :: starEach [] X.env := by rfl) :
    PE X (.Call (.Name "all" p) [.GeneratorExp elt [⟨tg, iter, ifs, 0⟩] scope gpos] [] pos) (tAllG P wi g tt te (own.map (·.2))) := by
  refine ⟨fun pins s σ H Q I h => ?_⟩
  refine wpAny_Call_Name_kw (ld_blt I hgl hm (show bootBuiltins "all" = some (.builtin "all") by decide +kernel) ?_)
  refine PyProof.Rows.callWith_builtin1 ?_ he (by rfl)
  rw [he]
  show wpAny _ _ (spliced ((false, eval (.GeneratorExp elt [⟨tg, iter, ifs, 0⟩] scope gpos) X.env) :: backTo pos (starEach [] X.env))) _ _ s
  refine Calls.spliced_cons (gx_make (A0 := X.A.in1.in1) (own := own) (R := fun J H2 => ∃ W : Nat → Nat → List V → Hp → Prop, (∃ m, W 0 m [] H2) ∧ Turns J g tt te (own.map (fun q : Str × Nat => q.2)) (wipe σ (own.map (fun q : Str × Nat => q.2))) (conAll Q) W) hr.hd rfl hr TB hcode ok hN hi hs I h fun it a fp tn J H4 s4 s5 code gn go M q => ?_)
  obtain ⟨W, ⟨m, w0⟩, turns⟩ := q
  refine Calls.spliced_nil ?_
  have L : Live (gcx X X.A.in1.in1 s4 H4 scope code fp) (conAll Q) X.A.in1.in1 a go (wipe σ (own.map (·.2))) gn (m + 1) s5 :=
    M.live (s6 := s5) (pins' := []) (ok_all Q) M.apart0 ok.co (hg s4 H4 code fp) (ht s4 H4 code fp) (hel s4 H4 code fp) turns w0 (fun b hb => (by cases hb)) ⟨rfl, M.inner.bare, fun _ _ _ e => e⟩ rfl (fun p hp => (by cases hp)) rfl M.inner.nolimit
  refine call_function_tree F.kind_all F.plain_all F.entry_all (F.args_all1 _) ?_
  unfold Builtin.«all»
  refine wpAny_bind (m := oneArg "all" _) (wpAny_pure ?_)
  refine wpAny_bind (wpAny_pyIter_gen (M.gen _ M.ga) ?_)
  refine wpAny_pure ⟨plainId_quiet F.plain_all_loop _, all_loop (Y := gcx X X.A.in1.in1 s4 H4 scope code fp) hr.hd hr.depth M.gen (fun b s' H' I' q' => ?_) (m + 1) s5 L⟩
  exact ⟨.bl b, H', M.back I', rfl, q'⟩
theorem pe_anyG (hr : Room k X.A) (hgl : Gl X "any") (hm : X.mg "any" = none) (TB : GxR.TabB X.base X.mg c P) (hcode : X.env.code = .ref c) (ok : GxOk X.N X.env.scope scope own) (hN : X.N.Nodup) (hi : PI X tg iter wi)
    (hg : ∀ (s : Shared) (H : Hp) (code : Value) (fp : List Addr), PG (gcx X X.A.in1.in1 s H scope code fp) tg g) (ht : ∀ (s : Shared) (H : Hp) (code : Value) (fp : List Addr), PTs (gcx X X.A.in1.in1 s H scope code fp) ifs tt)
    (hel : ∀ (s : Shared) (H : Hp) (code : Value) (fp : List Addr), PE (gcx X X.A.in1.in1 s H scope code fp) elt te) (hs : ∀ v, genFold iter X.env v = pure v := by intro _; rfl)
    (he : starEach [.GeneratorExp elt [⟨tg, iter, ifs, 0⟩] scope gpos] X.env = (false, eval (.GeneratorExp elt [⟨tg, iter, ifs, 0⟩] scope gpos) X.env) :: starEach [] X.env := by rfl) :
    PE X (.Call (.Name "any" p) [.GeneratorExp elt [⟨tg, iter, ifs, 0⟩] scope gpos] [] pos) (tAnyG P wi g tt te (own.map (·.2))) := by
  refine ⟨fun pins s σ H Q I h => ?_⟩
  refine wpAny_Call_Name_kw (ld_blt I hgl hm boot_any ?_)
  refine PyProof.Rows.callWith_builtin1 ?_ he (by rfl)
  rw [he]
  show wpAny _ _ (spliced ((false, eval (.GeneratorExp elt [⟨tg, iter, ifs, 0⟩] scope gpos) X.env) :: backTo pos (starEach [] X.env))) _ _ s
  refine Calls.spliced_cons (gx_make (A0 := X.A.in1.in1) (own := own) (R := fun J H2 => ∃ W : Nat → Nat → List V → Hp → Prop, (∃ m, W 0 m [] H2) ∧ Turns J g tt te (own.map (fun q : Str × Nat => q.2)) (wipe σ (own.map (fun q : Str × Nat => q.2))) (conAny Q) W) hr.hd rfl hr TB hcode ok hN hi hs I h fun it a fp tn J H4 s4 s5 code gn go M q => ?_)
  obtain ⟨W, ⟨m, w0⟩, turns⟩ := q
  refine Calls.spliced_nil ?_
  have L : Live (gcx X X.A.in1.in1 s4 H4 scope code fp) (conAny Q) X.A.in1.in1 a go (wipe σ (own.map (·.2))) gn (m + 1) s5 :=
    M.live (s6 := s5) (pins' := []) (ok_any Q) M.apart0 ok.co (hg s4 H4 code fp) (ht s4 H4 code fp) (hel s4 H4 code fp) turns w0 (fun b hb => (by cases hb)) ⟨rfl, M.inner.bare, fun _ _ _ e => e⟩ rfl (fun p hp => (by cases hp)) rfl M.inner.nolimit
  refine call_function_tree F.kind_any F.plain_any F.entry_any (F.args_any1 _) ?_
  unfold Builtin.«any»
  refine wpAny_bind (m := oneArg "any" _) (wpAny_pure ?_)
  refine wpAny_bind (wpAny_pyIter_gen (M.gen _ M.ga) ?_)
  refine wpAny_pure ⟨plainId_quiet F.plain_any_loop _, any_loop (Y := gcx X X.A.in1.in1 s4 H4 scope code fp) hr.hd hr.depth M.gen (fun b s' H' I' q' => ?_) (m + 1) s5 L⟩
  exact ⟨.bl b, H', M.back I', rfl, q'⟩
end
end GX
set_option Elab.async false
set_option linter.all false
set_option maxRecDepth 100000
set_option maxHeartbeats 4000000
namespace GX
open PySem PySem.Spec PyProof.Rows L2 GenW

/-! ### tuple -/
def conTup0 (Q : VK) : Con := ⟨[], fun _ pins => pins = [], fun ys _ _ => ys.length < sizeLine, fun _ _ => True, fun ys H => ys.length ≤ sizeLine ∧ ∀ p, H p = none → Q (.ref p) (upd H p (.tup ys))⟩
def conTup (Q : VK) (S : Addr) : Con := ⟨[S], fun ys pins => ∃ acc c, Vals ys acc.toList ∧ pins = [(S, lstObj acc c)], fun ys _ _ => ys.length < sizeLine, fun _ _ => True, fun ys H => ys.length ≤ sizeLine ∧ ∀ p, H p = none → Q (.ref p) (upd H p (.tup ys))⟩
theorem ok_tup (Q : VK) (S : Addr) : (conTup Q S).Ok := by
  refine ⟨fun ys pins ⟨acc, c, _, e⟩ p hp => ?_, fun ys pins ⟨acc, c, _, e⟩ b hb => ?_⟩
  · subst e
    rw [List.mem_singleton.mp hp]
    exact ⟨List.mem_singleton.mpr rfl, fun v z => by cases z⟩
  · subst e
    rw [List.mem_singleton.mp hb]
    exact ⟨_, List.mem_singleton.mpr rfl⟩
theorem tup_loop {Y : Cx} {A : Around} {a S : Addr} {go : Obj} {σ0 : L2.St} {g : Nat} {Q : VK} {R : Result → Shared → Prop} {res : Value} (hh : A.handled = none) (hd : A.depth < recursionLimit) (hgo : ∀ h : Heap, h.get? a = some go → h.IsGen a g) (hSa : S ≠ a) (hSc : S ≠ cStatics)
    (hR : ∀ ys acc c s' H, Vals ys acc.toList → Inv Y [(a, go), (S, lstObj acc c)] σ0 H s' → ys.length ≤ sizeLine → (∀ p, H p = none → Q (.ref p) (upd H p (.tup ys))) → R (.ok (.ret res)) s') :
    ∀ (n : Nat) (s : Shared), Live Y (conTup Q S) A.in1.in1 a go σ0 g n s → codeAny (model Y.prog Y.w) A (.builtin "list.extend.loop" ⟨[.ref S, .ref a, res], []⟩) R s := by
  intro n
  induction n with
  | zero =>
    intro s L
    refine codeAny_builtin F.entry_extend_loop ?_
    rw [Around.under_plainId F.plain_extend_loop _]
    show wpAny _ A.in1 (pyNext (.ref a) >>= _) _ _ s
    refine wpAny_bind (gx_next (A := A.in1) hh hd L hgo (fun ys x v pins H s₁ rv hP I kx kap => ?_) fun ys pins H s₁ hP I fi => ?_)
    · obtain ⟨acc, c, hv, rfl⟩ := hP
      have hS1 : s₁.heap.get? S = some (lstObj acc c) := (I.pin (S, lstObj acc c) (List.mem_append_right _ (List.mem_cons_of_mem _ List.mem_cons_self))).1
      have ga : s₁.heap.get? a = some go := (I.pin (a, go) (List.mem_append_right _ List.mem_cons_self)).1
      have keep3 : ∀ b o, b ≠ S → s₁.heap.get? b = some o → (s₁.heap.update S (Obj.mapSeq (·.push v))).get? b = some o := fun b o hbS e => (Heap.get?_update_other _ _ (Ne.symm hbS)).trans e
      obtain ⟨k, hk, _⟩ := kap trivial { s₁ with heap := s₁.heap.update S (Obj.mapSeq (·.push v)) } ⟨rfl, I.bare, fun b o hb e => keep3 b o (fun z => hb (by rw [z]; exact List.mem_singleton.mpr rfl)) e⟩
        ⟨_, ⟨acc.push v, _, by rw [Array.toList_push]; exact hv.append (.cons rv .nil), rfl⟩, fun p hp => by rw [List.mem_singleton.mp hp]; exact Heap.get?_update_self _ hS1 rfl⟩ (keep3 a go (Ne.symm hSa) ga)
        (let ⟨mc, hns, hnn⟩ := I.nolimit; ⟨mc, hns.at' fun o e => keep3 _ o (Ne.symm hSc) e, hnn⟩) rfl
      cases hk
    · obtain ⟨acc, c, hv, rfl⟩ := hP
      exact wpAny_pure (hR ys acc c s₁ H hv I fi.1 fi.2)
  | succ n ih =>
    intro s L
    refine codeAny_builtin F.entry_extend_loop ?_
    rw [Around.under_plainId F.plain_extend_loop _]
    show wpAny _ A.in1 (pyNext (.ref a) >>= _) _ _ s
    refine wpAny_bind (gx_next (A := A.in1) hh hd L hgo (fun ys x v pins H s₁ rv hP I kx kap => ?_) fun ys pins H s₁ hP I fi => ?_)
    · obtain ⟨acc, c, hv, rfl⟩ := hP
      have hS1 : s₁.heap.get? S = some (lstObj acc c) := (I.pin (S, lstObj acc c) (List.mem_append_right _ (List.mem_cons_of_mem _ List.mem_cons_self))).1
      have ga : s₁.heap.get? a = some go := (I.pin (a, go) (List.mem_append_right _ List.mem_cons_self)).1
      have keep3 : ∀ b o, b ≠ S → s₁.heap.get? b = some o → (s₁.heap.update S (Obj.mapSeq (·.push v))).get? b = some o := fun b o hbS e => (Heap.get?_update_other _ _ (Ne.symm hbS)).trans e
      have hl : acc.size < sizeLine := by
        have q1 : ys.length = acc.toList.length := hv.length
        have q2 : ys.length < sizeLine := kx
        have q3 : acc.toList.length = acc.size := Array.length_toList ..
        exact Nat.lt_of_le_of_lt (Nat.le_of_eq (q3.symm.trans q1.symm)) q2
      obtain ⟨k, hk, L'⟩ := kap trivial { s₁ with heap := s₁.heap.update S (Obj.mapSeq (·.push v)) } ⟨rfl, I.bare, fun b o hb e => keep3 b o (fun z => hb (by rw [z]; exact List.mem_singleton.mpr rfl)) e⟩
        ⟨_, ⟨acc.push v, _, by rw [Array.toList_push]; exact hv.append (.cons rv .nil), rfl⟩, fun p hp => by rw [List.mem_singleton.mp hp]; exact Heap.get?_update_self _ hS1 rfl⟩ (keep3 a go (Ne.symm hSa) ga)
        (let ⟨mc, hns, hnn⟩ := I.nolimit; ⟨mc, hns.at' fun o e => keep3 _ o (Ne.symm hSc) e, hnn⟩) rfl
      cases hk
      show wpAny _ A.in1 (updateSeq S (·.push v) >>= _) _ _ _
      refine wpAny_bind ?_
      exact wpAny_updateSeq hS1 rfl (wpAny_pure ⟨plainId_quiet F.plain_extend_loop _, ih _ L'⟩) (Nat.le_of_lt hl) (by show (acc.push v).size ≤ sizeLine + 1; rw [Array.size_push]; omega)
    · obtain ⟨acc, c, hv, rfl⟩ := hP
      exact wpAny_pure (hR ys acc c s₁ H hv I fi.1 fi.2)

section
variable {X : Cx} {pins : List (Addr × Obj)} {σ : L2.St} {A : Around} {elt tg iter : Expr} {ifs : List Expr} {scope : Scope} {gpos : Pos} {own : List (Str × Nat)} {it a : Addr} {fp : List Addr} {tn : Nat → Heap → Prop} {J : It} {H4 : Hp} {s4 s5 : Shared} {code : Value} {g : Nat} {go : Obj}
theorem collect_gx {g1 : TG} {tt : TT} {te : TE} {W : Nat → Nat → List V → Hp → Prop} {m : Nat} {Q : VK} {Q' : List Value → Shared → Prop} {E : Value → Shared → Prop} (hh : A.handled = none) (hd : A.depth < recursionLimit)
    (M : Made X pins σ A.in1.in1 elt tg iter ifs scope gpos own it a fp tn J H4 s4 s5 code g go) (co : scope.isCoroutine = false)
    (hg : PG (gcx X A.in1.in1 s4 H4 scope code fp) tg g1) (ht : PTs (gcx X A.in1.in1 s4 H4 scope code fp) ifs tt) (he : PE (gcx X A.in1.in1 s4 H4 scope code fp) elt te) (turns : Turns J g1 tt te (own.map (·.2)) (wipe σ (own.map (·.2))) (conTup0 Q) W) (w0 : W 0 m [] H4)
    (hQ : ∀ (ys : List V) (acc : Array Value) (s' : Shared) (H' : Hp), Vals ys acc.toList → Inv X pins σ H' s' → ys.length ≤ sizeLine → (∀ p, H' p = none → Q (.ref p) (upd H' p (.tup ys))) → Q' acc.toList s') :
    wpAny (model X.prog X.w) A (collect (.ref a)) Q' E s5 := by
  have hSa : s5.heap.objs.size ≠ a := by rw [M.asz]; exact Nat.succ_ne_self _
  have haS : a < s5.heap.objs.size := by rw [M.asz]; exact Nat.lt_succ_self _
  have hl5 : s5.heap.NoLimit := M.inner.nolimit
  have hcl : cStatics < s5.heap.objs.size := let ⟨_, hn, _⟩ := hl5; hn.lt
  unfold collect
  refine wpAny_bind (wpAny_runValue (codeAny_builtin F.entry_proto_collect ?_))
  rw [Around.under_plainId F.plain_proto_collect _]
  show wpAny _ A.in1 (newList [] >>= fun l => again (.builtin "list.__iadd__" ⟨[l, .ref a], []⟩)) _ _ s5
  refine wpAny_bind (wpAny_newObj_type ?_)
  refine wpAny_pure ⟨plainId_quiet F.plain_list_iadd _, codeAny_builtin F.entry_list_iadd ?_⟩
  rw [Around.under_plainId F.plain_list_iadd _]
  have k1 : ∀ b o, s5.heap.get? b = some o → (s5.heap.push { cls := .type "list", data := .seq ([] : List Value).toArray }).get? b = some o := fun b o e => Heap.get?_push_of_some _ e
  have gen1 := M.gen _ (k1 _ _ M.ga)
  show wpAny _ A.in1 (Builtin.List.listExtendWith (.ref s5.heap.objs.size) (.ref a) (.ref s5.heap.objs.size)) _ _ _
  unfold Builtin.List.listExtendWith
  refine wpAny_bind (wpAny_typeOf (Heap.IsGen.typeIs (s := { s5 with heap := _ }) gen1) ?_)
  have h1 : Builtin.List.listSameRef (.ref s5.heap.objs.size) (.ref a) = false := by simp [Builtin.List.listSameRef, hSa]
  have h2 : (Value.type "generator" == Value.type "list") = false := by decide
  have h3 : (Value.type "generator" == Value.type "tuple") = false := by decide
  simp only [h1, h2, h3, Bool.or_false, Bool.false_eq_true, if_false]
  refine wpAny_bind (wpAny_pyIter_gen (s := { s5 with heap := _ }) gen1 ?_)
  refine wpAny_bind (wpAny_holding ?_)
  unfold Builtin.List.listLengthHint
  refine wpAny_bind (wpAny_specialOf (Heap.IsGen.typeIs (s := { s5 with heap := _ }) gen1) F.gen_no_len ?_)
  show wpAny _ A.in1 (specialOf (Value.ref a) (Str.ofString "__length_hint__") >>= _) _ _ _
  refine wpAny_bind (wpAny_specialOf (Heap.IsGen.typeIs (s := { s5 with heap := _ }) gen1) F.gen_no_hint ?_)
  refine wpAny_pure ?_
  show wpAny _ A.in1 (rule "list.extend.makes-room" >>= fun _ => Builtin.List.listTouch (.ref s5.heap.objs.size) >>= fun _ =>
    again (.builtin "list.extend.loop" ⟨[.ref s5.heap.objs.size, .ref a, .ref s5.heap.objs.size], []⟩)) _ _ _
  refine wpAny_bind (wpAny_rule ?_)
  have hS1 : (s5.heap.push { cls := .type "list", data := .seq ([] : List Value).toArray }).get? s5.heap.objs.size = some { cls := .type "list", data := .seq ([] : List Value).toArray } := Heap.get?_push_size _ rfl
  refine wpAny_bind ?_
  show wpAny _ A.in1 (updateSeq s5.heap.objs.size (·.push .none) >>= fun _ => updateSeq s5.heap.objs.size (·.pop)) _ _ _
  refine wpAny_bind (wpAny_updateSeq hS1 rfl ?_)
  have hS2 := Heap.get?_update_self (Obj.mapSeq (·.push Value.none)) hS1 rfl
  refine wpAny_updateSeq hS2 rfl ?_
  have hS3 := Heap.get?_update_self (Obj.mapSeq (·.pop)) hS2 rfl
  have oth : ∀ b o, b ≠ s5.heap.objs.size → s5.heap.get? b = some o →
      (((s5.heap.push { cls := .type "list", data := .seq ([] : List Value).toArray }).update s5.heap.objs.size (Obj.mapSeq (·.push Value.none))).update s5.heap.objs.size (Obj.mapSeq (·.pop))).get? b = some o :=
    fun b o hb e => (Heap.get?_update_other _ _ (Ne.symm hb)).trans ((Heap.get?_update_other _ _ (Ne.symm hb)).trans (k1 b o e))
  have z : Slp (conTup Q s5.heap.objs.size).B s5 { s5 with heap := ((s5.heap.push { cls := .type "list", data := .seq ([] : List Value).toArray }).update s5.heap.objs.size (Obj.mapSeq (·.push Value.none))).update s5.heap.objs.size (Obj.mapSeq (·.pop)) } :=
    ⟨rfl, M.inner.bare, fun b o hb e => oth b o (fun q => hb (by rw [q]; exact List.mem_singleton.mpr rfl)) e⟩
  have L := M.live (C := conTup Q s5.heap.objs.size) (ok_tup Q _) (M.apart1 haS) co hg ht he turns w0 (fun b hb => by rw [List.mem_singleton.mp hb]; exact M.inner.hok.fresh (Nat.le_refl _)) z
    (pins' := [(s5.heap.objs.size, lstObj #[] _)]) ⟨#[], _, .nil, rfl⟩ (fun p hp => by rw [List.mem_singleton.mp hp]; exact hS3) rfl
    (let ⟨mc, hns, hnn⟩ := hl5; ⟨mc, hns.at' fun o e => oth _ o (Nat.ne_of_lt hcl) e, hnn⟩)
  refine wpAny_pure ⟨plainId_quiet F.plain_extend_loop _, tup_loop (Y := gcx X A.in1.in1 s4 H4 scope code fp) hh hd M.gen hSa (Nat.ne_of_gt hcl) (fun ys acc c s' H' hv I' hle q => ?_) (m + 1) _ L⟩
  have hS' : s'.heap.get? s5.heap.objs.size = some (lstObj acc c) := (I'.pin (s5.heap.objs.size, lstObj acc c) (List.mem_append_right _ (List.mem_cons_of_mem _ List.mem_cons_self))).1
  show wpAny _ A (load s5.heap.objs.size >>= _) _ _ s'
  refine wpAny_bind (wpAny_load hS' ?_)
  exact wpAny_pure (hQ ys acc s' H' hv (M.back I') hle q)
theorem call_tuple_gx {g1 : TG} {tt : TT} {te : TE} {W : Nat → Nat → List V → Hp → Prop} {m : Nat} {Q : VK} {E : Value → Shared → Prop} (hh : A.handled = none) (hd : A.depth < recursionLimit)
    (M : Made X pins σ A.in4 elt tg iter ifs scope gpos own it a fp tn J H4 s4 s5 code g go) (co : scope.isCoroutine = false)
    (hg : PG (gcx X A.in4 s4 H4 scope code fp) tg g1) (ht : PTs (gcx X A.in4 s4 H4 scope code fp) ifs tt) (he : PE (gcx X A.in4 s4 H4 scope code fp) elt te) (turns : Turns J g1 tt te (own.map (·.2)) (wipe σ (own.map (·.2))) (conTup0 Q) W) (w0 : W 0 m [] H4) :
    wpAny (model X.prog X.w) A (call (.type "tuple") [.ref a]) (EP X pins σ Q) E s5 := by
  have new : codeAny (model X.prog X.w) A.in1 (.call (.builtin "tuple.__new__") ⟨[.type "tuple", .ref a], []⟩) (wants (fun obj s₁ => s₁.TypeIs obj "tuple" ∧ EP X pins σ Q obj s₁) E) s5 := by
    refine codeAny_of_tree ?_
    show wpAny _ A.in1.in1 (do checkBuiltinCall "tuple.__new__" ⟨[.type "tuple", .ref a], []⟩; again (.builtin "tuple.__new__" ⟨[.type "tuple", .ref a], []⟩)) _ _ s5
    refine wpAny_bind (wpAny_of_eq (F.newCall_tuple_1 _) (wpAny_pure ⟨plainId_quiet F.plain_tuple_new _, codeAny_builtin F.entry_tuple_new ?_⟩))
    rw [Around.under_plainId F.plain_tuple_new _]
    have hsub := sub_tuple_self
    have hinit := init_tuple_lookup
    have hmh := madeHere_tuple
    have hTI : s5.TypeIs (.ref a) "generator" := Heap.IsGen.typeIs (M.gen _ M.ga)
    wp_walk using wpAny_typeOf hTI, collect_gx (A := A.in1.in1) hh hd M co hg ht he turns w0
    intro ys acc s' H' hv I' hle q
    show wpAny _ _ (Builtin.Tuple.tupleExact acc.toList.toArray >>= fun v => ret v) _ _ _
    unfold Builtin.Tuple.tupleExact
    have hlen := hv.length
    refine wpAny_bind (wpAny_newObj_type ?_ (by show acc.toList.toArray.size ≤ sizeLine; rw [List.size_toArray]; omega))
    refine wpAny_pure ?_
    have hf : H' s'.heap.objs.size = none := I'.hok.fresh (Nat.le_refl _)
    refine ⟨⟨_, Heap.get?_push_size _ rfl, rfl⟩, .ref s'.heap.objs.size, upd H' s'.heap.objs.size (.tup ys), I'.laid (t' := s'.toks) (fun b u e => Heap.get?_push_of_some _ e) (Nat.le_refl _) ?_, rfl, q _ hf⟩
    exact ⟨hle, acc.toList, hv, ⟨_, Heap.get?_push_size _ rfl, rfl, _, rfl⟩⟩
  refine callType_codes (Q₁ := fun obj s₁ => s₁.TypeIs obj "tuple" ∧ EP X pins σ Q obj s₁) F.called_tuple (F.typeCall_tuple_1 _) F.entry_object_init new fun obj s₁ h₁ => ?_
  exact ⟨h₁.1, F.args_object_init_2 obj _, object_init_meets F.called_tuple.init.lookup F.called_tuple.made (by decide) X.prog X.w A.in1 _ s₁ ⟨h₁.1, rfl, h₁.2⟩⟩
end

/-- tuple(elt for tg in iter if ..) -/
def tTupG (P : Addr) (wi : TI) (g : TG) (tt : TT) (te : TE) (vs : List Nat) : TE := fun σ H Q => wi σ H fun J H1 => GxR.TabG H1 P ∧ ∀ H2, GxR.Tabbed P H1 H2 → ∃ W : Nat → Nat → List V → Hp → Prop, (∃ m, W 0 m [] H2) ∧ Turns J g tt te vs (wipe σ vs) (conTup0 Q) W
section
variable {X : Cx} {c P : Addr} {elt tg iter : Expr} {ifs : List Expr} {p pos gpos : Pos} {scope : Scope} {own : List (Str × Nat)} {wi : TI} {g : TG} {tt : TT} {te : TE} {k : Nat}
theorem pe_tupG (hr : Room k X.A) (hgl : Gl X "tuple") (hm : X.mg "tuple" = none) (TB : GxR.TabB X.base X.mg c P) (hcode : X.env.code = .ref c) (ok : GxOk X.N X.env.scope scope own) (hN : X.N.Nodup) (hi : PI X tg iter wi)
    (hg : ∀ (s : Shared) (H : Hp) (code : Value) (fp : List Addr), PG (gcx X X.A.in4 s H scope code fp) tg g) (ht : ∀ (s : Shared) (H : Hp) (code : Value) (fp : List Addr), PTs (gcx X X.A.in4 s H scope code fp) ifs tt)
    (hel : ∀ (s : Shared) (H : Hp) (code : Value) (fp : List Addr), PE (gcx X X.A.in4 s H scope code fp) elt te) (hs : ∀ v, genFold iter X.env v = pure v := by intro _; rfl)
    (he : starEach [.GeneratorExp elt [⟨tg, iter, ifs, 0⟩] scope gpos] X.env = (false, eval (.GeneratorExp elt [⟨tg, iter, ifs, 0⟩] scope gpos) X.env) :: starEach [] X.env := by rfl) :
    PE X (.Call (.Name "tuple" p) [.GeneratorExp elt [⟨tg, iter, ifs, 0⟩] scope gpos] [] pos) (tTupG P wi g tt te (own.map (·.2))) := by
  refine ⟨fun pins s σ H Q I h => ?_⟩
  refine wpAny_Call_Name_kw (ld_blt I hgl hm (show bootBuiltins "tuple" = some (.type "tuple") by decide +kernel) ?_)
  refine PyProof.Rows.callWith_type1 ?_ he (by rfl)
  rw [he]
  show wpAny _ _ (spliced ((false, eval (.GeneratorExp elt [⟨tg, iter, ifs, 0⟩] scope gpos) X.env) :: backTo pos (starEach [] X.env))) _ _ s
  refine Calls.spliced_cons (gx_make (A0 := X.A.in4) (own := own) (R := fun J H2 => ∃ W : Nat → Nat → List V → Hp → Prop, (∃ m, W 0 m [] H2) ∧ Turns J g tt te (own.map (fun q : Str × Nat => q.2)) (wipe σ (own.map (fun q : Str × Nat => q.2))) (conTup0 Q) W) hr.hd rfl hr TB hcode ok hN hi hs I h fun it a fp tn J H4 s4 s5 code gn go M q => ?_)
  obtain ⟨W, ⟨m, w0⟩, turns⟩ := q
  refine Calls.spliced_nil ?_
  exact call_tuple_gx hr.hd hr.depth M ok.co (hg s4 H4 code fp) (ht s4 H4 code fp) (hel s4 H4 code fp) turns w0
end

/-! ### room, scopes, turns -/
theorem Room.gx2 {k : Nat} {X : Cx} (r : Room (k + 1) X.A) {s : Shared} {H : Hp} {scope : Scope} {code : Value} {fp : List Addr} : Room k (gcx X X.A.in1.in1 s H scope code fp).A :=
  ⟨r.hd, by have := r.dp; show X.A.depth + 1 + 3 * k + 5 < _; omega, by have := r.un; show X.A.units + 1 + 1 + 3 + 16 * k + 200 < _; omega⟩
theorem Room.gx4 {k : Nat} {X : Cx} (r : Room (k + 1) X.A) {s : Shared} {H : Hp} {scope : Scope} {code : Value} {fp : List Addr} : Room k (gcx X X.A.in4 s H scope code fp).A :=
  ⟨r.hd, by have := r.dp; show X.A.depth + 1 + 3 * k + 5 < _; omega, by have := r.un; show X.A.units + 1 + 1 + 1 + 1 + 3 + 16 * k + 200 < _; omega⟩
def gxC (N : List Str) (sc scope : Scope) (own : List (Str × Nat)) : Bool :=
  blkC N sc scope own && !scope.isCoroutine && scope.names.all (fun y => match y.2 with | .cell => false | _ => true) && (match scope.names.lookup (".0" : Str) with | some .local => true | _ => false)
theorem gxOk_by {N : List Str} {sc scope : Scope} {own : List (Str × Nat)} (h : gxC N sc scope own = true) : GxOk N sc scope own := by
  unfold gxC at h
  simp only [Bool.and_eq_true] at h
  obtain ⟨⟨⟨h1, h2⟩, h3⟩, h4⟩ := h
  refine ⟨blkOk_by h1, by simpa using h2, fun y hy e => ?_, ?_⟩
  · have q := List.all_eq_true.mp h3 y hy
    rw [e] at q
    cases q
  · split at h4
    · assumption
    · cases h4
/-- the turns over a walk of n: Pv by the turn, what is out, the heap -/
theorem turns_it {J : It} {n : Nat} {G : Hp → Prop} {Yd : Nat → Hp → V → Hp → Prop} (w : Walk J n G Yd) {g : TG} {tt : TT} {te : TE} {vs : List Nat} {σ0 : L2.St} {C : Con} {H : Hp} (Pv : Nat → List V → Hp → Prop) (h0 : Pv 0 [] H) (hG : ∀ i ys H, i ≤ n → Pv i ys H → G H)
    (hs : ∀ i x ys H H', i < n → Pv i ys H → Yd i H x H' → g x σ0 H' fun σ2 H2 => wipe σ2 vs = σ0 ∧ tt σ2 H2 fun b H3 =>
      if b = true then te σ2 H3 fun y H4 => C.Kx ys y H4 ∧ (C.Cn ys y → Pv (i + 1) (ys ++ [y]) H4) else Pv (i + 1) ys H3) (hd : ∀ ys H, Pv n ys H → C.Fi ys H) :
    ∃ W : Nat → Nat → List V → Hp → Prop, (∃ m, W 0 m [] H) ∧ Turns J g tt te vs σ0 C W := by
  refine ⟨fun i m ys H => m = n - i ∧ i ≤ n ∧ Pv i ys H, ⟨n, by simp, Nat.zero_le _, h0⟩, ?_⟩
  rintro i m ys H ⟨rfl, hi, p⟩
  have q := hG i ys H hi p
  by_cases hlt : i < n
  · exact .inr ⟨w.goes i H hlt q, Pv (i + 1), fun ys' H' p' => ⟨n - (i + 1), by omega, rfl, hlt, p'⟩, fun x H' y => hs i x ys H H' hlt p (w.yields i H x H' hlt q y)⟩
  · have e : i = n := by omega
    subst e
    exact .inl ⟨w.stops H q, hd ys H p⟩
end GX
set_option Elab.async false
set_option linter.all false
set_option maxRecDepth 100000
set_option maxHeartbeats 4000000
namespace GX
open PySem PySem.Spec PyProof.Rows L2
open C8 (Cal pe_c)

/-! ### a def of the text with its code object -/
structure Dfn (K : PySem.W.Frag) (mg : Str → Option Value) (x : Str) (st : Stmt) (f c : Addr) : Prop where
  ex : ∃ (oc : Value) (od : Option Addr) (kV doc pm : Value) (an : Option Addr) (ct : Value) (osl : Array (Option Value)),
    K.lookup f = some ⟨oc, od, .func (PySem.W.fnOf x x (defArgs st) (defBody st) (defScope st) .none kV doc pm an (.ref c) ct), osl⟩
  hcd : PySem.W.codeIn K (.ref c) x = true
  kp : PySem.W.keepIn K (.ref f) = true
  mgf : mg x = some (.ref f)
section
variable {P : Program} {w : World} {K : PySem.W.Frag} {mg : Str → Option Value} {base : Heap}
theorem cal {x : Str} {st : Stmt} {f c : Addr} {N ps : List Str} {k : Nat} {sp : Sp} (D : Dfn K mg x st f c)
    (hb : ∀ (kV doc pm : Value) (an : Option Addr) (cdv ct : Value) (us : List Value), us.length = ps.length → bindArgs (PySem.W.fnOf x x (defArgs st) (defBody st) (defScope st) .none kV doc pm an cdv ct) ⟨us, []⟩ = pure (ps.zip us))
    (S : FnScope N ps (defScope st)) (len : ∀ vs H Q E, sp vs H Q E → vs.length = ps.length)
    (hbody : ∀ (A : Around) (outer : List Env) (s : Shared) (H : Hp) (vs : List V) (Q : VK) (E : XK), Room k (A.deeper (envOfC x (defScope st) s.heap.objs.size f (.ref c))) → sp vs H Q E →
      ∃ t, PSs (cxOf CX0 P w K mg base N x (defScope st) f (.ref c) A outer s H E).nox (defBody st) t ∧ t { nx := fun _ H' => Q .non H', rt := Q } (start N vs) H) : Cal P w K mg base (k + 1) x sp [] := by
  obtain ⟨oc, od, kV, doc, pm, an, ct, osl, lk⟩ := D.ex
  refine ⟨f, _, ps, [], fn_of lk D.hcd S len (fun A outer s H vs Q E hr hsp => ?_), D.mgf, D.kp, .all (hb kV doc pm an (.ref c) ct), .nil⟩
  obtain ⟨t, h, q⟩ := hbody A outer s H vs Q E hr hsp
  exact ⟨t, h.nox, q⟩
end

section
variable {P : Program} {w : World} {K : PySem.W.Frag} {mg : Str → Option Value} {base : Heap}
/-- .. for the law itself -/
theorem fnok {x : Str} {st : Stmt} {f c : Addr} {N ps : List Str} {k : Nat} {sp : Sp} {oc kV doc pm ct : Value} {od an : Option Addr} {osl : Array (Option Value)}
    (lk : K.lookup f = some ⟨oc, od, .func (PySem.W.fnOf x x (defArgs st) (defBody st) (defScope st) .none kV doc pm an (.ref c) ct), osl⟩) (hcd : PySem.W.codeIn K (.ref c) x = true)
    (S : FnScope N ps (defScope st)) (len : ∀ vs H Q E, sp vs H Q E → vs.length = ps.length)
    (hbody : ∀ (A : Around) (outer : List Env) (s : Shared) (H : Hp) (vs : List V) (Q : VK) (E : XK), Room k (A.deeper (envOfC x (defScope st) s.heap.objs.size f (.ref c))) → sp vs H Q E →
      ∃ t, PSs (cxOf CX0 P w K mg base N x (defScope st) f (.ref c) A outer s H E).nox (defBody st) t ∧ t { nx := fun _ H' => Q .non H', rt := Q } (start N vs) H) :
    FnOk P w K mg base CX0 (k + 1) f (PySem.W.fnOf x x (defArgs st) (defBody st) (defScope st) .none kV doc pm an (.ref c) ct) ps sp := by
  refine fn_of lk hcd S len (fun A outer s H vs Q E hr hsp => ?_)
  obtain ⟨t, h, q⟩ := hbody A outer s H vs Q E hr hsp
  exact ⟨t, h.nox, q⟩
end

/-! ### heaps: all but X stands -/
def Keep (X : List Addr) (H H' : Hp) : Prop := ∀ b o, H b = some o → b ∉ X → H' b = some o
theorem Keep.refl {X : List Addr} {H : Hp} : Keep X H H := fun _ _ e _ => e
theorem Keep.trans {X : List Addr} {H H1 H2 : Hp} (a : Keep X H H1) (b : Keep X H1 H2) : Keep X H H2 := fun c o e n => b c o (a c o e n) n
theorem Keep.mono {X Y : List Addr} {H H' : Hp} (a : Keep X H H') (h : ∀ b ∈ X, b ∈ Y) : Keep Y H H' := fun c o e n => a c o e fun z => n (h c z)
theorem Keep.new {X : List Addr} {H : Hp} {p : Addr} {o : HO} (n : H p = none) : Keep X H (upd H p o) := fun b u e _ => by rw [upd_ne (ne_of_none e n)]; exact e
theorem Keep.put {X : List Addr} {H : Hp} {p : Addr} {o : HO} (h : p ∈ X) : Keep X H (upd H p o) := fun b u e n => by rw [upd_ne (fun z => n (by rw [z]; exact h))]; exact e
/-- the tables of the defs that hold generator expressions -/
def Tabs (Ts : List Addr) (H : Hp) : Prop := ∀ P ∈ Ts, GxR.TabG H P
theorem Tabs.nott {Ts : List Addr} {H : Hp} (t : Tabs Ts H) {b : Addr} {o : HO} (e : H b = some o) (h : ∀ ps, o ≠ .tbl ps) : b ∉ Ts := fun z => by
  obtain ⟨ps, q, _⟩ := t b z
  rw [e] at q
  exact h ps (Option.some.inj q)
theorem Tabs.none {Ts : List Addr} {H : Hp} (t : Tabs Ts H) {b : Addr} (e : H b = none) : b ∉ Ts := fun z => by
  obtain ⟨ps, q, _⟩ := t b z
  rw [e] at q
  cases q
theorem Tabs.tup {Ts : List Addr} {H : Hp} (t : Tabs Ts H) {b : Addr} {xs : List V} (e : H b = some (.tup xs)) : b ∉ Ts := t.nott e fun _ z => by cases z
theorem Tabs.lst {Ts : List Addr} {H : Hp} (t : Tabs Ts H) {b : Addr} {xs : List V} (e : H b = some (.lst xs)) : b ∉ Ts := t.nott e fun _ z => by cases z
theorem Tabs.upd {Ts : List Addr} {H : Hp} (t : Tabs Ts H) {p : Addr} {o : HO} (h : p ∉ Ts) : Tabs Ts (L2.upd H p o) := fun b hb => by
  obtain ⟨ps, q, r⟩ := t b hb
  exact ⟨ps, by rw [upd_ne (fun z => h (by rw [← z]; exact hb))]; exact q, r⟩
/-- behind a generator expression: its table may have grown -/
theorem Tabs.tabbed {Ts : List Addr} {H H' : Hp} {P : Addr} (t : Tabs Ts H) (h : GxR.Tabbed P H H') : Tabs Ts H' := fun b hb => by
  by_cases e : b = P
  · rw [e]; exact h.1
  · obtain ⟨ps, q, r⟩ := t b hb
    exact ⟨ps, by rw [h.2 b e]; exact q, r⟩
theorem Keep.tabbed {X : List Addr} {H H' : Hp} {P : Addr} (hP : P ∈ X) (h : GxR.Tabbed P H H') : Keep X H H' := fun b o e n => by rw [h.2 b (fun z => n (by rw [z]; exact hP))]; exact e
/-- what a def that reads and makes leaves: the tables may have grown -/
structure Aft (Ts : List Addr) (H H' : Hp) : Prop where
  kp : Keep Ts H H'
  tb : Tabs Ts H'
theorem Aft.trans {Ts : List Addr} {H H1 H2 : Hp} (a : Aft Ts H H1) (b : Aft Ts H1 H2) : Aft Ts H H2 := ⟨a.kp.trans b.kp, b.tb⟩
theorem Aft.refl {Ts : List Addr} {H : Hp} (t : Tabs Ts H) : Aft Ts H H := ⟨Keep.refl, t⟩
theorem Aft.new {Ts : List Addr} {H : Hp} {p : Addr} {o : HO} (t : Tabs Ts H) (n : H p = Option.none) : Aft Ts H (L2.upd H p o) := ⟨Keep.new n, t.upd (t.none n)⟩
theorem Aft.tup {Ts : List Addr} {H H' : Hp} (a : Aft Ts H H') (t : Tabs Ts H) {b : Addr} {xs : List V} (e : H b = some (.tup xs)) : H' b = some (.tup xs) := a.kp b _ e (t.tup e)
theorem Aft.lst {Ts : List Addr} {H H' : Hp} (a : Aft Ts H H') (t : Tabs Ts H) {b : Addr} {xs : List V} (e : H b = some (.lst xs)) : H' b = some (.lst xs) := a.kp b _ e (t.lst e)

/-! ### the law's end with the tables of its defs -/
def TabOf (K : PySem.W.Frag) (mg : Str → Option Value) (h : Heap) (x : Str) : Prop := ∀ (fa c P : Addr) (o : Obj) (fd : FuncData) (e : Value) (dd : Option Addr) (vs : Array Value) (sl : Array (Option Value)),
  mg x = some (.ref fa) → K.lookup fa = some o → o.data = .func fd → fd.code = .ref c → K.lookup c = some ⟨e, dd, .fields vs, sl⟩ → vs[11]? = some (.ref P) → h.get? P = some { cls := .none, data := .fields #[] }
theorem walk_defs {l : PySem.W.OpenLaw} {n k : Nat} {q : Program} {loose : List Str} {XP : (Str → Option Value) → Heap → Prop} {YP : World → Heap → Prop} {d : DefRec} {K : Params → PySem.W.Frag} {CX : World → CXT} {x : Str}
    (hn : l.most = some n) (hn2 : n ≤ sizeLine) (hdf : d.params.defaults = []) (hr : Room k callerA) (hY : ∀ (w : World) (h : Heap), YP w h → (K w.params).In h)
    (F : ∀ (w : World) (mg : Str → Option Value) (fa : Addr) (h : Heap), YP w h → (K w.params).In h → h.Ns mainGlobals mg → mg d.name = some (.ref fa) → (∀ y : Str, ((recsOf q).any fun e => e.name == y) = true → TabOf (K w.params) mg h y) → LamX.LawAtS l w (K w.params) (CX w) k n x mg fa h)
    (hCX : ∀ (w : World) (H : Hp) (s : Shared) (e : Value) (s' : Shared), CX w [] H s (fun _ _ _ => False) e s' → False) :
    PySem.W.WalkO q loose XP YP l.row.toRowW d [] (fun f vs => PySem.call f vs) := by
  refine Att.attach_callB hn hdf fun w s₀ s₁ mg mb fa o pm cd doc a vs ns G Y ho hd hcd hmg hobj hints hlen hbits hg => ?_
  have KX := hY w _ Y
  have own : ∀ y : Str, ((recsOf q).any fun e => e.name == y) = true → TabOf (K w.params) mg s₁.heap y := fun y hrec fa c P o1 fd1 e dd vs1 sl k0 k1 k2 k3 k4 k5 => by
    obtain ⟨dL, hm, hn1⟩ := List.any_eq_true.mp hrec
    have hn2 : dL.name = y := beq_iff_eq.mp hn1
    obtain ⟨a', o', fd', c', P', h1, h2, h3, h4, h5, h6⟩ := G.T.tab dL hm
    rw [hn2, k0] at h1
    cases h1
    have g1 := KX _ _ k1
    rw [g1] at h2
    cases h2
    rw [k2] at h3
    cases h3
    rw [k3] at h4
    cases h4
    obtain ⟨⟨oc, vc, e1, _, e3, e4⟩, hP⟩ := h6
    have g2 := KX _ _ k4
    rw [g2] at e1
    cases e1
    cases e3
    rw [k5] at e4
    cases e4
    exact hP
  obtain ⟨fd, cs, sp, hT, nT, C, hb, hsp, hF⟩ := F w mg fa _ Y KX G.T.g hmg own
  exact LamX.law_callTs KX G.T.g G.T.b G.T.builtins G.T.nolimit hg hT nT C G.T.bmain hobj hints (Nat.le_trans hlen hn2) hr hF hb (fun H hH hS => hsp H a ns hlen hbits hH hS) fun H e s' => hCX w H s₁ e s'
theorem codeHd_of {K : PySem.W.Frag} {h : Heap} (X : K.In h) {c P : Addr} {dd : Option Addr} {vs : Array Value} {sl : Array (Option Value)} {file : Str} {tf tg tt : Tok} {flags text : Int} {inF : Bool} (lc : K.lookup c = some ⟨.type "code", dd, .fields vs, sl⟩)
    (e : vs[11]? = some (.ref P) ∧ vs.getD 11 .none = .ref P ∧ vs.getD 18 .none = .str file tf ∧ vs.getD 7 .none = .int flags tg ∧ vs.getD 9 .none = .bool inF ∧ vs.getD 10 .none = .int text tt ∧ c ≠ P) : PySem.W.CodeHd h c P :=
  ⟨_, vs, file, tf, flags, tg, inF, text, tt, X c _ lc, rfl, rfl, e.1, e.2.1, e.2.2.1, e.2.2.2.1, e.2.2.2.2.1, e.2.2.2.2.2.1, e.2.2.2.2.2.2⟩
theorem tabB_of {base : Heap} {mg : Str → Option Value} {c P : Addr} (t : LamX.TabB base mg c P) : GxR.TabB base mg c P := ⟨t.code, t.bm, t.gP⟩

/-! ### small things -/
theorem small (n : Nat) (h : n ≤ 100000 := by decide) : n ≤ sizeLine := Nat.le_trans h (by decide)
theorem at0 {a : V} {r : List V} : atI (a :: r) 0 = some a := atI_nat (j := 0) rfl
theorem at1 {a b : V} {r : List V} : atI (a :: b :: r) 1 = some b := atI_nat (j := 1) rfl
theorem at2 {a b c : V} {r : List V} : atI (a :: b :: c :: r) 2 = some c := atI_nat (j := 2) rfl
theorem sq_keep {K : PySem.W.Frag} {H H' : Hp} {a W : Addr} {xs : List V} {Ts : List Addr} (h : SqL K H a xs) (t : Tabs Ts H) (k : Keep (W :: Ts) H H') (nW : H W = none) : SqL K H' a xs := by
  have nn : ∀ o, H a = some o → (∀ ps, o ≠ .tbl ps) → a ∉ W :: Ts := fun o e hn z => by
    rcases List.mem_cons.mp z with z | z
    · rw [z, nW] at e
      cases e
    · exact t.nott e hn z
  rcases h with (h | ⟨o, h⟩) | h
  · exact .inl (.inl (k _ _ h (nn _ h fun _ z => by cases z)))
  · exact .inl (.inr ⟨o, k _ _ h (nn _ h fun _ z => by cases z)⟩)
  · exact .inr h
end GX
set_option Elab.async false
set_option linter.all false
set_option maxRecDepth 100000
set_option maxHeartbeats 4000000
/-! Nets as data, and how they stand in the heap. -/
namespace GX
open PySem PySem.Spec PyProof.Rows L2
structure Net where
  many : Nat
  gates : List (Nat × Nat × Nat)
  outs : List Nat
def gateOk (many i : Nat) (g : Nat × Nat × Nat) : Prop := g.1 < 16 ∧ g.2.1 < many + i ∧ g.2.2 < many + i
structure Net.Ok (n : Net) : Prop where
  m1 : 1 ≤ n.many
  m8 : n.many ≤ 8
  g16 : n.gates.length ≤ 16
  gs : ∀ (i : Nat) (g : Nat × Nat × Nat), n.gates[i]? = some g → gateOk n.many i g
  o1 : 1 ≤ n.outs.length
  o8 : n.outs.length ≤ 8
  os : ∀ o ∈ n.outs, o < n.many + n.gates.length
def nV (n : Nat) : V := .int (n : Int)
def gV (g : Nat × Nat × Nat) : List V := [nV g.1, nV g.2.1, nV g.2.2]
/-- the gates at these addresses -/
def GatesAt (H : Hp) (ps : List Addr) (gs : List (Nat × Nat × Nat)) : Prop := ps.length = gs.length ∧ ∀ (i : Nat) (p : Addr) (g : Nat × Nat × Nat), ps[i]? = some p → gs[i]? = some g → H p = some (.tup (gV g))
structure NetAt (H : Hp) (a : Addr) (n : Net) (g o : Addr) (ps : List Addr) : Prop where
  top : H a = some (.tup [nV n.many, .ref g, .ref o])
  gt : H g = some (.tup (ps.map V.ref))
  gs : GatesAt H ps n.gates
  ot : H o = some (.tup (n.outs.map nV))
theorem GatesAt.nil (H : Hp) : GatesAt H [] [] := ⟨rfl, fun i p g e _ => by simp at e⟩
theorem GatesAt.mono {H H' : Hp} {ps : List Addr} {gs : List (Nat × Nat × Nat)} (x : GatesAt H ps gs) (k : ∀ b xs, H b = some (.tup xs) → H' b = some (.tup xs)) : GatesAt H' ps gs := ⟨x.1, fun i p g e1 e2 => k _ _ (x.2 i p g e1 e2)⟩
theorem NetAt.mono {H H' : Hp} {a g o : Addr} {n : Net} {ps : List Addr} (x : NetAt H a n g o ps) (k : ∀ b xs, H b = some (.tup xs) → H' b = some (.tup xs)) : NetAt H' a n g o ps := ⟨k _ _ x.top, k _ _ x.gt, x.gs.mono k, k _ _ x.ot⟩
theorem GatesAt.push {H : Hp} {ps : List Addr} {gs : List (Nat × Nat × Nat)} {p : Addr} {g : Nat × Nat × Nat} (x : GatesAt H ps gs) (h : H p = some (.tup (gV g))) : GatesAt H (ps ++ [p]) (gs ++ [g]) := by
  refine ⟨by rw [List.length_append, List.length_append, x.1]; rfl, fun i q g' e1 e2 => ?_⟩
  by_cases hi : i < ps.length
  · rw [List.getElem?_append_left hi] at e1
    rw [List.getElem?_append_left (by rw [← x.1]; exact hi)] at e2
    exact x.2 i q g' e1 e2
  · rw [List.getElem?_append_right (by omega)] at e1
    rw [List.getElem?_append_right (by rw [← x.1]; omega)] at e2
    have hz : i - ps.length = 0 := by
      obtain ⟨h1, _⟩ := List.getElem?_eq_some_iff.mp e1
      simp at h1
      omega
    rw [hz] at e1
    rw [← x.1, hz] at e2
    cases e1
    cases e2
    exact h
theorem gateOk.at {H : Hp} {ps : List Addr} {gs : List (Nat × Nat × Nat)} (x : GatesAt H ps gs) {i : Nat} {p : Addr} (e : ps[i]? = some p) : ∃ g, gs[i]? = some g ∧ H p = some (.tup (gV g)) := by
  obtain ⟨h1, _⟩ := List.getElem?_eq_some_iff.mp e
  have h2 : i < gs.length := by rw [← x.1]; exact h1
  exact ⟨gs[i], List.getElem?_eq_getElem h2, x.2 i p _ e (List.getElem?_eq_getElem h2)⟩
/-- what a tuple holds it keeps, where but X is kept and X holds none -/
theorem Keep.tups {X : List Addr} {H H' : Hp} (k : Keep X H H') (n : ∀ b ∈ X, ∀ xs, H b ≠ some (.tup xs)) : ∀ b xs, H b = some (.tup xs) → H' b = some (.tup xs) := fun b xs e => k b _ e fun z => n b z xs e
/-! ### the well -/
def Wl (H : Hp) (W : Addr) : Prop := ∃ a b c : Int, H W = some (.lst [.int a, .int b, .int c])
theorem Wl.nt {H : Hp} {W : Addr} (h : Wl H W) : ∀ b ∈ [W], ∀ xs, H b ≠ some (.tup xs) := fun b hb xs e => by
  rw [List.mem_singleton.mp hb] at e
  obtain ⟨_, _, _, q⟩ := h
  rw [e] at q
  cases q
theorem Wl.keep {X : List Addr} {H H' : Hp} {W : Addr} (h : Wl H W) (k : Keep X H H') (n : W ∉ X) : Wl H' W := by
  obtain ⟨a, b, c, e⟩ := h
  exact ⟨a, b, c, k _ _ e n⟩
theorem Wl.tab {Ts : List Addr} {H : Hp} {W : Addr} (h : Wl H W) (t : Tabs Ts H) : W ∉ Ts := by
  obtain ⟨a, b, c, e⟩ := h
  exact t.lst e
theorem Tabs.keep {Ts X : List Addr} {H H' : Hp} (t : Tabs Ts H) (k : Keep X H H') (n : ∀ b ∈ X, b ∉ Ts) : Tabs Ts H' := fun b hb => by
  obtain ⟨ps, q, r⟩ := t b hb
  exact ⟨ps, k b _ q fun z => n b z hb, r⟩
/-! ### words for the readings -/
theorem Same.keep {X : List Addr} {H H' : Hp} (s : Same H H') : Keep X H H' := fun b o e _ => s b o e
theorem Same.new {H : Hp} {p : Addr} {o : HO} (n : H p = none) : Same H (upd H p o) := fun b u e => by rw [upd_ne (ne_of_none e n)]; exact e
theorem catA {K : PySem.W.Frag} {H : Hp} {a b : Addr} {xs ys : List V} {Q : VK} (h1 : H a = some (.tup xs)) (h2 : H b = some (.tup ys)) (hz : xs.length + ys.length ≤ sizeLine) (q : ∀ r H', Same H H' → H' r = some (.tup (xs ++ ys)) → Q (.ref r) H') : rCatA K (.ref a) (.ref b) H Q := by
  refine ⟨a, b, xs, ys, rfl, rfl, SqT.of h1, SqT.of h2, hz, fun e => ?_, fun e1 e2 => ?_, fun e1 e2 p hp => ?_⟩
  · exact q b H (Same.refl _) (by rw [e]; exact h2)
  · exact q a H (Same.refl _) (by rw [e2, List.append_nil]; exact h1)
  · exact q p _ (Same.new hp) upd_same
theorem slA {K : PySem.W.Frag} {H : Hp} {a : Addr} {xs : List V} {lo hi : Option Int} {Q : VK} (h1 : H a = some (.tup xs)) (q : ∀ r H', Same H H' → H' r = some (.tup (cutV xs lo hi)) → Q (.ref r) H') : rSlA K (.ref a) lo hi H Q := by
  refine ⟨a, xs, rfl, SqT.of h1, fun e => ?_, fun e p hp => ?_⟩
  · refine q a H (Same.refl _) ?_
    unfold cutV
    rw [e.1, e.2, List.drop_zero, Nat.sub_zero, List.take_length]
    exact h1
  · exact q p _ (Same.new hp) upd_same
theorem atIf {a b : V} {k : Bool} : atI [a, b] (if k = true then 1 else 0) = some (if k = true then b else a) := by cases k <;> rfl
theorem cut_lo (xs : List V) (n : Nat) : cutV xs (some (n : Int)) none = xs.drop n := by
  unfold cutV
  rw [show HT.sIx xs.length 0 (some (n : Int)) = min n xs.length from HT.sIx_nat xs.length 0 n, HT.sIx_none]
  by_cases h : n ≤ xs.length
  · rw [Nat.min_eq_left h, List.take_of_length_le]
    rw [List.length_drop]
    exact Nat.le_refl _
  · rw [Nat.min_eq_right (by omega), List.drop_of_length_le (Nat.le_refl _), List.drop_of_length_le (by omega), List.take_nil]
theorem cut_hi (xs : List V) (n : Nat) : cutV xs none (some (n : Int)) = xs.take n := by
  unfold cutV
  rw [show HT.sIx xs.length xs.length (some (n : Int)) = min n xs.length from HT.sIx_nat xs.length xs.length n, HT.sIx_none, List.drop_zero, Nat.sub_zero]
  by_cases h : n ≤ xs.length
  · rw [Nat.min_eq_left h]
  · rw [Nat.min_eq_right (by omega), List.take_of_length_le (by omega : xs.length ≤ n), List.take_length]
/-- the well stands, all else is kept -/
structure Wk (W : Addr) (H H' : Hp) : Prop where
  wl : Wl H' W
  kp : Keep [W] H H'
theorem Wk.nxt {W : Addr} {H H1 H2 : Hp} (s : Wk W H H1) (wl : Wl H2 W) (k : Keep [W] H1 H2) : Wk W H H2 := ⟨wl, s.kp.trans k⟩
theorem Wl.same {H H' : Hp} {W : Addr} (h : Wl H W) (s : Same H H') : Wl H' W := by
  obtain ⟨a, b, c, e⟩ := h
  exact ⟨a, b, c, s _ _ e⟩
theorem Wk.same {W : Addr} {H H1 H2 : Hp} (s : Wk W H H1) (e : Same H1 H2) : Wk W H H2 := ⟨s.wl.same e, s.kp.trans (Same.keep e)⟩
theorem Wk.new {W : Addr} {H H1 : Hp} {p : Addr} {o : HO} (s : Wk W H H1) (n : H1 p = none) : Wk W H (upd H1 p o) := s.same (Same.new n)
/-- a tuple stands behind a draw -/
theorem Wl.tup {H H' : Hp} {W : Addr} (h : Wl H W) (k : Keep [W] H H') {b : Addr} {xs : List V} (e : H b = some (.tup xs)) : H' b = some (.tup xs) := k.tups h.nt b xs e
theorem Wl.gates {H H' : Hp} {W : Addr} (h : Wl H W) (k : Keep [W] H H') {ps : List Addr} {gs : List (Nat × Nat × Nat)} (x : GatesAt H ps gs) : GatesAt H' ps gs := x.mono (k.tups h.nt)
theorem Same.gates {H H' : Hp} (s : Same H H') {ps : List Addr} {gs : List (Nat × Nat × Nat)} (x : GatesAt H ps gs) : GatesAt H' ps gs := x.mono fun b xs e => s b _ e
/-- a list of our own, filled behind H: all that was stands -/
structure Own (H H' : Hp) (l : Addr) (xs : List V) : Prop where
  sm : Same H H'
  at_ : H' l = some (.lst xs)
  nw : H l = none
theorem Own.app {H H' : Hp} {l : Addr} {xs : List V} {y : V} (o : Own H H' l xs) : Own H (upd H' l (.lst (xs ++ [y]))) l (xs ++ [y]) :=
  ⟨fun b u e => by rw [upd_ne (ne_of_none e o.nw)]; exact o.sm b u e, upd_same, o.nw⟩
theorem NetAt.same {H H' : Hp} {a g o : Addr} {n : Net} {ps : List Addr} (x : NetAt H a n g o ps) (s : Same H H') : NetAt H' a n g o ps := x.mono fun b xs e => s b _ e
theorem Tabs.same {Ts : List Addr} {H H' : Hp} (t : Tabs Ts H) (s : Same H H') : Tabs Ts H' := fun b hb => by
  obtain ⟨ps, q, r⟩ := t b hb
  exact ⟨ps, s _ _ q, r⟩
theorem Aft.ofSame {Ts : List Addr} {H H' : Hp} (t : Tabs Ts H) (s : Same H H') : Aft Ts H H' := ⟨Same.keep s, Tabs.same t s⟩
theorem NetAt.aft {Ts : List Addr} {H H' : Hp} {a g o : Addr} {n : Net} {ps : List Addr} (x : NetAt H a n g o ps) (t : Tabs Ts H) (s : Aft Ts H H') : NetAt H' a n g o ps := x.mono fun b xs e => s.tup t e
/-! ### rules with the written part named (for generator expressions) -/
section
variable {X : Cx} {K : PySem.W.Frag}
theorem ix_tupK (h : X.K = K := by rfl) : IxR X (rIxT K) := by subst h; exact ix_tup
theorem ix_listK (h : X.K = K := by rfl) : IxR X (rIxL K) := by subst h; exact ix_list
theorem op_in_seqK (h : X.K = K := by rfl) : OpR X (compareOp .In) (rIn K false) := by subst h; exact op_in_seq
theorem op_notIn_seqK (h : X.K = K := by rfl) : OpR X (compareOp .NotIn) (rIn K true) := by subst h; exact op_notIn_seq
theorem len_seqK (h : X.K = K := by rfl) : CallR X (.builtin "len") (fun xs H Q => ∃ p ys, xs = [.ref p] ∧ (SqL K H p ys ∨ SqT K H p ys) ∧ Q (.int ys.length) H) := by subst h; exact call_len_seq
theorem isiK (h : X.K = K := by rfl) : CallR X (.builtin "isinstance") (rIsi K) := by subst h; exact call_isi
theorem op_catAK (h : X.K = K := by rfl) : OpR X (binaryOp .Add) (rCatA K) := by subst h; exact op_catA
theorem sl_tupAK (h : X.K = K := by rfl) : SlR X (rSlA K) := by subst h; exact sl_tupA
end
end GX
set_option Elab.async false
set_option linter.all false
set_option maxRecDepth 100000
set_option maxHeartbeats 4000000
/-! enumerate of a tuple, walked. -/
namespace GX
open PySem PySem.Spec PyProof.Rows L2
open AutoSeq1 (wpAny_loadPart')
theorem enumT_new (l : Addr) (items : Array Value) (n : Nat) (dct : Option Addr) (sl : Array (Option Value)) :
    Meets (Builtin.«enumerate.__new__» ⟨[.type "enumerate", .ref l], []⟩) (fun _ R s => s.heap.get? l = some { cls := .type "tuple", dict := dct, data := .seq items n, slots := sl } ∧
      R (.ok (.ret (.ref (s.heap.push { cls := .type "tuple_iterator", data := .fields #[.ref l, .int 0 0] }).objs.size)))
        { s with heap := (s.heap.push { cls := .type "tuple_iterator", data := .fields #[.ref l, .int 0 0] }).push { cls := .type "enumerate", data := .fields #[.none, .bool false, .ref s.heap.objs.size, rawInt 0, .none, .none] } }) :=
  .of_wp fun prog w A R s h => by
    obtain ⟨hp, g, d, tk, os⟩ := s
    obtain ⟨hl, h⟩ := h
    have hsub := sub_enumerate
    have hL : Heap.IsTuple (Shared.heap ⟨hp, g, d, tk, os⟩) l items := ⟨_, hl, rfl, n, rfl⟩
    wp_walk using wpAny_loadPart' hl
    refine wpAny_stack_any fun st => wpAny_pure ?_
    split
    · rename_i c _ _ _ _ _
      cases (c == Value.type "enumerate") <;>
      · wp_walk using wpAny_loadPart' hl, wpAny_pyIter_tuple hL
        exact ⟨_, rfl, h⟩
    · wp_walk using wpAny_loadPart' hl, wpAny_pyIter_tuple hL
      exact ⟨_, rfl, h⟩
section
variable {prog : Program} {w : World} {A : Around} {E : Value → Shared → Prop} {s : Shared}
theorem enumT_call {l : Addr} {items : Array Value} {Q : Value → Shared → Prop} (hL : s.heap.IsTuple l items)
    (h : ∀ h', IsEnum h' (s.heap.objs.size + 1) s.heap.objs.size 0 .none → h'.IsTupleIter s.heap.objs.size l 0 → (∀ b o, s.heap.get? b = some o → h'.get? b = some o) → Q (.ref (s.heap.objs.size + 1)) { s with heap := h' }) :
    wpAny (model prog w) A (call (.type "enumerate") [.ref l]) Q E s := by
  obtain ⟨⟨c, dct, dt, sl⟩, hl, hc, n, hd⟩ := hL
  replace hc : c = .type "tuple" := hc
  replace hd : dt = .seq items n := hd
  subst hc hd
  refine callType_new F.called_enumerate (by decide) (F.typeCall_enumerate_1 _) (F.newCall_enumerate_1 _) (fun obj => F.args_object_init_2 obj _) F.entry_enumerate_new (enumT_new l items n dct sl) ⟨hl, ?_⟩
  have hz : (s.heap.push { cls := .type "tuple_iterator", data := .fields #[.ref l, .int 0 0] }).objs.size = s.heap.objs.size + 1 := Heap.size_push ..
  show _ ∧ _
  rw [hz]
  have he : IsEnum ((s.heap.push { cls := .type "tuple_iterator", data := .fields #[.ref l, .int 0 0] }).push { cls := .type "enumerate", data := .fields #[.none, .bool false, .ref s.heap.objs.size, rawInt 0, .none, .none] }) (s.heap.objs.size + 1) s.heap.objs.size 0 .none := by
    have q := Heap.get?_push_size (s.heap.push { cls := .type "tuple_iterator", data := .fields #[.ref l, .int 0 0] }) (o := { cls := .type "enumerate", data := .fields #[.none, .bool false, .ref s.heap.objs.size, rawInt 0, .none, .none] }) rfl
    rw [hz] at q
    exact q
  exact ⟨⟨_, he, rfl⟩, h _ he ⟨_, Heap.get?_push_of_some _ (Heap.get?_push_size _ rfl), rfl, rfl⟩ fun b o x => Heap.get?_push_of_some _ (Heap.get?_push_of_some _ x)⟩
end
def Itet (K : PySem.W.Frag) (a : Addr) : It :=
  ⟨fun i H => ∃ (xs : List V) (x : V), SqT K H a xs ∧ xs[i]? = some x, fun i H v H' => ∃ T x, v = .ref T ∧ H T = none ∧ H' = upd H T (.tup [.int (i : Nat), x]) ∧ ∀ xs, SqT K H a xs → xs[i]? = some x, fun i H => ∃ xs : List V, SqT K H a xs ∧ xs.length = i⟩
theorem turn_enumT {P : Program} {w : World} {K : PySem.W.Frag} {elts : List Expr} {kk : Nat} {tpos : Pos} (a e it : Addr) :
    Turn P w K (.Tuple elts kk tpos) (Itet K a) [e, it] e (fun i h => (∃ old, IsEnum h e it ((i : Nat) : Int) old) ∧ h.IsTupleIter it a i ∧ e ≠ it ∧ a ≠ it ∧ a ≠ e) where
  mem := by simp
  obj := fun i h st b hb => by
    obtain ⟨⟨old, he⟩, ⟨o, ho, hc, hd⟩, _⟩ := st
    rcases (show b = e ∨ b = it by simpa using hb) with z | z
    · rw [z]; exact ⟨_, he, fun v q => nomatch q⟩
    · rw [z]; exact ⟨o, ho, fun v q => by rw [hd] at q; cases q⟩
  keep := fun i h h' st k => let ⟨⟨old, he⟩, hi, hne⟩ := st; ⟨⟨old, k e (by simp) _ he⟩, hi.at fun o q => k it (by simp) o q, hne⟩
  item := by
    intro X hP hw hK hc i pins s σ H E I hf st hg
    subst hP hw hK
    obtain ⟨⟨old, he⟩, hit, hne, hai, hae⟩ := st
    obtain ⟨xs, x, hq, hx⟩ := hg
    obtain ⟨its, rv, p, hz⟩ := I.tuple hq
    obtain ⟨u, hu, ru⟩ := rv.get hx
    have hel : e < s.heap.objs.size := Heap.lt_size he
    have hil : it < s.heap.objs.size := by obtain ⟨_, q, _⟩ := hit; exact Heap.lt_size q
    have hu' : its.toArray[i]? = some u := by simpa using hu
    refine wpAny_pyNext_enum_itemD (Draws.tuple (A := X.A.in1) (show X.A.in1.handled = none from I.ok.hd hc) it a hai its.toArray) he ⟨hit, p⟩ (Array.getElem?_eq_some_iff.mp hu').1 hne (by simp [hne, Ne.symm hae]) fun y h' tk hy ho hst hT hsz hk => ?_
    obtain rfl : u = y := Option.some.inj (hu'.symm.trans hy)
    refine ⟨_, rfl, wpAny_letOwnedTupleGo_enum (s := { s with heap := h', toks := tk + 1 }) ho fun h'' he' sb => ?_⟩
    have hT2 : h''.get? s.heap.objs.size = some { cls := .type "tuple", data := .seq #[.int i tk, u] } := (sb.2 _ (Nat.ne_of_gt hel)).trans hT
    have new : ObjOk X.prog X.w (upd H s.heap.objs.size (.tup [.int (i : Nat), x])) h'' s.heap.objs.size (.tup [.int (i : Nat), x]) :=
      ⟨by show 2 ≤ sizeLine; decide, [.int i tk, u], .cons ⟨_, rfl⟩ (.cons ru .nil), ⟨_, hT2, rfl, _, rfl⟩⟩
    have I1 : Inv X pins σ (upd H s.heap.objs.size (.tup [.int (i : Nat), x])) { s with heap := h'', toks := tk + 1 } :=
      I.turnedNew (ch := [e, it]) (fun b ob hb q => (sb.2 b (fun z => hb (by simp [z]))).trans (hk b ob (fun z => hb (by simp [z])) (fun z => hb (by simp [z])) q)) hf (Nat.le_refl _) new
    refine ⟨.ref s.heap.objs.size, _, I1, rfl, ⟨_, x, rfl, I.hok.fresh (Nat.le_refl _), rfl, fun ys hy => by rw [I.tuple_inj hy hq]; exact hx⟩, ⟨⟨u, ?_⟩, hst.1.at fun o q => (sb.2 it (Ne.symm hne)).trans q, hne, hai, hae⟩, fun b hb => ?_⟩
    · rw [show ((i + 1 : Nat) : Int) = (i : Int) + 1 by omega]
      exact he'
    · have hb' : b < s.heap.objs.size := by
        rcases (show b = e ∨ b = it by simpa using hb) with z | z
        · rw [z]; exact hel
        · rw [z]; exact hil
      rw [upd_ne (Nat.ne_of_lt hb')]
      exact (hf b hb).1
  done := by
    intro X hP hw hK hc i pins s σ H E I hf st hg
    subst hP hw hK
    obtain ⟨⟨old, he⟩, hit, hne, hai, hae⟩ := st
    obtain ⟨xs, hq, hx⟩ := hg
    obtain ⟨its, rv, p, hz⟩ := I.tuple hq
    obtain ⟨f0, f1, f2, f3, f4, f5⟩ := hf it (by simp)
    have hl : xs.length = its.length := rv.length
    have hs : its.toArray.size = i := by rw [List.size_toArray]; omega
    exact wpAny_pyNext_enum_endD (Draws.tuple (A := X.A.in1) (show X.A.in1.handled = none from I.ok.hd hc) it a hai its.toArray) he (by rw [hs]; exact ⟨hit, p⟩) fun h' eb => ⟨rfl, I.turned (t' := s.toks) (fun b o hb q => eb b o hb q) f0 f1 f3 f4 f5⟩
  self := fun A i s Q E st h => let ⟨⟨_, he⟩, _⟩ := st; wpAny_pyIter_enum he h
def iEnumT (K : PySem.W.Frag) (ta : TA) : TI := fun σ H R => ta σ H fun vs H1 => ∃ a xs, vs = [.ref a] ∧ SqT K H1 a xs ∧ R (Itet K a) H1
theorem pi_enumT {X : Cx} {e : Expr} {ta : TA} {p pos tpos : Pos} {elts : List Expr} {kk : Nat} (hg : Gl X "enumerate") (hm : X.mg "enumerate" = none) (ha : PA X [e] ta) (hs : starEach [e] X.env = [(false, eval e X.env)] := by rfl) :
    PI X (.Tuple elts kk tpos) (.Call (.Name "enumerate" p) [e] [] pos) (iEnumT X.K ta) := by
  refine ⟨fun pins s σ H R I h => ?_⟩
  refine Call_ (ld_blt I hg hm boot_enumerate (PyProof.Rows.callWith_type1 (thn (ha.run pos pins s σ H _ I h) fun us s1 ⟨vs, H1, I1, r1, q1⟩ => ?_) hs rfl))
  obtain ⟨a, xs, ex, hq, q⟩ := q1
  subst ex
  cases r1 with
  | cons r rr =>
    cases rr
    cases r
    obtain ⟨its, rv, p', hz⟩ := I1.tuple hq
    have hal : a < s1.heap.objs.size := IsTup.lt p'
    refine enumT_call (show s1.heap.IsTuple a its.toArray from p') fun h' he hit hk => wpAny_pyIter_enum he ?_
    have I2 : Inv X pins σ H1 { s1 with heap := h' } := I1.kept (t' := s1.toks) hk
    refine ⟨s1.heap.objs.size + 1, [s1.heap.objs.size + 1, s1.heap.objs.size], _, _, H1, rfl, I2, turn_enumT a (s1.heap.objs.size + 1) s1.heap.objs.size, ⟨⟨.none, he⟩, hit, Nat.succ_ne_self _, Nat.ne_of_lt hal, Nat.ne_of_lt (Nat.lt_succ_of_lt hal)⟩, fun b hb => ?_, q⟩
    have hle : s1.heap.objs.size ≤ b := by
      rcases (show b = s1.heap.objs.size + 1 ∨ b = s1.heap.objs.size by simpa using hb) with z | z
      · rw [z]; exact Nat.le_add_right _ _
      · rw [z]; exact Nat.le_refl _
    exact I1.fpOk hle (I1.hok.fresh hle)
theorem walk_enumT {K : PySem.W.Frag} {a : Addr} {xs : List V} : Walk (Itet K a) xs.length (fun H => SqT K H a xs) (YPair (fun i => some (.int (i : Nat))) (fun i => xs[i]?)) := by
  refine ⟨fun i _ hi q => ⟨xs, xs[i], q, by simp [hi]⟩, fun _ q => ⟨xs, q, rfl⟩, fun i H v H' _ q y => ?_⟩
  obtain ⟨T, x, h1, h2, h3, h4⟩ := y
  exact ⟨T, .int (i : Nat), x, h1, h2, h3, rfl, h4 xs q⟩
end GX
set_option Elab.async false
set_option linter.all false
set_option maxRecDepth 100000
set_option maxHeartbeats 4000000
/-! t[::-1] of a tuple. -/
namespace GX
open PySem PySem.Spec PyProof.Rows L2 HT
section
variable {prog : Program} {w : World} {A : Around} {E : Value → Shared → Prop} {s : Shared}
theorem adj_rev (n : Nat) : Builtin.Slice.sliceAdjust none none (-1) (n : Int) = ((n : Int) - 1, -1) := by
  unfold Builtin.Slice.sliceAdjust
  rfl
theorem plc_rev (n : Nat) : Builtin.Slice.slicePlaces ((n : Int) - 1) (-1) (-1) = n := by
  unfold Builtin.Slice.slicePlaces
  rw [if_neg (by decide), show (-(-1 : Int)) = 1 by decide, Int.ediv_one]
  split <;> omega
theorem applied_rev {sl : Addr} {vl vu vs : Value} {n : Nat} {Q : Int × Int × Nat → Shared → Prop} (hs : s.heap.IsSliceOf sl vl vu vs) (pl : IsPart vl none) (pu : IsPart vu none) (ps : IsPart vs (some (-1)))
    (h : Q ((n : Int) - 1, -1, n) s) : wpAny (model prog w) A (Builtin.Slice.sliceApplied (.ref sl) (pure (n : Int))) Q E s := by
  obtain ⟨os, hos, hcs, hds⟩ := id hs
  unfold Builtin.Slice.sliceApplied Builtin.Slice.sliceFields
  refine wpAny_bind (wpAny_bind (wpAny_field hos hds (x := vl) rfl (wpAny_bind (wpAny_field hos hds (x := vu) rfl (wpAny_bind (wpAny_field hos hds (x := vs) rfl (wpAny_pure ?_)))))))
  refine wpAny_bind (slicePart_ ps ?_)
  show wpAny _ _ (if ((-1 : Int) == 0) = true then _ else _) _ _ s
  rw [if_neg (by decide)]
  refine wpAny_bind (slicePart_ pl (wpAny_bind (slicePart_ pu (wpAny_bind (wpAny_pure ?_)))))
  show wpAny _ _ (match Builtin.Slice.sliceAdjust none none (-1) (n : Int) with | (lo, hi) => pure (lo, (-1 : Int), Builtin.Slice.slicePlaces lo hi (-1))) _ _ s
  rw [adj_rev n]
  show wpAny _ _ (pure ((n : Int) - 1, (-1 : Int), Builtin.Slice.slicePlaces ((n : Int) - 1) (-1) (-1))) _ _ s
  rw [plc_rev]
  exact wpAny_pure h
theorem fm_congr {α β : Type} {f g : α → Option β} : ∀ {l : List α}, (∀ x ∈ l, f x = g x) → l.filterMap f = l.filterMap g
  | [], _ => rfl
  | a :: r, h => by
    rw [List.filterMap_cons, List.filterMap_cons, h a List.mem_cons_self, fm_congr fun x hx => h x (List.mem_cons_of_mem _ hx)]
theorem pick_rev (xs : Array Value) : ((List.range xs.size).filterMap fun (k : Nat) => xs[((xs.size : Int) - 1 + (k : Int) * (-1)).toNat]?).toArray = xs.toList.reverse.toArray := by
  have e : ((List.range xs.size).filterMap fun (k : Nat) => xs[((xs.size : Int) - 1 + (k : Int) * (-1)).toNat]?) = (((List.range xs.size).map fun k => xs.size - 1 - k).filterMap (xs[·]?)) := by
    rw [List.filterMap_map]
    refine fm_congr fun k hk => ?_
    have hk' := List.mem_range.mp hk
    show xs[((xs.size : Int) - 1 + (k : Int) * (-1)).toNat]? = xs[xs.size - 1 - k]?
    rw [show ((xs.size : Int) - 1 + (k : Int) * (-1)).toNat = xs.size - 1 - k by omega]
  rw [e, PySem.W.krv_range, List.filterMap_reverse, PySem.W.krv_all]
theorem item_rev {t sl : Addr} {items : Array Value} {vl vu vs : Value} {Q : Value → Shared → Prop} (ht : IsTup s.heap t items) (hs : s.heap.IsSliceOf sl vl vu vs) (pl : IsPart vl none) (pu : IsPart vu none) (ps : IsPart vs (some (-1)))
    (h : Q (.ref s.heap.objs.size) { s with heap := s.heap.push { cls := .type "tuple", data := .seq items.toList.reverse.toArray } })
    (hsz : items.size ≤ sizeLine) : wpAny (model prog w) A (getItem (.ref t) (.ref sl)) Q E s := by
  have htake : sizeOk (.seq items.toList.reverse.toArray) := by
    show items.toList.reverse.toArray.size ≤ sizeLine
    rw [List.size_toArray, List.length_reverse, Array.length_toList]
    exact hsz
  obtain ⟨os, hos, hcs, hds⟩ := id hs
  have hTs : s.TypeIs (.ref sl) "slice" := ⟨os, hos, hcs⟩
  unfold getItem
  try with_reducible refine wpAny_holding ?_
  first | refine wpAny_bind (wpAny_pure ?_) | skip
  refine wpAny_bind (wpAny_sequenceKey ht.typeIs (by decide) ?_)
  refine wpAny_bind (wpAny_callSpecial?_slot (name := Str.ofString "__getitem__") ht.typeIs PyProof.Rows.slot_tuple_getitem
    (wpAny_call_entry PyProof.Rows.slot_tuple_getitem ht.typeIs entry_tuple_getitem ?_ (args_tuple_getitem _ _)))
  show wpAny _ _ (Builtin.Tuple.tupleItemsOf (.ref t) >>= _) _ _ s
  refine wpAny_bind (tupleItemsOf_ ht ?_)
  refine wpAny_bind (wpAny_typeOf hTs ?_)
  rw [if_pos (by decide)]
  refine wpAny_bind (applied_rev hs pl pu ps ?_)
  have hno : ¬ (((((items.size : Int) - 1) == 0 && (-1 : Int) == 1) && items.size == items.size) = true) := by simp
  show wpAny _ _ (if ((((items.size : Int) - 1) == 0 && (-1 : Int) == 1) && items.size == items.size) = true then _ else _) _ _ s
  rw [if_neg hno, pick_rev]
  first
    | exact wpAny_bind (m := Builtin.Tuple.tupleExact _) (wpAny_newObj_type (wpAny_pure ⟨_, rfl, wpAny_pure h⟩) htake)
    | exact wpAny_bind (m := Builtin.Tuple.tupleExact _) (wpAny_newObj_type (wpAny_bind (wpAny_pure (wpAny_pure ⟨_, rfl, wpAny_pure h⟩))) htake)
    | exact wpAny_bind (wpAny_bind (m := Builtin.Tuple.tupleExact _) (wpAny_newObj_type (wpAny_pure (wpAny_pure ⟨_, rfl, wpAny_pure h⟩)) htake))
    | exact wpAny_bind (wpAny_bind (m := Builtin.Tuple.tupleExact _) (wpAny_newObj_type (wpAny_pure ⟨_, rfl, wpAny_pure h⟩) htake))
end
def tRevT (K : PySem.W.Frag) (te : TE) : TE := fun σ H Q => te σ H fun x H1 => ∃ a xs, x = .ref a ∧ SqT K H1 a xs ∧ ∀ p, H1 p = none → Q (.ref p) (upd H1 p (.tup xs.reverse))
theorem pe_revT {X : Cx} {e : Expr} {te : TE} {k : Nat} {p1 p2 p3 pos : Pos} (he : PE X e te) : PE X (.Subscript e (.Slice none none (some (.UnaryOp .USub (.Constant (.int 1) k p1) p2)) p3) pos) (tRevT X.K te) := by
  refine ⟨fun pins s σ H Q I h => ?_⟩
  refine Subscript_ (thn (he.run pins s σ H _ I h) fun v s1 ⟨x, H1, I1, r1, q1⟩ => ?_)
  obtain ⟨a, xs, ex, hx, q⟩ := q1
  subst ex
  cases r1
  have hst : PO X (some (.UnaryOp .USub (.Constant (.int 1) k p1) p2)) (tPart (tUn (rU fun i => .int (-i)) (tC (.int 1)))) := po_some (pe_un un_neg pe_int)
  refine wpAny_Slice (thn (po_none.run pins s1 σ H1 (fun o H2 => o = none ∧ H2 = H1) I1 ⟨rfl, rfl⟩) fun vl s2 ⟨l, H2, I2, pl, el, e2⟩ => ?_)
  subst el e2
  refine thn (po_none.run pins s2 σ H2 (fun o H3 => o = none ∧ H3 = H2) I2 ⟨rfl, rfl⟩) fun vu s3 ⟨u, H3, I3, pu, eu, e3⟩ => ?_
  subst eu e3
  refine thn (hst.run pins s3 σ H3 (fun o H4 => o = some (-1) ∧ H4 = H3) I3 ⟨1, rfl, -1, rfl, rfl, rfl⟩) fun vs s4 ⟨o, H4, I4, ps, eo, e4⟩ => ?_
  subst eo e4
  have I5 : Inv X pins σ H4 { s4 with heap := s4.heap.push { cls := .type "slice", data := .fields #[vl, vu, vs] } } := I4.kept (t' := s4.toks) fun b ob q => Heap.get?_push_of_some _ q
  obtain ⟨its, r, ht, hz⟩ := I5.tuple hx
  have hlen := r.length
  show wpAny (model X.prog X.w) X.A (subscriptTail e (.Slice none none (some (.UnaryOp .USub (.Constant (.int 1) k p1) p2)) p3) (.ref a) (.ref s4.heap.objs.size)) (EP X pins σ Q) X.xe { s4 with heap := s4.heap.push { cls := .type "slice", data := .fields #[vl, vu, vs] } }
  refine tail_any (ops := [.ref a, .ref s4.heap.objs.size]) ht.typeIs (PyProof.Rows.slot_tuple_getitem.lookup) ?_ (by with_unfolding_all rfl)
  refine item_rev ht (Heap.IsSliceOf.new _ vl vu vs) pl pu ps ?_ (by rw [List.size_toArray]; omega)
  refine ⟨.ref _, _, I5.laid (t' := s4.toks) (o := .tup xs.reverse) (fun b ob q => Heap.get?_push_of_some _ q) (Nat.le_refl _) ?_, rfl, q _ (I5.hok.fresh (Nat.le_refl _))⟩
  exact ⟨by rw [List.length_reverse]; exact hz, _, r.reverse, ⟨_, Heap.get?_push_size _ rfl, rfl, _, rfl⟩⟩
end GX
set_option Elab.async false
set_option linter.all false
set_option maxRecDepth 100000
set_option maxHeartbeats 4000000
/-! A tuple times an int of one or more. -/
namespace GX
open PySem PySem.Spec PyProof.Rows L2
open AutoSeq1 (wpAny_loadPart')
theorem tuple_mul1 (l : Addr) (items : Array Value) (n : Nat) (dd : Option Addr) (sl : Array (Option Value)) (u : Tok) :
    Meets (Builtin.«tuple.__mul__» ⟨[.ref l, .int 1 u], []⟩) (fun _ R s => s.heap.get? l = some { cls := .type "tuple", dict := dd, data := .seq items n, slots := sl } ∧ R (.ok (.ret (Value.ref l))) s) :=
  .of_wp fun prog w A R s h => by
    obtain ⟨hp, g, d, tk, os⟩ := s
    obtain ⟨hl, h⟩ := h
    have f1 := AutoSeq1.idx_int
    have c1 : (items.isEmpty || (1 : Int) == 1) = true := by cases items.isEmpty <;> rfl
    wp_walk using wpAny_loadPart' hl
    repeat (first
      | (refine wpAny_ite_true (decide_eq_true c1) ?_; wp_walk using wpAny_loadPart' hl))
    exact ⟨_, rfl, h⟩
/-- .. times k: itself by one, else a new one -/
def rRepA (K : PySem.W.Frag) : R2 := fun x y H Q => ∃ l k xs, x = .ref l ∧ y = .int k ∧ SqT K H l xs ∧ xs ≠ [] ∧ 1 ≤ k ∧ k ≤ 1000 ∧ xs.length ≤ 1000 ∧ (k = 1 → Q (.ref l) H) ∧ (2 ≤ k → ∀ p, H p = none → Q (.ref p) (upd H p (.tup (List.replicate k.toNat xs).flatten)))
theorem op_repA {X : Cx} : OpR X (binaryOp .Mult) (rRepA X.K) := by
  intro pins s σ H x y v u Q I rx ry h
  obtain ⟨l, k, xs, rfl, rfl, hT, hne, h1, h2, hz, q1, q2⟩ := h
  by_cases hk : k = 1
  · subst hk
    cases rx
    obtain ⟨t, rfl⟩ := ry
    obtain ⟨its, r, ⟨⟨cls, dd, data, sl⟩, ho, hc, n, hd⟩, hs⟩ := I.tuple hT
    simp only at hc hd
    subst hc hd
    refine wpAny_binaryOp_repeat_ref (T := "tuple") (U := "int") (by decide) ⟨_, ho, rfl⟩ (fun s' => typeIs_int s' 1 t) noFill_tuple_mul F.fills_int_mul F.slot_int_rmul repeat_tuple F.slot_int_index.lookup
      (call_meets F.slot_int_rmul (typeIs_int s 1 t) F.entry_int_rmul (F.args_int_rmul_2 _ _) (int_rmul_tuple 1 t l its.toArray n dd sl)
        ⟨ho, rfl, ⟨_, ho, rfl⟩, call_meets F.slot_tuple_mul ⟨_, ho, rfl⟩ F.entry_tuple_mul (F.args_tuple_mul_2 _ _) (tuple_mul1 l its.toArray n dd sl t) ⟨ho, ?_⟩⟩)
    exact ⟨.ref l, H, I, rfl, q1 rfl⟩
  · exact op_repT pins s σ H _ _ v u Q I rx ry ⟨l, k, xs, rfl, rfl, hT, hne, by omega, h2, hz, q2 (by omega)⟩
end GX
set_option Elab.async false
set_option linter.all false
set_option maxRecDepth 100000
set_option maxHeartbeats 4000000
/-! set(xs) of whole numbers, xs a list or a tuple; sorted of it. -/
namespace GX
open PySem PySem.Spec PyProof.Rows L2
/-- a set as it is made, empty -/
def fset (w : World) : Obj := { cls := .type "set", dict := none, data := .set #[] 0 (.fresh 0 0 (!w.params.followText "set-order")) }
section
variable {P : Program} {w : World} {A : Around} {E : Value → Shared → Prop} {s : Shared}
/-- what set(l) leaves: the set of ns at the next address -/
def Left (w : World) (s : Shared) (ns : List Int) (r : Value) (t : Shared) : Prop :=
  r = .none ∧ ∃ g tk c, t = { s with heap := g, toks := tk } ∧ SetR w g s.heap.objs.size (fun j => decide (j ∈ ns)) c ∧ c ≤ ns.length ∧ ∀ b o, s.heap.get? b = some o → g.get? b = some o
theorem init_list {l : Addr} {its : Array Value} {ns : List Int} (hh : A.handled = none) (hl : s.heap.IsList l its) (hi : IntsAre its.toList ns) (hb : ns.length + 1 < scanBound) :
    codeAny (model P w) A (.call (.builtin "set.__init__") ⟨[.ref s.heap.objs.size, .ref l], []⟩) (wants (Left w s ns) E) { s with heap := s.heap.push (fset w) } := by
  have eN : its.size = ns.length := by
    have z := IntsAre.length hi
    rwa [Array.length_toList] at z
  have atS : (s.heap.push (fset w)).get? s.heap.objs.size = some (fset w) := Heap.get?_push_size _ rfl
  refine codeAny_call_builtin F.called_set.init.plain F.entry_set_init (check_set_init_1 ⟨_, atS, rfl⟩ ?_)
  obtain ⟨⟨k1, k2, k3, k4⟩, hol, e1, m, e2⟩ := hl
  dsimp only at e1 e2
  subst e1
  subst e2
  have on : (s.heap.push (fset w)).get? l = some ⟨.type "list", k2, .seq its m, k4⟩ := Heap.get?_push_of_some _ hol
  have u1 := F.sub_list_set
  have u2 := F.sub_list_frozenset
  have u3 : (Value.type "list" == Value.type "dict") = false := by decide
  have isL : (s.heap.push (fset w)).IsList l its := ⟨_, on, rfl, m, rfl⟩
  unfold Builtin.«set.__init__» noKeywords Builtin.Frozenset.updateFrom
  generalize eP : pyIter = PI
  wp_walk
  subst eP
  refine wpAny_pyIter_list isL (wpAny_bind (wpAny_runValue ?_))
  have lt : l < s.heap.objs.size := Heap.lt_size hol
  have zz : (s.heap.push (fset w)).objs.size = s.heap.objs.size + 1 := Heap.size_push ..
  have ne1 : l ≠ (s.heap.push (fset w)).objs.size := by rw [zz]; exact Nat.ne_of_lt (Nat.lt_succ_of_lt lt)
  have ne2 : s.heap.objs.size ∉ [(s.heap.push (fset w)).objs.size, l] := by
    intro z
    rcases List.mem_cons.mp z with z | z
    · rw [zz] at z
      exact Nat.ne_of_lt (Nat.lt_succ_self _) z
    · exact Nat.ne_of_gt lt (List.mem_singleton.mp z)
  have vals : ∀ (i : Nat) (v : Value), its[i]? = some v → ∃ k t, ns[i]? = some k ∧ v = .int k t := fun i v hv => by
    have hlt : i < ns.length := by rw [← eN]; exact (Array.getElem?_eq_some_iff.mp hv).1
    obtain ⟨t, e⟩ := IntsAre.int_at hi i v (by rw [Array.getElem?_toList]; exact hv)
    refine ⟨ns[i], t, List.getElem?_eq_getElem hlt, e.trans ?_⟩
    show Value.int (ns.getD i 0) t = _
    rw [List.getD_eq_getElem?_getD, List.getElem?_eq_getElem hlt]
    rfl
  have h3 : A.in1.in1.handled = none := by simp [hh]
  refine set_update_ints (Walks.list h3 _ l ne1 its).toS s.heap.objs.size ne2 ns eN hb vals (its.size - 0) 0 _ (by omega) (Nat.zero_le _) ?st ?s0 ?rest
  case st => exact ⟨⟨_, Heap.get?_push_size _ rfl, rfl, rfl⟩, isL.push _⟩
  case s0 => exact ⟨0, Nat.le_refl 0, setR_new_at (Heap.get?_push_of_some _ atS)⟩
  intro t c mv hc hS
  obtain ⟨h', g2, d2, tk, o2⟩ := t
  obtain rfl : g2 = s.gens := mv.gens
  obtain rfl : d2 = s.drawn := mv.drawn
  obtain rfl : o2 = s.os := mv.os
  show wpAny _ _ _ _ _ _
  refine wpAny_pure ?_
  show wpAny _ _ (ret Value.none) _ _ _
  refine wpAny_pure ⟨rfl, h', tk, c, rfl, hS, by omega, fun b o e => ?_⟩
  have lb : b < s.heap.objs.size := Heap.lt_size e
  refine mv.heap b o (fun z => ?_) (Heap.get?_push_of_some _ (Heap.get?_push_of_some _ e))
  rcases List.mem_cons.mp z with z | z
  · exact Nat.ne_of_lt lb z
  · have z' := List.mem_singleton.mp z
    rw [zz] at z'
    exact Nat.ne_of_lt (Nat.lt_succ_of_lt lb) z'
theorem call_set_of {l : Addr} {ns : List Int} {Q : Value → Shared → Prop}
    (hin : codeAny (model P w) A.in1 (.call (.builtin "set.__init__") ⟨[.ref s.heap.objs.size, .ref l], []⟩) (wants (Left w s ns) E) { s with heap := s.heap.push (fset w) })
    (h : ∀ g tk c, SetR w g s.heap.objs.size (fun j => decide (j ∈ ns)) c → c ≤ ns.length → (∀ b o, s.heap.get? b = some o → g.get? b = some o) → Q (.ref s.heap.objs.size) { s with heap := g, toks := tk }) :
    wpAny (model P w) A (call (.type "set") [.ref l]) Q E s := by
  obtain ⟨c, tl, q1⟩ := F.called_set.mro
  have q2 := F.called_set.made
  have q3 := F.called_set.sub
  refine wpAny_call (codeAny_of_tree ?_)
  show wpAny _ _ (callAny (.type "set") ⟨[.ref l], []⟩) _ _ s
  refine wpAny_pure ⟨Code.quiet_builtin _ (by decide +kernel), codeAny_builtin F.entry_type_call ?_⟩
  rw [Around.under_plain (weight_type_call_type "set" [.ref l] []) rfl]
  have q4 := F.called_set.notType
  have q5 := F.called_set.canCreate
  have q6 := F.typeCall_set_1 (.ref l)
  repeat (any_goals (first | assumption | wp_step))
  refine codeAny_mono (code_set_led1 (.ref l) (E := E) (Q₁ := fun v t => v = .ref s.heap.objs.size ∧ t = { s with heap := s.heap.push (fset w) }) ⟨rfl, rfl⟩) fun r t hr => ?_
  cases r with
  | error e => exact hr
  | ok f =>
    cases f with
    | ret v =>
      obtain ⟨rfl, rfl⟩ := hr
      have q7 : Shared.TypeIs { s with heap := s.heap.push (fset w) } (.ref s.heap.objs.size) "set" := ⟨fset w, Heap.get?_push_size _ rfl, rfl⟩
      have q8 := F.called_set.init.lookup
      have q9 := F.called_set.init.bind (.ref s.heap.objs.size)
      repeat (any_goals (first | assumption | wp_step))
      refine codeAny_mono hin fun r2 t2 hr2 => ?_
      cases r2 with
      | error e => exact hr2
      | ok f2 =>
        cases f2 with
        | ret v2 =>
          obtain ⟨rfl, g, tk, c2, rfl, k1, k2, k3⟩ := hr2
          repeat (any_goals (first | assumption | wp_step))
          exact h g tk c2 k1 k2 k3
        | _ => exact hr2.elim
    | _ => exact hr.elim
theorem set_of_list {l : Addr} {its : Array Value} {ns : List Int} {Q : Value → Shared → Prop} (hh : A.handled = none) (hl : s.heap.IsList l its) (hi : IntsAre its.toList ns) (hb : ns.length + 1 < scanBound)
    (h : ∀ g tk c, SetR w g s.heap.objs.size (fun j => decide (j ∈ ns)) c → c ≤ ns.length → (∀ b o, s.heap.get? b = some o → g.get? b = some o) → Q (.ref s.heap.objs.size) { s with heap := g, toks := tk }) :
    wpAny (model P w) A (call (.type "set") [.ref l]) Q E s := call_set_of (init_list (by simp [hh]) hl hi hb) h
end
/-- set(xs) -/
def rSetN (K : PySem.W.Frag) (w : World) : List V → Hp → VK → Prop := fun xs H Q => ∃ (p : Addr) (ns : List Nat), xs = [.ref p] ∧ (SqL K H p (ns.map nV) ∨ SqT K H p (ns.map nV)) ∧ ns.length ≤ 60 ∧
  ∀ (q : Addr) (c : Nat), H q = none → c ≤ ns.length → Q (.ref q) (upd H q (SetO w q (fun j => decide (j ∈ ns.map fun n : Nat => (n : Int))) c))
theorem vals_n : ∀ {ns : List Nat} {us : List Value}, Vals (ns.map nV) us → IntsAre us (ns.map fun n : Nat => (n : Int))
  | [], _, .nil => .nil
  | n :: ns, _, .cons r t => by
    obtain ⟨k, rfl⟩ := r
    exact .cons n k (vals_n t)
theorem cr_setN {X : Cx} (hc : X.calm = true) : CallR X (.type "set") (rSetN X.K X.w) := by
  intro pins s σ H xs us Q I r h
  obtain ⟨p, ns, rfl, hq, hn, q⟩ := h
  rw [Vals.ref1 r]
  have hln : (ns.map fun n : Nat => (n : Int)).length = ns.length := List.length_map ..
  have hb : (ns.map fun n : Nat => (n : Int)).length + 1 < scanBound := by rw [hln]; unfold scanBound; omega
  have fin : ∀ (g : Heap) (tk c : Nat), SetR X.w g s.heap.objs.size (fun j => decide (j ∈ ns.map fun n : Nat => (n : Int))) c → c ≤ (ns.map fun n : Nat => (n : Int)).length → (∀ b o, s.heap.get? b = some o → g.get? b = some o) →
      EP X pins σ Q (.ref s.heap.objs.size) { s with heap := g, toks := tk } := fun g tk c hS hcl hk =>
    ⟨.ref s.heap.objs.size, _, I.laid (t' := tk) (o := SetO X.w s.heap.objs.size (fun j => decide (j ∈ ns.map fun n : Nat => (n : Int))) c) hk (Nat.le_refl _) (setO_new hS), rfl, q _ _ (I.hok.fresh (Nat.le_refl _)) (by rw [← hln]; exact hcl)⟩
  rcases hq with hq | hq
  · obtain ⟨its, rv, p1, _⟩ := I.list hq
    exact set_of_list (I.ok.hd hc) p1.isList (by simpa using vals_n rv) hb fin
  · obtain ⟨its, rv, p1, _⟩ := I.tuple hq
    exact call_set_tupI _ (I.ok.hd hc) p1 (by simpa using vals_n rv) hb fin
/-- sorted(set(xs)): the unlike ones, rising -/
theorem sorted_set_nat {ns : List Nat} {out : List Int} (pw : out.Pairwise (· < ·)) (hm : ∀ k : Int, k ∈ out ↔ decide (k ∈ ns.map fun n : Nat => (n : Int)) = true) : ∃ ys : List Nat, out = (ys.map fun n : Nat => (n : Int)) ∧ ys.Pairwise (· < ·) ∧ ∀ z, z ∈ ys ↔ z ∈ ns := by
  have hm' : ∀ k : Int, k ∈ out ↔ k ∈ ns.map fun n : Nat => (n : Int) := fun k => (hm k).trans decide_eq_true_iff
  have hnn : ∀ i ∈ out, 0 ≤ i := fun i hi => by
    obtain ⟨x, _, rfl⟩ := List.mem_map.mp ((hm' i).mp hi)
    omega
  refine ⟨out.map Int.toNat, ?_, ?_, fun z => ⟨fun h => ?_, fun h => ?_⟩⟩
  · rw [List.map_map]
    conv => lhs; rw [← List.map_id out]
    refine List.map_congr_left fun i hi => ?_
    show i = ((i.toNat : Nat) : Int)
    rw [Int.toNat_of_nonneg (hnn i hi)]
  · rw [List.pairwise_map]
    refine List.Pairwise.imp_of_mem (fun {a b} ha hb h => ?_) pw
    have := hnn a ha
    have := hnn b hb
    omega
  · obtain ⟨i, hi, rfl⟩ := List.mem_map.mp h
    obtain ⟨x, hx, rfl⟩ := List.mem_map.mp ((hm' i).mp hi)
    rw [Int.toNat_natCast]
    exact hx
  · exact List.mem_map.mpr ⟨(z : Int), (hm' _).mpr (List.mem_map.mpr ⟨z, h, rfl⟩), Int.toNat_natCast z⟩
end GX
set_option Elab.async false
set_option linter.all false
set_option maxRecDepth 100000
set_option maxHeartbeats 4000000
/-! sorted(l), l a list of tuples of ints, of any lengths from 1 on. -/
namespace GX
open PySem PySem.Spec PyProof.Rows L2 Srt
open SrtO (Cmp SortableO lt2 Srtd Stb)
section
variable {prog : Program} {w : World} {A : Around} {E : Value → Shared → Prop} {s : Shared}
theorem lex_any {b R fin : Bool} : ∀ {xs ys : List Value} {ns ms : List Int} (i : Nat), IntsAre xs ns → IntsAre ys ms → fin = decide (ns.length < ms.length) → R = HT.lexLt ns ms → PySem.W.KatLex prog w A b fin (fun r s' => s' = s ∧ r = R) (xs.zip ys) i s
  | _, _, _, _, i, .nil, hy, hf, hR => by
    rw [List.zip_nil_left]
    refine PySem.W.kat_nil ⟨rfl, ?_⟩
    rw [hf, hR]
    cases hy with
    | nil => rfl
    | cons m u r => rfl
  | _, _, _, _, i, .cons n t r, hy, hf, hR => by
    cases hy with
    | nil =>
      rw [List.zip_nil_right]
      refine PySem.W.kat_nil ⟨rfl, ?_⟩
      rw [hf, hR]
      rfl
    | cons m u r' =>
      rw [List.zip_cons_cons]
      refine PySem.W.kat_cons (SeqAt.EqAt.int_int n t m u prog w _ _ ?_)
      rw [HT.lexLt_cons] at hR
      refine PySem.W.kat_go (fun e1 => ?_) (fun e1 => ?_)
      · have ex : n = m := by simpa using e1
        rw [if_pos ex] at hR
        refine PySem.W.kat_yes (lex_any (i + 1) r r' ?_ hR)
        rw [hf]
        exact decide_eq_decide.mpr ⟨Nat.lt_of_succ_lt_succ, Nat.succ_lt_succ⟩
      · have ex : ¬ n = m := by simpa using e1
        rw [if_neg ex] at hR
        exact PySem.W.kat_no (TS.oneLt_ints _ ⟨rfl, hR.symm⟩)
theorem tups_cmp {vs : List Value} {k : Value → List Int} (hp : ∀ v ∈ vs, TS.TupInts s.heap v (k v)) : Cmp prog w A s (tuples' true) (fun p => p.1 ∈ vs) (lt2 fun v u => HT.lexLt (k v) (k u)) := by
  intro p q hm hm'
  obtain ⟨a, xs, e, ⟨o, ho, hc, n, hd⟩, hi⟩ := hp _ hm
  obtain ⟨a', ys, e', ⟨o', ho', hc', n', hd'⟩, hi'⟩ := hp _ hm'
  show wpAny (model prog w) A (keyLt' (tuples' true) p.1 q.1) (fun r s' => s' = s ∧ r = HT.lexLt (k p.1) (k q.1)) (fun _ _ => False) s
  generalize k p.1 = ns at hi ⊢
  generalize k q.1 = ms at hi' ⊢
  rw [e, e']
  refine PySem.W.kat_lt ho hd ho' hd' (lex_any 0 hi hi' ?_ rfl)
  have z1 : xs.size = ns.length := by rw [← hi.length]; simp
  have z2 : ys.size = ms.length := by rw [← hi'.length]; simp
  rw [z1, z2]
theorem tups_firsts {h : Heap} {k : Value → List Int} : ∀ {vs : List Value}, (∀ v ∈ vs, TS.TupInts h v (k v) ∧ k v ≠ []) → ∃ fs, PySem.W.KatTups h vs fs ∧ fs.length = vs.length ∧ ∀ f ∈ fs, ∃ x t, f = Value.int x t
  | [], _ => ⟨[], PySem.W.KatTups.nil, rfl, fun f hf => absurd hf (by simp)⟩
  | v :: vs, hp => by
    obtain ⟨fs, h1, h2, h3⟩ := tups_firsts fun u hu => hp u (List.mem_cons_of_mem _ hu)
    obtain ⟨⟨a, xs, e, ⟨o, ho, hc, n, hd⟩, hi⟩, hne⟩ := hp v List.mem_cons_self
    cases hk : k v with
    | nil => exact absurd hk hne
    | cons x r =>
      rw [hk] at hi
      generalize hxs : xs.toList = l at hi
      cases hi with
      | cons n0 t0 r0 =>
        have h0 : xs[0]? = some (Value.int x t0) := by
          have : xs.toList[0]? = some (Value.int x t0) := by rw [hxs]; rfl
          simpa using this
        subst e
        refine ⟨Value.int x t0 :: fs, PySem.W.KatTups.cons ho hc hd h0 h1, by rw [List.length_cons, List.length_cons, h2], fun f hf => ?_⟩
        rcases List.mem_cons.mp hf with rfl | hf
        · exact ⟨_, _, rfl⟩
        · exact h3 f hf
theorem tups_sortable {a : Addr} {vs : List Value} {k : Value → List Int} (h0 : 0 < vs.length) (hp : ∀ v ∈ vs, TS.TupInts s.heap v (k v) ∧ k v ≠ []) (ha : ∀ o, s.heap.get? a = some o → o.cls ≠ .type "tuple") : SortableO prog w A s a vs fun v u => HT.lexLt (k v) (k u) := by
  intro h' keep
  have hp' : ∀ v ∈ vs, TS.TupInts h' v (k v) ∧ k v ≠ [] := fun v hm => ⟨(hp v hm).1.keeps fun b o e c => keep b o (fun z => by subst z; exact ha o e c) e, (hp v hm).2⟩
  obtain ⟨fs, h1, h2, h3⟩ := tups_firsts hp'
  refine ⟨tuples' true, fun Q E hq => ?_, tups_cmp fun v hv => (hp' v hv).1⟩
  refine PySem.W.kat_kind (T := .type "int") h1 (by omega) (fun f hm => ?_) (by rfl) ?_
  · obtain ⟨x, t, rfl⟩ := h3 f hm
    exact PySem.W.Looks.now
  · have e : (Value.type "int" != Value.type "tuple") = true := by first | decide +kernel | rfl | decide
    rw [e]
    exact hq
end
def rSortTup (K : PySem.W.Frag) : List V → Hp → VK → Prop := fun vs H Q => ∃ (a : Addr) (xs : List V) (k : V → List Int), vs = [V.ref a] ∧ SqL K H a xs ∧ (∀ x ∈ xs, (∃ t, x = V.ref t ∧ H t = some (.tup ((k x).map V.int))) ∧ k x ≠ []) ∧
  ∀ ys p, Srtd (fun x y => HT.lexLt (k x) (k y)) ys → ys.Perm xs → H p = none → Q (.ref p) (upd H p (.lst ys))
theorem cr_sortTup {X : Cx} : CallR X (.builtin "sorted") (rSortTup X.K) := by
  intro pins s σ H vs us Q I r h
  obtain ⟨a, xs, k, rfl, hs, hx, q⟩ := h
  obtain ⟨its, rv, hl, hz⟩ := I.list hs
  rw [Vals.ref1 r]
  obtain ⟨e1, e2⟩ := refs_back rv fun x m => by
    obtain ⟨⟨t, e, _⟩, _⟩ := hx x m
    exact ⟨t, e⟩
  have hp : ∀ v ∈ its, TS.TupInts s.heap v (k (backV v)) ∧ k (backV v) ≠ [] := fun v hv => by
    obtain ⟨t, rfl⟩ := e2 v hv
    have hm : V.ref t ∈ xs := by rw [e1]; exact List.mem_map.mpr ⟨_, hv, rfl⟩
    obtain ⟨⟨t', e, ht⟩, hne⟩ := hx _ hm
    cases e
    exact ⟨tupI_raw I (SqT.of ht), hne⟩
  refine SrtO.sorted_ord (ltv := fun v u => HT.lexLt (k (backV v)) (k (backV u))) (NtL.swo_lexL fun v => k (backV v)) hl.isList (by rw [← rv.length]; exact hz) (fun h2 h₁ a' ha kk => ?_) fun out hs hb => ?_
  · refine tups_sortable (s := { s with heap := h₁ }) (by omega) (fun v hm => ⟨(hp v hm).1.keeps fun b o e _ => (kk b o e).2, (hp v hm).2⟩) fun o e => ?_
    have e' : some o = some (seqObj "list" its.toArray 0) := e.symm.trans ha
    cases e'
    intro c
    exact absurd (Value.type.inj c) (by decide)
  · obtain ⟨ep, he'⟩ := PyProof.Rows.sortedAll_at s.heap its out.toArray
    have h3 : ∀ u ∈ out, ∃ a, u = Value.ref a := fun u hu => e2 u (hb.perm.mem_iff.mp hu)
    have hpm : (out.map backV).Perm xs := by
      rw [e1]
      exact hb.perm.map backV
    have hlen : (out.map backV).length ≤ sizeLine := by
      rw [hpm.length_eq]
      exact hz
    exact ⟨.ref _, upd H (s.heap.objs.size + 1) (.lst (out.map backV)), I.laid (t' := s.toks) (fun _ _ => PyProof.Rows.sortedAll_old) (Nat.le_succ _) ⟨hlen, out, ep, vals_back h3, he'⟩, rfl, q _ _ (SrtO.srtd_map hs) hpm (I.hok.fresh (Nat.le_succ _))⟩
end GX
set_option Elab.async false
set_option linter.all false
set_option maxRecDepth 100000
set_option maxHeartbeats 4000000
/-! sorted(l), l a list of pairs (n, tuple of ints). -/
namespace GX
open PySem PySem.Spec PyProof.Rows L2 Srt
open SrtO (Cmp SortableO lt2 Srtd Stb)
/-- v is a pair: an int, a tuple of ints -/
def PairP (h : Heap) (v : Value) (ns : List Int) : Prop := ∃ (a b : Addr) (n : Int) (t : Tok) (ks : List Int), v = .ref a ∧ ns = n :: ks ∧ IsTup h a #[.int n t, .ref b] ∧ TS.TupInts h (.ref b) ks
theorem PairP.keeps {h h' : Heap} {v : Value} {ns : List Int} (x : PairP h v ns) (k : ∀ b o, h.get? b = some o → o.cls = .type "tuple" → h'.get? b = some o) : PairP h' v ns := by
  obtain ⟨a, b, n, t, ks, e, en, ⟨o, ho, hc, hd⟩, ti⟩ := x
  exact ⟨a, b, n, t, ks, e, en, ⟨o, k _ _ ho hc, hc, hd⟩, ti.keeps k⟩
theorem items_mix {prog : Program} {w : World} : ∀ {xs : List Value} {ns : List Int}, IntsAre xs ns → ItemsAre (L2.mixKind prog w) (ns.map fun n => (Sum.inl n : L2.Key)) xs
  | _, _, .nil => .nil
  | _, _, .cons n t r => .cons (L2.mixKind_int prog w n t) (items_mix r)
section
variable {prog : Program} {w : World} {A : Around} {E : Value → Shared → Prop} {s : Shared}
theorem inl_inj : ∀ {ns ms : List Int}, ns.map (fun n => (Sum.inl n : L2.Key)) = ms.map (fun n => (Sum.inl n : L2.Key)) → ns = ms
  | [], [], _ => rfl
  | [], _ :: _, h => by cases h
  | _ :: _, [], h => by cases h
  | n :: ns, m :: ms, h => by
    obtain ⟨h1, h2⟩ := List.cons.inj h
    rw [Sum.inl.inj h1, inl_inj h2]
theorem lex_irr : ∀ ns : List Int, HT.lexLt ns ns = false
  | [] => HT.lexLt_nil_nil
  | n :: ns => by rw [HT.lexLt_cons, if_pos rfl]; exact lex_irr ns
theorem pairs_cmp {vs : List Value} {k : Value → List Int} (hu : A.units < cLine) (hp : ∀ v ∈ vs, PairP s.heap v (k v)) : Cmp prog w A s (tuples' true) (fun p => p.1 ∈ vs) (lt2 fun v u => HT.lexLt (k v) (k u)) := by
  intro p q hm hm'
  obtain ⟨a, b, n, t, ks, e, en, ⟨o, ho, hc, z, hd⟩, ti⟩ := hp _ hm
  obtain ⟨a', b', n', t', ks', e', en', ⟨o', ho', hc', z', hd'⟩, ti'⟩ := hp _ hm'
  show wpAny (model prog w) A (keyLt' (tuples' true) p.1 q.1) (fun r s' => s' = s ∧ r = HT.lexLt (k p.1) (k q.1)) (fun _ _ => False) s
  rw [en, en', e, e']
  refine PySem.W.kat_lt ho hd ho' hd' ?_
  show PySem.W.KatLex prog w A true (decide (2 < 2)) _ [(.int n t, .int n' t'), (.ref b, .ref b')] 0 s
  refine PySem.W.kat_cons (SeqAt.EqAt.int_int n t n' t' prog w _ _ ?_)
  rw [HT.lexLt_cons]
  refine PySem.W.kat_go (fun e1 => ?_) (fun e1 => ?_)
  · have ex : n = n' := by simpa using e1
    rw [if_pos ex]
    obtain ⟨_, xs, eb, tb, ib⟩ := ti
    obtain ⟨_, ys, eb', tb', ib'⟩ := ti'
    cases eb
    cases eb'
    have k1 : IsTupleKey (L2.mixKind prog w) s.heap (ks.map fun n => (Sum.inl n : L2.Key)) b := by
      obtain ⟨ok, hok, ck, nk, dk⟩ := tb
      exact ⟨ok, _, nk, hok, ck, dk, items_mix ib⟩
    have k2 : IsTupleKey (L2.mixKind prog w) s.heap (ks'.map fun n => (Sum.inl n : L2.Key)) b' := by
      obtain ⟨ok, hok, ck, nk, dk⟩ := tb'
      exact ⟨ok, _, nk, hok, ck, dk, items_mix ib'⟩
    refine PySem.W.kat_yes (PySem.W.kat_cons (wpAny_eqBool_tuple hu k1 k2 ?_))
    refine PySem.W.kat_go (fun e0 => ?_) (fun e0 => ?_)
    · have z0 := inl_inj (of_decide_eq_true e0)
      rw [z0, lex_irr]
      exact PySem.W.kat_yes (PySem.W.kat_nil ⟨rfl, rfl⟩)
    · refine PySem.W.kat_no ?_
      show wpAny _ _ (oneLt' false _ _) _ _ _
      exact PySem.W.kat_one _ _ (HT.lt_tupInts tb tb' ib ib' hu ⟨rfl, rfl⟩)
  · have ex : ¬ n = n' := by simpa using e1
    rw [if_neg ex]
    exact PySem.W.kat_no (TS.oneLt_ints _ ⟨rfl, rfl⟩)
theorem pairs_firsts {h : Heap} {k : Value → List Int} : ∀ {vs : List Value}, (∀ v ∈ vs, PairP h v (k v)) → ∃ fs, PySem.W.KatTups h vs fs ∧ fs.length = vs.length ∧ ∀ f ∈ fs, ∃ x t, f = Value.int x t
  | [], _ => ⟨[], PySem.W.KatTups.nil, rfl, fun f hf => absurd hf (by simp)⟩
  | v :: vs, hp => by
    obtain ⟨fs, h1, h2, h3⟩ := pairs_firsts fun u hu => hp u (List.mem_cons_of_mem _ hu)
    obtain ⟨a, b, n, t, ks, e, en, ⟨o, ho, hc, z, hd⟩, ti⟩ := hp v List.mem_cons_self
    subst e
    refine ⟨Value.int n t :: fs, PySem.W.KatTups.cons ho hc hd rfl h1, by rw [List.length_cons, List.length_cons, h2], fun f hf => ?_⟩
    rcases List.mem_cons.mp hf with rfl | hf
    · exact ⟨_, _, rfl⟩
    · exact h3 f hf
theorem pairs_sortable {a : Addr} {vs : List Value} {k : Value → List Int} (hu : A.units < cLine) (h0 : 0 < vs.length) (hp : ∀ v ∈ vs, PairP s.heap v (k v)) (ha : ∀ o, s.heap.get? a = some o → o.cls ≠ .type "tuple") : SortableO prog w A s a vs fun v u => HT.lexLt (k v) (k u) := by
  intro h' keep
  have hp' : ∀ v ∈ vs, PairP h' v (k v) := fun v hm => (hp v hm).keeps fun b o e c => keep b o (fun z => by subst z; exact ha o e c) e
  obtain ⟨fs, h1, h2, h3⟩ := pairs_firsts hp'
  refine ⟨tuples' true, fun Q E hq => ?_, pairs_cmp hu hp'⟩
  refine PySem.W.kat_kind (T := .type "int") h1 (by omega) (fun f hm => ?_) (by rfl) ?_
  · obtain ⟨x, t, rfl⟩ := h3 f hm
    exact PySem.W.Looks.now
  · have e : (Value.type "int" != Value.type "tuple") = true := by first | decide +kernel | rfl | decide
    rw [e]
    exact hq
end
def rSortPair (K : PySem.W.Frag) : List V → Hp → VK → Prop := fun vs H Q => ∃ (a : Addr) (xs : List V) (k : V → List Int), vs = [V.ref a] ∧ SqL K H a xs ∧ (∀ x ∈ xs, ∃ (t b : Addr) (n : Int) (ks : List Int), x = V.ref t ∧ k x = n :: ks ∧ H t = some (.tup [.int n, .ref b]) ∧ H b = some (.tup (ks.map V.int))) ∧
  ∀ ys p, Srtd (fun x y => HT.lexLt (k x) (k y)) ys → ys.Perm xs → H p = none → Q (.ref p) (upd H p (.lst ys))
theorem cr_sortPair {X : Cx} (hu : X.A.units + 2 < cLine) : CallR X (.builtin "sorted") (rSortPair X.K) := by
  intro pins s σ H vs us Q I r h
  obtain ⟨a, xs, k, rfl, hs, hx, q⟩ := h
  obtain ⟨its, rv, hl, hz⟩ := I.list hs
  rw [Vals.ref1 r]
  obtain ⟨e1, e2⟩ := refs_back rv fun x m => by
    obtain ⟨t, _, _, _, e, _⟩ := hx x m
    exact ⟨t, e⟩
  have hp : ∀ v ∈ its, PairP s.heap v (k (backV v)) := fun v hv => by
    obtain ⟨t, rfl⟩ := e2 v hv
    have hm : V.ref t ∈ xs := by rw [e1]; exact List.mem_map.mpr ⟨_, hv, rfl⟩
    obtain ⟨t', b, n, ks, e, ek, ht, hb⟩ := hx _ hm
    cases e
    obtain ⟨its2, rv2, hT, _⟩ := I.tuple (SqT.of ht)
    cases rv2 with
    | cons r1 rr =>
      cases rr with
      | cons r2 rr2 =>
        cases rr2
        obtain ⟨tk, rfl⟩ := r1
        cases r2
        exact ⟨t, b, n, tk, ks, rfl, ek, hT, tupI_raw I (SqT.of hb)⟩
  have hu2 : X.A.in1.in1.units < cLine := by show X.A.units + 1 + 1 < cLine; omega
  refine SrtO.sorted_ord (ltv := fun v u => HT.lexLt (k (backV v)) (k (backV u))) (NtL.swo_lexL fun v => k (backV v)) hl.isList (by rw [← rv.length]; exact hz) (fun h2 h₁ a' ha kk => ?_) fun out hs hb => ?_
  · refine pairs_sortable (s := { s with heap := h₁ }) hu2 (by omega) (fun v hm => (hp v hm).keeps fun b o e _ => (kk b o e).2) fun o e => ?_
    have e' : some o = some (seqObj "list" its.toArray 0) := e.symm.trans ha
    cases e'
    intro c
    exact absurd (Value.type.inj c) (by decide)
  · obtain ⟨ep, he'⟩ := PyProof.Rows.sortedAll_at s.heap its out.toArray
    have h3 : ∀ u ∈ out, ∃ a, u = Value.ref a := fun u hu => e2 u (hb.perm.mem_iff.mp hu)
    have hpm : (out.map backV).Perm xs := by
      rw [e1]
      exact hb.perm.map backV
    have hlen : (out.map backV).length ≤ sizeLine := by
      rw [hpm.length_eq]
      exact hz
    exact ⟨.ref _, upd H (s.heap.objs.size + 1) (.lst (out.map backV)), I.laid (t' := s.toks) (fun _ _ => PyProof.Rows.sortedAll_old) (Nat.le_succ _) ⟨hlen, out, ep, vals_back h3, he'⟩, rfl, q _ _ (SrtO.srtd_map hs) hpm (I.hok.fresh (Nat.le_succ _))⟩
end GX
set_option Elab.async false
set_option linter.all false
set_option maxRecDepth 100000
set_option maxHeartbeats 4000000
/-! What leads from a wire down, past no stop. -/
namespace GX
open PySem PySem.Spec PyProof.Rows L2
inductive Rc (n : Net) (st : List Nat) (w j : Nat) : Nat → Prop
  | here : w ∉ st → Rc n st w j w
  | step {g p : Nat} {k : Nat × Nat × Nat} : Rc n st w j g → n.many ≤ g → j ≤ g → n.gates[g - n.many]? = some k → (p = k.2.1 ∨ p = k.2.2) → p ∉ st → Rc n st w j p
theorem place_lt {n : Net} (ok : n.Ok) {g p : Nat} {k : Nat × Nat × Nat} (hg : n.many ≤ g) (hk : n.gates[g - n.many]? = some k) (hp : p = k.2.1 ∨ p = k.2.2) : p < g := by
  obtain ⟨_, h1, h2⟩ := ok.gs _ _ hk
  rcases hp with rfl | rfl <;> omega
theorem Rc.le {n : Net} (ok : n.Ok) {st : List Nat} {w j y : Nat} (h : Rc n st w j y) : y ≤ w := by
  induction h with
  | here _ => exact Nat.le_refl _
  | step _ hg _ hk hp _ ih => exact Nat.le_trans (Nat.le_of_lt (place_lt ok hg hk hp)) ih
theorem Rc.free {n : Net} {st : List Nat} {w j y : Nat} (h : Rc n st w j y) : y ∉ st := by cases h <;> assumption
theorem Rc.mono {n : Net} {st : List Nat} {w j i y : Nat} (h : Rc n st w j y) (l : i ≤ j) : Rc n st w i y := by
  induction h with
  | here e => exact .here e
  | step _ hg hj hk hp hs ih => exact .step ih hg (Nat.le_trans l hj) hk hp hs
theorem Rc.low {n : Net} {st : List Nat} {w j y : Nat} (h : Rc n st w j y) : Rc n st w n.many y := by
  induction h with
  | here e => exact .here e
  | step _ hg hj hk hp hs ih => exact .step ih hg hg hk hp hs
theorem Rc.low_iff {n : Net} {st : List Nat} {w j y : Nat} (l : j ≤ n.many) : Rc n st w j y ↔ Rc n st w n.many y := ⟨Rc.low, fun h => h.mono l⟩
theorem Rc.down {n : Net} (ok : n.Ok) {st : List Nat} {w g y : Nat} {k : Nat × Nat × Nat} (hg : n.many ≤ g) (hk : n.gates[g - n.many]? = some k) :
    Rc n st w g y ↔ Rc n st w (g + 1) y ∨ (Rc n st w (g + 1) g ∧ (y = k.2.1 ∨ y = k.2.2) ∧ y ∉ st) := by
  refine ⟨fun h => ?_, fun h => ?_⟩
  · induction h with
    | here e => exact .inl (.here e)
    | @step g' p k' h1 hg' hj hk' hp hs ih =>
      by_cases e : g' = g
      · subst e
        have ek : k' = k := by
          rw [hk] at hk'
          exact (Option.some.inj hk').symm
        subst ek
        rcases ih with ih | ⟨_, ih, _⟩
        · exact .inr ⟨ih, hp, hs⟩
        · exact absurd (place_lt ok hg hk ih) (Nat.lt_irrefl _)
      · rcases ih with ih | ⟨_, ih, _⟩
        · exact .inl (.step ih hg' (by omega) hk' hp hs)
        · have := place_lt ok hg hk ih
          omega
  · rcases h with h | ⟨h, hp, hs⟩
    · exact h.mono (Nat.le_succ g)
    · exact .step (h.mono (Nat.le_succ g)) hg (Nat.le_refl _) hk hp hs
/-- an input, or below the last gate: nothing goes on above -/
theorem Rc.high {n : Net} (ok : n.Ok) {st : List Nat} {w y : Nat} : Rc n st w (w + 1) y ↔ y = w ∧ w ∉ st := by
  refine ⟨fun h => ?_, fun h => by rw [h.1]; exact .here h.2⟩
  cases h with
  | here e => exact ⟨rfl, e⟩
  | step h1 hg hj hk hp hs =>
    have := h1.le ok
    omega
theorem inV_n (x : Nat) (st : List Nat) : inV (nV x) (st.map nV) = decide (x ∈ st) := by
  unfold inV
  rw [List.any_map]
  induction st with
  | nil => rfl
  | cons y r ih =>
    rw [List.any_cons, ih]
    have e : ((fun y => eqV y (nV x)) ∘ nV) y = decide (x = y) := by
      show eqV (nV y) (nV x) = decide (x = y)
      unfold eqV
      by_cases h : x = y
      · subst h
        rw [decide_eq_true (rfl : x = x)]
        exact decide_eq_true rfl
      · rw [decide_eq_false h]
        refine decide_eq_false fun z => h ?_
        have z' : ((y : Nat) : Int) = (x : Int) := z
        omega
    rw [e, ← Bool.decide_or]
    congr 1
    exact propext List.mem_cons.symm
theorem flat_ns (st : List Nat) : (st.map nV).all flatV = true := by
  rw [List.all_map, List.all_eq_true]
  intro x _
  rfl
theorem ix_n {len x : Nat} (h : x < len) : ixN len (x : Int) = some x := by
  have e := atI_nat (xs := List.range len) (j := x) (v := x) (by rw [List.getElem?_range h])
  unfold atI at e
  rw [List.length_range] at e
  cases q : ixN len (x : Int) with
  | none => rw [q] at e; cases e
  | some j =>
    rw [q] at e
    have e' : (List.range len)[j]? = some x := e
    obtain ⟨h1, h2⟩ := List.getElem?_eq_some_iff.mp e'
    rw [List.getElem_range] at h2
    rw [h2]
/-- rising, unlike: told by its members -/
theorem rise_eq : ∀ {xs ys : List Nat}, xs.Pairwise (· < ·) → ys.Pairwise (· < ·) → (∀ z, z ∈ xs ↔ z ∈ ys) → xs = ys
  | [], [], _, _, _ => rfl
  | [], y :: ys, _, _, h => by cases (h y).mpr List.mem_cons_self
  | x :: xs, [], _, _, h => by cases (h x).mp List.mem_cons_self
  | x :: xs, y :: ys, hx, hy, h => by
    have hx1 := List.pairwise_cons.mp hx
    have hy1 := List.pairwise_cons.mp hy
    have e : x = y := by
      rcases List.mem_cons.mp ((h x).mp List.mem_cons_self) with e | e
      · exact e
      · rcases List.mem_cons.mp ((h y).mpr List.mem_cons_self) with e' | e'
        · exact e'.symm
        · have := hy1.1 _ e
          have := hx1.1 _ e'
          omega
    subst e
    refine congrArg _ (rise_eq hx1.2 hy1.2 fun z => ⟨fun hz => ?_, fun hz => ?_⟩)
    · rcases List.mem_cons.mp ((h z).mp (List.mem_cons_of_mem _ hz)) with e | e
      · have := hx1.1 _ hz
        omega
      · exact e
    · rcases List.mem_cons.mp ((h z).mpr (List.mem_cons_of_mem _ hz)) with e | e
      · have := hy1.1 _ hz
        omega
      · exact e
/-- the wires reached, rising -/
def Rset (n : Net) (st : List Nat) (w : Nat) (xs : List Nat) : Prop := xs.Pairwise (· < ·) ∧ ∀ y, y ∈ xs ↔ Rc n st w n.many y
theorem Rset.eq {n : Net} {st : List Nat} {w : Nat} {xs ys : List Nat} (a : Rset n st w xs) (b : Rset n st w ys) : xs = ys := rise_eq a.1 b.1 fun z => (a.2 z).trans (b.2 z).symm
/-- marks -/
def MarkOk (n : Net) (st : List Nat) (w j : Nat) (ms : List Bool) : Prop := ms.length = n.many + n.gates.length ∧ ∀ y, y < ms.length → (ms.getD y false = true ↔ Rc n st w j y)
theorem getD_set {ms : List Bool} {i y : Nat} {b : Bool} (h : i < ms.length) : (ms.set i b).getD y false = if y = i then b else ms.getD y false := by
  rw [List.getD_eq_getElem?_getD, List.getD_eq_getElem?_getD]
  by_cases e : y = i
  · subst e
    rw [if_pos rfl, List.getElem?_set_self h]
    rfl
  · rw [if_neg e, List.getElem?_set_ne (fun z => e z.symm)]
theorem mark_at {ms : List Bool} {i : Nat} (h : i < ms.length) : (ms.map V.bl)[i]? = some (.bl (ms.getD i false)) := by
  rw [List.getElem?_map, List.getD_eq_getElem?_getD, List.getElem?_eq_getElem h]
  rfl
def picked (ms : List Bool) : List Nat := (List.range ms.length).filter fun i => ms.getD i false
theorem picked_rise (ms : List Bool) : (picked ms).Pairwise (· < ·) := List.Pairwise.filter _ List.pairwise_lt_range
theorem picked_take (ms : List Bool) (i : Nat) : ((List.range (i + 1)).filter fun i => ms.getD i false) = ((List.range i).filter fun i => ms.getD i false) ++ (if ms.getD i false = true then [i] else []) := by
  rw [List.range_succ, List.filter_append]
  congr 1
  rw [List.filter_cons]
  rfl
theorem mark_set {n : Net} (ok : n.Ok) {st : List Nat} {w : Nat} {ms : List Bool} (hw : w < n.many + n.gates.length) (h : MarkOk n st w n.many ms) : Rset n st w (picked ms) := by
  refine ⟨picked_rise ms, fun y => ?_⟩
  unfold picked
  rw [List.mem_filter, List.mem_range]
  refine ⟨fun ⟨h1, h2⟩ => (h.2 y h1).mp h2, fun r => ?_⟩
  have := r.le ok
  have hl : y < ms.length := by rw [h.1]; omega
  exact ⟨hl, (h.2 y hl).mpr r⟩
theorem mark_down {n : Net} (ok : n.Ok) {st : List Nat} {w g : Nat} {k : Nat × Nat × Nat} {ms : List Bool} (hg : n.many ≤ g) (hk : n.gates[g - n.many]? = some k) (h : MarkOk n st w (g + 1) ms) (hm : ms.getD g false = true) :
    MarkOk n st w g ((ms.set k.2.1 (!decide (k.2.1 ∈ st))).set k.2.2 (!decide (k.2.2 ∈ st))) := by
  have hgl : g < ms.length := by
    rw [h.1]
    have := (List.getElem?_eq_some_iff.mp hk).1
    omega
  have p1 := place_lt ok hg hk (.inl rfl)
  have p2 := place_lt ok hg hk (.inr rfl)
  have rg := (h.2 g hgl).mp hm
  have flip : ∀ y, (y = k.2.1 ∨ y = k.2.2) → ((!decide (y ∈ st)) = true ↔ Rc n st w g y) := fun y hy => by
    rw [Rc.down ok hg hk]
    by_cases e : y ∈ st
    · rw [decide_eq_true e]
      refine ⟨fun z => (by cases z), fun z => ?_⟩
      rcases z with z | ⟨_, _, z⟩
      · exact absurd e z.free
      · exact absurd e z
    · rw [decide_eq_false e]
      exact ⟨fun _ => .inr ⟨rg, hy, e⟩, fun _ => rfl⟩
  refine ⟨by rw [List.length_set, List.length_set]; exact h.1, fun y hy => ?_⟩
  rw [List.length_set, List.length_set] at hy
  rw [getD_set (by rw [List.length_set]; omega)]
  by_cases e2 : y = k.2.2
  · rw [if_pos e2, e2]
    exact flip _ (.inr rfl)
  · rw [if_neg e2, getD_set (by omega)]
    by_cases e1 : y = k.2.1
    · rw [if_pos e1, e1]
      exact flip _ (.inl rfl)
    · rw [if_neg e1, h.2 y hy, Rc.down ok hg hk]
      refine ⟨.inl, fun z => ?_⟩
      rcases z with z | ⟨_, z, _⟩
      · exact z
      · rcases z with z | z
        · exact absurd z e1
        · exact absurd z e2
theorem mark_skip {n : Net} (ok : n.Ok) {st : List Nat} {w g : Nat} {k : Nat × Nat × Nat} {ms : List Bool} (hg : n.many ≤ g) (hk : n.gates[g - n.many]? = some k) (h : MarkOk n st w (g + 1) ms) (hm : ¬ ms.getD g false = true) :
    MarkOk n st w g ms := by
  have hgl : g < ms.length := by
    rw [h.1]
    have := (List.getElem?_eq_some_iff.mp hk).1
    omega
  refine ⟨h.1, fun y hy => ?_⟩
  rw [h.2 y hy, Rc.down ok hg hk]
  refine ⟨.inl, fun z => ?_⟩
  rcases z with z | ⟨z, _, _⟩
  · exact z
  · exact absurd ((h.2 g hgl).mpr z) hm
theorem mark_first {n : Net} (ok : n.Ok) {st : List Nat} {w : Nat} (hw : w < n.many + n.gates.length) : MarkOk n st w (w + 1) ((List.replicate (n.many + n.gates.length) false).set w (!decide (w ∈ st))) := by
  refine ⟨by rw [List.length_set, List.length_replicate], fun y hy => ?_⟩
  rw [getD_set (by rw [List.length_replicate]; exact hw), Rc.high ok]
  by_cases e : y = w
  · subst e
    rw [if_pos rfl]
    by_cases h : y ∈ st
    · rw [decide_eq_true h]
      exact ⟨fun z => (by cases z), fun z => absurd h z.2⟩
    · rw [decide_eq_false h]
      exact ⟨fun _ => ⟨rfl, h⟩, fun _ => rfl⟩
  · rw [if_neg e, List.getD_eq_getElem?_getD, List.getElem?_replicate]
    refine ⟨fun z => ?_, fun z => absurd z.1 e⟩
    split at z <;> cases z
/-- ways -/
structure Way (n : Net) (w : Nat) (xs : List Nat) : Prop where
  ne : 0 < xs.length
  lt : ∀ x ∈ xs, x < n.many + n.gates.length
  first : xs.getD 0 0 < n.many
  last : xs.getD (xs.length - 1) 0 = w
  steps : ∀ i, i + 1 < xs.length → n.many ≤ xs.getD (i + 1) 0 ∧ ∃ k, n.gates[xs.getD (i + 1) 0 - n.many]? = some k ∧ (xs.getD i 0 = k.2.1 ∨ xs.getD i 0 = k.2.2)
theorem walk_zipT {K : PySem.W.Frag} {a b : Addr} {xs ys : List V} {n : Nat} (hn : n = min xs.length ys.length) : Walk (RZ.ItzT K a b) n (fun H => SqT K H a xs ∧ SqT K H b ys) (YPair (fun i => xs[i]?) (fun i => ys[i]?)) := by
  subst hn
  refine ⟨fun i _ hi q => ?_, fun _ q => ⟨xs, ys, q.1, q.2, by omega⟩, fun i H v H' _ q y => ?_⟩
  · exact ⟨xs, ys, xs[i]'(by omega), ys[i]'(by omega), q.1, q.2, List.getElem?_eq_getElem _, List.getElem?_eq_getElem _⟩
  · obtain ⟨T, x, z, g1, g2, g3, g4, g5⟩ := y
    exact ⟨T, x, z, g1, g2, g3, g4 xs q.1, g5 ys q.2⟩
end GX
set_option Elab.async false
set_option linter.all false
set_option maxRecDepth 100000
set_option maxHeartbeats 4000000
/-! Lists of the wires reached; ways put together. -/
namespace GX
open PySem PySem.Spec PyProof.Rows L2
theorem nodup_len : ∀ {xs ys : List Nat}, xs.Nodup → (∀ x ∈ xs, x ∈ ys) → xs.length ≤ ys.length
  | [], _, _, _ => Nat.zero_le _
  | x :: xs, ys, h, s => by
    have h1 := List.nodup_cons.mp h
    have hx := s x List.mem_cons_self
    have ih := nodup_len (ys := ys.erase x) h1.2 fun z hz => (List.mem_erase_of_ne (fun e => h1.1 (by rw [← e]; exact hz))).mpr (s z (List.mem_cons_of_mem _ hz))
    rw [List.length_erase_of_mem hx] at ih
    have : 0 < ys.length := List.length_pos_of_mem hx
    rw [List.length_cons]
    omega
theorem nodup_lt {xs : List Nat} {m : Nat} (h : xs.Nodup) (s : ∀ x ∈ xs, x < m) : xs.length ≤ m := by
  have := nodup_len (ys := List.range m) h fun x hx => List.mem_range.mpr (s x hx)
  rwa [List.length_range] at this
theorem nodup_snoc {xs : List Nat} {x : Nat} (h : xs.Nodup) (n : x ∉ xs) : (xs ++ [x]).Nodup := by
  rw [List.nodup_append]
  refine ⟨h, by simp, fun a ha b hb => ?_⟩
  rw [List.mem_singleton.mp hb]
  exact fun e => n (by rw [← e]; exact ha)
theorem getD_pre {xs t : List Nat} {i : Nat} (h : i < xs.length) : (xs ++ t).getD i 0 = xs.getD i 0 := by
  rw [List.getD_eq_getElem?_getD, List.getD_eq_getElem?_getD, List.getElem?_append_left h]
theorem getD_mem {xs : List Nat} {i : Nat} (h : i < xs.length) : xs.getD i 0 ∈ xs := by
  rw [List.getD_eq_getElem?_getD, List.getElem?_eq_getElem h]
  exact List.getElem_mem h
theorem mem_getD {xs : List Nat} {x : Nat} (h : x ∈ xs) : ∃ i, i < xs.length ∧ xs.getD i 0 = x := by
  obtain ⟨i, hi, e⟩ := List.getElem_of_mem h
  exact ⟨i, hi, by rw [List.getD_eq_getElem?_getD, List.getElem?_eq_getElem hi]; exact e⟩
/-- found so far; the first k have been gone on from -/
structure LedOk (n : Net) (st : List Nat) (w : Nat) (xs : List Nat) (k : Nat) : Prop where
  nd : xs.Nodup
  rc : ∀ y ∈ xs, Rc n st w n.many y
  self : w ∉ st → w ∈ xs
  le : k ≤ xs.length
  done : ∀ j, j < k → n.many ≤ xs.getD j 0 → ∀ g, n.gates[xs.getD j 0 - n.many]? = some g → ∀ p, (p = g.2.1 ∨ p = g.2.2) → p ∉ st → p ∈ xs
theorem LedOk.all {n : Net} {st : List Nat} {w : Nat} {xs : List Nat} (h : LedOk n st w xs xs.length) (y : Nat) : y ∈ xs ↔ Rc n st w n.many y := by
  refine ⟨h.rc y, fun r => ?_⟩
  induction r with
  | here e => exact h.self e
  | step _ hg _ hk hp hs ih =>
    obtain ⟨i, hi, e⟩ := mem_getD ih
    exact h.done i hi (by rw [e]; exact hg) _ (by rw [e]; exact hk) _ hp hs
theorem LedOk.short {n : Net} (ok : n.Ok) {st : List Nat} {w : Nat} {xs : List Nat} {k : Nat} (hw : w < n.many + n.gates.length) (h : LedOk n st w xs k) : xs.length ≤ 24 := by
  have := nodup_lt (m := n.many + n.gates.length) h.nd fun x hx => by have := (h.rc x hx).le ok; omega
  have := ok.m8
  have := ok.g16
  omega
def isSt (n : Net) (x y : Nat) : Prop := n.many ≤ y ∧ ∃ k, n.gates[y - n.many]? = some k ∧ (x = k.2.1 ∨ x = k.2.2)
/-- from x (left out) up to w -/
structure Up (n : Net) (x w : Nat) (zs : List Nat) : Prop where
  lt : ∀ z ∈ zs, z < n.many + n.gates.length
  last : (x :: zs).getD zs.length 0 = w
  ch : ∀ i, i + 1 < (x :: zs).length → isSt n ((x :: zs).getD i 0) ((x :: zs).getD (i + 1) 0)
theorem Up.nil (n : Net) (w : Nat) : Up n w w [] := ⟨fun z hz => (by cases hz), rfl, fun i hi => (by simp at hi)⟩
theorem Up.cons {n : Net} {p x w : Nat} {zs : List Nat} (s : isSt n p x) (hx : x < n.many + n.gates.length) (u : Up n x w zs) : Up n p w (x :: zs) := by
  refine ⟨fun z hz => ?_, ?_, fun i hi => ?_⟩
  · rcases List.mem_cons.mp hz with rfl | hz
    · exact hx
    · exact u.lt z hz
  · exact u.last
  · cases i with
    | zero => exact s
    | succ i => exact u.ch i (by simpa using hi)
/-- from some wire down to w, upward -/
structure Down (n : Net) (w : Nat) (xs : List Nat) : Prop where
  ne : 0 < xs.length
  lt : ∀ x ∈ xs, x < n.many + n.gates.length
  last : xs.getD (xs.length - 1) 0 = w
  steps : ∀ i, i + 1 < xs.length → isSt n (xs.getD i 0) (xs.getD (i + 1) 0)
theorem Down.one {n : Net} {w : Nat} (h : w < n.many + n.gates.length) : Down n w [w] := ⟨Nat.zero_lt_one, fun x hx => (by rw [List.mem_singleton.mp hx]; exact h), rfl, fun i hi => (by simp at hi)⟩
theorem Down.cons {n : Net} {w p : Nat} {xs : List Nat} (d : Down n w xs) (hp : p < n.many + n.gates.length) (s : isSt n p (xs.getD 0 0)) : Down n w (p :: xs) := by
  have h0 := d.ne
  refine ⟨by rw [List.length_cons]; omega, fun x hx => ?_, ?_, fun i hi => ?_⟩
  · rcases List.mem_cons.mp hx with rfl | hx
    · exact hp
    · exact d.lt x hx
  · rw [List.length_cons, show xs.length + 1 - 1 = (xs.length - 1) + 1 by omega]
    exact d.last
  · cases i with
    | zero => exact s
    | succ i => exact d.steps i (by simpa using hi)
theorem Down.way {n : Net} {w : Nat} {xs : List Nat} (d : Down n w xs) (h : xs.getD 0 0 < n.many) : Way n w xs := ⟨d.ne, d.lt, h, d.last, d.steps⟩
theorem getD_post {xs t : List Nat} {i : Nat} (h : xs.length ≤ i) : (xs ++ t).getD i 0 = t.getD (i - xs.length) 0 := by
  rw [List.getD_eq_getElem?_getD, List.getD_eq_getElem?_getD, List.getElem?_append_right h]
theorem Way.join {n : Net} {x w : Nat} {ys zs : List Nat} (a : Way n x ys) (u : Up n x w zs) : Way n w (ys ++ zs) := by
  have h0 := a.ne
  refine ⟨by rw [List.length_append]; omega, fun z hz => ?_, ?_, ?_, fun i hi => ?_⟩
  · rcases List.mem_append.mp hz with hz | hz
    · exact a.lt z hz
    · exact u.lt z hz
  · rw [getD_pre h0]
    exact a.first
  · have ul := u.last
    rw [List.length_append]
    cases zs with
    | nil =>
      rw [List.append_nil, List.length_nil, Nat.add_zero]
      have : x = w := ul
      rw [← this]
      exact a.last
    | cons z r =>
      rw [getD_post (by rw [List.length_cons]; omega), List.length_cons]
      rw [show ys.length + (r.length + 1) - 1 - ys.length = r.length by omega]
      exact ul
  · rw [List.length_append] at hi
    by_cases h1 : i + 1 < ys.length
    · rw [getD_pre h1, getD_pre (by omega)]
      exact a.steps i h1
    · by_cases h2 : i + 1 = ys.length
      · have e : ys.getD i 0 = x := by
          rw [show i = ys.length - 1 by omega]
          exact a.last
        have e1 : (ys ++ zs).getD i 0 = x := by rw [getD_pre (by omega), e]
        have e2 : (ys ++ zs).getD (i + 1) 0 = zs.getD 0 0 := by rw [getD_post (by omega), h2, Nat.sub_self]
        rw [e1, e2]
        cases zs with
        | nil => simp at hi; omega
        | cons z r => exact u.ch 0 (by simp)
      · have e1 : (ys ++ zs).getD i 0 = zs.getD (i - ys.length) 0 := getD_post (by omega)
        have e2 : (ys ++ zs).getD (i + 1) 0 = zs.getD (i + 1 - ys.length) 0 := getD_post (by omega)
        rw [e1, e2]
        have := u.ch (i - ys.length + 1) (by rw [List.length_cons]; omega)
        rw [show i + 1 - ys.length = i - ys.length + 1 by omega]
        exact this
end GX
set_option Elab.async false
set_option linter.all false
set_option maxRecDepth 100000
set_option maxHeartbeats 4000000
/-! Wires that tell a gate: going back from a cut. -/
namespace GX
open PySem PySem.Spec PyProof.Rows L2
theorem Rc.sub {n : Net} {st st' : List Nat} {w j y : Nat} (h : Rc n st' w j y) (s : ∀ z ∈ st, z ∈ st') : Rc n st w j y := by
  induction h with
  | here e => exact .here fun z => e (s _ z)
  | step _ hg hj hk hp hs ih => exact .step ih hg hj hk hp fun z => hs (s _ z)
/-- no input leads past them -/
def Sep (n : Net) (w : Nat) (st : List Nat) : Prop := ∀ y, Rc n st w n.many y → n.many ≤ y
theorem Sep.more {n : Net} {w : Nat} {st st' : List Nat} (h : Sep n w st) (s : ∀ z ∈ st, z ∈ st') : Sep n w st' := fun y r => h y (r.sub s)
theorem sep_first {n : Net} {w : Nat} {st : List Nat} {k : Nat × Nat × Nat} (hw : n.many ≤ w) (hk : n.gates[w - n.many]? = some k) (h : ∀ z, (z = k.2.1 ∨ z = k.2.2) → z ∈ st) : Sep n w st := by
  have all : ∀ y, Rc n st w n.many y → y = w := fun y r => by
    induction r with
    | here _ => rfl
    | step _ _ _ hk' hp hs ih =>
      subst ih
      rw [hk] at hk'
      cases hk'
      exact absurd (h _ hp) hs
  exact fun y r => by rw [all y r]; exact hw
theorem sep_step {n : Net} {w h : Nat} {st st' : List Nat} {k : Nat × Nat × Nat} (sep : Sep n w st) (hws : w ∉ st) (hh : n.many ≤ h) (hk : n.gates[h - n.many]? = some k) (keep : ∀ z ∈ st, z ≠ h → z ∈ st') (pl : ∀ z, (z = k.2.1 ∨ z = k.2.2) → z ∈ st') : Sep n w st' := by
  have all : ∀ y, Rc n st' w n.many y → Rc n st w n.many y ∨ y = h := fun y r => by
    induction r with
    | here _ => exact .inl (.here hws)
    | @step g p k' _ hg hj hk' hp hs ih =>
      rcases ih with ih | ih
      · by_cases e : p ∈ st
        · refine .inr (Classical.not_not.mp fun z => hs (keep p e z))
        · exact .inl (.step ih hg hj hk' hp e)
      · subst ih
        rw [hk] at hk'
        cases hk'
        exact absurd (pl _ hp) hs
  intro y r
  rcases all y r with a | a
  · exact sep y a
  · rw [a]
    exact hh
structure CutOk (n : Net) (gt : Nat) (ys : List Nat) : Prop where
  ne : 0 < ys.length
  lt : ∀ y ∈ ys, y < gt
  sep : Sep n gt ys
  rise : ys.Pairwise (· < ·)
theorem CutOk.short {n : Net} (ok : n.Ok) {gt : Nat} {ys : List Nat} (hg : gt < n.many + n.gates.length) (c : CutOk n gt ys) : ys.length ≤ 24 := by
  have := nodup_lt (m := n.many + n.gates.length) (c.rise.imp fun h => Nat.ne_of_lt h) fun y hy => by have := c.lt y hy; omega
  have := ok.m8
  have := ok.g16
  omega
theorem pos_of_mem {ys : List Nat} {y : Nat} (h : y ∈ ys) : 0 < ys.length := List.length_pos_of_mem h
end GX
set_option Elab.async false
set_option linter.all false
set_option maxRecDepth 100000
set_option maxHeartbeats 4000000
/-! Bits of numbers, as the texts write them. -/
namespace GX
open PySem PySem.Spec PyProof.Rows L2
theorem pt_truthK {X : Cx} {K : PySem.W.Frag} {a : Expr} {ta : TE} (ha : PE X a ta) (he : ∀ whole, isTrue a X.env whole = (do let v ← whole; standAt a.pos; holding [v] (truthy v))) (h : X.K = K := by rfl) : PT X a (fun σ H Q => ta σ H fun x H' => ∃ k, TruV K x H' k ∧ Q k H') := by subst h; exact pt_truth ha he
theorem natAt {l : List Nat} {i : Nat} (h : i < l.length) : (l.map nV)[i]? = some (nV (l.getD i 0)) := by
  rw [List.getElem?_map, List.getD_eq_getElem?_getD, List.getElem?_eq_getElem h]
  rfl
theorem mapV (xs : List Nat) : (xs.map fun n : Nat => (n : Int)).map V.int = xs.map nV := by
  rw [List.map_map]
  rfl
theorem dpNat (K : PySem.W.Frag) (H : Hp) : ∀ xs : List Nat, DpAll K H (xs.map nV) ((xs.map fun n : Nat => (n : Int)).map PyData.int)
  | [] => .nil
  | x :: r => .cons (.int _) (dpNat K H r)
theorem getSnoc {xs : List Nat} {x i : Nat} (h : i < xs.length) : (xs ++ [x]).getD i 0 = xs.getD i 0 := getD_pre h
theorem getLastN {xs : List Nat} {x : Nat} : (xs ++ [x]).getD xs.length 0 = x := by
  rw [List.getD_eq_getElem?_getD, List.getElem?_append_right (Nat.le_refl _), Nat.sub_self]
  rfl
theorem eqNats {xs ys : List Nat} (hl : xs.length = ys.length) (h : ∀ i, i < xs.length → xs.getD i 0 = ys.getD i 0) : xs = ys := by
  apply List.ext_getElem hl
  intro i h1 h2
  have := h i h1
  rw [List.getD_eq_getElem?_getD, List.getD_eq_getElem?_getD, List.getElem?_eq_getElem h1, List.getElem?_eq_getElem h2] at this
  exact this
/-- number >> place & 1 -/
theorem bit_of (r p : Nat) : Builtin.bitAnd (((r : Nat) : Int) / 2 ^ ((p : Nat) : Int).toNat) 1 = ((r / 2 ^ p % 2 : Nat) : Int) := by
  rw [bitAnd_m1, Int.toNat_natCast]
  norm_cast
theorem shl_of (p : Nat) : (1 : Int) * 2 ^ ((p : Nat) : Int).toNat = ((2 ^ p : Nat) : Int) := by
  rw [Int.toNat_natCast, Int.one_mul]
  norm_cast
theorem shl_of' (x p : Nat) : ((x : Nat) : Int) * 2 ^ ((p : Nat) : Int).toNat = ((x * 2 ^ p : Nat) : Int) := by
  rw [Int.toNat_natCast]
  norm_cast
theorem xor_of (x y : Nat) : Builtin.bitXor ((x : Nat) : Int) ((y : Nat) : Int) = ((x ^^^ y : Nat) : Int) := by
  have e : Builtin.bitAnd ((x : Nat) : Int) ((y : Nat) : Int) = ((x &&& y : Nat) : Int) := bitAnd_pp (by omega) (by omega)
  rw [bitXor_and, e]
  have h : x + y = (x ^^^ y) + 2 * (x &&& y) := by
    exact (Bits.nat_xor_add_and x y).symm
  omega
theorem bits_pow (m : Nat) : Builtin.Int.intBits (((2 ^ m : Nat)) : Int) = m + 1 := by
  apply Nat.le_antisymm
  · rw [intBits_le_iff, Int.natAbs_natCast]
    exact Nat.pow_lt_pow_right (by decide) (by omega)
  · refine Nat.lt_of_not_le fun h => ?_
    rw [intBits_le_iff, Int.natAbs_natCast] at h
    exact Nat.lt_irrefl _ h
/-- a number by its bit p: below, itself, above -/
theorem xor_pow (r p : Nat) : r ^^^ 2 ^ p = if r / 2 ^ p % 2 = 0 then r + 2 ^ p else r - 2 ^ p := by
  have hp : 0 < 2 ^ p := Nat.pow_pos (by decide)
  have hr : r % 2 ^ p < 2 ^ p := Nat.mod_lt _ hp
  have er : 2 ^ p * (r / 2 ^ p) + r % 2 ^ p = r := Nat.div_add_mod r (2 ^ p)
  generalize ha : r / 2 ^ p = a at er ⊢
  generalize hb : r % 2 ^ p = b at er hr
  have e2 : (if a % 2 = 0 then r + 2 ^ p else r - 2 ^ p) = 2 ^ p * (if a % 2 = 0 then a + 1 else a - 1) + b := by
    split
    · rw [Nat.mul_add, Nat.mul_one]
      omega
    · rename_i h
      obtain ⟨c, rfl⟩ : ∃ c, a = c + 1 := ⟨a - 1, by omega⟩
      rw [Nat.add_sub_cancel]
      rw [Nat.mul_add, Nat.mul_one] at er
      omega
  rw [e2]
  apply Nat.eq_of_testBit_eq
  intro j
  rw [Nat.testBit_xor, Nat.testBit_two_pow, Nat.testBit_two_pow_mul_add _ hr]
  conv => lhs; rw [← er, Nat.testBit_two_pow_mul_add _ hr]
  by_cases hj : j < p
  · rw [if_pos hj, if_pos hj, decide_eq_false (by omega), Bool.xor_false]
  · rw [if_neg hj, if_neg hj]
    by_cases hj2 : p = j
    · subst hj2
      rw [decide_eq_true rfl, Nat.sub_self, Nat.testBit_zero, Nat.testBit_zero]
      by_cases h0 : a % 2 = 0
      · rw [if_pos h0, decide_eq_false (by omega), decide_eq_true (by omega)]
        rfl
      · rw [if_neg h0, decide_eq_true (by omega), decide_eq_false (by omega)]
        rfl
    · rw [decide_eq_false hj2, Bool.xor_false]
      obtain ⟨k, hk⟩ : ∃ k, j - p = k + 1 := ⟨j - p - 1, by omega⟩
      rw [hk, Nat.testBit_add_one, Nat.testBit_add_one]
      congr 1
      split <;> omega
/-- a number with its bit p out -/
def clr (b p : Nat) : Nat := b - b / 2 ^ p % 2 * 2 ^ p
theorem clr_bit (b p j : Nat) : (clr b p).testBit j = (b.testBit j && decide (j ≠ p)) := by
  unfold clr
  have e := xor_pow b p
  by_cases h : b / 2 ^ p % 2 = 0
  · rw [h, Nat.zero_mul, Nat.sub_zero]
    by_cases hj : j = p
    · subst hj
      rw [Nat.testBit_eq_decide_div_mod_eq, decide_eq_false (by omega), Bool.false_and]
    · rw [decide_eq_true hj, Bool.and_true]
  · rw [if_neg h] at e
    rw [show b / 2 ^ p % 2 = 1 by omega, Nat.one_mul, ← e, Nat.testBit_xor, Nat.testBit_two_pow]
    by_cases hj : j = p
    · subst hj
      rw [decide_eq_true rfl, Nat.testBit_eq_decide_div_mod_eq, decide_eq_true (by omega), decide_eq_false (fun z => z rfl)]
      rfl
    · rw [decide_eq_false (fun z => hj z.symm), decide_eq_true hj, Bool.xor_false, Bool.and_true]
def clrs (st : List Nat) (b : Nat) : Nat := st.foldl clr b
theorem clrs_bit (st : List Nat) : ∀ b j : Nat, (clrs st b).testBit j = (b.testBit j && decide (j ∉ st)) := by
  induction st with
  | nil =>
    intro b j
    rw [decide_eq_true (List.not_mem_nil), Bool.and_true]
    rfl
  | cons p r ih =>
    intro b j
    show (clrs r (clr b p)).testBit j = _
    rw [ih, clr_bit, Bool.and_assoc]
    congr 1
    by_cases h1 : j = p
    · subst h1
      rw [decide_eq_false (fun z => z rfl), decide_eq_false (p := j ∉ j :: r) (fun z => z List.mem_cons_self), Bool.false_and]
    · rw [decide_eq_true h1, Bool.true_and]
      by_cases h2 : j ∈ r
      · rw [decide_eq_false (p := j ∉ r) (fun z => z h2), decide_eq_false (p := j ∉ p :: r) (fun z => z (List.mem_cons_of_mem _ h2))]
      · rw [decide_eq_true h2, decide_eq_true (p := j ∉ p :: r) (fun z => by rcases List.mem_cons.mp z with z | z <;> contradiction)]
theorem clr_le (b p : Nat) : clr b p ≤ b := Nat.sub_le _ _
theorem clrs_le (st : List Nat) : ∀ b, clrs st b ≤ b := by
  induction st with
  | nil => exact fun b => Nat.le_refl _
  | cons p r ih => exact fun b => Nat.le_trans (ih (clr b p)) (clr_le b p)
theorem clrs_idem (st : List Nat) (b : Nat) : clrs st (clrs st b) = clrs st b := by
  apply Nat.eq_of_testBit_eq
  intro j
  rw [clrs_bit, clrs_bit, Bool.and_assoc, Bool.and_self]
theorem clrs_xor {st : List Nat} {p : Nat} (h : p ∈ st) (b : Nat) : clrs st (b ^^^ 2 ^ p) = clrs st b := by
  apply Nat.eq_of_testBit_eq
  intro j
  rw [clrs_bit, clrs_bit, Nat.testBit_xor, Nat.testBit_two_pow]
  by_cases e : p = j
  · subst e
    rw [decide_eq_false (p := p ∉ st) (fun z => z h), Bool.and_false, Bool.and_false]
  · rw [decide_eq_false e, Bool.xor_false]
/-! ### idle places -/
def idleAt (xs : List Nat) (p : Nat) : Bool := (List.range xs.length).all fun r => decide (xs.getD r 0 = xs.getD (r ^^^ 2 ^ p) 0)
theorem idleAt_iff {xs : List Nat} {p : Nat} : idleAt xs p = true ↔ ∀ r, r < xs.length → xs.getD r 0 = xs.getD (r ^^^ 2 ^ p) 0 := by
  unfold idleAt
  rw [List.all_eq_true]
  exact ⟨fun h r hr => of_decide_eq_true (h r (List.mem_range.mpr hr)), fun h r hr => decide_eq_true (h r (List.mem_range.mp hr))⟩
def idles (xs : List Nat) (m : Nat) : List Nat := (List.range m).filter fun p => idleAt xs p
/-- .. by the lower ones alone -/
theorem idleAt_low {xs : List Nat} {m p : Nat} (hl : xs.length = 2 ^ m) (hp : p < m) : idleAt xs p = true ↔ ∀ r, r < xs.length → r / 2 ^ p % 2 = 0 → xs.getD r 0 = xs.getD (r + 2 ^ p) 0 := by
  rw [idleAt_iff]
  refine ⟨fun h r hr h0 => ?_, fun h r hr => ?_⟩
  · have := h r hr
    rw [xor_pow, if_pos h0] at this
    exact this
  · by_cases h0 : r / 2 ^ p % 2 = 0
    · rw [xor_pow, if_pos h0]
      exact h r hr h0
    · have e := xor_pow r p
      rw [if_neg h0] at e
      have lt : r ^^^ 2 ^ p < xs.length := by
        rw [hl] at hr ⊢
        exact Nat.xor_lt_two_pow hr (Nat.pow_lt_pow_right (by decide) hp)
      have hb : (r ^^^ 2 ^ p) / 2 ^ p % 2 = 0 := by
        have t : (r ^^^ 2 ^ p).testBit p = false := by
          rw [Nat.testBit_xor, Nat.testBit_two_pow, decide_eq_true rfl, Nat.testBit_eq_decide_div_mod_eq, decide_eq_true (by omega)]
          rfl
        rw [Nat.testBit_eq_decide_div_mod_eq] at t
        have := of_decide_eq_false t
        omega
      have q := h _ lt hb
      have back : (r ^^^ 2 ^ p) + 2 ^ p = r := by
        have h1 := xor_pow (r ^^^ 2 ^ p) p
        rw [if_pos hb, Nat.xor_assoc, Nat.xor_self, Nat.xor_zero] at h1
        exact h1.symm
      rw [back] at q
      exact q.symm
theorem add_pow_lt {r m p : Nat} (hr : r < 2 ^ m) (hp : p < m) (h0 : r / 2 ^ p % 2 = 0) : r + 2 ^ p < 2 ^ m := by
  have e := xor_pow r p
  rw [if_pos h0] at e
  rw [← e]
  exact Nat.xor_lt_two_pow hr (Nat.pow_lt_pow_right (by decide) hp)
theorem pow8 {m : Nat} (h : m ≤ 8) : 2 ^ m ≤ 256 := Nat.pow_le_pow_right (by decide) h
theorem small256 {n : Nat} (h : n ≤ 10000) : n < sizeLine := Nat.lt_of_le_of_lt h (by decide)
end GX
set_option Elab.async false
set_option linter.all false
set_option maxRecDepth 100000
set_option maxHeartbeats 4000000
/-! Tuples at a list of addresses. -/
namespace GX
open PySem PySem.Spec PyProof.Rows L2
def RefsAt {α : Type} (f : α → List V) (H : Hp) (ps : List Addr) (xs : List α) : Prop := ps.length = xs.length ∧ ∀ (i : Nat) (p : Addr) (x : α), ps[i]? = some p → xs[i]? = some x → H p = some (.tup (f x))
theorem atLast {xs : List V} {v : V} (h : xs[xs.length - 1]? = some v) : atI xs (-1) = some v := by
  have hl := (List.getElem?_eq_some_iff.mp h).1
  unfold atI
  have e : ixN xs.length (-1) = some (xs.length - 1) := by
    unfold ixN
    rw [if_neg (by decide)]
    first
      | rw [if_pos (by omega)]; congr 1; omega
      | simp; omega
  rw [e]
  exact h
section
variable {α : Type} {f : α → List V} {H H' : Hp} {ps : List Addr} {xs : List α}
theorem RefsAt.nil (f : α → List V) (H : Hp) : RefsAt f H [] [] := ⟨rfl, fun i p g e _ => by simp at e⟩
theorem RefsAt.mono (x : RefsAt f H ps xs) (k : ∀ b zs, H b = some (.tup zs) → H' b = some (.tup zs)) : RefsAt f H' ps xs := ⟨x.1, fun i p g e1 e2 => k _ _ (x.2 i p g e1 e2)⟩
theorem RefsAt.push {q : Addr} {y : α} (x : RefsAt f H ps xs) (h : H q = some (.tup (f y))) : RefsAt f H (ps ++ [q]) (xs ++ [y]) := by
  refine ⟨by rw [List.length_append, List.length_append, x.1]; rfl, fun i r g e1 e2 => ?_⟩
  by_cases hi : i < ps.length
  · rw [List.getElem?_append_left hi] at e1
    rw [List.getElem?_append_left (by rw [← x.1]; exact hi)] at e2
    exact x.2 i r g e1 e2
  · rw [List.getElem?_append_right (by omega)] at e1
    rw [List.getElem?_append_right (by rw [← x.1]; omega)] at e2
    have hz : i - ps.length = 0 := by
      obtain ⟨h1, _⟩ := List.getElem?_eq_some_iff.mp e1
      simp at h1
      omega
    rw [hz] at e1
    rw [← x.1, hz] at e2
    cases e1
    cases e2
    exact h
theorem RefsAt.at_ (x : RefsAt f H ps xs) {i : Nat} {v : V} (e : (ps.map V.ref)[i]? = some v) : ∃ q y, v = .ref q ∧ xs[i]? = some y ∧ H q = some (.tup (f y)) := by
  rw [List.getElem?_map] at e
  cases h : ps[i]? with
  | none => rw [h] at e; cases e
  | some q =>
    rw [h] at e
    cases e
    have h2 : i < xs.length := by rw [← x.1]; exact (List.getElem?_eq_some_iff.mp h).1
    exact ⟨q, xs[i], rfl, List.getElem?_eq_getElem h2, x.2 i q _ h (List.getElem?_eq_getElem h2)⟩
theorem RefsAt.get (x : RefsAt f H ps xs) {i : Nat} {y : α} (e : xs[i]? = some y) : ∃ q, (ps.map V.ref)[i]? = some (.ref q) ∧ H q = some (.tup (f y)) := by
  have h2 : i < ps.length := by rw [x.1]; exact (List.getElem?_eq_some_iff.mp e).1
  exact ⟨ps[i], by rw [List.getElem?_map, List.getElem?_eq_getElem h2]; rfl, x.2 i _ y (List.getElem?_eq_getElem h2) e⟩
end
end GX
namespace GX
open PySem PySem.Spec PyProof.Rows L2
/-- things of any make at a list of addresses -/
def PtsAt {α : Type} (R : Hp → Addr → α → Prop) (H : Hp) (ps : List Addr) (xs : List α) : Prop := ps.length = xs.length ∧ ∀ (i : Nat) (p : Addr) (x : α), ps[i]? = some p → xs[i]? = some x → R H p x
section
variable {α : Type} {R : Hp → Addr → α → Prop} {H H' : Hp} {ps : List Addr} {xs : List α}
theorem PtsAt.nil (R : Hp → Addr → α → Prop) (H : Hp) : PtsAt R H [] [] := ⟨rfl, fun i p g e _ => by simp at e⟩
theorem PtsAt.mono (x : PtsAt R H ps xs) (k : ∀ p y, R H p y → R H' p y) : PtsAt R H' ps xs := ⟨x.1, fun i p g e1 e2 => k _ _ (x.2 i p g e1 e2)⟩
theorem PtsAt.cons {q : Addr} {y : α} (x : PtsAt R H ps xs) (h : R H q y) : PtsAt R H (q :: ps) (y :: xs) := by
  refine ⟨by rw [List.length_cons, List.length_cons, x.1], fun i r g e1 e2 => ?_⟩
  cases i with
  | zero =>
    cases e1
    cases e2
    exact h
  | succ i => exact x.2 i r g e1 e2
theorem PtsAt.push {q : Addr} {y : α} (x : PtsAt R H ps xs) (h : R H q y) : PtsAt R H (ps ++ [q]) (xs ++ [y]) := by
  refine ⟨by rw [List.length_append, List.length_append, x.1]; rfl, fun i r g e1 e2 => ?_⟩
  by_cases hi : i < ps.length
  · rw [List.getElem?_append_left hi] at e1
    rw [List.getElem?_append_left (by rw [← x.1]; exact hi)] at e2
    exact x.2 i r g e1 e2
  · rw [List.getElem?_append_right (by omega)] at e1
    rw [List.getElem?_append_right (by rw [← x.1]; omega)] at e2
    have hz : i - ps.length = 0 := by
      obtain ⟨h1, _⟩ := List.getElem?_eq_some_iff.mp e1
      simp at h1
      omega
    rw [hz] at e1
    rw [← x.1, hz] at e2
    cases e1
    cases e2
    exact h
theorem PtsAt.at_ (x : PtsAt R H ps xs) {i : Nat} {v : V} (e : (ps.map V.ref)[i]? = some v) : ∃ q y, v = .ref q ∧ xs[i]? = some y ∧ R H q y := by
  rw [List.getElem?_map] at e
  cases h : ps[i]? with
  | none => rw [h] at e; cases e
  | some q =>
    rw [h] at e
    cases e
    have h2 : i < xs.length := by rw [← x.1]; exact (List.getElem?_eq_some_iff.mp h).1
    exact ⟨q, xs[i], rfl, List.getElem?_eq_getElem h2, x.2 i q _ h (List.getElem?_eq_getElem h2)⟩
theorem PtsAt.get (x : PtsAt R H ps xs) {i : Nat} {y : α} (e : xs[i]? = some y) : ∃ q, (ps.map V.ref)[i]? = some (.ref q) ∧ R H q y := by
  have h2 : i < ps.length := by rw [x.1]; exact (List.getElem?_eq_some_iff.mp e).1
  exact ⟨ps[i], by rw [List.getElem?_map, List.getElem?_eq_getElem h2]; rfl, x.2 i _ y (List.getElem?_eq_getElem h2) e⟩
end
end GX
set_option Elab.async false
set_option linter.all false
set_option maxRecDepth 100000
set_option maxHeartbeats 4000000
namespace GX
open PySem PySem.Spec PyProof.Rows L2
/-- the well, the tables stand; all else is kept -/
structure Dk (W : Addr) (Ts : List Addr) (H H' : Hp) : Prop where
  wl : Wl H' W
  tb : Tabs Ts H'
  kp : Keep (W :: Ts) H H'
theorem Dk.aft {W : Addr} {Ts : List Addr} {H H1 H2 : Hp} (d : Dk W Ts H H1) (a : Aft Ts H1 H2) : Dk W Ts H H2 := ⟨d.wl.keep a.kp (d.wl.tab d.tb), a.tb, d.kp.trans (a.kp.mono fun b hb => List.mem_cons_of_mem _ hb)⟩
theorem Dk.same {W : Addr} {Ts : List Addr} {H H1 H2 : Hp} (d : Dk W Ts H H1) (s : Same H1 H2) : Dk W Ts H H2 := d.aft (Aft.ofSame d.tb s)
theorem Wk.tabs {W : Addr} {Ts : List Addr} {H H1 : Hp} (wl : Wl H W) (tb : Tabs Ts H) (s : Wk W H H1) : Tabs Ts H1 := tb.keep s.kp fun b hb => by rw [List.mem_singleton.mp hb]; exact wl.tab tb
theorem Dk.draw {W : Addr} {Ts : List Addr} {H H1 H2 : Hp} (d : Dk W Ts H H1) (s : Wk W H1 H2) : Dk W Ts H H2 := ⟨s.wl, s.tabs d.wl d.tb, d.kp.trans (s.kp.mono fun b hb => by rw [List.mem_singleton.mp hb]; exact List.mem_cons_self)⟩
/-- a list of our own, made behind H, is changed -/
theorem Dk.put {W : Addr} {Ts : List Addr} {H H1 : Hp} {l : Addr} {o : HO} {xs : List V} (d : Dk W Ts H H1) (nl : H l = none) (hl : H1 l = some (.lst xs)) (nW : l ≠ W) : Dk W Ts H (upd H1 l o) :=
  ⟨by obtain ⟨x, y, z, e⟩ := d.wl; exact ⟨x, y, z, by rw [upd_ne (fun z => nW z.symm)]; exact e⟩, d.tb.upd (d.tb.lst hl), fun b u e n => by rw [upd_ne (ne_of_none e nl)]; exact d.kp b u e n⟩
theorem Dk.was {W : Addr} {Ts : List Addr} {H H1 : Hp} {l : Addr} (d : Dk W Ts H H1) (n : H1 l = none) : H l = none ∧ l ≠ W := by
  have hW : l ≠ W := fun z => by
    obtain ⟨_, _, _, e⟩ := d.wl
    rw [← z, n] at e
    cases e
  refine ⟨?_, hW⟩
  cases e : H l with
  | none => rfl
  | some u =>
    have := d.kp _ _ e fun z => by
      rcases List.mem_cons.mp z with z | z
      · exact hW z
      · exact d.tb.none n z
    rw [n] at this
    cases this
theorem Wk.put' {W : Addr} {H H' : Hp} {l : Addr} {o : HO} (s : Wk W H H') (nl : H l = none) (nW : l ≠ W) : Wk W H (upd H' l o) := by
  obtain ⟨⟨a, b, c, e⟩, k⟩ := s
  exact ⟨⟨a, b, c, by rw [upd_ne (Ne.symm nW)]; exact e⟩, fun b u e hb => by rw [upd_ne (ne_of_none e nl)]; exact k b u e hb⟩
theorem Wk.was' {W : Addr} {H H' : Hp} {l : Addr} (s : Wk W H H') (n : H' l = none) : H l = none ∧ l ≠ W := by
  obtain ⟨⟨a, b, c, e⟩, k⟩ := s
  have hW : l ≠ W := fun z => by
    rw [← z, n] at e
    cases e
  refine ⟨?_, hW⟩
  cases e : H l with
  | none => rfl
  | some u =>
    have := k _ _ e fun z => hW (List.mem_singleton.mp z)
    rw [n] at this
    cases this
theorem Wk.ats {W : Addr} {H H' : Hp} {l : Addr} {o : HO} (k : Keep [W] H H') (nW : l ≠ W) (e : H l = some o) : H' l = some o := k _ _ e fun z => nW (List.mem_singleton.mp z)
def natOf (σ : L2.St) (i : Nat) : Nat := match σ[i]? with
  | some (some (V.int z)) => z.toNat
  | _ => 0
def lenOf (σ : L2.St) (H : Hp) (i : Nat) : Nat := match σ[i]? with
  | some (some (V.ref l)) => match H l with
    | some (HO.lst xs) => xs.length
    | _ => 0
  | _ => 0
end GX
set_option Elab.async false
set_option linter.all false
set_option maxRecDepth 100000
set_option maxHeartbeats 4000000
/-! list(reversed(xs)), xs a list. -/
namespace GX
open PySem PySem.Spec PyProof.Rows L2 RT
section
variable {P : Program} {w : World} {A : Around} {E : Value → Shared → Prop} {s : Shared}
/-- what is taken off a list from behind -/
abbrev BackOf (its : Array Value) (i : Nat) (v : Value) : Prop := its[its.size - 1 - i]? = some v
theorem ext_rev {R : Result → Shared → Prop} {it l S : Addr} {its : Array Value} {res : Value} {c0 : Nat} (hh : A.handled = none) (r : s.heap.IsRevIter it l ((its.size : Int) - 1)) (hl : s.heap.IsList l its) (ne : l ≠ it) (hz : its.size ≤ sizeLine)
    (nI : S ≠ it) (nl : S ≠ l) (hS : s.heap.get? S = some { cls := .type "list", data := .seq #[] c0 })
    (q : ∀ g tk acc c, (∀ b o, b ≠ S → b ≠ it → s.heap.get? b = some o → g.get? b = some o) → g.get? S = some { cls := .type "list", dict := none, data := .seq acc c, slots := #[] } → ItemsOf (BackOf its) acc its.size → R (.ok (.ret res)) { s with heap := g, toks := tk }) :
    wpAny (model P w) A.in1 (Builtin.List.listExtendWith (.ref S) (.ref it) res)
      (fun fin t => match fin with | .done f => R (.ok f) t | .again c' => c'.quiet = true ∧ codeAny (model P w) A c' R t) (fun e t => R (.error e) t) s := by
  have wk := (Walks.listRev (prog := P) (w := w) (A := A.in1) hh it l ne its).toS
  have ty : s.TypeIs (.ref it) "list_reverseiterator" := r.typeIs
  have nf : S ∉ [it, l] := fun z => by
    rcases List.mem_cons.mp z with z | z
    · exact nI z
    · exact nl (List.mem_singleton.mp z)
  have ns : Builtin.List.listSameRef (.ref S) (.ref it) = false := by simp [Builtin.List.listSameRef, nI]
  unfold Builtin.List.listExtendWith
  refine wpAny_bind (wpAny_typeOf ty ?_)
  rw [if_neg (by rw [ns]; decide)]
  refine wpAny_bind (wpAny_pyIter_revIter r ?_)
  refine wpAny_bind (wpAny_holding ?_)
  unfold Builtin.List.listLengthHint
  refine wpAny_bind (wpAny_specialOf ty nolen_lri ?_)
  show wpAny _ A.in1 (specialOf (Value.ref it) (Str.ofString "__length_hint__") >>= _) _ _ s
  refine wpAny_bind (wpAny_specialOf ty hint_lri ?_)
  generalize hj : ("list_reverseiterator.__length_hint__" : String) = j
  wp_delta
  rw [show splitId j = some ("list_reverseiterator", "__length_hint__") from by subst hj; decide +kernel]
  subst hj
  refine wpAny_bind (wpAny_isInstance (b := true) ty (by rw [isSubtype_type]; kernel_rfl) ?_)
  refine wpAny_pure ?_
  rw [if_neg (by decide)]
  have z0 : ((its.size : Nat) : Int) - 1 - ((0 : Nat) : Int) = (its.size : Int) - 1 := by omega
  refine wpAny_pure ⟨plainId_quiet F.plain_extend_loop _, codeAny_extend_loopS wk hz S nf res its.size 0 s #[] c0 rfl (Nat.zero_le _) ⟨Nat.zero_le _, by rw [z0]; exact r, hl⟩ hS (ItemsOf.nil _) fun t acc c mv hS' hi => ?_⟩
  rw [Moved.eq_with mv]
  refine q t.heap t.toks acc c (fun b o h1 h2 e => mv.heap b o (fun z => ?_) e) hS' hi
  rcases List.mem_cons.mp z with z | z
  · exact h1 z
  · exact h2 (List.mem_singleton.mp z)
theorem call_list_rev {it l : Addr} {its : Array Value} {Q : Value → Shared → Prop} (hh : A.handled = none) (r : s.heap.IsRevIter it l ((its.size : Int) - 1)) (hl : s.heap.IsList l its) (ne : l ≠ it) (hz : its.size ≤ sizeLine)
    (q : ∀ g tk acc c, (∀ b o, b ≠ it → s.heap.get? b = some o → g.get? b = some o) → g.get? s.heap.objs.size = some { cls := .type "list", dict := none, data := .seq acc c, slots := #[] } → ItemsOf (BackOf its) acc its.size → Q (.ref s.heap.objs.size) { s with heap := g, toks := tk }) :
    wpAny (model P w) A (call (.type "list") [.ref it]) Q E s := by
  have n1 : s.heap.objs.size ≠ it := by obtain ⟨o, h, _⟩ := id r; exact Nat.ne_of_gt (Heap.lt_size h)
  have n2 : s.heap.objs.size ≠ l := by obtain ⟨o, h, _⟩ := id hl; exact Nat.ne_of_gt (Heap.lt_size h)
  refine callType_codes (Q₁ := fun v t => v = .ref s.heap.objs.size ∧ t = { s with heap := s.heap.push { cls := .type "list", data := .seq #[] } }) F.called_list (F.typeCall_list_1 _) F.entry_list_init
    (code_list_new _ ⟨rfl, rfl⟩) fun v t ht => ?_
  obtain ⟨rfl, rfl⟩ := ht
  have e0 : (s.heap.push { cls := .type "list", data := .seq #[] }).get? s.heap.objs.size = some { cls := .type "list", data := .seq #[] } := Heap.get?_push_size _ rfl
  refine ⟨⟨_, e0, rfl⟩, F.args_list_init_2 _ _, ?_⟩
  show wpAny _ A.in1.in1 (do let x ← Builtin.List.listItems (.ref s.heap.objs.size); Builtin.List.listUpdate (.ref s.heap.objs.size) (fun _ => #[]); letGo x.toList.reverse; Builtin.List.listExtendWith (.ref s.heap.objs.size) (.ref it) .none) _ _ _
  refine wpAny_bind ?_
  unfold Builtin.List.listItems
  refine wpAny_bind (wpAny_seqItems e0 rfl (wpAny_pure ?_))
  show wpAny _ A.in1.in1 (updateSeq s.heap.objs.size (fun _ => #[]) >>= fun _ => letGo (#[] : Array Value).toList.reverse >>= fun _ => Builtin.List.listExtendWith (.ref s.heap.objs.size) (.ref it) .none) _ _ _
  refine wpAny_bind (wpAny_updateSeq e0 rfl ?_)
  have e1 := Heap.get?_update_self (Obj.mapSeq (fun _ => (#[] : Array Value))) e0 rfl
  have up : ∀ b o, b ≠ s.heap.objs.size → s.heap.get? b = some o → ((s.heap.push { cls := .type "list", data := .seq #[] }).update s.heap.objs.size (Obj.mapSeq (fun _ => (#[] : Array Value)))).get? b = some o := fun b o hb e =>
    (Heap.get?_update_other _ _ (Ne.symm hb)).trans (Heap.get?_push_of_some _ e)
  refine wpAny_bind (wpAny_letGo ?_)
  refine ext_rev (A := A.in1) hh ?_ ?_ ne hz n1 n2 e1 fun g tk acc c kp hS hi => ⟨rfl, q g tk acc c (fun b o hb e => ?_) hS hi⟩
  · exact r.at fun o e => up _ o (Ne.symm n1) e
  · obtain ⟨o, h, k⟩ := id hl
    exact ⟨o, up _ o (Ne.symm n2) h, k⟩
  · have hb' : b ≠ s.heap.objs.size := Nat.ne_of_lt (Heap.lt_size e)
    exact kp b o hb' hb (up b o hb' e)
end
section
variable {X : Cx}
def tLstRev (K : PySem.W.Frag) (te : TE) : TE := fun σ H Q => te σ H fun v H1 => ∃ (a : Addr) (xs : List V), v = .ref a ∧ SqL K H1 a xs ∧ ∀ l, H1 l = none → Q (.ref l) (upd H1 l (.lst xs.reverse))
theorem pe_lstRev {e : Expr} {te : TE} {p p2 pos pos2 : Pos} (hc : X.calm = true) (g1 : Gl X "list") (m1 : X.mg "list" = none) (g2 : Gl X "reversed") (m2 : X.mg "reversed" = none) (he : PE X e te)
    (s1 : starEach [e] X.env = (false, eval e X.env) :: starEach [] X.env := by rfl)
    (s2 : starEach [.Call (.Name "reversed" p2) [e] [] pos2] X.env = (false, eval (.Call (.Name "reversed" p2) [e] [] pos2) X.env) :: starEach [] X.env := by rfl) :
    PE X (.Call (.Name "list" p) [.Call (.Name "reversed" p2) [e] [] pos2] [] pos) (tLstRev X.K te) := by
  refine ⟨fun pins s σ H Q I h => ?_⟩
  refine Call_ (ld_blt I g1 m1 boot_list (PyProof.Rows.callWith_type1 (args_cons (Call_ (ld_blt I g2 m2 PyProof.Rows.boot_reversed (PyProof.Rows.callWith_type1 (args_cons (thn (he.run pins s σ H _ I h) fun u t ⟨v, H1, I1, r1, q1⟩ => args_nil ?_) s1) s1 rfl))) s2) s2 rfl))
  obtain ⟨a, xs, ev, hq, q⟩ := q1
  subst ev
  obtain rfl : u = Value.ref a := r1
  obtain ⟨its, rv, pl, hz⟩ := I1.list hq
  refine call_reversed_list pl.isList (args_nil ?_)
  have hl := pl.isList
  have ne : a ≠ t.heap.objs.size := by obtain ⟨o, ho, _⟩ := id hl; exact Nat.ne_of_lt (Heap.lt_size ho)
  have hn : its.toArray.size ≤ sizeLine := by rw [List.size_toArray, ← rv.length]; exact hz
  refine call_list_rev (s := { t with heap := t.heap.push (revObj a ((its.toArray.size : Int) - 1)) }) (I1.ok.hd hc) ⟨_, Heap.get?_push_size _ rfl, rfl, rfl⟩ (hl.push _) ne hn fun g tk acc c kp hS hi => ?_
  have le : t.heap.objs.size ≤ (t.heap.push (revObj a ((its.toArray.size : Int) - 1))).objs.size := by rw [Heap.size_push]; exact Nat.le_succ _
  refine ⟨.ref (t.heap.push (revObj a ((its.toArray.size : Int) - 1))).objs.size, _, I1.laid (t' := tk) (fun b o e => kp b o (Nat.ne_of_lt (Heap.lt_size e)) (Heap.get?_push_of_some _ e)) le (show ObjOk X.prog X.w _ g _ (.lst xs.reverse) from ⟨by rw [List.length_reverse]; exact hz, acc.toList, c, vals_rev rv hi, ?_⟩), rfl, q _ (I1.hok.fresh le)⟩
  rw [Array.toArray_toList]
  exact hS
end
end GX
set_option Elab.async false
set_option linter.all false
set_option maxRecDepth 100000
set_option maxHeartbeats 4000000
/-! A deck: a list with a list of cells, a seed and a count. -/
namespace GX
open PySem PySem.Spec PyProof.Rows L2
structure Wd (H : Hp) (W C : Addr) : Prop where
  ex : ∃ (ns : List Int) (a b : Int), H W = some (.lst [.ref C, .int a, .int b]) ∧ H C = some (.lst (ns.map V.int)) ∧ ns.length ≤ 64
  ne : W ≠ C
theorem Wd.nt {H : Hp} {W C : Addr} (h : Wd H W C) : ∀ b ∈ [W, C], ∀ xs, H b ≠ some (.tup xs) := fun b hb xs e => by
  obtain ⟨ns, a, c, e1, e2, _⟩ := h.ex
  rcases List.mem_cons.mp hb with z | z
  · rw [z, e1] at e
    cases e
  · rw [List.mem_singleton.mp z, e2] at e
    cases e
theorem Wd.same {H H' : Hp} {W C : Addr} (h : Wd H W C) (s : Same H H') : Wd H' W C := by
  obtain ⟨⟨ns, a, c, e1, e2, l⟩, ne⟩ := h
  exact ⟨⟨ns, a, c, s _ _ e1, s _ _ e2, l⟩, ne⟩
theorem Wd.keep {X : List Addr} {H H' : Hp} {W C : Addr} (h : Wd H W C) (k : Keep X H H') (n : W ∉ X) (m : C ∉ X) : Wd H' W C := by
  obtain ⟨⟨ns, a, c, e1, e2, l⟩, ne⟩ := h
  exact ⟨⟨ns, a, c, k _ _ e1 n, k _ _ e2 m, l⟩, ne⟩
theorem Wd.tabW {Ts : List Addr} {H : Hp} {W C : Addr} (h : Wd H W C) (t : Tabs Ts H) : W ∉ Ts := by
  obtain ⟨ns, a, c, e1, e2, _⟩ := h.ex
  exact t.lst e1
theorem Wd.tabC {Ts : List Addr} {H : Hp} {W C : Addr} (h : Wd H W C) (t : Tabs Ts H) : C ∉ Ts := by
  obtain ⟨ns, a, c, e1, e2, _⟩ := h.ex
  exact t.lst e2
/-- the deck stands, all else is kept -/
structure Wk2 (W C : Addr) (H H' : Hp) : Prop where
  wl : Wd H' W C
  kp : Keep [W, C] H H'
theorem Wk2.nxt {W C : Addr} {H H1 H2 : Hp} (s : Wk2 W C H H1) (t : Wk2 W C H1 H2) : Wk2 W C H H2 := ⟨t.wl, s.kp.trans t.kp⟩
theorem Wk2.same {W C : Addr} {H H1 H2 : Hp} (s : Wk2 W C H H1) (e : Same H1 H2) : Wk2 W C H H2 := ⟨s.wl.same e, s.kp.trans (Same.keep e)⟩
theorem Wk2.new {W C : Addr} {H H1 : Hp} {p : Addr} {o : HO} (s : Wk2 W C H H1) (n : H1 p = none) : Wk2 W C H (upd H1 p o) := s.same (Same.new n)
theorem Wk2.refl {W C : Addr} {H : Hp} (h : Wd H W C) : Wk2 W C H H := ⟨h, Keep.refl⟩
theorem Wd.tup {H H' : Hp} {W C : Addr} (h : Wd H W C) (k : Wk2 W C H H') {b : Addr} {xs : List V} (e : H b = some (.tup xs)) : H' b = some (.tup xs) := k.kp.tups h.nt b xs e
theorem Wd.new {H : Hp} {W C l : Addr} (h : Wd H W C) (n : H l = none) : l ≠ W ∧ l ≠ C := by
  obtain ⟨ns, a, c, e1, e2, _⟩ := h.ex
  refine ⟨fun z => ?_, fun z => ?_⟩
  · rw [← z, n] at e1
    cases e1
  · rw [← z, n] at e2
    cases e2
theorem Wk2.at_ {W C : Addr} {H H' : Hp} {l : Addr} {o : HO} (k : Wk2 W C H H') (n : l ≠ W ∧ l ≠ C) (e : H l = some o) : H' l = some o := k.kp _ _ e fun z => by
  rcases List.mem_cons.mp z with z | z
  · exact n.1 z
  · exact n.2 (List.mem_singleton.mp z)
theorem Wk2.was {W C : Addr} {H H' : Hp} {l : Addr} (k : Wk2 W C H H') (n : H' l = none) : H l = none := by
  obtain ⟨n1, n2⟩ := k.wl.new n
  cases e : H l with
  | none => rfl
  | some u =>
    have := k.at_ ⟨n1, n2⟩ e
    rw [n] at this
    cases this
/-- a list of our own is changed -/
theorem Wk2.put {W C : Addr} {H H' : Hp} {l : Addr} {o : HO} (s : Wk2 W C H H') (nl : H l = none) (n : l ≠ W ∧ l ≠ C) : Wk2 W C H (upd H' l o) := by
  obtain ⟨⟨⟨ns, a, c, e1, e2, z⟩, ne⟩, k⟩ := s
  exact ⟨⟨⟨ns, a, c, by rw [upd_ne (Ne.symm n.1)]; exact e1, by rw [upd_ne (Ne.symm n.2)]; exact e2, z⟩, ne⟩, fun b u e hb => by rw [upd_ne (ne_of_none e nl)]; exact k b u e hb⟩
theorem tupPut {H : Hp} {l : Addr} {xs ys : List V} (h : H l = some (.lst xs)) : ∀ b zs, H b = some (.tup zs) → upd H l (.lst ys) b = some (.tup zs) := fun b zs e => by
  rw [upd_ne (fun z => by rw [z, h] at e; cases e)]
  exact e
/-- the deck, the tables stand; all else is kept -/
structure Dk2 (W C : Addr) (Ts : List Addr) (H H' : Hp) : Prop where
  wl : Wd H' W C
  tb : Tabs Ts H'
  kp : Keep (W :: C :: Ts) H H'
theorem Dk2.aft {W C : Addr} {Ts : List Addr} {H H1 H2 : Hp} (d : Dk2 W C Ts H H1) (a : Aft Ts H1 H2) : Dk2 W C Ts H H2 := ⟨d.wl.keep a.kp (d.wl.tabW d.tb) (d.wl.tabC d.tb), a.tb, d.kp.trans (a.kp.mono fun b hb => List.mem_cons_of_mem _ (List.mem_cons_of_mem _ hb))⟩
theorem Dk2.same {W C : Addr} {Ts : List Addr} {H H1 H2 : Hp} (d : Dk2 W C Ts H H1) (s : Same H1 H2) : Dk2 W C Ts H H2 := d.aft (Aft.ofSame d.tb s)
theorem Wk2.tabs {W C : Addr} {Ts : List Addr} {H H1 : Hp} (wl : Wd H W C) (tb : Tabs Ts H) (s : Wk2 W C H H1) : Tabs Ts H1 := tb.keep s.kp fun b hb => by
  rcases List.mem_cons.mp hb with z | z
  · rw [z]; exact wl.tabW tb
  · rw [List.mem_singleton.mp z]; exact wl.tabC tb
theorem Dk2.draw {W C : Addr} {Ts : List Addr} {H H1 H2 : Hp} (d : Dk2 W C Ts H H1) (s : Wk2 W C H1 H2) : Dk2 W C Ts H H2 := ⟨s.wl, s.tabs d.wl d.tb, d.kp.trans (s.kp.mono fun b hb => by
  rcases List.mem_cons.mp hb with z | z
  · rw [z]; exact List.mem_cons_self
  · rw [List.mem_singleton.mp z]; exact List.mem_cons_of_mem _ List.mem_cons_self)⟩
theorem Dk2.put {W C : Addr} {Ts : List Addr} {H H1 : Hp} {l : Addr} {o : HO} {xs : List V} (d : Dk2 W C Ts H H1) (nl : H l = none) (hl : H1 l = some (.lst xs)) (n : l ≠ W ∧ l ≠ C) : Dk2 W C Ts H (upd H1 l o) :=
  ⟨by obtain ⟨⟨ns, x, y, e, e2, z⟩, ne⟩ := d.wl; exact ⟨⟨ns, x, y, by rw [upd_ne (Ne.symm n.1)]; exact e, by rw [upd_ne (Ne.symm n.2)]; exact e2, z⟩, ne⟩, d.tb.upd (d.tb.lst hl), fun b u e m => by rw [upd_ne (ne_of_none e nl)]; exact d.kp b u e m⟩
theorem Dk2.was {W C : Addr} {Ts : List Addr} {H H1 : Hp} {l : Addr} (d : Dk2 W C Ts H H1) (n : H1 l = none) : H l = none := by
  obtain ⟨n1, n2⟩ := d.wl.new n
  cases e : H l with
  | none => rfl
  | some u =>
    have := d.kp _ _ e fun z => by
      rcases List.mem_cons.mp z with z | z
      · exact n1 z
      · rcases List.mem_cons.mp z with z | z
        · exact n2 z
        · exact d.tb.none n z
    rw [n] at this
    cases this
theorem Own.same' {H H1 H2 : Hp} {l : Addr} {xs : List V} (o : Own H H1 l xs) (s : Same H1 H2) : Own H H2 l xs := ⟨o.sm.trans s, s _ _ o.at_, o.nw⟩
/-- a while by a measure, its test read once -/
theorem while_at {c : TT} {tb : TS} {D : Ends} {σ : L2.St} {H : Hp} (Pv : L2.St → Hp → Prop) (μ : L2.St → Hp → Nat) (h0 : Pv σ H)
    (hs : ∀ σ H, Pv σ H → c σ H fun b H1 => if b = true then ∃ N : L2.St → Hp → Prop, (∀ σ' H', N σ' H' → ∃ m', m' < μ σ H ∧ (m' = μ σ' H' ∧ Pv σ' H')) ∧ tb { D with nx := N, ct := N, bk := D.nx } σ H1 else D.nx σ H1) : tWhile c tb D σ H := by
  refine ⟨fun m σ H => m = μ σ H ∧ Pv σ H, ⟨_, rfl, h0⟩, ?_⟩
  rintro m σ H ⟨rfl, p⟩
  exact hs σ H p
theorem whN {Pv : L2.St → Hp → Prop} {μ : L2.St → Hp → Nat} {m : Nat} : ∀ σ' H', (Pv σ' H' ∧ μ σ' H' < m) → ∃ m', m' < m ∧ (m' = μ σ' H' ∧ Pv σ' H') := fun σ' H' h => ⟨_, h.2, rfl, h.1⟩
theorem dpInt (K : PySem.W.Frag) (H : Hp) : ∀ xs : List Int, DpAll K H (xs.map V.int) (xs.map PyData.int)
  | [] => .nil
  | x :: r => .cons (.int _) (dpInt K H r)
theorem eqvAllN {xs : List PyData} : PyData.eqvAll xs [] = decide (xs.length = 0) := by cases xs <;> rfl
theorem len64 {n : Nat} (h : n ≤ 100000) : n < sizeLine := Nat.lt_of_le_of_lt h (by decide)
end GX
set_option Elab.async false
set_option linter.all false
set_option maxRecDepth 100000
set_option maxHeartbeats 4000000
/-! Covers as data, and how they stand in the heap; dicts of wires. -/
namespace GX
open PySem PySem.Spec PyProof.Rows L2
theorem Same.was {H H' : Hp} {l : Addr} (s : Same H H') (n : H' l = none) : H l = none := by
  cases e : H l with
  | none => rfl
  | some u => cases ((s _ _ e).symm.trans n)
abbrev Tb := Nat × List Nat
def TbAt (H : Hp) (p : Addr) (t : Tb) : Prop := ∃ c, H p = some (.tup [nV t.1, .ref c]) ∧ H c = some (.tup (t.2.map nV))
theorem TbAt.mono {H H' : Hp} (k : ∀ b xs, H b = some (.tup xs) → H' b = some (.tup xs)) (p : Addr) (t : Tb) (x : TbAt H p t) : TbAt H' p t := by
  obtain ⟨c, h1, h2⟩ := x
  exact ⟨c, k _ _ h1, k _ _ h2⟩
structure CovAt (H : Hp) (a : Addr) (cv : List Tb) (ps : List Addr) : Prop where
  top : H a = some (.tup (ps.map V.ref))
  ts : PtsAt TbAt H ps cv
theorem CovAt.mono {H H' : Hp} {a : Addr} {cv : List Tb} {ps : List Addr} (x : CovAt H a cv ps) (k : ∀ b xs, H b = some (.tup xs) → H' b = some (.tup xs)) : CovAt H' a cv ps := ⟨k _ _ x.top, x.ts.mono (TbAt.mono k)⟩
theorem CovAt.same {H H' : Hp} {a : Addr} {cv : List Tb} {ps : List Addr} (x : CovAt H a cv ps) (s : Same H H') : CovAt H' a cv ps := x.mono fun b xs e => s _ _ e
inductive Need (n : Net) (cv : List Tb) : Nat → Prop
  | out {o : Nat} : o ∈ n.outs → n.many ≤ o → Need n cv o
  | step {t : Tb} {x : Nat} : t ∈ cv → Need n cv t.1 → x ∈ t.2 → n.many ≤ x → Need n cv x
theorem Need.more {n : Net} {cv cv' : List Tb} (s : ∀ t ∈ cv, t ∈ cv') {x : Nat} (h : Need n cv x) : Need n cv' x := by
  induction h with
  | out h1 h2 => exact .out h1 h2
  | step ht _ hx hm ih => exact .step (s _ ht) ih hx hm
structure CovOk (n : Net) (k : Nat) (cv : List Tb) : Prop where
  rise : cv.Pairwise (fun a b => a.1 < b.1)
  gt : ∀ t ∈ cv, n.many ≤ t.1 ∧ t.1 < n.many + n.gates.length
  cut : ∀ t ∈ cv, CutOk n t.1 t.2 ∧ t.2.length ≤ k
  outs : ∀ o ∈ n.outs, n.many ≤ o → ∃ t ∈ cv, t.1 = o
  clo : ∀ t ∈ cv, ∀ x ∈ t.2, n.many ≤ x → ∃ u ∈ cv, u.1 = x
theorem rise_uniq {cv : List Tb} (h : cv.Pairwise (fun a b => a.1 < b.1)) {t u : Tb} (ht : t ∈ cv) (hu : u ∈ cv) (e : t.1 = u.1) : t = u := by
  induction cv with
  | nil => cases ht
  | cons a r ih =>
    obtain ⟨h1, h2⟩ := List.pairwise_cons.mp h
    rcases List.mem_cons.mp ht with e1 | e1
    · rcases List.mem_cons.mp hu with e2 | e2
      · rw [e1, e2]
      · have := h1 u e2
        rw [e1] at e
        omega
    · rcases List.mem_cons.mp hu with e2 | e2
      · have := h1 t e1
        rw [e2] at e
        omega
      · exact ih h2 e1 e2
theorem CovOk.len {n : Net} (ok : n.Ok) {k : Nat} {cv : List Tb} (c : CovOk n k cv) : cv.length ≤ 24 := by
  have h1 : (cv.map fun t : Tb => t.1).Nodup := by
    rw [List.nodup_iff_pairwise_ne, List.pairwise_map]
    exact c.rise.imp fun h => Nat.ne_of_lt h
  have := nodup_lt (m := n.many + n.gates.length) h1 fun y hy => by
    obtain ⟨t, ht, rfl⟩ := List.mem_map.mp hy
    exact (c.gt t ht).2
  rw [List.length_map] at this
  have := ok.m8
  have := ok.g16
  omega
/-! ### a dict whose keys are these numbers -/
def nK (x : Nat) : L2.Key := .inl (x : Int)
theorem nK_inj {x y : Nat} (h : nK x = nK y) : x = y := by
  have := Sum.inl.inj h
  omega
def KeysAt (H : Hp) (d : Addr) (S : Nat → Prop) (b : Nat) : Prop := ∃ kvs : List (L2.Key × V), H d = some (.dK kvs) ∧ kvs.length ≤ b ∧ ∀ x : Nat, (valV kvs (nK x)).isSome = true ↔ S x
theorem KeysAt.nil {H : Hp} {d : Addr} (h : H d = some (.dK [])) : KeysAt H d (fun _ => False) 0 := ⟨[], h, Nat.le_refl _, fun x => by rw [valV_nil]; exact ⟨fun z => (by cases z), fun z => z.elim⟩⟩
theorem put_isSome (kvs : List (L2.Key × V)) (x y : Nat) (v : V) : (valV (putK kvs (nK x) v) (nK y)).isSome = true ↔ (y = x ∨ (valV kvs (nK y)).isSome = true) := by
  rw [valV_put]
  by_cases e : nK y = nK x
  · rw [if_pos e]
    exact ⟨fun _ => .inl (nK_inj e), fun _ => rfl⟩
  · rw [if_neg e]
    exact ⟨fun z => .inr z, fun z => by rcases z with z | z; exact absurd (by rw [z]) e; exact z⟩
end GX
set_option Elab.async false
set_option linter.all false
set_option maxRecDepth 100000
set_option maxHeartbeats 4000000
/-! Least cuts, as lists and as masks. -/
namespace GX
open PySem PySem.Spec PyProof.Rows L2
/-! ### what tells -/
theorem Rc.via {n : Net} {st : List Nat} {g a y : Nat} {k : Nat × Nat × Nat} (hg : n.many ≤ g) (hk : n.gates[g - n.many]? = some k) (hp : a = k.2.1 ∨ a = k.2.2) (gs : g ∉ st) (r : Rc n st a n.many y) : Rc n st g n.many y := by
  induction r with
  | here h => exact .step (.here gs) hg hg hk hp h
  | step _ hg' hj hk' hp' hs ih => exact .step ih hg' hj hk' hp' hs
theorem Rc.split {n : Net} {st : List Nat} {g y : Nat} {k : Nat × Nat × Nat} (hk : n.gates[g - n.many]? = some k) (r : Rc n st g n.many y) : y = g ∨ Rc n st k.2.1 n.many y ∨ Rc n st k.2.2 n.many y := by
  induction r with
  | here h => exact .inl rfl
  | @step g' p k' _ hg' hj hk' hp' hs ih =>
    rcases ih with e | h | h
    · subst e
      rw [hk] at hk'
      cases hk'
      rcases hp' with rfl | rfl
      · exact .inr (.inl (.here hs))
      · exact .inr (.inr (.here hs))
    · exact .inr (.inl (.step h hg' hj hk' hp' hs))
    · exact .inr (.inr (.step h hg' hj hk' hp' hs))
theorem sep_gate {n : Net} {st : List Nat} {g : Nat} {k : Nat × Nat × Nat} (hg : n.many ≤ g) (hk : n.gates[g - n.many]? = some k) (gs : g ∉ st) : Sep n g st ↔ (Sep n k.2.1 st ∧ Sep n k.2.2 st) := by
  refine ⟨fun h => ⟨fun y r => h y (r.via hg hk (.inl rfl) gs), fun y r => h y (r.via hg hk (.inr rfl) gs)⟩, fun h y r => ?_⟩
  rcases r.split hk with e | r | r
  · rw [e]; exact hg
  · exact h.1 y r
  · exact h.2 y r
theorem sep_in {n : Net} {w : Nat} {st : List Nat} (h : w ∈ st) : Sep n w st := fun y r => by
  exfalso
  induction r with
  | here z => exact z h
  | step _ _ _ _ _ _ ih => exact ih
theorem sep_input {n : Net} {w : Nat} {st : List Nat} (h : w < n.many) : Sep n w st ↔ w ∈ st := by
  refine ⟨fun s => Classical.not_not.mp fun z => ?_, sep_in⟩
  have := s w (.here z)
  omega
theorem sep_none {n : Net} (ok : n.Ok) : ∀ b w, w ≤ b → w < n.many + n.gates.length → ¬ Sep n w []
  | b, w, hb, hw => fun s => by
    by_cases h : w < n.many
    · exact absurd ((sep_input h).mp s) List.not_mem_nil
    · obtain ⟨k, hk⟩ : ∃ k, n.gates[w - n.many]? = some k := ⟨_, List.getElem?_eq_getElem (by omega)⟩
      have lt := place_lt ok (by omega) hk (.inl rfl)
      cases b with
      | zero => omega
      | succ b => exact sep_none ok b k.2.1 (by omega) (by omega) ((sep_gate (by omega) hk List.not_mem_nil).mp s).1
theorem sep_congr {n : Net} {w : Nat} {st st' : List Nat} (h : ∀ x, x ∈ st ↔ x ∈ st') : Sep n w st ↔ Sep n w st' := ⟨fun s => s.more fun z hz => (h z).mp hz, fun s => s.more fun z hz => (h z).mpr hz⟩
/-- only wires up to w matter -/
theorem sep_low {n : Net} (ok : n.Ok) {w : Nat} {st st' : List Nat} (h : ∀ x, x ≤ w → x ∈ st → x ∈ st') (s : Sep n w st) : Sep n w st' := fun y r => by
  refine s y ?_
  induction r with
  | here z => exact .here fun z' => z (h _ (Nat.le_refl _) z')
  | step r hg hj hk hp hs ih => exact .step ih hg hj hk hp fun z' => hs (h _ ((Rc.step r hg hj hk hp hs).le ok) z')
/-! ### masks -/
def bitsOf (M : Nat) : List Nat := (List.range (Builtin.Int.intBits ((M : Nat) : Int))).filter fun x => M.testBit x
theorem mem_bits {M x : Nat} : x ∈ bitsOf M ↔ M.testBit x = true := by
  unfold bitsOf
  rw [List.mem_filter, List.mem_range]
  refine ⟨fun h => h.2, fun h => ⟨?_, h⟩⟩
  refine Nat.lt_of_not_le fun hle => ?_
  rw [intBits_le_iff, Int.natAbs_natCast] at hle
  rw [Nat.testBit_lt_two_pow hle] at h
  cases h
theorem bits_rise (M : Nat) : (bitsOf M).Pairwise (· < ·) := List.Pairwise.filter _ List.pairwise_lt_range
theorem bits_nodup (M : Nat) : (bitsOf M).Nodup := (bits_rise M).imp fun h => Nat.ne_of_lt h
theorem bits_inj {M N : Nat} (h : bitsOf M = bitsOf N) : M = N := by
  apply Nat.eq_of_testBit_eq
  intro j
  have : j ∈ bitsOf M ↔ j ∈ bitsOf N := by rw [h]
  rw [mem_bits, mem_bits] at this
  cases e : M.testBit j <;> cases e2 : N.testBit j <;> simp_all
def maskOf (c : List Nat) : Nat := c.foldr (fun x acc => 2 ^ x ||| acc) 0
theorem mask_bit (c : List Nat) (j : Nat) : (maskOf c).testBit j = decide (j ∈ c) := by
  induction c with
  | nil => exact Nat.zero_testBit j
  | cons x r ih =>
    show (2 ^ x ||| maskOf r).testBit j = _
    rw [Nat.testBit_or, ih, Nat.testBit_two_pow]
    rw [Bool.eq_iff_iff, Bool.or_eq_true, decide_eq_true_iff, decide_eq_true_iff, decide_eq_true_iff, List.mem_cons]
    exact ⟨fun h => h.imp Eq.symm id, fun h => h.imp Eq.symm id⟩
theorem bits_mask {c : List Nat} (h : c.Pairwise (· < ·)) : bitsOf (maskOf c) = c := rise_eq (bits_rise _) h fun z => by rw [mem_bits, mask_bit, decide_eq_true_iff]
theorem mask_bits (M : Nat) : maskOf (bitsOf M) = M := bits_inj (bits_mask (bits_rise M))
def Sub (f M : Nat) : Prop := ∀ j, f.testBit j = true → M.testBit j = true
theorem Sub.refl (M : Nat) : Sub M M := fun _ h => h
theorem Sub.trans {a b c : Nat} (h : Sub a b) (g : Sub b c) : Sub a c := fun j x => g j (h j x)
theorem sub_and {f M : Nat} : f &&& M = f ↔ Sub f M := by
  refine ⟨fun h j hj => ?_, fun h => ?_⟩
  · rw [← h, Nat.testBit_and, Bool.and_eq_true] at hj
    exact hj.2
  · apply Nat.eq_of_testBit_eq
    intro j
    rw [Nat.testBit_and]
    cases e : f.testBit j with
    | false => rfl
    | true => rw [h j e]; rfl
theorem Sub.le {f M : Nat} (h : Sub f M) : f ≤ M := by
  rw [← sub_and.mpr h]
  exact Nat.and_le_right
theorem Sub.anti {f M : Nat} (h : Sub f M) (g : Sub M f) : f = M := Nat.le_antisymm h.le g.le
theorem sub_zero {M : Nat} : Sub 0 M := fun j h => by rw [Nat.zero_testBit] at h; cases h
def pop (M : Nat) : Nat := (bitsOf M).length
theorem pop_sub {f M : Nat} (h : Sub f M) : pop f ≤ pop M := nodup_len (bits_nodup f) fun x hx => mem_bits.mpr (h x (mem_bits.mp hx))
theorem sub_or_left (f s : Nat) : Sub f (f ||| s) := fun j h => by rw [Nat.testBit_or, h]; rfl
theorem sub_or_right (f s : Nat) : Sub s (f ||| s) := fun j h => by rw [Nat.testBit_or, h, Bool.or_true]
theorem or_sub {f s M : Nat} (h : Sub f M) (g : Sub s M) : Sub (f ||| s) M := fun j hj => by
  rw [Nat.testBit_or, Bool.or_eq_true] at hj
  exact hj.elim (h j) (g j)
def Tm (n : Net) (w M : Nat) : Prop := Sep n w (bitsOf M)
theorem Tm.more {n : Net} {w M N : Nat} (h : Tm n w M) (s : Sub M N) : Tm n w N := Sep.more h fun z hz => mem_bits.mpr (s z (mem_bits.mp hz))
structure MinT (n : Net) (w M : Nat) : Prop where
  tl : Tm n w M
  min : ∀ f, Sub f M → Tm n w f → f = M
theorem min_ex {n : Net} {w : Nat} : ∀ b M, M ≤ b → Tm n w M → ∃ f, Sub f M ∧ MinT n w f
  | b, M, hb, h => by
    by_cases hm : ∀ f, Sub f M → Tm n w f → f = M
    · exact ⟨M, Sub.refl M, h, hm⟩
    · obtain ⟨f, hf⟩ := Classical.not_forall.mp hm
      obtain ⟨h1, h2⟩ := Classical.not_imp.mp hf
      obtain ⟨h3, h4⟩ := Classical.not_imp.mp h2
      have := h1.le
      cases b with
      | zero => omega
      | succ b =>
        obtain ⟨e, e1, e2⟩ := min_ex b f (by omega) h3
        exact ⟨e, e1.trans h1, e2⟩
theorem tm_zero {n : Net} (ok : n.Ok) {w : Nat} (hw : w < n.many + n.gates.length) : ¬ Tm n w 0 := by
  have : bitsOf 0 = [] := List.eq_nil_iff_forall_not_mem.mpr fun x hx => by
    have := mem_bits.mp hx
    rw [Nat.zero_testBit] at this
    cases this
  unfold Tm
  rw [this]
  exact sep_none ok w w (Nat.le_refl _) hw
/-- no greater wires -/
theorem MinT.low {n : Net} (ok : n.Ok) {w M : Nat} (h : MinT n w M) : ∀ x, M.testBit x = true → x ≤ w := fun x hx => by
  have e : M % 2 ^ (w + 1) = M := h.min _ (fun j hj => by
      rw [Nat.testBit_mod_two_pow, Bool.and_eq_true] at hj
      exact hj.2) (sep_low ok (fun y hy hm => mem_bits.mpr (by
        rw [Nat.testBit_mod_two_pow, decide_eq_true (by omega), Bool.true_and]
        exact mem_bits.mp hm)) h.tl)
  rw [← e, Nat.testBit_mod_two_pow, Bool.and_eq_true] at hx
  have := of_decide_eq_true hx.1
  omega
theorem bit_self (w : Nat) : (2 ^ w).testBit w = true := by rw [Nat.testBit_two_pow]; exact decide_eq_true rfl
theorem tm_self {n : Net} {w M : Nat} (h : M.testBit w = true) : Tm n w M := sep_in (mem_bits.mpr h)
theorem sub_pow {f w : Nat} (h : Sub f (2 ^ w)) : f = 0 ∨ f = 2 ^ w := by
  by_cases e : f.testBit w = true
  · right
    exact h.anti fun j hj => by
      rw [Nat.testBit_two_pow] at hj
      rw [← of_decide_eq_true hj]
      exact e
  · left
    apply Nat.eq_of_testBit_eq
    intro j
    rw [Nat.zero_testBit]
    cases e2 : f.testBit j with
    | false => rfl
    | true =>
      have := h j e2
      rw [Nat.testBit_two_pow] at this
      rw [of_decide_eq_true this] at e
      exact absurd e2 e
theorem min_pow {n : Net} (ok : n.Ok) {w : Nat} (hw : w < n.many + n.gates.length) : MinT n w (2 ^ w) := by
  refine ⟨tm_self (bit_self w), fun f hf ht => ?_⟩
  rcases sub_pow hf with e | e
  · rw [e] at ht
    exact absurd ht (tm_zero ok hw)
  · exact e
theorem min_has {n : Net} {w M : Nat} (h : MinT n w M) (e : M.testBit w = true) : M = 2 ^ w := by
  refine (h.min (2 ^ w) (fun j hj => ?_) (tm_self (bit_self w))).symm
  rw [Nat.testBit_two_pow] at hj
  rw [← of_decide_eq_true hj]
  exact e
theorem pop_pow (w : Nat) : pop (2 ^ w) = 1 := by
  have : bitsOf (2 ^ w) = [w] := rise_eq (bits_rise _) (List.pairwise_singleton _ _) fun z => by
    rw [mem_bits, Nat.testBit_two_pow, decide_eq_true_iff, List.mem_singleton]
    exact eq_comm
  unfold pop
  rw [this]
  rfl
/-- the masks of a wire -/
def ML (n : Net) (k w : Nat) (ms : List Nat) : Prop := ∀ M, M ∈ ms ↔ (MinT n w M ∧ pop M ≤ k ∧ M.testBit w = false)
theorem ML.input {n : Net} {k w : Nat} (h : w < n.many) : ML n k w [] := fun M => ⟨fun z => (by cases z), fun z => by
  have := mem_bits.mp ((sep_input h).mp z.1.tl)
  rw [z.2.2] at this
  cases this⟩
theorem ML.full {n : Net} (ok : n.Ok) {k w : Nat} {ms : List Nat} (hw : w < n.many + n.gates.length) (hk : 1 ≤ k) (h : ML n k w ms) (M : Nat) : M ∈ ms ++ [2 ^ w] ↔ (MinT n w M ∧ pop M ≤ k) := by
  rw [List.mem_append, List.mem_singleton, h]
  constructor
  · rintro (z | rfl)
    · exact ⟨z.1, z.2.1⟩
    · exact ⟨min_pow ok hw, by rw [pop_pow]; exact hk⟩
  · rintro ⟨h1, h2⟩
    cases e : M.testBit w with
    | false => exact .inl ⟨h1, h2, rfl⟩
    | true => exact .inr (min_has h1 e)
/-- what is found for a gate -/
def Found (k : Nat) (fs ss F : List Nat) : Prop := ∀ M, M ∈ F ↔ ∃ f ∈ fs, ∃ s ∈ ss, M = f ||| s ∧ pop M ≤ k
def hasPart (F : List Nat) (M : Nat) : Bool := F.any fun p => decide (0 < p ∧ p ≠ M ∧ p &&& M = p)
theorem hasPart_iff {F : List Nat} {M : Nat} : hasPart F M = true ↔ ∃ p ∈ F, 0 < p ∧ p ≠ M ∧ Sub p M := by
  unfold hasPart
  rw [List.any_eq_true]
  constructor
  · rintro ⟨p, hp, h⟩
    obtain ⟨h1, h2, h3⟩ := of_decide_eq_true h
    exact ⟨p, hp, h1, h2, sub_and.mp h3⟩
  · rintro ⟨p, hp, h1, h2, h3⟩
    exact ⟨p, hp, decide_eq_true ⟨h1, h2, sub_and.mpr h3⟩⟩
theorem gate_found {n : Net} (ok : n.Ok) {k g : Nat} {kk : Nat × Nat × Nat} {fs ss F : List Nat} (hg : n.many ≤ g) (hw : g < n.many + n.gates.length) (hkk : n.gates[g - n.many]? = some kk)
    (hf : ∀ M, M ∈ fs ↔ (MinT n kk.2.1 M ∧ pop M ≤ k)) (hs : ∀ M, M ∈ ss ↔ (MinT n kk.2.2 M ∧ pop M ≤ k)) (hF : Found k fs ss F) : ML n k g (F.filter fun M => !hasPart F M) := by
  have l1 := place_lt ok hg hkk (.inl rfl)
  have l2 := place_lt ok hg hkk (.inr rfl)
  have nog : ∀ M ∈ F, M.testBit g = false := fun M hM => by
    obtain ⟨f, h1, s, h2, rfl, _⟩ := (hF M).mp hM
    rw [Nat.testBit_or]
    cases e1 : f.testBit g with
    | true =>
      have := ((hf f).mp h1).1.low ok g e1
      omega
    | false =>
      cases e2 : s.testBit g with
      | true =>
        have := ((hs s).mp h2).1.low ok g e2
        omega
      | false => rfl
  have tell : ∀ M ∈ F, Tm n g M := fun M hM => by
    have hn : g ∉ bitsOf M := fun z => by
      have := mem_bits.mp z
      rw [nog M hM] at this
      cases this
    obtain ⟨f, h1, s, h2, rfl, _⟩ := (hF M).mp hM
    exact (sep_gate hg hkk hn).mpr ⟨((hf f).mp h1).1.tl.more (sub_or_left f s), ((hs s).mp h2).1.tl.more (sub_or_right f s)⟩
  have below : ∀ M, Tm n g M → M.testBit g = false → pop M ≤ k → ∃ M' ∈ F, Sub M' M := fun M ht hb hp => by
    have hn : g ∉ bitsOf M := fun z => by
      have := mem_bits.mp z
      rw [hb] at this
      cases this
    obtain ⟨t1, t2⟩ := (sep_gate hg hkk hn).mp ht
    obtain ⟨f, f1, f2⟩ := min_ex M M (Nat.le_refl _) t1
    obtain ⟨s, s1, s2⟩ := min_ex M M (Nat.le_refl _) t2
    have hsub := or_sub f1 s1
    exact ⟨f ||| s, (hF _).mpr ⟨f, (hf f).mpr ⟨f2, Nat.le_trans (pop_sub f1) hp⟩, s, (hs s).mpr ⟨s2, Nat.le_trans (pop_sub s1) hp⟩, rfl, Nat.le_trans (pop_sub hsub) hp⟩, hsub⟩
  have popF : ∀ M ∈ F, pop M ≤ k := fun M hM => by
    obtain ⟨_, _, _, _, _, h⟩ := (hF M).mp hM
    exact h
  intro M
  rw [List.mem_filter]
  constructor
  · rintro ⟨hM, hp⟩
    refine ⟨⟨tell M hM, fun f hf ht => Classical.not_not.mp fun ne => ?_⟩, popF M hM, nog M hM⟩
    have fb : f.testBit g = false := by
      cases e : f.testBit g with
      | false => rfl
      | true =>
        have := hf g e
        rw [nog M hM] at this
        cases this
    obtain ⟨M', h1, h2⟩ := below f ht fb (Nat.le_trans (pop_sub hf) (popF M hM))
    have hpart : hasPart F M = true := hasPart_iff.mpr ⟨M', h1, Nat.pos_of_ne_zero fun z => tm_zero ok hw (by rw [← z]; exact tell M' h1), fun z => ne (hf.anti (by rw [← z]; exact h2)), h2.trans hf⟩
    rw [hpart] at hp
    cases hp
  · rintro ⟨hm, hp, hb⟩
    obtain ⟨M', h1, h2⟩ := below M hm.tl hb hp
    have e : M' = M := hm.min M' h2 (tell M' h1)
    rw [e] at h1
    refine ⟨h1, ?_⟩
    cases hh : hasPart F M with
    | false => rfl
    | true =>
      obtain ⟨p, p1, p2, p3, p4⟩ := hasPart_iff.mp hh
      exact absurd (hm.min p p4 (tell p p1)) p3
/-! ### cuts as lists -/
structure LC (n : Net) (k g : Nat) (c : List Nat) : Prop where
  rise : c.Pairwise (· < ·)
  lt : ∀ x ∈ c, x < g
  sep : Sep n g c
  len : c.length ≤ k
  least : ∀ x ∈ c, ¬ Sep n g (c.filter fun y => decide (y ≠ x))
theorem lc_bits {n : Net} (ok : n.Ok) {k g M : Nat} (h : MinT n g M ∧ pop M ≤ k ∧ M.testBit g = false) : LC n k g (bitsOf M) := by
  obtain ⟨h1, h2, h3⟩ := h
  refine ⟨bits_rise M, fun x hx => ?_, h1.tl, h2, fun x hx hs => ?_⟩
  · have e := mem_bits.mp hx
    have := h1.low ok x e
    refine Nat.lt_of_le_of_ne this fun z => ?_
    rw [z, h3] at e
    cases e
  · have hr : ((bitsOf M).filter fun y => decide (y ≠ x)).Pairwise (· < ·) := (bits_rise M).filter _
    have ht : Tm n g (maskOf ((bitsOf M).filter fun y => decide (y ≠ x))) := by
      unfold Tm
      rw [bits_mask hr]
      exact hs
    have e := h1.min _ (fun j hj => by
      rw [mask_bit, decide_eq_true_iff] at hj
      exact mem_bits.mp (List.mem_filter.mp hj).1) ht
    have := mem_bits.mp hx
    rw [← e, mask_bit, decide_eq_true_iff] at this
    exact of_decide_eq_true (List.mem_filter.mp this).2 rfl
theorem bits_lc {n : Net} {k g : Nat} {c : List Nat} (h : LC n k g c) : MinT n g (maskOf c) ∧ pop (maskOf c) ≤ k ∧ (maskOf c).testBit g = false := by
  refine ⟨⟨by unfold Tm; rw [bits_mask h.rise]; exact h.sep, fun f hf ht => ?_⟩, by unfold pop; rw [bits_mask h.rise]; exact h.len, ?_⟩
  · refine Classical.not_not.mp fun ne => ?_
    obtain ⟨x, hx1, hx2⟩ : ∃ x, x ∈ c ∧ f.testBit x = false := by
      refine Classical.not_not.mp fun z => ne (hf.anti fun j hj => ?_)
      rw [mask_bit, decide_eq_true_iff] at hj
      cases e : f.testBit j with
      | true => rfl
      | false => exact absurd ⟨j, hj, e⟩ z
    refine h.least x hx1 (Sep.more ht fun z hz => List.mem_filter.mpr ⟨?_, decide_eq_true fun e => ?_⟩)
    · have := hf z (mem_bits.mp hz)
      rw [mask_bit, decide_eq_true_iff] at this
      exact this
    · have := mem_bits.mp hz
      rw [e, hx2] at this
      cases this
  · rw [mask_bit]
    exact decide_eq_false fun z => absurd (h.lt g z) (Nat.lt_irrefl _)
/-- the cuts of a gate, in order -/
abbrev lexN (a b : List Nat) : Bool := HT.lexLt (a.map fun n : Nat => (n : Int)) (b.map fun n : Nat => (n : Int))
structure CutsAre (n : Net) (k g : Nat) (cs : List (List Nat)) : Prop where
  mem : ∀ c, c ∈ cs ↔ LC n k g c
  nd : cs.Nodup
  srt : cs.Pairwise fun a b => lexN b a = false
theorem lex_tri : ∀ a b : List Nat, lexN a b = false → lexN b a = false → a = b
  | [], [], _, _ => rfl
  | [], y :: b, h, _ => by cases h
  | x :: a, [], _, h => by cases h
  | x :: a, y :: b, h1, h2 => by
    have h1' : (if ((x : Nat) : Int) = ((y : Nat) : Int) then lexN a b else decide (((x : Nat) : Int) < ((y : Nat) : Int))) = false := h1
    have h2' : (if ((y : Nat) : Int) = ((x : Nat) : Int) then lexN b a else decide (((y : Nat) : Int) < ((x : Nat) : Int))) = false := h2
    by_cases e : x = y
    · subst e
      rw [if_pos rfl] at h1' h2'
      rw [lex_tri a b h1' h2']
    · rw [if_neg (by omega)] at h1' h2'
      have := of_decide_eq_false h1'
      have := of_decide_eq_false h2'
      omega
theorem lex_uniq : ∀ {l m : List (List Nat)}, l.Nodup → m.Nodup → l.Pairwise (fun a b => lexN b a = false) → m.Pairwise (fun a b => lexN b a = false) → (∀ c, c ∈ l ↔ c ∈ m) → l = m
  | [], m, _, _, _, _, h => (List.eq_nil_iff_forall_not_mem.mpr fun x hx => by cases (h x).mpr hx).symm
  | x :: l, [], _, _, _, _, h => by cases (h x).mp List.mem_cons_self
  | x :: l, y :: m, n1, n2, s1, s2, h => by
    obtain ⟨a1, a2⟩ := List.pairwise_cons.mp s1
    obtain ⟨b1, b2⟩ := List.pairwise_cons.mp s2
    obtain ⟨c1, c2⟩ := List.nodup_cons.mp n1
    obtain ⟨d1, d2⟩ := List.nodup_cons.mp n2
    have e : x = y := by
      refine Classical.not_not.mp fun ne => ne ?_
      have hx := (List.mem_cons.mp ((h x).mp List.mem_cons_self)).resolve_left ne
      have hy := (List.mem_cons.mp ((h y).mpr List.mem_cons_self)).resolve_left (Ne.symm ne)
      exact lex_tri x y (b1 x hx) (a1 y hy)
    subst e
    rw [lex_uniq c2 d2 a2 b2 fun c => ?_]
    refine ⟨fun hc => ?_, fun hc => ?_⟩
    · exact (List.mem_cons.mp ((h c).mp (List.mem_cons_of_mem _ hc))).resolve_left fun z => c1 (by rw [← z]; exact hc)
    · exact (List.mem_cons.mp ((h c).mpr (List.mem_cons_of_mem _ hc))).resolve_left fun z => d1 (by rw [← z]; exact hc)
theorem CutsAre.uniq {n : Net} {k g : Nat} {cs ds : List (List Nat)} (h : CutsAre n k g cs) (d : CutsAre n k g ds) : cs = ds := lex_uniq h.nd d.nd h.srt d.srt fun c => (h.mem c).trans (d.mem c).symm
theorem cuts_of_masks {n : Net} (ok : n.Ok) {k g : Nat} {ms : List Nat} (h : ML n k g ms) (nd : ms.Nodup) {cs : List (List Nat)} (pm : cs.Perm (ms.map bitsOf)) (srt : cs.Pairwise fun a b => lexN b a = false) : CutsAre n k g cs := by
  refine ⟨fun c => ?_, ?_, srt⟩
  · rw [pm.mem_iff, List.mem_map]
    constructor
    · rintro ⟨M, hM, rfl⟩
      exact lc_bits ok ((h M).mp hM)
    · intro hc
      exact ⟨maskOf c, (h _).mpr (bits_lc hc), bits_mask hc.rise⟩
  · refine pm.nodup_iff.mpr ?_
    rw [List.nodup_iff_pairwise_ne, List.pairwise_map]
    exact (List.nodup_iff_pairwise_ne.mp nd).imp fun h e => h (bits_inj e)
/-! ### taking bits away -/
theorem clow_bit : ∀ b x, x ≤ b → x ≠ 0 → ∃ l, x.testBit l = true ∧ ∀ j, (x &&& (x - 1)).testBit j = (x.testBit j && decide (j ≠ l))
  | 0, x, hb, h0 => absurd (Nat.le_zero.mp hb) h0
  | b + 1, x, hb, h0 => by
    by_cases e : x % 2 = 1
    · refine ⟨0, by rw [Nat.testBit_zero]; exact decide_eq_true e, fun j => ?_⟩
      cases j with
      | zero => rw [Nat.testBit_and, Nat.testBit_zero, Nat.testBit_zero, decide_eq_false (p := (x - 1) % 2 = 1) (by omega), Bool.and_false, decide_eq_false (p := 0 ≠ 0) (fun z => z rfl), Bool.and_false]
      | succ j => rw [Nat.testBit_and, Nat.testBit_add_one, Nat.testBit_add_one, show (x - 1) / 2 = x / 2 by omega, Bool.and_self, decide_eq_true (by omega), Bool.and_true]
    · obtain ⟨l, h1, h2⟩ := clow_bit b (x / 2) (by omega) (by omega)
      refine ⟨l + 1, by rw [Nat.testBit_add_one]; exact h1, fun j => ?_⟩
      cases j with
      | zero => rw [Nat.testBit_and, Nat.testBit_zero, decide_eq_false e, Bool.false_and, Bool.false_and]
      | succ j =>
        rw [Nat.testBit_and, Nat.testBit_add_one, Nat.testBit_add_one, show (x - 1) / 2 = x / 2 - 1 by omega, ← Nat.testBit_and, h2 j]
        congr 1
        exact decide_eq_decide.mpr (by omega)
theorem pop_clow {x : Nat} (h : x ≠ 0) : pop (x &&& (x - 1)) + 1 = pop x := by
  obtain ⟨l, h1, h2⟩ := clow_bit x x (Nat.le_refl _) h
  have hb : ∀ j, j ∈ bitsOf (x &&& (x - 1)) ↔ (j ∈ bitsOf x ∧ j ≠ l) := fun j => by rw [mem_bits, h2, Bool.and_eq_true, decide_eq_true_iff, mem_bits]
  have pm : (l :: bitsOf (x &&& (x - 1))).Perm (bitsOf x) := by
    refine (List.perm_ext_iff_of_nodup (List.nodup_cons.mpr ⟨fun z => ((hb l).mp z).2 rfl, bits_nodup _⟩) (bits_nodup _)).mpr fun j => ?_
    rw [List.mem_cons, hb]
    constructor
    · rintro (rfl | h)
      · exact mem_bits.mpr h1
      · exact h.1
    · intro h
      by_cases e : j = l
      · exact .inl e
      · exact .inr ⟨h, e⟩
  exact pm.length_eq
theorem pop_zero_iff {x : Nat} : pop x = 0 ↔ x = 0 := by
  constructor
  · intro h
    refine Classical.not_not.mp fun z => ?_
    have := pop_clow z
    omega
  · rintro rfl
    have : bitsOf 0 = [] := List.eq_nil_iff_forall_not_mem.mpr fun x hx => by
      have := mem_bits.mp hx
      rw [Nat.zero_testBit] at this
      cases this
    unfold pop
    rw [this]
    rfl
def clows : Nat → Nat → Nat
  | 0, x => x
  | i + 1, x => let y := clows i x; y &&& (y - 1)
theorem clows_pop (x : Nat) : ∀ i, pop (clows i x) = pop x - i
  | 0 => rfl
  | i + 1 => by
    show pop (clows i x &&& (clows i x - 1)) = _
    have ih := clows_pop x i
    by_cases e : clows i x = 0
    · rw [e] at ih ⊢
      have z := pop_zero_iff.mpr (rfl : (0 : Nat) = 0)
      rw [Nat.zero_and]
      omega
    · have := pop_clow e
      omega
theorem fits_iff (x k : Nat) : clows k x = 0 ↔ pop x ≤ k := by
  rw [← pop_zero_iff, clows_pop]
  omega
/-- the next part below -/
theorem next_part : ∀ b p m q, p ≤ b → 0 < p → Sub p m → Sub q m → q < p → q ≤ (p - 1) &&& m
  | 0, p, m, q, hb, h0, _, _, _ => absurd (Nat.le_zero.mp hb) (Nat.ne_of_gt h0)
  | b + 1, p, m, q, hb, h0, hp, hq, hlt => by
    have half : ∀ {x y : Nat}, Sub x y → Sub (x / 2) (y / 2) := fun {x y} h j hj => by
      rw [← Nat.testBit_add_one] at hj ⊢
      exact h _ hj
    have low : ∀ {x y : Nat}, Sub x y → x % 2 ≤ y % 2 := fun {x y} h => by
      have := h 0
      rw [Nat.testBit_zero, Nat.testBit_zero, decide_eq_true_iff, decide_eq_true_iff] at this
      omega
    have hand : ∀ x y : Nat, x &&& y = 2 * (x / 2 &&& y / 2) + (x % 2) * (y % 2) := fun x y => by
      apply Nat.eq_of_testBit_eq
      intro j
      have hm : x % 2 * (y % 2) = 0 ∨ x % 2 * (y % 2) = 1 := by
        rcases Nat.mod_two_eq_zero_or_one x with h | h <;> rcases Nat.mod_two_eq_zero_or_one y with h' | h' <;> rw [h, h'] <;> simp
      cases j with
      | zero =>
        rw [Nat.testBit_and, Nat.testBit_zero, Nat.testBit_zero, Nat.testBit_zero, show (2 * (x / 2 &&& y / 2) + x % 2 * (y % 2)) % 2 = x % 2 * (y % 2) by omega]
        rcases Nat.mod_two_eq_zero_or_one x with h | h <;> rcases Nat.mod_two_eq_zero_or_one y with h' | h' <;> rw [h, h'] <;> rfl
      | succ j => rw [Nat.testBit_and, Nat.testBit_add_one, Nat.testBit_add_one, Nat.testBit_add_one, show (2 * (x / 2 &&& y / 2) + x % 2 * (y % 2)) / 2 = (x / 2 &&& y / 2) by omega, Nat.testBit_and]
    rw [hand]
    by_cases e : p % 2 = 1
    · have h1 := sub_and.mpr (half hp)
      rw [show (p - 1) / 2 = p / 2 by omega, h1]
      have := low hq
      have := low hp
      omega
    · have ih := next_part b (p / 2) (m / 2) (q / 2) (by omega) (by omega) (half hp) (half hq)
      rw [show (p - 1) / 2 = p / 2 - 1 by omega, show (p - 1) % 2 = 1 by omega, Nat.one_mul]
      have h3 := low hq
      by_cases e2 : q / 2 < p / 2
      · have := ih e2
        omega
      · omega
end GX
set_option Elab.async false
set_option linter.all false
set_option maxRecDepth 100000
set_option maxHeartbeats 4000000
/-! t.index(x), t a tuple of whole numbers from 0 on. -/
namespace GX
open PySem PySem.Spec PyProof.Rows L2
def rIdxT (K : PySem.W.Frag) : V → List V → Hp → VK → Prop := fun x xs H Q => ∃ (a : Addr) (ns : List Nat) (y : Nat), x = .ref a ∧ xs = [nV y] ∧ SqT K H a (ns.map nV) ∧ y ∈ ns ∧ Q (nV (ns.idxOf y)) H
theorem idx_cast (y : Nat) : ∀ ns : List Nat, (ns.map fun n : Nat => (n : Int)).idxOf (y : Int) = ns.idxOf y
  | [] => rfl
  | x :: r => by
    rw [List.map_cons, List.idxOf_cons, List.idxOf_cons, idx_cast y r]
    by_cases h : x = y
    · rw [h, beq_self_eq_true, beq_self_eq_true]
    · rw [beq_false_of_ne h, beq_false_of_ne (fun z => h (Int.ofNat_inj.mp z))]
theorem mt_idxT {X : Cx} : MtR X "tuple.index" (rIdxT X.K) := by
  intro pins s σ H x xs v us Q I rx r h
  obtain ⟨a, ns, y, rfl, rfl, hq, hm, q⟩ := h
  obtain rfl : v = .ref a := rx
  cases r with
  | cons r1 t1 =>
    obtain ⟨t, rfl⟩ := r1
    cases t1
    obtain ⟨its, rv, p1, _⟩ := I.tuple hq
    refine SeqAt.tuple_index_ints p1 (by simpa using vals_n rv) (List.mem_map.mpr ⟨y, hm, rfl⟩) ?_
    refine ⟨_, H, I.tok _, ?_, q⟩
    rw [idx_cast]
    exact ⟨_, rfl⟩
end GX
set_option Elab.async false
set_option linter.all false
set_option maxRecDepth 100000
set_option maxHeartbeats 4000000
/-! Tuples held as just made (frozen), so that their methods can be called; and let go again. -/
namespace GX
open PySem PySem.Spec PyProof.Rows L2
/-- a tuple that is known to hold no dict -/
def FzT (H : Hp) (p : Addr) (xs : List V) : Prop := ∃ o : Obj, H p = some (.frz o (.tup xs)) ∧ o.cls = .type "tuple" ∧ o.dict = none
theorem FzT.sq {K : PySem.W.Frag} {H : Hp} {p : Addr} {xs : List V} (h : FzT H p xs) : SqT K H p xs := by
  obtain ⟨o, h1, _⟩ := h
  exact .inl (.inr ⟨o, h1⟩)
theorem FzT.mono {H H' : Hp} {p : Addr} {xs : List V} (h : FzT H p xs) (k : ∀ u, H p = some u → H' p = some u) : FzT H' p xs := by
  obtain ⟨o, h1, h2⟩ := h
  exact ⟨o, k _ h1, h2⟩
/-- tuple(l), l a list: held frozen -/
theorem call_tupF {X : Cx} : CallR X (.type "tuple") fun xs H Q => ∃ (p : Addr) (ys : List V), xs = [.ref p] ∧ SqL X.K H p ys ∧ ∀ (l : Addr) (H' : Hp), H l = none → (∀ b, b ≠ l → H' b = H b) → FzT H' l ys → Q (.ref l) H' := by
  intro pins s σ H xs us Q I r h
  obtain ⟨p, ys, rfl, hq, q⟩ := h
  rw [Vals.ref1 r]
  obtain ⟨its, rv, p1, hl⟩ := I.list hq
  have el : its.toArray.size ≤ sizeLine := by
    rw [List.size_toArray, ← rv.length]
    exact hl
  refine call_tuple_list p1.isList (fun h' hk => ?_) el
  have I2 := I.kept (t' := s.toks) hk
  have hat : (h'.push { cls := .type "tuple", data := .seq its.toArray }).get? h'.objs.size = some { cls := .type "tuple", data := .seq its.toArray } := Heap.get?_push_size _ rfl
  refine ⟨.ref h'.objs.size, _, I2.laid (t' := s.toks) (o := .frz { cls := .type "tuple", data := .seq its.toArray } (.tup ys)) (fun b u e => Heap.get?_push_of_some _ e) (Nat.le_refl _) ⟨hat, hl, its, rv, _, hat, rfl, _, rfl⟩, rfl, q _ _ (I2.hok.fresh (Nat.le_refl _)) (fun b hb => upd_ne hb) ⟨_, upd_same, rfl, rfl⟩⟩
/-- behind an expression a frozen thing may be let go -/
def tLetGo (H0 : Hp) (t : TE) : TE := fun σ H Q => t σ H fun v H1 => ∃ (p : Addr) (xs : List V), FzT H1 p xs ∧ H0 p = none ∧ Q v (upd H1 p (.tup xs))
theorem pe_letgo {X : Cx} {e : Expr} {t : TE} {H0 : Hp} (h : PE X e t) (h0 : X.H_0 = H0 := by rfl) : PE X e (tLetGo H0 t) := by
  subst h0
  refine ⟨fun pins s σ H Q I q => ?_⟩
  refine thn (h.run pins s σ H _ I q) fun a s1 ⟨v, H1, I1, rv, p, xs, ⟨o, hf, _⟩, hn, q1⟩ => ?_
  exact ⟨v, _, I1.unlock hf (fun o' u' z => by rw [hn] at z; cases z), rv, q1⟩
/-- t.index(y), t held frozen -/
def tIdx (to : TE) (t : TA) : TE := fun σ H Q => to σ H fun x H1 => ∃ (p : Addr) (xs : List V), x = .ref p ∧ FzT H1 p xs ∧ t σ H1 fun ys H2 => ∃ (ns : List Nat) (y : Nat), ys = [nV y] ∧ FzT H2 p (ns.map nV) ∧ y ∈ ns ∧ Q (nV (ns.idxOf y)) H2
theorem pe_idx {X : Cx} {o e : Expr} {to : TE} {t : TA} {apos cpos : Pos} (ho : PE X o to) (ha : PA X [e] t)
    (h1 : attributeBase o "index" X.env (eval o X.env) = eval o X.env := by rfl)
    (h2 : (((((backTo cpos (starEach [e] X.env)).all fun x => !x.fst) && (backToKw cpos (keywordEach [] X.env)).all fun x => x.fst.isSome) && decide (([e].length + ([] : List Keyword).length + if ([] : List Keyword).isEmpty = true then 0 else 1) < 30)) = true) := by rfl)
    (h3 : (apos.endLine == cpos.line) = true := by rfl)
    (h4 : starEach [e] X.env = (false, eval e X.env) :: starEach [] X.env := by rfl) :
    PE X ((o.Attribute "index" apos).Call [e] [] cpos) (tIdx to t) := by
  refine ⟨fun pins s σ H Q I q => ?_⟩
  refine wpAny_Call_method_late h1 h2 h3 rfl ?_
  refine thn (ho.run pins s σ H _ I q) fun ov s1 ⟨x, H1, I1, rx, p, xs, ex, fz, q1⟩ => ?_
  subst ex
  obtain rfl : ov = .ref p := rx
  obtain ⟨ob, hf, hc, hd⟩ := fz
  have hg : s1.heap.get? p = some ob := (I1.hok p _ hf).1
  refine ⟨"tuple", "tuple.index", F.plainAttrs_tuple, F.slot_tuple_index, F.type_tuple_index, ⟨ob, hg, hc⟩, fun a z => ?_, ?_⟩
  · cases z
    exact ⟨ob, hg, hd⟩
  refine Calls.callWith_builtin (by rw [h4]; rfl) ?_
  have e5 : ∃ x rest, backTo cpos (starEach [e] X.env) = (false, x) :: rest := by
    rw [h4]
    exact ⟨_, _, rfl⟩
  obtain ⟨x, rest, e5⟩ := e5
  rw [e5]
  refine Calls.evalArgs_plain ?_
  rw [← e5]
  refine thn (ha.run cpos pins s1 σ H1 _ I1 q1) fun us s2 ⟨ys, H2, I2, rv, ns, y, ey, fz2, hm, q2⟩ => ?_
  subst ey
  exact mt_idxT pins s2 σ H2 (.ref p) [nV y] (.ref p) us Q I2 rfl rv ⟨p, ns, y, rfl, rfl, fz2.sq, hm, q2⟩
end GX
set_option Elab.async false
set_option linter.all false
set_option maxRecDepth 100000
set_option maxHeartbeats 4000000
/-! Tuples that are held frozen from their making: displays, sums, and dict() of them. -/
namespace GX
open PySem PySem.Spec PyProof.Rows L2
/-- what stands now stood not ahead, if it is none there -/
def Was (H H' : Hp) : Prop := ∀ b, H' b = none → H b = none
theorem Was.refl {H : Hp} : Was H H := fun _ e => e
theorem Was.trans {H H1 H2 : Hp} (a : Was H H1) (b : Was H1 H2) : Was H H2 := fun c e => a c (b c e)
theorem Same.wasAll {H H' : Hp} (s : Same H H') : Was H H' := fun b e => by
  cases h : H b with
  | none => rfl
  | some u => cases ((s _ _ h).symm.trans e)
theorem FzT.same {H H' : Hp} {p : Addr} {xs : List V} (h : FzT H p xs) (s : Same H H') : FzT H' p xs := h.mono fun u e => s _ _ e
def tTupF (t : TA) : TE := fun σ H Q => t σ H fun xs H1 => xs.length ≤ sizeLine ∧ ∀ p H', H1 p = none → (∀ b, b ≠ p → H' b = H1 b) → FzT H' p xs → Q (.ref p) H'
theorem pe_tupF {X : Cx} {es : List Expr} {t : TA} {pos : Pos} {x1 : Nat} (h : PA X es t) : PE X (.Tuple es x1 pos) (tTupF t) := by
  refine ⟨fun pins s σ H Q I hq => ?_⟩
  refine wpAny_Tuple_spliced (thn (h.run pos pins s σ H _ I hq) fun us s1 ⟨xs, H1, I1, r, z, q⟩ => ⟨by rw [← r.length]; exact z, ?_⟩)
  have hat : (s1.heap.push { cls := .type "tuple", data := .seq us.toArray }).get? s1.heap.objs.size = some { cls := .type "tuple", data := .seq us.toArray } := Heap.get?_push_size _ rfl
  exact ⟨.ref s1.heap.objs.size, _, I1.laid (t' := s1.toks) (o := .frz { cls := .type "tuple", data := .seq us.toArray } (.tup xs)) (fun b u e => Heap.get?_push_of_some _ e) (Nat.le_refl _) ⟨hat, z, us, r, _, hat, rfl, _, rfl⟩, rfl, q _ _ (I1.hok.fresh (Nat.le_refl _)) (fun b hb => upd_ne hb) ⟨_, upd_same, rfl, rfl⟩⟩
def rCatF (K : PySem.W.Frag) : V → V → Hp → VK → Prop := fun x y H Q => ∃ (a b : Addr) (xs ys : List V), x = .ref a ∧ y = .ref b ∧ SqT K H a xs ∧ SqT K H b ys ∧ xs ≠ [] ∧ xs.length + ys.length ≤ sizeLine ∧ (ys = [] → Q (.ref a) H) ∧ (ys ≠ [] → ∀ p H', H p = none → (∀ c, c ≠ p → H' c = H c) → FzT H' p (xs ++ ys) → Q (.ref p) H')
theorem op_catF {X : Cx} : OpR X (binaryOp .Add) (rCatF X.K) := by
  intro pins s σ H x y v u Q I rx ry h
  obtain ⟨a, b, xs, ys, rfl, rfl, ha, hb, hx, hz, q1, q2⟩ := h
  cases rx
  cases ry
  obtain ⟨its, r1, p1, _⟩ := I.tuple ha
  obtain ⟨its2, r2, p2, _⟩ := I.tuple hb
  refine HT.cat_tup p1 p2 (fun z => hx (r1.nil_iff.mp z)) (fun z => ⟨.ref a, H, I, rfl, q1 (r2.nil_iff.mp z)⟩) (fun z => ?_) (by rw [← r1.length, ← r2.length]; exact hz)
  have hat := Heap.get?_push_size s.heap (o := { cls := .type "tuple", data := .seq (its ++ its2).toArray }) rfl
  exact ⟨.ref s.heap.objs.size, _, I.laid (t' := s.toks) (o := .frz { cls := .type "tuple", data := .seq (its ++ its2).toArray } (.tup (xs ++ ys))) (fun b ob q => Heap.get?_push_of_some _ q) (Nat.le_refl _) ⟨hat, by rw [List.length_append]; exact hz, _, r1.append r2, _, hat, rfl, _, rfl⟩, rfl, q2 (fun w => z (r2.nil_iff.mpr w)) _ _ (I.hok.fresh (Nat.le_refl _)) (fun b hb => upd_ne hb) ⟨_, upd_same, rfl, rfl⟩⟩
/-- both cases at once -/
theorem catF_any {K : PySem.W.Frag} {x y : V} {H H0 : Hp} {Q : VK} {a b : Addr} {xs ys : List V} (ex : x = .ref a) (ey : y = .ref b) (hx : FzT H a xs) (a0 : H0 a = none) (hy : SqT K H b ys) (nx : xs ≠ []) (w : Was H0 H) (hl : xs.length + ys.length ≤ sizeLine)
    (h : ∀ p H', Same H H' → H0 p = none → FzT H' p (xs ++ ys) → Q (.ref p) H') : rCatF K x y H Q := by
  refine ⟨a, b, xs, ys, ex, ey, hx.sq, hy, nx, hl, fun e => h a H (Same.refl _) a0 (by rw [e, List.append_nil]; exact hx), fun _ p H' np hr hf => h p H' (fun c u e => ?_) (w p np) hf⟩
  rw [hr c (ne_of_none e np)]
  exact e
/-- dict(t), t a tuple of pairs, held frozen -/
theorem call_dictF {X : Cx} (hcalm : X.calm = true) : CallR X (.type "dict") (fun xs H Q => ∃ (a : Addr) (ps : List Addr) (kvs : List (L2.Key × V)), xs = [.ref a] ∧ FzT H a (ps.map V.ref) ∧ Paired (fun p kv => SqT X.K H p [kV kv.1, kv.2]) ps kvs ∧
    ∀ p, H p = none → Q (.ref p) (upd H p (.dK (mergeK [] kvs)))) := by
  intro pins s σ H xs us Q I r q
  obtain ⟨a, ps, kvs, rfl, hq, hp, q⟩ := q
  rw [Vals.ref1 r]
  obtain ⟨its, rv, pt, hz⟩ := I.tuple (hq.sq (K := X.K))
  have ei := refs_at rv
  subst ei
  rw [List.length_map] at hz
  obtain ⟨prs, rel, hl, hpr⟩ := pairs_of I hp
  obtain ⟨ob, hf, hc, hd⟩ := hq
  have hg : s.heap.get? a = some ob := (I.hok a _ hf).1
  obtain ⟨ob', hg', hc', n, hdat⟩ := pt
  rw [hg] at hg'
  cases hg'
  have hlen : prs.length = (ps.map Value.ref).toArray.size := by rw [List.size_toArray, List.length_map, hl]
  -- the values of the keys, as they stand
  have hex : ∃ kus : List Value, kus.length = prs.length ∧ ∀ (j : Nat) (q : L2.Key × Value) (u : Value), prs[j]? = some q → kus[j]? = some u → ∃ b : Addr, ps[j]? = some b ∧ IsTup s.heap b #[u, q.2] ∧ keyIs q.1 u = true := by
    have key : ∀ (m : Nat) (qs : List (L2.Key × Value)) (d : Nat), qs.length = m → (∀ (j : Nat) (q : L2.Key × Value), qs[j]? = some q → ∃ (b : Addr) (u : Value), ps[d + j]? = some b ∧ IsTup s.heap b #[u, q.2] ∧ keyIs q.1 u = true) →
        ∃ kus : List Value, kus.length = m ∧ ∀ (j : Nat) (q : L2.Key × Value) (u : Value), qs[j]? = some q → kus[j]? = some u → ∃ b : Addr, ps[d + j]? = some b ∧ IsTup s.heap b #[u, q.2] ∧ keyIs q.1 u = true := by
      intro m
      induction m with
      | zero =>
        intro qs d hm _
        rw [List.length_eq_zero_iff.mp hm]
        exact ⟨[], rfl, fun j q u e => by simp at e⟩
      | succ m ih =>
        intro qs d hm hh
        cases qs with
        | nil => cases hm
        | cons q0 r0 =>
          obtain ⟨b, u, e1, e2, e3⟩ := hh 0 q0 rfl
          obtain ⟨kus, kl, kh⟩ := ih r0 (d + 1) (by simpa using hm) fun j q e => by
            have := hh (j + 1) q (by simpa using e)
            rw [show d + (j + 1) = d + 1 + j by omega] at this
            exact this
          refine ⟨u :: kus, by rw [List.length_cons, kl], fun j q u' e f => ?_⟩
          cases j with
          | zero =>
            cases e
            cases f
            exact ⟨b, e1, e2, e3⟩
          | succ j =>
            have := kh j q u' (by simpa using e) (by simpa using f)
            rw [show d + 1 + j = d + (j + 1) by omega] at this
            exact this
    obtain ⟨kus, kl, kh⟩ := key prs.length prs 0 rfl fun j q e => by rw [Nat.zero_add]; exact hpr j q e
    exact ⟨kus, kl, fun j q u e f => by have := kh j q u e f; rwa [Nat.zero_add] at this⟩
  obtain ⟨kus, kl, kh⟩ := hex
  have zl : (kus.zip (prs.map fun q : L2.Key × Value => q.2)).length = prs.length := by rw [List.length_zip, List.length_map, kl, Nat.min_self]
  have zat : ∀ (j : Nat) (k v : Value), (kus.zip (prs.map fun q : L2.Key × Value => q.2))[j]? = some (k, v) → ∃ q, prs[j]? = some q ∧ kus[j]? = some k ∧ q.2 = v := fun j k v e => by
    obtain ⟨e1, e2⟩ := List.getElem?_zip_eq_some.mp e
    rw [List.getElem?_map] at e2
    cases h : prs[j]? with
    | none => rw [h] at e2; cases e2
    | some q =>
      rw [h] at e2
      exact ⟨q, rfl, e1, Option.some.inj e2⟩
  refine PySem.call_dict_pairs (knd := mixKind X.prog X.w) (kvs := prs) (PairArg.tuple a (ps.map Value.ref).toArray (fun j => ps.getD j 0) (kus.zip (prs.map fun q : L2.Key × Value => q.2))) (I.ok.hd hcalm) ⟨⟨ob, n, hg, hc, hd, hdat⟩, by rw [zl]; exact hlen.symm, fun j k v e => ?_⟩ ⟨zl.symm, fun j key v e => ?_⟩ (by rw [zl, hl]; exact hz) fun h' tk hd' k => ?_
  · obtain ⟨q', h1, h2, h3⟩ := zat j k v e
    obtain ⟨b, e1, e2, e3⟩ := kh j q' k h1 h2
    have eg : ps.getD j 0 = b := by rw [List.getD_eq_getElem?_getD, e1]; rfl
    refine ⟨?_, ?_⟩
    · show (ps.map Value.ref).toArray[j]? = some (Value.ref (ps.getD j 0))
      rw [eg]
      simp [e1]
    · show PairAt s.heap (ps.getD j 0) k v
      rw [eg, ← h3]
      exact .inl e2
  · obtain ⟨q', h1, h2, h3⟩ := zat j key v e
    obtain ⟨b, e1, e2, e3⟩ := kh j q' key h1 h2
    exact ⟨q'.1, by rw [h1, ← h3], e3⟩
  · have hm : (s.heap.objs.size == sysModules) = false := beq_eq_false_iff_ne.mpr (Nat.ne_of_gt I.big)
    have hlen2 : (mergeK [] kvs).length ≤ sizeLine := by
      refine Nat.le_trans (length_mergeK kvs []) ?_
      rw [List.length_nil, Nat.zero_add, rel.length, hl]
      exact hz
    exact ⟨.ref s.heap.objs.size, upd H s.heap.objs.size (.dK (mergeK [] kvs)), I.laid (t' := tk) (fun b o e => k b o (by simp) e) (Nat.le_refl _) (show ObjOk X.prog X.w _ _ _ (.dK (mergeK [] kvs)) from ⟨hlen2, hm, merged [] prs, KV.merge rel .nil, hd'⟩), rfl, q _ (I.hok.fresh (Nat.le_refl _))⟩
end GX
set_option Elab.async false
set_option linter.all false
set_option maxRecDepth 100000
set_option maxHeartbeats 4000000
/-! Things of any make, as they stand in the heap, and what is a net of them. -/
namespace GX
open PySem PySem.Spec PyProof.Rows L2
theorem pg_tupK {X : Cx} {K : PySem.W.Frag} {es : List Expr} {k : Nat} {t : TGs} {n : Nat} {pos : _} (h : X.K = K) (hc : X.calm = true) (hh : PGs X es t) (hn : (assignEach es X.env).length = n := by rfl) (hst : (assignEach es X.env).findIdx? (·.1) = none := by rfl) : PG X (.Tuple es k pos) (gTup K n t) := by subst h; exact pg_tup hc hh hn hst
inductive Th where
  | non | bl (b : Bool) | int (i : Int) | str (x : Str) | oth (l : Bool) | tup (ts : List Th)
mutual
inductive Rep (H : Hp) : V → Th → Prop
  | non : Rep H .non .non
  | bl (b : Bool) : Rep H (.bl b) (.bl b)
  | int (i : Int) : Rep H (.int i) (.int i)
  | str (x : Str) : Rep H (.str x) (.str x)
  | lst {a : Addr} {xs : List V} (e : H a = some (.lst xs)) : Rep H (.ref a) (.oth true)
  | dic {a : Addr} {kvs : List (Key × V)} (e : H a = some (.dK kvs)) : Rep H (.ref a) (.oth false)
  | tup {a : Addr} {vs : List V} {ts : List Th} (e : H a = some (.tup vs)) (r : RepAll H vs ts) : Rep H (.ref a) (.tup ts)
inductive RepAll (H : Hp) : List V → List Th → Prop
  | nil : RepAll H [] []
  | cons {v : V} {vs : List V} {t : Th} {ts : List Th} : Rep H v t → RepAll H vs ts → RepAll H (v :: vs) (t :: ts)
end
/-- lists, dicts and tuples stand -/
def KeepT (H H' : Hp) : Prop := ∀ b o, H b = some o → (∀ ps, o ≠ .tbl ps) → H' b = some o
mutual
theorem Rep.mono {H H' : Hp} (k : KeepT H H') : ∀ {v : V} {t : Th}, Rep H v t → Rep H' v t
  | _, _, .non => .non
  | _, _, .bl b => .bl b
  | _, _, .int i => .int i
  | _, _, .str x => .str x
  | _, _, .lst e => .lst (k _ _ e fun _ z => by cases z)
  | _, _, .dic e => .dic (k _ _ e fun _ z => by cases z)
  | _, _, .tup e r => .tup (k _ _ e fun _ z => by cases z) (r.mono k)
theorem RepAll.mono {H H' : Hp} (k : KeepT H H') : ∀ {vs : List V} {ts : List Th}, RepAll H vs ts → RepAll H' vs ts
  | _, _, .nil => .nil
  | _, _, .cons a b => .cons (a.mono k) (b.mono k)
end
theorem KeepT.same {H H' : Hp} (s : Same H H') : KeepT H H' := fun b o e _ => s b o e
theorem KeepT.aft {Ts : List Addr} {H H' : Hp} (t : Tabs Ts H) (a : Aft Ts H H') : KeepT H H' := fun b o e n => a.kp b o e (t.nott e n)
theorem RepAll.length {H : Hp} : ∀ {vs : List V} {ts : List Th}, RepAll H vs ts → vs.length = ts.length
  | _, _, .nil => rfl
  | _, _, .cons _ b => by rw [List.length_cons, List.length_cons, b.length]
theorem RepAll.get {H : Hp} : ∀ {vs : List V} {ts : List Th} {i : Nat} {v : V}, RepAll H vs ts → vs[i]? = some v → ∃ t, ts[i]? = some t ∧ Rep H v t
  | _, _, _, _, .nil, h => by simp at h
  | _, _, 0, _, .cons a _, h => by cases h; exact ⟨_, rfl, a⟩
  | _, _, i + 1, _, .cons _ b, h => RepAll.get (i := i) b h
theorem RepAll.append {H : Hp} : ∀ {vs ws : List V} {ts us : List Th}, RepAll H vs ts → RepAll H ws us → RepAll H (vs ++ ws) (ts ++ us)
  | _, _, _, _, .nil, s => s
  | _, _, _, _, .cons a b, s => .cons a (b.append s)
theorem RepAll.drop {H : Hp} : ∀ {vs : List V} {ts : List Th} (n : Nat), RepAll H vs ts → RepAll H (vs.drop n) (ts.drop n)
  | _, _, 0, r => r
  | _, _, _ + 1, .nil => .nil
  | _, _, n + 1, .cons _ b => b.drop n
theorem RepAll.take {H : Hp} : ∀ {vs : List V} {ts : List Th} (n : Nat), RepAll H vs ts → RepAll H (vs.take n) (ts.take n)
  | _, _, 0, _ => .nil
  | _, _, _ + 1, .nil => .nil
  | _, _, n + 1, .cons a b => .cons a (b.take n)
theorem RepAll.reverse {H : Hp} : ∀ {vs : List V} {ts : List Th}, RepAll H vs ts → RepAll H vs.reverse ts.reverse
  | _, _, .nil => .nil
  | _, _, .cons a b => by
    rw [List.reverse_cons, List.reverse_cons]
    exact b.reverse.append (.cons a .nil)
def tyN : Th → String
  | .non => "NoneType"
  | .bl _ => "bool"
  | .int _ => "int"
  | .str _ => "str"
  | .oth true => "list"
  | .oth false => "dict"
  | .tup _ => "tuple"
theorem tyx {K : PySem.W.Frag} {H : Hp} {v : V} {t : Th} (r : Rep H v t) : TyX K H v (.type (tyN t)) := by
  cases r with
  | non => exact .base .non
  | bl b => exact .base (.bl b)
  | int i => exact .base (.int i)
  | str x => exact .base (.str x)
  | lst e => exact .base (.lst e)
  | dic e => exact .base (.dK e)
  | tup e _ => exact .base (.tup e)
def Th.kInt : Th → Bool
  | .bl _ => true
  | .int _ => true
  | _ => false
def Th.kBool : Th → Bool
  | .bl _ => true
  | _ => false
def Th.kTup : Th → Bool
  | .tup _ => true
  | _ => false
theorem kInt_ok : ∀ t : Th, kitB (tyN t) "int" = some t.kInt
  | .non => by decide +kernel
  | .bl _ => by show kitB "bool" "int" = some true; decide +kernel
  | .int _ => by show kitB "int" "int" = some true; decide +kernel
  | .str _ => by show kitB "str" "int" = some false; decide +kernel
  | .oth true => by show kitB "list" "int" = some false; decide +kernel
  | .oth false => by show kitB "dict" "int" = some false; decide +kernel
  | .tup _ => by show kitB "tuple" "int" = some false; decide +kernel
theorem kBool_ok : ∀ t : Th, kitB (tyN t) "bool" = some t.kBool
  | .non => by decide +kernel
  | .bl _ => by show kitB "bool" "bool" = some true; decide +kernel
  | .int _ => by show kitB "int" "bool" = some false; decide +kernel
  | .str _ => by show kitB "str" "bool" = some false; decide +kernel
  | .oth true => by show kitB "list" "bool" = some false; decide +kernel
  | .oth false => by show kitB "dict" "bool" = some false; decide +kernel
  | .tup _ => by show kitB "tuple" "bool" = some false; decide +kernel
theorem kTup_ok : ∀ t : Th, kitB (tyN t) "tuple" = some t.kTup
  | .non => by decide +kernel
  | .bl _ => by show kitB "bool" "tuple" = some false; decide +kernel
  | .int _ => by show kitB "int" "tuple" = some false; decide +kernel
  | .str _ => by show kitB "str" "tuple" = some false; decide +kernel
  | .oth true => by show kitB "list" "tuple" = some false; decide +kernel
  | .oth false => by show kitB "dict" "tuple" = some false; decide +kernel
  | .tup _ => by show kitB "tuple" "tuple" = some true; decide +kernel
/-! ### what is a net -/
def Th.whole : Th → Bool
  | .int _ => true
  | _ => false
def Th.isB (b : Int) : Th → Bool
  | .int i => decide (0 ≤ i) && decide (i < b)
  | _ => false
def Th.many : Th → Bool
  | .int i => decide (1 ≤ i) && decide (i ≤ 8)
  | _ => false
def Th.gate (w : Int) : Th → Bool
  | .tup [k, a, b] => k.isB 16 && a.isB w && b.isB w
  | _ => false
def gatesFrom (w : Int) : List Th → Bool
  | [] => true
  | t :: r => t.gate w && gatesFrom (w + 1) r
def Th.gates (m : Int) : Th → Bool
  | .tup ts => decide (ts.length ≤ 16) && gatesFrom m ts
  | _ => false
def Th.outs (c : Int) : Th → Bool
  | .tup ts => decide (1 ≤ ts.length) && decide (ts.length ≤ 8) && ts.all (Th.isB c)
  | _ => false
def Th.val : Th → Int
  | .int i => i
  | _ => 0
def Th.len : Th → Nat
  | .tup ts => ts.length
  | _ => 0
def Th.net : Th → Bool
  | .tup [m, g, o] => m.many && g.gates m.val && o.outs (m.val + g.len)
  | _ => false
theorem gatesFrom_split (w : Int) : ∀ (ts : List Th) (i : Nat), gatesFrom w ts = (gatesFrom w (ts.take i) && gatesFrom (w + min i ts.length) (ts.drop i))
  | [], i => by simp [gatesFrom]
  | t :: r, 0 => by simp [gatesFrom]
  | t :: r, i + 1 => by
    show (t.gate w && gatesFrom (w + 1) r) = ((t.gate w && gatesFrom (w + 1) (r.take i)) && gatesFrom (w + ((min (i + 1) (r.length + 1) : Nat) : Int)) (r.drop i))
    rw [gatesFrom_split (w + 1) r i, Bool.and_assoc, show (w + 1 + ((min i r.length : Nat) : Int)) = w + ((min (i + 1) (r.length + 1) : Nat) : Int) by omega]
theorem gatesFrom_snoc {w : Int} {ts : List Th} {i : Nat} {t : Th} (h : ts[i]? = some t) : gatesFrom w (ts.take (i + 1)) = (gatesFrom w (ts.take i) && t.gate (w + i)) := by
  obtain ⟨hl, _⟩ := List.getElem?_eq_some_iff.mp h
  rw [gatesFrom_split w (ts.take (i + 1)) i, List.take_take, Nat.min_eq_left (Nat.le_succ i)]
  congr 1
  rw [List.take_add_one, h, List.drop_append_of_le_length (by rw [List.length_take]; omega), List.drop_of_length_le (by rw [List.length_take]; omega), Option.toList_some, List.nil_append]
  show (t.gate _ && gatesFrom _ []) = _
  rw [show gatesFrom (w + ((min i (ts.take i ++ [t]).length : Nat) : Int) + 1) [] = true from rfl, Bool.and_true, List.length_append, List.length_take]
  congr 1
  simp only [List.length_cons, List.length_nil]
  omega
theorem gatesFrom_bad {w : Int} {ts : List Th} {i : Nat} {t : Th} (h : ts[i]? = some t) (hf : t.gate (w + i) = false) : gatesFrom w ts = false := by
  rw [gatesFrom_split w ts (i + 1), gatesFrom_snoc h, hf, Bool.and_false, Bool.false_and]
end GX
set_option Elab.async false
set_option linter.all false
set_option maxRecDepth 100000
set_option maxHeartbeats 4000000
/-! Things of whole numbers and tuples alone, no longer than n, no deeper than d. -/
namespace GX
open PySem PySem.Spec PyProof.Rows L2
def Th.pl (n : Nat) : Nat → Th → Bool
  | 0, _ => false
  | _ + 1, .int _ => true
  | d + 1, .tup ts => decide (ts.length ≤ n) && ts.all (Th.pl n d)
  | _ + 1, _ => false
/-- tuples stand -/
def KeepU (H H' : Hp) : Prop := ∀ b xs, H b = some (.tup xs) → H' b = some (.tup xs)
theorem KeepU.trans {H H1 H2 : Hp} (a : KeepU H H1) (b : KeepU H1 H2) : KeepU H H2 := fun c xs e => b c xs (a c xs e)
theorem KeepU.same {H H' : Hp} (s : Same H H') : KeepU H H' := fun b xs e => s b _ e
theorem KeepU.well {H H' : Hp} {W : Addr} (h : Wl H W) (k : Keep [W] H H') : KeepU H H' := k.tups h.nt
theorem pl_monoAll {H H' : Hp} {n d : Nat} (ih : ∀ v t, Th.pl n d t = true → Rep H v t → Rep H' v t) : ∀ {vs : List V} {ts : List Th}, ts.all (Th.pl n d) = true → RepAll H vs ts → RepAll H' vs ts
  | _, _, _, .nil => .nil
  | _, _, p, .cons a b => by
    rw [List.all_cons, Bool.and_eq_true] at p
    exact .cons (ih _ _ p.1 a) (pl_monoAll ih p.2 b)
theorem pl_mono {H H' : Hp} {n : Nat} (k : KeepU H H') : ∀ (d : Nat) (v : V) (t : Th), Th.pl n d t = true → Rep H v t → Rep H' v t
  | 0, _, _, p, _ => by cases p
  | d + 1, v, t, p, r => by
    cases r with
    | int i => exact .int i
    | @tup a vs ts e ra =>
      have p' : (decide (ts.length ≤ n) && ts.all (Th.pl n d)) = true := p
      rw [Bool.and_eq_true] at p'
      exact .tup (k _ _ e) (pl_monoAll (pl_mono k d) p'.2 ra)
    | _ => cases p
theorem pl_le {n m : Nat} (h : n ≤ m) : ∀ (d : Nat) (t : Th), Th.pl n d t = true → Th.pl m d t = true
  | 0, _, p => by cases p
  | d + 1, t, p => by
    cases t with
    | int i => rfl
    | tup ts =>
      have p' : (decide (ts.length ≤ n) && ts.all (Th.pl n d)) = true := p
      rw [Bool.and_eq_true] at p'
      show (decide (ts.length ≤ m) && ts.all (Th.pl m d)) = true
      rw [Bool.and_eq_true]
      refine ⟨decide_eq_true (Nat.le_trans (of_decide_eq_true p'.1) h), ?_⟩
      rw [List.all_eq_true]
      intro x hx
      exact pl_le h d x (List.all_eq_true.mp p'.2 x hx)
    | _ => cases p
theorem pl_dpAll {K : PySem.W.Frag} {H : Hp} {n d : Nat} (ih : ∀ v t, Th.pl n d t = true → Rep H v t → ∃ x, Dp K H v x ∧ x.canLay0 = true ∧ x.depth ≤ d) :
    ∀ {vs : List V} {ts : List Th}, ts.all (Th.pl n d) = true → RepAll H vs ts → ∃ xs, DpAll K H vs xs ∧ PyData.canLayAll0 xs = true ∧ PyData.depthAll xs ≤ d ∧ xs.length = vs.length
  | _, _, _, .nil => ⟨[], .nil, rfl, Nat.zero_le _, rfl⟩
  | _, _, p, .cons a b => by
    rw [List.all_cons, Bool.and_eq_true] at p
    obtain ⟨x, h1, h2, h3⟩ := ih _ _ p.1 a
    obtain ⟨xs, g1, g2, g3, g4⟩ := pl_dpAll ih p.2 b
    refine ⟨x :: xs, .cons h1 g1, ?_, ?_, by rw [List.length_cons, List.length_cons, g4]⟩
    · show (x.canLay0 && PyData.canLayAll0 xs) = true
      rw [h2, g2]
      rfl
    · show max x.depth (PyData.depthAll xs) ≤ d
      omega
theorem pl_dp {K : PySem.W.Frag} {H : Hp} {n : Nat} : ∀ (d : Nat) (v : V) (t : Th), Th.pl n d t = true → Rep H v t → ∃ x, Dp K H v x ∧ x.canLay0 = true ∧ x.depth ≤ d
  | 0, v, t, p, r => by cases p
  | d + 1, v, t, p, r => by
    cases r with
    | int i => exact ⟨.int i, .int i, rfl, Nat.zero_le _⟩
    | @tup a vs ts e ra =>
      have p' : (decide (ts.length ≤ n) && ts.all (Th.pl n d)) = true := p
      rw [Bool.and_eq_true] at p'
      obtain ⟨xs, g1, g2, g3, _⟩ := pl_dpAll (pl_dp d) p'.2 ra
      exact ⟨.tuple xs, .tup (SqT.of e) g1, g2, Nat.succ_le_succ g3⟩
    | _ => cases p
/-- things of the values: whole numbers and tuples -/
def Pl (n d : Nat) (H : Hp) (v : V) : Prop := ∃ t, Rep H v t ∧ Th.pl n d t = true
def PlAll (n d : Nat) (H : Hp) (vs : List V) : Prop := ∃ ts, RepAll H vs ts ∧ ts.all (Th.pl n d) = true
theorem Pl.mono {n d : Nat} {H H' : Hp} {v : V} (h : Pl n d H v) (k : KeepU H H') : Pl n d H' v := let ⟨t, r, p⟩ := h; ⟨t, pl_mono k d v t p r, p⟩
theorem PlAll.mono {n d : Nat} {H H' : Hp} {vs : List V} (h : PlAll n d H vs) (k : KeepU H H') : PlAll n d H' vs := let ⟨ts, r, p⟩ := h; ⟨ts, pl_monoAll (pl_mono k d) p r, p⟩
theorem all_sub {α : Type} {f : α → Bool} {xs ys : List α} (h : xs.all f = true) (s : ∀ x ∈ ys, x ∈ xs) : ys.all f = true := by
  rw [List.all_eq_true] at h ⊢
  exact fun x hx => h x (s x hx)
theorem PlAll.drop {n d : Nat} {H : Hp} {vs : List V} (i : Nat) (h : PlAll n d H vs) : PlAll n d H (vs.drop i) := let ⟨ts, r, p⟩ := h; ⟨ts.drop i, r.drop i, all_sub p fun _ hx => List.mem_of_mem_drop hx⟩
theorem PlAll.take {n d : Nat} {H : Hp} {vs : List V} (i : Nat) (h : PlAll n d H vs) : PlAll n d H (vs.take i) := let ⟨ts, r, p⟩ := h; ⟨ts.take i, r.take i, all_sub p fun _ hx => List.mem_of_mem_take hx⟩
theorem PlAll.cut {n d : Nat} {H : Hp} {vs : List V} (lo hi : Option Int) (h : PlAll n d H vs) : PlAll n d H (cutV vs lo hi) := by
  unfold cutV
  exact (h.drop _).take _
theorem PlAll.reverse {n d : Nat} {H : Hp} {vs : List V} (h : PlAll n d H vs) : PlAll n d H vs.reverse := let ⟨ts, r, p⟩ := h; ⟨ts.reverse, r.reverse, all_sub p fun _ hx => List.mem_reverse.mp hx⟩
theorem PlAll.append {n d : Nat} {H : Hp} {vs ws : List V} (h : PlAll n d H vs) (g : PlAll n d H ws) : PlAll n d H (vs ++ ws) := let ⟨ts, r, p⟩ := h; let ⟨us, s, q⟩ := g; ⟨ts ++ us, r.append s, by rw [List.all_append, p, q]; rfl⟩
theorem PlAll.one {n d : Nat} {H : Hp} {v : V} (h : Pl n d H v) : PlAll n d H [v] := let ⟨t, r, p⟩ := h; ⟨[t], .cons r .nil, by rw [List.all_cons, p]; rfl⟩
theorem PlAll.get {n d : Nat} {H : Hp} {vs : List V} {i : Nat} {v : V} (h : PlAll n d H vs) (e : vs[i]? = some v) : Pl n d H v := by
  obtain ⟨ts, r, p⟩ := h
  obtain ⟨t, ht, rt⟩ := r.get e
  exact ⟨t, rt, List.all_eq_true.mp p t (List.mem_of_getElem? ht)⟩
theorem PlAll.le {n m d : Nat} {H : Hp} {vs : List V} (h : PlAll n d H vs) (l : n ≤ m) : PlAll m d H vs := let ⟨ts, r, p⟩ := h; ⟨ts, r, by
  rw [List.all_eq_true] at p ⊢
  exact fun x hx => pl_le l d x (p x hx)⟩
theorem Pl.tup {n d : Nat} {H : Hp} {a : Addr} {vs : List V} (e : H a = some (.tup vs)) (hl : vs.length ≤ n) (h : PlAll n d H vs) : Pl n (d + 1) H (.ref a) := by
  obtain ⟨ts, r, p⟩ := h
  refine ⟨.tup ts, .tup e r, ?_⟩
  show (decide (ts.length ≤ n) && ts.all (Th.pl n d)) = true
  rw [p, Bool.and_true]
  exact decide_eq_true (by rw [← r.length]; exact hl)
theorem Pl.int {n d : Nat} {H : Hp} (i : Int) : Pl n (d + 1) H (.int i) := ⟨.int i, .int i, rfl⟩
/-- what it is: a number or a tuple -/
theorem Pl.inv {n d : Nat} {H : Hp} {v : V} (h : Pl n (d + 1) H v) : (∃ i, v = .int i) ∨ ∃ a vs, v = .ref a ∧ H a = some (.tup vs) ∧ vs.length ≤ n ∧ PlAll n d H vs := by
  obtain ⟨t, r, p⟩ := h
  cases r with
  | int i => exact .inl ⟨i, rfl⟩
  | @tup a vs ts e ra =>
    have p' : (decide (ts.length ≤ n) && ts.all (Th.pl n d)) = true := p
    rw [Bool.and_eq_true] at p'
    exact .inr ⟨a, vs, rfl, e, by rw [ra.length]; exact of_decide_eq_true p'.1, ts, ra, p'.2⟩
  | _ => cases p
theorem cut_len (xs : List V) (lo hi : Option Int) : (cutV xs lo hi).length ≤ xs.length := by
  unfold cutV
  rw [List.length_take, List.length_drop]
  omega
theorem PlAll.dp {K : PySem.W.Frag} {n d : Nat} {H : Hp} {vs : List V} (h : PlAll n d H vs) : ∃ xs, DpAll K H vs xs ∧ PyData.canLayAll0 xs = true ∧ PyData.depthAll xs ≤ d ∧ xs.length = vs.length := let ⟨_, r, p⟩ := h; pl_dpAll (pl_dp d) p r
theorem eqvAll_nil (xs : List PyData) : PyData.eqvAll xs [] = decide (xs.length = 0) := by
  cases xs with
  | nil => rfl
  | cons x r => rfl
/-- t == () and l == [] -/
theorem shaped_tup {xs : List PyData} {d : Nat} (h1 : PyData.canLayAll0 xs = true) (h2 : PyData.depthAll xs ≤ d) (h3 : d < 64) : SeqAt.shaped (.tuple xs) = true := by
  show (PyData.canLayAll0 xs && decide (PyData.depthAll xs + 1 ≤ 64)) = true
  rw [h1, decide_eq_true (by omega)]
  rfl
theorem shaped_lst {xs : List PyData} {d : Nat} (h1 : PyData.canLayAll0 xs = true) (h2 : PyData.depthAll xs ≤ d) (h3 : d < 64) : SeqAt.shaped (.list xs) = true := by
  show (PyData.canLayAll0 xs && decide (PyData.depthAll xs + 1 ≤ 64)) = true
  rw [h1, decide_eq_true (by omega)]
  rfl
end GX
set_option Elab.async false
set_option linter.all false
set_option maxRecDepth 100000
set_option maxHeartbeats 4000000
/-! Dicts whose keys are wires; dicts of covers. -/
namespace GX
open PySem PySem.Spec PyProof.Rows L2
def dlenOf (σ : L2.St) (H : Hp) (i : Nat) : Nat := match σ[i]? with
  | some (some (V.ref l)) => match H l with
    | some (HO.dK xs) => xs.length
    | _ => 0
  | _ => 0
/-- a dict with True for each of these -/
def kvF (F : List Nat) : List (L2.Key × V) := F.map fun x : Nat => (nK x, V.bl true)
theorem kvF_len (F : List Nat) : (kvF F).length = F.length := List.length_map _
theorem kvF_some (F : List Nat) (x : Nat) : (valV (kvF F) (nK x)).isSome = decide (x ∈ F) := by
  rw [← valV_any]
  unfold kvF
  rw [List.any_map, Bool.eq_iff_iff, List.any_eq_true, decide_eq_true_iff]
  constructor
  · rintro ⟨y, hy, e⟩
    have e' : nK y = nK x := of_decide_eq_true e
    rw [← nK_inj e']
    exact hy
  · intro h
    exact ⟨x, h, decide_eq_true rfl⟩
theorem kvF_put {F : List Nat} {x : Nat} (h : x ∉ F) : putK (kvF F) (nK x) (.bl true) = kvF (F ++ [x]) := by
  have : valV (kvF F) (nK x) = none := by
    have := kvF_some F x
    rw [decide_eq_false h] at this
    cases e : valV (kvF F) (nK x) with
    | none => rfl
    | some v => rw [e] at this; cases this
  rw [putK_new _ this]
  unfold kvF
  rw [List.map_append]
  rfl
theorem kvF_keys (F : List Nat) : (kvF F).map (·.1) = (F.map fun x : Nat => (x : Int)).map Sum.inl := by
  unfold kvF
  rw [List.map_map, List.map_map]
  rfl
theorem merge_none {k : L2.Key} : ∀ (more acc : List (L2.Key × V)), (∀ q ∈ more, q.1 ≠ k) → valV (mergeK acc more) k = valV acc k
  | [], acc, _ => rfl
  | p :: r, acc, u => by
    show valV (mergeK (putK acc p.1 p.2) r) k = _
    rw [merge_none r _ (fun q hq => u q (List.mem_cons_of_mem _ hq)), valV_put, if_neg (fun e => u p List.mem_cons_self e.symm)]
theorem merge_some {k : L2.Key} : ∀ (more acc : List (L2.Key × V)), (∃ q ∈ more, q.1 = k) → ∃ q ∈ more, q.1 = k ∧ valV (mergeK acc more) k = some q.2
  | [], acc, h => by
    obtain ⟨q, hq, _⟩ := h
    cases hq
  | p :: r, acc, h => by
    by_cases e : ∃ q ∈ r, q.1 = k
    · obtain ⟨q, hq, h1, h2⟩ := merge_some r (putK acc p.1 p.2) e
      exact ⟨q, List.mem_cons_of_mem _ hq, h1, h2⟩
    · have hp : p.1 = k := by
        obtain ⟨q, hq, h1⟩ := h
        rcases List.mem_cons.mp hq with rfl | hq
        · exact h1
        · exact absurd ⟨q, hq, h1⟩ e
      refine ⟨p, List.mem_cons_self, hp, ?_⟩
      show valV (mergeK (putK acc p.1 p.2) r) k = _
      rw [merge_none r _ (fun q hq z => e ⟨q, hq, z⟩), valV_put, if_pos hp.symm]
theorem pairs_cov {K : PySem.W.Frag} {H : Hp} : ∀ {qs : List Addr} {cv : List Tb}, PtsAt TbAt H qs cv → ∃ kvs : List (L2.Key × V), Paired (fun p kv => SqT K H p [kV kv.1, kv.2]) qs kvs ∧ (∀ q ∈ kvs, ∃ t ∈ cv, ∃ c, q = (nK t.1, V.ref c) ∧ H c = some (.tup (t.2.map nV))) ∧ ∀ t ∈ cv, ∃ q ∈ kvs, q.1 = nK t.1
  | [], cv, x => by
    have : cv = [] := List.length_eq_zero_iff.mp x.1.symm
    subst this
    exact ⟨[], .nil, fun q hq => by (cases hq), fun t ht => by (cases ht)⟩
  | p :: r, [], x => by cases x.1
  | p :: r, t :: cv, x => by
    obtain ⟨c, h1, h2⟩ := x.2 0 p t rfl rfl
    obtain ⟨kvs, g1, g2, g3⟩ := pairs_cov (K := K) (H := H) (qs := r) (cv := cv) ⟨by simpa using x.1, fun i p' t' e1 e2 => x.2 (i + 1) p' t' (by simpa using e1) (by simpa using e2)⟩
    refine ⟨(nK t.1, V.ref c) :: kvs, .cons (SqT.of h1) g1, fun q hq => ?_, fun t' ht => ?_⟩
    · rcases List.mem_cons.mp hq with rfl | hq
      · exact ⟨t, List.mem_cons_self, c, rfl, h2⟩
      · obtain ⟨t', ht', c', e, h⟩ := g2 q hq
        exact ⟨t', List.mem_cons_of_mem _ ht', c', e, h⟩
    · rcases List.mem_cons.mp ht with rfl | ht
      · exact ⟨_, List.mem_cons_self, rfl⟩
      · obtain ⟨q, hq, e⟩ := g3 t' ht
        exact ⟨q, List.mem_cons_of_mem _ hq, e⟩
/-- what the dict of a cover tells -/
theorem cov_get {H : Hp} {n : Net} {k : Nat} {cv : List Tb} {kvs : List (L2.Key × V)} (c : CovOk n k cv) (g2 : ∀ q ∈ kvs, ∃ t ∈ cv, ∃ c, q = (nK t.1, V.ref c) ∧ H c = some (.tup (t.2.map nV))) (g3 : ∀ t ∈ cv, ∃ q ∈ kvs, q.1 = nK t.1) {t : Tb} (ht : t ∈ cv) : ∃ c, valV (mergeK [] kvs) (nK t.1) = some (.ref c) ∧ H c = some (.tup (t.2.map nV)) := by
  obtain ⟨q, hq, h1, h2⟩ := merge_some kvs [] (g3 t ht)
  obtain ⟨t', ht', c', e, h⟩ := g2 q hq
  rw [e] at h1 h2
  have := rise_uniq c.rise ht' ht (nK_inj h1)
  subst this
  exact ⟨c', h2, h⟩
theorem merge_len (kvs : List (L2.Key × V)) : (mergeK [] kvs).length ≤ kvs.length := by
  have := length_mergeK kvs []
  rwa [List.length_nil, Nat.zero_add] at this
/-- a cover as data -/
def covD (cv : List Tb) : List PyData := cv.map fun t : Tb => .tuple [.int ((t.1 : Nat) : Int), .tuple ((t.2.map fun n : Nat => (n : Int)).map PyData.int)]
theorem canInts : ∀ xs : List Int, PyData.canLayAll0 (xs.map PyData.int) = true ∧ PyData.depthAll (xs.map PyData.int) = 0
  | [] => ⟨rfl, rfl⟩
  | x :: r => by
    obtain ⟨h1, h2⟩ := canInts r
    refine ⟨?_, ?_⟩
    · show ((PyData.int x).canLay0 && PyData.canLayAll0 (r.map PyData.int)) = true
      rw [h1]
      rfl
    · show max (PyData.int x).depth (PyData.depthAll (r.map PyData.int)) = 0
      rw [h2]
      rfl
theorem covD_can : ∀ cv : List Tb, PyData.canLayAll0 (covD cv) = true ∧ PyData.depthAll (covD cv) ≤ 2
  | [] => ⟨rfl, Nat.zero_le _⟩
  | t :: r => by
    obtain ⟨h1, h2⟩ := covD_can r
    obtain ⟨g1, g2⟩ := canInts (t.2.map fun n : Nat => (n : Int))
    refine ⟨?_, ?_⟩
    · show ((true && (PyData.canLayAll0 ((t.2.map fun n : Nat => (n : Int)).map PyData.int) && true)) && PyData.canLayAll0 (covD r)) = true
      rw [g1, h1]
      rfl
    · show max (max 0 (max (PyData.depthAll ((t.2.map fun n : Nat => (n : Int)).map PyData.int) + 1) 0) + 1) (PyData.depthAll (covD r)) ≤ 2
      rw [g2]
      omega
theorem covD_shaped (cv : List Tb) : SeqAt.shaped (.tuple (covD cv)) = true := shaped_tup (covD_can cv).1 (covD_can cv).2 (by decide)
theorem dpCovAll {K : PySem.W.Frag} {H : Hp} : ∀ {qs : List Addr} {cv : List Tb}, PtsAt TbAt H qs cv → DpAll K H (qs.map V.ref) (covD cv)
  | [], cv, x => by
    have : cv = [] := List.length_eq_zero_iff.mp x.1.symm
    subst this
    exact .nil
  | p :: r, [], x => by cases x.1
  | p :: r, t :: cv, x => by
    obtain ⟨c, h1, h2⟩ := x.2 0 p t rfl rfl
    exact .cons (.tup (SqT.of h1) (.cons (.int _) (.cons (.tup (SqT.of h2) (dpNat K _ _)) .nil))) (dpCovAll (K := K) (H := H) (qs := r) (cv := cv) ⟨by simpa using x.1, fun i p' t' e1 e2 => x.2 (i + 1) p' t' (by simpa using e1) (by simpa using e2)⟩)
theorem CovAt.dp {K : PySem.W.Frag} {H : Hp} {a : Addr} {cv : List Tb} {qs : List Addr} (x : CovAt H a cv qs) : Dp K H (.ref a) (.tuple (covD cv)) := .tup (SqT.of x.top) (dpCovAll x.ts)
theorem covD_eq (cv : List Tb) : PyData.eqv (.tuple (covD cv)) (.tuple (covD cv)) = true := SeqAt.eqv_refl _ (SeqAt.canLay_of_shaped (covD_shaped cv))
end GX
set_option Elab.async false
set_option linter.all false
set_option maxRecDepth 100000
set_option maxHeartbeats 4000000
/-! Masks as whole numbers. -/
namespace GX
open PySem PySem.Spec PyProof.Rows L2
theorem ip_and {X : Cx} : PIp X .BitAnd (ipI fun i j => Builtin.bitAnd i j) := by
  intro pins s σ H x y v u Q I r1 r2 h
  obtain ⟨i, j, e1, e2, q⟩ := h
  subst e1; subst e2
  obtain ⟨t, rfl⟩ := r1
  obtain ⟨t', rfl⟩ := r2
  exact iand_int ⟨.int _, H, I.tok _, ⟨_, rfl⟩, q⟩
theorem and_of (a b : Nat) : Builtin.bitAnd ((a : Nat) : Int) ((b : Nat) : Int) = ((a &&& b : Nat) : Int) := by
  rw [bitAnd_pp (Int.natCast_nonneg a) (Int.natCast_nonneg b), Int.toNat_natCast, Int.toNat_natCast]
theorem or_of (a b : Nat) : Builtin.bitOr ((a : Nat) : Int) ((b : Nat) : Int) = ((a ||| b : Nat) : Int) := by
  rw [bitOr_nn (Int.natCast_nonneg a) (Int.natCast_nonneg b), Int.toNat_natCast, Int.toNat_natCast]
theorem and_low (a : Nat) : Builtin.bitAnd ((a : Nat) : Int) (((a : Nat) : Int) - 1) = ((a &&& (a - 1) : Nat) : Int) := by
  cases a with
  | zero => rfl
  | succ a =>
    rw [show (((a + 1 : Nat) : Nat) : Int) - 1 = ((a : Nat) : Int) by omega, and_of]
    rfl
theorem and_next {p M : Nat} (h : 0 < p) : Builtin.bitAnd (((p : Nat) : Int) - 1) ((M : Nat) : Int) = (((p - 1) &&& M : Nat) : Int) := by
  rw [show ((p : Nat) : Int) - 1 = ((p - 1 : Nat) : Int) by omega, and_of]
theorem kvF_again {F : List Nat} {x : Nat} (h : x ∈ F) : putK (kvF F) (nK x) (.bl true) = kvF F := by
  have ha : ((kvF F).any fun kv => decide (kv.1 = nK x)) = true := by
    rw [List.any_eq_true]
    exact ⟨(nK x, .bl true), List.mem_map.mpr ⟨x, h, rfl⟩, decide_eq_true rfl⟩
  unfold putK
  rw [if_pos ha]
  conv => rhs; rw [← List.map_id (kvF F)]
  refine List.map_congr_left fun kv hkv => ?_
  obtain ⟨y, _, rfl⟩ := List.mem_map.mp hkv
  by_cases e : nK y = nK x
  · rw [if_pos e]; rfl
  · rw [if_neg e]; rfl
/-- what is found so far -/
def FoundW (k : Nat) (fs ss : List Nat) (i j : Nat) (F : List Nat) : Prop := ∀ M, M ∈ F ↔ ((∃ f ∈ fs.take i, ∃ s ∈ ss, M = f ||| s ∧ pop M ≤ k) ∨ ∃ s ∈ ss.take j, M = fs.getD i 0 ||| s ∧ pop M ≤ k)
theorem FoundW.zero (k : Nat) (fs ss : List Nat) : FoundW k fs ss 0 0 [] := fun M => ⟨fun h => (by cases h), fun h => by
  rcases h with ⟨f, hf, _⟩ | ⟨s, hs, _⟩
  · cases hf
  · cases hs⟩
theorem mem_take_succ {l : List Nat} {i : Nat} (h : i < l.length) (x : Nat) : x ∈ l.take (i + 1) ↔ (x ∈ l.take i ∨ x = l.getD i 0) := by
  rw [List.take_add_one, List.getElem?_eq_getElem h, Option.toList_some, List.mem_append, List.mem_singleton, List.getD_eq_getElem?_getD, List.getElem?_eq_getElem h]
  rfl
theorem FoundW.row {k : Nat} {fs ss : List Nat} {i : Nat} {F : List Nat} (hi : i < fs.length) (h : FoundW k fs ss i ss.length F) : FoundW k fs ss (i + 1) 0 F := fun M => by
  rw [h M, List.take_length]
  constructor
  · rintro (⟨f, hf, r⟩ | r)
    · exact .inl ⟨f, (mem_take_succ hi f).mpr (.inl hf), r⟩
    · exact .inl ⟨_, (mem_take_succ hi _).mpr (.inr rfl), r⟩
  · rintro (⟨f, hf, r⟩ | ⟨s, hs, _⟩)
    · rcases (mem_take_succ hi f).mp hf with hf | rfl
      · exact .inl ⟨f, hf, r⟩
      · exact .inr r
    · cases hs
theorem FoundW.no {k : Nat} {fs ss : List Nat} {i j : Nat} {F : List Nat} (hj : j < ss.length) (h : FoundW k fs ss i j F) (np : ¬ pop (fs.getD i 0 ||| ss.getD j 0) ≤ k) : FoundW k fs ss i (j + 1) F := fun M => by
  rw [h M]
  constructor
  · rintro (r | ⟨s, hs, r⟩)
    · exact .inl r
    · exact .inr ⟨s, (mem_take_succ hj s).mpr (.inl hs), r⟩
  · rintro (r | ⟨s, hs, rfl, r2⟩)
    · exact .inl r
    · rcases (mem_take_succ hj s).mp hs with hs | rfl
      · exact .inr ⟨s, hs, rfl, r2⟩
      · exact absurd r2 np
theorem FoundW.yes {k : Nat} {fs ss : List Nat} {i j : Nat} {F F' : List Nat} (hj : j < ss.length) (h : FoundW k fs ss i j F) (np : pop (fs.getD i 0 ||| ss.getD j 0) ≤ k) (hF : ∀ M, M ∈ F' ↔ (M ∈ F ∨ M = fs.getD i 0 ||| ss.getD j 0)) : FoundW k fs ss i (j + 1) F' := fun M => by
  rw [hF M, h M]
  constructor
  · rintro ((r | ⟨s, hs, r⟩) | rfl)
    · exact .inl r
    · exact .inr ⟨s, (mem_take_succ hj s).mpr (.inl hs), r⟩
    · exact .inr ⟨_, (mem_take_succ hj _).mpr (.inr rfl), rfl, np⟩
  · rintro (r | ⟨s, hs, rfl, r2⟩)
    · exact .inl (.inl r)
    · rcases (mem_take_succ hj s).mp hs with hs | rfl
      · exact .inl (.inr ⟨s, hs, rfl, r2⟩)
      · exact .inr rfl
theorem FoundW.all {k : Nat} {fs ss F : List Nat} (h : FoundW k fs ss fs.length 0 F) : Found k fs ss F := fun M => by
  rw [h M, List.take_length]
  constructor
  · rintro (r | ⟨s, hs, _⟩)
    · exact r
    · cases hs
  · exact fun r => .inl r
theorem or_lt23 {a b : Nat} (h : a < 2 ^ 23) (g : b < 2 ^ 23) : a ||| b < 2 ^ 23 := Nat.or_lt_two_pow h g
theorem nodup_lt23 {F : List Nat} (nd : F.Nodup) (h : ∀ M ∈ F, M < 2 ^ 23) : F.length < sizeLine := by
  have := nd.length_le_of_subset (l₂ := List.range (2 ^ 23)) fun x hx => List.mem_range.mpr (h x hx)
  rw [List.length_range] at this
  exact Nat.lt_of_le_of_lt this (by decide)
end GX
namespace GX
open PySem PySem.Spec PyProof.Rows L2
theorem bits_small {M : Nat} (h : M < 2 ^ 23) : Builtin.Int.intBits ((M : Nat) : Int) ≤ 10000 := by
  refine Nat.le_trans (m := 23) ?_ (by decide)
  rw [intBits_le_iff, Int.natAbs_natCast]
  exact h
end GX
namespace GX
open PySem PySem.Spec PyProof.Rows L2
theorem putK_le (kvs : List (L2.Key × V)) (k : L2.Key) (v : V) : (putK kvs k v).length ≤ kvs.length + 1 := by
  unfold putK
  by_cases h : (kvs.any fun kv => decide (kv.1 = k)) = true
  · rw [if_pos h, List.length_map]
    omega
  · rw [if_neg h, List.length_append]
    exact Nat.le_refl _
theorem mem_take_lt {ws : List Nat} (r : ws.Pairwise (· < ·)) {i y : Nat} (hi : i < ws.length) (hy : y ∈ ws) (h : y < ws.getD i 0) : y ∈ ws.take i := by
  obtain ⟨j, hj, rfl⟩ := List.mem_iff_getElem.mp hy
  have e : ws.getD i 0 = ws[i] := by rw [List.getD_eq_getElem?_getD, List.getElem?_eq_getElem hi]; rfl
  rw [e] at h
  refine List.mem_take_iff_getElem.mpr ⟨j, ?_, rfl⟩
  by_cases hji : j < i
  · omega
  · by_cases he : i = j
    · subst he
      omega
    · have := List.pairwise_iff_getElem.mp r i j hi hj (by omega)
      omega
theorem not_mem_take {ws : List Nat} (r : ws.Pairwise (· < ·)) {i y : Nat} (hi : i < ws.length) (hy : y ∈ ws.take i) : y < ws.getD i 0 := by
  obtain ⟨j, hj, rfl⟩ := List.mem_take_iff_getElem.mp hy
  have e : ws.getD i 0 = ws[i] := by rw [List.getD_eq_getElem?_getD, List.getElem?_eq_getElem hi]; rfl
  rw [e]
  exact List.pairwise_iff_getElem.mp r j i (by omega) hi (by omega)
/-- the cuts of a wire, as they lie in the dict -/
def CutsIn (n : Net) (k : Nat) (H : Hp) (kvs : List (L2.Key × V)) (x : Nat) : Prop := ∃ (p : Addr) (ms : List Nat), valV kvs (nK x) = some (.ref p) ∧ H p = some (.lst (ms.map nV)) ∧ ML n k x ms ∧ ms.Nodup
theorem CutsIn.mono {n : Net} {k x : Nat} {H H' : Hp} {kvs : List (L2.Key × V)} (h : CutsIn n k H kvs x) (m : ∀ b zs, H b = some (.lst zs) → H' b = some (.lst zs)) : CutsIn n k H' kvs x := by
  obtain ⟨p, ms, h1, h2, h3⟩ := h
  exact ⟨p, ms, h1, m _ _ h2, h3⟩
theorem CutsIn.put {n : Net} {k x y : Nat} {H : Hp} {kvs : List (L2.Key × V)} {v : V} (h : CutsIn n k H kvs x) (ne : x ≠ y) : CutsIn n k H (putK kvs (nK y) v) x := by
  obtain ⟨p, ms, h1, h2, h3⟩ := h
  exact ⟨p, ms, by rw [valV_put, if_neg (fun e => ne (nK_inj e))]; exact h1, h2, h3⟩
theorem ML.lt23 {n : Net} (ok : n.Ok) {k w M : Nat} {ms : List Nat} (hw : w < n.many + n.gates.length) (h : ML n k w ms) (hM : M ∈ ms) : 0 < M ∧ M < 2 ^ 23 := by
  obtain ⟨h1, h2, h3⟩ := (h M).mp hM
  have m8 := ok.m8
  have g16 := ok.g16
  refine ⟨Nat.pos_of_ne_zero fun z => tm_zero ok hw (by rw [← z]; exact h1.tl), ?_⟩
  refine Nat.lt_pow_two_of_testBit M fun j hj => ?_
  cases e : M.testBit j with
  | false => rfl
  | true =>
    have := h1.low ok j e
    have e2 : j = w := by omega
    rw [e2, h3] at e
    cases e
theorem pow_lt23 {x : Nat} (h : x < 23) : 0 < 2 ^ x ∧ 2 ^ x < 2 ^ 23 := ⟨Nat.two_pow_pos x, Nat.pow_lt_pow_right (by decide) h⟩
end GX
namespace GX
open PySem PySem.Spec PyProof.Rows L2
/-- with two wires a gate is told: so it has a least cut -/
theorem ML.some_ {n : Net} (ok : n.Ok) {k g : Nat} {kk : Nat × Nat × Nat} {ms : List Nat} (hk : 2 ≤ k) (hg : n.many ≤ g) (hkk : n.gates[g - n.many]? = some kk) (h : ML n k g ms) : ms ≠ [] := by
  have l1 := place_lt ok hg hkk (.inl rfl)
  have l2 := place_lt ok hg hkk (.inr rfl)
  have bit : ∀ j, (2 ^ kk.2.1 ||| 2 ^ kk.2.2).testBit j = true ↔ (j = kk.2.1 ∨ j = kk.2.2) := fun j => by
    rw [Nat.testBit_or, Nat.testBit_two_pow, Nat.testBit_two_pow, Bool.or_eq_true, decide_eq_true_iff, decide_eq_true_iff]
    omega
  have ht : Tm n g (2 ^ kk.2.1 ||| 2 ^ kk.2.2) := sep_first hg hkk fun z hz => mem_bits.mpr ((bit z).mpr hz)
  obtain ⟨f, f1, f2⟩ := min_ex _ _ (Nat.le_refl _) ht
  have hp : pop (2 ^ kk.2.1 ||| 2 ^ kk.2.2) ≤ 2 := by
    have := (bits_nodup (2 ^ kk.2.1 ||| 2 ^ kk.2.2)).length_le_of_subset (l₂ := [kk.2.1, kk.2.2]) fun x hx => by
      rcases (bit x).mp (mem_bits.mp hx) with e | e
      · rw [e]; exact List.mem_cons_self
      · rw [e]; exact List.mem_cons_of_mem _ List.mem_cons_self
    exact this
  have hm : f ∈ ms := (h f).mpr ⟨f2, Nat.le_trans (pop_sub f1) (by omega), by
    cases e : f.testBit g with
    | false => rfl
    | true =>
      rcases (bit g).mp (f1 g e) with e | e <;> omega⟩
  exact fun z => by
    rw [z] at hm
    cases hm
end GX
set_option Elab.async false
set_option linter.all false
set_option maxRecDepth 100000
set_option maxHeartbeats 4000000
/-! Slices of tuples and tuples put together, whatever object they are. -/
namespace GX
open PySem PySem.Spec PyProof.Rows L2
theorem slA_any {K : PySem.W.Frag} {x : V} {lo hi : Option Int} {H : Hp} {Q : VK} {a : Addr} {xs ys : List V} (ex : x = .ref a) (hs : H a = some (.tup xs)) (hc : cutV xs lo hi = ys) (h : ∀ p H', Same H H' → H' p = some (.tup ys) → Q (.ref p) H') : rSlA K x lo hi H Q := by
  refine ⟨a, xs, ex, SqT.of hs, fun c => h a H (Same.refl _) ?_, fun _ p np => h p _ (Same.new np) (by rw [hc]; exact upd_same)⟩
  have : cutV xs lo hi = xs := by
    unfold cutV
    rw [c.1, c.2, Nat.sub_zero, List.drop_zero, List.take_length]
  rw [← hc, this]
  exact hs
theorem catA_any {K : PySem.W.Frag} {x y : V} {H : Hp} {Q : VK} {a b : Addr} {xs ys : List V} (ex : x = .ref a) (ey : y = .ref b) (hx : H a = some (.tup xs)) (hy : H b = some (.tup ys)) (hl : xs.length + ys.length ≤ sizeLine) (h : ∀ p H', Same H H' → H' p = some (.tup (xs ++ ys)) → Q (.ref p) H') : rCatA K x y H Q := by
  refine ⟨a, b, xs, ys, ex, ey, SqT.of hx, SqT.of hy, hl, fun e => h b H (Same.refl _) (by rw [e, List.nil_append]; exact hy), fun _ e => h a H (Same.refl _) (by rw [e, List.append_nil]; exact hx), fun _ _ p np => h p _ (Same.new np) upd_same⟩
theorem six_nat {L d s : Nat} (h : s ≤ L) : HT.sIx L d (some ((s : Nat) : Int)) = s := by
  have h0 : ¬ ((s : Nat) : Int) < 0 := by omega
  unfold HT.sIx
  simp [h0]
  omega
theorem cut_take {ws : List Nat} {s : Nat} (h : s ≤ ws.length) : cutV (ws.map nV) none (some ((s : Nat) : Int)) = (ws.take s).map nV := by
  unfold cutV
  rw [six_nat (by rw [List.length_map]; exact h), List.map_take]
  show List.take (s - 0) (List.drop 0 _) = _
  rw [Nat.sub_zero, List.drop_zero]
theorem cut_drop {ws : List Nat} {s : Nat} (h : s ≤ ws.length) : cutV (ws.map nV) (some ((s : Nat) : Int)) none = (ws.drop s).map nV := by
  unfold cutV
  rw [six_nat (by rw [List.length_map]; exact h), List.map_drop]
  show List.take ((ws.map nV).length - s) _ = _
  rw [← List.length_drop, List.take_length]
end GX
set_option Elab.async false
set_option linter.all false
set_option maxRecDepth 100000
set_option maxHeartbeats 4000000
/-! A net that stands in the heap, as a thing. -/
namespace GX
open PySem PySem.Spec PyProof.Rows L2
def thN (n : Nat) : Th := .int (n : Int)
def thG (g : Nat × Nat × Nat) : Th := .tup [thN g.1, thN g.2.1, thN g.2.2]
def thNet (n : Net) : Th := .tup [thN n.many, .tup (n.gates.map thG), .tup (n.outs.map thN)]
theorem rep_ns {H : Hp} : ∀ (os : List Nat), RepAll H (os.map nV) (os.map thN)
  | [] => .nil
  | o :: r => .cons (.int _) (rep_ns r)
theorem GatesAt.tail {H : Hp} {p : Addr} {ps : List Addr} {g : Nat × Nat × Nat} {gs : List (Nat × Nat × Nat)} (x : GatesAt H (p :: ps) (g :: gs)) : GatesAt H ps gs :=
  ⟨by have := x.1; simpa using this, fun i p g e1 e2 => x.2 (i + 1) p g e1 e2⟩
theorem rep_gs {H : Hp} : ∀ (ps : List Addr) (gs : List (Nat × Nat × Nat)), GatesAt H ps gs → RepAll H (ps.map V.ref) (gs.map thG)
  | [], [], _ => .nil
  | [], _ :: _, x => by have := x.1; simp at this
  | _ :: _, [], x => by have := x.1; simp at this
  | p :: ps, g :: gs, x => .cons (.tup (x.2 0 p g rfl rfl) (.cons (.int _) (.cons (.int _) (.cons (.int _) .nil)))) (rep_gs ps gs x.tail)
theorem NetAt.rep {H : Hp} {a g o : Addr} {n : Net} {ps : List Addr} (N : NetAt H a n g o ps) : Rep H (.ref a) (thNet n) :=
  .tup N.top (.cons (.int _) (.cons (.tup N.gt (rep_gs _ _ N.gs)) (.cons (.tup N.ot (rep_ns _)) .nil)))
theorem isB_n {k : Nat} {b : Int} (h : (k : Int) < b) : Th.isB b (thN k) = true := by
  show (decide ((0 : Int) ≤ (k : Int)) && decide ((k : Int) < b)) = true
  rw [decide_eq_true (by omega), decide_eq_true h]
  rfl
theorem gates_ok : ∀ (gs : List (Nat × Nat × Nat)) (w : Nat), (∀ (i : Nat) (g : Nat × Nat × Nat), gs[i]? = some g → gateOk w i g) → gatesFrom (w : Int) (gs.map thG) = true
  | [], _, _ => rfl
  | g :: r, w, h => by
    show ((thG g).gate (w : Int) && gatesFrom ((w : Int) + 1) (r.map thG)) = true
    obtain ⟨h1, h2, h3⟩ := h 0 g rfl
    have e : (thG g).gate (w : Int) = true := by
      show (Th.isB 16 (thN g.1) && Th.isB (w : Int) (thN g.2.1) && Th.isB (w : Int) (thN g.2.2)) = true
      rw [isB_n (by omega), isB_n (by omega), isB_n (by omega)]
      rfl
    rw [e, Bool.true_and, show ((w : Int) + 1) = ((w + 1 : Nat) : Int) by omega]
    refine gates_ok r (w + 1) fun i g' e => ?_
    obtain ⟨g1, g2, g3⟩ := h (i + 1) g' e
    exact ⟨g1, by omega, by omega⟩
theorem Net.Ok.net {n : Net} (ok : n.Ok) : (thNet n).net = true := by
  show ((thN n.many).many && (Th.tup (n.gates.map thG)).gates (n.many : Int) && (Th.tup (n.outs.map thN)).outs ((n.many : Int) + (((n.gates.map thG).length : Nat) : Int))) = true
  have m1 := ok.m1
  have m8 := ok.m8
  have e1 : (thN n.many).many = true := by
    show (decide ((1 : Int) ≤ (n.many : Int)) && decide ((n.many : Int) ≤ 8)) = true
    rw [decide_eq_true (by omega), decide_eq_true (by omega)]
    rfl
  have e2 : (Th.tup (n.gates.map thG)).gates (n.many : Int) = true := by
    show (decide ((n.gates.map thG).length ≤ 16) && gatesFrom (n.many : Int) (n.gates.map thG)) = true
    rw [gates_ok n.gates n.many ok.gs, decide_eq_true (by rw [List.length_map]; exact ok.g16)]
    rfl
  have e3 : (Th.tup (n.outs.map thN)).outs ((n.many : Int) + (((n.gates.map thG).length : Nat) : Int)) = true := by
    show (decide (1 ≤ (n.outs.map thN).length) && decide ((n.outs.map thN).length ≤ 8) && (n.outs.map thN).all (Th.isB ((n.many : Int) + (((n.gates.map thG).length : Nat) : Int)))) = true
    rw [List.length_map, List.length_map, decide_eq_true ok.o1, decide_eq_true ok.o8, Bool.true_and, Bool.true_and, List.all_eq_true]
    intro x hx
    obtain ⟨o, ho, rfl⟩ := List.mem_map.mp hx
    have := ok.os o ho
    exact isB_n (by omega)
  rw [e1, e2, e3]
  rfl
theorem all_pl {α : Type} {n d : Nat} {f : α → Th} {xs : List α} (h : ∀ x ∈ xs, Th.pl n d (f x) = true) : (xs.map f).all (Th.pl n d) = true := by
  rw [List.all_eq_true]
  intro x hx
  obtain ⟨y, hy, rfl⟩ := List.mem_map.mp hx
  exact h y hy
theorem Net.Ok.pl {n : Net} (ok : n.Ok) : Th.pl 16 4 (thNet n) = true := by
  have e1 : Th.pl 16 3 (.tup (n.gates.map thG)) = true := by
    show (decide ((n.gates.map thG).length ≤ 16) && (n.gates.map thG).all (Th.pl 16 2)) = true
    rw [decide_eq_true (by rw [List.length_map]; exact ok.g16), all_pl fun _ _ => rfl]
    rfl
  have e2 : Th.pl 16 3 (.tup (n.outs.map thN)) = true := by
    show (decide ((n.outs.map thN).length ≤ 16) && (n.outs.map thN).all (Th.pl 16 2)) = true
    rw [decide_eq_true (by rw [List.length_map]; have := ok.o8; omega), all_pl fun _ _ => rfl]
    rfl
  show (decide (3 ≤ 16) && (true && (Th.pl 16 3 (.tup (n.gates.map thG)) && (Th.pl 16 3 (.tup (n.outs.map thN)) && true)))) = true
  rw [e1, e2]
  rfl
end GX
set_option Elab.async false
set_option linter.all false
set_option maxRecDepth 100000
set_option maxHeartbeats 4000000
/-! The worth of a wire where some wires are held. -/
namespace GX
open PySem PySem.Spec PyProof.Rows L2
def gw (k a b : Nat) : Nat := k / 2 ^ (a + 2 * b) % 2
theorem gw_lt (k a b : Nat) : gw k a b < 2 := Nat.mod_lt _ (by decide)
/-- where a wire stands -/
def ixOf (x : Nat) : List Nat → Nat
  | [] => 0
  | y :: r => if y = x then 0 else ixOf x r + 1
theorem ixOf_get {ws : List Nat} (nd : ws.Nodup) : ∀ {j : Nat}, j < ws.length → ixOf (ws.getD j 0) ws = j := by
  induction ws with
  | nil => intro j h; exact absurd h (Nat.not_lt_zero _)
  | cons y r ih =>
    intro j h
    obtain ⟨n1, n2⟩ := List.nodup_cons.mp nd
    cases j with
    | zero =>
      show (if y = y then 0 else _) = 0
      rw [if_pos rfl]
    | succ j =>
      have hj : j < r.length := Nat.lt_of_succ_lt_succ h
      show (if y = r.getD j 0 then 0 else ixOf (r.getD j 0) r + 1) = j + 1
      rw [if_neg (fun e => n1 (by rw [e]; exact getD_mem hj)), ih n2 hj]
theorem ixOf_lt {ws : List Nat} {x : Nat} (h : x ∈ ws) : ixOf x ws < ws.length ∧ ws.getD (ixOf x ws) 0 = x := by
  induction ws with
  | nil => cases h
  | cons y r ih =>
    unfold ixOf
    by_cases e : y = x
    · rw [if_pos e]
      exact ⟨Nat.succ_pos _, e⟩
    · rw [if_neg e]
      rcases List.mem_cons.mp h with h | h
      · exact absurd h.symm e
      · obtain ⟨h1, h2⟩ := ih h
        exact ⟨Nat.succ_lt_succ h1, h2⟩
def bitIn (ws : List Nat) (r x : Nat) : Nat := r / 2 ^ ixOf x ws % 2
/-- what a wire has, by those ahead -/
def valOf (n : Net) (ws : List Nat) (r : Nat) (acc : List Nat) (x : Nat) : Nat :=
  if x ∈ ws then bitIn ws r x else if x < n.many then 0 else match n.gates[x - n.many]? with
    | some k => gw k.1 (acc.getD k.2.1 0) (acc.getD k.2.2 0)
    | none => 0
def evl (n : Net) (ws : List Nat) (r : Nat) : Nat → List Nat
  | 0 => []
  | m + 1 => evl n ws r m ++ [valOf n ws r (evl n ws r m) m]
theorem evl_len (n : Net) (ws : List Nat) (r : Nat) : ∀ m, (evl n ws r m).length = m
  | 0 => rfl
  | m + 1 => by
    show (evl n ws r m ++ [_]).length = m + 1
    rw [List.length_append, evl_len n ws r m]
    rfl
def ev (n : Net) (ws : List Nat) (r x : Nat) : Nat := valOf n ws r (evl n ws r x) x
theorem evl_at (n : Net) (ws : List Nat) (r : Nat) : ∀ m x, x < m → (evl n ws r m).getD x 0 = ev n ws r x
  | 0, x, h => absurd h (Nat.not_lt_zero _)
  | m + 1, x, h => by
    have hl := evl_len n ws r m
    show (evl n ws r m ++ [_]).getD x 0 = _
    by_cases e : x = m
    · subst e
      have := getLastN (xs := evl n ws r x) (x := valOf n ws r (evl n ws r x) x)
      rw [hl] at this
      exact this
    · rw [getSnoc (by omega)]
      exact evl_at n ws r m x (by omega)
theorem ev_in {n : Net} {ws : List Nat} {r x : Nat} (h : x ∈ ws) : ev n ws r x = bitIn ws r x := by
  unfold ev valOf
  rw [if_pos h]
theorem ev_gate {n : Net} (ok : n.Ok) {ws : List Nat} {r x : Nat} {k : Nat × Nat × Nat} (h : x ∉ ws) (hm : n.many ≤ x) (hk : n.gates[x - n.many]? = some k) : ev n ws r x = gw k.1 (ev n ws r k.2.1) (ev n ws r k.2.2) := by
  have h1 := place_lt ok hm hk (.inl rfl)
  have h2 := place_lt ok hm hk (.inr rfl)
  conv => lhs; unfold ev valOf
  rw [if_neg h, if_neg (by omega), hk]
  show gw k.1 ((evl n ws r x).getD k.2.1 0) ((evl n ws r x).getD k.2.2 0) = _
  rw [evl_at n ws r x _ h1, evl_at n ws r x _ h2]
theorem ev_lt {n : Net} (ws : List Nat) (r x : Nat) : ev n ws r x < 2 := by
  unfold ev valOf
  by_cases h : x ∈ ws
  · rw [if_pos h]
    exact Nat.mod_lt _ (by decide)
  · rw [if_neg h]
    by_cases h2 : x < n.many
    · rw [if_pos h2]
      decide
    · rw [if_neg h2]
      cases n.gates[x - n.many]? with
      | none => exact Nat.two_pos
      | some k => exact gw_lt _ _ _
/-- what can be told from the held ones -/
inductive Det (n : Net) (ws : List Nat) : Nat → Prop
  | held {x : Nat} : x ∈ ws → Det n ws x
  | gate {x : Nat} {k : Nat × Nat × Nat} : n.many ≤ x → n.gates[x - n.many]? = some k → Det n ws k.2.1 → Det n ws k.2.2 → Det n ws x
theorem det_of {n : Net} (ok : n.Ok) {ws : List Nat} {w : Nat} (hw : w < n.many + n.gates.length) (sep : Sep n w ws) : ∀ b y, y ≤ b → Rc n ws w n.many y → Det n ws y
  | b, y, hb, r => by
    have hm := sep y r
    have hy := r.le ok
    obtain ⟨k, hk⟩ : ∃ k, n.gates[y - n.many]? = some k := ⟨_, List.getElem?_eq_getElem (by omega)⟩
    have pl : ∀ p, (p = k.2.1 ∨ p = k.2.2) → Det n ws p := fun p hp => by
      by_cases e : p ∈ ws
      · exact .held e
      · have lt := place_lt ok hm hk hp
        cases b with
        | zero => omega
        | succ b => exact det_of ok hw sep b p (by omega) (.step r hm hm hk hp e)
    exact .gate hm hk (pl _ (.inl rfl)) (pl _ (.inr rfl))
termination_by b => b
theorem det_top {n : Net} (ok : n.Ok) {ws : List Nat} {w : Nat} (hw : w < n.many + n.gates.length) (sep : Sep n w ws) : Det n ws w := by
  by_cases e : w ∈ ws
  · exact .held e
  · exact det_of ok hw sep w w (Nat.le_refl _) (.here e)
/-- wider: a gate goes, its places come -/
theorem sep_wide {n : Net} {w h : Nat} {st st' : List Nat} {k : Nat × Nat × Nat} (sep : Sep n w st) (hm : n.many ≤ h) (hk : n.gates[h - n.many]? = some k) (keep : ∀ z ∈ st, z ≠ h → z ∈ st') (pl : ∀ z, (z = k.2.1 ∨ z = k.2.2) → z ∈ st') : Sep n w st' := by
  by_cases e : w ∈ st
  · by_cases e2 : w = h
    · subst e2
      exact sep_first hm hk pl
    · have hin := keep w e e2
      intro y r
      exfalso
      induction r with
      | here z => exact z hin
      | step _ _ _ _ _ _ ih => exact ih
  · exact sep_step sep e hm hk keep pl
/-- a content -/
def contOf (n : Net) (ws : List Nat) (w : Nat) : List Nat := (List.range (2 ^ ws.length)).map fun r => ev n ws r w
end GX
set_option Elab.async false
set_option linter.all false
set_option maxRecDepth 100000
set_option maxHeartbeats 4000000
/-! Contents with a place more, or one less. -/
namespace GX
open PySem PySem.Spec PyProof.Rows L2
def del (p n : Nat) : Nat := n / (2 * 2 ^ p) * 2 ^ p + n % 2 ^ p
def ins (p r : Nat) : Nat := r / 2 ^ p * (2 * 2 ^ p) + r % 2 ^ p
theorem two_pow (p : Nat) : 2 * 2 ^ p = 2 ^ (p + 1) := by rw [Nat.pow_succ, Nat.mul_comm]
theorem del_bit (p n j : Nat) : (del p n).testBit j = if j < p then n.testBit j else n.testBit (j + 1) := by
  unfold del
  rw [Nat.mul_comm _ (2 ^ p), Nat.testBit_two_pow_mul_add _ (Nat.mod_lt _ (Nat.pow_pos (by decide)))]
  by_cases h : j < p
  · rw [if_pos h, if_pos h, Nat.testBit_mod_two_pow, decide_eq_true h, Bool.true_and]
  · rw [if_neg h, if_neg h, two_pow, Nat.testBit_div_two_pow]
    congr 1
    omega
theorem ins_bit (p r j : Nat) : (ins p r).testBit j = if j < p then r.testBit j else if j = p then false else r.testBit (j - 1) := by
  unfold ins
  have hp : 0 < 2 ^ p := Nat.pow_pos (by decide)
  rw [two_pow, Nat.mul_comm _ (2 ^ (p + 1)), Nat.testBit_two_pow_mul_add _ (Nat.lt_of_lt_of_le (Nat.mod_lt _ hp) (Nat.pow_le_pow_right (by decide) (by omega)))]
  by_cases h : j < p
  · rw [if_pos (by omega), if_pos h, Nat.testBit_mod_two_pow, decide_eq_true h, Bool.true_and]
  · rw [if_neg h]
    by_cases h2 : j = p
    · rw [if_pos h2, if_pos (by omega), Nat.testBit_mod_two_pow, decide_eq_false h, Bool.false_and]
    · rw [if_neg h2, if_neg (by omega), Nat.testBit_div_two_pow]
      congr 1
      omega
theorem del_ins (p r : Nat) : del p (ins p r) = r := by
  apply Nat.eq_of_testBit_eq
  intro j
  rw [del_bit]
  by_cases h : j < p
  · rw [if_pos h, ins_bit, if_pos h]
  · rw [if_neg h, ins_bit, if_neg (by omega), if_neg (by omega), Nat.add_sub_cancel]
theorem ins_del {p n : Nat} (h0 : n / 2 ^ p % 2 = 0) : ins p (del p n) = n := by
  apply Nat.eq_of_testBit_eq
  intro j
  rw [ins_bit]
  by_cases h : j < p
  · rw [if_pos h, del_bit, if_pos h]
  · rw [if_neg h]
    by_cases h2 : j = p
    · rw [if_pos h2, h2, Nat.testBit_eq_decide_div_mod_eq, decide_eq_false (by omega)]
    · rw [if_neg h2, del_bit, if_neg (by omega)]
      congr 1
      omega
theorem del_xor (p n : Nat) : del p (n ^^^ 2 ^ p) = del p n := by
  apply Nat.eq_of_testBit_eq
  intro j
  rw [del_bit, del_bit]
  by_cases h : j < p
  · rw [if_pos h, if_pos h, Nat.testBit_xor, Nat.testBit_two_pow, decide_eq_false (by omega), Bool.xor_false]
  · rw [if_neg h, if_neg h, Nat.testBit_xor, Nat.testBit_two_pow, decide_eq_false (by omega), Bool.xor_false]
/-- a place behind p moves up by one -/
def mov (p q : Nat) : Nat := if q > p then q - 1 else q
theorem ins_xor {p q r : Nat} (h : q ≠ p) : ins p (r ^^^ 2 ^ mov p q) = ins p r ^^^ 2 ^ q := by
  apply Nat.eq_of_testBit_eq
  intro j
  unfold mov
  rw [Nat.testBit_xor, ins_bit, ins_bit, Nat.testBit_two_pow, Nat.testBit_xor, Nat.testBit_xor, Nat.testBit_two_pow, Nat.testBit_two_pow]
  by_cases hj : j < p
  · rw [if_pos hj, if_pos hj]
    congr 1
    by_cases hq : q > p
    · rw [if_pos hq, decide_eq_false (by omega), decide_eq_false (by omega)]
    · rw [if_neg hq]
  · rw [if_neg hj, if_neg hj]
    by_cases hj2 : j = p
    · rw [if_pos hj2, if_pos hj2, decide_eq_false (by omega)]
      rfl
    · rw [if_neg hj2, if_neg hj2]
      congr 1
      by_cases hq : q > p
      · rw [if_pos hq]
        by_cases e : q = j
        · rw [decide_eq_true (by omega), decide_eq_true e]
        · rw [decide_eq_false (by omega), decide_eq_false e]
      · rw [if_neg hq, decide_eq_false (by omega), decide_eq_false (by omega)]
theorem del_lt {p n m : Nat} (hn : n < 2 ^ (m + 1)) (hp : p ≤ m) : del p n < 2 ^ m := by
  apply Nat.lt_pow_two_of_testBit
  intro j hj
  rw [del_bit, if_neg (by omega)]
  exact Nat.testBit_lt_two_pow (Nat.lt_of_lt_of_le hn (Nat.pow_le_pow_right (by decide) (by omega)))
theorem ins_lt {p r m : Nat} (hr : r < 2 ^ m) (hp : p ≤ m) : ins p r < 2 ^ (m + 1) := by
  apply Nat.lt_pow_two_of_testBit
  intro j hj
  rw [ins_bit, if_neg (by omega), if_neg (by omega)]
  exact Nat.testBit_lt_two_pow (Nat.lt_of_lt_of_le hr (Nat.pow_le_pow_right (by decide) (by omega)))
theorem ins_mono {p r s : Nat} (h : r < s) : ins p r < ins p s := by
  unfold ins
  have hp : 0 < 2 ^ p := Nat.pow_pos (by decide)
  have e1 := Nat.div_add_mod r (2 ^ p)
  have e2 := Nat.div_add_mod s (2 ^ p)
  have b1 := Nat.mod_lt r hp
  have b2 := Nat.mod_lt s hp
  generalize r / 2 ^ p = a at e1 ⊢
  generalize s / 2 ^ p = c at e2 ⊢
  generalize r % 2 ^ p = b at e1 b1 ⊢
  generalize s % 2 ^ p = d at e2 b2 ⊢
  generalize 2 ^ p = X at *
  by_cases hac : a < c
  · have : a * (2 * X) + 2 * X ≤ c * (2 * X) := by
      rw [← Nat.succ_mul]
      exact Nat.mul_le_mul_right _ hac
    omega
  · by_cases hac2 : a = c
    · subst hac2
      omega
    · have : X * c + X ≤ X * a := by
        rw [← Nat.mul_succ]
        exact Nat.mul_le_mul_left _ (by omega)
      omega
theorem ins_low (p r : Nat) : ins p r / 2 ^ p % 2 = 0 := by
  have t : (ins p r).testBit p = false := by rw [ins_bit, if_neg (Nat.lt_irrefl _), if_pos rfl]
  rw [Nat.testBit_eq_decide_div_mod_eq] at t
  have := of_decide_eq_false t
  omega
theorem low_range {p m : Nat} (hp : p ≤ m) : ((List.range (2 ^ (m + 1))).filter fun n => decide (n / 2 ^ p % 2 = 0)) = (List.range (2 ^ m)).map (ins p) := by
  refine rise_eq (List.Pairwise.filter _ List.pairwise_lt_range) ?_ fun z => ?_
  · rw [List.pairwise_map]
    exact List.pairwise_lt_range.imp fun h => ins_mono h
  · rw [List.mem_filter, List.mem_range, List.mem_map]
    refine ⟨fun ⟨h1, h2⟩ => ⟨del p z, List.mem_range.mpr (del_lt h1 hp), ins_del (of_decide_eq_true h2)⟩, ?_⟩
    rintro ⟨r, hr, rfl⟩
    exact ⟨ins_lt (List.mem_range.mp hr) hp, decide_eq_true (ins_low p r)⟩
/-- with a place more -/
def wd (xs : List Nat) (p : Nat) : List Nat := (List.range (2 * xs.length)).map fun n => xs.getD (del p n) 0
/-- without a place -/
def wo (xs : List Nat) (p : Nat) : List Nat := ((List.range xs.length).filter fun n => decide (n / 2 ^ p % 2 = 0)).map fun n => xs.getD n 0
theorem wd_len (xs : List Nat) (p : Nat) : (wd xs p).length = 2 * xs.length := by unfold wd; rw [List.length_map, List.length_range]
theorem getD_map {f : Nat → Nat} {n i : Nat} (h : i < n) : ((List.range n).map f).getD i 0 = f i := by
  rw [List.getD_eq_getElem?_getD, List.getElem?_map, List.getElem?_range h]
  rfl
theorem wd_at {xs : List Nat} {p n : Nat} (h : n < 2 * xs.length) : (wd xs p).getD n 0 = xs.getD (del p n) 0 := getD_map h
theorem wo_eq {xs : List Nat} {p m : Nat} (hl : xs.length = 2 ^ (m + 1)) (hp : p ≤ m) : wo xs p = (List.range (2 ^ m)).map fun r => xs.getD (ins p r) 0 := by
  unfold wo
  rw [hl, low_range hp, List.map_map]
  rfl
theorem wo_len {xs : List Nat} {p m : Nat} (hl : xs.length = 2 ^ (m + 1)) (hp : p ≤ m) : (wo xs p).length = 2 ^ m := by rw [wo_eq hl hp, List.length_map, List.length_range]
theorem wo_at {xs : List Nat} {p m r : Nat} (hl : xs.length = 2 ^ (m + 1)) (hp : p ≤ m) (hr : r < 2 ^ m) : (wo xs p).getD r 0 = xs.getD (ins p r) 0 := by rw [wo_eq hl hp, getD_map hr]
theorem wd_idle {xs : List Nat} {p m : Nat} (hl : xs.length = 2 ^ m) (hp : p ≤ m) : idleAt (wd xs p) p = true := by
  rw [idleAt_iff]
  intro r hr
  rw [wd_len, hl, two_pow] at hr
  have lt : r ^^^ 2 ^ p < 2 ^ (m + 1) := Nat.xor_lt_two_pow hr (Nat.pow_lt_pow_right (by decide) (by omega))
  rw [wd_at (by rw [hl, two_pow]; exact hr), wd_at (by rw [hl, two_pow]; exact lt), del_xor]
theorem wo_wd {xs : List Nat} {p m : Nat} (hl : xs.length = 2 ^ m) (hp : p ≤ m) : wo (wd xs p) p = xs := by
  have h2 : (wd xs p).length = 2 ^ (m + 1) := by rw [wd_len, hl, two_pow]
  refine eqNats (by rw [wo_len h2 hp, hl]) fun r hr => ?_
  rw [wo_len h2 hp] at hr
  rw [wo_at h2 hp hr, wd_at (by rw [hl, two_pow]; exact ins_lt hr hp), del_ins]
theorem wo_idle {xs : List Nat} {p q m : Nat} (hl : xs.length = 2 ^ (m + 1)) (hp : p ≤ m) (hq : q ≤ m) (ne : q ≠ p) (h : idleAt xs q = true) : idleAt (wo xs p) (mov p q) = true := by
  rw [idleAt_iff] at h ⊢
  intro r hr
  rw [wo_len hl hp] at hr
  have hmq : mov p q < m := by
    unfold mov
    split <;> omega
  have lt : r ^^^ 2 ^ mov p q < 2 ^ m := Nat.xor_lt_two_pow hr (Nat.pow_lt_pow_right (by decide) hmq)
  rw [wo_at hl hp hr, wo_at hl hp lt, ins_xor ne]
  exact h _ (by rw [hl]; exact ins_lt hr hp)
theorem mov_lt {p q m : Nat} (hp : p ≤ m) (hq : q ≤ m) (ne : q ≠ p) : mov p q < m := by
  unfold mov
  split <;> omega
theorem mov_inj {p q r : Nat} (h1 : q ≠ p) (h2 : r ≠ p) (h : mov p q = mov p r) : q = r := by
  unfold mov at h
  split at h <;> split at h <;> omega
end GX
set_option Elab.async false
set_option linter.all false
set_option maxRecDepth 100000
set_option maxHeartbeats 4000000
/-! Lists of tuples of whole numbers, sorted. -/
namespace GX
open PySem PySem.Spec PyProof.Rows L2
def natV : V → Nat
  | .int i => i.toNat
  | _ => 0
/-- the whole numbers of a tuple -/
def tupN (H : Hp) : V → List Nat
  | .ref t => match H t with
    | some (.tup xs) => xs.map natV
    | _ => []
  | _ => []
theorem tupN_at {H : Hp} {t : Addr} {c : List Nat} (h : H t = some (.tup (c.map nV))) : tupN H (.ref t) = c := by
  show (match H t with | some (HO.tup xs) => xs.map natV | _ => []) = c
  rw [h]
  show (c.map nV).map natV = c
  rw [List.map_map]
  conv => rhs; rw [← List.map_id c]
  refine List.map_congr_left fun x _ => ?_
  show ((x : Nat) : Int).toNat = x
  exact Int.toNat_natCast x
abbrev TupsAt (H : Hp) (qs : List Addr) (cs : List (List Nat)) : Prop := RefsAt (fun c : List Nat => c.map nV) H qs cs
theorem TupsAt.map {H : Hp} : ∀ {qs : List Addr} {cs : List (List Nat)}, TupsAt H qs cs → (qs.map V.ref).map (tupN H) = cs
  | [], cs, h => (List.length_eq_zero_iff.mp h.1.symm).symm
  | q :: qs, [], h => by cases h.1
  | q :: qs, c :: cs, h => by
    have h1 := h.2 0 q c rfl rfl
    have h2 : TupsAt H qs cs := ⟨Nat.succ.inj h.1, fun i p x e1 e2 => h.2 (i + 1) p x e1 e2⟩
    show tupN H (.ref q) :: _ = _
    rw [tupN_at h1, TupsAt.map h2]
theorem TupsAt.all {H : Hp} {qs : List Addr} {cs : List (List Nat)} (h : TupsAt H qs cs) {x : V} (hx : x ∈ qs.map V.ref) : ∃ t c, x = .ref t ∧ c ∈ cs ∧ H t = some (.tup (c.map nV)) := by
  obtain ⟨i, hi, e⟩ := List.mem_iff_getElem.mp hx
  obtain ⟨t, c, e1, e2, e3⟩ := h.at_ (i := i) (v := x) (by rw [List.getElem?_eq_getElem hi, e])
  exact ⟨t, c, e1, List.mem_of_getElem? e2, e3⟩
/-- sorted: the tuples again -/
theorem tups_sorted {H : Hp} {qs : List Addr} {cs : List (List Nat)} (h : TupsAt H qs cs) {ys : List V} (srt : SrtO.Srtd (fun x y => HT.lexLt ((tupN H x).map fun n : Nat => (n : Int)) ((tupN H y).map fun n : Nat => (n : Int))) ys) (pm : ys.Perm (qs.map V.ref)) :
    ∃ (rs : List Addr) (ds : List (List Nat)), ys = rs.map V.ref ∧ TupsAt H rs ds ∧ ds.Perm cs ∧ ds.Pairwise fun a b => lexN b a = false := by
  have hall : ∀ y ∈ ys, ∃ t c, y = .ref t ∧ c ∈ cs ∧ H t = some (.tup (c.map nV)) := fun y hy => h.all (pm.mem_iff.mp hy)
  have mk : ∀ zs : List V, (∀ y ∈ zs, ∃ t c, y = .ref t ∧ c ∈ cs ∧ H t = some (.tup (c.map nV))) → ∃ rs : List Addr, zs = rs.map V.ref ∧ TupsAt H rs (zs.map (tupN H)) := by
    intro zs
    induction zs with
    | nil => exact fun _ => ⟨[], rfl, RefsAt.nil _ _⟩
    | cons y zs ih =>
      intro hz
      obtain ⟨t, c, rfl, _, ht⟩ := hz y List.mem_cons_self
      obtain ⟨rs, e, hr⟩ := ih fun y hy => hz y (List.mem_cons_of_mem _ hy)
      refine ⟨t :: rs, by rw [e]; rfl, ⟨congrArg Nat.succ hr.1, fun i p x e1 e2 => ?_⟩⟩
      cases i with
      | zero =>
        cases e1
        have e2' : some (tupN H (.ref t)) = some x := e2
        rw [tupN_at ht] at e2'
        cases e2'
        exact ht
      | succ i => exact hr.2 i p x e1 e2
  obtain ⟨rs, e, hr⟩ := mk ys hall
  refine ⟨rs, ys.map (tupN H), e, hr, ?_, ?_⟩
  · have := pm.map (tupN H)
    rw [TupsAt.map h] at this
    exact this
  · exact List.pairwise_map.mpr srt
end GX
set_option Elab.async false
set_option linter.all false
set_option maxRecDepth 100000
set_option maxHeartbeats 4000000
/-! All sets of some wires; the least that tell among them. -/
namespace GX
open PySem PySem.Spec PyProof.Rows L2
def setStep (m : Nat) (acc : List (List Nat)) (x : Nat) : List (List Nat) := acc ++ (acc.filter fun c => decide (c.length < m)).map fun c => c ++ [x]
def setsOf (m : Nat) (xs : List Nat) : List (List Nat) := xs.foldl (setStep m) [[]]
theorem sets_snoc (m : Nat) (xs : List Nat) (x : Nat) : setsOf m (xs ++ [x]) = setStep m (setsOf m xs) x := by
  unfold setsOf
  rw [List.foldl_append]
  rfl
theorem sets_take {m : Nat} {xs : List Nat} {i : Nat} (h : i < xs.length) : setsOf m (xs.take (i + 1)) = setStep m (setsOf m (xs.take i)) (xs.getD i 0) := by
  rw [List.take_add_one, List.getElem?_eq_getElem h, Option.toList_some, sets_snoc, List.getD_eq_getElem?_getD, List.getElem?_eq_getElem h]
  rfl
theorem rev_indN {P : List Nat → Prop} (h0 : P []) (h1 : ∀ xs x, P xs → P (xs ++ [x])) : ∀ xs, P xs := fun xs => by
  have : ∀ ys : List Nat, P ys.reverse := fun ys => by
    induction ys with
    | nil => exact h0
    | cons y ys ih => rw [List.reverse_cons]; exact h1 _ _ ih
  have h := this xs.reverse
  rwa [List.reverse_reverse] at h
theorem sets_len (m : Nat) : ∀ xs, (setsOf m xs).length ≤ 2 ^ xs.length := by
  refine rev_indN (by exact Nat.le_refl _) fun xs x ih => ?_
  rw [sets_snoc, List.length_append]
  unfold setStep
  rw [List.length_append, List.length_map]
  have := List.length_filter_le (fun c : List Nat => decide (c.length < m)) (setsOf m xs)
  rw [show [x].length = 1 from rfl, Nat.pow_succ]
  omega
theorem sets_mem {m : Nat} : ∀ (xs c : List Nat), c ∈ setsOf m xs ↔ (c.Sublist xs ∧ c.length ≤ m) := by
  refine rev_indN (fun c => ?_) fun xs x ih c => ?_
  · show c ∈ [[]] ↔ _
    rw [List.mem_singleton, List.sublist_nil]
    exact ⟨fun h => ⟨h, by rw [h]; exact Nat.zero_le _⟩, fun h => h.1⟩
  · rw [sets_snoc]
    unfold setStep
    rw [List.mem_append, ih, List.mem_map, List.sublist_append_iff]
    constructor
    · rintro (⟨h1, h2⟩ | ⟨b, hb, rfl⟩)
      · exact ⟨⟨c, [], (List.append_nil c).symm, h1, List.nil_sublist _⟩, h2⟩
      · obtain ⟨h1, h2⟩ := List.mem_filter.mp hb
        have h3 := of_decide_eq_true h2
        refine ⟨⟨b, [x], rfl, ((ih b).mp h1).1, List.Sublist.refl _⟩, ?_⟩
        rw [List.length_append]
        exact h3
    · rintro ⟨⟨l1, l2, rfl, h1, h2⟩, h3⟩
      have h2' : l2 = [] ∨ l2 = [x] := by
        cases h2 with
        | cons _ h => exact .inl (List.sublist_nil.mp h)
        | cons_cons _ h => exact .inr (by rw [List.sublist_nil.mp h])
      rcases h2' with rfl | rfl
      · rw [List.append_nil] at h3 ⊢
        exact .inl ⟨h1, h3⟩
      · rw [List.length_append] at h3
        have h3' : l1.length + 1 ≤ m := h3
        exact .inr ⟨l1, List.mem_filter.mpr ⟨(ih l1).mpr ⟨h1, by omega⟩, decide_eq_true (by omega)⟩, rfl⟩
theorem sets_nodup {m : Nat} : ∀ xs : List Nat, xs.Nodup → (setsOf m xs).Nodup := by
  refine rev_indN (fun _ => ?_) fun xs x ih nd => ?_
  · show [[]].Nodup
    exact List.nodup_cons.mpr ⟨fun z => (by cases z), List.nodup_nil⟩
  · have nd' : xs.Nodup ∧ x ∉ xs := by
      have := List.nodup_append.mp nd
      exact ⟨this.1, fun z => this.2.2 x z x List.mem_cons_self rfl⟩
    rw [sets_snoc]
    unfold setStep
    rw [List.nodup_append]
    refine ⟨ih nd'.1, ?_, fun a ha b hb e => ?_⟩
    · rw [List.nodup_iff_pairwise_ne, List.pairwise_map]
      have := ((ih nd'.1).filter fun c => decide (c.length < m))
      exact this.imp fun h e => h (List.append_cancel_right e)
    · obtain ⟨b', hb', rfl⟩ := List.mem_map.mp hb
      have := ((sets_mem xs a).mp ha).1.subset (a := x) (by rw [e]; exact List.mem_append.mpr (.inr List.mem_cons_self))
      exact nd'.2 this
/-- a rising list among a rising one -/
theorem rise_sub {c xs : List Nat} (hc : c.Pairwise (· < ·)) (hx : xs.Pairwise (· < ·)) (h : ∀ x ∈ c, x ∈ xs) : c.Sublist xs := by
  have e : c = xs.filter fun x => decide (x ∈ c) := rise_eq hc (hx.filter _) fun z => by
    rw [List.mem_filter, decide_eq_true_iff]
    exact ⟨fun hz => ⟨h z hz, hz⟩, fun hz => hz.2⟩
  rw [e]
  exact List.filter_sublist
theorem lc_cone {n : Net} {k g : Nat} {c : List Nat} (h : LC n k g c) : ∀ x ∈ c, Rc n [] g n.many x := fun x hx => Classical.not_not.mp fun z => by
  refine h.least x hx fun y r => h.sep y ?_
  have key : ∀ y, Rc n (c.filter fun y => decide (y ≠ x)) g n.many y → Rc n [] g n.many y ∧ Rc n c g n.many y := by
    intro y r
    have out : ∀ {y : Nat}, Rc n [] g n.many y → y ∉ (c.filter fun y => decide (y ≠ x)) → y ∉ c := fun {y} ry hn hc => by
      by_cases e : y = x
      · rw [e] at ry
        exact z ry
      · exact hn (List.mem_filter.mpr ⟨hc, decide_eq_true e⟩)
    induction r with
    | here hn =>
      have r0 : Rc n [] g n.many g := .here fun z => by cases z
      exact ⟨r0, .here (out r0 hn)⟩
    | step _ hm hj hk hp hn ih =>
      have r0 := Rc.step ih.1 hm hj hk hp (fun z => by cases z)
      exact ⟨r0, .step ih.2 hm hj hk hp (out r0 hn)⟩
  exact (key y r).2
/-- what is least: told, and not without any one -/
def Lst (n : Net) (g : Nat) (c : List Nat) : Prop := Sep n g c ∧ ∀ j, j < c.length → ¬ Sep n g (c.take j ++ c.drop (j + 1))
theorem drop_one {c : List Nat} (nd : c.Nodup) {j : Nat} (h : j < c.length) (y : Nat) : y ∈ c.take j ++ c.drop (j + 1) ↔ y ∈ c.filter fun y => decide (y ≠ c.getD j 0) := by
  have ew : c.getD j 0 = c[j] := by rw [List.getD_eq_getElem?_getD, List.getElem?_eq_getElem h]; rfl
  have e : c = c.take j ++ c[j] :: c.drop (j + 1) := by
    rw [List.getElem_cons_drop, List.take_append_drop]
  have pm : c.Perm (c[j] :: (c.take j ++ c.drop (j + 1))) := by
    conv => lhs; rw [e]
    exact List.perm_middle
  have nd2 := pm.nodup_iff.mp nd
  obtain ⟨n1, n2⟩ := List.nodup_cons.mp nd2
  rw [List.mem_filter, decide_eq_true_iff, ew, pm.mem_iff, List.mem_cons]
  constructor
  · exact fun h => ⟨.inr h, fun z => n1 (by rw [← z]; exact h)⟩
  · rintro ⟨h1 | h1, h2⟩
    · exact absurd h1 h2
    · exact h1
theorem lst_lc {n : Net} {k g : Nat} {some_ c : List Nat} (hs : some_.Pairwise (· < ·)) (hm : ∀ x, x ∈ some_ ↔ (Rc n [] g n.many x ∧ x < g)) : ((c.Sublist some_ ∧ c.length ≤ k) ∧ Lst n g c) ↔ LC n k g c := by
  constructor
  · rintro ⟨⟨h1, h2⟩, h3, h4⟩
    have ris := hs.sublist h1
    refine ⟨ris, fun x hx => ((hm x).mp (h1.subset hx)).2, h3, h2, fun x hx hsep => ?_⟩
    obtain ⟨j, hj, e⟩ := mem_getD hx
    refine h4 j hj ((sep_congr fun y => ?_).mp hsep)
    rw [drop_one (ris.imp fun h => Nat.ne_of_lt h) hj y, e]
  · intro h
    refine ⟨⟨rise_sub h.rise hs fun x hx => (hm x).mpr ⟨lc_cone h x hx, h.lt x hx⟩, h.len⟩, h.sep, fun j hj hsep => ?_⟩
    refine h.least _ (getD_mem hj) ((sep_congr fun y => ?_).mp hsep)
    exact drop_one (h.rise.imp fun h => Nat.ne_of_lt h) hj y
end GX
namespace GX
open PySem PySem.Spec PyProof.Rows L2
theorem cuts_filter {n : Net} {g : Nat} {some_ : List Nat} (hs : some_.Pairwise (· < ·)) (hm : ∀ x, x ∈ some_ ↔ (Rc n [] g n.many x ∧ x < g)) {ls : List (List Nat)} {B : List Nat → Bool} (hB : ∀ c, B c = true ↔ Lst n g c) (pm : ls.Perm ((setsOf 4 some_).filter B)) (srt : ls.Pairwise fun a b => lexN b a = false) {k : Nat} (hk : k ≤ 4) :
    CutsAre n k g (ls.filter fun c => decide (c.length ≤ k)) := by
  have nd : some_.Nodup := hs.imp fun h => Nat.ne_of_lt h
  have mem : ∀ c, c ∈ ls ↔ LC n 4 g c := fun c => by
    rw [pm.mem_iff, List.mem_filter, sets_mem, hB]
    exact lst_lc hs hm
  refine ⟨fun c => ?_, (pm.nodup_iff.mpr ((sets_nodup some_ nd).filter _)).filter _, srt.filter _⟩
  rw [List.mem_filter, mem, decide_eq_true_iff]
  exact ⟨fun h => ⟨h.1.rise, h.1.lt, h.1.sep, h.2, h.1.least⟩, fun h => ⟨⟨h.rise, h.lt, h.sep, Nat.le_trans h.len hk, h.least⟩, h.len⟩⟩
end GX
namespace GX
open PySem PySem.Spec PyProof.Rows L2
def tupsD (cs : List (List Nat)) : List PyData := cs.map fun c : List Nat => .tuple ((c.map fun n : Nat => (n : Int)).map PyData.int)
theorem tupsD_can : ∀ cs : List (List Nat), PyData.canLayAll0 (tupsD cs) = true ∧ PyData.depthAll (tupsD cs) ≤ 1
  | [] => ⟨rfl, Nat.zero_le _⟩
  | c :: r => by
    obtain ⟨h1, h2⟩ := tupsD_can r
    obtain ⟨g1, g2⟩ := canInts (c.map fun n : Nat => (n : Int))
    refine ⟨?_, ?_⟩
    · show (PyData.canLayAll0 ((c.map fun n : Nat => (n : Int)).map PyData.int) && PyData.canLayAll0 (tupsD r)) = true
      rw [g1, h1]
      rfl
    · show max (PyData.depthAll ((c.map fun n : Nat => (n : Int)).map PyData.int) + 1) (PyData.depthAll (tupsD r)) ≤ 1
      rw [g2]
      omega
theorem tupsD_shaped (cs : List (List Nat)) : SeqAt.shaped (.tuple (tupsD cs)) = true := shaped_tup (tupsD_can cs).1 (tupsD_can cs).2 (by decide)
theorem tupsD_eq (cs : List (List Nat)) : PyData.eqv (.tuple (tupsD cs)) (.tuple (tupsD cs)) = true := SeqAt.eqv_refl _ (SeqAt.canLay_of_shaped (tupsD_shaped cs))
theorem dpTups {K : PySem.W.Frag} {H : Hp} : ∀ {qs : List Addr} {cs : List (List Nat)}, TupsAt H qs cs → DpAll K H (qs.map V.ref) (tupsD cs)
  | [], cs, x => by
    have : cs = [] := List.length_eq_zero_iff.mp x.1.symm
    subst this
    exact .nil
  | p :: r, [], x => by cases x.1
  | p :: r, c :: cs, x => by
    have h1 := x.2 0 p c rfl rfl
    exact .cons (.tup (SqT.of h1) (dpNat K _ _)) (dpTups (K := K) (H := H) (qs := r) (cs := cs) ⟨by simpa using x.1, fun i p' t' e1 e2 => x.2 (i + 1) p' t' (by simpa using e1) (by simpa using e2)⟩)
end GX
namespace GX
open PySem PySem.Spec PyProof.Rows L2
/-- among all the wires below -/
theorem lst_lc2 {n : Net} {k g : Nat} {c : List Nat} : ((c.Sublist (List.range g) ∧ c.length ≤ k) ∧ Lst n g c) ↔ LC n k g c := by
  constructor
  · rintro ⟨⟨h1, h2⟩, h3, h4⟩
    have ris := List.pairwise_lt_range.sublist h1
    refine ⟨ris, fun x hx => List.mem_range.mp (h1.subset hx), h3, h2, fun x hx hsep => ?_⟩
    obtain ⟨j, hj, e⟩ := mem_getD hx
    refine h4 j hj ((sep_congr fun y => ?_).mp hsep)
    rw [drop_one (ris.imp fun h => Nat.ne_of_lt h) hj y, e]
  · intro h
    refine ⟨⟨rise_sub h.rise List.pairwise_lt_range fun x hx => List.mem_range.mpr (h.lt x hx), h.len⟩, h.sep, fun j hj hsep => ?_⟩
    refine h.least _ (getD_mem hj) ((sep_congr fun y => ?_).mp hsep)
    exact drop_one (h.rise.imp fun h => Nat.ne_of_lt h) hj y
theorem cuts_filter2 {n : Net} {g m : Nat} {ls : List (List Nat)} {B : List Nat → Bool} (hB : ∀ c, B c = true ↔ Lst n g c) (pm : ls.Perm ((setsOf m (List.range g)).filter B)) (srt : ls.Pairwise fun a b => lexN b a = false) {k : Nat} (hk : k ≤ m) :
    CutsAre n k g (ls.filter fun c => decide (c.length ≤ k)) := by
  have mem : ∀ c, c ∈ ls ↔ LC n m g c := fun c => by
    rw [pm.mem_iff, List.mem_filter, sets_mem, hB]
    exact lst_lc2
  refine ⟨fun c => ?_, (pm.nodup_iff.mpr ((sets_nodup _ List.nodup_range).filter _)).filter _, srt.filter _⟩
  rw [List.mem_filter, mem, decide_eq_true_iff]
  exact ⟨fun h => ⟨h.1.rise, h.1.lt, h.1.sep, h.2, h.1.least⟩, fun h => ⟨⟨h.rise, h.lt, h.sep, Nat.le_trans h.len hk, h.least⟩, h.len⟩⟩
/-- a least cut lies within each that tells -/
theorem lc_within {n : Net} (ok : n.Ok) {k g : Nat} {xs : List Nat} (ris : xs.Pairwise (· < ·)) (lt : ∀ x ∈ xs, x < g) (sep : Sep n g xs) (hl : xs.length ≤ k) : ∃ c, LC n k g c ∧ ∀ x ∈ c, x ∈ xs := by
  have hb := bits_mask ris
  have ht : Tm n g (maskOf xs) := by
    unfold Tm
    rw [hb]
    exact sep
  obtain ⟨f, f1, f2⟩ := min_ex (maskOf xs) (maskOf xs) (Nat.le_refl _) ht
  have hp : pop f ≤ k := Nat.le_trans (pop_sub f1) (by unfold pop; rw [hb]; exact hl)
  have fg : f.testBit g = false := by
    cases e : f.testBit g with
    | false => rfl
    | true =>
      have h1 := f1 g e
      rw [mask_bit, decide_eq_true_iff] at h1
      exact absurd (lt g h1) (Nat.lt_irrefl _)
  refine ⟨bitsOf f, lc_bits ok ⟨f2, hp, fg⟩, fun x hx => ?_⟩
  have h1 := f1 x (mem_bits.mp hx)
  rwa [mask_bit, decide_eq_true_iff] at h1
end GX
namespace GX
open PySem PySem.Spec PyProof.Rows L2
theorem tupsD_shapedL (cs : List (List Nat)) : SeqAt.shaped (.list (tupsD cs)) = true := shaped_tup (tupsD_can cs).1 (tupsD_can cs).2 (by decide)
end GX
set_option Elab.async false
set_option linter.all false
/-! Comprehensions within comprehensions. -/
namespace GX
open PySem PySem.Spec PyProof.Rows L2
theorem pi_tupK {X : Cx} {tg l : Expr} {tl : TE} {K : PySem.W.Frag} (hl : PE X l tl) (h : X.K = K := by rfl) : PI X tg l (iTup K tl) := by subst h; exact pi_tup hl
theorem pi_listK {X : Cx} {tg l : Expr} {tl : TE} {K : PySem.W.Frag} (hl : PE X l tl) (h : X.K = K := by rfl) : PI X tg l (iList K tl) := by subst h; exact pi_list hl
theorem op_eqDK {X : Cx} {K : PySem.W.Frag} (hu : X.A.units + 64 < cLine) (h : X.K = K := by rfl) : OpR X (compareOp .Eq) (rEqD K) := by subst h; exact op_eqD hu
theorem cr_maxK {X : Cx} {K : PySem.W.Frag} (hc : X.calm = true) (h : X.K = K := by rfl) : CallR X (.builtin "max") (rMax K) := by subst h; exact cr_max hc
theorem cr_minK {X : Cx} {K : PySem.W.Frag} (hc : X.calm = true) (h : X.K = K := by rfl) : CallR X (.builtin "min") (rMin K) := by subst h; exact cr_min hc
theorem cr_sumK {X : Cx} {K : PySem.W.Frag} (hc : X.calm = true) (h : X.K = K := by rfl) : CallR X (.builtin "sum") (rSum K) := by subst h; exact cr_sum hc
end GX
set_option Elab.async false
set_option linter.all false
set_option maxRecDepth 100000
set_option maxHeartbeats 4000000
namespace GX
open PySem PySem.Spec PyProof.Rows L2
theorem repA {K : PySem.W.Frag} {H : Hp} {l : Addr} {k : Int} {xs : List V} {Q : VK} (h : H l = some (.tup xs)) (ne : xs ≠ []) (k1 : 1 ≤ k) (k2 : k ≤ 1000) (hl : xs.length ≤ 1000) (q : ∀ r H', Same H H' → H' r = some (.tup (List.replicate k.toNat xs).flatten) → Q (.ref r) H') : rRepA K (.ref l) (.int k) H Q := by
  refine ⟨l, k, xs, rfl, rfl, SqT.of h, ne, k1, k2, hl, fun e => ?_, fun _ p np => ?_⟩
  · refine q l H (Same.refl _) ?_
    rw [h, e]
    show _ = some (HO.tup (xs ++ []))
    rw [List.append_nil]
  · exact q p _ (Same.new np) upd_same
theorem rep1 (x m : Nat) : (List.replicate m [nV x]).flatten = (List.replicate m x).map nV := by
  induction m with
  | zero => rfl
  | succ m ih =>
    rw [List.replicate_succ, List.flatten_cons, ih, List.replicate_succ]
    rfl
end GX
set_option Elab.async false
set_option linter.all false
set_option maxRecDepth 100000
set_option maxHeartbeats 4000000
/-! Depths in covers; lean covers. -/
namespace GX
open PySem PySem.Spec PyProof.Rows L2
def maxL : List Nat → Nat
  | [] => 0
  | x :: r => max x (maxL r)
theorem le_maxL {xs : List Nat} {x : Nat} (h : x ∈ xs) : x ≤ maxL xs := by
  induction xs with
  | nil => cases h
  | cons y r ih =>
    unfold maxL
    rcases List.mem_cons.mp h with h | h
    · omega
    · have := ih h
      omega
theorem maxL_mem {xs : List Nat} (h : 0 < xs.length) : maxL xs ∈ xs := by
  induction xs with
  | nil => cases h
  | cons y r ih =>
    unfold maxL
    cases r with
    | nil =>
      show max y 0 ∈ _
      rw [Nat.max_eq_left (Nat.zero_le _)]
      exact List.mem_cons_self
    | cons z t =>
      have := ih (Nat.succ_pos _)
      by_cases e : maxL (z :: t) ≤ y
      · rw [Nat.max_eq_left e]
        exact List.mem_cons_self
      · rw [Nat.max_eq_right (by omega)]
        exact List.mem_cons_of_mem _ this
theorem max_eq {xs : List Nat} {m : Int} (hm : m ∈ xs.map fun n : Nat => (n : Int)) (hb : ∀ y ∈ xs.map (fun n : Nat => (n : Int)), y ≤ m) : V.int m = nV (maxL xs) := by
  obtain ⟨x, hx, rfl⟩ := List.mem_map.mp hm
  have h1 := le_maxL hx
  have h2 := hb _ (List.mem_map.mpr ⟨_, maxL_mem (List.length_pos_of_mem hx), rfl⟩)
  show V.int _ = V.int _
  congr 1
  have h2' : ((maxL xs : Nat) : Int) ≤ ((x : Nat) : Int) := h2
  omega
theorem maxL_congr {ws : List Nat} {f g : Nat → Nat} (h : ∀ x ∈ ws, f x = g x) : maxL (ws.map f) = maxL (ws.map g) := by rw [List.map_congr_left h]
/-- depths, table by table -/
def dStep (f : Nat → Nat) (t : Tb) : Nat → Nat := fun x => if x = t.1 then 1 + maxL (t.2.map f) else f x
def dMap (cv : List Tb) : Nat → Nat := cv.foldl dStep (fun _ => 0)
theorem dMap_snoc (cv : List Tb) (t : Tb) : dMap (cv ++ [t]) = dStep (dMap cv) t := by
  unfold dMap
  rw [List.foldl_append]
  rfl
theorem dMap_take {cv : List Tb} {i : Nat} {t : Tb} (h : cv[i]? = some t) : dMap (cv.take (i + 1)) = dStep (dMap (cv.take i)) t := by
  rw [List.take_add_one, h, Option.toList_some, dMap_snoc]
/-- tables rising, their wires lesser -/
structure Ris (cv : List Tb) : Prop where
  rise : cv.Pairwise (fun a b => a.1 < b.1)
  lt : ∀ t ∈ cv, ∀ x ∈ t.2, x < t.1
theorem Ris.init {cv : List Tb} {t : Tb} (h : Ris (cv ++ [t])) : Ris cv ∧ (∀ u ∈ cv, u.1 < t.1) ∧ ∀ x ∈ t.2, x < t.1 := by
  obtain ⟨h1, _, h3⟩ := List.pairwise_append.mp h.rise
  exact ⟨⟨h1, fun u hu => h.lt u (List.mem_append.mpr (.inl hu))⟩, fun u hu => h3 u hu t List.mem_cons_self, h.lt t (List.mem_append.mpr (.inr List.mem_cons_self))⟩
theorem rev_ind {P : List Tb → Prop} (h0 : P []) (h1 : ∀ cv t, P cv → P (cv ++ [t])) : ∀ cv, P cv := fun cv => by
  rw [← List.reverse_reverse cv]
  induction cv.reverse with
  | nil => exact h0
  | cons t r ih =>
    rw [List.reverse_cons]
    exact h1 _ _ ih
theorem dMap_out {cv : List Tb} : ∀ x, (∀ t ∈ cv, t.1 ≠ x) → dMap cv x = 0 := by
  refine rev_ind (P := fun cv => ∀ x, (∀ t ∈ cv, t.1 ≠ x) → dMap cv x = 0) (fun x _ => rfl) (fun cv t ih x h => ?_) cv
  rw [dMap_snoc]
  unfold dStep
  rw [if_neg (fun e => h t (List.mem_append.mpr (.inr List.mem_cons_self)) e.symm)]
  exact ih x fun u hu => h u (List.mem_append.mpr (.inl hu))
theorem dMap_in {cv : List Tb} : Ris cv → ∀ t ∈ cv, dMap cv t.1 = 1 + maxL (t.2.map (dMap cv)) := by
  refine rev_ind (P := fun cv => Ris cv → ∀ t ∈ cv, dMap cv t.1 = 1 + maxL (t.2.map (dMap cv))) (fun _ t ht => by cases ht) (fun cv t ih h u hu => ?_) cv
  obtain ⟨r, h1, h2⟩ := h.init
  rw [dMap_snoc]
  rcases List.mem_append.mp hu with hu | hu
  · have lt := h1 u hu
    have e : ∀ x ∈ u.2, dStep (dMap cv) t x = dMap cv x := fun x hx => by
      have := r.lt u hu x hx
      unfold dStep
      rw [if_neg (by omega)]
    rw [maxL_congr e]
    unfold dStep
    rw [if_neg (by omega)]
    exact ih r u hu
  · rw [List.mem_singleton.mp hu]
    have e : ∀ x ∈ t.2, dStep (dMap cv) t x = dMap cv x := fun x hx => by
      have := h2 x hx
      unfold dStep
      rw [if_neg (by omega)]
    rw [maxL_congr e]
    unfold dStep
    rw [if_pos rfl]
/-- needed or not -/
noncomputable def needB (n : Net) (cv : List Tb) (x : Nat) : Bool := @decide (Need n cv x) (Classical.propDecidable _)
theorem needB_iff {n : Net} {cv : List Tb} {x : Nat} : needB n cv x = true ↔ Need n cv x := by
  unfold needB
  exact @decide_eq_true_iff _ (Classical.propDecidable _)
noncomputable def leanOf (n : Net) (cv : List Tb) : List Tb := cv.filter fun t => needB n cv t.1
theorem leanOf_mem {n : Net} {cv : List Tb} {t : Tb} : t ∈ leanOf n cv ↔ t ∈ cv ∧ Need n cv t.1 := by
  unfold leanOf
  rw [List.mem_filter, needB_iff]
theorem Need.big {n : Net} {cv : List Tb} {x : Nat} (h : Need n cv x) : n.many ≤ x := by
  cases h with
  | out _ h => exact h
  | step _ _ _ h => exact h
theorem CovOk.ris {n : Net} {k : Nat} {cv : List Tb} (c : CovOk n k cv) : Ris cv := ⟨c.rise, fun t ht x hx => (c.cut t ht).1.lt x hx⟩
theorem Need.tab {n : Net} {k : Nat} {cv : List Tb} (c : CovOk n k cv) {x : Nat} (h : Need n cv x) : ∃ t ∈ cv, t.1 = x := by
  cases h with
  | out h1 h2 => exact c.outs _ h1 h2
  | step ht _ hx hm => exact c.clo _ ht _ hx hm
theorem Need.lean {n : Net} {cv : List Tb} {x : Nat} (h : Need n cv x) : Need n (leanOf n cv) x := by
  induction h with
  | out h1 h2 => exact .out h1 h2
  | step ht hn hx hm ih => exact .step (leanOf_mem.mpr ⟨ht, hn⟩) ih hx hm
theorem lean_ok {n : Net} {k : Nat} {cv : List Tb} (c : CovOk n k cv) : CovOk n k (leanOf n cv) := by
  refine ⟨c.rise.filter _, fun t ht => c.gt t (leanOf_mem.mp ht).1, fun t ht => c.cut t (leanOf_mem.mp ht).1, fun o ho hm => ?_, fun t ht x hx hm => ?_⟩
  · obtain ⟨t, ht, e⟩ := c.outs o ho hm
    exact ⟨t, leanOf_mem.mpr ⟨ht, by rw [e]; exact .out ho hm⟩, e⟩
  · obtain ⟨h1, h2⟩ := leanOf_mem.mp ht
    obtain ⟨u, hu, e⟩ := c.clo t h1 x hx hm
    exact ⟨u, leanOf_mem.mpr ⟨hu, by rw [e]; exact .step h1 h2 hx hm⟩, e⟩
/-- a needed gate has its depth in the lean cover, too -/
theorem lean_depth {n : Net} {k : Nat} {cv : List Tb} (c : CovOk n k cv) : ∀ b x, x ≤ b → (Need n cv x ∨ x < n.many) → dMap (leanOf n cv) x = dMap cv x
  | b, x, hb, h => by
    rcases h with h | h
    · obtain ⟨t, ht, rfl⟩ := h.tab c
      rw [dMap_in c.ris t ht, dMap_in (lean_ok c).ris t (leanOf_mem.mpr ⟨ht, h⟩)]
      congr 1
      refine maxL_congr fun y hy => ?_
      have lt := (c.cut t ht).1.lt y hy
      cases b with
      | zero => omega
      | succ b =>
        refine lean_depth c b y (by omega) ?_
        by_cases e : y < n.many
        · exact .inr e
        · exact .inl (.step ht h hy (by omega))
    · rw [dMap_out x fun t ht e => ?_, dMap_out x fun t ht e => ?_]
      · have := (c.gt t ht).1
        omega
      · have := ((lean_ok c).gt t ht).1
        omega
termination_by b => b
end GX
namespace GX
open PySem PySem.Spec PyProof.Rows L2
/-- a dict comprehension over anything walked -/
theorem dc_it {J : It} {n : Nat} {G : Hp → Prop} {Y : Nat → Hp → V → Hp → Prop} (wk : Walk J n G Y) {g : TG} {tt : TT} {tk tv : TE} {vs : List Nat} {σ : L2.St} {H1 : Hp} {D : Addr} {Qd : Hp → Prop} (Pv : Nat → Hp → Prop) (h0 : Pv 0 (upd H1 D (.dK []))) (hG : ∀ i H, i ≤ n → Pv i H → G H)
    (hs : ∀ i x H H', i < n → Pv i H → Y i H x H' → g x (wipe σ vs) H' fun σ2 H2 => wipe σ2 vs = wipe σ vs ∧ tt σ2 H2 fun b H3 =>
      if b = true then tk σ2 H3 fun y H4 => tv σ2 H4 fun z H5 => ∃ kvs k, y = kV k ∧ H5 D = some (.dK kvs) ∧ kvs.length < sizeLine ∧ Pv (i + 1) (upd H5 D (.dK (putK kvs k z))) else Pv (i + 1) H3) (hd : ∀ H, Pv n H → Qd H) :
    ∃ W : Nat → Nat → Hp → Prop, (∃ m, W 0 m (upd H1 D (.dK []))) ∧ ∀ i m H, W i m H →
      (J.stop i H ∧ Qd H) ∨ (J.go i H ∧ ∃ Nx : Hp → Prop, (∀ H', Nx H' → ∃ m', m' < m ∧ W (i + 1) m' H') ∧ ∀ x H', J.yld i H x H' → g x (wipe σ vs) H' fun σ2 H2 => wipe σ2 vs = wipe σ vs ∧ tt σ2 H2 fun b H3 =>
        if b = true then tk σ2 H3 fun y H4 => tv σ2 H4 fun z H5 => ∃ kvs k, y = kV k ∧ H5 D = some (.dK kvs) ∧ kvs.length < sizeLine ∧ Nx (upd H5 D (.dK (putK kvs k z))) else Nx H3) := by
  refine ⟨fun i m H => m = n - i ∧ i ≤ n ∧ Pv i H, ⟨n, by simp, Nat.zero_le _, h0⟩, ?_⟩
  rintro i m H ⟨rfl, hi, p⟩
  have q := hG i H hi p
  by_cases hlt : i < n
  · exact .inr ⟨wk.goes i H hlt q, Pv (i + 1), fun H' p' => ⟨n - (i + 1), by omega, rfl, hlt, p'⟩, fun x H' y => hs i x H H' hlt p (wk.yields i H x H' hlt q y)⟩
  · have e : i = n := by omega
    subst e
    exact .inl ⟨wk.stops H q, hd H p⟩
end GX
set_option Elab.async false
set_option linter.all false
set_option maxRecDepth 100000
set_option maxHeartbeats 4000000
/-! min(xs, key=lambda x: ..) where the lambda may call and capture names. -/
namespace GX
open PySem PySem.Spec PyProof.Rows L2

section
variable {X : Cx} {pins : List (Addr × Obj)} {σ : L2.St} {H : Hp} {s : Shared}
/-- what is at ch changes, which nobody tracks -/
theorem inv_raw {ch : List Addr} {h' : Heap} {t' : Nat} (I : Inv X pins σ H s) (hch : ∀ b ∈ ch, FpOk X pins H b) (k : ∀ b o, b ∉ ch → s.heap.get? b = some o → h'.get? b = some o) : Inv X pins σ H { s with heap := h', toks := t' } := by
  have nt : ∀ b u, H b = some u → b ∉ ch := fun b u q hb => by rw [(hch b hb).1] at q; cases q
  refine I.step (g' := s.gens) (t' := t') (d' := s.drawn) (ch := ch) (fun b hb => ⟨(hch b hb).2.2.2.1, (hch b hb).2.1, (hch b hb).2.2.2.2.1, (hch b hb).2.2.2.2.2⟩)
      (fun b ob _ _ hc q _ => k b ob hc q) (fun b ob _ _ hc q _ => ⟨ob.slots, k b ob hc q⟩) (fun _ _ _ _ n => n) (fun b ob hc q => ⟨ob, k b ob hc q⟩)
      (fun _ _ q => q) (fun _ _ _ q => q) (fun b ps q => ⟨#[], by rw [q]; simp⟩) (fun m hm => ?_) (fun b u q => ?_) I.bare
  · obtain ⟨ob, es, ep, ho, r⟩ := hm
    exact ⟨ob, es, ep, k _ ob (fun hb => (hch _ hb).2.1 rfl) ho, r⟩
  · refine (I.hok b u q).stay (fun c v hc y => k c v ?_ y) (fun _ y => y) fun _ _ y => y
    rcases hc with y | y
    · rw [y]; exact nt b u q
    · exact nt c _ y
/-- what stays true of a place when pins are added that are elsewhere -/
theorem FpOk.add {b : Addr} {p : Addr × Obj} (h : FpOk X pins H b) (n : p.1 ≠ b) : FpOk X (p :: pins) H b :=
  ⟨h.1, h.2.1, h.2.2.1, h.2.2.2.1, h.2.2.2.2.1, fun q hq => (List.mem_append.mp hq).elim (fun z => h.2.2.2.2.2 q (List.mem_append_left _ z)) fun z => (List.mem_cons.mp z).elim (fun e => by rw [e]; exact n) fun z => h.2.2.2.2.2 q (List.mem_append_right _ z)⟩
theorem FpOk.heap {b : Addr} {H' : Hp} (h : FpOk X pins H b) (n : H' b = none) : FpOk X pins H' b := ⟨n, h.2⟩
theorem FpOk.tail {b : Addr} {p : Addr × Obj} (h : FpOk X (p :: pins) H b) : FpOk X pins H b :=
  ⟨h.1, h.2.1, h.2.2.1, h.2.2.2.1, h.2.2.2.2.1, fun q hq => h.2.2.2.2.2 q ((List.mem_append.mp hq).elim (fun z => List.mem_append_left _ z) fun z => List.mem_append_right _ (List.mem_cons_of_mem _ z))⟩
theorem Inv.pin1 {b : Addr} {o : Obj} (I : Inv X pins σ H s) (h : FpOk X pins H b) (e : s.heap.get? b = some o) (d : ∀ v, o.data ≠ .cell v) : Inv X ((b, o) :: pins) σ H s :=
  I.pins_of fun p hp => (List.mem_cons.mp hp).elim (fun z => by rw [z]; exact ⟨e, h.1, h.2.1, h.2.2.1, d⟩) fun z => I.pin p (List.mem_append_right _ z)
theorem Inv.unpin1 {p : Addr × Obj} (I : Inv X (p :: pins) σ H s) : Inv X pins σ H s := I.pins_of fun q hq => I.pin q (List.mem_append_right _ (List.mem_cons_of_mem _ hq))

theorem iter_ne {h : Heap} {l a : Addr} {its : Array Value} {i : Nat} (hl : h.IsList l its) (hi : h.IsListIter a l i) : l ≠ a := fun z => by
  obtain ⟨o, ho, hc, _⟩ := hl
  obtain ⟨o2, ho2, hc2, _⟩ := hi
  rw [z, ho2] at ho
  cases ho
  rw [hc2] at hc
  injection hc with hc
  exact absurd hc (by decide)
theorem iter_neT {h : Heap} {l a : Addr} {its : Array Value} {i : Nat} (hl : h.IsTuple l its) (hi : h.IsTupleIter a l i) : l ≠ a := fun z => by
  obtain ⟨o, ho, hc, _⟩ := hl
  obtain ⟨o2, ho2, hc2, _⟩ := hi
  rw [z, ho2] at ho
  cases ho
  rw [hc2] at hc
  injection hc with hc
  exact absurd hc (by decide)
/-- a list or a tuple walked by an iterator of its own -/
structure SeqK (X : Cx) (pins : List (Addr × Obj)) (σ : L2.St) (l : Addr) (xs : List V) (Sq : Hp → Prop) (It : Heap → Addr → Nat → Prop) : Prop where
  obj : ∀ {h : Heap} {a : Addr} {i : Nat}, It h a i → ∃ o, h.get? a = some o ∧ (∀ v, o.data ≠ .cell v) ∧ ∀ h' : Heap, h'.get? a = some o → It h' a i
  start : ∀ (s : Shared) (H : Hp) (Q E : Value → Shared → Prop), Inv X pins σ H s → Sq H → (∀ o, It (s.heap.push o) s.heap.objs.size 0 → Q (.ref s.heap.objs.size) { s with heap := s.heap.push o }) → wpAny (model X.prog X.w) X.A.in1 (pyIter (.ref l)) Q E s
  item : ∀ (s : Shared) (H : Hp) (a : Addr) (j : Nat) (x : V) (Q : Option Value → Shared → Prop) (E : Value → Shared → Prop), X.A.handled = none → Inv X pins σ H s → Sq H → It s.heap a j → xs[j]? = some x →
    (∀ v h' tk', RelV x v → It h' a (j + 1) → (∀ b o, b ∉ [a] → s.heap.get? b = some o → h'.get? b = some o) → Q (some v) { s with heap := h', toks := tk' }) → wpAny (model X.prog X.w) X.A.in1 (pyNext (.ref a)) Q E s
  done : ∀ (s : Shared) (H : Hp) (a : Addr) (Q : Option Value → Shared → Prop) (E : Value → Shared → Prop), X.A.handled = none → Inv X pins σ H s → Sq H → It s.heap a xs.length →
    (∀ h' tk', (∀ b o, b ∉ [a] → s.heap.get? b = some o → h'.get? b = some o) → Q none { s with heap := h', toks := tk' }) → wpAny (model X.prog X.w) X.A.in1 (pyNext (.ref a)) Q E s
theorem seqL {l : Addr} {xs : List V} : SeqK X pins σ l xs (fun H => SqL X.K H l xs) (fun h a i => h.IsListIter a l i) where
  obj := fun ⟨o, e, hc, hd⟩ => ⟨o, e, fun v z => (by rw [hd] at z; cases z), fun h' e' => ⟨o, e', hc, hd⟩⟩
  start := fun s H Q E I hs q => by
    obtain ⟨its, rv, hl, hz⟩ := I.list hs
    exact wpAny_pyIter_list hl.isList (q _ ⟨_, Heap.get?_push_size _ rfl, rfl, rfl⟩)
  item := fun s H a j x Q E hh I hs hit hx q => by
    obtain ⟨its, rv, hl, hz⟩ := I.list hs
    have hlen : its.toArray.size = xs.length := by rw [List.size_toArray]; exact rv.length.symm
    refine (Walks.list (prog := X.prog) (w := X.w) (A := X.A.in1) hh a l (iter_ne hl.isList hit) its.toArray).item j _ _ _ (by rw [hlen]; exact (List.getElem?_eq_some_iff.mp hx).1) ⟨hit, hl.isList⟩ fun v h' tk' hP hst' hk' => ?_
    obtain ⟨v', hv', rx⟩ := rv.get hx
    obtain rfl : v' = v := by
      have e : its.toArray[j]? = some v := hP
      rw [List.getElem?_toArray, hv'] at e
      exact Option.some.inj e
    exact q v' h' tk' rx hst'.1 hk'
  done := fun s H a Q E hh I hs hit q => by
    obtain ⟨its, rv, hl, hz⟩ := I.list hs
    have hlen : its.toArray.size = xs.length := by rw [List.size_toArray]; exact rv.length.symm
    exact (Walks.list (prog := X.prog) (w := X.w) (A := X.A.in1) hh a l (iter_ne hl.isList hit) its.toArray).done _ _ _ ⟨by rw [hlen]; exact hit, hl.isList⟩ q
theorem seqT {l : Addr} {xs : List V} : SeqK X pins σ l xs (fun H => SqT X.K H l xs) (fun h a i => h.IsTupleIter a l i) where
  obj := fun ⟨o, e, hc, hd⟩ => ⟨o, e, fun v z => (by rw [hd] at z; cases z), fun h' e' => ⟨o, e', hc, hd⟩⟩
  start := fun s H Q E I hs q => by
    obtain ⟨its, rv, hl, hz⟩ := I.tuple hs
    exact wpAny_pyIter_tuple hl (q _ ⟨_, Heap.get?_push_size _ rfl, rfl, rfl⟩)
  item := fun s H a j x Q E hh I hs hit hx q => by
    obtain ⟨its, rv, hl, hz⟩ := I.tuple hs
    have hlen : its.toArray.size = xs.length := by rw [List.size_toArray]; exact rv.length.symm
    refine (Walks.tuple (prog := X.prog) (w := X.w) (A := X.A.in1) hh a l (iter_neT hl hit) its.toArray).item j _ _ _ (by rw [hlen]; exact (List.getElem?_eq_some_iff.mp hx).1) ⟨hit, hl⟩ fun v h' tk' hP hst' hk' => ?_
    obtain ⟨v', hv', rx⟩ := rv.get hx
    obtain rfl : v' = v := by
      have e : its.toArray[j]? = some v := hP
      rw [List.getElem?_toArray, hv'] at e
      exact Option.some.inj e
    exact q v' h' tk' rx hst'.1 hk'
  done := fun s H a Q E hh I hs hit q => by
    obtain ⟨its, rv, hl, hz⟩ := I.tuple hs
    have hlen : its.toArray.size = xs.length := by rw [List.size_toArray]; exact rv.length.symm
    exact (Walks.tuple (prog := X.prog) (w := X.w) (A := X.A.in1) hh a l (iter_neT hl hit) its.toArray).done _ _ _ ⟨by rw [hlen]; exact hit, hl⟩ q
/-! ### the loop of min -/
/-- a function value called with one value -/
def KeyR (X : Cx) (pl : List (Addr × Obj)) (q : Value) (σ : L2.St) (kt : V → Hp → VK → Prop) : Prop :=
  ∀ (pins : List (Addr × Obj)) (s : Shared) (H : Hp) (x : V) (u : Value) (Q : VK), (∀ p ∈ pl, p ∈ pins) → Inv X pins σ H s → RelV x u → kt x H Q → wpAny (model X.prog X.w) X.A.in1 (call q [u]) (EP X pins σ Q) (fun _ _ => False) s
def LtR (X : Cx) (σ : L2.St) (lt : R2) : Prop :=
  ∀ (pins : List (Addr × Obj)) (s : Shared) (H : Hp) (x y : V) (u v : Value) (Q : VK), Inv X pins σ H s → RelV x u → RelV y v → lt x y H Q → wpAny (model X.prog X.w) X.A.in1 (richCompare .Lt u v) (EP X pins σ Q) (fun _ _ => False) s
/-- the walk: what is known behind j items, the best one, its key -/
structure MinW (kt : V → Hp → VK → Prop) (lt : R2) (Sq : Hp → Prop) (xs : List V) (Q : VK) (W : Nat → V → V → Hp → Prop) : Prop where
  at_ : ∀ j b k H, W j b k H → Sq H
  step : ∀ j b k H x, W j b k H → xs[j]? = some x → kt x H fun k' H1 => lt k' k H1 fun r H2 => ∃ c, r = .bl c ∧ W (j + 1) (if c then x else b) (if c then k' else k) H2
  done : ∀ b k H, W xs.length b k H → Q b H
theorem min_loop {pl : List (Addr × Obj)} {q : Value} {kt : V → Hp → VK → Prop} {lt : R2} {l IA SA : Addr} {xs : List V} {Sq : Hp → Prop} {It : Heap → Addr → Nat → Prop} {Q : VK} {W : Nat → V → V → Hp → Prop} (SK : SeqK X pins σ l xs Sq It) (hh : X.A.handled = none) (hq : KeyR X pl q σ kt) (hlt : LtR X σ lt) (M : MinW kt lt Sq xs Q W) (hpl : ∀ p ∈ pl, p ∈ pins)
    (hSI : SA ≠ IA) (hqn : (∃ f, q = .ref f) ∨ ∃ id, q = .builtin id) :
    ∀ (r j : Nat) (s : Shared) (H : Hp) (b k : V) (ub uk : Value) (c : Nat), xs.length - j = r → j ≤ xs.length → Inv X pins σ H s → FpOk X pins H IA → FpOk X pins H SA → s.heap.get? SA = some (seqObj "list" #[ub, uk] c) → It s.heap IA j → RelV b ub → RelV k uk → W j b k H →
      codeAny (model X.prog X.w) X.A (.builtin "min.loop" ⟨[.ref IA, q, .ref SA], []⟩) (fun r s' => ∃ v, r = .ok (.ret v) ∧ EP X pins σ Q v s') s := by
  have hname : (toString "min" ++ toString ".loop" : String) = "min.loop" := by decide
  rcases hqn with ⟨f, rfl⟩ | ⟨id, rfl⟩
  all_goals
    intro r
    induction r with
    | zero =>
      intro j s H b k ub uk c hr hj I fI fS gS hit rb rk w
      obtain rfl : j = xs.length := by omega
      refine codeAny_builtin PySem.F.entry_min_loop ?_
      rw [Around.under_plainId PySem.F.plain_min_loop _]
      show wpAny _ X.A.in1 (seqItems? (.ref SA) >>= _) _ _ _
      refine wpAny_bind (wpAny_seqItems gS rfl ?_)
      show wpAny _ X.A.in1 (tryCatch (pyNext (.ref IA)) _ >>= _) _ _ _
      refine wpAny_bind (wpAny_tryCatch (SK.done s H IA _ _ hh I (M.at_ _ _ _ _ w) hit fun h' tk' hk' => ?_))
      have gS' := hk' SA _ (by simpa using hSI) gS
      have k2 : ∀ b o, b ∉ [IA, SA] → s.heap.get? b = some o → (h'.update SA (Obj.mapSeq fun _ => (#[] : Array Value))).get? b = some o := fun b o hb e =>
        (Heap.get?_update_other _ _ (fun z => hb (by rw [z]; simp))).trans (hk' b o (fun z => hb (by rw [List.mem_singleton.mp z]; simp)) e)
      show wpAny _ X.A.in1 (updateSeq SA (fun _ => #[]) >>= _) _ _ _
      refine wpAny_bind ?_
      refine wpAny_updateSeq gS' rfl (wpAny_bind (wpAny_letGo (wpAny_pure ?_)))
      exact ⟨_, rfl, b, H, inv_raw (s := s) (t' := tk') I (ch := [IA, SA]) (fun b hb => by
        rcases List.mem_cons.mp hb with z | z
        · rw [z]; exact fI
        · rw [List.mem_singleton.mp z]; exact fS) k2, rb, M.done _ _ _ w⟩
    | succ r ih =>
      intro j s H b k ub uk c hr hj I fI fS gS hit rb rk w
      have hlt' : j < xs.length := by omega
      refine codeAny_builtin PySem.F.entry_min_loop ?_
      rw [Around.under_plainId PySem.F.plain_min_loop _]
      show wpAny _ X.A.in1 (seqItems? (.ref SA) >>= _) _ _ _
      refine wpAny_bind (wpAny_seqItems gS rfl ?_)
      show wpAny _ X.A.in1 (tryCatch (pyNext (.ref IA)) _ >>= _) _ _ _
      obtain ⟨x, hx⟩ : ∃ x, xs[j]? = some x := ⟨_, List.getElem?_eq_getElem hlt'⟩
      refine wpAny_bind (wpAny_tryCatch (SK.item s H IA j x _ _ hh I (M.at_ _ _ _ _ w) hit hx fun v' h' tk' rx hst' hk' => ?_))
      obtain ⟨oI', hoI', nI, hoc⟩ := SK.obj hst'
      have gS1 := hk' SA _ (by simpa using hSI) gS
      have I1 : Inv X pins σ H { s with heap := h', toks := tk' } := inv_raw I (ch := [IA]) (fun b hb => by rw [List.mem_singleton.mp hb]; exact fI) fun b o hb e => hk' b o hb e
      have I2 := Inv.pin1 I1 fI hoI' nI
      have I3 := Inv.pin1 I2 (FpOk.add fS hSI.symm) gS1 (fun v z => by cases z)
      show wpAny _ X.A.in1 (tryCatch (holding [v'] (call _ [v'])) _ >>= _) _ _ _
      refine wpAny_bind (wpAny_tryCatch (wpAny_holding (wpAny_mono (hq _ _ _ x v' _ (fun p hp => List.mem_cons_of_mem _ (List.mem_cons_of_mem _ (hpl p hp))) I3 rx (M.step j b k H x w hx)) (fun u s2 ⟨k', H2, I4, rk', q2⟩ => ?_) fun _ _ hF => hF.elim)))
      show wpAny _ X.A.in1 (tryCatch (holding [v', u] (richCompare .Lt u uk >>= _)) _ >>= _) _ _ _
      refine wpAny_bind (wpAny_tryCatch (wpAny_holding (wpAny_bind (wpAny_mono (hlt _ _ _ k' k u uk _ I4 rk' rk q2) (fun bv s3 ⟨rv', H3, I5, rr, q3⟩ => ?_) fun _ _ hF => hF.elim))))
      obtain ⟨cb, rfl, w'⟩ := q3
      obtain rfl : bv = .bool cb := rr
      refine wpAny_bind (wpAny_holding (wpAny_truthy_bool ?_))
      refine wpAny_bind (wpAny_letGo (wpAny_pure ?_))
      have pS := I5.pin (SA, seqObj "list" #[ub, uk] c) (List.mem_append_right _ List.mem_cons_self)
      have pI := I5.pin (IA, oI') (List.mem_append_right _ (List.mem_cons_of_mem _ List.mem_cons_self))
      have I6 := Inv.unpin1 (Inv.unpin1 I5)
      have fI6 : FpOk X pins H3 IA := FpOk.heap fI pI.2.1
      have fS6 : FpOk X pins H3 SA := FpOk.heap fS pS.2.1
      have hit3 : It s3.heap IA (j + 1) := hoc _ pI.1
      cases cb with
      | true =>
        obtain ⟨c2, hc2⟩ : ∃ c2, (s3.heap.update SA (Obj.mapSeq fun _ => #[v', u])).get? SA = some (seqObj "list" #[v', u] c2) := ⟨_, get?_update_seq pS.1 fun _ => #[v', u]⟩
        simp only [if_true] at w' ⊢
        have k3 : ∀ b o, b ∉ [SA] → s3.heap.get? b = some o → (s3.heap.update SA (Obj.mapSeq fun _ => #[v', u])).get? b = some o := fun b o hb e =>
          (Heap.get?_update_other _ _ (fun z => hb (by rw [z]; simp))).trans e
        refine wpAny_bind ?_
        refine wpAny_updateSeq pS.1 rfl (wpAny_bind (wpAny_letGo ?_))
        rw [hname]
        refine wpAny_pure ⟨plainId_quiet PySem.F.plain_min_loop _, ih (j + 1) _ H3 x k' v' u c2 (by omega) hlt' (inv_raw I6 (ch := [SA]) (fun b hb => by rw [List.mem_singleton.mp hb]; exact fS6) k3) fI6 fS6 hc2 (hoc _ (k3 _ _ (fun z => hSI (List.mem_singleton.mp z).symm) pI.1)) rx rk' w'⟩
      | false =>
        simp only [Bool.false_eq_true, if_false] at w' ⊢
        refine wpAny_bind (wpAny_letGo ?_)
        rw [hname]
        exact wpAny_pure ⟨plainId_quiet PySem.F.plain_min_loop _, ih (j + 1) _ H3 b k ub uk c (by omega) hlt' I6 fI6 fS6 pS.1 hit3 rb rk w'⟩
theorem min_run {E : Value → Shared → Prop} {pl : List (Addr × Obj)} {q : Value} {kt : V → Hp → VK → Prop} {lt : R2} {l : Addr} {xs : List V} {Sq : Hp → Prop} {It : Heap → Addr → Nat → Prop} {Q : VK} {W : Nat → V → V → Hp → Prop} {x0 : V} (SK : SeqK X pins σ l xs Sq It) (hh : X.A.handled = none) (hq : KeyR X pl q σ kt) (hlt : LtR X σ lt) (M : MinW kt lt Sq xs Q W) (hpl : ∀ p ∈ pl, p ∈ pins)
    (hqn : (∃ f, q = .ref f) ∨ ∃ id, q = .builtin id) (I : Inv X pins σ H s) (hs : Sq H) (hx : xs[0]? = some x0) (first : kt x0 H fun k H1 => W 1 x0 k H1) :
    wpAny (model X.prog X.w) X.A (call (.builtin "min") [.ref l] [(Str.ofString "key", q)]) (EP X pins σ Q) E s := by
  have hname : (toString "min" ++ toString ".loop" : String) = "min.loop" := by decide
  have hne : 0 < xs.length := (List.getElem?_eq_some_iff.mp hx).1
  refine kmk_tree PySem.F.kind_min PySem.F.plain_min PySem.F.entry_min (kmk_min_key _ _) ?_
  rcases hqn with ⟨f, rfl⟩ | ⟨id, rfl⟩
  all_goals
    show wpAny _ X.A.in1 (Builtin.Builtins.bindParams "min" ["key", "default"] 0 ⟨[], [(Str.ofString "key", _)]⟩ >>= _) _ _ s
    refine wpAny_bind (wpAny_of_eq (show Builtin.Builtins.bindParams "min" ["key", "default"] 0 ⟨[], [(Str.ofString "key", _)]⟩ = pure [some _, none] from rfl) ?_)
    refine wpAny_bind (wpAny_pure ?_)
    refine wpAny_bind (SK.start s H _ _ I hs fun oi hit0 => ?_)
    refine wpAny_bind (wpAny_newList ?_ (Nat.zero_le _))
    rw [hname]
    have hS : (s.heap.push oi).objs.size = s.heap.objs.size + 1 := size_push' ..
    have hSI : (s.heap.push oi).objs.size ≠ s.heap.objs.size := by rw [hS]; exact Nat.ne_of_gt (Nat.lt_succ_self _)
    refine wpAny_pure ⟨plainId_quiet PySem.F.plain_min_loop _, ?_⟩
    obtain ⟨o0, ho0, _, hk0⟩ := SK.obj hit0
    have hit : It ((s.heap.push oi).push (seqObj "list" #[] 0)) s.heap.objs.size 0 := hk0 _ (Heap.get?_push_of_some _ ho0)
    have gS : ((s.heap.push oi).push (seqObj "list" #[] 0)).get? (s.heap.push oi).objs.size = some (seqObj "list" #[] 0) := Heap.get?_push_size _ rfl
    have I0 : Inv X pins σ H { s with heap := (s.heap.push oi).push (seqObj "list" #[] 0), toks := s.toks } := I.kept (t' := s.toks) fun b o e => Heap.get?_push_of_some _ (Heap.get?_push_of_some _ e)
    have fI : FpOk X pins H s.heap.objs.size := I.fpOk (Nat.le_refl _) (I.hok.fresh (Nat.le_refl _))
    have fS : FpOk X pins H (s.heap.push oi).objs.size := I.fpOk (by rw [hS]; omega) (I.hok.fresh (by rw [hS]; omega))
    clear ho0 hk0 hit0 hS
    generalize (s.heap.push oi).objs.size = SA at hSI gS fS ⊢
    have I00 : Inv X pins σ H { s with heap := (s.heap.push oi).push (seqObj "list" #[] 0) } := I0
    generalize (s.heap.push oi).push (seqObj "list" #[] 0) = h0 at hit gS I00 ⊢
    clear I0
    generalize s.heap.objs.size = IA at hSI hit fI ⊢
    refine codeAny_builtin PySem.F.entry_min_loop ?_
    rw [Around.under_plainId PySem.F.plain_min_loop _]
    show wpAny _ X.A.in1 (seqItems? (.ref SA) >>= _) _ _ _
    refine wpAny_bind (wpAny_seqItems gS rfl ?_)
    show wpAny _ X.A.in1 (tryCatch (pyNext (.ref IA)) _ >>= _) _ _ _
    refine wpAny_bind (wpAny_tryCatch (SK.item { s with heap := h0 } H IA 0 x0 _ _ hh I00 hs hit hx fun v' h' tk' rx hst' hk' => ?_))
    obtain ⟨oI', hoI', nI, hoc⟩ := SK.obj hst'
    have gS1 := hk' SA _ (by simpa using hSI) gS
    have I1 : Inv X pins σ H { s with heap := h', toks := tk' } := inv_raw (s := { s with heap := h0 }) (t' := tk') I00 (ch := [IA]) (fun b hb => by rw [List.mem_singleton.mp hb]; exact fI) fun b o hb e => hk' b o hb e
    have I2 := Inv.pin1 I1 fI hoI' nI
    have I3 := Inv.pin1 I2 (FpOk.add fS hSI.symm) gS1 (fun v z => by cases z)
    show wpAny _ X.A.in1 (tryCatch (holding [v'] (call _ [v'])) _ >>= _) _ _ _
    refine wpAny_bind (wpAny_tryCatch (wpAny_holding (wpAny_mono (hq _ _ _ x0 v' _ (fun p hp => List.mem_cons_of_mem _ (List.mem_cons_of_mem _ (hpl p hp))) I3 rx first) (fun u s2 ⟨k', H2, I4, rk', w1⟩ => ?_) fun _ _ hF => hF.elim)))
    have pS := I4.pin (SA, seqObj "list" #[] 0) (List.mem_append_right _ List.mem_cons_self)
    have pI := I4.pin (IA, oI') (List.mem_append_right _ (List.mem_cons_of_mem _ List.mem_cons_self))
    have I6 := Inv.unpin1 (Inv.unpin1 I4)
    have fI6 : FpOk X pins H2 IA := FpOk.heap fI pI.2.1
    have fS6 : FpOk X pins H2 SA := FpOk.heap fS pS.2.1
    obtain ⟨c2, hc2⟩ : ∃ c2, (s2.heap.update SA (Obj.mapSeq fun _ => #[v', u])).get? SA = some (seqObj "list" #[v', u] c2) := ⟨_, get?_update_seq pS.1 fun _ => #[v', u]⟩
    have k3 : ∀ b o, b ∉ [SA] → s2.heap.get? b = some o → (s2.heap.update SA (Obj.mapSeq fun _ => #[v', u])).get? b = some o := fun b o hb e =>
      (Heap.get?_update_other _ _ (fun z => hb (by rw [z]; simp))).trans e
    show wpAny _ X.A.in1 (updateSeq SA (fun _ => #[v', u]) >>= _) _ _ _
    refine wpAny_bind ?_
    refine wpAny_updateSeq pS.1 rfl ?_
    rw [hname]
    refine wpAny_pure ⟨plainId_quiet PySem.F.plain_min_loop _, codeAny_mono (min_loop SK hh hq hlt M hpl hSI (by first | exact .inl ⟨_, rfl⟩ | exact .inr ⟨_, rfl⟩) _ 1 _ H2 x0 k' v' u c2 rfl hne (inv_raw I6 (ch := [SA]) (fun b hb => by rw [List.mem_singleton.mp hb]; exact fS6) k3) fI6 fS6 hc2 (hoc _ (k3 _ _ (fun z => hSI (List.mem_singleton.mp z).symm) pI.1)) rx rk' w1) fun r s' ⟨v, e, h⟩ => ?_⟩
    subst e
    exact h
end

/-! ### the lambda: its names, its frame -/
/-- one parameter, no other name of its own: captured ones and globals -/
structure LamOk (N : List Str) (sc scope : Scope) (p : Str) (ix : Nat) : Prop where
  blk : BlkOk N sc scope [(p, ix)]
  co : scope.isCoroutine = false
  gen : scope.isGenerator = false
  cell : ∀ y ∈ scope.names, y.2 ≠ .cell
  par : scope.names.lookup p = some NameKind.local
def lamC (N : List Str) (sc scope : Scope) (p : Str) (ix : Nat) : Bool :=
  blkC N sc scope [(p, ix)] && !scope.isCoroutine && !scope.isGenerator && scope.names.all (fun y => match y.2 with | .cell => false | _ => true) && (match scope.names.lookup p with | some .local => true | _ => false)
theorem lamOk_by {N : List Str} {sc scope : Scope} {p : Str} {ix : Nat} (h : lamC N sc scope p ix = true) : LamOk N sc scope p ix := by
  unfold lamC at h
  simp only [Bool.and_eq_true] at h
  obtain ⟨⟨⟨⟨h1, h2⟩, h3⟩, h4⟩, h5⟩ := h
  refine ⟨blkOk_by h1, by simpa using h2, by simpa using h3, fun y hy e => ?_, ?_⟩
  · have q := List.all_eq_true.mp h4 y hy
    rw [e] at q
    cases q
  · split at h5
    · assumption
    · cases h5
abbrev lamE (X : Cx) (scope : Scope) (L f c' : Addr) : Env := PySem.W.envX (X.env.qual ++ "<lambda>") scope L f (.ref c') (cloFrom X.env.cells scope.names [])
/-- the context of the lambda's body -/
def lamX (X : Cx) (A : Around) (s : Shared) (H : Hp) (scope : Scope) (f c' : Addr) : Cx :=
  { X with
    A := A.deeper (lamE X scope s.heap.objs.size f c')
    s_0 := s
    H_0 := H
    env := lamE X scope s.heap.objs.size f c'
    outer := X.stack
    stack := lamE X scope s.heap.objs.size f c' :: X.stack
    ex := []
    fn := fun _ => false
    calm := true
    pn := []
    xe := fun _ _ => False }
section
variable {X : Cx} {pins : List (Addr × Obj)} {σ : L2.St} {H : Hp} {s : Shared}
theorem lam_in {A : Around} {scope : Scope} {p : Str} {ix : Nat} {f c' : Addr} {v : V} {u : Value} {h₁ : Heap} {tk : Nat} (I : Inv X pins σ H s) (L : LamOk X.N X.env.scope scope p ix) (hN : X.N.Nodup) (hh : A.handled = none) (hfr : A.frames = some X.stack) (r : RelV v u)
    (hns : h₁.Ns s.heap.objs.size fun y => [(p, u)].reverse.lookup y) (kp : ∀ b o, s.heap.get? b = some o → h₁.get? b = some o) :
    Inv (lamX X A s H scope f c') [] (σ.set ix (some v)) H { s with heap := h₁, toks := tk } := by
  have e0 := I.env0
  have hfree : ∀ y ∈ scope.names, y.2 = .free → ∃ c, X.env.cells.lookup y.1 = some c := fun y hy e => by
    rcases L.blk.free y hy e with k | k
    · exact I.ok.has _ (.inl k)
    · exact I.ok.has _ (.inr k)
  have cm : ∀ {y c}, (cloFrom X.env.cells scope.names []).lookup y = some c → X.env.cells.lookup y = some c := fun {y c} e => by
    rcases cloFrom_mem (PySem.mem_of_lookup e) with hm | ⟨h1, h2⟩
    · cases hm
    · obtain ⟨c1, hc⟩ := hfree _ h1 rfl
      have hc : X.env.cells.lookup y = some c1 := hc
      have e2 : c = c1 := by
        rw [h2, hc] <;> rfl
      rw [e2]
      exact hc
  have look : ∀ {y}, scope.names.lookup y = some .free → ∃ c, (cloFrom X.env.cells scope.names []).lookup y = some c := fun {y} hl => by
    have hy : (y, NameKind.free) ∈ scope.names := PySem.mem_of_lookup hl
    exact mem_lookup (cloFrom_has (cells := X.env.cells) (acc := []) hy)
  have cellK : ∀ {c : Addr} {v : Option Value}, s.heap.IsCell c v → h₁.IsCell c v := fun {c v} ⟨o, ho, hd⟩ => ⟨o, kp _ _ ho, hd⟩
  have noA : ∀ b : Addr, b ∉ (lamX X A s H scope f c').ex := fun b z => absurd (show b ∈ ([] : List Addr) from z) (by simp)
  refine ⟨⟨e0.mod, L.blk.kind, rfl, rfl, Nat.le_refl _, fun y z c e1 e2 => I.ok.inj y z c (cm e1) (cm e2), fun y hy => ?_, fun y c z _ => ?_, fun _ => hh, Around.frames_deeper hfr, .inr ⟨rfl, rfl⟩, fun b z => absurd z (noA b), e0.bs, e0.bsz, fun b _ _ => noA b,
      fun b z => absurd z (noA b), e0.funs, e0.frf⟩,
    rfl, e0.bare, Un.kept kp, ⟨_, hns, fun i y w e1 e2 e3 => ?_⟩, fun y c e => ?_, e0.hok.fresh (Nat.le_refl _), fun y c e => ?_, fun q hq => absurd (show q ∈ ([] : List (Addr × Obj)) ++ [] from hq) (by simp), e0.hok.kept kp, (List.length_set ..).trans I.len⟩
  · have hy : scope.names.lookup y = some .cell ∨ scope.names.lookup y = some .free := hy
    rcases hy with hy | hy
    · exact absurd rfl (L.cell _ (PySem.mem_of_lookup hy))
    · exact look hy
  · have z : false = true := z
    cases z
  · have e3 : Vis scope y := e3
    have e1 : X.N[i]? = some y := e1
    have hix : X.N[ix]? = some p := L.blk.ix (p, ix) List.mem_cons_self
    rcases e3 with k | k | k
    · rcases L.blk.own _ (PySem.mem_of_lookup k) (.inl rfl) with z | z
      · have hy : y = p := by simpa using z
        subst hy
        obtain rfl : i = ix := nodup_ix hN e1 hix
        have hl : i < σ.length := by rw [I.len]; exact (List.getElem?_eq_some_iff.mp e1).1
        rw [List.getElem?_set_self hl] at e2
        obtain rfl : v = w := by cases e2; rfl
        exact ⟨u, r, .inl ⟨k, by simp⟩⟩
      · exact absurd (List.mem_of_getElem? e1) z
    · exact absurd rfl (L.cell _ (PySem.mem_of_lookup k))
    · have hne : ix ≠ i := fun z => by
        subst z
        rw [hix] at e1
        cases e1
        rw [L.par] at k
        cases k
      rw [List.getElem?_set_ne hne] at e2
      obtain ⟨m, hn, hl⟩ := I.loc
      have hvis : Vis X.env.scope y := (L.blk.free _ (PySem.mem_of_lookup k) rfl).elim (fun k => .inr (.inl k)) (fun k => .inr (.inr k))
      obtain ⟨w', rw', q⟩ := hl i y w e1 e2 hvis
      obtain ⟨c2, h2⟩ := look k
      refine ⟨w', rw', .inr ⟨.inr k, c2, h2, ?_⟩⟩
      have c1 := cm h2
      rcases q with ⟨k', _⟩ | ⟨_, c3, e', z⟩
      · have k' : X.env.scope.names.lookup y = some .local := k'
        rcases L.blk.free _ (PySem.mem_of_lookup k) rfl with k2 | k2 <;> rw [show X.env.scope.names.lookup y = _ from k2] at k' <;> cases k'
      · rw [c1] at e'
        cases e'
        exact cellK z
  · obtain ⟨w', z⟩ := I.cell y c (cm e)
    exact ⟨w', cellK z⟩
  · exact I.freeC y c (cm e)
/-- the lambda called -/
theorem lam_key {params : Arguments} {body : Expr} {scope : Scope} {p : Str} {ix k : Nat} {f c' : Addr} {pm ctv : Value} {tb : TE} {fo : Obj} (hfo : fo = PySem.W.kla_obj "<lambda>" (X.env.qual ++ "<lambda>") params body scope (cloFrom X.env.cells scope.names []) pm c' ctv)
    (L : LamOk X.N X.env.scope scope p ix) (hN : X.N.Nodup) (hr : Room (k + 2) X.A) 
    (hbind : ∀ u, bindArgs (PySem.W.kla_fn "<lambda>" (X.env.qual ++ "<lambda>") params body scope (cloFrom X.env.cells scope.names []) pm (.ref c') ctv) ⟨[u], []⟩ = pure [(p, u)])
    (hbody : ∀ (s : Shared) (H : Hp), PE (lamX X X.A.in1 s H scope f c') body tb) :
    KeyR X [(f, fo)] (.ref f) σ fun x H Q => H c' = some (LamX.CodeO c' (X.env.qual ++ "<lambda>")) ∧ tb (σ.set ix (some x)) H Q := by
  intro pl s H x u Q hpl I rx ⟨hc, h⟩
  obtain ⟨⟨oc, vs, t, hoc, hdc, hvc⟩, _, _⟩ := I.hok c' _ hc
  have hf := (I.pin (f, fo) (List.mem_append_right _ (hpl _ List.mem_cons_self))).1
  subst hfo
  have hp1 : Around.depth X.A.in1 < recursionLimit := by have := hr.dp; show X.A.depth < _; omega
  have rc : codeAny (model X.prog X.w) X.A.in1 (.call (.ref f) ⟨[u], []⟩) (fun r s' => ∃ w, r = .ok (.ret w) ∧ CE X.stack X.prog X.w H s Q w s') s := by
    refine PySem.W.kla_callFunE hp1 hf rfl L.co L.gen rfl ⟨c', oc, vs, t, rfl, hoc, hdc, hvc⟩ ?_
    rw [hbind]
    refine wpAny_pure (wpAny_newFunctionEnv L.cell (fun y hy => ?_) (fun h₁ hns hsb => ⟨I.nolimit.fresh _ hsb, ?_⟩) L.blk.kind)
    · have hy : y ∈ [(p, u)] := hy
      rw [List.mem_singleton.mp hy]
      exact L.par
    show codeAny _ _ (.expr body (lamE X scope s.heap.objs.size f c')) _ _
    have kp : ∀ b o, s.heap.get? b = some o → h₁.get? b = some o := fun b o e => hsb.extBut b o (Nat.ne_of_lt (Heap.lt_size e)) (Heap.get?_push_of_some _ e)
    have J : Inv (lamX X X.A.in1 s H scope f c') [] (σ.set ix (some x)) H { s with heap := h₁, toks := s.toks + ([(p, u)] : List (Str × Value)).length } := lam_in I L hN hr.hd I.ok.frames rx hns kp
    refine PySem.W.kla_codeExpr (wpAny_mono ((hbody s H).run [] _ _ H Q J h) (fun v s' hq => ?_) fun e s' hq => False.elim hq)
    obtain ⟨w', H', J', rv, q⟩ := hq
    exact ⟨v, rfl, w', H', J'.os, J'.bare, J'.base, J'.hok, rv, q⟩
  refine wpAny_call (codeAny_mono rc fun r s' hq => ?_)
  obtain ⟨w, rfl, hq⟩ := hq
  exact I.after hq
/-- the lambda made: the table tells code objects of its name alone, all else stays -/
theorem lam_made {c P : Addr} {q : Str} {params : Arguments} {body : Expr} {scope : Scope} {pos : Pos} {E Q : Value → Shared → Prop} (I : Inv X pins σ H s) (TB : GxR.TabB X.base X.mg c P) (hcode : X.env.code = .ref c) (hq : X.env.qual ++ "<lambda>" = q)
    (hT : LamX.TabS H P q) (hdef : defaultsOf params X.env = ([], [])) (hfree : ∀ y ∈ scope.names, y.2 = .free → ∃ c, X.env.cells.lookup y.1 = some c)
    (h : ∀ (f c' : Addr) (pm ctv : Value) (H1 : Hp) (s' : Shared), Inv X pins σ H1 s' → (∀ b o, b ≠ P → H b = some o → H1 b = some o) → LamX.TabS H1 P q →
      s'.heap.get? f = some (PySem.W.kla_obj "<lambda>" (X.env.qual ++ "<lambda>") params body scope (cloFrom X.env.cells scope.names []) pm c' ctv) → FpOk X pins H1 f → H1 c' = some (LamX.CodeO c' q) → Q (.ref f) s') :
    wpAny (model X.prog X.w) X.A (eval (.Lambda params body scope pos) X.env) Q E s := by
  subst hq
  obtain ⟨ps, hP, ht, ha⟩ := hT
  refine PySem.W.kla_eval hdef ?_
  have bP : s.heap.BuiltinsAt X.mg P := TB.bm.keeps I.bk
  have hP' : s.heap.get? P = some { cls := .none, data := .fields ps } := I.hok P _ hP
  have old : ∀ (h' : Heap) (fo : Obj) (H' : Hp), s.heap.objs.size ≤ h'.objs.size → H' h'.objs.size = none → FpOk X pins H' h'.objs.size := fun h' fo H' hsz hn => I.fpOk hsz hn
  cases hc : codeAmong pos ps.toList with
  | none =>
    refine PySem.W.kla_makeFunction (mg := X.mg) (c := c) (P := P) (ps := ps) (closure_ok hfree) I.ok.glob (I.mod.glob.keeps I.bk) hcode (TB.code.keeps I.bk) hP' ht hc TB.gP bP fun c' ctv h' tk hx hge hlt hrec htb => ?_
    obtain ⟨c2, oc, vs, t, e2, hoc, hd, hv⟩ := hrec
    cases e2
    have hsz : s.heap.objs.size ≤ h'.objs.size := Nat.le_trans hge (Nat.le_of_lt hlt)
    have nC : H c' = none := I.hok.fresh hge
    have I1 := LamX.inv_table (t' := tk) (more := #[rawInt pos.line, rawInt pos.col, .ref c']) (h' := h'.push (PySem.W.kla_obj "<lambda>" (X.env.qual ++ "<lambda>") params body scope (cloFrom X.env.cells scope.names []) ((X.mg "__name__").getD .none) c' ctv)) I hP
      (fun b o hb e => Heap.get?_push_of_some _ (hx b o hb e)) (Heap.get?_push_of_some _ htb) hge ⟨oc, vs, t, Heap.get?_push_of_some _ hoc, hd, hv⟩
    have kE : ∀ b o, b ≠ P → H b = some o → upd (upd H P (.tbl (ps ++ #[rawInt pos.line, rawInt pos.col, .ref c']))) c' (LamX.CodeO c' (X.env.qual ++ "<lambda>")) b = some o := fun b o hb e => by
      rw [upd_ne (ne_of_none e nC), upd_ne hb]
      exact e
    have eL : (ps ++ #[rawInt pos.line, rawInt pos.col, .ref c']).toList = ps.toList ++ [rawInt pos.line, rawInt pos.col, .ref c'] := by simp
    refine h h'.objs.size c' ((X.mg "__name__").getD .none) ctv _ _ I1 kE ?_ (Heap.get?_push_size _ rfl) (old h' (PySem.W.kla_obj "" "" params body scope [] .none c' .none) _ hsz ?_) upd_same
    · refine ⟨_, by rw [upd_ne (ne_of_none hP nC), upd_same], by rw [eL]; exact PySem.TriplesOk_snoc _ _ _ _ ht, fun p' cv hcv => ?_⟩
      rw [eL] at hcv
      rcases LamX.among_app _ ht hcv with z | z
      · obtain ⟨c0, e1, e2⟩ := ha p' cv z
        exact ⟨c0, e1, kE _ _ (fun z => by rw [z, hP] at e2; exact LamX.codeO_ne ps (Option.some.inj e2).symm) e2⟩
      · exact ⟨c', z, upd_same⟩
    · have n1 : h'.objs.size ≠ c' := Nat.ne_of_gt hlt
      have n2 : h'.objs.size ≠ P := Nat.ne_of_gt (Nat.lt_of_lt_of_le (Heap.lt_size hP') hsz)
      rw [upd_ne n1, upd_ne n2]
      exact I.hok.fresh hsz
  | some cv =>
    obtain ⟨c', e, hco⟩ := ha pos cv hc
    subst e
    refine PySem.W.kla_makeFunctionHit (mg := X.mg) (c := c) (P := P) (ps := ps) (closure_ok hfree) I.ok.glob (I.mod.glob.keeps I.bk) hcode (TB.code.keeps I.bk) hP' ht hc bP fun ctv h' tk hx hsz => ?_
    have I1 : Inv X pins σ H { s with heap := h'.push (PySem.W.kla_obj "<lambda>" (X.env.qual ++ "<lambda>") params body scope (cloFrom X.env.cells scope.names []) ((X.mg "__name__").getD .none) c' ctv), toks := tk } := I.kept fun b o e => Heap.get?_push_of_some _ (hx b o e)
    exact h h'.objs.size c' ((X.mg "__name__").getD .none) ctv H _ I1 (fun b o _ e => e) ⟨ps, hP, ht, ha⟩ (Heap.get?_push_size _ rfl) (old h' (PySem.W.kla_obj "" "" params body scope [] .none c' .none) _ hsz (I.hok.fresh hsz)) hco

theorem sqL_keep {K : PySem.W.Frag} {H H' : Hp} {P l : Addr} {q : Str} {xs : List V} (T : LamX.TabS H P q) (k : ∀ b o, b ≠ P → H b = some o → H' b = some o) (h : SqL K H l xs) : SqL K H' l xs := by
  obtain ⟨ps, hP, _⟩ := T
  have nn : ∀ o, H l = some o → (∀ ps, o ≠ .tbl ps) → l ≠ P := fun o e hn z => by
    rw [z, hP] at e
    exact hn ps (Option.some.inj e).symm
  rcases h with (h | ⟨o, h⟩) | h
  · exact .inl (.inl (k _ _ (nn _ h fun _ z => by cases z) h))
  · exact .inl (.inr ⟨o, k _ _ (nn _ h fun _ z => by cases z) h⟩)
  · exact .inr h
theorem sqT_keep {K : PySem.W.Frag} {H H' : Hp} {P l : Addr} {q : Str} {xs : List V} (T : LamX.TabS H P q) (k : ∀ b o, b ≠ P → H b = some o → H' b = some o) (h : SqT K H l xs) : SqT K H' l xs := by
  obtain ⟨ps, hP, _⟩ := T
  have nn : ∀ o, H l = some o → (∀ ps, o ≠ .tbl ps) → l ≠ P := fun o e hn z => by
    rw [z, hP] at e
    exact hn ps (Option.some.inj e).symm
  rcases h with (h | ⟨o, h⟩) | h
  · exact .inl (.inl (k _ _ (nn _ h fun _ z => by cases z) h))
  · exact .inl (.inr ⟨o, k _ _ (nn _ h fun _ z => by cases z) h⟩)
  · exact .inr h
end
/-! ### in a built-in -/
abbrev in1X (X : Cx) : Cx := { X with A := X.A.in1, xe := fun _ _ => False }
section
variable {X : Cx} {pins : List (Addr × Obj)} {σ : L2.St} {H : Hp} {s : Shared}
theorem inv_in1 (I : Inv X pins σ H s) : Inv (in1X X) pins σ H s :=
  ⟨⟨I.ok.mod, I.ok.kind, I.ok.glob, I.ok.blt, I.ok.above, I.ok.inj, I.ok.has, I.ok.cab, I.ok.hd, I.ok.frames, I.ok.stk, I.ok.exf, I.ok.bs, I.ok.bsz, I.ok.noex, I.ok.exfs, I.ok.funs, I.ok.frf⟩, I.os, I.bare, I.base, I.loc, I.cell, I.free, I.freeC, I.pin, I.hok, I.len⟩
theorem of_in1 (I : Inv (in1X X) pins σ H s) : Inv X pins σ H s :=
  ⟨⟨I.ok.mod, I.ok.kind, I.ok.glob, I.ok.blt, I.ok.above, I.ok.inj, I.ok.has, I.ok.cab, I.ok.hd, I.ok.frames, I.ok.stk, I.ok.exf, I.ok.bs, I.ok.bsz, I.ok.noex, I.ok.exfs, I.ok.funs, I.ok.frf⟩, I.os, I.bare, I.base, I.loc, I.cell, I.free, I.freeC, I.pin, I.hok, I.len⟩
theorem ltR_of {lt : R2} (h : OpR (in1X X) (compareOp .Lt) lt) : ∀ σ, LtR X σ lt := fun σ pins s H x y u v Q I rx ry q =>
  wpAny_mono (h pins s σ H x y u v Q (inv_in1 I) rx ry q) (fun w s' ⟨z, H', I', r, q'⟩ => ⟨z, H', of_in1 I', r, q'⟩) fun _ _ z => z
theorem keyR_of {q : Value} {r : List V → Hp → VK → Prop} (h : CallR (in1X X) q r) : ∀ σ, KeyR X [] q σ (fun x H Q => r [x] H Q) := fun σ pins s H x u Q _ I rx q' =>
  wpAny_mono (h pins s σ H [x] [u] Q (inv_in1 I) (.cons rx .nil) q') (fun w s' ⟨z, H', I', r, q'⟩ => ⟨z, H', of_in1 I', r, q'⟩) fun _ _ z => z

/-! ### min(xs, key=..) -/
/-- at_: what a walk needs of the heap at each turn -/
def rMinK (Sq : Hp → Addr → List V → Prop) (kt : V → Hp → VK → Prop) (lt : R2) (at_ : Hp → Prop) (l : Addr) (xs : List V) (H : Hp) (Q : VK) : Prop :=
  ∃ (x0 : V) (W : Nat → V → V → Hp → Prop), xs[0]? = some x0 ∧ kt x0 H (fun k H1 => W 1 x0 k H1) ∧ (∀ j b k H, W j b k H → Sq H l xs ∧ at_ H) ∧
    (∀ j b k H x, W j b k H → xs[j]? = some x → kt x H fun k' H1 => lt k' k H1 fun r H2 => ∃ c, r = .bl c ∧ W (j + 1) (if c then x else b) (if c then k' else k) H2) ∧ ∀ b k H, W xs.length b k H → Q b H
def tMinK (Sq : Hp → Addr → List V → Prop) (P : Addr) (q : Str) (ix : Nat) (ta tb : TE) (lt : R2) : TE := fun σ H Q => tCons ta tNil σ H fun vs H1 => ∃ (l : Addr) (xs : List V), vs = [.ref l] ∧ Sq H1 l xs ∧ LamX.TabS H1 P q ∧
  ∀ (c' : Addr) (H2 : Hp), (∀ b o, b ≠ P → H1 b = some o → H2 b = some o) → LamX.TabS H2 P q → H2 c' = some (LamX.CodeO c' q) →
    rMinK Sq (fun x H Q => tb (σ.set ix (some x)) H Q) lt (fun H => H c' = some (LamX.CodeO c' q)) l xs H2 Q
theorem pe_minK {Sq : Hp → Addr → List V → Prop} {It : Addr → Heap → Addr → Nat → Prop} {c P : Addr} {q : Str} {params : Arguments} {body e : Expr} {scope : Scope} {x : Str} {ix k : Nat} {lpos kpos p1 pos : Pos} {ta tb : TE} {lt : R2} (SK : ∀ (pins : List (Addr × Obj)) (σ : L2.St) (l : Addr) (xs : List V), SeqK X pins σ l xs (fun H => Sq H l xs) (It l))
    (kS : ∀ {H H' : Hp} {l : Addr} {xs : List V}, LamX.TabS H P q → (∀ b o, b ≠ P → H b = some o → H' b = some o) → Sq H l xs → Sq H' l xs)
    (hr : Room (k + 2) X.A) (hgl : Gl X "min") (hm : X.mg "min" = none) (TB : GxR.TabB X.base X.mg c P) (hcode : X.env.code = .ref c) (hq : X.env.qual ++ "<lambda>" = q) (L : LamOk X.N X.env.scope scope x ix) (hN : X.N.Nodup)
    (hlt : ∀ σ, LtR X σ lt) (ha : PA X [e] (tCons ta tNil)) (hbody : ∀ (s : Shared) (H : Hp) (f c' : Addr), PE (lamX X X.A.in1 s H scope f c') body tb)
    (hdef : defaultsOf params X.env = ([], []) := by rfl)
    (hbind : ∀ (qn : Str) (cl : List (Str × Addr)) (pm cv ctv u : Value), bindArgs (PySem.W.kla_fn "<lambda>" qn params body scope cl pm cv ctv) ⟨[u], []⟩ = pure [(x, u)] := by intros; rfl)
    (he : backTo pos (starEach [e] X.env) = (false, eval e X.env) :: backTo pos (starEach [] X.env) := by rfl) (hpl : (backTo pos (starEach [e] X.env)).any (·.1) = false := by rfl) :
    PE X (.Call (.Name "min" p1) [e] [⟨some (Str.ofString "key"), .Lambda params body scope lpos, kpos⟩] pos) (tMinK Sq P q ix ta tb lt) := by
  have hfree : ∀ {pins : List (Addr × Obj)} {σ : L2.St} {H : Hp} {s : Shared}, Inv X pins σ H s → ∀ y ∈ scope.names, y.2 = .free → ∃ c, X.env.cells.lookup y.1 = some c := fun I y hy e => by
    rcases L.blk.free y hy e with k | k
    · exact I.ok.has _ (.inl k)
    · exact I.ok.has _ (.inr k)
  refine ⟨fun pins s σ H Q I h => ?_⟩
  refine wpAny_Call_Name_kw (ld_blt I hgl hm (show bootBuiltins "min" = some (.builtin "min") by decide +kernel) ?_)
  refine PyProof.Rows.callWith_kw (thn (ha.run pos pins s σ H _ I h) fun us s1 ⟨vs, H1, I1, r1, q1⟩ => ?_) he hpl
  obtain ⟨l, xs, rfl, hs, hT, q2⟩ := q1
  obtain rfl := Vals.ref1 r1
  show wpAny _ _ (evalAll [(do let v ← eval (.Lambda params body scope lpos) X.env; standAt pos; pure v)]) _ _ s1
  refine wpAny_evalAll_cons (wpAny_bind (lam_made I1 TB hcode hq hT hdef (hfree I1) fun f c' pm ctv H2 s2 I2 k2 T2 hf ff hc => ?_))
  refine wpAny_bind (wpAny_standAt (wpAny_pure (wpAny_evalAll_nil ?_)))
  obtain ⟨x0, W, hx0, first, wat, step, fin⟩ := q2 c' H2 k2 T2 hc
  have I3 := Inv.pin1 I2 ff hf (fun v z => by cases z)
  have hk := lam_key (σ := σ) (k := k) (ix := ix) (tb := tb) (p := x) (f := f) (c' := c') (params := params) (body := body) (pm := pm) (ctv := ctv) rfl L hN hr (fun u => hbind _ _ _ _ _ u) (fun s H => hbody s H f c')
  subst hq
  refine wpAny_mono (min_run (W := fun j b k H => W j b k H) (E := X.xe) (pins := (f, PySem.W.kla_obj "<lambda>" (X.env.qual ++ "<lambda>") params body scope (cloFrom X.env.cells scope.names []) pm c' ctv) :: pins) (SK _ σ l xs) hr.hd hk (hlt σ) ⟨fun j b k H w => (wat j b k H w).1, fun j b k H x w hx => ⟨(wat j b k H w).2, step j b k H x w hx⟩, fin⟩ (fun p hp => by rw [List.mem_singleton.mp hp]; exact List.mem_cons_self) (.inl ⟨f, rfl⟩) I3 (kS hT k2 hs) hx0 ⟨hc, first⟩) (fun u s' ⟨v, H', I', rv, q'⟩ => ⟨v, H', Inv.unpin1 I', rv, q'⟩) fun _ _ z => z
/-- min(xs, key=f), f a built-in's name -/
def tMinB (Sq : Hp → Addr → List V → Prop) (ta : TE) (r : List V → Hp → VK → Prop) (lt : R2) : TE := fun σ H Q => tCons ta tNil σ H fun vs H1 => ∃ (l : Addr) (xs : List V), vs = [.ref l] ∧ Sq H1 l xs ∧ rMinK Sq (fun x H Q => r [x] H Q) lt (fun _ => True) l xs H1 Q
theorem pe_minB {Sq : Hp → Addr → List V → Prop} {It : Addr → Heap → Addr → Nat → Prop} {e : Expr} {id : String} {fn : Str} {kpos p1 p2 pos : Pos} {ta : TE} {r : List V → Hp → VK → Prop} {lt : R2} (SK : ∀ (pins : List (Addr × Obj)) (σ : L2.St) (l : Addr) (xs : List V), SeqK X pins σ l xs (fun H => Sq H l xs) (It l))
    (hh : X.A.handled = none) (hgl : Gl X "min") (hm : X.mg "min" = none) (hgf : Gl X fn) (hmf : X.mg fn = none) (hvf : bootBuiltins fn = some (.builtin id)) (hc : CallR (in1X X) (.builtin id) r) (hlt : ∀ σ, LtR X σ lt) (ha : PA X [e] (tCons ta tNil)) (hn : fn ≠ "__name__" := by decide) (hdb : (fn == ("__debug__" : Str)) = false := by decide)
    (he : backTo pos (starEach [e] X.env) = (false, eval e X.env) :: backTo pos (starEach [] X.env) := by rfl) (hpl : (backTo pos (starEach [e] X.env)).any (·.1) = false := by rfl) :
    PE X (.Call (.Name "min" p1) [e] [⟨some (Str.ofString "key"), .Name fn p2, kpos⟩] pos) (tMinB Sq ta r lt) := by
  refine ⟨fun pins s σ H Q I h => ?_⟩
  refine wpAny_Call_Name_kw (ld_blt I hgl hm (show bootBuiltins "min" = some (.builtin "min") by decide +kernel) ?_)
  refine PyProof.Rows.callWith_kw (thn (ha.run pos pins s σ H _ I h) fun us s1 ⟨vs, H1, I1, r1, q1⟩ => ?_) he hpl
  obtain ⟨l, xs, rfl, hs, x0, W, hx0, first, wat, step, fin⟩ := q1
  obtain rfl := Vals.ref1 r1
  show wpAny _ _ (evalAll [(do let v ← eval (.Name fn p2) X.env; standAt pos; pure v)]) _ _ s1
  refine wpAny_evalAll_cons (wpAny_bind ?_)
  refine ld_blt I1 hgf hmf hvf ?_ hn hdb
  refine wpAny_bind (wpAny_standAt (wpAny_pure (wpAny_evalAll_nil ?_)))
  exact min_run (W := fun j b k H => W j b k H) (E := X.xe) (pl := []) (SK _ σ l xs) hh (keyR_of hc σ) (hlt σ) ⟨fun j b k H w => (wat j b k H w).1, fun j b k H x w hx => step j b k H x w hx, fin⟩ (fun p hp => by cases hp) (.inr ⟨id, rfl⟩) I1 hs hx0 first
theorem Room.lam {k : Nat} {X : Cx} (r : Room (k + 1) X.A) {s : Shared} {H : Hp} {scope : Scope} {f c' : Addr} : Room k (lamX X X.A.in1 s H scope f c').A :=
  ⟨r.hd, by have := r.dp; show X.A.depth + 1 + 3 * k + 5 < _; omega, by have := r.un; show X.A.units + 1 + 3 + 16 * k + 200 < _; omega⟩
theorem Room.u4 {k : Nat} {X : Cx} (r : Room k X.A) : (in1X X).A.units + 4 < cLine := by have := r.un; show X.A.units + 1 + 4 < _; omega
/-- min of a tuple by a lambda -/
theorem pe_minKT {K : PySem.W.Frag} {c P : Addr} {q : Str} {params : Arguments} {body e : Expr} {scope : Scope} {x : Str} {ix k : Nat} {lpos kpos p1 pos : Pos} {ta tb : TE} {lt : R2} (hK : X.K = K)
    (hr : Room (k + 2) X.A) (hgl : Gl X "min") (hm : X.mg "min" = none) (TB : GxR.TabB X.base X.mg c P) (hcode : X.env.code = .ref c) (hq : X.env.qual ++ "<lambda>" = q) (L : LamOk X.N X.env.scope scope x ix) (hN : X.N.Nodup)
    (hlt : ∀ σ, LtR X σ lt) (ha : PA X [e] (tCons ta tNil)) (hbody : ∀ (s : Shared) (H : Hp) (f c' : Addr), PE (lamX X X.A.in1 s H scope f c') body tb)
    (hdef : defaultsOf params X.env = ([], []) := by rfl)
    (hbind : ∀ (qn : Str) (cl : List (Str × Addr)) (pm cv ctv u : Value), bindArgs (PySem.W.kla_fn "<lambda>" qn params body scope cl pm cv ctv) ⟨[u], []⟩ = pure [(x, u)] := by intros; rfl)
    (he : backTo pos (starEach [e] X.env) = (false, eval e X.env) :: backTo pos (starEach [] X.env) := by rfl) (hpl : (backTo pos (starEach [e] X.env)).any (·.1) = false := by rfl) :
    PE X (.Call (.Name "min" p1) [e] [⟨some (Str.ofString "key"), .Lambda params body scope lpos, kpos⟩] pos) (tMinK (SqT K) P q ix ta tb lt) := by
  subst hK
  exact pe_minK (It := fun l h a i => h.IsTupleIter a l i) (fun _ _ _ _ => seqT) (fun T k h => sqT_keep T k h) hr hgl hm TB hcode hq L hN hlt ha hbody hdef hbind he hpl
/-- min of a list by a built-in -/
theorem pe_minBL {K : PySem.W.Frag} {e : Expr} {id : String} {fn : Str} {kpos p1 p2 pos : Pos} {ta : TE} {r : List V → Hp → VK → Prop} {lt : R2} (hK : X.K = K)
    (hh : X.A.handled = none) (hgl : Gl X "min") (hm : X.mg "min" = none) (hgf : Gl X fn) (hmf : X.mg fn = none) (hvf : bootBuiltins fn = some (.builtin id)) (hc : CallR (in1X X) (.builtin id) r) (hlt : ∀ σ, LtR X σ lt) (ha : PA X [e] (tCons ta tNil)) (hn : fn ≠ "__name__" := by decide) (hdb : (fn == ("__debug__" : Str)) = false := by decide)
    (he : backTo pos (starEach [e] X.env) = (false, eval e X.env) :: backTo pos (starEach [] X.env) := by rfl) (hpl : (backTo pos (starEach [e] X.env)).any (·.1) = false := by rfl) :
    PE X (.Call (.Name "min" p1) [e] [⟨some (Str.ofString "key"), .Name fn p2, kpos⟩] pos) (tMinB (SqL K) ta r lt) := by
  subst hK
  exact pe_minB (It := fun l h a i => h.IsListIter a l i) (fun _ _ _ _ => seqL) hh hgl hm hgf hmf hvf hc hlt ha hn hdb he hpl
end
/-! ### tables of lambdas beside those of generator expressions -/
/-- all but the tables stays; the tables of Ts and the lambda's at P are tables -/
structure AftL (Ts : List Addr) (P : Addr) (q : Str) (H H' : Hp) : Prop where
  kp : Keep (P :: Ts) H H'
  tb : Tabs Ts H'
  tl : LamX.TabS H' P q
section
variable {Ts : List Addr} {P : Addr} {q : Str} {H H1 H2 : Hp}
theorem AftL.trans (a : AftL Ts P q H H1) (b : AftL Ts P q H1 H2) : AftL Ts P q H H2 := ⟨a.kp.trans b.kp, b.tb, b.tl⟩
theorem AftL.refl (t : Tabs Ts H) (l : LamX.TabS H P q) : AftL Ts P q H H := ⟨Keep.refl, t, l⟩
theorem tabS_keep {X : List Addr} (l : LamX.TabS H P q) (k : Keep X H H1) (hP : P ∉ X) (hX : ∀ b ∈ X, (∃ ps, H b = some (.tbl ps)) ∨ H b = none ∨ ∃ xs, H b = some (.lst xs)) : LamX.TabS H1 P q := by
  obtain ⟨ps, h1, h2, h3⟩ := l
  refine ⟨ps, k _ _ h1 hP, h2, fun pos cv hc => ?_⟩
  obtain ⟨c, e1, e2⟩ := h3 pos cv hc
  refine ⟨c, e1, k _ _ e2 fun hc => ?_⟩
  rcases hX c hc with ⟨ps', z⟩ | z | ⟨xs, z⟩
  · rw [e2] at z
    exact LamX.codeO_ne ps' (Option.some.inj z)
  · rw [e2] at z
    cases z
  · rw [e2] at z
    unfold LamX.CodeO at z
    cases z
theorem AftL.of (a : Aft Ts H H1) (t : Tabs Ts H) (l : LamX.TabS H P q) (hP : P ∉ Ts) : AftL Ts P q H H1 :=
  ⟨a.kp.mono fun b hb => List.mem_cons_of_mem _ hb, a.tb, tabS_keep l a.kp hP fun b hb => .inl (by obtain ⟨ps, h, _⟩ := t b hb; exact ⟨ps, h⟩)⟩
theorem AftL.lam (k : ∀ b o, b ≠ P → H b = some o → H1 b = some o) (t : Tabs Ts H) (l : LamX.TabS H1 P q) (hP : P ∉ Ts) : AftL Ts P q H H1 :=
  ⟨fun b o e n => k b o (fun z => n (by rw [z]; exact List.mem_cons_self)) e, fun b hb => by
    obtain ⟨ps, h, r⟩ := t b hb
    exact ⟨ps, k _ _ (fun z => hP (by rw [← z]; exact hb)) h, r⟩, l⟩
theorem AftL.same (s : Same H H1) (t : Tabs Ts H) (l : LamX.TabS H P q) : AftL Ts P q H H1 :=
  ⟨fun b o e _ => s b o e, fun b hb => by
    obtain ⟨ps, h, r⟩ := t b hb
    exact ⟨ps, s _ _ h, r⟩, l.ext fun b o e => s b o e⟩
theorem AftL.at_ (a : AftL Ts P q H H1) (t : Tabs Ts H) (l : LamX.TabS H P q) {b : Addr} {o : HO} (e : H b = some o) (hn : ∀ ps, o ≠ .tbl ps) : H1 b = some o := a.kp b o e fun z => by
  rcases List.mem_cons.mp z with z | z
  · obtain ⟨ps, h, _⟩ := l
    rw [← z, e] at h
    exact hn ps (Option.some.inj h)
  · exact t.nott e hn z
theorem AftL.tup (a : AftL Ts P q H H1) (t : Tabs Ts H) (l : LamX.TabS H P q) {b : Addr} {xs : List V} (e : H b = some (.tup xs)) : H1 b = some (.tup xs) := a.at_ t l e fun _ z => by cases z
theorem AftL.lst (a : AftL Ts P q H H1) (t : Tabs Ts H) (l : LamX.TabS H P q) {b : Addr} {xs : List V} (e : H b = some (.lst xs)) : H1 b = some (.lst xs) := a.at_ t l e fun _ z => by cases z
end
end GX
set_option Elab.async false
set_option linter.all false
set_option maxRecDepth 100000
set_option maxHeartbeats 4000000
/-! `<` of tuples of two ints and a tuple of ints. -/
namespace GX
open PySem PySem.Spec PyProof.Rows L2 PySem.SeqAt
section
variable {A : Around} {s : Shared}
/-- two tuples of ints are equal -/
theorem eqAt_ints {l b : Addr} {its its2 : List Value} {ns ms : List Int} (hl : s.heap.IsTuple l its.toArray) (hb : s.heap.IsTuple b its2.toArray) (hi : IntsAre its ns) (hj : IntsAre its2 ms) (hu : A.units < cLine) : EqAt A s (.ref l) (.ref b) (decide (ns = ms)) := by
  by_cases hlb : l = b
  · subst hlb
    obtain ⟨o, e, _, n, d⟩ := hl
    obtain ⟨o', e', _, n', d'⟩ := hb
    rw [e] at e'
    cases e'
    rw [d] at d'
    obtain ⟨h1, _⟩ : its.toArray = its2.toArray ∧ True := ⟨by injection d', trivial⟩
    have h2 : its = its2 := by simpa using h1
    subst h2
    have : ns = ms := by
      have : ∀ {us : List Value} {xs ys : List Int}, IntsAre us xs → IntsAre us ys → xs = ys := by
        intro us
        induction us with
        | nil => intro xs ys h1 h2; cases h1; cases h2; rfl
        | cons u us ih =>
          intro xs ys h1 h2
          cases h1 with | cons _ _ h1 =>
          cases h2 with | cons _ _ h2 => rw [ih h1 h2]
      exact this hi hj
    rw [decide_eq_true this]
    exact EqAt.same _
  · have h := RcAt.tuples (A := A) (e := fun j => ns.getD j 0 == ms.getD j 0) hl hb hu (fun j h1 h2 => ?_)
    · have l1 := hi.length
      have l2 := hj.length
      have e : ((List.range (min its.toArray.size its2.toArray.size)).all (fun j => ns.getD j 0 == ms.getD j 0) && its.toArray.size == its2.toArray.size) = decide (ns = ms) := by
        rw [List.size_toArray, List.size_toArray, Bool.eq_iff_iff, Bool.and_eq_true, List.all_eq_true, beq_iff_eq, decide_eq_true_iff]
        constructor
        · rintro ⟨h1, h2⟩
          refine List.ext_getElem (by omega) fun i a b => ?_
          have := h1 i (List.mem_range.mpr (by omega))
          rw [beq_iff_eq] at this
          simpa [a, b] using this
        · rintro rfl
          exact ⟨fun j _ => by simp, by omega⟩
      rw [← e]
      exact EqAt.of_refs hlb h
    · have h1' : j < its.length := by simpa using h1
      have h2' : j < its2.length := by simpa using h2
      have l1 := hi.length
      have l2 := hj.length
      obtain ⟨t, ht⟩ := hi.get j (ns.getD j 0) (by rw [List.getD_eq_getElem?_getD, List.getElem?_eq_getElem (by omega : j < ns.length)]; rfl)
      obtain ⟨u, hu2⟩ := hj.get j (ms.getD j 0) (by rw [List.getD_eq_getElem?_getD, List.getElem?_eq_getElem (by omega : j < ms.length)]; rfl)
      have e1 : its.toArray[j] = .int (ns.getD j 0) t := by
        rw [List.getElem_toArray]
        rw [List.getElem?_eq_getElem h1'] at ht
        exact Option.some.inj ht
      have e2 : its2.toArray[j] = .int (ms.getD j 0) u := by
        rw [List.getElem_toArray]
        rw [List.getElem?_eq_getElem h2'] at hu2
        exact Option.some.inj hu2
      rw [e1, e2]
      exact EqAt.int_int _ _ _ _
end
/-- a key: two ints and a tuple of ints, told as one list -/
def KeyAt (K : PySem.W.Frag) (H : Hp) (v : V) (ks : List Int) : Prop := ∃ (a c : Addr) (d l : Int) (ns : List Int), v = .ref a ∧ ks = d :: l :: ns ∧ SqT K H a [.int d, .int l, .ref c] ∧ SqT K H c (ns.map V.int)
theorem sqT_same {K : PySem.W.Frag} {H H' : Hp} {a : Addr} {xs : List V} (s : Same H H') (h : SqT K H a xs) : SqT K H' a xs := by
  rcases h with (h | ⟨o, h⟩) | h
  · exact .inl (.inl (s _ _ h))
  · exact .inl (.inr ⟨o, s _ _ h⟩)
  · exact .inr h
theorem KeyAt.same {K : PySem.W.Frag} {H H' : Hp} {v : V} {ks : List Int} (s : Same H H') (h : KeyAt K H v ks) : KeyAt K H' v ks := by
  obtain ⟨ka, kc, d, l, ns, e1, e2, a1, a2⟩ := h
  exact ⟨ka, kc, d, l, ns, e1, e2, sqT_same s a1, sqT_same s a2⟩
def rLtK3 (K : PySem.W.Frag) : R2 := fun x y H Q => ∃ k1 k2, KeyAt K H x k1 ∧ KeyAt K H y k2 ∧ Q (.bl (HT.lexLt k1 k2)) H
theorem op_ltK3 {X : Cx} {K : PySem.W.Frag} (hu : X.A.units + 4 < cLine) (h : X.K = K := by rfl) : OpR X (compareOp .Lt) (rLtK3 K) := by
  subst h
  intro pins s σ H x y v u Q I rx ry h
  obtain ⟨_, _, ⟨a, c, d, l, ns, rfl, rfl, ha, hc⟩, ⟨a2, c2, d2, l2, ms, rfl, rfl, ha2, hc2⟩, q⟩ := h
  cases rx
  cases ry
  obtain ⟨ia, ra, pa, _⟩ := I.tuple ha
  obtain ⟨ia2, ra2, pa2, _⟩ := I.tuple ha2
  obtain ⟨ic, rc, pc, _⟩ := I.tuple hc
  obtain ⟨ic2, rc2, pc2, _⟩ := I.tuple hc2
  have jc : IntsAre ic ns := intsAre_of rc
  have jc2 : IntsAre ic2 ms := intsAre_of rc2
  obtain ⟨u1, w1, rfl, r1, rw1⟩ : ∃ u w, ia = u :: w ∧ RelV (.int d) u ∧ Vals [.int l, .ref c] w := by cases ra with | cons h1 h2 => exact ⟨_, _, rfl, h1, h2⟩
  obtain ⟨u2, u3, rfl, r2, r3⟩ := vals2 rw1
  obtain ⟨v1, w2, rfl, q1, rw2⟩ : ∃ u w, ia2 = u :: w ∧ RelV (.int d2) u ∧ Vals [.int l2, .ref c2] w := by cases ra2 with | cons h1 h2 => exact ⟨_, _, rfl, h1, h2⟩
  obtain ⟨v2, v3, rfl, q2, q3⟩ := vals2 rw2
  obtain ⟨t1, rfl⟩ := r1
  obtain ⟨t2, rfl⟩ := r2
  cases r3
  obtain ⟨t3, rfl⟩ := q1
  obtain ⟨t4, rfl⟩ := q2
  cases q3
  have hu1 : X.A.in1.units < cLine := by show X.A.units + 1 < _; omega
  have R : Ob.RcOp .Lt X.A s (.ref a) (.ref a2) (HT.lexLt (d :: l :: ns) (d2 :: l2 :: ms)) := by
    have h := Ob.RcOp.tuples_lt (A := X.A) (s := s) (e := fun j => match j with | 0 => decide (d = d2) | 1 => decide (l = l2) | _ => decide (ns = ms)) (r := fun j => match j with | 0 => decide (d < d2) | 1 => decide (l < l2) | _ => HT.lexLt ns ms) pa pa2 (by omega) (fun j h1 h2 => ?_) (fun j h1 h2 he => ?_)
    · have e : Ob.lexAt (fun j => match j with | 0 => decide (d = d2) | 1 => decide (l = l2) | _ => decide (ns = ms)) (fun j => match j with | 0 => decide (d < d2) | 1 => decide (l < l2) | _ => HT.lexLt ns ms) (decide ([Value.int d t1, .int l t2, .ref c].toArray.size < [Value.int d2 t3, .int l2 t4, .ref c2].toArray.size)) 0 (min [Value.int d t1, .int l t2, .ref c].toArray.size [Value.int d2 t3, .int l2 t4, .ref c2].toArray.size) = HT.lexLt (d :: l :: ns) (d2 :: l2 :: ms) := by
        show Ob.lexAt _ _ false 0 3 = _
        rw [Ob.lexAt_succ, Ob.lexAt_succ, Ob.lexAt_succ, Ob.lexAt_zero]
        rw [HT.lexLt_cons, HT.lexLt_cons]
        simp only [decide_eq_true_eq]
        split
        · split
          · split
            · rename_i h3
              subst h3
              have lexSelf : ∀ xs : List Int, HT.lexLt xs xs = false := fun xs => by
                induction xs with
                | nil => rfl
                | cons x xs ih => rw [HT.lexLt_cons, if_pos rfl, ih]
              exact (lexSelf _).symm
            · rfl
          · rfl
        · rfl
      rw [e] at h
      exact h
    · match j, h1, h2 with
      | 0, _, _ => exact (show (d == d2) = decide (d = d2) by rw [Bool.eq_iff_iff]; simp) ▸ EqAt.int_int d t1 d2 t3
      | 1, _, _ => exact (show (l == l2) = decide (l = l2) by rw [Bool.eq_iff_iff]; simp) ▸ EqAt.int_int l t2 l2 t4
      | 2, _, _ => exact eqAt_ints pc pc2 jc jc2 hu1
    · match j, h1, h2 with
      | 0, _, _ => exact Ob.RcOp.lt_int d d2 t1 t3
      | 1, _, _ => exact Ob.RcOp.lt_int l l2 t2 t4
      | 2, _, _ => exact fun prog w E Q h => HT.lt_tupInts pc pc2 (by simpa using jc) (by simpa using jc2) hu1 h
  exact R X.prog X.w _ _ ⟨.bl (HT.lexLt (d :: l :: ns) (d2 :: l2 :: ms)), H, I, rfl, q⟩
end GX
set_option Elab.async false
set_option linter.all false
set_option maxRecDepth 100000
set_option maxHeartbeats 4000000
/-! The choice of a gate: the least deep, then the shortest, then the first. -/
namespace GX
open PySem PySem.Spec PyProof.Rows L2
theorem lexN_irr : ∀ a : List Nat, lexN a a = false
  | [] => rfl
  | x :: a => by
    show (if ((x : Nat) : Int) = ((x : Nat) : Int) then lexN a a else _) = false
    rw [if_pos rfl, lexN_irr a]
theorem lexN_cons {x y : Nat} {a b : List Nat} : lexN (x :: a) (y :: b) = true ↔ x < y ∨ (x = y ∧ lexN a b = true) := by
  show (if ((x : Nat) : Int) = ((y : Nat) : Int) then lexN a b else decide (((x : Nat) : Int) < ((y : Nat) : Int))) = true ↔ _
  by_cases e : x = y
  · subst e
    rw [if_pos rfl]
    exact ⟨fun h => .inr ⟨rfl, h⟩, fun h => h.elim (fun z => absurd z (Nat.lt_irrefl _)) fun z => z.2⟩
  · rw [if_neg (by omega), decide_eq_true_iff]
    exact ⟨fun h => .inl (by omega), fun h => h.elim (fun z => by omega) fun z => absurd z.1 e⟩
theorem lexN_trans : ∀ {a b c : List Nat}, lexN a b = true → lexN b c = true → lexN a c = true
  | [], [], _, h, _ => by cases h
  | [], _ :: _, [], _, h => by cases h
  | [], _ :: _, _ :: _, _, _ => rfl
  | _ :: _, [], _, h, _ => by cases h
  | _ :: _, _ :: _, [], _, h => by cases h
  | x :: a, y :: b, z :: c, h1, h2 => by
    rw [lexN_cons] at h1 h2 ⊢
    rcases h1 with h1 | ⟨rfl, h1⟩
    · rcases h2 with h2 | ⟨rfl, h2⟩
      · exact .inl (Nat.lt_trans h1 h2)
      · exact .inl h1
    · rcases h2 with h2 | ⟨rfl, h2⟩
      · exact .inl h2
      · exact .inr ⟨rfl, lexN_trans h1 h2⟩
/-- the key of a cut by the depths ds -/
def keyN (ds c : List Nat) : List Nat := (1 + maxL (c.map fun x => ds.getD x 0)) :: c.length :: c
theorem keyN_inj {ds c c' : List Nat} (h : keyN ds c = keyN ds c') : c = c' := by injection (List.cons.inj h).2
structure Best (ds : List Nat) (cs : List (List Nat)) (c : List Nat) : Prop where
  mem : c ∈ cs
  low : ∀ c' ∈ cs, lexN (keyN ds c') (keyN ds c) = false
theorem Best.uniq {ds : List Nat} {cs : List (List Nat)} {c c' : List Nat} (h : Best ds cs c) (h' : Best ds cs c') : c = c' := keyN_inj (lex_tri _ _ (h'.low _ h.mem) (h.low _ h'.mem))
theorem Best.congr {ds : List Nat} {cs cs' : List (List Nat)} {c : List Nat} (h : Best ds cs c) (m : ∀ c, c ∈ cs ↔ c ∈ cs') : Best ds cs' c := ⟨(m c).mp h.mem, fun c' hc => h.low c' ((m c').mpr hc)⟩
/-- one more cut -/
theorem best_step {ds : List Nat} {cs : List (List Nat)} {c x : List Nat} (h : Best ds cs c) : Best ds (cs ++ [x]) (if lexN (keyN ds x) (keyN ds c) = true then x else c) := by
  by_cases e : lexN (keyN ds x) (keyN ds c) = true
  · rw [if_pos e]
    refine ⟨List.mem_append_right _ (List.mem_singleton.mpr rfl), fun c' hc => ?_⟩
    rcases List.mem_append.mp hc with hc | hc
    · have := h.low c' hc
      cases z : lexN (keyN ds c') (keyN ds x) with
      | false => rfl
      | true =>
        rw [lexN_trans z e] at this
        cases this
    · rw [List.mem_singleton.mp hc]
      exact lexN_irr _
  · rw [if_neg e]
    refine ⟨List.mem_append_left _ h.mem, fun c' hc => ?_⟩
    rcases List.mem_append.mp hc with hc | hc
    · exact h.low c' hc
    · rw [List.mem_singleton.mp hc]
      simpa using e
end GX
set_option Elab.async false
set_option linter.all false
set_option maxRecDepth 100000
set_option maxHeartbeats 4000000
/-! min(xs), xs a list of triples (int, int, tuple of ints). -/
namespace GX
open PySem PySem.Spec PyProof.Rows L2
section
variable {X : Cx} {pins : List (Addr × Obj)} {σ : L2.St} {H : Hp} {s : Shared}
theorem min_args0 (a : Value) : argsOk "min" { pos := [a], kw := [] } := by rfl
structure MinW0 (lt : R2) (Sq : Hp → Prop) (xs : List V) (Q : VK) (W : Nat → V → Hp → Prop) : Prop where
  at_ : ∀ j b H, W j b H → Sq H
  step : ∀ j b H x, W j b H → xs[j]? = some x → lt x b H fun r H2 => ∃ c, r = .bl c ∧ W (j + 1) (if c then x else b) H2
  done : ∀ b H, W xs.length b H → Q b H
theorem min_loop0 {lt : R2} {l IA SA : Addr} {xs : List V} {Sq : Hp → Prop} {It : Heap → Addr → Nat → Prop} {Q : VK} {W : Nat → V → Hp → Prop} (SK : SeqK X pins σ l xs Sq It) (hh : X.A.handled = none) (hlt : LtR X σ lt) (M : MinW0 lt Sq xs Q W)
    (hSI : SA ≠ IA) :
    ∀ (r j : Nat) (s : Shared) (H : Hp) (b : V) (ub : Value) (c : Nat), xs.length - j = r → j ≤ xs.length → Inv X pins σ H s → FpOk X pins H IA → FpOk X pins H SA → s.heap.get? SA = some (seqObj "list" #[ub, ub] c) → It s.heap IA j → RelV b ub → W j b H →
      codeAny (model X.prog X.w) X.A (.builtin "min.loop" ⟨[.ref IA, .none, .ref SA], []⟩) (fun r s' => ∃ v, r = .ok (.ret v) ∧ EP X pins σ Q v s') s := by
  have hname : (toString "min" ++ toString ".loop" : String) = "min.loop" := by decide
  intro r
  induction r with
  | zero =>
    intro j s H b ub c hr hj I fI fS gS hit rb w
    obtain rfl : j = xs.length := by omega
    refine codeAny_builtin PySem.F.entry_min_loop ?_
    rw [Around.under_plainId PySem.F.plain_min_loop _]
    show wpAny _ X.A.in1 (seqItems? (.ref SA) >>= _) _ _ _
    refine wpAny_bind (wpAny_seqItems gS rfl ?_)
    show wpAny _ X.A.in1 (tryCatch (pyNext (.ref IA)) _ >>= _) _ _ _
    refine wpAny_bind (wpAny_tryCatch (SK.done s H IA _ _ hh I (M.at_ _ _ _ w) hit fun h' tk' hk' => ?_))
    have gS' := hk' SA _ (by simpa using hSI) gS
    have k2 : ∀ b o, b ∉ [IA, SA] → s.heap.get? b = some o → (h'.update SA (Obj.mapSeq fun _ => (#[] : Array Value))).get? b = some o := fun b o hb e =>
      (Heap.get?_update_other _ _ (fun z => hb (by rw [z]; simp))).trans (hk' b o (fun z => hb (by rw [List.mem_singleton.mp z]; simp)) e)
    show wpAny _ X.A.in1 (updateSeq SA (fun _ => #[]) >>= _) _ _ _
    refine wpAny_bind ?_
    refine wpAny_updateSeq gS' rfl (wpAny_bind (wpAny_letGo (wpAny_pure ?_)))
    exact ⟨_, rfl, b, H, inv_raw (s := s) (t' := tk') I (ch := [IA, SA]) (fun b hb => by
      rcases List.mem_cons.mp hb with z | z
      · rw [z]; exact fI
      · rw [List.mem_singleton.mp z]; exact fS) k2, rb, M.done _ _ w⟩
  | succ r ih =>
    intro j s H b ub c hr hj I fI fS gS hit rb w
    have hlt' : j < xs.length := by omega
    refine codeAny_builtin PySem.F.entry_min_loop ?_
    rw [Around.under_plainId PySem.F.plain_min_loop _]
    show wpAny _ X.A.in1 (seqItems? (.ref SA) >>= _) _ _ _
    refine wpAny_bind (wpAny_seqItems gS rfl ?_)
    show wpAny _ X.A.in1 (tryCatch (pyNext (.ref IA)) _ >>= _) _ _ _
    obtain ⟨x, hx⟩ : ∃ x, xs[j]? = some x := ⟨_, List.getElem?_eq_getElem hlt'⟩
    refine wpAny_bind (wpAny_tryCatch (SK.item s H IA j x _ _ hh I (M.at_ _ _ _ w) hit hx fun v' h' tk' rx hst' hk' => ?_))
    obtain ⟨oI', hoI', nI, hoc⟩ := SK.obj hst'
    have gS1 := hk' SA _ (by simpa using hSI) gS
    have I1 : Inv X pins σ H { s with heap := h', toks := tk' } := inv_raw I (ch := [IA]) (fun b hb => by rw [List.mem_singleton.mp hb]; exact fI) fun b o hb e => hk' b o hb e
    have I2 := Inv.pin1 I1 fI hoI' nI
    have I3 := Inv.pin1 I2 (FpOk.add fS hSI.symm) gS1 (fun v z => by cases z)
    refine wpAny_bind (wpAny_pure ?_)
    show wpAny _ X.A.in1 (tryCatch (holding [v', v'] (richCompare .Lt v' ub >>= _)) _ >>= _) _ _ _
    refine wpAny_bind (wpAny_tryCatch (wpAny_holding (wpAny_bind (wpAny_mono (hlt _ _ _ x b v' ub _ I3 rx rb (M.step j b H x w hx)) (fun bv s3 ⟨rv', H3, I5, rr, q3⟩ => ?_) fun _ _ hF => hF.elim))))
    obtain ⟨cb, rfl, w'⟩ := q3
    obtain rfl : bv = .bool cb := rr
    refine wpAny_bind (wpAny_holding (wpAny_truthy_bool ?_))
    refine wpAny_bind (wpAny_letGo (wpAny_pure ?_))
    have pS := I5.pin (SA, seqObj "list" #[ub, ub] c) (List.mem_append_right _ List.mem_cons_self)
    have pI := I5.pin (IA, oI') (List.mem_append_right _ (List.mem_cons_of_mem _ List.mem_cons_self))
    have I6 := Inv.unpin1 (Inv.unpin1 I5)
    have fI6 : FpOk X pins H3 IA := FpOk.heap fI pI.2.1
    have fS6 : FpOk X pins H3 SA := FpOk.heap fS pS.2.1
    have hit3 : It s3.heap IA (j + 1) := hoc _ pI.1
    cases cb with
    | true =>
      obtain ⟨c2, hc2⟩ : ∃ c2, (s3.heap.update SA (Obj.mapSeq fun _ => #[v', v'])).get? SA = some (seqObj "list" #[v', v'] c2) := ⟨_, get?_update_seq pS.1 fun _ => #[v', v']⟩
      simp only [if_true] at w' ⊢
      have k3 : ∀ b o, b ∉ [SA] → s3.heap.get? b = some o → (s3.heap.update SA (Obj.mapSeq fun _ => #[v', v'])).get? b = some o := fun b o hb e =>
        (Heap.get?_update_other _ _ (fun z => hb (by rw [z]; simp))).trans e
      refine wpAny_bind ?_
      refine wpAny_updateSeq pS.1 rfl (wpAny_bind (wpAny_letGo ?_))
      rw [hname]
      refine wpAny_pure ⟨plainId_quiet PySem.F.plain_min_loop _, ih (j + 1) _ H3 x v' c2 (by omega) hlt' (inv_raw I6 (ch := [SA]) (fun b hb => by rw [List.mem_singleton.mp hb]; exact fS6) k3) fI6 fS6 hc2 (hoc _ (k3 _ _ (fun z => hSI (List.mem_singleton.mp z).symm) pI.1)) rx w'⟩
    | false =>
      simp only [Bool.false_eq_true, if_false] at w' ⊢
      refine wpAny_bind (wpAny_letGo ?_)
      rw [hname]
      exact wpAny_pure ⟨plainId_quiet PySem.F.plain_min_loop _, ih (j + 1) _ H3 b ub c (by omega) hlt' I6 fI6 fS6 pS.1 hit3 rb w'⟩
theorem min_run0 {E : Value → Shared → Prop} {lt : R2} {l : Addr} {xs : List V} {Sq : Hp → Prop} {It : Heap → Addr → Nat → Prop} {Q : VK} {W : Nat → V → Hp → Prop} {x0 : V} (SK : SeqK X pins σ l xs Sq It) (hh : X.A.handled = none) (hlt : LtR X σ lt) (M : MinW0 lt Sq xs Q W)
    (I : Inv X pins σ H s) (hs : Sq H) (hx : xs[0]? = some x0) (first : W 1 x0 H) :
    wpAny (model X.prog X.w) X.A (call (.builtin "min") [.ref l] []) (EP X pins σ Q) E s := by
  have hname : (toString "min" ++ toString ".loop" : String) = "min.loop" := by decide
  have hne : 0 < xs.length := (List.getElem?_eq_some_iff.mp hx).1
  refine kmk_tree PySem.F.kind_min PySem.F.plain_min PySem.F.entry_min (min_args0 _) ?_
  show wpAny _ X.A.in1 (Builtin.Builtins.bindParams "min" ["key", "default"] 0 ⟨[], []⟩ >>= _) _ _ s
  refine wpAny_bind (wpAny_of_eq (show Builtin.Builtins.bindParams "min" ["key", "default"] 0 ⟨[], []⟩ = pure [none, none] from rfl) ?_)
  refine wpAny_bind (wpAny_pure ?_)
  refine wpAny_bind (SK.start s H _ _ I hs fun oi hit0 => ?_)
  refine wpAny_bind (wpAny_newList ?_ (Nat.zero_le _))
  rw [hname]
  have hS : (s.heap.push oi).objs.size = s.heap.objs.size + 1 := size_push' ..
  have hSI : (s.heap.push oi).objs.size ≠ s.heap.objs.size := by rw [hS]; exact Nat.ne_of_gt (Nat.lt_succ_self _)
  refine wpAny_pure ⟨plainId_quiet PySem.F.plain_min_loop _, ?_⟩
  obtain ⟨o0, ho0, _, hk0⟩ := SK.obj hit0
  have hit : It ((s.heap.push oi).push (seqObj "list" #[] 0)) s.heap.objs.size 0 := hk0 _ (Heap.get?_push_of_some _ ho0)
  have gS : ((s.heap.push oi).push (seqObj "list" #[] 0)).get? (s.heap.push oi).objs.size = some (seqObj "list" #[] 0) := Heap.get?_push_size _ rfl
  have I0 : Inv X pins σ H { s with heap := (s.heap.push oi).push (seqObj "list" #[] 0), toks := s.toks } := I.kept (t' := s.toks) fun b o e => Heap.get?_push_of_some _ (Heap.get?_push_of_some _ e)
  have fI : FpOk X pins H s.heap.objs.size := I.fpOk (Nat.le_refl _) (I.hok.fresh (Nat.le_refl _))
  have fS : FpOk X pins H (s.heap.push oi).objs.size := I.fpOk (by rw [hS]; omega) (I.hok.fresh (by rw [hS]; omega))
  clear ho0 hk0 hit0 hS
  generalize (s.heap.push oi).objs.size = SA at hSI gS fS ⊢
  have I00 : Inv X pins σ H { s with heap := (s.heap.push oi).push (seqObj "list" #[] 0) } := I0
  generalize (s.heap.push oi).push (seqObj "list" #[] 0) = h0 at hit gS I00 ⊢
  clear I0
  generalize s.heap.objs.size = IA at hSI hit fI ⊢
  refine codeAny_builtin PySem.F.entry_min_loop ?_
  rw [Around.under_plainId PySem.F.plain_min_loop _]
  show wpAny _ X.A.in1 (seqItems? (.ref SA) >>= _) _ _ _
  refine wpAny_bind (wpAny_seqItems gS rfl ?_)
  show wpAny _ X.A.in1 (tryCatch (pyNext (.ref IA)) _ >>= _) _ _ _
  refine wpAny_bind (wpAny_tryCatch (SK.item { s with heap := h0 } H IA 0 x0 _ _ hh I00 hs hit hx fun v' h' tk' rx hst' hk' => ?_))
  obtain ⟨oI', hoI', nI, hoc⟩ := SK.obj hst'
  have gS1 := hk' SA _ (by simpa using hSI) gS
  have I1 : Inv X pins σ H { s with heap := h', toks := tk' } := inv_raw (s := { s with heap := h0 }) (t' := tk') I00 (ch := [IA]) (fun b hb => by rw [List.mem_singleton.mp hb]; exact fI) fun b o hb e => hk' b o hb e
  refine wpAny_bind (wpAny_pure ?_)
  obtain ⟨c2, hc2⟩ : ∃ c2, (h'.update SA (Obj.mapSeq fun _ => #[v', v'])).get? SA = some (seqObj "list" #[v', v'] c2) := ⟨_, get?_update_seq gS1 fun _ => #[v', v']⟩
  have k3 : ∀ b o, b ∉ [SA] → h'.get? b = some o → (h'.update SA (Obj.mapSeq fun _ => #[v', v'])).get? b = some o := fun b o hb e =>
    (Heap.get?_update_other _ _ (fun z => hb (by rw [z]; simp))).trans e
  show wpAny _ X.A.in1 (updateSeq SA (fun _ => #[v', v']) >>= _) _ _ _
  refine wpAny_bind ?_
  refine wpAny_updateSeq gS1 rfl ?_
  rw [hname]
  refine wpAny_pure ⟨plainId_quiet PySem.F.plain_min_loop _, codeAny_mono (min_loop0 SK hh hlt M hSI _ 1 _ H x0 v' c2 rfl hne (inv_raw I1 (ch := [SA]) (fun b hb => by rw [List.mem_singleton.mp hb]; exact fS) k3) fI fS hc2 (hoc _ (k3 _ _ (fun z => hSI (List.mem_singleton.mp z).symm) hoI')) rx first) fun r s' ⟨v, e, h⟩ => ?_⟩
  subst e
  exact h
/-- min of a list of triples -/
def rMinT (K : PySem.W.Frag) : List V → Hp → VK → Prop := fun vs H Q => ∃ (l : Addr) (xs : List V) (key : V → List Nat), vs = [.ref l] ∧ SqL K H l xs ∧ 0 < xs.length ∧ (∀ x ∈ xs, KeyAt K H x ((key x).map fun n : Nat => (n : Int))) ∧ ∀ x ∈ xs, (∀ y ∈ xs, lexN (key y) (key x) = false) → Q x H
theorem cr_minT {K : PySem.W.Frag} (hh : X.A.handled = none) (hu : (in1X X).A.units + 4 < cLine) (h : X.K = K := by rfl) : CallR X (.builtin "min") (rMinT K) := by
  subst h
  intro pins s σ H vs us Q I r hq
  obtain ⟨l, xs, key, rfl, hs, h0, hk, q⟩ := hq
  obtain rfl := Vals.ref1 r
  have hx0 : xs[0]? = some xs[0] := List.getElem?_eq_getElem h0
  refine min_run0 (W := fun j b H' => H' = H ∧ b ∈ xs ∧ (∀ y ∈ xs.take j, lexN (key y) (key b) = false)) (seqL (l := l) (xs := xs)) hh (ltR_of (op_ltK3 hu) σ) ⟨fun j b H' h => by rw [h.1]; exact hs, fun j b H' x hw hx => ?_, fun b H' h => ?_⟩ I hs hx0 ⟨rfl, List.getElem_mem h0, fun y hy => ?_⟩
  · obtain ⟨rfl, hb, low⟩ := hw
    have hxm := List.mem_of_getElem? hx
    refine ⟨_, _, hk x hxm, hk b hb, _, rfl, rfl, ?_⟩
    show (if lexN (key x) (key b) = true then x else b) ∈ xs ∧ _
    have et : xs.take (j + 1) = xs.take j ++ [x] := by rw [List.take_add_one, hx]; rfl
    show (if lexN (key x) (key b) = true then x else b) ∈ xs ∧ ∀ y ∈ xs.take (j + 1), lexN (key y) (key (if lexN (key x) (key b) = true then x else b)) = false
    rw [et]
    by_cases z : lexN (key x) (key b) = true
    · rw [if_pos z]
      refine ⟨hxm, fun y hy => ?_⟩
      rcases List.mem_append.mp hy with hy | hy
      · by_cases z2 : lexN (key y) (key x) = true
        · have := lexN_trans z2 z
          rw [low y hy] at this
          cases this
        · exact Bool.eq_false_iff.mpr z2
      · rw [List.mem_singleton.mp hy]
        exact lexN_irr _
    · rw [if_neg z]
      refine ⟨hb, fun y hy => ?_⟩
      rcases List.mem_append.mp hy with hy | hy
      · exact low y hy
      · rw [List.mem_singleton.mp hy]
        exact Bool.eq_false_iff.mpr z
  · obtain ⟨rfl, hb, low⟩ := h
    rw [List.take_length] at low
    exact q b hb low
  · have : xs.take 1 = [xs[0]] := by rw [List.take_add_one, hx0]; rfl
    rw [this] at hy
    rw [List.mem_singleton.mp hy]
    exact lexN_irr _
end
end GX
set_option Elab.async false
set_option linter.all false
set_option maxRecDepth 100000
set_option maxHeartbeats 4000000
/-! Cuts put together as tuples. -/
namespace GX
open PySem PySem.Spec PyProof.Rows L2
/-! ### a dict whose keys are tuples of numbers -/
def kvT (F : List (List Nat)) : List (List L2.Key × V) := F.map fun c => (c.map nK, V.bl true)
theorem kvT_len (F : List (List Nat)) : (kvT F).length = F.length := List.length_map _
theorem mapK_inj : ∀ {c d : List Nat}, c.map nK = d.map nK → c = d
  | [], [], _ => rfl
  | [], _ :: _, h => by cases h
  | _ :: _, [], h => by cases h
  | x :: c, y :: d, h => by
    obtain ⟨h1, h2⟩ := List.cons.inj h
    rw [nK_inj h1, mapK_inj h2]
theorem mapKV (c : List Nat) : (c.map nK).map kV = c.map nV := by
  rw [List.map_map]
  rfl
theorem kvT_any (F : List (List Nat)) (c : List Nat) : ((kvT F).any fun kv => decide (kv.1 = c.map nK)) = decide (c ∈ F) := by
  by_cases h : c ∈ F
  · rw [decide_eq_true h, List.any_eq_true]
    exact ⟨(c.map nK, .bl true), List.mem_map.mpr ⟨c, h, rfl⟩, decide_eq_true rfl⟩
  · rw [decide_eq_false h, List.any_eq_false]
    intro kv hkv e
    obtain ⟨d, hd, rfl⟩ := List.mem_map.mp hkv
    exact h (by rw [← mapK_inj (of_decide_eq_true e)]; exact hd)
theorem kvT_put {F : List (List Nat)} {c : List Nat} (h : c ∉ F) : putK (kvT F) (c.map nK) (.bl true) = kvT (F ++ [c]) := by
  unfold putK
  rw [kvT_any, decide_eq_false h, if_neg Bool.false_ne_true]
  unfold kvT
  rw [List.map_append]
  rfl
theorem kvT_again {F : List (List Nat)} {c : List Nat} (h : c ∈ F) : putK (kvT F) (c.map nK) (.bl true) = kvT F := by
  unfold putK
  rw [kvT_any, decide_eq_true h, if_pos rfl]
  conv => rhs; rw [← List.map_id (kvT F)]
  refine List.map_congr_left fun kv hkv => ?_
  obtain ⟨y, _, rfl⟩ := List.mem_map.mp hkv
  by_cases e : y.map nK = c.map nK
  · rw [if_pos e]; rfl
  · rw [if_neg e]; rfl
/-! ### masks of rising lists -/
theorem mask_inj {c d : List Nat} (hc : c.Pairwise (· < ·)) (hd : d.Pairwise (· < ·)) (h : maskOf c = maskOf d) : c = d := by rw [← bits_mask hc, ← bits_mask hd, h]
theorem mask_union {c f s : List Nat} (h : ∀ x, x ∈ c ↔ x ∈ f ++ s) : maskOf c = maskOf f ||| maskOf s := by
  apply Nat.eq_of_testBit_eq
  intro j
  rw [mask_bit, Nat.testBit_or, mask_bit, mask_bit, ← Bool.decide_or]
  refine decide_eq_decide.mpr ?_
  rw [h, List.mem_append]
theorem mask_pop {c : List Nat} (h : c.Pairwise (· < ·)) : pop (maskOf c) = c.length := by unfold pop; rw [bits_mask h]
theorem mask_sub {c d : List Nat} : Sub (maskOf c) (maskOf d) ↔ ∀ x ∈ c, x ∈ d := by
  constructor
  · intro h x hx
    have := h x (by rw [mask_bit]; exact decide_eq_true hx)
    rw [mask_bit] at this
    exact of_decide_eq_true this
  · intro h j hj
    rw [mask_bit] at hj ⊢
    exact decide_eq_true (h j (of_decide_eq_true hj))
theorem mask_pos {c : List Nat} (h : 0 < c.length) : 0 < maskOf c := Nat.pos_of_ne_zero fun z => by
  cases c with
  | nil => cases h
  | cons x r =>
    have : (maskOf (x :: r)).testBit x = true := by rw [mask_bit]; exact decide_eq_true List.mem_cons_self
    rw [z, Nat.zero_testBit] at this
    cases this
theorem mask_lt {c : List Nat} {m : Nat} (h : ∀ x ∈ c, x < m) : maskOf c < 2 ^ m := by
  induction c with
  | nil => exact Nat.two_pow_pos m
  | cons x r ih =>
    show 2 ^ x ||| maskOf r < 2 ^ m
    exact Nat.or_lt_two_pow (Nat.pow_lt_pow_right (by decide) (h x List.mem_cons_self)) (ih fun y hy => h y (List.mem_cons_of_mem _ hy))
/-! ### least ones, those of few wires first -/
def SubL (c d : List Nat) : Prop := ∀ x ∈ c, x ∈ d
def Minl (F : List (List Nat)) (c : List Nat) : Prop := ∀ c' ∈ F, SubL c' c → c' = c
theorem minl_ex {F : List (List Nat)} (rise : ∀ c ∈ F, c.Pairwise (· < ·)) : ∀ b c, c.length ≤ b → c ∈ F → ∃ m ∈ F, SubL m c ∧ Minl F m
  | b, c, hb, hc => by
    by_cases h : Minl F c
    · exact ⟨c, hc, fun x hx => hx, h⟩
    · obtain ⟨c', h1⟩ := Classical.not_forall.mp h
      obtain ⟨h2, h3⟩ := Classical.not_imp.mp h1
      obtain ⟨h4, h5⟩ := Classical.not_imp.mp h3
      have lt : c'.length < c.length := by
        have le := nodup_len ((rise c' h2).imp fun h => Nat.ne_of_lt h) h4
        refine Nat.lt_of_le_of_ne le fun e => h5 ?_
        have sub : ∀ x ∈ c, x ∈ c' := fun x hx => Classical.not_not.mp fun hn => by
          have nd : (x :: c').Nodup := List.nodup_cons.mpr ⟨hn, (rise c' h2).imp fun h => Nat.ne_of_lt h⟩
          have := nodup_len nd (ys := c) fun y hy => by
            rcases List.mem_cons.mp hy with e | e
            · rw [e]; exact hx
            · exact h4 y e
          rw [List.length_cons] at this
          omega
        exact rise_eq (rise c' h2) (rise c hc) fun z => ⟨h4 z, sub z⟩
      cases b with
      | zero => omega
      | succ b =>
        obtain ⟨m, m1, m2, m3⟩ := minl_ex rise b c' (by omega) h2
        exact ⟨m, m1, fun x hx => h4 x (m2 x hx), m3⟩
theorem subl_len {c d : List Nat} (hc : c.Pairwise (· < ·)) (hd : d.Pairwise (· < ·)) (h : SubL c d) (ne : c ≠ d) : c.length < d.length := by
  have le := nodup_len (hc.imp fun h => Nat.ne_of_lt h) h
  refine Nat.lt_of_le_of_ne le fun e => ne ?_
  have sub : ∀ x ∈ d, x ∈ c := fun x hx => Classical.not_not.mp fun hn => by
    have nd : (x :: c).Nodup := List.nodup_cons.mpr ⟨hn, hc.imp fun h => Nat.ne_of_lt h⟩
    have := nodup_len nd (ys := d) fun y hy => by
      rcases List.mem_cons.mp hy with e | e
      · rw [e]; exact hx
      · exact h y e
    rw [List.length_cons] at this
    omega
  exact rise_eq hc hd fun z => ⟨h z, sub z⟩
/-- what is kept so far: all least ones below a size, and the first few of it -/
structure KeptL (F : List (List Nat)) (s : Nat) (rows : List (List Nat)) (R : List (List Nat)) : Prop where
  nd : R.Nodup
  mem : ∀ c, c ∈ R ↔ ((c ∈ F ∧ c.length < s ∨ c ∈ rows) ∧ Minl F c)
theorem KeptL.test {F : List (List Nat)} (rise : ∀ c ∈ F, c.Pairwise (· < ·)) {s : Nat} {rows R : List (List Nat)} (h : KeptL F s rows R) {c : List Nat} (hc : c ∈ F) (hs : c.length = s) (hr : c ∉ rows) (hrf : ∀ c ∈ rows, c ∈ F) : (∀ m ∈ R, ¬ SubL m c) ↔ Minl F c := by
  constructor
  · intro a c' hc' hsub
    refine Classical.not_not.mp fun ne => ?_
    obtain ⟨m, m1, m2, m3⟩ := minl_ex rise _ c' (Nat.le_refl _) hc'
    have mc : SubL m c := fun x hx => hsub x (m2 x hx)
    have mne : m ≠ c := fun e => by
      have : SubL c c' := by rw [← e]; exact m2
      exact ne (rise_eq (rise c' hc') (rise c hc) fun z => ⟨hsub z, this z⟩)
    have := subl_len (rise m m1) (rise c hc) mc mne
    exact a m ((h.mem m).mpr ⟨.inl ⟨m1, by omega⟩, m3⟩) mc
  · intro hm m hmR hsub
    obtain ⟨h1, _⟩ := (h.mem m).mp hmR
    have mF : m ∈ F := h1.elim (fun z => z.1) (hrf m)
    have e := hm m mF hsub
    rw [e] at h1
    rcases h1 with z | z
    · omega
    · exact hr z
theorem KeptL.yes {F : List (List Nat)} {s : Nat} {rows R : List (List Nat)} (h : KeptL F s rows R) {c : List Nat} (hs : c.length = s) (hr : c ∉ rows) (hm : Minl F c) : KeptL F s (rows ++ [c]) (R ++ [c]) := by
  refine ⟨?_, fun d => ?_⟩
  · refine List.nodup_append.mpr ⟨h.nd, List.nodup_cons.mpr ⟨fun z => (by cases z), List.nodup_nil⟩, fun a ha b hb e => ?_⟩
    rw [List.mem_singleton.mp hb] at e
    rw [e] at ha
    rcases ((h.mem c).mp ha).1 with z | z
    · omega
    · exact hr z
  · rw [List.mem_append, h.mem, List.mem_append, List.mem_singleton]
    constructor
    · rintro (⟨h1, h2⟩ | rfl)
      · exact ⟨h1.imp id .inl, h2⟩
      · exact ⟨.inr (.inr rfl), hm⟩
    · rintro ⟨h1 | h1 | rfl, h2⟩
      · exact .inl ⟨.inl h1, h2⟩
      · exact .inl ⟨.inr h1, h2⟩
      · exact .inr rfl
theorem KeptL.no {F : List (List Nat)} {s : Nat} {rows R : List (List Nat)} (h : KeptL F s rows R) {c : List Nat} (hm : ¬ Minl F c) : KeptL F s (rows ++ [c]) R := by
  refine ⟨h.nd, fun d => ?_⟩
  rw [h.mem, List.mem_append, List.mem_singleton]
  constructor
  · rintro ⟨h1, h2⟩
    exact ⟨h1.imp id .inl, h2⟩
  · rintro ⟨h1 | h1 | rfl, h2⟩
    · exact ⟨.inl h1, h2⟩
    · exact ⟨.inr h1, h2⟩
    · exact absurd h2 hm
theorem KeptL.next {F : List (List Nat)} {s : Nat} {R : List (List Nat)} (h : KeptL F s (F.filter fun c => decide (c.length = s)) R) : KeptL F (s + 1) [] R := by
  refine ⟨h.nd, fun c => ?_⟩
  rw [h.mem]
  refine and_congr_left fun _ => ?_
  rw [List.mem_filter, decide_eq_true_iff]
  constructor
  · rintro (⟨h1, h2⟩ | ⟨h1, h2⟩)
    · exact .inl ⟨h1, by omega⟩
    · exact .inl ⟨h1, by omega⟩
  · rintro (⟨h1, h2⟩ | h1)
    · by_cases e : c.length = s
      · exact .inr ⟨h1, e⟩
      · exact .inl ⟨h1, by omega⟩
    · cases h1
/-- the least ones as masks -/
theorem kept_masks {F R : List (List Nat)} (rise : ∀ c ∈ F, c.Pairwise (· < ·)) (pos : ∀ c ∈ F, 0 < c.length) (hR : ∀ c, c ∈ R ↔ (c ∈ F ∧ Minl F c)) (M : Nat) : M ∈ R.map maskOf ↔ M ∈ (F.map maskOf).filter fun M => !hasPart (F.map maskOf) M := by
  have key : ∀ c ∈ F, (hasPart (F.map maskOf) (maskOf c) = true ↔ ¬ Minl F c) := fun c hc => by
    rw [hasPart_iff]
    constructor
    · rintro ⟨p, hp, p0, pne, ps⟩ hm
      obtain ⟨c', hc', rfl⟩ := List.mem_map.mp hp
      exact pne (by rw [hm c' hc' (mask_sub.mp ps)])
    · intro h
      obtain ⟨c', h1⟩ := Classical.not_forall.mp h
      obtain ⟨h2, h3⟩ := Classical.not_imp.mp h1
      obtain ⟨h4, h5⟩ := Classical.not_imp.mp h3
      exact ⟨maskOf c', List.mem_map.mpr ⟨c', h2, rfl⟩, mask_pos (pos c' h2), fun e => h5 (mask_inj (rise c' h2) (rise c hc) e), mask_sub.mpr h4⟩
  rw [List.mem_map, List.mem_filter, List.mem_map]
  constructor
  · rintro ⟨c, hc, rfl⟩
    obtain ⟨h1, h2⟩ := (hR c).mp hc
    refine ⟨⟨c, h1, rfl⟩, ?_⟩
    cases e : hasPart (F.map maskOf) (maskOf c) with
    | false => rfl
    | true => exact absurd h2 ((key c h1).mp e)
  · rintro ⟨⟨c, hc, rfl⟩, hb⟩
    refine ⟨c, (hR c).mpr ⟨hc, Classical.not_not.mp fun z => ?_⟩, rfl⟩
    rw [(key c hc).mpr z] at hb
    cases hb
/-! ### cuts of wires as masks -/
theorem cuts_ml {n : Net} (ok : n.Ok) {k g : Nat} {cs : List (List Nat)} (h : CutsAre n k g cs) : ML n k g (cs.map maskOf) := fun M => by
  rw [List.mem_map]
  constructor
  · rintro ⟨c, hc, rfl⟩
    exact bits_lc ((h.mem c).mp hc)
  · intro z
    exact ⟨bitsOf M, (h.mem _).mpr (lc_bits ok z), mask_bits M⟩
theorem cuts_input {n : Net} {k x : Nat} (h : x < n.many) : CutsAre n k x [] := ⟨fun c => ⟨fun z => (by cases z), fun z => by
  have := z.lt x ((sep_input h).mp z.sep)
  omega⟩, List.nodup_nil, .nil⟩
theorem mask_one (x : Nat) : maskOf [x] = 2 ^ x := by
  apply Nat.eq_of_testBit_eq
  intro j
  rw [mask_bit, Nat.testBit_two_pow]
  refine decide_eq_decide.mpr ?_
  rw [List.mem_singleton]
  exact ⟨fun e => e.symm, fun e => e.symm⟩
theorem cuts_full {n : Net} (ok : n.Ok) {k w : Nat} {cs : List (List Nat)} (hw : w < n.many + n.gates.length) (hk : 1 ≤ k) (h : CutsAre n k w cs) (M : Nat) : M ∈ ([w] :: cs).map maskOf ↔ (MinT n w M ∧ pop M ≤ k) := by
  rw [← (cuts_ml ok h).full ok hw hk M, List.map_cons, List.mem_cons, List.mem_append, List.mem_singleton, mask_one]
  exact Or.comm
/-- both places the same -/
theorem same_found {n : Net} (ok : n.Ok) {k g : Nat} {kk : Nat × Nat × Nat} {fs F : List Nat} (hg : n.many ≤ g) (hkk : n.gates[g - n.many]? = some kk) (he : kk.2.1 = kk.2.2)
    (hf : ∀ M, M ∈ fs ↔ (MinT n kk.2.1 M ∧ pop M ≤ k)) (hF : Found k fs [0] F) : ML n k g (F.filter fun M => !hasPart F M) := by
  have l1 := place_lt ok hg hkk (.inl rfl)
  have mF : ∀ M, M ∈ F ↔ (MinT n kk.2.1 M ∧ pop M ≤ k) := fun M => by
    rw [hF M]
    constructor
    · rintro ⟨f, h1, s, h2, h3, h4⟩
      rw [List.mem_singleton.mp h2, Nat.or_zero] at h3
      rw [h3]
      exact (hf f).mp h1
    · intro h
      exact ⟨M, (hf M).mpr h, 0, List.mem_cons_self, (Nat.or_zero M).symm, h.2⟩
  have tg : ∀ M, M.testBit g = false → (Tm n g M ↔ Tm n kk.2.1 M) := fun M hM => by
    have := sep_gate (st := bitsOf M) hg hkk (fun z => by rw [mem_bits, hM] at z; cases z)
    unfold Tm
    rw [this, ← he]
    exact ⟨fun z => z.1, fun z => ⟨z, z⟩⟩
  have sb : ∀ {f M : Nat}, Sub f M → M.testBit g = false → f.testBit g = false := fun {f M} h hM => by
    cases e : f.testBit g with
    | false => rfl
    | true => rw [h g e] at hM; cases hM
  intro M
  rw [List.mem_filter, mF]
  constructor
  · rintro ⟨⟨h1, h2⟩, _⟩
    have ng : M.testBit g = false := by
      cases e : M.testBit g with
      | false => rfl
      | true =>
        have := h1.low ok g e
        omega
    exact ⟨⟨(tg M ng).mpr h1.tl, fun f hf' ht => h1.min f hf' ((tg f (sb hf' ng)).mp ht)⟩, h2, ng⟩
  · rintro ⟨h1, h2, ng⟩
    have hm : MinT n kk.2.1 M := ⟨(tg M ng).mp h1.tl, fun f hf' ht => h1.min f hf' ((tg f (sb hf' ng)).mpr ht)⟩
    refine ⟨⟨hm, h2⟩, ?_⟩
    cases e : hasPart F M with
    | false => rfl
    | true =>
      obtain ⟨p, hp, _, pne, ps⟩ := hasPart_iff.mp e
      exact absurd (hm.min p ps ((mF p).mp hp).1.tl) pne
theorem dpTupsK (x : Nat) : kV (nK x) = nV x := rfl
end GX
set_option Elab.async false
set_option linter.all false
set_option maxRecDepth 100000
set_option maxHeartbeats 4000000
/-! All rising rows; what tells by what is held. -/
namespace GX
open PySem PySem.Spec PyProof.Rows L2
theorem det_sep {n : Net} {ws : List Nat} {w : Nat} (d : Det n ws w) : Sep n w ws := by
  induction d with
  | held h => exact sep_in h
  | @gate x k hm hk _ _ i1 i2 =>
    by_cases e : x ∈ ws
    · exact sep_in e
    · exact (sep_gate hm hk e).mpr ⟨i1, i2⟩
theorem det_iff {n : Net} (ok : n.Ok) {ws : List Nat} {w : Nat} (hw : w < n.many + n.gates.length) : Det n ws w ↔ Sep n w ws := ⟨det_sep, det_top ok hw⟩
theorem det_input {n : Net} {ws : List Nat} {w : Nat} (h : w < n.many) : Det n ws w ↔ w ∈ ws := ⟨fun d => by
  cases d with
  | held h => exact h
  | gate hm _ _ _ => omega, .held⟩
theorem det_gate {n : Net} {ws : List Nat} {w : Nat} {k : Nat × Nat × Nat} (hm : n.many ≤ w) (hk : n.gates[w - n.many]? = some k) : Det n ws w ↔ (w ∈ ws ∨ (Det n ws k.2.1 ∧ Det n ws k.2.2)) := by
  refine ⟨fun d => ?_, fun d => ?_⟩
  · cases d with
    | held h => exact .inl h
    | gate hm' hk' d1 d2 =>
      rw [hk] at hk'
      cases hk'
      exact .inr ⟨d1, d2⟩
  · rcases d with d | ⟨d1, d2⟩
    · exact .held d
    · exact .gate hm hk d1 d2
/-- where a row goes on -/
def begOf (r : List Nat) : Nat := if r = [] then 0 else r.getD (r.length - 1) 0 + 1
theorem begOf_snoc (r : List Nat) (x : Nat) : begOf (r ++ [x]) = x + 1 := by
  unfold begOf
  rw [if_neg (by simp), List.length_append, List.getD_eq_getElem?_getD]
  show ((r ++ [x])[r.length + 1 - 1]?).getD 0 + 1 = _
  rw [Nat.add_sub_cancel, List.getElem?_append_right (Nat.le_refl _), Nat.sub_self]
  rfl
def extR (m : Nat) (r : List Nat) : List (List Nat) := (List.range (m - begOf r)).map fun i => r ++ [begOf r + i]
def rowsK (m : Nat) : Nat → List (List Nat)
  | 0 => [[]]
  | j + 1 => (rowsK m j).flatMap (extR m)
def setsK (m : Nat) : Nat → List (List Nat)
  | 0 => []
  | j + 1 => setsK m j ++ rowsK m (j + 1)
theorem mem_extR {m : Nat} {r c : List Nat} : c ∈ extR m r ↔ ∃ x, begOf r ≤ x ∧ x < m ∧ c = r ++ [x] := by
  unfold extR
  rw [List.mem_map]
  constructor
  · rintro ⟨i, hi, rfl⟩
    have := List.mem_range.mp hi
    exact ⟨_, by omega, by omega, rfl⟩
  · rintro ⟨x, h1, h2, rfl⟩
    exact ⟨x - begOf r, List.mem_range.mpr (by omega), by rw [show begOf r + (x - begOf r) = x by omega]⟩
theorem lt_begOf {r : List Nat} (h : r.Pairwise (· < ·)) : ∀ y ∈ r, y < begOf r := fun y hy => by
  rcases List.eq_nil_or_concat r with e | ⟨q, x, e⟩
  · rw [e] at hy; cases hy
  · have e' : r = q ++ [x] := by rw [e, List.concat_eq_append]
    subst e'
    rw [begOf_snoc]
    rcases List.mem_append.mp hy with h1 | h1
    · have := (List.pairwise_append.mp h).2.2 y h1 x List.mem_cons_self
      omega
    · rw [List.mem_singleton.mp h1]
      omega
theorem rowsK_mem {m : Nat} : ∀ j c, c ∈ rowsK m j ↔ (c.Pairwise (· < ·) ∧ (∀ x ∈ c, x < m) ∧ c.length = j)
  | 0, c => by
    unfold rowsK
    rw [List.mem_singleton]
    constructor
    · rintro rfl
      exact ⟨.nil, fun x hx => (by cases hx), rfl⟩
    · rintro ⟨_, _, h⟩
      exact List.length_eq_zero_iff.mp h
  | j + 1, c => by
    unfold rowsK
    rw [List.mem_flatMap]
    constructor
    · rintro ⟨r, hr, hc⟩
      obtain ⟨h1, h2, h3⟩ := (rowsK_mem j r).mp hr
      obtain ⟨x, x1, x2, rfl⟩ := mem_extR.mp hc
      refine ⟨List.pairwise_append.mpr ⟨h1, List.pairwise_singleton _ _, fun y hy z hz => ?_⟩, fun y hy => ?_, by rw [List.length_append, h3]; rfl⟩
      · rw [List.mem_singleton.mp hz]
        have := lt_begOf h1 y hy
        omega
      · rcases List.mem_append.mp hy with h | h
        · exact h2 y h
        · rw [List.mem_singleton.mp h]; exact x2
    · rintro ⟨h1, h2, h3⟩
      rcases List.eq_nil_or_concat c with e | ⟨q, x, e⟩
      · rw [e] at h3; cases h3
      · have e' : c = q ++ [x] := by rw [e, List.concat_eq_append]
        subst e'
        obtain ⟨p1, p2, p3⟩ := List.pairwise_append.mp h1
        refine ⟨q, (rowsK_mem j q).mpr ⟨p1, fun y hy => h2 y (List.mem_append.mpr (.inl hy)), by rw [List.length_append] at h3; exact Nat.succ.inj h3⟩, mem_extR.mpr ⟨x, ?_, h2 x (List.mem_append.mpr (.inr List.mem_cons_self)), rfl⟩⟩
        unfold begOf
        split
        · exact Nat.zero_le _
        · next hne =>
          have : q.getD (q.length - 1) 0 ∈ q := getD_mem (by have := List.length_pos_iff.mpr hne; omega)
          exact p3 _ this x List.mem_cons_self
theorem setsK_mem {m : Nat} : ∀ j c, c ∈ setsK m j ↔ (c.Pairwise (· < ·) ∧ (∀ x ∈ c, x < m) ∧ 1 ≤ c.length ∧ c.length ≤ j)
  | 0, c => by
    unfold setsK
    constructor
    · intro h; cases h
    · rintro ⟨_, _, h1, h2⟩; omega
  | j + 1, c => by
    unfold setsK
    rw [List.mem_append, setsK_mem j c, rowsK_mem (j + 1) c]
    constructor
    · rintro (⟨h1, h2, h3, h4⟩ | ⟨h1, h2, h3⟩)
      · exact ⟨h1, h2, h3, by omega⟩
      · exact ⟨h1, h2, by omega, by omega⟩
    · rintro ⟨h1, h2, h3, h4⟩
      by_cases e : c.length = j + 1
      · exact .inr ⟨h1, h2, e⟩
      · exact .inl ⟨h1, h2, h3, by omega⟩
theorem flatMap_le {f : List Nat → List (List Nat)} {b : Nat} (h : ∀ r, (f r).length ≤ b) : ∀ l : List (List Nat), (l.flatMap f).length ≤ l.length * b
  | [] => by simp
  | r :: l => by
    rw [List.flatMap_cons, List.length_append, List.length_cons, Nat.succ_mul]
    have := flatMap_le h l
    have := h r
    omega
theorem extR_len (m : Nat) (r : List Nat) : (extR m r).length ≤ m := by
  unfold extR
  rw [List.length_map, List.length_range]
  omega
theorem rowsK_len (m : Nat) : ∀ j, (rowsK m j).length ≤ m ^ j
  | 0 => by unfold rowsK; exact Nat.le_refl _
  | j + 1 => by
    unfold rowsK
    refine Nat.le_trans (flatMap_le (extR_len m) _) ?_
    rw [Nat.pow_succ]
    exact Nat.mul_le_mul_right _ (rowsK_len m j)
theorem setsK_len {m : Nat} (hm : 1 ≤ m) : ∀ j, (setsK m j).length ≤ j * m ^ j
  | 0 => by unfold setsK; exact Nat.le_refl _
  | j + 1 => by
    unfold setsK
    rw [List.length_append]
    have h1 := setsK_len hm j
    have h2 := rowsK_len m (j + 1)
    have h3 : m ^ j ≤ m ^ (j + 1) := Nat.pow_le_pow_right hm (Nat.le_succ j)
    have h4 : j * m ^ j ≤ j * m ^ (j + 1) := Nat.mul_le_mul_left _ h3
    rw [Nat.succ_mul]
    omega
theorem flatMap_take {l : List (List Nat)} {f : List Nat → List (List Nat)} {i : Nat} {r : List Nat} (h : l[i]? = some r) : (l.take (i + 1)).flatMap f = (l.take i).flatMap f ++ f r := by
  rw [List.take_add_one, h, Option.toList_some, List.flatMap_append]
  simp
/-- a least depth over all sets that tell -/
structure DueTo (n : Net) (k : Nat) (ds : List Nat) : Prop where
  low : ∀ x, x < n.many → x < ds.length → ds.getD x 0 = 0
  at_ : ∀ g, n.many ≤ g → g < ds.length → (∃ c, (c ∈ setsK g k ∧ Sep n g c) ∧ ds.getD g 0 = 1 + maxL (c.map fun x => ds.getD x 0)) ∧ ∀ c, (c ∈ setsK g k ∧ Sep n g c) → ds.getD g 0 ≤ 1 + maxL (c.map fun x => ds.getD x 0)
end GX
set_option Elab.async false
set_option linter.all false
set_option maxRecDepth 100000
set_option maxHeartbeats 4000000
/-! len of a set of whole numbers. -/
namespace GX
open PySem PySem.Spec PyProof.Rows L2
def rLenSet (w : World) : List V → Hp → VK → Prop := fun vs H Q => ∃ (a : Addr) (S : Int → Bool) (n : Nat), vs = [V.ref a] ∧ H a = some (SetO w a S n) ∧ n < 64 ∧ ∀ ks : List Int, ks.Nodup → (∀ k : Int, k ∈ ks ↔ S k = true) → ks.length = n → Q (.int (n : Nat)) H
theorem cr_lenSet {X : Cx} : CallR X (.builtin "len") (rLenSet X.w) := by
  intro pins s σ H vs us Q I r h
  obtain ⟨a, S, n, rfl, ha, h64, q⟩ := h
  obtain ⟨o, es, ep, t, ho, hex, hd, g, nd, hm, hb, hf, hn, hr, hl⟩ := setO_get I ha
  rw [Vals.ref1 r]
  refine call_len_set ho hex hd hf (by rw [hn] <;> omega) ⟨.int (n : Nat), H, I.tok _, ⟨_, by rw [hn]⟩, q (es.toList.map keyOf) nd (fun k => (hm k).symm) (by rw [List.length_map, Array.length_toList, hn])⟩
theorem nodup_by_len : ∀ (ns ks : List Int), ks.Nodup → (∀ k, k ∈ ks ↔ k ∈ ns) → ks.length = ns.length → ns.Nodup
  | [], _, _, _, _ => List.nodup_nil
  | x :: r, ks, nd, hm, hl => by
    have hx : x ∉ r := fun z => by
      have := nd.length_le_of_subset (l₂ := r) fun k hk => by
        rcases List.mem_cons.mp ((hm k).mp hk) with h | h
        · rw [h]; exact z
        · exact h
      rw [hl, List.length_cons] at this
      omega
    have hk : x ∈ ks := (hm x).mpr List.mem_cons_self
    refine List.nodup_cons.mpr ⟨hx, nodup_by_len r (ks.erase x) (nd.erase x) (fun k => ?_) ?_⟩
    · rw [nd.mem_erase_iff, hm, List.mem_cons]
      constructor
      · rintro ⟨h1, h2 | h2⟩
        · exact absurd h2 h1
        · exact h2
      · intro h
        exact ⟨fun z => hx (by rw [← z]; exact h), .inr h⟩
    · rw [List.length_erase_of_mem hk, hl, List.length_cons]
      rfl
theorem nodup_cast {ns : List Nat} (h : (ns.map fun n : Nat => (n : Int)).Nodup) : ns.Nodup := by
  rw [List.nodup_iff_pairwise_ne] at h ⊢
  rw [List.pairwise_map] at h
  exact h.imp fun h e => h (by rw [e])
end GX
set_option Elab.async false
set_option linter.all false
set_option maxRecDepth 100000
set_option maxHeartbeats 4000000
/-! Likenesses: steps, pairs, what is shown. -/
theorem L2.Room.units65 {k : Nat} {A : PySem.Around} (r : L2.Room k A) : A.units + 65 < PySem.cLine := by have := r.un; omega
namespace GX
open PySem PySem.Spec PyProof.Rows L2
theorem op_ltTK {X : Cx} {K : PySem.W.Frag} (hu : X.A.units < cLine) (h : X.K = K := by rfl) : OpR X (compareOp .Lt) (rLtT K) := by subst h; exact op_ltT hu
abbrev IP := Int × Int
def pV (x : IP) : List V := [.int x.1, .int x.2]
structure Stp where
  a : Int
  b : Int
  ps : List IP
def PsAt (H : Hp) (p : Addr) (xs : List IP) : Prop := ∃ qs : List Addr, H p = some (.tup (qs.map V.ref)) ∧ RefsAt pV H qs xs
def StAt (H : Hp) (p : Addr) (s : Stp) : Prop := ∃ q, H p = some (.tup [.int s.a, .int s.b, .ref q]) ∧ PsAt H q s.ps
def LkAt (H : Hp) (p : Addr) (ss : List Stp) : Prop := ∃ qs : List Addr, H p = some (.tup (qs.map V.ref)) ∧ PtsAt StAt H qs ss
def Tups (H H' : Hp) : Prop := ∀ b xs, H b = some (.tup xs) → H' b = some (.tup xs)
theorem Tups.refl (H : Hp) : Tups H H := fun _ _ e => e
theorem Tups.trans {H1 H2 H3 : Hp} (a : Tups H1 H2) (b : Tups H2 H3) : Tups H1 H3 := fun _ _ e => b _ _ (a _ _ e)
theorem Tups.same {H H' : Hp} (s : Same H H') : Tups H H' := fun _ _ e => s _ _ e
theorem PsAt.mono {H H' : Hp} {p : Addr} {xs : List IP} (k : Tups H H') (x : PsAt H p xs) : PsAt H' p xs := by
  obtain ⟨qs, h1, h2⟩ := x
  exact ⟨qs, k _ _ h1, h2.mono k⟩
theorem StAt.mono {H H' : Hp} (k : Tups H H') (p : Addr) (s : Stp) (x : StAt H p s) : StAt H' p s := by
  obtain ⟨q, h1, h2⟩ := x
  exact ⟨q, k _ _ h1, h2.mono k⟩
theorem LkAt.mono {H H' : Hp} {p : Addr} {ss : List Stp} (k : Tups H H') (x : LkAt H p ss) : LkAt H' p ss := by
  obtain ⟨qs, h1, h2⟩ := x
  exact ⟨qs, k _ _ h1, h2.mono (StAt.mono k)⟩
/-! ### what is asked -/
def IsPr (n m : Net) (x : IP) : Prop := (0 ≤ x.1 ∧ x.1 < ((n.many + n.gates.length : Nat) : Int)) ∧ (0 ≤ x.2 ∧ x.2 < ((m.many + m.gates.length : Nat) : Int))
def SameI (n : Net) (x : IP) : Prop := x.1 = x.2 ∧ x.1 < ((n.many : Nat) : Int)
def Shn (n : Net) (S : List IP) (x : IP) : Prop := SameI n x ∨ x ∈ S
def fsts (xs : List IP) : List Nat := xs.map fun x => x.1.toNat
def snds (xs : List IP) : List Nat := xs.map fun x => x.2.toNat
structure PrsOk (n m : Net) (xs : List IP) : Prop where
  l1 : 1 ≤ xs.length
  l8 : xs.length ≤ 8
  each : ∀ x ∈ xs, IsPr n m x
  rise : (fsts xs).Pairwise (· < ·)
  nod : (snds xs).Nodup
structure StpOk (n m : Net) (S : List IP) (s : Stp) : Prop where
  pr : IsPr n m (s.a, s.b)
  ps : PrsOk n m s.ps
  shn : ∀ x ∈ s.ps, Shn n S x
  tl1 : Sep n s.a.toNat (fsts s.ps)
  tl2 : Sep m s.b.toNat (snds s.ps)
  ct : contOf n (fsts s.ps) s.a.toNat = contOf m (snds s.ps) s.b.toNat
def outPs (n m : Net) : List IP := (n.outs.zip m.outs).map fun x => (((x.1 : Nat) : Int), ((x.2 : Nat) : Int))
def key (s : Stp) : IP := (s.a, s.b)
def Hlds (n m : Net) : List IP → List Stp → Prop
  | S, [] => ∀ x ∈ outPs n m, Shn n S x
  | S, s :: r => StpOk n m S s ∧ Hlds n m (S ++ [key s]) r
def LkOk (n m : Net) (ss : List Stp) : Prop := ss.length ≤ 60 ∧ Hlds n m [] ss
theorem Hlds.at_ {n m : Net} {S : List IP} {ss : List Stp} {i : Nat} {s : Stp} (e : ss[i]? = some s) : Hlds n m S (ss.drop i) ↔ (StpOk n m S s ∧ Hlds n m (S ++ [key s]) (ss.drop (i + 1))) := by
  have hi := (List.getElem?_eq_some_iff.mp e).1
  have hs : ss[i] = s := (List.getElem?_eq_some_iff.mp e).2
  rw [List.drop_eq_getElem_cons hi, hs]
  exact Iff.rfl
theorem Shn.congr {n : Net} {S S' : List IP} (h : ∀ x, x ∈ S ↔ x ∈ S') (x : IP) : Shn n S x ↔ Shn n S' x := by
  unfold Shn
  rw [h]
/-! ### whole numbers -/
theorem fsts_cast {n m : Net} {xs : List IP} (h : ∀ x ∈ xs, IsPr n m x) : (xs.map fun x => V.int x.1) = (fsts xs).map nV := by
  unfold fsts
  rw [List.map_map]
  refine List.map_congr_left fun x hx => ?_
  show V.int x.1 = V.int ((x.1.toNat : Nat) : Int)
  rw [Int.toNat_of_nonneg (h x hx).1.1]
theorem snds_cast {n m : Net} {xs : List IP} (h : ∀ x ∈ xs, IsPr n m x) : (xs.map fun x => V.int x.2) = (snds xs).map nV := by
  unfold snds
  rw [List.map_map]
  refine List.map_congr_left fun x hx => ?_
  show V.int x.2 = V.int ((x.2.toNat : Nat) : Int)
  rw [Int.toNat_of_nonneg (h x hx).2.1]
theorem fsts_len (xs : List IP) : (fsts xs).length = xs.length := List.length_map _
theorem snds_len (xs : List IP) : (snds xs).length = xs.length := List.length_map _
/-! ### rising pairs -/
def LexUp (xs : List IP) : Prop := ∀ i x y, xs[i]? = some x → xs[i + 1]? = some y → HT.lexLt [x.1, x.2] [y.1, y.2] = true
theorem lex2 (x y : IP) : HT.lexLt [x.1, x.2] [y.1, y.2] = true ↔ (x.1 < y.1 ∨ (x.1 = y.1 ∧ x.2 < y.2)) := by
  show (if x.1 = y.1 then (if x.2 = y.2 then false else decide (x.2 < y.2)) else decide (x.1 < y.1)) = true ↔ _
  by_cases h : x.1 = y.1
  · rw [if_pos h]
    by_cases h2 : x.2 = y.2
    · rw [if_pos h2]
      constructor
      · intro z; cases z
      · rintro (z | ⟨_, z⟩) <;> omega
    · rw [if_neg h2, decide_eq_true_iff]
      constructor
      · intro z; exact .inr ⟨h, z⟩
      · rintro (z | ⟨_, z⟩)
        · omega
        · exact z
  · rw [if_neg h, decide_eq_true_iff]
    constructor
    · exact .inl
    · rintro (z | ⟨z, _⟩)
      · exact z
      · exact absurd z h
theorem pair_up : ∀ (xs : List Nat), (∀ i, i + 1 < xs.length → xs.getD i 0 < xs.getD (i + 1) 0) → xs.Pairwise (· < ·)
  | [], _ => List.Pairwise.nil
  | [x], _ => List.pairwise_singleton _ _
  | x :: y :: r, h => by
    have ih := pair_up (y :: r) fun i hi => h (i + 1) (by rw [List.length_cons]; omega)
    refine List.pairwise_cons.mpr ⟨fun z hz => ?_, ih⟩
    have h0 : x < y := h 0 (by simp)
    rcases List.mem_cons.mp hz with e | e
    · rw [e]; exact h0
    · exact Nat.lt_trans h0 ((List.pairwise_cons.mp ih).1 z e)
theorem up_iff {n m : Net} {xs : List IP} (h : ∀ x ∈ xs, IsPr n m x) : (LexUp xs ∧ (fsts xs).Nodup) ↔ (fsts xs).Pairwise (· < ·) := by
  constructor
  · rintro ⟨h1, h2⟩
    refine pair_up _ fun i hi => ?_
    rw [fsts_len] at hi
    have e1 := List.getElem?_eq_getElem (l := xs) (i := i) (by omega)
    have e2 := List.getElem?_eq_getElem (l := xs) (i := i + 1) hi
    have lx := (lex2 _ _).mp (h1 i _ _ e1 e2)
    have g1 : (fsts xs).getD i 0 = xs[i].1.toNat := by
      unfold fsts
      rw [List.getD_eq_getElem?_getD, List.getElem?_map, e1]; rfl
    have g2 : (fsts xs).getD (i + 1) 0 = xs[i + 1].1.toNat := by
      unfold fsts
      rw [List.getD_eq_getElem?_getD, List.getElem?_map, e2]; rfl
    have ne : (fsts xs).getD i 0 ≠ (fsts xs).getD (i + 1) 0 := fun z => by
      rw [List.getD_eq_getElem?_getD, List.getElem?_eq_getElem (by rw [fsts_len]; omega), List.getD_eq_getElem?_getD, List.getElem?_eq_getElem (by rw [fsts_len]; omega)] at z
      have := (List.getElem_inj (h₀ := by rw [fsts_len]; omega) (h₁ := by rw [fsts_len]; omega) h2).mp z
      omega
    have p1 := (h _ (List.mem_of_getElem? e1)).1
    have p2 := (h _ (List.mem_of_getElem? e2)).1
    rw [g1, g2] at ne ⊢
    omega
  · intro h1
    refine ⟨fun i x y e1 e2 => (lex2 x y).mpr (.inl ?_), h1.imp fun z => Nat.ne_of_lt z⟩
    have hi := (List.getElem?_eq_some_iff.mp e2).1
    have lt := List.pairwise_iff_getElem.mp h1 i (i + 1) (by rw [fsts_len]; omega) (by rw [fsts_len]; exact hi) (by omega)
    have g1 : (fsts xs)[i]? = some x.1.toNat := by unfold fsts; rw [List.getElem?_map, e1]; rfl
    have g2 : (fsts xs)[i + 1]? = some y.1.toNat := by unfold fsts; rw [List.getElem?_map, e2]; rfl
    rw [(List.getElem?_eq_some_iff.mp g1).2, (List.getElem?_eq_some_iff.mp g2).2] at lt
    have p1 := (h _ (List.mem_of_getElem? e1)).1
    have p2 := (h _ (List.mem_of_getElem? e2)).1
    omega
/-! ### pairs in a list -/
def pD (x : IP) : PyData := .tuple [.int x.1, .int x.2]
theorem dp_pair {K : PySem.W.Frag} {H : Hp} {p : Addr} {x : IP} (h : H p = some (.tup (pV x))) : Dp K H (.ref p) (pD x) := .tup (SqT.of h) (.cons (.int _) (.cons (.int _) .nil))
theorem pD_shaped (x : IP) : SeqAt.shaped (pD x) = true := rfl
theorem pD_can : ∀ xs : List IP, PyData.canLayAll0 (xs.map pD) = true ∧ PyData.depthAll (xs.map pD) ≤ 1
  | [] => ⟨rfl, Nat.zero_le _⟩
  | c :: r => by
    obtain ⟨h1, h2⟩ := pD_can r
    refine ⟨?_, ?_⟩
    · show (PyData.canLay0 (pD c) && PyData.canLayAll0 (r.map pD)) = true
      rw [h1]
      rfl
    · show max (PyData.depth (pD c)) (PyData.depthAll (r.map pD)) ≤ 1
      have : PyData.depth (pD c) = 1 := rfl
      omega
theorem pDs_shaped (xs : List IP) : SeqAt.shaped (.list (xs.map pD)) = true := by
  obtain ⟨h1, h2⟩ := pD_can xs
  show (PyData.canLayAll0 (xs.map pD) && decide (PyData.depthAll (xs.map pD) + 1 ≤ 64)) = true
  rw [h1, decide_eq_true (by omega)]
  rfl
theorem dp_pairs {K : PySem.W.Frag} {H : Hp} : ∀ {qs : List Addr} {xs : List IP}, RefsAt pV H qs xs → DpAll K H (qs.map V.ref) (xs.map pD)
  | [], xs, x => by
    have : xs = [] := List.length_eq_zero_iff.mp x.1.symm
    subst this
    exact .nil
  | q :: qs, xs, x => by
    cases xs with
    | nil => cases x.1
    | cons y r => exact .cons (dp_pair (x.2 0 q y rfl rfl)) (dp_pairs ⟨Nat.succ.inj x.1, fun i p z e1 e2 => x.2 (i + 1) p z e1 e2⟩)
theorem pD_eqv (x y : IP) : PyData.eqv (pD x) (pD y) = decide (x = y) := by
  show (((x.1 : Int) == y.1) && (((x.2 : Int) == y.2) && true)) = _
  obtain ⟨x1, x2⟩ := x
  obtain ⟨y1, y2⟩ := y
  by_cases h1 : x1 = y1
  · by_cases h2 : x2 = y2
    · subst h1; subst h2
      rw [decide_eq_true rfl]
      simp
    · rw [decide_eq_false (fun z => h2 (Prod.mk.inj z).2)]
      simp [h2]
  · rw [decide_eq_false (fun z => h1 (Prod.mk.inj z).1)]
    simp [h1]
theorem any_pD (xs : List IP) (x : IP) : ((xs.map pD).any fun z => PyData.eqv z (pD x)) = decide (x ∈ xs) := by
  by_cases h : x ∈ xs
  · rw [decide_eq_true h, List.any_eq_true]
    exact ⟨pD x, List.mem_map.mpr ⟨x, h, rfl⟩, by rw [pD_eqv, decide_eq_true rfl]⟩
  · rw [decide_eq_false h, List.any_eq_false]
    intro z hz e
    obtain ⟨y, hy, rfl⟩ := List.mem_map.mp hz
    rw [pD_eqv] at e
    exact h (by rw [← of_decide_eq_true e]; exact hy)
/-! ### the dict of what is shown -/
def pK (x : IP) : List L2.Key := [.inl x.1, .inl x.2]
theorem pK_inj {x y : IP} (h : pK x = pK y) : x = y := by
  obtain ⟨h1, h2⟩ := List.cons.inj h
  obtain ⟨h3, _⟩ := List.cons.inj h2
  exact Prod.ext (Sum.inl.inj h1) (Sum.inl.inj h3)
theorem pKV (x : IP) : (pK x).map kV = pV x := rfl
structure ShD (H : Hp) (d : Addr) (S : List IP) (kvs : List (List L2.Key × V)) : Prop where
  at_ : H d = some (.dT kvs)
  len : kvs.length ≤ S.length
  iff : ∀ x, (valV kvs (pK x)).isSome = true ↔ x ∈ S
theorem ShD.put {H : Hp} {d : Addr} {S : List IP} {kvs : List (List L2.Key × V)} {x : IP} (h : ShD H d S kvs) : ShD (upd H d (.dT (putK kvs (pK x) (.bl true)))) d (S ++ [x]) (putK kvs (pK x) (.bl true)) := by
  refine ⟨upd_same, ?_, fun y => ?_⟩
  · have := length_putK kvs (pK x) (.bl true)
    have := h.len
    rw [List.length_append]
    show _ ≤ _ + 1
    omega
  · rw [valV_put, List.mem_append, List.mem_singleton]
    by_cases e : y = x
    · rw [if_pos (by rw [e])]
      exact ⟨fun _ => .inr e, fun _ => rfl⟩
    · rw [if_neg (fun z => e (pK_inj z)), h.iff]
      exact ⟨.inl, fun z => z.resolve_right e⟩
end GX
set_option Elab.async false
set_option linter.all false
set_option maxRecDepth 100000
set_option maxHeartbeats 4000000
namespace GX
open PySem PySem.Spec PyProof.Rows L2
def natsD (xs : List Nat) : List PyData := (xs.map fun n : Nat => (n : Int)).map PyData.int
theorem ints_can : ∀ xs : List Int, PyData.canLayAll0 (xs.map PyData.int) = true ∧ PyData.depthAll (xs.map PyData.int) ≤ 0
  | [] => ⟨rfl, Nat.zero_le _⟩
  | c :: r => by
    obtain ⟨h1, h2⟩ := ints_can r
    refine ⟨?_, ?_⟩
    · show (PyData.canLay0 (.int c) && PyData.canLayAll0 (r.map PyData.int)) = true
      rw [h1]
      rfl
    · show max (PyData.depth (.int c)) (PyData.depthAll (r.map PyData.int)) ≤ 0
      have : PyData.depth (.int c) = 0 := rfl
      omega
theorem natsD_tup (xs : List Nat) : SeqAt.shaped (.tuple (natsD xs)) = true := shaped_tup (ints_can _).1 (ints_can _).2 (by decide)
theorem natsD_lst (xs : List Nat) : SeqAt.shaped (.list (natsD xs)) = true := PySem.W.ke_shaped_ints _
theorem natsD_eqv : ∀ xs ys : List Nat, PyData.eqvAll (natsD xs) (natsD ys) = decide (xs = ys)
  | [], [] => rfl
  | [], _ :: _ => rfl
  | _ :: _, [] => rfl
  | x :: xs, y :: ys => by
    show (((x : Int) == (y : Int)) && PyData.eqvAll (natsD xs) (natsD ys)) = _
    rw [natsD_eqv xs ys]
    by_cases h : x = y
    · subst h
      rw [beq_self_eq_true, Bool.true_and]
      exact decide_eq_decide.mpr ⟨fun z => by rw [z], fun z => (List.cons.inj z).2⟩
    · rw [beq_false_of_ne (fun z => h (Int.ofNat_inj.mp z)), Bool.false_and]
      exact (decide_eq_false (fun z => h (List.cons.inj z).1)).symm
theorem natsD_eqT (xs ys : List Nat) : PyData.eqv (.tuple (natsD xs)) (.tuple (natsD ys)) = decide (xs = ys) := natsD_eqv xs ys
theorem natsD_eqL (xs ys : List Nat) : PyData.eqv (.list (natsD xs)) (.list (natsD ys)) = decide (xs = ys) := natsD_eqv xs ys
theorem dp_natT {K : PySem.W.Frag} {H : Hp} {p : Addr} {xs : List Nat} (h : H p = some (.tup (xs.map nV))) : Dp K H (.ref p) (.tuple (natsD xs)) := .tup (SqT.of h) (dpNat K H xs)
theorem dp_natL {K : PySem.W.Frag} {H : Hp} {p : Addr} {xs : List Nat} (h : H p = some (.lst (xs.map nV))) : Dp K H (.ref p) (.list (natsD xs)) := .lst (SqL.of h) (dpNat K H xs)
theorem Aft.dT {Ts : List Addr} {H H' : Hp} (a : Aft Ts H H') (t : Tabs Ts H) {b : Addr} {kvs : List (List L2.Key × V)} (e : H b = some (.dT kvs)) : H' b = some (.dT kvs) := a.kp b _ e (t.nott e fun _ z => by cases z)
theorem ShD.aft {Ts : List Addr} {H H' : Hp} {d : Addr} {S : List IP} {kvs : List (List L2.Key × V)} (h : ShD H d S kvs) (a : Aft Ts H H') (t : Tabs Ts H) : ShD H' d S kvs := ⟨a.dT t h.at_, h.len, h.iff⟩
theorem ShD.same {H H' : Hp} {d : Addr} {S : List IP} {kvs : List (List L2.Key × V)} (h : ShD H d S kvs) (s : Same H H') : ShD H' d S kvs := ⟨s _ _ h.at_, h.len, h.iff⟩
theorem Aft.tups {Ts : List Addr} {H H' : Hp} (a : Aft Ts H H') (t : Tabs Ts H) : Tups H H' := fun _ _ e => a.tup t e
theorem Aft.putN {Ts : List Addr} {H H' : Hp} {l : Addr} {o : HO} (a : Aft Ts H H') (t : Tabs Ts H) (n : H l = none) : Aft Ts H (L2.upd H' l o) := ⟨fun b u e nb => by rw [upd_ne (ne_of_none e n)]; exact a.kp b u e nb, a.tb.upd (t.none n)⟩
theorem outPs_at {n m : Net} {i : Nat} (h1 : i < n.outs.length) (h2 : i < m.outs.length) : (outPs n m)[i]? = some (((n.outs.getD i 0 : Nat) : Int), ((m.outs.getD i 0 : Nat) : Int)) := by
  unfold outPs
  rw [List.getElem?_map, List.getElem?_eq_getElem (by rw [List.length_zip]; omega), List.getElem_zip, List.getD_eq_getElem?_getD, List.getElem?_eq_getElem h1, List.getD_eq_getElem?_getD, List.getElem?_eq_getElem h2]
  rfl
theorem outPs_len (n m : Net) : (outPs n m).length = min n.outs.length m.outs.length := by unfold outPs; rw [List.length_map, List.length_zip]
theorem PrsOk.nd {n m : Net} {xs : List IP} (h : PrsOk n m xs) : (fsts xs).Nodup := h.rise.imp fun z => Nat.ne_of_lt z
end GX
set_option Elab.async false
set_option linter.all false
set_option maxRecDepth 100000
set_option maxHeartbeats 4000000
/-! min(xs), xs a list of tuples of ints. -/
namespace GX
open PySem PySem.Spec PyProof.Rows L2
section
variable {X : Cx} {pins : List (Addr × Obj)} {σ : L2.St} {H : Hp} {s : Shared}
/-- min of a list of tuples -/
def rMinU (K : PySem.W.Frag) : List V → Hp → VK → Prop := fun vs H Q => ∃ (l : Addr) (xs : List V) (key : V → List Nat), vs = [.ref l] ∧ SqL K H l xs ∧ 0 < xs.length ∧ (∀ x ∈ xs, ∃ p, x = .ref p ∧ SqT K H p ((key x).map nV)) ∧ ∀ x ∈ xs, (∀ y ∈ xs, lexN (key y) (key x) = false) → Q x H
theorem cr_minU {K : PySem.W.Frag} (hh : X.A.handled = none) (hu : (in1X X).A.units + 4 < cLine) (h : X.K = K := by rfl) : CallR X (.builtin "min") (rMinU K) := by
  subst h
  intro pins s σ H vs us Q I r hq
  obtain ⟨l, xs, key, rfl, hs, h0, hk, q⟩ := hq
  obtain rfl := Vals.ref1 r
  have hx0 : xs[0]? = some xs[0] := List.getElem?_eq_getElem h0
  refine min_run0 (W := fun j b H' => H' = H ∧ b ∈ xs ∧ (∀ y ∈ xs.take j, lexN (key y) (key b) = false)) (seqL (l := l) (xs := xs)) hh (ltR_of (op_ltTK (Nat.lt_of_le_of_lt (Nat.le_add_right _ _) hu)) σ) ⟨fun j b H' h => by rw [h.1]; exact hs, fun j b H' x hw hx => ?_, fun b H' h => ?_⟩ I hs hx0 ⟨rfl, List.getElem_mem h0, fun y hy => ?_⟩
  · obtain ⟨rfl, hb, low⟩ := hw
    have hxm := List.mem_of_getElem? hx
    obtain ⟨p1, ep1, h1⟩ := hk x hxm
    obtain ⟨p2, ep2, h2⟩ := hk b hb
    refine ⟨p1, p2, (key x).map fun n : Nat => (n : Int), (key b).map fun n : Nat => (n : Int), ep1, ep2, (by rw [mapV]; exact h1), (by rw [mapV]; exact h2), _, rfl, rfl, ?_⟩
    show (if lexN (key x) (key b) = true then x else b) ∈ xs ∧ _
    have et : xs.take (j + 1) = xs.take j ++ [x] := by rw [List.take_add_one, hx]; rfl
    show (if lexN (key x) (key b) = true then x else b) ∈ xs ∧ ∀ y ∈ xs.take (j + 1), lexN (key y) (key (if lexN (key x) (key b) = true then x else b)) = false
    rw [et]
    by_cases z : lexN (key x) (key b) = true
    · rw [if_pos z]
      refine ⟨hxm, fun y hy => ?_⟩
      rcases List.mem_append.mp hy with hy | hy
      · by_cases z2 : lexN (key y) (key x) = true
        · have := lexN_trans z2 z
          rw [low y hy] at this
          cases this
        · exact Bool.eq_false_iff.mpr z2
      · rw [List.mem_singleton.mp hy]
        exact lexN_irr _
    · rw [if_neg z]
      refine ⟨hb, fun y hy => ?_⟩
      rcases List.mem_append.mp hy with hy | hy
      · exact low y hy
      · rw [List.mem_singleton.mp hy]
        exact Bool.eq_false_iff.mpr z
  · obtain ⟨rfl, hb, low⟩ := h
    rw [List.take_length] at low
    exact q b hb low
  · have : xs.take 1 = [xs[0]] := by rw [List.take_add_one, hx0]; rfl
    rw [this] at hy
    rw [List.mem_singleton.mp hy]
    exact lexN_irr _
end
end GX
set_option Elab.async false
set_option linter.all false
set_option maxRecDepth 100000
set_option maxHeartbeats 4000000
/-! max(xs, default=None), min(xs, default=None) of a list of ints. -/
namespace GX
open PySem PySem.Spec PyProof.Rows L2
def besV : Option (Nat × Value) → Array Value
  | none => #[]
  | some (_, v) => #[v, v]
theorem args_maxD (a d : Value) : argsOk "max" ⟨[a], [(Str.ofString "default", d)]⟩ := by unfold argsOk; kernel_rfl
section
variable {prog : Program} {w : World} {A : Around} {R : Result → Shared → Prop} {I : Addr} {fp wr : List Addr} {n : Nat} {P : Nat → Value → Prop} {St : Nat → Heap → Prop}
theorem maxD_loop (W : Walks prog w A.in1 I fp wr n P St) (num : Nat → Int) (hcmp : CmpOf prog w A.in1 .Gt P fun i j => decide (num i > num j)) (S : Addr) (hSf : S ∉ fp) (d : Value) :
    ∀ (k i : Nat) (s : Shared) (o : Option (Nat × Value)) (c : Nat), n - i = k → i ≤ n → St i s.heap → (∀ b v, o = some (b, v) → P b v ∧ b < i ∧ ∀ j, j < i → num j ≤ num b) → (o = none → i = 0) →
    s.heap.get? S = some { cls := .type "list", dict := none, data := .seq (besV o) c, slots := #[] } →
    (∀ h' tk, n = 0 → (∀ b o, b ∉ wr → b ≠ S → s.heap.get? b = some o → h'.get? b = some o) → R (.ok (.ret d)) { s with heap := h', toks := tk }) →
    (∀ b v h' tk, P b v → b < n → (∀ j, j < n → num j ≤ num b) → (∀ b o, b ∉ wr → b ≠ S → s.heap.get? b = some o → h'.get? b = some o) → R (.ok (.ret v)) { s with heap := h', toks := tk }) →
    codeAny (model prog w) A (.builtin "max.loop" ⟨[.ref I, .none, .ref S], [(Str.ofString "default", d)]⟩) R s := by
  have hSw : S ∉ wr := fun h => hSf (W.sub _ h)
  have hname : (toString "max" ++ toString ".loop" : String) = "max.loop" := by decide
  intro k
  induction k with
  | zero =>
    intro i s o c hk hi hst hb ho hS q0 q1
    have hin : i = n := by omega
    subst hin
    refine codeAny_builtin PySem.F.entry_max_loop ?_
    rw [Around.under_plainId PySem.F.plain_max_loop _]
    show wpAny _ A.in1 (seqItems? (.ref S) >>= _) _ _ s
    refine wpAny_bind (wpAny_seqItems hS rfl ?_)
    show wpAny _ A.in1 (tryCatch (pyNext (.ref I)) _ >>= _) _ _ s
    refine wpAny_bind (wpAny_tryCatch (W.done s _ _ hst fun h' tk hk' => ?_))
    have hS' := hk' S _ hSw hS
    cases o with
    | none =>
      refine wpAny_bind (wpAny_rule ?_)
      exact wpAny_pure (q0 h' tk (ho rfl) fun b o hbw _ e => hk' b o hbw e)
    | some bv =>
      obtain ⟨b, v⟩ := bv
      obtain ⟨p1, p2, p3⟩ := hb b v rfl
      have hS' : h'.get? S = some { cls := .type "list", dict := none, data := .seq #[v, v] c, slots := #[] } := hS'
      show wpAny _ A.in1 (updateSeq S (fun _ => #[]) >>= _) _ _ _
      refine wpAny_bind ?_
      refine wpAny_updateSeq hS' rfl (wpAny_bind (wpAny_letGo (wpAny_pure ?_)))
      exact q1 b v _ tk p1 p2 p3 fun b o hbw hbS e => (Heap.get?_update_other _ _ (Ne.symm hbS)).trans (hk' b o hbw e)
  | succ k ih =>
    intro i s o c hk hi hst hb ho hS q0 q1
    have hlt : i < n := by omega
    refine codeAny_builtin PySem.F.entry_max_loop ?_
    rw [Around.under_plainId PySem.F.plain_max_loop _]
    show wpAny _ A.in1 (seqItems? (.ref S) >>= _) _ _ s
    refine wpAny_bind (wpAny_seqItems hS rfl ?_)
    show wpAny _ A.in1 (tryCatch (pyNext (.ref I)) _ >>= _) _ _ s
    refine wpAny_bind (wpAny_tryCatch (W.item i s _ _ hlt hst fun v h' tk hP hst' hk' => ?_))
    have hS' := hk' S _ hSw hS
    have upS : ∀ (f : Array Value → Array Value) b o', b ∉ wr → b ≠ S → s.heap.get? b = some o' → (h'.update S (Obj.mapSeq f)).get? b = some o' := fun f b o' hbw hbS e => (Heap.get?_update_other _ _ (Ne.symm hbS)).trans (hk' b o' hbw e)
    have frS : ∀ f : Array Value → Array Value, St (i + 1) (h'.update S (Obj.mapSeq f)) := fun f => W.frame _ _ _ hst' fun b hbf o' e => (Heap.get?_update_other _ _ (fun h : S = b => hSf (by rw [h]; exact hbf))).trans e
    cases o with
    | none =>
      obtain rfl := ho rfl
      show wpAny _ A.in1 (updateSeq S (fun _ => #[v, v]) >>= _) _ _ _
      refine wpAny_bind ?_
      refine wpAny_updateSeq hS' rfl ?_
      rw [hname]
      refine wpAny_pure ⟨plainId_quiet PySem.F.plain_max_loop _, ih 1 _ (some (0, v)) _ (by omega) hlt (frS _) (fun b u e => ?_) (fun z => by cases z) (Heap.get?_update_self _ hS' rfl) (fun h'' tk'' z _ => absurd z (by omega)) fun b u h'' tk'' p1 p2 p3 hk'' => q1 b u h'' tk'' p1 p2 p3 fun b o' hbw hbS e => hk'' b o' hbw hbS (upS _ b o' hbw hbS e)⟩
      cases e
      refine ⟨hP, Nat.zero_lt_one, fun j hj => ?_⟩
      obtain rfl : j = 0 := by omega
      exact Int.le_refl _
    | some bv =>
      obtain ⟨b, vb⟩ := bv
      obtain ⟨p1, p2, p3⟩ := hb b vb rfl
      have hS' : h'.get? S = some { cls := .type "list", dict := none, data := .seq #[vb, vb] c, slots := #[] } := hS'
      show wpAny _ A.in1 (tryCatch (holding [v, v] (richCompare .Gt v vb >>= _)) _ >>= _) _ _ _
      refine wpAny_bind (wpAny_tryCatch (wpAny_holding (wpAny_bind (hcmp i b v vb _ _ _ hP p1 ?_))))
      refine wpAny_bind (wpAny_holding (wpAny_truthy_bool ?_))
      refine wpAny_bind (wpAny_letGo (wpAny_pure ?_))
      by_cases hg : num i > num b
      · rw [if_pos (show (fun i j => decide (num i > num j)) i b = true from decide_eq_true hg)]
        refine wpAny_bind ?_
        refine wpAny_updateSeq hS' rfl (wpAny_bind (wpAny_letGo ?_))
        rw [hname]
        refine wpAny_pure ⟨plainId_quiet PySem.F.plain_max_loop _, ih (i + 1) _ (some (i, v)) _ (by omega) hlt (frS _) (fun b u e => ?_) (fun z => by cases z) (Heap.get?_update_self _ hS' rfl) (fun h'' tk'' z _ => absurd z (by omega)) fun b u h'' tk'' p1 p2 p3 hk'' => q1 b u h'' tk'' p1 p2 p3 fun b o' hbw hbS e => hk'' b o' hbw hbS (upS _ b o' hbw hbS e)⟩
        cases e
        refine ⟨hP, Nat.lt_succ_self _, fun j hj => ?_⟩
        rcases Nat.lt_succ_iff_lt_or_eq.mp hj with h | h
        · have := p3 j h
          omega
        · rw [h]
          exact Int.le_refl _
      · rw [if_neg (show ¬ (fun i j => decide (num i > num j)) i b = true from fun z => hg (of_decide_eq_true z))]
        refine wpAny_bind (wpAny_letGo ?_)
        rw [hname]
        refine wpAny_pure ⟨plainId_quiet PySem.F.plain_max_loop _, ih (i + 1) _ (some (b, vb)) c (by omega) hlt hst' (fun b' u e => ?_) (fun z => by cases z) hS' (fun h'' tk'' z _ => absurd z (by omega)) fun b u h'' tk'' p1 p2 p3 hk'' => q1 b u h'' tk'' p1 p2 p3 fun b o' hbw hbS e => hk'' b o' hbw hbS (hk' b o' hbw e)⟩
        cases e
        refine ⟨p1, by omega, fun j hj => ?_⟩
        rcases Nat.lt_succ_iff_lt_or_eq.mp hj with h | h
        · exact p3 j h
        · rw [h]
          omega
end
section
variable {prog : Program} {w : World} {A : Around} {E : Value → Shared → Prop} {s : Shared} {l : Addr} {its : List Value} {ns : List Int} {Q : Value → Shared → Prop}
theorem maxD_raw (hh : A.handled = none) (hl : s.heap.IsList l its.toArray) (hi : IntsAre its ns) (d : Value)
    (h0 : ∀ h' tk, ns = [] → (∀ b o, s.heap.get? b = some o → h'.get? b = some o) → Q d { s with heap := h', toks := tk })
    (h : ∀ h' tk M t', (∀ b o, s.heap.get? b = some o → h'.get? b = some o) → M ∈ ns → (∀ a, a ∈ ns → a ≤ M) → Q (.int M t') { s with heap := h', toks := tk }) : wpAny (model prog w) A (call (.builtin "max") [.ref l] [(Str.ofString "default", d)]) Q E s := by
  obtain ⟨xs, e⟩ := hi.allInts.items
  have hn : numsOf (intItems xs).toList = ns := by rw [← e]; exact hi.numsOf
  rw [nums_intItems] at hn
  subst hn
  rw [e] at hl
  have hname : (toString "max" ++ toString ".loop" : String) = "max.loop" := by decide
  refine kmk_tree PySem.F.kind_max PySem.F.plain_max PySem.F.entry_max (args_maxD _ _) ?_
  show wpAny _ A.in1 (Builtin.Builtins.bindParams "max" ["key", "default"] 0 ⟨[], [(Str.ofString "default", d)]⟩ >>= _) _ _ s
  refine wpAny_bind (wpAny_of_eq (show Builtin.Builtins.bindParams "max" ["key", "default"] 0 ⟨[], [(Str.ofString "default", d)]⟩ = pure [none, some d] from rfl) ?_)
  refine wpAny_bind (wpAny_pure ?_)
  refine wpAny_bind (PySem.iter_intList hl fun s₂ e2 st hfp hlI => ?_)
  refine wpAny_bind (wpAny_newObj_type ?_)
  subst e2
  have W := Walks.list (prog := prog) (w := w) (A := A.in1) hh _ l hlI (intItems xs)
  rw [hname]
  have old : ∀ {h' : Heap} {hp : Heap} {I : Addr}, I = s.heap.objs.size → (∀ b o, b ∉ [I] → b ≠ hp.objs.size → (hp.push { cls := .type "list", data := .seq #[] }).get? b = some o → h'.get? b = some o) → (∀ b o, s.heap.get? b = some o → hp.get? b = some o) → ∀ b o, s.heap.get? b = some o → h'.get? b = some o := fun hI hk hp b o e => by
    refine hk b o (fun z => ?_) (fun z => ?_) (Heap.get?_push_of_some _ (hp b o e))
    · rw [List.mem_singleton.mp z, hI] at e
      exact absurd (Heap.lt_size e) (Nat.lt_irrefl _)
    · have := Heap.lt_size (hp b o e)
      rw [z] at this
      exact absurd this (Nat.lt_irrefl _)
  refine wpAny_pure ⟨plainId_quiet PySem.F.plain_max_loop _, maxD_loop W (numAt xs) (CmpOf.ints_gt (numAt xs) (fun _ _ => intItems_at)) _ (fun hm => Nat.lt_irrefl _ (hfp _ hm)) d _ 0 _ none _ rfl (Nat.zero_le _) (W.frame _ _ _ st fun b _ o e => Heap.get?_push_of_some _ e) (fun b v z => by cases z) (fun _ => rfl) (Heap.get?_push_size _ rfl) (fun h' tk hz hk => ?_) (fun b v h' tk hv hbn hle hk => ?_)⟩
  · refine h0 h' tk ?_ (old rfl hk fun b o e => Heap.get?_push_of_some _ e)
    have : xs.size = 0 := by simpa [intItems] using hz
    rw [Array.eq_empty_of_size_eq_zero this]
    rfl
  · obtain ⟨t, rfl⟩ := intItems_at hv
    have hbn : b < xs.size := by simpa [intItems] using hbn
    refine h h' tk _ t (old rfl hk fun b o e => Heap.get?_push_of_some _ e) ?_ fun a ha => ?_
    · rw [numAt_eq]; exact PySem.getD_mem (by rw [List.length_map, Array.length_toList]; omega)
    · obtain ⟨j, hj, rfl⟩ := PySem.mem_getD ha
      rw [List.length_map, Array.length_toList] at hj
      rw [← numAt_eq]; exact hle j (by simpa [intItems] using hj)
end
section
variable {X : Cx}
/-- max(xs, default=None) of a list of ints -/
def rmaxD (K : PySem.W.Frag) : List V → Hp → VK → Prop := fun vs H Q => ∃ (a : Addr) (ns : List Int), vs = [V.ref a] ∧ SqL K H a (ns.map V.int) ∧ (ns = [] → Q .non H) ∧ ∀ m, m ∈ ns → (∀ y, y ∈ ns → y ≤ m) → Q (.int m) H
theorem pe_maxD {K : PySem.W.Frag} {e : Expr} {kpos p1 cp pos : Pos} {ck : Nat} {ta : TE} (hh : X.A.handled = none) (hgl : Gl X "max") (hm : X.mg "max" = none) (ha : PA X [e] (tCons ta tNil)) (hK : X.K = K := by rfl)
    (he : backTo pos (starEach [e] X.env) = (false, eval e X.env) :: backTo pos (starEach [] X.env) := by rfl) (hpl : (backTo pos (starEach [e] X.env)).any (·.1) = false := by rfl) :
    PE X (.Call (.Name "max" p1) [e] [⟨some (Str.ofString "default"), .Constant .none ck cp, kpos⟩] pos) (tCB (rmaxD K) (tCons ta tNil)) := by
  subst hK
  refine ⟨fun pins s σ H Q I h => ?_⟩
  refine wpAny_Call_Name_kw (ld_blt I hgl hm (show bootBuiltins "max" = some (.builtin "max") by decide +kernel) ?_)
  refine PyProof.Rows.callWith_kw (thn (ha.run pos pins s σ H _ I h) fun us s1 ⟨vs, H1, I1, r1, q1⟩ => ?_) he hpl
  obtain ⟨l, ns, rfl, hs, q0, q1⟩ := q1
  obtain rfl := Vals.ref1 r1
  obtain ⟨its, rv, hl, _⟩ := I1.list hs
  show wpAny _ _ (evalAll [(do let v ← eval (.Constant .none ck cp) X.env; standAt pos; pure v)]) _ _ s1
  refine wpAny_evalAll_cons (wpAny_bind ?_)
  refine wpAny_of_eq (show eval (.Constant .none ck cp) X.env = pure .none from rfl) ?_
  refine wpAny_bind (wpAny_standAt (wpAny_pure (wpAny_evalAll_nil ?_)))
  exact maxD_raw hh hl.isList rv.ints .none (fun h' tk e hk => ⟨.non, H1, I1.kept hk, rfl, q0 e⟩) fun h' tk m t' hk h1 h2 => ⟨.int _, H1, I1.kept hk, ⟨_, rfl⟩, q1 m h1 h2⟩
end
theorem args_minD (a d : Value) : argsOk "min" ⟨[a], [(Str.ofString "default", d)]⟩ := by unfold argsOk; kernel_rfl
section
variable {prog : Program} {w : World} {A : Around} {R : Result → Shared → Prop} {I : Addr} {fp wr : List Addr} {n : Nat} {P : Nat → Value → Prop} {St : Nat → Heap → Prop}
theorem minD_loop (W : Walks prog w A.in1 I fp wr n P St) (num : Nat → Int) (hcmp : CmpOf prog w A.in1 .Lt P fun i j => decide (num i < num j)) (S : Addr) (hSf : S ∉ fp) (d : Value) :
    ∀ (k i : Nat) (s : Shared) (o : Option (Nat × Value)) (c : Nat), n - i = k → i ≤ n → St i s.heap → (∀ b v, o = some (b, v) → P b v ∧ b < i ∧ ∀ j, j < i → num b ≤ num j) → (o = none → i = 0) →
    s.heap.get? S = some { cls := .type "list", dict := none, data := .seq (besV o) c, slots := #[] } →
    (∀ h' tk, n = 0 → (∀ b o, b ∉ wr → b ≠ S → s.heap.get? b = some o → h'.get? b = some o) → R (.ok (.ret d)) { s with heap := h', toks := tk }) →
    (∀ b v h' tk, P b v → b < n → (∀ j, j < n → num b ≤ num j) → (∀ b o, b ∉ wr → b ≠ S → s.heap.get? b = some o → h'.get? b = some o) → R (.ok (.ret v)) { s with heap := h', toks := tk }) →
    codeAny (model prog w) A (.builtin "min.loop" ⟨[.ref I, .none, .ref S], [(Str.ofString "default", d)]⟩) R s := by
  have hSw : S ∉ wr := fun h => hSf (W.sub _ h)
  have hname : (toString "min" ++ toString ".loop" : String) = "min.loop" := by decide
  intro k
  induction k with
  | zero =>
    intro i s o c hk hi hst hb ho hS q0 q1
    have hin : i = n := by omega
    subst hin
    refine codeAny_builtin PySem.F.entry_min_loop ?_
    rw [Around.under_plainId PySem.F.plain_min_loop _]
    show wpAny _ A.in1 (seqItems? (.ref S) >>= _) _ _ s
    refine wpAny_bind (wpAny_seqItems hS rfl ?_)
    show wpAny _ A.in1 (tryCatch (pyNext (.ref I)) _ >>= _) _ _ s
    refine wpAny_bind (wpAny_tryCatch (W.done s _ _ hst fun h' tk hk' => ?_))
    have hS' := hk' S _ hSw hS
    cases o with
    | none =>
      refine wpAny_bind (wpAny_rule ?_)
      exact wpAny_pure (q0 h' tk (ho rfl) fun b o hbw _ e => hk' b o hbw e)
    | some bv =>
      obtain ⟨b, v⟩ := bv
      obtain ⟨p1, p2, p3⟩ := hb b v rfl
      have hS' : h'.get? S = some { cls := .type "list", dict := none, data := .seq #[v, v] c, slots := #[] } := hS'
      show wpAny _ A.in1 (updateSeq S (fun _ => #[]) >>= _) _ _ _
      refine wpAny_bind ?_
      refine wpAny_updateSeq hS' rfl (wpAny_bind (wpAny_letGo (wpAny_pure ?_)))
      exact q1 b v _ tk p1 p2 p3 fun b o hbw hbS e => (Heap.get?_update_other _ _ (Ne.symm hbS)).trans (hk' b o hbw e)
  | succ k ih =>
    intro i s o c hk hi hst hb ho hS q0 q1
    have hlt : i < n := by omega
    refine codeAny_builtin PySem.F.entry_min_loop ?_
    rw [Around.under_plainId PySem.F.plain_min_loop _]
    show wpAny _ A.in1 (seqItems? (.ref S) >>= _) _ _ s
    refine wpAny_bind (wpAny_seqItems hS rfl ?_)
    show wpAny _ A.in1 (tryCatch (pyNext (.ref I)) _ >>= _) _ _ s
    refine wpAny_bind (wpAny_tryCatch (W.item i s _ _ hlt hst fun v h' tk hP hst' hk' => ?_))
    have hS' := hk' S _ hSw hS
    have upS : ∀ (f : Array Value → Array Value) b o', b ∉ wr → b ≠ S → s.heap.get? b = some o' → (h'.update S (Obj.mapSeq f)).get? b = some o' := fun f b o' hbw hbS e => (Heap.get?_update_other _ _ (Ne.symm hbS)).trans (hk' b o' hbw e)
    have frS : ∀ f : Array Value → Array Value, St (i + 1) (h'.update S (Obj.mapSeq f)) := fun f => W.frame _ _ _ hst' fun b hbf o' e => (Heap.get?_update_other _ _ (fun h : S = b => hSf (by rw [h]; exact hbf))).trans e
    cases o with
    | none =>
      obtain rfl := ho rfl
      show wpAny _ A.in1 (updateSeq S (fun _ => #[v, v]) >>= _) _ _ _
      refine wpAny_bind ?_
      refine wpAny_updateSeq hS' rfl ?_
      rw [hname]
      refine wpAny_pure ⟨plainId_quiet PySem.F.plain_min_loop _, ih 1 _ (some (0, v)) _ (by omega) hlt (frS _) (fun b u e => ?_) (fun z => by cases z) (Heap.get?_update_self _ hS' rfl) (fun h'' tk'' z _ => absurd z (by omega)) fun b u h'' tk'' p1 p2 p3 hk'' => q1 b u h'' tk'' p1 p2 p3 fun b o' hbw hbS e => hk'' b o' hbw hbS (upS _ b o' hbw hbS e)⟩
      cases e
      refine ⟨hP, Nat.zero_lt_one, fun j hj => ?_⟩
      obtain rfl : j = 0 := by omega
      exact Int.le_refl _
    | some bv =>
      obtain ⟨b, vb⟩ := bv
      obtain ⟨p1, p2, p3⟩ := hb b vb rfl
      have hS' : h'.get? S = some { cls := .type "list", dict := none, data := .seq #[vb, vb] c, slots := #[] } := hS'
      show wpAny _ A.in1 (tryCatch (holding [v, v] (richCompare .Lt v vb >>= _)) _ >>= _) _ _ _
      refine wpAny_bind (wpAny_tryCatch (wpAny_holding (wpAny_bind (hcmp i b v vb _ _ _ hP p1 ?_))))
      refine wpAny_bind (wpAny_holding (wpAny_truthy_bool ?_))
      refine wpAny_bind (wpAny_letGo (wpAny_pure ?_))
      by_cases hg : num i < num b
      · rw [if_pos (show (fun i j => decide (num i < num j)) i b = true from decide_eq_true hg)]
        refine wpAny_bind ?_
        refine wpAny_updateSeq hS' rfl (wpAny_bind (wpAny_letGo ?_))
        rw [hname]
        refine wpAny_pure ⟨plainId_quiet PySem.F.plain_min_loop _, ih (i + 1) _ (some (i, v)) _ (by omega) hlt (frS _) (fun b u e => ?_) (fun z => by cases z) (Heap.get?_update_self _ hS' rfl) (fun h'' tk'' z _ => absurd z (by omega)) fun b u h'' tk'' p1 p2 p3 hk'' => q1 b u h'' tk'' p1 p2 p3 fun b o' hbw hbS e => hk'' b o' hbw hbS (upS _ b o' hbw hbS e)⟩
        cases e
        refine ⟨hP, Nat.lt_succ_self _, fun j hj => ?_⟩
        rcases Nat.lt_succ_iff_lt_or_eq.mp hj with h | h
        · have := p3 j h
          omega
        · rw [h]
          exact Int.le_refl _
      · rw [if_neg (show ¬ (fun i j => decide (num i < num j)) i b = true from fun z => hg (of_decide_eq_true z))]
        refine wpAny_bind (wpAny_letGo ?_)
        rw [hname]
        refine wpAny_pure ⟨plainId_quiet PySem.F.plain_min_loop _, ih (i + 1) _ (some (b, vb)) c (by omega) hlt hst' (fun b' u e => ?_) (fun z => by cases z) hS' (fun h'' tk'' z _ => absurd z (by omega)) fun b u h'' tk'' p1 p2 p3 hk'' => q1 b u h'' tk'' p1 p2 p3 fun b o' hbw hbS e => hk'' b o' hbw hbS (hk' b o' hbw e)⟩
        cases e
        refine ⟨p1, by omega, fun j hj => ?_⟩
        rcases Nat.lt_succ_iff_lt_or_eq.mp hj with h | h
        · exact p3 j h
        · rw [h]
          omega
end
section
variable {prog : Program} {w : World} {A : Around} {E : Value → Shared → Prop} {s : Shared} {l : Addr} {its : List Value} {ns : List Int} {Q : Value → Shared → Prop}
theorem minD_raw (hh : A.handled = none) (hl : s.heap.IsList l its.toArray) (hi : IntsAre its ns) (d : Value)
    (h0 : ∀ h' tk, ns = [] → (∀ b o, s.heap.get? b = some o → h'.get? b = some o) → Q d { s with heap := h', toks := tk })
    (h : ∀ h' tk M t', (∀ b o, s.heap.get? b = some o → h'.get? b = some o) → M ∈ ns → (∀ a, a ∈ ns → M ≤ a) → Q (.int M t') { s with heap := h', toks := tk }) : wpAny (model prog w) A (call (.builtin "min") [.ref l] [(Str.ofString "default", d)]) Q E s := by
  obtain ⟨xs, e⟩ := hi.allInts.items
  have hn : numsOf (intItems xs).toList = ns := by rw [← e]; exact hi.numsOf
  rw [nums_intItems] at hn
  subst hn
  rw [e] at hl
  have hname : (toString "min" ++ toString ".loop" : String) = "min.loop" := by decide
  refine kmk_tree PySem.F.kind_min PySem.F.plain_min PySem.F.entry_min (args_minD _ _) ?_
  show wpAny _ A.in1 (Builtin.Builtins.bindParams "min" ["key", "default"] 0 ⟨[], [(Str.ofString "default", d)]⟩ >>= _) _ _ s
  refine wpAny_bind (wpAny_of_eq (show Builtin.Builtins.bindParams "min" ["key", "default"] 0 ⟨[], [(Str.ofString "default", d)]⟩ = pure [none, some d] from rfl) ?_)
  refine wpAny_bind (wpAny_pure ?_)
  refine wpAny_bind (PySem.iter_intList hl fun s₂ e2 st hfp hlI => ?_)
  refine wpAny_bind (wpAny_newObj_type ?_)
  subst e2
  have W := Walks.list (prog := prog) (w := w) (A := A.in1) hh _ l hlI (intItems xs)
  rw [hname]
  have old : ∀ {h' : Heap} {hp : Heap} {I : Addr}, I = s.heap.objs.size → (∀ b o, b ∉ [I] → b ≠ hp.objs.size → (hp.push { cls := .type "list", data := .seq #[] }).get? b = some o → h'.get? b = some o) → (∀ b o, s.heap.get? b = some o → hp.get? b = some o) → ∀ b o, s.heap.get? b = some o → h'.get? b = some o := fun hI hk hp b o e => by
    refine hk b o (fun z => ?_) (fun z => ?_) (Heap.get?_push_of_some _ (hp b o e))
    · rw [List.mem_singleton.mp z, hI] at e
      exact absurd (Heap.lt_size e) (Nat.lt_irrefl _)
    · have := Heap.lt_size (hp b o e)
      rw [z] at this
      exact absurd this (Nat.lt_irrefl _)
  refine wpAny_pure ⟨plainId_quiet PySem.F.plain_min_loop _, minD_loop W (numAt xs) (CmpOf.ints_lt (numAt xs) (fun _ _ => intItems_at)) _ (fun hm => Nat.lt_irrefl _ (hfp _ hm)) d _ 0 _ none _ rfl (Nat.zero_le _) (W.frame _ _ _ st fun b _ o e => Heap.get?_push_of_some _ e) (fun b v z => by cases z) (fun _ => rfl) (Heap.get?_push_size _ rfl) (fun h' tk hz hk => ?_) (fun b v h' tk hv hbn hle hk => ?_)⟩
  · refine h0 h' tk ?_ (old rfl hk fun b o e => Heap.get?_push_of_some _ e)
    have : xs.size = 0 := by simpa [intItems] using hz
    rw [Array.eq_empty_of_size_eq_zero this]
    rfl
  · obtain ⟨t, rfl⟩ := intItems_at hv
    have hbn : b < xs.size := by simpa [intItems] using hbn
    refine h h' tk _ t (old rfl hk fun b o e => Heap.get?_push_of_some _ e) ?_ fun a ha => ?_
    · rw [numAt_eq]; exact PySem.getD_mem (by rw [List.length_map, Array.length_toList]; omega)
    · obtain ⟨j, hj, rfl⟩ := PySem.mem_getD ha
      rw [List.length_map, Array.length_toList] at hj
      rw [← numAt_eq]; exact hle j (by simpa [intItems] using hj)
end
section
variable {X : Cx}
/-- min(xs, default=None) of a list of ints -/
def rminD (K : PySem.W.Frag) : List V → Hp → VK → Prop := fun vs H Q => ∃ (a : Addr) (ns : List Int), vs = [V.ref a] ∧ SqL K H a (ns.map V.int) ∧ (ns = [] → Q .non H) ∧ ∀ m, m ∈ ns → (∀ y, y ∈ ns → m ≤ y) → Q (.int m) H
theorem pe_minD {K : PySem.W.Frag} {e : Expr} {kpos p1 cp pos : Pos} {ck : Nat} {ta : TE} (hh : X.A.handled = none) (hgl : Gl X "min") (hm : X.mg "min" = none) (ha : PA X [e] (tCons ta tNil)) (hK : X.K = K := by rfl)
    (he : backTo pos (starEach [e] X.env) = (false, eval e X.env) :: backTo pos (starEach [] X.env) := by rfl) (hpl : (backTo pos (starEach [e] X.env)).any (·.1) = false := by rfl) :
    PE X (.Call (.Name "min" p1) [e] [⟨some (Str.ofString "default"), .Constant .none ck cp, kpos⟩] pos) (tCB (rminD K) (tCons ta tNil)) := by
  subst hK
  refine ⟨fun pins s σ H Q I h => ?_⟩
  refine wpAny_Call_Name_kw (ld_blt I hgl hm (show bootBuiltins "min" = some (.builtin "min") by decide +kernel) ?_)
  refine PyProof.Rows.callWith_kw (thn (ha.run pos pins s σ H _ I h) fun us s1 ⟨vs, H1, I1, r1, q1⟩ => ?_) he hpl
  obtain ⟨l, ns, rfl, hs, q0, q1⟩ := q1
  obtain rfl := Vals.ref1 r1
  obtain ⟨its, rv, hl, _⟩ := I1.list hs
  show wpAny _ _ (evalAll [(do let v ← eval (.Constant .none ck cp) X.env; standAt pos; pure v)]) _ _ s1
  refine wpAny_evalAll_cons (wpAny_bind ?_)
  refine wpAny_of_eq (show eval (.Constant .none ck cp) X.env = pure .none from rfl) ?_
  refine wpAny_bind (wpAny_standAt (wpAny_pure (wpAny_evalAll_nil ?_)))
  exact minD_raw hh hl.isList rv.ints .none (fun h' tk e hk => ⟨.non, H1, I1.kept hk, rfl, q0 e⟩) fun h' tk m t' hk h1 h2 => ⟨.int _, H1, I1.kept hk, ⟨_, rfl⟩, q1 m h1 h2⟩
end
end GX
set_option Elab.async false
set_option linter.all false
set_option maxRecDepth 100000
set_option maxHeartbeats 4000000
/-! A tuple of things of any make, held against a tuple of one text. -/
namespace GX
open PySem PySem.Spec PyProof.Rows L2
open PySem.SeqAt (EqAt)
theorem dict_eq_declines_str {prog : Program} {w : World} (l : Addr) (b : Str) (u : Tok) :
    MeetsIn prog w (Builtin.«dict.__eq__» ⟨[.ref l, .str b u], []⟩) (fun _ R s => s.TypeIs (.ref l) "dict" ∧ R (.ok (.ret .notImplemented)) s) :=
  .of_wp fun A R s h => by
    obtain ⟨ht, h⟩ := h
    show wpAny _ _ (Builtin.Dict.dictSlotArgs "__eq__" ⟨[.ref l, .str b u], []⟩ >>= _) _ _ s
    refine wpAny_bind ?_
    unfold Builtin.Dict.dictSlotArgs
    refine wpAny_bind (wpAny_notOrdered_dict ht ?_)
    show wpAny _ _ (pure (Value.ref l, Value.str b u)) _ _ s
    refine wpAny_pure (wpAny_bind (wpAny_isInstance (T := "str") (typeIs_str s b u) F.sub_str_dict ?_))
    simp only [Bool.not_false, if_true]
    exact wpAny_bind (wpAny_rule (wpAny_pure ⟨_, rfl, h⟩))
theorem str_eq_declines_dict (b : Str) (u : Tok) (l : Addr) (o : Obj) :
    Meets (Builtin.«str.__eq__» ⟨[.str b u, .ref l], []⟩) (fun _ R s => s.heap.get? l = some o ∧ (∃ es n, o.data = .dict es n) ∧ R (.ok (.ret .notImplemented)) s) :=
  .of_wp fun prog w A R s h => by
    obtain ⟨hp, g, d, tk, os⟩ := s
    obtain ⟨hl, ⟨es, n, hd⟩, h⟩ := h
    obtain ⟨oc, od, oda, osl⟩ := o
    simp only at hd
    subst hd
    wp_walk using wpAny_loadPart' hl, wpAny_load hl
    exact ⟨_, rfl, h⟩
section
variable {A : Around} {s : Shared}
theorem eqAt_dict_str {l : Addr} {o : Obj} {es : Array DictEntry} {n : Nat} (b : Str) (u : Tok) (hl : s.heap.get? l = some o) (hc : o.cls = .type "dict") (hd : o.data = .dict es n) (hu : A.units < cLine) : EqAt A s (.ref l) (.str b u) false := fun prog w E Q h => by
  have ht : s.TypeIs (.ref l) "dict" := ⟨o, hl, hc⟩
  unfold eqBool
  refine wpAny_holding ?_
  refine wpAny_ite_split (fun hab => absurd (eq_of_beq hab) nofun) (fun _ => ?_)
  refine wpAny_bind (SeqAt.rc_eq_decline_or (k := false) ht (typeIs_str s b u) (by decide) F.sub_str_dict F.slot_dict_eq F.slot_str_eq_refl
    (fun _ hq => call_meetsIn F.slot_dict_eq ht F.entry_dict_eq (F.args_dict_eq_2 _ _) (dict_eq_declines_str l b u) ⟨ht, hq⟩)
    (fun _ hq => call_meets F.slot_str_eq_refl (typeIs_str s b u) F.entry_str_eq (F.args_str_eq_2 _ _) (str_eq_declines_dict b u l o) ⟨hl, ⟨es, n, hd⟩, hq⟩)
    (fun _ hq => wpAny_of_eq (rfl : isSame (.ref l) (.str b u) = pure false) hq) (.inr hu) (wpAny_truthy_bool h))
end
/-- whether a thing is this text -/
def isTx (b : Str) : Th → Bool
  | .str x => x == b
  | _ => false
section
variable {X : Cx} {pins : List (Addr × Obj)} {σ : L2.St} {H : Hp} {s : Shared}
theorem eqAt_th (I : Inv X pins σ H s) {A : Around} (hu : A.units < cLine) {v : V} {t : Th} {x : Value} (r : Rep H v t) (rv : RelV v x) (b : Str) (k : Tok) : EqAt A s x (.str b k) (isTx b t) := by
  cases r with
  | non =>
    cases (show x = Value.none from rv)
    exact SeqAt.EqAt.none_str b k
  | bl c =>
    cases (show x = Value.bool c from rv)
    exact SeqAt.EqAt.bool_str c b k
  | int i =>
    obtain ⟨t, rfl⟩ := (show ∃ t, x = Value.int i t from rv)
    exact SeqAt.EqAt.int_str i t b k
  | str y =>
    obtain ⟨t, rfl⟩ := (show ∃ t, x = Value.str y t from rv)
    exact SeqAt.EqAt.str_str y t b k
  | lst e =>
    cases (show x = Value.ref _ from rv)
    obtain ⟨its, _, p, _⟩ := I.list (SqL.of e)
    exact SeqAt.EqAt.list_str b k p.isList hu
  | dic e =>
    cases (show x = Value.ref _ from rv)
    obtain ⟨_, _, vs, _, dd⟩ := dk_of I.hok e
    obtain ⟨o, es, ep, ho, hx, hdat, _⟩ := dd
    exact eqAt_dict_str b k ho hx.1 hdat hu
  | tup e _ =>
    cases (show x = Value.ref _ from rv)
    obtain ⟨its, _, ⟨o, e1, c, n, d⟩, _⟩ := I.tuple (SqT.of (K := X.K) e)
    exact SeqAt.EqAt.tuple_str b k ⟨o, e1, c, n, d⟩ hu
end
/-- t == (text,) -/
def rEqTx : R2 := fun x y H Q => ∃ (a b : Addr) (xs : List V) (ts : List Th) (tx : Str), x = .ref a ∧ y = .ref b ∧ H a = some (.tup xs) ∧ RepAll H xs ts ∧ H b = some (.tup [.str tx]) ∧ Q (.bl (match ts with | [t] => isTx tx t | _ => false)) H
theorem op_eqTx {X : Cx} (hu : X.A.units + 64 < cLine) : OpR X (compareOp .Eq) rEqTx := by
  intro pins s σ H x y v u Q I rx ry h
  obtain ⟨a, b, xs, ts, tx, rfl, rfl, ha, ra, hb, q⟩ := h
  cases rx
  cases ry
  obtain ⟨its, r, ⟨o, e, c, n, d⟩, _⟩ := I.tuple (SqT.of (K := X.K) ha)
  obtain ⟨its2, r2, ⟨o2, e2, c2, n2, d2⟩, _⟩ := I.tuple (SqT.of (K := X.K) hb)
  obtain ⟨k, rfl⟩ : ∃ k, its2 = [Value.str tx k] := by
    cases r2 with
    | cons r3 r4 =>
      cases r4
      obtain ⟨k, rfl⟩ := r3
      exact ⟨k, rfl⟩
  have hl : its.length = ts.length := by rw [← r.length, ra.length]
  refine PySem.SeqAt.eq_tupleAt (items := its.toArray) (items2 := #[Value.str tx k]) (e := fun _ => match ts with | t :: _ => isTx tx t | [] => false) ⟨o, e, c, n, d⟩ ⟨o2, e2, c2, n2, d2⟩ (by omega) (fun j h1 h2 => ?_) ⟨_, H, I, ?_, q⟩
  · have hj : j = 0 := by
      have : j < 1 := h2
      omega
    subst hj
    cases ra with
    | nil =>
      cases r
      exact absurd h1 (Nat.not_lt_zero _)
    | cons r0 ra =>
      cases r with
      | cons v0 r =>
        exact eqAt_th I (show X.A.in1.units < cLine from Nat.lt_of_le_of_lt (by show X.A.units + 1 ≤ X.A.units + 64; omega) hu) r0 v0 tx k
  · show Value.bool _ = Value.bool _
    congr 1
    match ts, hl with
    | [], hl =>
      have : its = [] := List.length_eq_zero_iff.mp hl
      subst this
      rfl
    | [t], hl =>
      have h1 : its.toArray.size = 1 := by rw [List.size_toArray, hl]; rfl
      rw [h1]
      show ((List.range 1).all (fun _ => isTx tx t) && _) = isTx tx t
      simp
    | _ :: _ :: _, hl =>
      have h1 : (its.toArray.size == (#[Value.str tx k] : Array Value).size) = false := by
        rw [List.size_toArray, hl]
        exact beq_false_of_ne (by simp)
      rw [h1, Bool.and_false]
end GX
set_option Elab.async false
set_option linter.all false
set_option maxRecDepth 100000
set_option maxHeartbeats 4000000
/-! Anything held against a tuple with one text. -/
namespace GX
open PySem PySem.Spec PyProof.Rows L2
theorem dict_eq_declines_tuple {prog : Program} {w : World} (l b : Addr) :
    MeetsIn prog w (Builtin.«dict.__eq__» ⟨[.ref l, .ref b], []⟩) (fun _ R s => s.TypeIs (.ref l) "dict" ∧ s.TypeIs (.ref b) "tuple" ∧ R (.ok (.ret .notImplemented)) s) :=
  .of_wp fun A R s h => by
    obtain ⟨ht, hb, h⟩ := h
    show wpAny _ _ (Builtin.Dict.dictSlotArgs "__eq__" ⟨[.ref l, .ref b], []⟩ >>= _) _ _ s
    refine wpAny_bind ?_
    unfold Builtin.Dict.dictSlotArgs
    refine wpAny_bind (wpAny_notOrdered_dict ht ?_)
    show wpAny _ _ (pure (Value.ref l, Value.ref b)) _ _ s
    refine wpAny_pure (wpAny_bind (wpAny_isInstance (T := "tuple") hb F.sub_tuple_dict ?_))
    simp only [Bool.not_false, if_true]
    exact wpAny_bind (wpAny_rule (wpAny_pure ⟨_, rfl, h⟩))
theorem tuple_eq_declines_dict (l b : Addr) (items : Array Value) (n : Nat) (dd dd2 : Option Addr) (sl sl2 : Array (Option Value)) (es : Array DictEntry) (n2 : Nat) :
    Meets (Builtin.«tuple.__eq__» ⟨[.ref l, .ref b], []⟩) (fun _ R s => s.heap.get? l = some { cls := .type "tuple", dict := dd, data := .seq items n, slots := sl } ∧ s.heap.get? b = some { cls := .type "dict", dict := dd2, data := .dict es n2, slots := sl2 } ∧ R (.ok (.ret .notImplemented)) s) :=
  .of_wp fun prog w A R s h => by
    obtain ⟨hp, g, d, tk, os⟩ := s
    obtain ⟨hl, hb, h⟩ := h
    have f1 := F.sub_dict_tuple
    wp_walk using wpAny_loadPart' hl, wpAny_loadPart' hb
    exact ⟨_, rfl, h⟩
section
variable {A : Around} {s : Shared}
theorem rcAt_dict_tuple {l b : Addr} {o : Obj} {es : Array DictEntry} {n : Nat} {items : Array Value} (hl : s.heap.get? l = some o) (hc : o.cls = .type "dict") (hd : o.data = .dict es n) (hb : s.heap.IsTuple b items) (hu : A.units < cLine) : SeqAt.RcAt A s (.ref l) (.ref b) false := by
  obtain ⟨⟨cls2, dd2, data2, sl2⟩, ho2, hc2, n2, hd2⟩ := id hb
  obtain ⟨cls, dd, data, sl⟩ := o
  simp only at hc hd hc2 hd2
  subst hc hd hc2 hd2
  have hne : l ≠ b := fun e => by
    subst e
    rw [hl] at ho2
    exact absurd (congrArg (fun o : Obj => o.cls) (Option.some.inj ho2)) (by simp)
  intro prog w E Q h
  exact (SeqAt.rc_eq_decline_or (k := false) ⟨_, hl, rfl⟩ ⟨_, ho2, rfl⟩ (by decide) F.sub_tuple_dict F.slot_dict_eq F.slot_tuple_eq_refl
    (fun _ hq => call_meetsIn F.slot_dict_eq ⟨_, hl, rfl⟩ F.entry_dict_eq (F.args_dict_eq_2 _ _) (dict_eq_declines_tuple l b) ⟨⟨_, hl, rfl⟩, ⟨_, ho2, rfl⟩, hq⟩)
    (fun _ hq => call_meets F.slot_tuple_eq_refl ⟨_, ho2, rfl⟩ F.entry_tuple_eq (F.args_tuple_eq_2 _ _) (tuple_eq_declines_dict b l items n2 dd2 dd sl2 sl es n) ⟨ho2, hl, hq⟩)
    (fun _ hq => wpAny_isSame_ref_other hne hl ho2 (by simp) hq) (.inr hu) h)
theorem rcAt_dict_str {l : Addr} {o : Obj} {es : Array DictEntry} {n : Nat} (b : Str) (u : Tok) (hl : s.heap.get? l = some o) (hc : o.cls = .type "dict") (hd : o.data = .dict es n) (hu : A.units < cLine) : SeqAt.RcAt A s (.ref l) (.str b u) false := fun prog w E Q h => by
  have ht : s.TypeIs (.ref l) "dict" := ⟨o, hl, hc⟩
  exact (SeqAt.rc_eq_decline_or (k := false) ht (typeIs_str s b u) (by decide) F.sub_str_dict F.slot_dict_eq F.slot_str_eq_refl
    (fun _ hq => call_meetsIn F.slot_dict_eq ht F.entry_dict_eq (F.args_dict_eq_2 _ _) (dict_eq_declines_str l b u) ⟨ht, hq⟩)
    (fun _ hq => call_meets F.slot_str_eq_refl (typeIs_str s b u) F.entry_str_eq (F.args_str_eq_2 _ _) (str_eq_declines_dict b u l o) ⟨hl, ⟨es, n, hd⟩, hq⟩)
    (fun _ hq => wpAny_of_eq (rfl : isSame (.ref l) (.str b u) = pure false) hq) (.inr hu) h)
end
/-- whether a thing is the tuple of this text alone -/
def isTxT (b : Str) : Th → Bool
  | .tup [t] => isTx b t
  | _ => false
/-- t == (text,) -/
def rEqTy : R2 := fun x y H Q => ∃ (b : Addr) (t : Th) (tx : Str), Rep H x t ∧ y = .ref b ∧ H b = some (.tup [.str tx]) ∧ Q (.bl (isTxT tx t)) H
theorem op_eqTy {X : Cx} (hu : X.A.units + 64 < cLine) : OpR X (compareOp .Eq) rEqTy := by
  intro pins s σ H x y v u Q I rx ry h
  obtain ⟨b, t, tx, r, rfl, hb, q⟩ := h
  have rx0 := rx
  have ry0 := ry
  cases ry
  obtain ⟨its2, r2, hT, _⟩ := I.tuple (SqT.of (K := X.K) hb)
  have hu' : X.A.units < cLine := by omega
  have fin : ∀ c, c = isTxT tx t → SeqAt.RcAt X.A s v (.ref b) c → wpAny (model X.prog X.w) X.A (compareOp .Eq v (.ref b)) (EP X pins σ Q) X.xe s := fun c e h => h _ _ _ _ ⟨.bl c, H, I, rfl, by rw [e]; exact q⟩
  cases r with
  | @tup a vs ts e ra =>
    refine op_eqTx hu pins s σ H _ _ v _ Q I rx0 ry0 ⟨a, b, vs, ts, tx, rfl, rfl, e, ra, hb, ?_⟩
    match ts with
    | [] => exact q
    | [t] => exact q
    | _ :: _ :: _ => exact q
  | non =>
    cases (show v = Value.none from rx)
    exact fin false rfl (SeqAt.RcAt.none_tuple hT hu')
  | bl c =>
    cases (show v = Value.bool c from rx)
    exact fin false rfl (SeqAt.RcAt.bool_tuple _ hT hu')
  | int i =>
    obtain ⟨k, rfl⟩ := (show ∃ k, v = Value.int i k from rx)
    exact fin false rfl (SeqAt.RcAt.int_tuple _ k hT hu')
  | str y =>
    obtain ⟨k, rfl⟩ := (show ∃ k, v = Value.str y k from rx)
    exact fin false rfl (SeqAt.RcAt.str_tuple _ k hT hu')
  | lst e =>
    cases (show v = Value.ref _ from rx)
    obtain ⟨its, _, p, _⟩ := I.list (SqL.of e)
    exact fin false rfl (SeqAt.RcAt.list_tuple p.isList hT hu')
  | dic e =>
    cases (show v = Value.ref _ from rx)
    obtain ⟨_, _, vs, _, dd⟩ := dk_of I.hok e
    obtain ⟨o, es, ep, ho, hx, hdat, _⟩ := dd
    exact fin false rfl (rcAt_dict_tuple ho hx.1 hdat hT hu')
/-- t == text -/
def rEqTh : R2 := fun x y H Q => ∃ (t : Th) (tx : Str), Rep H x t ∧ y = .str tx ∧ Q (.bl (isTx tx t)) H
theorem op_eqTh {X : Cx} (hu : X.A.units + 64 < cLine) : OpR X (compareOp .Eq) rEqTh := by
  intro pins s σ H x y v u Q I rx ry h
  obtain ⟨t, tx, r, rfl, q⟩ := h
  obtain ⟨k, rfl⟩ := (show ∃ k, u = Value.str tx k from ry)
  have hu' : X.A.units < cLine := by omega
  have fin : SeqAt.RcAt X.A s v (.str tx k) (isTx tx t) → wpAny (model X.prog X.w) X.A (compareOp .Eq v (.str tx k)) (EP X pins σ Q) X.xe s := fun h => h _ _ _ _ ⟨.bl _, H, I, rfl, q⟩
  refine fin ?_
  cases r with
  | non =>
    cases (show v = Value.none from rx)
    exact SeqAt.RcAt.none_str tx k
  | bl c =>
    cases (show v = Value.bool c from rx)
    exact SeqAt.RcAt.bool_str c tx k
  | int i =>
    obtain ⟨t, rfl⟩ := (show ∃ t, v = Value.int i t from rx)
    exact SeqAt.RcAt.int_str i t tx k
  | str y =>
    obtain ⟨t, rfl⟩ := (show ∃ t, v = Value.str y t from rx)
    exact SeqAt.RcAt.str_str y t tx k
  | lst e =>
    cases (show v = Value.ref _ from rx)
    obtain ⟨its, _, p, _⟩ := I.list (SqL.of e)
    exact SeqAt.RcAt.list_str tx k p.isList hu'
  | dic e =>
    cases (show v = Value.ref _ from rx)
    obtain ⟨_, _, vs, _, dd⟩ := dk_of I.hok e
    obtain ⟨o, es, ep, ho, hx, hdat, _⟩ := dd
    exact rcAt_dict_str tx k ho hx.1 hdat hu'
  | tup e _ =>
    cases (show v = Value.ref _ from rx)
    obtain ⟨its, _, p, _⟩ := I.tuple (SqT.of (K := X.K) e)
    exact SeqAt.RcAt.tuple_str tx k p hu'
end GX
set_option Elab.async false
set_option linter.all false
set_option maxRecDepth 100000
set_option maxHeartbeats 4000000
/-! Things, and likenesses among them. -/
namespace GX
open PySem PySem.Spec PyProof.Rows L2
/-- tuples stand; lists stay lists, dicts dicts -/
def KeepR (H H' : Hp) : Prop := ∀ b, (∀ vs, H b = some (.tup vs) → H' b = some (.tup vs)) ∧ (∀ xs, H b = some (.lst xs) → ∃ ys, H' b = some (.lst ys)) ∧ (∀ k, H b = some (.dK k) → ∃ k', H' b = some (.dK k'))
mutual
theorem Rep.keepR {H H' : Hp} (k : KeepR H H') : ∀ {v : V} {t : Th}, Rep H v t → Rep H' v t
  | _, _, .non => .non
  | _, _, .bl b => .bl b
  | _, _, .int i => .int i
  | _, _, .str x => .str x
  | _, _, .lst (a := a) e => .lst ((k a).2.1 _ e).choose_spec
  | _, _, .dic (a := a) e => .dic ((k a).2.2 _ e).choose_spec
  | _, _, .tup (a := a) e r => .tup ((k a).1 _ e) (r.keepR k)
theorem RepAll.keepR {H H' : Hp} (k : KeepR H H') : ∀ {vs : List V} {ts : List Th}, RepAll H vs ts → RepAll H' vs ts
  | _, _, .nil => .nil
  | _, _, .cons a b => .cons (a.keepR k) (b.keepR k)
end
theorem KeepR.refl (H : Hp) : KeepR H H := fun b => ⟨fun _ e => e, fun _ e => ⟨_, e⟩, fun _ e => ⟨_, e⟩⟩
theorem KeepR.trans {H1 H2 H3 : Hp} (a : KeepR H1 H2) (c : KeepR H2 H3) : KeepR H1 H3 := fun b => ⟨fun _ e => (c b).1 _ ((a b).1 _ e), fun _ e => by
  obtain ⟨_, e'⟩ := (a b).2.1 _ e
  exact (c b).2.1 _ e', fun _ e => by
  obtain ⟨_, e'⟩ := (a b).2.2 _ e
  exact (c b).2.2 _ e'⟩
theorem KeepR.same {H H' : Hp} (s : Same H H') : KeepR H H' := fun b => ⟨fun _ e => s _ _ e, fun _ e => ⟨_, s _ _ e⟩, fun _ e => ⟨_, s _ _ e⟩⟩
theorem KeepR.aft {Ts : List Addr} {H H' : Hp} (t : Tabs Ts H) (a : Aft Ts H H') : KeepR H H' := fun b => ⟨fun _ e => a.kp b _ e (t.nott e fun _ z => by cases z), fun _ e => ⟨_, a.kp b _ e (t.nott e fun _ z => by cases z)⟩, fun _ e => ⟨_, a.kp b _ e (t.nott e fun _ z => by cases z)⟩⟩
theorem KeepR.put {H : Hp} {l : Addr} {xs ys : List V} (h : H l = some (.lst xs)) : KeepR H (upd H l (.lst ys)) := fun b => by
  by_cases e : b = l
  · subst e
    exact ⟨fun _ z => (by rw [h] at z; cases z), fun _ _ => ⟨_, upd_same⟩, fun _ z => (by rw [h] at z; cases z)⟩
  · exact ⟨fun _ z => (by rw [upd_ne e]; exact z), fun _ z => ⟨_, by rw [upd_ne e]; exact z⟩, fun _ z => ⟨_, by rw [upd_ne e]; exact z⟩⟩
theorem KeepR.wk {W C : Addr} {H H' : Hp} (w : Wd H W C) (k : Wk2 W C H H') : KeepR H H' := fun b => by
  obtain ⟨ns, x, y, h1, h2, _⟩ := w.ex
  obtain ⟨ns', x', y', g1, g2, _⟩ := k.wl.ex
  by_cases e1 : b = W
  · subst e1
    exact ⟨fun _ z => (by rw [h1] at z; cases z), fun _ _ => ⟨_, g1⟩, fun _ z => (by rw [h1] at z; cases z)⟩
  · by_cases e2 : b = C
    · subst e2
      exact ⟨fun _ z => (by rw [h2] at z; cases z), fun _ _ => ⟨_, g2⟩, fun _ z => (by rw [h2] at z; cases z)⟩
    · exact ⟨fun _ z => k.at_ ⟨e1, e2⟩ z, fun _ z => ⟨_, k.at_ ⟨e1, e2⟩ z⟩, fun _ z => ⟨_, k.at_ ⟨e1, e2⟩ z⟩⟩
/-! ### pairs, steps -/
def thP (x : IP) : Th := .tup [.int x.1, .int x.2]
def thSt (s : Stp) : Th := .tup [.int s.a, .int s.b, .tup (s.ps.map thP)]
def thLk (ss : List Stp) : Th := .tup (ss.map thSt)
theorem rep_p {H : Hp} {p : Addr} {x : IP} (h : H p = some (.tup (pV x))) : Rep H (.ref p) (thP x) := .tup h (.cons (.int _) (.cons (.int _) .nil))
theorem p_rep {H : Hp} {v : V} {x : IP} (r : Rep H v (thP x)) : ∃ p, v = .ref p ∧ H p = some (.tup (pV x)) := by
  cases r with
  | @tup a vs _ e ra =>
    cases ra with
    | cons r1 ra =>
      cases ra with
      | cons r2 ra =>
        cases ra with
        | nil =>
          cases r1
          cases r2
          exact ⟨a, rfl, e⟩
theorem rep_ps {H : Hp} : ∀ {qs : List Addr} {xs : List IP}, RefsAt pV H qs xs → RepAll H (qs.map V.ref) (xs.map thP)
  | [], xs, h => by
    have : xs = [] := List.length_eq_zero_iff.mp h.1.symm
    subst this
    exact .nil
  | q :: qs, xs, h => by
    cases xs with
    | nil => cases h.1
    | cons y r => exact .cons (rep_p (h.2 0 q y rfl rfl)) (rep_ps ⟨Nat.succ.inj h.1, fun i p z e1 e2 => h.2 (i + 1) p z e1 e2⟩)
theorem ps_rep {H : Hp} : ∀ {vs : List V} {xs : List IP}, RepAll H vs (xs.map thP) → ∃ qs : List Addr, vs = qs.map V.ref ∧ RefsAt pV H qs xs
  | _, [], .nil => ⟨[], rfl, RefsAt.nil _ _⟩
  | _, x :: xs, .cons r ra => by
    obtain ⟨p, rfl, hp⟩ := p_rep r
    obtain ⟨qs, rfl, h⟩ := ps_rep ra
    exact ⟨p :: qs, rfl, by rw [List.length_cons, List.length_cons, h.1], fun i q y e1 e2 => by
      cases i with
      | zero => cases e1; cases e2; exact hp
      | succ i => exact h.2 i q y e1 e2⟩
theorem rep_psAt {H : Hp} {p : Addr} {xs : List IP} (h : PsAt H p xs) : Rep H (.ref p) (.tup (xs.map thP)) := by
  obtain ⟨qs, h1, h2⟩ := h
  exact .tup h1 (rep_ps h2)
theorem psAt_rep {H : Hp} {v : V} {xs : List IP} (r : Rep H v (.tup (xs.map thP))) : ∃ p, v = .ref p ∧ PsAt H p xs := by
  cases r with
  | @tup a vs _ e ra =>
    obtain ⟨qs, rfl, h⟩ := ps_rep ra
    exact ⟨a, rfl, qs, e, h⟩
theorem rep_st {H : Hp} {p : Addr} {s : Stp} (h : StAt H p s) : Rep H (.ref p) (thSt s) := by
  obtain ⟨q, h1, h2⟩ := h
  exact .tup h1 (.cons (.int _) (.cons (.int _) (.cons (rep_psAt h2) .nil)))
theorem rep_sts {H : Hp} : ∀ {qs : List Addr} {ss : List Stp}, PtsAt StAt H qs ss → RepAll H (qs.map V.ref) (ss.map thSt)
  | [], ss, h => by
    have : ss = [] := List.length_eq_zero_iff.mp h.1.symm
    subst this
    exact .nil
  | q :: qs, ss, h => by
    cases ss with
    | nil => cases h.1
    | cons y r => exact .cons (rep_st (h.2 0 q y rfl rfl)) (rep_sts ⟨Nat.succ.inj h.1, fun i p z e1 e2 => h.2 (i + 1) p z e1 e2⟩)
theorem rep_lk {H : Hp} {p : Addr} {ss : List Stp} (h : LkAt H p ss) : Rep H (.ref p) (thLk ss) := by
  obtain ⟨qs, h1, h2⟩ := h
  exact .tup h1 (rep_sts h2)
theorem thP_inj {x y : IP} (h : thP x = thP y) : x = y := by
  unfold thP at h
  injection h with h
  injection h with h1 h2
  injection h2 with h2 _
  exact Prod.ext (Th.int.inj h1) (Th.int.inj h2)
theorem thPs_inj : ∀ {xs ys : List IP}, xs.map thP = ys.map thP → xs = ys
  | [], [], _ => rfl
  | [], _ :: _, h => by cases h
  | _ :: _, [], h => by cases h
  | x :: xs, y :: ys, h => by
    rw [List.map_cons, List.map_cons] at h
    injection h with h1 h2
    rw [thP_inj h1, thPs_inj h2]
theorem thSt_inj {s t : Stp} (h : thSt s = thSt t) : s = t := by
  unfold thSt at h
  obtain ⟨a, b, ps⟩ := s
  obtain ⟨a', b', ps'⟩ := t
  injection h with h
  injection h with h1 h
  injection h with h2 h
  injection h with h3 _
  injection h3 with h3
  have h1' : a = a' := Th.int.inj h1
  have h2' : b = b' := Th.int.inj h2
  have h3' : ps = ps' := thPs_inj h3
  rw [h1', h2', h3']
theorem thSts_inj : ∀ {xs ys : List Stp}, xs.map thSt = ys.map thSt → xs = ys
  | [], [], _ => rfl
  | [], _ :: _, h => by cases h
  | _ :: _, [], h => by cases h
  | x :: xs, y :: ys, h => by
    rw [List.map_cons, List.map_cons] at h
    injection h with h1 h2
    rw [thSt_inj h1, thSts_inj h2]
theorem rep2 {H : Hp} {vs : List V} {ts : List Th} (r : RepAll H vs ts) (h : vs.length = 2) : ∃ a b x y, vs = [a, b] ∧ ts = [x, y] ∧ Rep H a x ∧ Rep H b y := by
  cases r with
  | nil => cases h
  | cons r1 r =>
    cases r with
    | nil => cases h
    | cons r2 r =>
      cases r with
      | nil => exact ⟨_, _, _, _, rfl, rfl, r1, r2⟩
      | cons _ _ => simp at h
theorem rep3' {H : Hp} {vs : List V} {ts : List Th} (r : RepAll H vs ts) (h : vs.length = 3) : ∃ a b c x y z, vs = [a, b, c] ∧ ts = [x, y, z] ∧ Rep H a x ∧ Rep H b y ∧ Rep H c z := by
  cases r with
  | nil => cases h
  | cons r1 r =>
    cases r with
    | nil => cases h
    | cons r2 r =>
      cases r with
      | nil => cases h
      | cons r3 r =>
        cases r with
        | nil => exact ⟨_, _, _, _, _, _, rfl, rfl, r1, r2, r3⟩
        | cons _ _ => simp at h
theorem len3_of {α : Type} {n : Nat} {k : Int} (h : ¬ ((!decide (V.int ((n : Nat) : Int) = V.int k)) = true)) : ((n : Nat) : Int) = k := V.int.inj (Classical.not_not.mp fun z => h (by rw [decide_eq_false z]; rfl))
theorem isB_iff {t : Th} {b : Int} : t.isB b = true ↔ ∃ i, t = .int i ∧ 0 ≤ i ∧ i < b := by
  cases t with
  | int i =>
    show (decide (0 ≤ i) && decide (i < b)) = true ↔ _
    rw [Bool.and_eq_true, decide_eq_true_iff, decide_eq_true_iff]
    exact ⟨fun h => ⟨i, rfl, h⟩, fun ⟨j, e, h⟩ => by cases e; exact h⟩
  | _ => exact ⟨fun h => (by cases h), fun ⟨_, e, _⟩ => by cases e⟩
theorem kTup_iff {t : Th} : t.kTup = true ↔ ∃ ts, t = .tup ts := by
  cases t with
  | tup ts => exact ⟨fun _ => ⟨ts, rfl⟩, fun _ => rfl⟩
  | _ => exact ⟨fun h => (by cases h), fun ⟨_, e⟩ => by cases e⟩
end GX
set_option Elab.async false
set_option linter.all false
set_option maxRecDepth 100000
set_option maxHeartbeats 4000000
/-! x = {k: v for ..}: a dict comprehension given to a name. -/
namespace GX
open PySem PySem.Spec PyProof.Rows L2
section
variable {X : Cx}
theorem sw_trueD {kx vx : Expr} {cs : List Comprehension} {sc : Scope} {p py : Pos} {y : Str} {l : Nat} {env : Env} (hk : env.scope.kind = .function) (hy : env.scope.names.lookup y = some .local) (hl : (py.line == p.line) = true)
    (ha : (sc.names.any fun (n, k) => n == y && (k == .local || k == .cell)) = false) : swapsWith (.DictComp kx vx cs sc p) (some (.Name y py)) l env = pure true := by
  have k1 : env.kindOf y = some .local := hy
  have k2 : env.blockKind = .function := by unfold Env.blockKind; rw [hk]; rfl
  unfold swapsWith
  simp only [k2, k1, ha, Expr.pos, hl]
  rfl
theorem ps_setDc {i : Nat} {y : Str} {py : Pos} {kx vx tg it : Expr} {ifs : List Expr} {sc : Scope} {own : List (Str × Nat)} {p sp : Pos} {wi : TI} {g : TG} {tt : TT} {tk tv : TE} (hc : X.calm = true) (hN : X.N.Nodup) (hy : X.N[i]? = some y) (hyl : X.env.scope.names.lookup y = some .local)
    (sw : swapsWith (.DictComp kx vx [⟨tg, it, ifs, 0⟩] sc p) (some (.Name y py)) sp.line X.env = pure true) (hi : PI X tg it wi) (ok : BlkOk X.N X.env.scope sc own)
    (hg : ∀ (s : Shared) (H : Hp) (C : Addr) (cl : List (Str × Addr)) (fp : List Addr), PG (X.blk s H sc (compEnvC sc cl C X.env) fp) tg g) (ht : ∀ (s : Shared) (H : Hp) (C : Addr) (cl : List (Str × Addr)) (fp : List Addr), PTs (X.blk s H sc (compEnvC sc cl C X.env) fp) ifs tt)
    (hk : ∀ (s : Shared) (H : Hp) (C : Addr) (cl : List (Str × Addr)) (fp : List Addr), PE (X.blk s H sc (compEnvC sc cl C X.env) fp) kx tk)
    (he : ∀ (s : Shared) (H : Hp) (C : Addr) (cl : List (Str × Addr)) (fp : List Addr), PE (X.blk s H sc (compEnvC sc cl C X.env) fp) vx tv) (hs : ∀ x, foldedSetIterable it X.env x = pure x := by intro _; rfl) :
    PS X (.Assign [.Name y py] (.DictComp kx vx [⟨tg, it, ifs, 0⟩] sc p) sp) (tAsg (tDc wi g tt tk tv (own.map (·.2))) (gName i)) := by
  refine ⟨fun pins s σ H D I hh => ?_⟩
  rw [exec_Assign_Name_used _ _ _ _ sw]
  refine wpAny_bind (wpAny_standAt (wpAny_bind ?_))
  show wpAny _ X.A (do let _ ← comprehension (.DictComp kx vx [⟨tg, it, ifs, 0⟩] sc p) sc X.env (firstIterPos [⟨tg, it, ifs, 0⟩] p) newDict false (eval it X.env) (some (assign (.Name y py) X.env))) _ _ s
  have hh : tDc wi g tt tk tv (own.map (·.2)) σ H (fun x H1 => gName i x σ H1 D.nx) := hh
  refine wpAny_bind (thn (dc_core (Qf := fun _ t => SP X pins D .next t) hc hN I hi ok hg ht hk he hs hh fun L C t m H' I' q hn f => ?_) fun _ t hq => wpAny_pure (wpAny_pure hq))
  show wpAny _ _ (assign (.Name y py) X.env (.ref L)) _ _ _
  refine wpAny_assign_Name (store_ok2 (v := V.ref L) I' hN hy (.inl hyl) rfl (fun t2 I2 ⟨a, sb, ha⟩ => ?_) (.inr hyl))
  obtain ⟨f0, f1, f2, f3, f4, f5⟩ := f
  have nC : C ≠ a := by
    rcases ha with z | z
    · rw [z]; exact f1
    · exact fun e => f4 y a z e.symm
  refine ⟨m, hn.sameBut sb nC, fun h3 sb3 => ⟨_, H', I2.turned (t' := t2.toks) (fun b o hb e => (sb3.2 b hb).trans e) f0 f1 f3 f4 f5, q⟩⟩
end
end GX
set_option Elab.async false
set_option linter.all false
set_option maxRecDepth 100000
set_option maxHeartbeats 4000000
/-! Own exceptions: defs that may raise (CalX), a caught exception that stays known behind its try (ps_tryK), isinstance and fields of it. -/
namespace GX
open PySem PySem.Spec PyProof.Rows L2
open C8 (Cal)

/-! ### defs that may raise -/
structure CalX (P : Program) (w : World) (K : PySem.W.Frag) (mg : Str → Option Value) (base : Heap) (k : Nat) (x : Str) (sp : Sp) : Prop where
  ex : ∃ f : Addr, mg x = some (.ref f) ∧ PySem.W.keepIn K (.ref f) = true ∧ ∀ (A : Around) (outer : List Env) (s : Shared) (H : Hp) (us : List Value) (vs : List V) (Q : VK) (E : XK),
    Room k A → Env0 P w K mg base A outer s H → Vals vs us → sp vs H Q E → codeAny (model P w) A (.call (.ref f) ⟨us, []⟩) (CR (L2.CX P w) outer P w H s Q E) s
section
variable {P : Program} {w : World} {K : PySem.W.Frag} {mg : Str → Option Value} {base : Heap} {k j : Nat} {x : Str} {sp sp' : Sp}
theorem env0_kin {A : Around} {outer : List Env} {s : Shared} {H : Hp} (e : Env0 P w K mg base A outer s H) : K.In s.heap := fun a o q => (e.bs a o (e.mod.kin a o q)).1
theorem CalX.mono (c : CalX P w K mg base j x sp) (h : j ≤ k) : CalX P w K mg base k x sp := by
  obtain ⟨f, h1, h2, r⟩ := c.ex
  exact ⟨f, h1, h2, fun A o s H us vs Q E hr => r A o s H us vs Q E (hr.mono h)⟩
theorem CalX.imp (c : CalX P w K mg base k x sp) (h : ∀ vs H Q E, sp' vs H Q E → sp vs H Q E) : CalX P w K mg base k x sp' := by
  obtain ⟨f, h1, h2, r⟩ := c.ex
  exact ⟨f, h1, h2, fun A o s H us vs Q E hr e0 hv hs => r A o s H us vs Q E hr e0 hv (h _ _ _ _ hs)⟩
theorem CalX.or (c : CalX P w K mg base k x sp) (c' : CalX P w K mg base k x sp') : CalX P w K mg base k x (fun vs H Q E => sp vs H Q E ∨ sp' vs H Q E) := by
  obtain ⟨f, h1, h2, r⟩ := c.ex
  obtain ⟨f', h1', _, r'⟩ := c'.ex
  rw [h1] at h1'
  cases h1'
  exact ⟨f, h1, h2, fun A o s H us vs Q E hr e0 hv hs => hs.elim (r A o s H us vs Q E hr e0 hv) (r' A o s H us vs Q E hr e0 hv)⟩
theorem fnok_x {CX : CXT} {f : Addr} {fd : FuncData} {ps : List Str} (F : FnOk P w K mg base CX k f fd ps sp) (hm : mg x = some (.ref f)) (kp : PySem.W.keepIn K (.ref f) = true) (b : Binds K fd ps [])
    (hCX : ∀ o H s E e s', CX o H s E e s' → L2.CX P w o H s E e s') : CalX P w K mg base k x sp := by
  refine ⟨f, hm, kp, fun A o s H us vs Q E hr e0 hv hs => ?_⟩
  have hl : us.length = ps.length := by rw [← hv.length]; exact F.len _ _ _ _ hs
  have bb := b s us (env0_kin e0) (by rw [List.append_nil]; exact hl)
  rw [List.append_nil] at bb
  refine codeAny_mono (F.run A o s H ⟨us, []⟩ us vs Q E hr e0 bb hv hs) fun r s' hq => ?_
  cases r with
  | error e => exact hCX _ _ _ _ _ _ hq
  | ok fl => cases fl <;> exact hq
/-- what raises nothing -/
theorem CalX.of (c : Cal P w K mg base k x sp []) : CalX P w K mg base k x sp := by
  obtain ⟨f, fd, ps, ds, F, hm, kp, b, d⟩ := c.ex
  cases d
  exact fnok_x F hm kp b fun _ _ _ _ _ _ z => z.elim
/-- the promise of a def that may raise, by its body -/
theorem calX {st : Stmt} {f c : Addr} {N ps : List Str} (D : Dfn K mg x st f c)
    (hb : ∀ (kV doc pm : Value) (an : Option Addr) (cdv ct : Value) (us : List Value), us.length = ps.length → bindArgs (PySem.W.fnOf x x (defArgs st) (defBody st) (defScope st) .none kV doc pm an cdv ct) ⟨us, []⟩ = pure (ps.zip us))
    (S : FnScope N ps (defScope st)) (len : ∀ vs H Q E, sp vs H Q E → vs.length = ps.length)
    (hbody : ∀ (A : Around) (outer : List Env) (s : Shared) (H : Hp) (vs : List V) (Q : VK) (E : XK), Room k (A.deeper (envOfC x (defScope st) s.heap.objs.size f (.ref c))) → sp vs H Q E →
      Takes (cxOf (L2.CX P w) P w K mg base N x (defScope st) f (.ref c) A outer s H E) (fun cls d _ H => E cls d H) →
      ∃ t, PSs (cxOf (L2.CX P w) P w K mg base N x (defScope st) f (.ref c) A outer s H E) (defBody st) t ∧ t { nx := fun _ H' => Q .non H', rt := Q } (start N vs) H) : CalX P w K mg base (k + 1) x sp := by
  obtain ⟨oc, od, kV, doc, pm, an, ct, osl, lk⟩ := D.ex
  refine fnok_x (fn_of lk D.hcd S len (fun A outer s H vs Q E hr hsp => ?_)) D.mgf D.kp (.all (hb kV doc pm an (.ref c) ct)) fun _ _ _ _ _ _ z => z
  exact hbody A outer s H vs Q E hr hsp (takes_of rfl rfl rfl rfl)
end
section
variable {X : Cx} {W : WX} {k j : Nat} {x : Str} {sp : Sp} {p pos : Pos} {e : Expr} {es : List Expr} {t : TA}
/-- f(..) where what it raises is taken -/
theorem pe_cX (c : CalX X.prog X.w X.K X.mg X.base k x sp) (tk : Takes X W) (hr : Room j X.A) (hk : k ≤ j) (hg : Gl X x) (ha : PA X (e :: es) t)
    (hdb : (x == ("__debug__" : Str)) = false := by decide) (he : starEach (e :: es) X.env = (false, eval e X.env) :: starEach es X.env := by rfl) (hpl : (backTo pos (starEach es X.env)).any (·.1) = false := by rfl) :
    PE X (.Call (.Name x p) (e :: es) [] pos) (tCallS sp (WE W) t) := by
  obtain ⟨f, hm, kp, r⟩ := c.ex
  refine ⟨fun pins s σ H Q I h => wpAny_Call_Name_kw (ld_glob I hg hm ?_ hdb)⟩
  refine PySem.W.callWith_K (h₀ := X.base) I.ok.mod.kin kp (thn (ha.run pos pins s σ H _ I h) fun us s1 hh => ?_) he hpl
  obtain ⟨vs, H1, I1, rv, q⟩ := hh
  refine ⟨I1.kIn, wpAny_call (codeAny_mono (r X.A X.stack s1 H1 us vs Q _ (hr.mono hk) I1.env0 rv q) fun rs s' hq => ?_)⟩
  cases rs with
  | error e => exact passAt tk σ _ _ _ _ _ I1 hq
  | ok fl =>
    cases fl with
    | ret u => exact I1.after hq
    | next => exact False.elim hq
    | brk => exact False.elim hq
    | cont => exact False.elim hq
/-- a block that is never come to -/
theorem pss_cut {sts : List Stmt} : PSs X sts (fun _ _ _ => False) := ⟨fun _ _ _ _ _ _ h => h.elim⟩
end

/-- a statement that raises nothing -/
theorem psNox {X : Cx} {st : Stmt} {t : TS} (h : PS X.nox st t) : PS X st t := ⟨fun pins s σ H D I q => wpAny_mono (h.run pins s σ H D (I.wish _) q) (fun _ _ z => z.unwish) fun _ _ z => False.elim z⟩
/-- nothing is let out -/
theorem takes0 {X : Cx} : Takes X (fun _ _ _ _ => False) := fun u s' h => by
  obtain ⟨_, _, _, _, _, _, _, _, _, _, _, _, _, _, _, _, q⟩ := h
  exact q.elim
/-! ### own exception classes -/
/-- what must be known of the class x, at C, so that it is named in a clause, asked by isinstance, its instances asked -/
structure ExcT (K : PySem.W.Frag) (mg : Str → Option Value) (x : Str) (C : Addr) : Prop where
  g : mg x = some (.ref C)
  k : PySem.W.keepIn K (.ref C) = true
  t : PySem.W.typeIn K (.ref C) = some (.type "type")
  i : PySem.W.isClsIn K C = true
  e : ExcC K C
/-- .. and made by a text -/
structure ExcM (K : PySem.W.Frag) (mg : Str → Option Value) (x : Str) (C : Addr) : Prop extends ExcT K mg x C where
  x : PySem.W.excIn K C [.type "ValueError", .type "Exception", .type "BaseException", .type "object"] "ValueError.__new__" = true
theorem ExcT.raises {X : Cx} {x : Str} {C : Addr} (c : ExcT X.K X.mg x C) : Raises X (.ref C) := raises_own c.e.hs c.t
theorem kit_ref {K : PySem.W.Frag} {C D : Addr} {b : Bool} (hD : PySem.W.typeIn K (.ref D) = some (.type "type")) (iD : PySem.W.isClsIn K D = true) (s : PySem.W.subIn K (.ref C) (.ref D) = some b) (h : C = D → b = true) : PySem.W.kitOne K (.ref C) (.ref D) = some b := by
  unfold PySem.W.kitOne
  by_cases e : C = D
  · rw [h e, e, if_pos (by simp)]
  · rw [if_neg (by simpa using e)]
    unfold PySem.W.kitCls
    have iD' : (PySem.W.clsIn K D).isSome = true := iD
    simp only [iD', hD, s]
    rfl
/-- another class, not under it -/
theorem kit_no {K : PySem.W.Frag} {mg : Str → Option Value} {x : Str} {C D : Addr} (d : ExcT K mg x D) (self : PySem.W.subIn K (.ref C) (.ref C) = some true) (s : PySem.W.subIn K (.ref C) (.ref D) = some false) : PySem.W.kitOne K (.ref C) (.ref D) = some false := kit_ref d.t d.i s fun e => by
  subst e
  rw [self] at s
  cases s
theorem kit_none {K : PySem.W.Frag} {t : Value} : ∀ us : List Value, (∀ c ∈ us, PySem.W.kitOne K t c = some false) → PySem.W.kitAny K t us = some false
  | [], _ => rfl
  | c :: r, h => by
    unfold PySem.W.kitAny
    rw [h c List.mem_cons_self]
    exact kit_none r fun d hd => h d (List.mem_cons_of_mem _ hd)
/-- None is of no own class -/
theorem sub_non {K : PySem.W.Frag} {D : Addr} : PySem.W.subIn K (.type "NoneType") (.ref D) = some false := by
  have e : fastBuiltinMro "NoneType" = some [.type "NoneType", .type "object"] := by decide +kernel
  show (fastBuiltinMro "NoneType").map (fun l => l.contains (Value.ref D)) = some false
  rw [e]
  rfl
theorem kit_non {K : PySem.W.Frag} {mg : Str → Option Value} {x : Str} {D : Addr} (d : ExcT K mg x D) : PySem.W.kitOne K (.type "NoneType") (.ref D) = some false := by
  unfold PySem.W.kitOne
  rw [if_neg (by intro h; cases h)]
  unfold PySem.W.kitCls
  have i : (PySem.W.clsIn K D).isSome = true := d.i
  simp only [i, d.t, sub_non]
  rfl
theorem kit_ve {K : PySem.W.Frag} {C : Addr} {n : String} {b : Bool} (hn : PySem.W.kitMeta n = true) (s : PySem.W.subIn K (.ref C) (.type n) = some b) : PySem.W.kitOne K (.ref C) (.type n) = some b := by
  unfold PySem.W.kitOne
  rw [if_neg (by simp)]
  unfold PySem.W.kitCls
  simp only [hn, s]
  rfl
theorem exm_of2 {K : PySem.W.Frag} {mg : Str → Option Value} {x : Str} {C : Addr} {cls : Value} {b : Bool} (c : ExcT K mg x C) (s : PySem.W.subIn K cls (.ref C) = some b) : PySem.W.exmOne K cls (.ref C) = some b := PySem.W.exm_ref c.e.hs c.e.hd c.t s

/-! ### a caught exception that stays known -/
def XO (cls : Value) (d : Option Addr) (a : Addr) : HO := .ext fun h => ∃ (oe : Obj) (vs : Array Value), h.get? a = some oe ∧ Zc cls d oe ∧ oe.data = .fields vs
theorem xo_ok {P : Program} {w : World} {H : Hp} {h : Heap} {a : Addr} {cls : Value} {d : Option Addr} {oe : Obj} {vs : Array Value} (e : h.get? a = some oe) (z : Zc cls d oe) (q : oe.data = .fields vs) : ObjOk P w H h a (XO cls d a) :=
  ⟨⟨oe, vs, e, z, q⟩, ⟨oe, e⟩, fun _ _ ⟨o, v, r, zz⟩ k => ⟨o, v, k o r, zz⟩⟩
section
variable {X : Cx} {pins : List (Addr × Obj)} {σ : L2.St} {H : Hp} {s : Shared}
/-- an exception object that isn't tracked is tracked from here on -/
theorem Inv.noteX {a : Addr} {oe : Obj} {vs : Array Value} {cls : Value} {d : Option Addr} (I : Inv X pins σ H s) (ha : s.heap.get? a = some oe) (z : Zc cls d oe) (q : oe.data = .fields vs) (na : H a = none) (nL : a ≠ X.env.locals)
    (n0 : X.s_0.heap.get? a = none) (np : ∀ p ∈ X.pn ++ pins, p.1 ≠ a) : Inv X pins σ (upd H a (XO cls d a)) s := by
  have up : ∀ {b : Addr} {u : HO}, H b = some u → upd H a (XO cls d a) b = some u := fun {b u} e => by rw [upd_ne (ne_of_none e na)]; exact e
  have nc : ∀ y c, X.env.cells.lookup y = some c → c ≠ a := fun y c e z2 => by
    obtain ⟨v, o, h1, h2⟩ := I.cell y c e
    rw [z2, ha] at h1
    cases h1
    rw [q] at h2
    cases h2
  have hL : X.env.locals ≠ a := fun e => nL e.symm
  refine ⟨I.ok, I.os, I.bare, ?_, I.loc, I.cell, by rw [upd_ne hL]; exact I.free, fun y c e => by rw [upd_ne (nc y c e)]; exact I.freeC y c e, fun p hp => ?_, fun b u e => ?_, I.len⟩
  · refine ⟨I.base.keep, I.base.slot, fun b o h1 h2 h3 => ?_, I.base.there, fun b xs e => up (I.base.tups b xs e), fun b o u e => up (I.base.frzs b o u e), fun b ps e => ?_⟩
    · rw [upd_ne (fun e => by rw [e, n0] at h1; cases h1)]
      exact I.base.free b o h1 h2 h3
    · obtain ⟨m, h1⟩ := I.base.tbls b ps e
      exact ⟨m, up h1⟩
  · obtain ⟨h1, h2, h3⟩ := I.pin p hp
    exact ⟨h1, by rw [upd_ne (np p hp)]; exact h2, h3⟩
  · by_cases hb : b = a
    · subst hb
      rw [upd_same] at e
      cases e
      exact xo_ok ha z q
    · rw [upd_ne hb] at e
      exact (I.hok b u e).stay (fun _ _ _ h => h) (fun _ h => up h) fun _ _ h => up h
end
/-- what the clause wishes of an exception of the body: it is tracked from the suite's begin on -/
def wK (K : PySem.W.Frag) (c : Value) (i : Nat) (ts : TS) (Wout : WX) (D : Ends) : WX := fun cls d σ H =>
  ∃ b, PySem.W.exmOne K cls c = some b ∧ (b = true → ∀ a, H a = none → ts { nx := fun σ' H' => D.nx (σ'.set i none) H', rt := D.rt, bk := fun σ' H' => D.bk (σ'.set i none) H', ct := fun σ' H' => D.ct (σ'.set i none) H' } (σ.set i (some (.ref a))) (upd H a (XO cls d a))) ∧
    (b = false → Wout cls d σ H)
section
variable {X : Cx} {x n : Str} {c : Value} {i : Nat} {body suite orelse : List Stmt} {b₀ : Stmt} {np pos pos' : Pos} {tb : WX → TS} {ts u : TS} {Wout : WX}
theorem ps_tryK (hs : X.stack = X.env :: X.outer) (hf : X.env.frame = some X.env.locals) (hex : X.ex = []) (hN : X.N.Nodup) (hi : X.N[i]? = some n) (hln : X.env.kindOf n = some .local) (hc : Names X x c) (tk : Takes X Wout)
    (hb : ∀ (W : WX) (pn : List (Addr × Obj)) (xe : Value → Shared → Prop), Takes (X.tr pn xe) W → PSs (X.tr pn xe) body (tb W))
    (hsu : ∀ (a : Addr) (pn : List (Addr × Obj)), PSs (X.suite a pn) (b₀ :: suite) ts) (ho : PSs X orelse u) :
    PS X (.Try body [.ExceptHandler (some (.Name x np)) (some n) (b₀ :: suite) pos'] orelse [] pos) (fun D σ H => tb (wK X.K c i ts Wout D) { D with nx := u D } σ H) := by
  refine ⟨fun pins s σ H D I h => wpAny_Try_except ?_⟩
  have ok := I.ok
  have hfr : X.A.frames = some (X.env :: X.outer) := by rw [← hs]; exact ok.frames
  let xe' : Value → Shared → Prop := fun e s₁ => wpAny (model X.prog X.w) X.A (noteFrame e X.env) (fun _ s₂ => wpAny (model X.prog X.w) X.A (setFlight e none)
    (fun _ s₃ => wpAny (model X.prog X.w) X.A (handleBy e X.env [.ExceptHandler (some (.Name x np)) (some n) (b₀ :: suite) pos']) (SP X pins D) X.xe s₃) X.xe s₂) X.xe s₁
  have take : Takes (X.tr (X.pn ++ pins) xe') (wK X.K c i ts Wout D) := by
    rintro v s' ⟨a, B, sI, pins', σ', H', cls, d, rfl, J', nb, up, sky, na, os, ag, b, hb1, hyes, hno⟩
    have J : Inv X pins σ' H' sI := J'.ofTry ok
    rw [show (X.tr (X.pn ++ pins) xe').stack = X.env :: X.outer from hs] at sky nb
    show wpAny (model X.prog X.w) X.A (noteFrame (.ref a) X.env) _ _ _
    refine Sky.land Zc.steady hfr hf sky fun h3 fl3 up3 => ?_
    have J3 : Inv X pins σ' H' { s' with heap := h3 } := J.landed (by rw [hs]; exact nb) fl3.1 (up.trans up3) os ag
    obtain ⟨oe3, vs3, he3, hz3, hd3⟩ := fl3.there
    have nfr : a ∉ frs (X.env :: X.outer) := fun hm => by
      obtain ⟨_, o', e', hnf⟩ := fl3.2.2.1.mem hm
      rw [he3] at e'
      cases e'
      exact hnf _ hd3
    have nL : a ≠ X.env.locals := fun e => nfr (by rw [e]; exact List.mem_filterMap.mpr ⟨X.env, List.mem_cons_self, hf⟩)
    have nF : a ∉ X.fs := fun hm => by
      obtain ⟨e, he, q⟩ := List.mem_filterMap.mp hm
      exact nfr (List.mem_filterMap.mpr ⟨e, List.mem_cons_of_mem _ he, q⟩)
    have nI : sI.heap.get? a = none := by
      cases e : sI.heap.get? a with
      | none => rfl
      | some o =>
        have := nb a o e nfr
        rw [fl3.2.1] at this
        cases this
    have n0 : X.s_0.heap.get? a = none := by
      cases e : X.s_0.heap.get? a with
      | none => rfl
      | some o =>
        obtain ⟨o', h'⟩ := J.base.there a o e (by rw [hex]; exact List.not_mem_nil)
        rw [nI] at h'
        cases h'
    have npn : ∀ p ∈ X.pn ++ pins, p.1 ≠ a := fun p hp e => by
      have := (J.pin p hp).1
      rw [e, nI] at this
      cases this
    have S3 := J3.suite he3 hd3 na nL nF
    have LT : PySem.W.Looks (model X.prog X.w) h3 (typeOf (.ref a)) cls := fun A Q E s k q => wpAny_typeOf_ref (k _ _ he3) (by rw [hz3.1]; exact q)
    refine wpAny_handleBy_cons (codeAny_handlers_test ?_) (fun q => nomatch q)
    have test : ∀ {Q E : Value → Shared → Prop}, Q c { s' with heap := h3 } → wpAny (model X.prog X.w) (X.A.mark (some (.ref a))) (eval (.Name x np) X.env) Q E { s' with heap := h3 } := fun {Q E} q => by
      obtain ⟨hg, hdbg, hm | ⟨hm, hv, hnn⟩⟩ := hc
      · exact ld_glob (X := X.suite a _) S3 hg hm q hdbg
      · exact ld_blt (X := X.suite a _) S3 hg hm hv q hnn hdbg
    refine test ((PySem.W.exm_one (M := model X.prog X.w) J3.kIn LT hb1).here ?_)
    cases b with
    | false =>
      refine wpAny_handleBy_nil ?_
      obtain ⟨_, _, _, oe, vs, T, oT, ts', he, hz, hd, h1, hr⟩ := id fl3
      unfold PySem.passOn
      refine wpAny_bind (wpAny_field he hd h1 ?_)
      rw [if_neg (fun q => by simp at q)]
      refine wpAny_bind ?_
      rw [hf]
      refine HandSPX.setFlight_upZ fl3 fun h4 hh4 up4 => wpAny_throw (tk _ _ ?_)
      exact ⟨a, B, sI, pins, σ', H', cls, d, rfl, J, by rw [hs]; exact nb, (up.trans up3).trans up4, by rw [hs]; exact .inr (.inr hh4), na, os, ag, hno rfl⟩
    | true =>
      refine codeAny_handlers_suite_as (HandSPX.lands_againZ fl3 fun h4 fl4 up4 => ?_)
      obtain ⟨oe4, vs4, he4, hz4, hd4⟩ := fl4.there
      have J4 : Inv X pins σ' H' { s' with heap := h4 } := J.landed (by rw [hs]; exact nb) fl4.1 ((up.trans up3).trans up4) os ag
      have J5 : Inv X pins σ' (upd H' a (XO cls d a)) { s' with heap := h4 } := Inv.noteX J4 he4 hz4 hd4 na nL n0 npn
      have S5 : Inv (X.suite a (X.pn ++ pins)) [] σ' (upd H' a (XO cls d a)) { s' with heap := h4 } := ⟨ok.suite a _, J5.os, J5.bare, J5.base, J5.loc, J5.cell, J5.free, J5.freeC, fun p hp => J5.pin p (by rw [List.append_nil] at hp; exact hp), J5.hok, J5.len⟩
      refine store_ok (X := X.suite a (X.pn ++ pins)) (v := .ref a) S5 hN hi (.inl hln) rfl (fun s6 S6 => ?_) (.inr hln)
      refine wpAny_mono ((hsu a (X.pn ++ pins)).run [] s6 _ _ _ S6 (hyes rfl a na)) (fun f s7 hsp => ?_) fun _ _ z => z.elim
      have back : ∀ {σ7 : L2.St} {H7 : Hp} {Q : Shared → Prop}, Inv (X.suite a (X.pn ++ pins)) [] σ7 H7 s7 → (∀ s8, Inv X pins (σ7.set i none) H7 s8 → Q s8) →
          wpAny (model X.prog X.w) X.A (do bindName X.env n .none; unbindBehindTheSuite X.env n pos') (fun _ s8 => Q s8) X.xe s7 := fun {σ7 H7 Q} S7 hq =>
        gone_ok (X := X) (pins := pins) ⟨ok, S7.os, S7.bare, S7.base, S7.loc, S7.cell, S7.free, S7.freeC, fun p hp => S7.pin p (List.mem_append_left _ hp), S7.hok, S7.len⟩ hN hi hln hq
      cases f with
      | ret v =>
        obtain ⟨y, σ7, H7, S7, r7, q7⟩ := hsp
        exact back S7 fun s8 J8 => ⟨_, _, _, J8, r7, q7⟩
      | next =>
        obtain ⟨σ7, H7, S7, q7⟩ := hsp
        exact back S7 fun s8 J8 => ⟨_, _, J8, q7⟩
      | brk =>
        obtain ⟨σ7, H7, S7, q7⟩ := hsp
        exact back S7 fun s8 J8 => ⟨_, _, J8, q7⟩
      | cont =>
        obtain ⟨σ7, H7, S7, q7⟩ := hsp
        exact back S7 fun s8 J8 => ⟨_, _, J8, q7⟩
  refine wpAny_mono ((hb _ _ xe' take).run [] s σ H { D with nx := u D } (I.toTry _) h) (fun f s1 hsp => ?_) fun _ _ q => q
  cases f with
  | ret v =>
    obtain ⟨y, σ', H', J', r, q⟩ := hsp
    exact ⟨y, σ', H', J'.ofTry ok, r, q⟩
  | next =>
    obtain ⟨σ', H', J', q⟩ := hsp
    exact ho.run pins s1 σ' H' D (J'.ofTry ok) q
  | brk =>
    obtain ⟨σ', H', J', q⟩ := hsp
    exact ⟨σ', H', J'.ofTry ok, q⟩
  | cont =>
    obtain ⟨σ', H', J', q⟩ := hsp
    exact ⟨σ', H', J'.ofTry ok, q⟩
end

/-! ### isinstance, fields -/
inductive TyE (K : PySem.W.Frag) (H : Hp) : V → Value → Prop where
  | x {v : V} {t : Value} (h : TyX K H v t) : TyE K H v t
  | e {a C : Addr} {d : Option Addr} (c : ExcC K C) (e : H a = some (XO (.ref C) d a)) (hd : ∀ dd, d = some dd → ∃ fs, H dd = some (.xd fs)) : TyE K H (.ref a) (.ref C)
/-- the object, as the library asks for it -/
theorem xo_inst {P : Program} {w : World} {H : Hp} {h : Heap} {a C : Addr} {d : Option Addr} (k : HOk P w H h) (e : H a = some (XO (.ref C) d a)) (hd : ∀ dd, d = some dd → ∃ fs, H dd = some (.xd fs)) : ∃ oe od, PySem.W.InstAt h a oe C od ∧ (∀ dd, d = some dd → ∃ o, od = some o ∧ h.get? dd = some o) := by
  obtain ⟨⟨oe, vs, ha, hz, hv⟩, _⟩ := k a _ e
  obtain ⟨oc, odd, oda, osl⟩ := oe
  obtain ⟨h1, h2⟩ := hz
  dsimp only at h1 h2 hv
  subst h1 hv
  cases d with
  | none =>
    subst h2
    exact ⟨_, none, ⟨ha, rfl, rfl, trivial⟩, fun _ z => by cases z⟩
  | some dd =>
    subst h2
    obtain ⟨fs, hf⟩ := hd dd rfl
    obtain ⟨o, ho⟩ := objOk_get (k dd _ hf)
    exact ⟨_, some o, ⟨ha, rfl, rfl, ho⟩, fun _ z => by cases z; exact ⟨o, rfl, ho⟩⟩
section
variable {X : Cx} {pins : List (Addr × Obj)} {σ : L2.St} {H : Hp} {s : Shared}
theorem kit_ofE {x : V} {u t : Value} (I : Inv X pins σ H s) (rx : RelV x u) (ty : TyE X.K H x t) : ∃ P : Heap → Prop, PySem.W.KitX X.K u t P ∧ P s.heap ∧ u ≠ .builtin "__main__.__loader__#opaque" := by
  cases ty with
  | x h => exact kit_of I rx h
  | e c ea hd =>
    cases rx
    obtain ⟨oe, od, J, _⟩ := xo_inst I.hok ea hd
    obtain ⟨cd, hc, _⟩ := PySem.W.any_some c.hd
    exact ⟨_, PySem.W.kitx_exc (by rw [hc]; rfl) c.hg c.hk c.hs c.ha c.hn c.ht c.hm, J, fun z => nomatch z⟩
/-- isinstance(x, c) -/
def rIsE1 (K : PySem.W.Frag) : List V → Hp → VK → Prop := fun xs H Q => ∃ (x c : V) (t u : Value) (b : Bool), xs = [x, c] ∧ ClsV c u ∧ TyE K H x t ∧ PySem.W.kitOne K t u = some b ∧ Q (.bl b) H
/-- isinstance(x, (c, ..)) -/
def rIsET (K : PySem.W.Frag) : List V → Hp → VK → Prop := fun xs H Q => ∃ (x : V) (tp : Addr) (cs : List V) (t : Value) (us : List Value) (b : Bool), xs = [x, .ref tp] ∧ H tp = some (.tup cs) ∧ Paired ClsV cs us ∧ TyE K H x t ∧ PySem.W.kitAny K t us = some b ∧ Q (.bl b) H
end
section
variable {X : Cx}
theorem call_isE1 : CallR X (.builtin "isinstance") (rIsE1 X.K) := by
  intro pins s σ H xs us Q I r h
  obtain ⟨x, c, t, u, b, rfl, k, ty, e, q⟩ := h
  obtain ⟨u1, u2, rfl, r1, r2⟩ := vals2 r
  have e2 := k.eq r2
  subst e2
  obtain ⟨P, Z, p, hx⟩ := kit_ofE I r1 ty
  refine PySem.W.kia_one Z I.kIn p e hx ?_
  exact fun tk => ⟨.bl b, H, I.tok tk, rfl, q⟩
theorem call_isET : CallR X (.builtin "isinstance") (rIsET X.K) := by
  intro pins s σ H xs us Q I r h
  obtain ⟨x, tp, cs, t, ws, b, rfl, hT, k, ty, e, q⟩ := h
  obtain ⟨u1, u2, rfl, r1, r2⟩ := vals2 r
  cases r2
  obtain ⟨P, Z, p, hx⟩ := kit_ofE I r1 ty
  obtain ⟨_, its, rv, o, h1, h2, n, h3⟩ := I.hok tp _ hT
  have e3 := ClsV.all k rv
  subst e3
  cases o
  simp only at h2 h3
  subst h2 h3
  refine PySem.W.kia_tup Z I.kIn p h1 e hx ?_
  exact fun tk => ⟨.bl b, H, I.tok tk, rfl, q⟩
/-- e.f of a known exception -/
def tXfE (K : PySem.W.Frag) (f : Str) (te : TE) : TE := fun σ H Q => te σ H fun x H1 => ∃ (a C dd : Addr) (fs : List (Str × V)) (v : V), x = .ref a ∧ XfC K C ∧ PySem.W.findIn K (.ref C) f = some none ∧ H1 a = some (XO (.ref C) (some dd) a) ∧ H1 dd = some (.xd fs) ∧ fs.lookup f = some v ∧ Q v H1
theorem pe_xfE {e : Expr} {te : TE} {pos : Pos} {n : Str} (he : PE X e te) (hb : attributeBase e n X.env (eval e X.env) = eval e X.env := by rfl) : PE X (.Attribute e n pos) (tXfE X.K n te) := by
  refine ⟨fun pins s σ H Q I h => attr_of hb (thn (he.run pins s σ H _ I h) fun u s1 hh => ?_)⟩
  obtain ⟨x, H1, I1, rx, a, C, dd, fs, v, rfl, T, hno, ha, hd, l, q⟩ := hh
  cases rx
  obtain ⟨oe, od, J, hoo⟩ := xo_inst I1.hok ha (fun z e => by cases e; exact ⟨fs, hd⟩)
  obtain ⟨o, rfl, ho⟩ := hoo dd rfl
  obtain ⟨mA, hns, hr⟩ := (show ObjOk X.prog X.w H1 s1.heap dd (.xd fs) from I1.hok dd _ hd)
  obtain ⟨o', ho', hl⟩ := lookIn_ns hns
  rw [ho] at ho'
  cases ho'
  obtain ⟨u, hu, ru⟩ := RelO.some_of (v := v) (o := mA n) (by rw [← l]; exact hr n)
  refine HandSPX.exc_get I1.kIn J T.ga T.gg T.exC (PySem.W.findObj_own T.hdC hno rfl (by rw [hl, hu])) (handed_of ru) ?_
  exact ⟨v, H1, I1.tok _, ru, q⟩
end
end GX
set_option Elab.async false
set_option linter.all false
set_option maxRecDepth 100000
set_option maxHeartbeats 4000000
/-! An own exception class whose __init__ says super().__init__(text), then stores a field. -/
namespace GX
open PySem PySem.Spec PySem.W PyProof.Rows L2
section
variable {X : Cx} {pins : List (Addr × Obj)} {σ : L2.St} {H : Hp} {s : Shared}
/-- ValueError.__init__ bound to an instance, called -/
theorem call_mw {A : Around} {E Q : Value → Shared → Prop} {a C u : Addr} {rest : List Value} (T : OexC X.K C) (I : L2.Inv X pins σ H s) (ha : H a = some (exo a C none)) (hu : s.heap.get? u = some (kxs_mw "ValueError.__init__" a)) (hl : rest.length ≤ sizeLine) (q : ∀ s', L2.Inv X pins σ H s' → Q .none s') :
    wpAny (model X.prog X.w) A (call (.ref u) rest) Q E s := by
  obtain ⟨t1, he⟩ := exo_at I.hok ha
  obtain ⟨nm, qn, N, bs, bm, sn, sub, ab, col, dd, k0, k1, k2, k3, k5, lk, hb⟩ := T.cls
  have hC := I.kIn C _ lk
  obtain ⟨h, g, d, tk, os⟩ := s
  refine wpAny_call (codeAny_of_tree ?_)
  show wpAny _ _ (callAny (.ref u) ⟨rest, []⟩) _ _ _
  unfold callAny
  refine wpAny_bind (wpAny_load hu ?_)
  refine KFB.if_so (by show (Value.type "method-wrapper" == Value.type "method" || Value.type "method-wrapper" == Value.type "builtin_function_or_method" || Value.type "method-wrapper" == Value.type "method-wrapper") = true; decide +kernel) ?_
  refine KFB.if_so (by show (Value.type "method-wrapper" != Value.type "method") = true; decide +kernel) ?_
  refine wpAny_bind ?_
  refine ESX.check_bound F.excBase_ValueError hC he rfl ?_
  refine wpAny_pure ⟨plainId_quiet F.excBase_ValueError.toExcCallFacts.init.plain _, ?_⟩
  refine codeAny_builtin F.excBase_ValueError.toExcCallFacts.initEntry ?_
  refine exc_init_tree (e := a) (t0 := t1) (cls := .ref C) (dv := none) (c2 := .none) (c3 := .none) (b4 := .bool false) he hl fun h' k1 k2 k3 => ?_
  have J := I.write (x := a) (e := a) (h' := h') (o := exo a C none) (t' := tk) (by rw [ha]; trivial) (.inl rfl) (fun b v hb e => k1 b v hb e) ⟨_, k2⟩ (exo_ok k2)
  have eH : L2.upd H a (exo a C none) = H := by
    funext b
    by_cases z : b = a
    · rw [z, upd_same, ha]
    · rw [upd_ne z]
  rw [eH] at J
  exact q _ J
end
end GX
set_option Elab.async false
set_option linter.all false
set_option maxRecDepth 100000
set_option maxHeartbeats 4000000
/-! super().__init__(text) in an __init__ of an own exception. -/
namespace GX
open PySem PySem.Spec PySem.W PyProof.Rows L2
/-- what is known of an own exception's __init__ that calls super's: its object, its cell, its code -/
structure SupF (P : Program) (K : PySem.W.Frag) (mg : Str → Option Value) (C f c cl : Addr) (fd : FuncData) (fld : Str) : Prop where
  lk : ∃ oc od osl, K.lookup f = some ⟨oc, od, .func fd, osl⟩
  cell : ∃ oc od osl, K.lookup cl = some ⟨oc, od, .cell (some (.ref C)), osl⟩
  code : fd.code = .ref c
  rec_ : ∃ oc od vs osl t1 file t2, K.lookup c = some ⟨oc, od, .fields vs, osl⟩ ∧ vs[1]? = some (.str fd.qualname t1) ∧ vs[2]? = some (.str file t2) ∧ (P.main.file == file) = true
  main : (P.main.scope.names.lookup ("super" : Str)).isSome = false
  clos : fd.closure = [(("__class__" : Str), cl)]
  glob : fd.globals = mainGlobals
  blt : fd.builtins = builtinsNs
  kind : fd.scope.kind = .function
  co : fd.scope.isCoroutine = false
  gen : fd.scope.isGenerator = false
  names : fd.scope.names = ([(("self" : Str), NameKind.local), (fld, NameKind.local), (("__class__" : Str), NameKind.free), (("super" : Str), NameKind.globalImplicit)] : List (Str × NameKind))
  par : ∃ ar, (fd.params.posonlyargs ++ fd.params.args).head? = some ar ∧ ar.arg = "self"
  T : OexC K C
  sup : ks_superIn K C C "__init__" = some (some (.builtin "ValueError.__init__"))
  sub : subIn K (.ref C) (.type "ValueError") = some true
  self : mroIn K C (.ref C) = some true
  fnd : findIn K (.ref C) fld = some none
  opq : nsIn K cStatics "thirdparty.any" = some none
  ns : mg "super" = none
  fne : ("self" : Str) ≠ fld ∧ ("__class__" : Str) ≠ fld ∧ ("super" : Str) ≠ fld
  dbg : (fld == ("__debug__" : Str)) = false
  cdi : (fld == ("__classdict__" : Str)) = false
/-- the context of its body -/
def supX (P : Program) (w : World) (K : PySem.W.Frag) (mg : Str → Option Value) (base : Heap) (A : Around) (outer : List Env) (s : Shared) (H : Hp) (fd : FuncData) (f : Addr) (fld : Str) : Cx :=
  { prog := P, w := w, K := K, mg := mg, base := base, A := A.deeper (callEnv fd s.heap.objs.size f), N := ["self", fld], s_0 := s, H_0 := H, env := callEnv fd s.heap.objs.size f, outer := outer, stack := callEnv fd s.heap.objs.size f :: outer, ex := [], fn := fun _ => false, calm := true, pn := [], xe := fun _ _ => False }
section
variable {P : Program} {w : World} {K : PySem.W.Frag} {mg : Str → Option Value} {base : Heap} {C f c cl : Addr} {fd : FuncData} {fld : Str}
theorem SupF.look (S : SupF P K mg C f c cl fd fld) : fd.scope.names.lookup ("self" : Str) = some .local ∧ fd.scope.names.lookup fld = some .local ∧ fd.scope.names.lookup ("__class__" : Str) = some .free ∧ fd.scope.names.lookup ("super" : Str) = some .globalImplicit := by
  obtain ⟨h1, h2, h3⟩ := S.fne
  rw [S.names]
  have b : ∀ x : Str, (x == x) = true := fun x => beq_self_eq_true x
  have n : ∀ {x y : Str}, x ≠ y → (x == y) = false := fun h => by simpa using h
  refine ⟨?_, ?_, ?_, ?_⟩
  · rw [List.lookup_cons, b]
  · rw [List.lookup_cons, n (Ne.symm h1), List.lookup_cons, b]
  · rw [List.lookup_cons, show (("__class__" : Str) == "self") = false by decide +kernel, List.lookup_cons, n h2, List.lookup_cons, b]
  · rw [List.lookup_cons, show (("super" : Str) == "self") = false by decide +kernel, List.lookup_cons, n h3, List.lookup_cons, show (("super" : Str) == "__class__") = false by decide +kernel, List.lookup_cons, b]
theorem SupF.free (S : SupF P K mg C f c cl fd fld) {x : Str} (h : fd.scope.names.lookup x = some .cell ∨ fd.scope.names.lookup x = some .free) : x = "__class__" := by
  rw [S.names] at h
  rcases h with h | h
  all_goals
    have := PySem.mem_of_lookup h
    simp only [List.mem_cons, Prod.mk.injEq, List.not_mem_nil, or_false] at this
    rcases this with ⟨_, z⟩ | ⟨_, z⟩ | ⟨e, z⟩ | ⟨_, z⟩
    all_goals first | exact e | cases z
theorem sup_inv {A : Around} {outer : List Env} {s : Shared} {H : Hp} {a : Addr} {v : V} {u : Value} {h1 : Heap} {tk : Nat} (S : SupF P K mg C f c cl fd fld) (e : Env0 P w K mg base A outer s H) (hh : A.handled = none) (rv : RelV v u)
    (hns : h1.Ns s.heap.objs.size fun y => [(("self" : Str), Value.ref a), (fld, u)].reverse.lookup y) (kp : ∀ b o, s.heap.get? b = some o → h1.get? b = some o) :
    L2.Inv (supX P w K mg base A outer s H fd f fld) [] [some (.ref a), some v] H { s with heap := h1, toks := tk } := by
  obtain ⟨l0, l1, l2, l3⟩ := S.look
  obtain ⟨oc, od, osl, hcl⟩ := S.cell
  have hclb := e.bs cl _ (e.mod.kin cl _ hcl)
  have cells : (supX P w K mg base A outer s H fd f fld).env.cells = [(("__class__" : Str), cl)] := S.clos
  have one : ∀ {x : Str} {b : Addr}, (supX P w K mg base A outer s H fd f fld).env.cells.lookup x = some b → x = "__class__" ∧ b = cl := fun {x b} h => by
    rw [cells] at h
    have := PySem.mem_of_lookup h
    rw [List.mem_singleton] at this
    cases this
    exact ⟨rfl, rfl⟩
  have noA : ∀ b : Addr, b ∉ (supX P w K mg base A outer s H fd f fld).ex := fun b z => absurd (show b ∈ ([] : List Addr) from z) (by simp)
  refine ⟨⟨e.mod, S.kind, S.glob, S.blt, Nat.le_refl _, fun x y b h1 h2 => ((one h1).1).trans ((one h2).1).symm, fun x hx => ?_, fun x b z _ => ?_, fun _ => hh, Around.frames_deeper e.frames, .inr ⟨rfl, rfl⟩, fun b z => absurd z (noA b), e.bs, e.bsz, fun b _ _ => noA b, fun b z => absurd z (noA b), e.funs, e.frf⟩,
    rfl, e.bare, Un.kept kp, ⟨_, hns, fun i x v' h1 h2 h3 => ?_⟩, fun x b h => ?_, e.hok.fresh (Nat.le_refl _), fun x b h => ?_, fun q hq => absurd (show q ∈ ([] : List (Addr × Obj)) ++ [] from hq) (by simp), e.hok.kept kp, rfl⟩
  · refine ⟨cl, ?_⟩
    rw [S.free hx, cells, List.lookup_cons, beq_self_eq_true]
  · have z : false = true := z
    cases z
  · have h1 : [("self" : Str), fld][i]? = some x := h1
    match i, h1, h2 with
    | 0, h1, h2 =>
      cases h1
      cases h2
      refine ⟨.ref a, rfl, .inl ⟨l0, ?_⟩⟩
      show List.lookup ("self" : Str) [(fld, u), (("self" : Str), Value.ref a)] = _
      rw [List.lookup_cons, show (("self" : Str) == fld) = false by simpa using S.fne.1, List.lookup_cons, beq_self_eq_true]
    | 1, h1, h2 =>
      cases h1
      cases h2
      refine ⟨u, rv, .inl ⟨l1, ?_⟩⟩
      show List.lookup fld [(fld, u), (("self" : Str), Value.ref a)] = _
      rw [List.lookup_cons, beq_self_eq_true]
    | i + 2, h1, h2 => simp at h2
  · obtain ⟨rfl, rfl⟩ := one h
    exact ⟨_, _, kp _ _ hclb.1, rfl⟩
  · obtain ⟨rfl, rfl⟩ := one h
    exact hclb.2
theorem wpAt_of {α : Type} {M : Model} {A : Around} {cd : Code} {t : Sem α} {Q : α → Shared → Prop} {E : Value → Shared → Prop} {s : Shared} (h : wpAny M A t Q E s) : PySem.wpAt M A cd t Q E s := fun Γ p _ hi => h Γ p hi
/-- what is stored of the instance -/
def spSup (C : Addr) (fld : Str) : Sp := fun vs H Q _ => ∃ (a : Addr) (i : Int), vs = [.ref a, .int i] ∧ H a = some (exo a C none) ∧ i.natAbs.log2 < 1920 ∧ (Str.ofString (toString i)).length ≤ 1000 ∧ ∀ d, H d = none → d ≠ a → Q .non (L2.upd (L2.upd H d (exd d [(fld, .int i)])) a (exo a C (some d)))
theorem sup_run {es : List Expr} {pj p0 p1 p2 p3 p4 p5 p6 p7 p8 : Pos} {k : Nat} (S : SupF P K mg C f c cl fd fld)
    (hbody : fd.body = .stmts [.Expr (.Call (.Attribute (.Call (.Name "super" p0) [] [] p1) "__init__" p2) [.JoinedStr es pj] [] p3) p4, .Assign [.Attribute (.Name "self" p5) fld p6] (.Name fld p7) p8])
    (hev : ∃ pl : Addr → Sem Bool, ∀ L : Addr, eval (.Call (.Attribute (.Call (.Name "super" p0) [] [] p1) "__init__" p2) [.JoinedStr es pj] [] p3) (callEnv fd L f) = do
      let ov ← attributeBase (.Call (.Name "super" p0) [] [] p1) "__init__" (callEnv fd L f) (eval (.Call (.Name "super" p0) [] [] p1) (callEnv fd L f))
      standAt p2.atName
      let __x ← holding [ov] (getMethod ov "__init__" (pl L))
      match __x with
        | (f0, first) => callWith p3 f0 first (backTo p3 (starEach [.JoinedStr es pj] (callEnv fd L f))) [])
    (harg : ∀ X : Cx, X.N = [("self" : Str), fld] → Vis X.env.scope fld → ∃ ta, PA X [.JoinedStr es pj] ta ∧ ∀ σ H (Q : List V → Hp → Prop) (i : Int), σ[1]? = some (some (V.int i)) → i.natAbs.log2 < 1920 → (Str.ofString (toString i)).length ≤ 1000 → (∀ z : Str, Q [V.str z] H) → ta σ H Q) :
    FnOk P w K mg base L2.CX0 (k + 1) f fd ["self", fld] (spSup C fld) := by
  obtain ⟨pl, hev⟩ := hev
  obtain ⟨l0, l1, l2, l3⟩ := S.look
  obtain ⟨oc, od, osl, lk⟩ := S.lk
  obtain ⟨occ, odc, vs, oscl, t1, file, t2, lkc, hv1, hv2, hfile⟩ := S.rec_
  obtain ⟨ocl, odl, oscl2, lkl⟩ := S.cell
  refine ⟨fun vs H Q E h => ?_, fun A outer s H args us vs' Q E hr e hb rv hsp => ?_⟩
  · obtain ⟨a, i, rfl, _⟩ := h
    rfl
  · obtain ⟨a, i, rfl, ha, hi, hil, q⟩ := hsp
    match us, rv with
    | [u0, u1], .cons r0 (.cons r1 .nil) =>
    obtain rfl : u0 = .ref a := r0
    have at_ : ∀ b o, K.lookup b = some o → s.heap.get? b = some o := fun b o h => (e.bs b o (e.mod.kin b o h)).1
    have hf := at_ f _ lk
    have hc := at_ c _ lkc
    refine ks_codeAny_call_defAt (by have := hr.dp; omega) hf rfl (e.mod.nolimit.keeps fun b o h => (e.bs b o h).1) ⟨c, _, vs, t1, S.code, hc, rfl, hv1⟩ hbody hb (fun y hy => ?_) (fun y hy => ?_) (fun h0 hns kp => ?_) S.co S.gen S.kind
    · rw [S.names] at hy
      simp only [List.mem_cons, List.not_mem_nil, or_false] at hy
      rcases hy with rfl | rfl | rfl | rfl <;> (intro z; cases z)
    · have hy : y ∈ [(("self" : Str), Value.ref a), (fld, u1)] := hy
      simp only [List.mem_cons, List.not_mem_nil, or_false] at hy
      rcases hy with rfl | rfl
      · exact l0
      · exact l1
    have J0 := sup_inv (tk := s.toks + ([("self" : Str), fld].zip [Value.ref a, u1]).length) (h1 := h0) S e hr.hd r1 hns kp
    obtain ⟨mb, hmb, hmb2⟩ := e.mod.blt
    have bk : ∀ b o, base.get? b = some o → h0.get? b = some o := fun b o h => kp b o (e.bs b o h).1
    have kin0 : K.In h0 := fun b o h => kp b o (at_ b o h)
    obtain ⟨nm, qn, NN, bs, bm, sn, sub, ab, col, dd, k0, k1, k2, k3, k5, lkC, hbm⟩ := S.T.cls
    have hC0 := kin0 C _ lkC
    have hac : a ≠ C := fun z => by
      have := (e.bs C _ (e.mod.kin C _ lkC)).2
      rw [← z, ha] at this
      cases this
    obtain ⟨tx, hx⟩ := exo_at e.hok ha
    have hx0 := kp a _ hx
    obtain ⟨ar, har, hself⟩ := S.par
    obtain ⟨hs, gs, ds, ts, os⟩ := s
    refine ks_wpAt_execs_cons (ks_wpAt_Expr_any (hi := by show interactive (callEnv fd hs.objs.size f) = false; unfold interactive; simp [callEnv, newEnv, S.kind]) (ks_wpAt_MethodCall (pl := pl _) (he := hev _) (ks_wpAt_super_base l3 l2 (by decide +kernel) rfl (kp f _ hf) rfl har S.code (kp c _ hc) rfl hv2 hfile S.main ?_)))
    refine ks_loadName_global S.kind l3 (Calls.loadGlobal_builtin (mg := mg) (mb := mb) (by show h0.Ns fd.globals mg; rw [S.glob]; exact e.mod.glob.keeps bk) S.ns (by show h0.Ns fd.builtins mb; rw [S.blt]; exact hmb.keeps bk) ((hmb2 _ (by decide +kernel)).trans (show bootBuiltins "super" = some (.type "super") by decide +kernel)) ⟨rfl, ?_⟩)
    refine wpAny_loadName_free S.kind l2 (c := cl) (v := .ref C) (by show List.lookup _ fd.closure = _; rw [S.clos, List.lookup_cons, beq_self_eq_true]) ⟨_, kp cl _ (at_ cl _ lkl), rfl⟩ ?_
    rw [hself]
    refine wpAny_loadName_local S.kind l0 hns (v := .ref a) (by
      show List.lookup ("self" : Str) [(fld, u1), (("self" : Str), Value.ref a)] = _
      rw [List.lookup_cons, show (("self" : Str) == fld) = false by simpa using S.fne.1, List.lookup_cons, beq_self_eq_true]) ?_
    refine ks_wpAny_isType_cls hC0 rfl ⟨rfl, ?_⟩
    refine ks_wpAny_call_super hC0 rfl hx0 rfl (fun _ z => by cases z) (looks_mroIn kin0 S.self) (fun h' hso hk' => ?_)
    have kin1 : K.In h' := fun b o h => hk' b o (kin0 b o h)
    have hx1 := hk' a _ hx0
    obtain ⟨cd, hcd, hal⟩ := Option.bind_eq_some_iff.mp S.sup
    have hopq : Looks (model P w) h' (opaqueClassAbove (.ref C)) none := looks_opaque kin1 S.opq
    have hmro : Looks (model P w) h' (mroOf (.ref C)) cd.mro := fun A' Q' E' s' hk q' => wpAny_bind (looks_clsIn kin1 hcd A' _ E' s' hk (wpAny_pure q'))
    have hins : Looks (model P w) h' (isInstance (.ref a) (.type "ValueError")) true := fun A' Q' E' s' hk q' => by
      obtain ⟨h2, g2, d2, t2', o2⟩ := s'
      exact wpAny_bind (wpAny_bind (wpAny_loadPart' (hk a _ hx1) (wpAny_pure (looks_subIn kin1 S.sub A' Q' E' _ hk q'))))
    refine kxs_getMethod kxs_ValueError hso hopq hmro rfl kin1 hal hins hac (by decide +kernel) ?_
    have uno : h'.get? h'.objs.size = none := by
      cases hz : h'.get? h'.objs.size with
      | none => rfl
      | some o => exact absurd (Heap.lt_size hz) (Nat.lt_irrefl _)
    have J1 := J0.kept (h' := h') (t' := ts + ([("self" : Str), fld].zip [Value.ref a, u1]).length) hk'
    have fp := J1.fpOk (Nat.le_refl _) (J1.hok.fresh (Nat.le_refl _))
    have J2 := J1.kept (h' := h'.push (kxs_mw "ValueError.__init__" a)) (t' := ts + ([("self" : Str), fld].zip [Value.ref a, u1]).length + 1) fun b o h => Heap.get?_push_of_some _ h
    have hu : (h'.push (kxs_mw "ValueError.__init__" a)).get? h'.objs.size = some (kxs_mw "ValueError.__init__" a) := Heap.get?_push_size _ rfl
    have J3 := Inv.pin1 J2 fp hu (fun v z => by cases z)
    obtain ⟨ta, hpa, hta⟩ := harg (supX P w K mg base A outer ⟨hs, gs, ds, ts, os⟩ H fd f fld) rfl (.inl l1)
    refine kxs_callWith1 (h₀ := h') (L := h'.objs.size + 1) (news := [(h'.objs.size, kxs_mw "ValueError.__init__" a)]) (fun p hp => by
      rw [List.mem_singleton.mp hp]
      exact ⟨hu, Nat.ne_of_lt (Nat.lt_succ_self _), uno⟩) List.mem_cons_self ?_
    refine wpAny_mono (hpa.run p3 _ _ _ H (fun vs H1 => (∃ z, vs = [V.str z]) ∧ H1 = H) J3 (hta _ H _ i rfl hi hil fun z => ⟨⟨z, rfl⟩, rfl⟩)) (fun us' s4 hq => ?_) fun _ _ z => z.elim
    obtain ⟨vs4, H4, J4, rv4, ⟨z, rfl⟩, rfl⟩ := hq
    have hp4 := (J4.pin (h'.objs.size, kxs_mw "ValueError.__init__" a) (List.mem_append_right _ List.mem_cons_self)).1
    refine ⟨hp4, ?_⟩
    refine call_mw S.T J4 ha hp4 (by rw [← rv4.length]; exact small 1) fun s5 J5 => ?_
    refine ks_wpAt_execs_cons (wpAt_of (wpAny_mono ((ps_ost (X := supX P w K mg base A outer ⟨hs, gs, ds, ts, os⟩ H4 fd f fld) (pe_var (i := 0) rfl (.inl l0)) (pe_var (i := 1) rfl (.inl l1) S.dbg S.cdi)).run _ _ _ H4 { nx := fun _ H' => Q .non H', rt := fun _ _ => False } J5 ⟨V.int i, rfl, .ref a, rfl, a, C, rfl, S.T, S.fnd, .inl ⟨ha, fun dx h1 h2 => q dx h1 h2⟩⟩) (fun fl s6 hfl => ?_) fun _ _ z => z.elim))
    cases fl with
    | next =>
      obtain ⟨σ6, H6, J6, q6⟩ := hfl
      refine wpAt_of (wpAny_pure ?_)
      exact ⟨.non, H6, J6.os, J6.bare, J6.base, J6.hok, rfl, q6⟩
    | brk =>
      obtain ⟨_, _, _, z⟩ := hfl
      exact z.elim
    | cont =>
      obtain ⟨_, _, _, z⟩ := hfl
      exact z.elim
    | ret u =>
      obtain ⟨_, _, _, _, _, z⟩ := hfl
      exact z.elim
/-- a text of two parts, the second one a number -/
theorem js2 {X : Cx} {fld s0 : Str} {j : Nat} {q0 q1 q2 pj : Pos} (hs : s0.length ≤ 1000) (hN : X.N = [("self" : Str), fld]) (hv : Vis X.env.scope fld) (d1 : (fld == ("__debug__" : Str)) = false) (d2 : (fld == ("__classdict__" : Str)) = false) :
    ∃ ta, PA X [.JoinedStr [.Constant (.str s0) j q0, .FormattedValue (.Name fld q1) (-1) none q2] pj] ta ∧ ∀ σ H (Q : List V → Hp → Prop) (i : Int), σ[1]? = some (some (V.int i)) → i.natAbs.log2 < 1920 → (Str.ofString (toString i)).length ≤ 1000 → (∀ z : Str, Q [V.str z] H) → ta σ H Q := by
  refine ⟨_, pa_cons (pe_joined (.cons pe_str (.cons (pe_fmt (pe_var (i := 1) (by rw [hN]; rfl) hv d1 d2)) .nil))) pa_nil, fun σ H Q i h1 h2 h3 q => ?_⟩
  refine ⟨s0, rfl, ?_, V.int i, h1, .inr ⟨i, rfl, h2, _, rfl, ?_, q _⟩⟩
  · rw [Str.length_append]
    exact Nat.le_trans (show (Str.empty).length + s0.length ≤ 2000 by show 0 + s0.length ≤ 2000; omega) (by decide)
  · rw [Str.length_append, Str.length_append]
    exact Nat.le_trans (show (Str.empty).length + s0.length + (Str.ofString (toString i)).length ≤ 3000 by show 0 + s0.length + _ ≤ 3000; omega) (by decide)
/-- a text of three parts, the second one a number -/
theorem js3 {X : Cx} {fld s0 s2 : Str} {j j2 : Nat} {q0 q1 q2 q3 pj : Pos} (hs : s0.length ≤ 1000) (hs2 : s2.length ≤ 1000) (hN : X.N = [("self" : Str), fld]) (hv : Vis X.env.scope fld) (d1 : (fld == ("__debug__" : Str)) = false) (d2 : (fld == ("__classdict__" : Str)) = false) :
    ∃ ta, PA X [.JoinedStr [.Constant (.str s0) j q0, .FormattedValue (.Name fld q1) (-1) none q2, .Constant (.str s2) j2 q3] pj] ta ∧ ∀ σ H (Q : List V → Hp → Prop) (i : Int), σ[1]? = some (some (V.int i)) → i.natAbs.log2 < 1920 → (Str.ofString (toString i)).length ≤ 1000 → (∀ z : Str, Q [V.str z] H) → ta σ H Q := by
  refine ⟨_, pa_cons (pe_joined (.cons pe_str (.cons (pe_fmt (pe_var (i := 1) (by rw [hN]; rfl) hv d1 d2)) (.cons pe_str .nil)))) pa_nil, fun σ H Q i h1 h2 h3 q => ?_⟩
  refine ⟨s0, rfl, ?_, V.int i, h1, .inr ⟨i, rfl, h2, _, rfl, ?_, s2, rfl, ?_, q _⟩⟩
  · rw [Str.length_append]
    exact Nat.le_trans (show (Str.empty).length + s0.length ≤ 2000 by show 0 + s0.length ≤ 2000; omega) (by decide)
  · rw [Str.length_append, Str.length_append]
    exact Nat.le_trans (show (Str.empty).length + s0.length + (Str.ofString (toString i)).length ≤ 3000 by show 0 + s0.length + _ ≤ 3000; omega) (by decide)
  · rw [Str.length_append, Str.length_append, Str.length_append]
    exact Nat.le_trans (show (Str.empty).length + s0.length + (Str.ofString (toString i)).length + s2.length ≤ 4000 by show 0 + s0.length + _ + _ ≤ 4000; omega) (by decide)
end
/-- an own exception made with a number, which it bears as a field -/
structure SupI (P : Program) (w : World) (K : PySem.W.Frag) (mg : Str → Option Value) (base : Heap) (x : Str) (C : Addr) (fld : Str) (k : Nat) : Prop where
  T : OexC K C
  ex : ∃ fI fd, findIn K (.ref C) "__init__" = some (some (.ref fI)) ∧ typeIn K (.ref fI) = some (.type "function") ∧ FnOk P w K mg base L2.CX0 k fI fd ["self", fld] (spSup C fld) ∧ Binds K fd ["self", fld] []
  g : mg x = some (.ref C)
theorem pmk_sup {X : Cx} {x fld : Str} {C : Addr} {k j : Nat} {e : Expr} {ta : TA} {p pos : Pos} (I : SupI X.prog X.w X.K X.mg X.base x C fld k) (hr : Room j X.A) (hk : k + 1 ≤ j) (hg : Gl X x) (ha : PA X [e] ta) (hd : (x == ("__debug__" : Str)) = false := by decide +kernel)
    (hs : starEach [e] X.env = (false, eval e X.env) :: starEach [] X.env := by rfl) :
    PMk X (.Call (.Name x p) [e] [] pos) (tMkO C (spSup C fld) [] ta) := by
  obtain ⟨fI, fd, h1, h2, F, B⟩ := I.ex
  exact pmk_oex I.T h1 h2 F (hr.mono hk) B .nil (fun _ _ _ _ _ _ _ z => z.elim) hg I.g ha hd hs rfl
/-- what is read of it -/
theorem sup_read {C : Addr} {fld : Str} {i : Int} {H1 : Hp} {Q : XK} (h1 : i.natAbs.log2 < 1920) (h2 : (Str.ofString (toString i)).length ≤ 1000) (q : ∀ d, H1 d = none → Q (.ref C) (some d) (L2.upd H1 d (.xd [(fld, .int i)]))) :
    [V.int i].length ≤ 1000 ∧ ∀ a, H1 a = none → spSup C fld (.ref a :: ([V.int i] ++ [])) (L2.upd H1 a (exo a C none)) (fun v H2 => v = .non ∧ ∃ d fs, H2 a = some (exo a C (some d)) ∧ H2 d = some (exd d fs) ∧ H1 d = none ∧ Q (.ref C) (some d) (L2.upd (L2.del H2 a) d (.xd fs))) (fun _ _ _ => False) := by
  refine ⟨by show 1 ≤ 1000; decide, fun a na => ⟨a, i, rfl, upd_same, h1, h2, fun d hd hda => ⟨rfl, d, [(fld, .int i)], upd_same, ?_, ?_, ?_⟩⟩⟩
  · rw [upd_ne hda, upd_same]
  · rw [upd_ne hda] at hd
    exact hd
  · rw [upd_ne hda] at hd
    have e : L2.upd (L2.del (L2.upd (L2.upd (L2.upd H1 a (exo a C none)) d (exd d [(fld, V.int i)])) a (exo a C (some d))) a) d (.xd [(fld, V.int i)]) = L2.upd H1 d (.xd [(fld, V.int i)]) := by
      funext b
      by_cases z : b = d
      · rw [z, upd_same, upd_same]
      · rw [upd_ne z, upd_ne z]
        unfold L2.del
        by_cases y : b = a
        · rw [if_pos y, y, na]
        · rw [if_neg y, upd_ne y, upd_ne z, upd_ne y]
    rw [e]
    exact q d hd
/-- e.f of a known exception, the base's reading handed in -/
theorem pe_xfB {X : Cx} {K : PySem.W.Frag} {e : Expr} {te : TE} {pos : Pos} {n : Str} (hK : X.K = K) (he : PE X e te) (hb : attributeBase e n X.env (eval e X.env) = eval e X.env) : PE X (.Attribute e n pos) (tXfE K n te) := by
  subst hK
  exact pe_xfE he hb
theorem call_isE1K {X : Cx} {K : PySem.W.Frag} (hK : X.K = K) : CallR X (.builtin "isinstance") (rIsE1 K) := by
  subst hK
  exact call_isE1
theorem call_isETK {X : Cx} {K : PySem.W.Frag} (hK : X.K = K) : CallR X (.builtin "isinstance") (rIsET K) := by
  subst hK
  exact call_isET
end GX
set_option Elab.async false
set_option linter.all false
set_option maxRecDepth 100000
set_option maxHeartbeats 4000000
/-! Methods of classes of the program. -/
namespace GX
open PySem PySem.Spec PyProof.Rows L2
open C8 (Met Mak)
/-- the j-th statement of a class -/
def mthS : Stmt → Nat → Stmt
  | .ClassDef _ _ _ b _ _ _ _ _ _ _, j => b.getD j (.Pass ⟨0, 0, 0, 0⟩)
  | s, _ => s
structure Mtd (K : PySem.W.Frag) (C : Addr) (m qual : Str) (st : Stmt) (f c : Addr) : Prop where
  ex : ∃ (oc : Value) (od : Option Addr) (kV doc pm : Value) (an : Option Addr) (ct : Value) (osl : Array (Option Value)),
    K.lookup f = some ⟨oc, od, .func (PySem.W.fnOf m qual (defArgs st) (defBody st) (defScope st) .none kV doc pm an (.ref c) ct), osl⟩
  hcd : PySem.W.codeIn K (.ref c) qual = true
  cl : Cls K C
  mt : Meth K C m f
section
variable {P : Program} {w : World} {K : PySem.W.Frag} {mg : Str → Option Value} {base : Heap}
theorem met {C : Addr} {m qual : Str} {st : Stmt} {f c : Addr} {N ps : List Str} {k : Nat} {sp : Sp} (D : Mtd K C m qual st f c)
    (hb : ∀ (kV doc pm : Value) (an : Option Addr) (cdv ct : Value) (us : List Value), us.length = ps.length → bindArgs (PySem.W.fnOf m qual (defArgs st) (defBody st) (defScope st) .none kV doc pm an cdv ct) ⟨us, []⟩ = pure (ps.zip us))
    (S : FnScope N ps (defScope st)) (len : ∀ vs H Q E, sp vs H Q E → vs.length = ps.length)
    (hbody : ∀ (A : Around) (outer : List Env) (s : Shared) (H : Hp) (vs : List V) (Q : VK) (E : XK), Room k (A.deeper (envOfC qual (defScope st) s.heap.objs.size f (.ref c))) → sp vs H Q E →
      ∃ t, PSs (cxOf CX0 P w K mg base N qual (defScope st) f (.ref c) A outer s H E).nox (defBody st) t ∧ t { nx := fun _ H' => Q .non H', rt := Q } (start N vs) H) : Met P w K mg base (k + 1) C m sp [] := by
  obtain ⟨oc, od, kV, doc, pm, an, ct, osl, lk⟩ := D.ex
  refine ⟨f, _, ps, [], D.cl, D.mt, fn_of lk D.hcd S len (fun A outer s H vs Q E hr hsp => ?_), .all (hb kV doc pm an (.ref c) ct), .nil⟩
  obtain ⟨t, h, q⟩ := hbody A outer s H vs Q E hr hsp
  exact ⟨t, h.nox, q⟩
/-- a class made by its __init__ -/
theorem mak {C : Addr} {x qual : Str} {st : Stmt} {f c : Addr} {N ps : List Str} {k : Nat} {sp : Sp} (D : Mtd K C "__init__" qual st f c) (hm : mg x = some (.ref C)) (mk : PySem.W.makesIn K C = true) (kp : PySem.W.keepIn K (.ref C) = true)
    (hb : ∀ (kV doc pm : Value) (an : Option Addr) (cdv ct : Value) (us : List Value), us.length = ps.length → bindArgs (PySem.W.fnOf "__init__" qual (defArgs st) (defBody st) (defScope st) .none kV doc pm an cdv ct) ⟨us, []⟩ = pure (ps.zip us))
    (S : FnScope N ps (defScope st)) (len : ∀ vs H Q E, sp vs H Q E → vs.length = ps.length)
    (hbody : ∀ (A : Around) (outer : List Env) (s : Shared) (H : Hp) (vs : List V) (Q : VK) (E : XK), Room k (A.deeper (envOfC qual (defScope st) s.heap.objs.size f (.ref c))) → sp vs H Q E →
      ∃ t, PSs (cxOf CX0 P w K mg base N qual (defScope st) f (.ref c) A outer s H E).nox (defBody st) t ∧ t { nx := fun _ H' => Q .non H', rt := Q } (start N vs) H) : Mak P w K mg base (k + 1) x C sp [] := by
  obtain ⟨oc, od, kV, doc, pm, an, ct, osl, lk⟩ := D.ex
  refine ⟨f, _, ps, [], ⟨mk, D.mt.at_, D.mt.fn, kp⟩, fn_of lk D.hcd S len (fun A outer s H vs Q E hr hsp => ?_), hm, .all (hb kV doc pm an (.ref c) ct), .nil⟩
  obtain ⟨t, h, q⟩ := hbody A outer s H vs Q E hr hsp
  exact ⟨t, h.nox, q⟩
end
end GX
set_option Elab.async false
set_option linter.all false
set_option maxRecDepth 100000
set_option maxHeartbeats 4000000
namespace K52
open PySem PySem.Spec PyProof.Rows L2 GX
open C8 (Cal pe_c pe_gc)
-- @exc CoverError
-- @exc NoText
-- @exc NoDepth init=least
-- @exc TooMany made
-- @exc NoMatch
-- @exc NoChange
-- @exc NoRow
-- @sub NoDepth NoDepth true
-- @sub NoDepth CoverError true
-- @sub NoDepth ValueError true
-- @sub NoDepth NoChange false
-- @sub NoDepth NoMatch false
-- @sub NoDepth NoRow false
-- @sub NoDepth NoText false
-- @sub NoDepth TooMany false
-- @sub TooMany TooMany true
-- @sub TooMany CoverError true
-- @sub TooMany ValueError true
-- @sub TooMany NoChange false
-- @sub TooMany NoMatch false
-- @sub TooMany NoRow false
-- @sub TooMany NoText false
-- @sub TooMany NoDepth false
def topS (i : Nat) : Stmt := PySem.Challenge.pw_tablecover_k52_fewest_refused.main.body.getD i (.Pass ⟨0, 0, 0, 0⟩)
abbrev s_wires_of : Stmt := topS 1
theorem sc_wires_of : FnScope ["mask", "wire"] ["mask"] (defScope s_wires_of) := ⟨rfl, rfl, rfl, by decide +kernel, rfl, by decide +kernel, by decide +kernel⟩
abbrev s_fits : Stmt := topS 2
theorem sc_fits : FnScope ["mask", "k", "turn"] ["mask", "k"] (defScope s_fits) := ⟨rfl, rfl, rfl, by decide +kernel, rfl, by decide +kernel, by decide +kernel⟩
abbrev s_has_part : Stmt := topS 3
theorem sc_has_part : FnScope ["masks", "mask", "part"] ["masks", "mask"] (defScope s_has_part) := ⟨rfl, rfl, rfl, by decide +kernel, rfl, by decide +kernel, by decide +kernel⟩
abbrev s_wires_in : Stmt := topS 5
theorem sc_wires_in : FnScope ["net"] ["net"] (defScope s_wires_in) := ⟨rfl, rfl, rfl, by decide +kernel, rfl, by decide +kernel, by decide +kernel⟩
abbrev s_places : Stmt := topS 7
theorem sc_places : FnScope ["net", "gate", "kind", "one", "other"] ["net", "gate"] (defScope s_places) := ⟨rfl, rfl, rfl, by decide +kernel, rfl, by decide +kernel, by decide +kernel⟩
abbrev s_gate_masks : Stmt := topS 9
theorem sc_gate_masks : FnScope ["firsts", "seconds", "k", "found", "first", "second", "mask"] ["firsts", "seconds", "k"] (defScope s_gate_masks) := ⟨rfl, rfl, rfl, by decide +kernel, rfl, by decide +kernel, by decide +kernel⟩
abbrev s_cut_masks : Stmt := topS 10
theorem sc_cut_masks : FnScope ["net", "wires", "k", "masks", "wire", "one", "other"] ["net", "wires", "k"] (defScope s_cut_masks) := ⟨rfl, rfl, rfl, by decide +kernel, rfl, by decide +kernel, by decide +kernel⟩
abbrev s_told_cuts : Stmt := topS 11
theorem sc_told_cuts : FnScope ["masks", "mask"] ["masks"] (defScope s_told_cuts) := ⟨rfl, rfl, rfl, by decide +kernel, rfl, by decide +kernel, by decide +kernel⟩
abbrev s_all_cuts : Stmt := topS 12
theorem sc_all_cuts : FnScope ["net", "k", "wires", "masks", "gate", "one", "other", "wire"] ["net", "k"] (defScope s_all_cuts) := ⟨rfl, rfl, rfl, by decide +kernel, rfl, by decide +kernel, by decide +kernel⟩
abbrev s_one_deeper : Stmt := topS 14
theorem sc_one_deeper : FnScope ["told", "wires", "wire"] ["told", "wires"] (defScope s_one_deeper) := ⟨rfl, rfl, rfl, by decide +kernel, rfl, by decide +kernel, by decide +kernel⟩
abbrev s_depths_by : Stmt := topS 15
theorem sc_depths_by : FnScope ["net", "cuts", "told", "gate", "cut"] ["net", "cuts"] (defScope s_depths_by) := ⟨rfl, rfl, rfl, by decide +kernel, rfl, by decide +kernel, by decide +kernel⟩
abbrev s_depths : Stmt := topS 16
theorem sc_depths : FnScope ["net", "k"] ["net", "k"] (defScope s_depths) := ⟨rfl, rfl, rfl, by decide +kernel, rfl, by decide +kernel, by decide +kernel⟩
abbrev s_with_deepest : Stmt := topS 26
theorem sc_with_deepest : FnScope ["cuts", "told", "wire", "cut"] ["cuts", "told"] (defScope s_with_deepest) := ⟨rfl, rfl, rfl, by decide +kernel, rfl, by decide +kernel, by decide +kernel⟩
abbrev s_cut_choices : Stmt := topS 27
theorem sc_cut_choices : FnScope ["net", "k", "cuts", "told", "own"] ["net", "k"] (defScope s_cut_choices) := ⟨rfl, rfl, rfl, by decide +kernel, rfl, by decide +kernel, by decide +kernel⟩
abbrev s_first_needs : Stmt := topS 28
theorem sc_first_needs : FnScope ["net", "depth", "out"] ["net", "depth"] (defScope s_first_needs) := ⟨rfl, rfl, rfl, by decide +kernel, rfl, by decide +kernel, by decide +kernel⟩
abbrev s_next_gate : Stmt := topS 29
theorem sc_next_gate : FnScope ["needs", "bound", "gate"] ["needs", "bound"] (defScope s_next_gate) := ⟨rfl, rfl, rfl, by decide +kernel, rfl, by decide +kernel, by decide +kernel⟩
abbrev s_fitting_cuts : Stmt := topS 30
theorem sc_fitting_cuts : FnScope ["choices", "gate", "needs", "cut", "deepest"] ["choices", "gate", "needs"] (defScope s_fitting_cuts) := ⟨rfl, rfl, rfl, by decide +kernel, rfl, by decide +kernel, by decide +kernel⟩
abbrev s_needs_with : Stmt := topS 31
theorem sc_needs_with : FnScope ["net", "needs", "gate", "cut", "by", "told", "wire"] ["net", "needs", "gate", "cut"] (defScope s_needs_with) := ⟨rfl, rfl, rfl, by decide +kernel, rfl, by decide +kernel, by decide +kernel⟩
abbrev s_fewest_tables : Stmt := topS 34
theorem sc_fewest_tables : FnScope ["net", "choices", "needs", "bound", "gate", "trials", "cut", "behind"] ["net", "choices", "needs", "bound"] (defScope s_fewest_tables) := ⟨rfl, rfl, rfl, by decide +kernel, rfl, by decide +kernel, by decide +kernel⟩
abbrev s_count_paper : Stmt := topS 35
theorem sc_count_paper : FnScope ["net", "choices", "needs", "bound", "count", "gate", "cuts", "papers", "cut"] ["net", "choices", "needs", "bound", "count"] (defScope s_count_paper) := ⟨rfl, rfl, rfl, by decide +kernel, rfl, by decide +kernel, by decide +kernel⟩
abbrev s_fewest : Stmt := topS 36
theorem sc_fewest : FnScope ["net", "k", "depth", "told", "least", "out", "choices", "needs", "tables"] ["net", "k", "depth"] (defScope s_fewest) := ⟨rfl, rfl, rfl, by decide +kernel, rfl, by decide +kernel, by decide +kernel⟩
abbrev s__law_deck : Stmt := topS 38
theorem sc__law_deck : FnScope ["_law_script", "_law_cells"] ["_law_script"] (defScope s__law_deck) := ⟨rfl, rfl, rfl, by decide +kernel, rfl, by decide +kernel, by decide +kernel⟩
abbrev s__law_draw : Stmt := topS 39
theorem sc__law_draw : FnScope ["_law_deck_here", "_law_most", "_law_cell", "_law_number"] ["_law_deck_here", "_law_most"] (defScope s__law_draw) := ⟨rfl, rfl, rfl, by decide +kernel, rfl, by decide +kernel, by decide +kernel⟩
abbrev s__law_gate : Stmt := topS 40
theorem sc__law_gate : FnScope ["_law_deck_here", "_law_many", "_law_wire", "_law_way", "_law_reach", "_law_twice", "_law_one", "_law_other"] ["_law_deck_here", "_law_many", "_law_wire", "_law_way"] (defScope s__law_gate) := ⟨rfl, rfl, rfl, by decide +kernel, rfl, by decide +kernel, by decide +kernel⟩
abbrev s__law_net : Stmt := topS 41
theorem sc__law_net : FnScope ["_law_deck_here", "_law_inputs", "_law_gates", "_law_way", "_law_many", "_law_count", "_law_made", "_law_k", "_law_outs", "_law_far"] ["_law_deck_here", "_law_inputs", "_law_gates"] (defScope s__law_net) := ⟨rfl, rfl, rfl, by decide +kernel, rfl, by decide +kernel, by decide +kernel⟩
abbrev s__law_held : Stmt := topS 42
theorem sc__law_held : FnScope ["_law_one", "_law_other", "_law_wire"] ["_law_one", "_law_other"] (defScope s__law_held) := ⟨rfl, rfl, rfl, by decide +kernel, rfl, by decide +kernel, by decide +kernel⟩
abbrev s__law_least : Stmt := topS 43
theorem sc__law_least : FnScope ["_law_some", "_law_kept", "_law_many", "_law_cut", "_law_one"] ["_law_some"] (defScope s__law_least) := ⟨rfl, rfl, rfl, by decide +kernel, rfl, by decide +kernel, by decide +kernel⟩
abbrev s__law_cuts : Stmt := topS 44
theorem sc__law_cuts : FnScope ["_law_net_here", "_law_k", "_law_cuts_here", "_law_wire", "_law_kind", "_law_one", "_law_other", "_law_some", "_law_first", "_law_second", "_law_cut"] ["_law_net_here", "_law_k"] (defScope s__law_cuts) := ⟨rfl, rfl, rfl, by decide +kernel, rfl, by decide +kernel, by decide +kernel⟩
abbrev s__law_depths : Stmt := topS 45
theorem sc__law_depths : FnScope ["_law_net_here", "_law_cuts_here", "_law_known", "_law_gate_here", "_law_wire", "_law_cut"] ["_law_net_here", "_law_cuts_here"] (defScope s__law_depths) := ⟨rfl, rfl, rfl, by decide +kernel, rfl, by decide +kernel, by decide +kernel⟩
abbrev s__law_told : Stmt := topS 46
theorem sc__law_told : FnScope ["_law_net_here", "_law_k", "_law_depth", "_law_found", "_law_pair", "_law_others", "e"] ["_law_net_here", "_law_k", "_law_depth"] (defScope s__law_told) := ⟨rfl, rfl, rfl, by decide +kernel, rfl, by decide +kernel, by decide +kernel⟩
abbrev s__law_due : Stmt := topS 47
theorem sc__law_due : FnScope ["_law_net_here", "_law_least_here", "_law_depth"] ["_law_net_here", "_law_least_here", "_law_depth"] (defScope s__law_due) := ⟨rfl, rfl, rfl, by decide +kernel, rfl, by decide +kernel, by decide +kernel⟩
abbrev s_law : Stmt := topS 48
theorem sc_law : FnScope ["_law_script", "_law_deck_here", "_law_turn", "_law_wide", "_law_k", "_law_net_here", "_law_known", "_law_least_here", "_law_wire", "_law_depth"] ["_law_script"] (defScope s_law) := ⟨rfl, rfl, rfl, by decide +kernel, rfl, by decide +kernel, by decide +kernel⟩
abbrev s_NoDepth___init__ : Stmt := mthS (topS 20) 0
theorem supi_NoDepth {P : Program} {w : World} {K : PySem.W.Frag} {mg : Str → Option Value} {base : Heap} {C f c cl : Addr} {kV dc pm ct : Value} {an : Option Addr} (S : SupF P K mg C f c cl { PySem.W.fnOf "__init__" "NoDepth.__init__" (defArgs s_NoDepth___init__) (defBody s_NoDepth___init__) (defScope s_NoDepth___init__) .none kV dc pm an (.ref c) ct with closure := [(("__class__" : Str), cl)] } "least") :
    FnOk P w K mg base L2.CX0 1 f { PySem.W.fnOf "__init__" "NoDepth.__init__" (defArgs s_NoDepth___init__) (defBody s_NoDepth___init__) (defScope s_NoDepth___init__) .none kV dc pm an (.ref c) ct with closure := [(("__class__" : Str), cl)] } ["self", "least"] (spSup C "least") := by
  apply sup_run S
  · rfl
  · exact ⟨_, fun _ => rfl⟩
  · exact fun X hN hv => js2 (by decide) hN hv (by decide +kernel) (by decide +kernel)
structure Txt (mg : Str → Option Value) : Prop where
  b_ValueError : mg "ValueError" = none
  b_bool : mg "bool" = none
  b_dict : mg "dict" = none
  b_int : mg "int" = none
  b_isinstance : mg "isinstance" = none
  b_len : mg "len" = none
  b_list : mg "list" = none
  b_max : mg "max" = none
  b_min : mg "min" = none
  b_range : mg "range" = none
  b_set : mg "set" = none
  b_sorted : mg "sorted" = none
  b_sum : mg "sum" = none
  b_super : mg "super" = none
  b_tuple : mg "tuple" = none
  g_MOST_GATES_TRIED : ∃ u, mg "MOST_GATES_TRIED" = some u ∧ RelV (.int 6) u
theorem nat_at {l : List Nat} {i : Nat} (h : i < l.length) : (l.map nV)[i]? = some (nV (l.getD i 0)) := natAt h
section
variable {P : Program} {w : World} {K : PySem.W.Frag} {mg : Str → Option Value} {base : Heap} {Ts : List Addr}
def spWires : Sp := fun vs H Q _ => ∃ (a : Addr) (n : Net) (g o : Addr) (ps : List Addr), vs = [.ref a] ∧ NetAt H a n g o ps ∧ Q (nV (n.many + n.gates.length)) H
theorem ok_wires {f c : Addr} (D : Dfn K mg "wires_in" s_wires_in f c) (T : Txt mg) : Cal P w K mg base 1 "wires_in" spWires [] := by
  refine cal D (fun _ _ _ _ _ _ us hl => match us, hl with | [_], _ => rfl) sc_wires_in (fun vs H Q E h => ?_) (fun A outer s H vs Q E hr h => ?_)
  · obtain ⟨a, n, g, o, ps, rfl, _⟩ := h
    rfl
  · obtain ⟨a, n, g, o, ps, rfl, N, q⟩ := h
    refine ⟨_, (pss_one (ps_ret (pe_op op_add (pe_ix ix_tup (pv 0) pe_int (fun _ _ => rfl)) (pe_callB call_len_seq (by rfl) T.b_len (by decide +kernel) (pa_cons (pe_ix ix_tup (pv 0) pe_int (fun _ _ => rfl)) pa_nil))))), ?_⟩
    refine ⟨_, rfl, a, _, 0, _, rfl, rfl, SqT.of N.top, at0, _, rfl, a, _, 1, _, rfl, rfl, SqT.of N.top, at1, g, _, rfl, .inr (SqT.of N.gt), _, _, rfl, rfl, ?_⟩
    have e : (V.int ((n.many : Int) + ((ps.map V.ref).length : Int))) = nV (n.many + n.gates.length) := by
      rw [List.length_map, N.gs.1]
      rfl
    show Q (V.int ((n.many : Int) + ((ps.map V.ref).length : Int))) H
    rw [e]
    exact q
def spPlaces : Sp := fun vs H Q _ => ∃ (a : Addr) (n : Net) (g o : Addr) (ps : List Addr) (x : Nat) (k : Nat × Nat × Nat), vs = [.ref a, nV x] ∧ NetAt H a n g o ps ∧ n.many ≤ x ∧ n.gates[x - n.many]? = some k ∧ ∀ p, H p = none → Q (.ref p) (upd H p (.tup [nV k.2.1, nV k.2.2]))
theorem ok_places {f c : Addr} (D : Dfn K mg "places" s_places f c) : Cal P w K mg base 1 "places" spPlaces [] := by
  refine cal D (fun _ _ _ _ _ _ us hl => match us, hl with | [_, _], _ => rfl) sc_places (fun vs H Q E h => ?_) (fun A outer s H vs Q E hr h => ?_)
  · obtain ⟨a, n, g, o, ps, x, k, rfl, _⟩ := h
    rfl
  · obtain ⟨a, n, g, o, ps, x, k, rfl, N, hx, hk, q⟩ := h
    refine ⟨_, (pss_cons (ps_asg (pe_ix ix_tup (pe_ix ix_tup (pv 0) pe_int (fun _ _ => rfl)) (pe_op op_sub (pv 1) (pe_ix ix_tup (pv 0) pe_int (fun _ _ => rfl))) (fun _ _ => rfl)) (pg_tup rfl (pgs_cons (pg_name (i := 2) sc_places.nd rfl (by first | exact Or.inl rfl | exact Or.inr rfl)) (pgs_cons (pg_name (i := 3) sc_places.nd rfl (by first | exact Or.inl rfl | exact Or.inr rfl)) (pgs_cons (pg_name (i := 4) sc_places.nd rfl (by first | exact Or.inl rfl | exact Or.inr rfl)) pgs_nil)))))
      (pss_one (ps_ret (pe_tup (pa_cons (pv 3) (pa_cons (pv 4) pa_nil)))))), ?_⟩
    have hil : x - n.many < ps.length := by rw [N.gs.1]; exact (List.getElem?_eq_some_iff.mp hk).1
    have hp := N.gs.2 _ _ _ (List.getElem?_eq_getElem hil) hk
    have e1 : (ps.map V.ref)[x - n.many]? = some (.ref ps[x - n.many]) := by rw [List.getElem?_map, List.getElem?_eq_getElem hil]; rfl
    refine ⟨_, rfl, a, _, 1, _, rfl, rfl, SqT.of N.top, at1, _, rfl, _, rfl, a, _, 0, _, rfl, rfl, SqT.of N.top, at0, _, _, rfl, rfl, g, _, _, _, rfl, rfl, SqT.of N.gt, (by rw [show (((x : Nat) : Int) - ((n.many : Nat) : Int)) = ((x - n.many : Nat) : Int) by omega]; exact atI_nat e1), ?_⟩
    refine ⟨_, _, rfl, SqT.of hp, rfl, _, _, rfl, _, _, rfl, _, _, rfl, rfl, ?_⟩
    exact ⟨_, rfl, _, rfl, small 2, fun p np => q p np⟩

end
section
variable {P : Program} {w : World} {K : PySem.W.Frag} {mg : Str → Option Value} {base : Heap} {Ts : List Addr}
def spWiresOf (Ts : List Addr) : Sp := fun vs H Q _ => ∃ M : Nat, vs = [nV M] ∧ M < 2 ^ 23 ∧ Tabs Ts H ∧ ∀ p H', Aft Ts H H' → H' p = some (.tup ((bitsOf M).map nV)) → Q (.ref p) H'
theorem bits_step (M i : Nat) : (List.range (i + 1)).filter (fun x => M.testBit x) = (List.range i).filter (fun x => M.testBit x) ++ (if M.testBit i = true then [i] else []) := by
  rw [List.range_succ, List.filter_append, List.filter_cons]
  rfl
theorem ok_wiresof {f c PG : Addr} (D : Dfn K mg "wires_of" s_wires_of f c) (T : Txt mg) (TB_wires_of : GxR.TabB base mg c PG) (hP : PG ∈ Ts) : Cal P w K mg base 1 "wires_of" (spWiresOf Ts) [] := by
  refine cal D (fun _ _ _ _ _ _ us hl => match us, hl with | [_], _ => rfl) sc_wires_of (fun vs H Q E h => ?_) (fun A outer s H vs Q E hr h => ?_)
  · obtain ⟨M, rfl, _⟩ := h
    rfl
  · obtain ⟨M, rfl, hM, tb, q⟩ := h
    refine ⟨_, (pss_one (ps_ret (pe_tupG (own := [("wire", 1)]) hr (by rfl) T.b_tuple TB_wires_of rfl (gxOk_by (N := ["mask", "wire"]) (sc := defScope s_wires_of) (own := [("wire", 1)]) (by decide +kernel)) sc_wires_of.nd (pi_range1 (by rfl) T.b_range (pa_cons (pe_bits (pv 0)) pa_nil)) (fun _ _ _ _ => (pg_name (i := 1) sc_wires_of.nd rfl (by first | exact Or.inl rfl | exact Or.inr rfl))) (fun _ _ _ _ => (pts_one (pt_truthK (K := K) (pe_op op_and (pe_op op_shr (pv 0) (pv 1)) pe_int) (by intro _; rfl)))) (fun _ _ _ _ => (pv 1))))), ?_⟩
    have hb : Builtin.Int.intBits ((M : Nat) : Int) ≤ 10000 := bits_small hM
    refine ⟨_, rfl, _, rfl, _, rfl, by omega, by omega, tb PG hP, fun H2 ht => ?_⟩
    have a2 : Aft Ts H H2 := ⟨Keep.tabbed hP ht, tb.tabbed ht⟩
    refine turns_it (walk_range (lo := 0) (n := ((Builtin.Int.intBits ((M : Nat) : Int) : Nat) : Int).toNat)) (fun i ys H' => ys = ((List.range i).filter fun x => M.testBit x).map nV ∧ Aft Ts H H') ⟨rfl, a2⟩ (fun i ys H' _ _ => trivial) ?_ ?_
    · rintro i x ys H3 H4 hi ⟨rfl, a3⟩ ⟨rfl, rfl⟩
      rw [Int.toNat_natCast] at hi
      refine ⟨rfl, _, rfl, _, rfl, _, _, rfl, rfl, by omega, _, _, rfl, rfl, ?_⟩
      dsimp -proj only
      rw [Int.zero_add, bit_of]
      refine ⟨_, rfl, ?_⟩
      have ev : ((((M / 2 ^ i % 2 : Nat) : Int) != 0)) = M.testBit i := by
        rw [Nat.testBit_eq_decide_div_mod_eq]
        by_cases h : M / 2 ^ i % 2 = 1
        · rw [h]
          rfl
        · rw [decide_eq_false h, show M / 2 ^ i % 2 = 0 by omega]
          rfl
      rw [ev]
      refine ite2 (fun h0 => ?_) (fun h0 => ?_)
      · refine ⟨_, rfl, ?_, fun _ => ⟨?_, a3⟩⟩
        · show (List.map nV _).length < sizeLine
          rw [List.length_map]
          exact Nat.lt_of_le_of_lt (List.length_filter_le _ _) (by rw [List.length_range]; exact small256 (by omega))
        · rw [bits_step, if_pos h0, List.map_append]
          rfl
      · refine ⟨?_, a3⟩
        rw [bits_step, if_neg h0, List.append_nil]
    · rintro ys H3 ⟨rfl, a3⟩
      rw [Int.toNat_natCast]
      refine ⟨?_, fun r hr => ?_⟩
      · rw [List.length_map]
        exact Nat.le_trans (List.length_filter_le _ _) (by rw [List.length_range]; exact Nat.le_of_lt (small256 hb))
      · exact q r _ (a3.trans (Aft.new a3.tb hr)) upd_same
def spFits : Sp := fun vs H Q _ => ∃ M k : Nat, vs = [nV M, nV k] ∧ k ≤ 1000 ∧ Q (.bl (decide (pop M ≤ k))) H
theorem ok_fits {f c : Addr} (D : Dfn K mg "fits" s_fits f c) (T : Txt mg) : Cal P w K mg base 1 "fits" spFits [] := by
  refine cal D (fun _ _ _ _ _ _ us hl => match us, hl with | [_, _], _ => rfl) sc_fits (fun vs H Q E h => ?_) (fun A outer s H vs Q E hr h => ?_)
  · obtain ⟨M, k, rfl, _⟩ := h
    rfl
  · obtain ⟨M, k, rfl, hk, q⟩ := h
    refine ⟨_, (pss_cons (ps_for PassesOwn.never rfl (pi_range1 (by rfl) T.b_range (pa_cons (pv 1) pa_nil)) (pg_name (i := 2) sc_fits.nd rfl (by first | exact Or.inl rfl | exact Or.inr rfl))
        (pss_one (ps_aug (i := 0) sc_fits.nd rfl (by first | exact Or.inl rfl | exact Or.inr rfl) (pe_op op_sub (pv 0) pe_int) ip_and)))
      (pss_one (ps_ret (pe_cmpR op_eq (pv 0) pe_int (nomark _))))), ?_⟩
    refine ⟨_, rfl, _, rfl, by omega, by omega, ?_⟩
    refine for_range (lo := 0) (n := ((k : Nat) : Int).toNat) (fun i σ H' => ∃ x2 : Option V, σ = [some (nV (clows i M)), some (nV k), x2] ∧ H' = H) ⟨none, rfl, rfl⟩ ?_ ?_
    · rintro i σ H' _ ⟨x2, rfl, rfl⟩
      refine ⟨_, rfl, _, rfl, _, _, rfl, rfl, _, _, rfl, rfl, ?_⟩
      refine ⟨some (V.int (0 + ((i : Nat) : Int))), ?_, rfl⟩
      show [some (V.int (Builtin.bitAnd ((clows i M : Nat) : Int) (((clows i M : Nat) : Int) - 1))), _, _] = _
      rw [and_low]
      rfl
    · rintro σ H' ⟨x2, rfl, rfl⟩
      rw [Int.toNat_natCast]
      refine ⟨_, rfl, rfl, ?_⟩
      have e : decide (nV (clows k M) = V.int 0) = decide (pop M ≤ k) := by
        refine decide_eq_decide.mpr ⟨fun z => (fits_iff M k).mp ?_, fun z => by rw [(fits_iff M k).mpr z]; rfl⟩
        have z' := V.int.inj z
        omega
      show Q (.bl (decide (nV (clows k M) = V.int 0))) H'
      rw [e]
      exact q
def spHasPart : Sp := fun vs H Q _ => ∃ (d : Addr) (F : List Nat) (M : Nat), vs = [.ref d, nV M] ∧ Rd H d (.dK (kvF F)) ∧ 0 < M ∧ Q (.bl (hasPart F M)) H
theorem ok_haspart {f c : Addr} (D : Dfn K mg "has_part" s_has_part f c) (T : Txt mg) : Cal P w K mg base 1 "has_part" spHasPart [] := by
  refine cal D (fun _ _ _ _ _ _ us hl => match us, hl with | [_, _], _ => rfl) sc_has_part (fun vs H Q E h => ?_) (fun A outer s H vs Q E hr h => ?_)
  · obtain ⟨d, F, M, rfl, _⟩ := h
    rfl
  · obtain ⟨d, F, M, rfl, hd, hM, q⟩ := h
    refine ⟨_, (pss_cons (ps_set (i := 2) sc_has_part.nd rfl (by first | exact Or.inl rfl | exact Or.inr rfl) (pe_op op_and (pe_op op_sub (pv 1) pe_int) (pv 1)))
      (pss_cons (ps_while PassesOwn.never (pt_cmpR op_gt (pv 2) pe_int (nomark _)) (pss_cons (ps_if (pt_cmp (pc_din (Nat.lt_of_le_of_lt (Nat.add_le_add_left (by decide) _) hr.units) (pv 2) (pv 0))) (pss_one (ps_ret pe_bl)) pss_nil)
      (pss_one (ps_set (i := 2) sc_has_part.nd rfl (by first | exact Or.inl rfl | exact Or.inr rfl) (pe_op op_and (pe_op op_sub (pv 2) pe_int) (pv 1))))))
      (pss_one (ps_ret pe_bl)))), ?_⟩
    refine ⟨_, rfl, _, _, rfl, rfl, _, rfl, _, _, rfl, rfl, ?_⟩
    dsimp -proj only
    rw [and_next hM]
    have sub1 : ∀ {p : Nat}, Sub ((p - 1) &&& M) M := fun {p} j hj => by
      rw [Nat.testBit_and] at hj
      exact (Bool.and_eq_true_iff.mp hj).2
    refine while_at (fun σ H' => ∃ p : Nat, σ = [some (.ref d), some (nV M), some (nV p)] ∧ H' = H ∧ Sub p M ∧ p < M ∧ ∀ q ∈ F, 0 < q → q ≠ M → Sub q M → q ≤ p) (fun σ _ => natOf σ 2) ⟨_, rfl, rfl, sub1, Nat.lt_of_le_of_lt Nat.and_le_left (by omega), fun q _ h0 ne sq => next_part M M M q (Nat.le_refl _) hM (Sub.refl M) sq (Nat.lt_of_le_of_ne sq.le ne)⟩ ?_
    rintro σ H' ⟨p, rfl, rfl, hp, hpM, hq⟩
    refine ⟨_, rfl, _, _, rfl, rfl, _, rfl, ite2 (fun h0 => ?_) (fun h0 => ?_)⟩
    · have p0 : 0 < p := by
        have := of_decide_eq_true h0
        omega
      refine ⟨_, whN, ?_⟩
      have dg : DGet H' d (nV p) (valV (kvF F) (nK p)) := .inl ⟨kvF F, nK p, hd, rfl, rfl⟩
      refine ⟨_, rfl, _, rfl, d, _, rfl, dg, _, rfl, ?_⟩
      rw [kvF_some]
      refine ite2 (fun hin => ?_) (fun hin => ?_)
      · have e : hasPart F M = true := hasPart_iff.mpr ⟨p, of_decide_eq_true hin, p0, Nat.ne_of_lt hpM, hp⟩
        rw [e] at q
        exact q
      · refine ⟨_, rfl, _, _, rfl, rfl, _, rfl, _, _, rfl, rfl, ?_⟩
        dsimp -proj only
        rw [and_next p0]
        have lt : (p - 1) &&& M < p := Nat.lt_of_le_of_lt Nat.and_le_left (by omega)
        refine ⟨⟨_, rfl, rfl, sub1, by omega, fun q hqF h0 ne sq => ?_⟩, ?_⟩
        · have le := hq q hqF h0 ne sq
          have ne2 : q ≠ p := fun z => hin (decide_eq_true (by rw [← z]; exact hqF))
          exact next_part p p M q (Nat.le_refl _) p0 hp sq (by omega)
        · exact lt
    · have p0 : p = 0 := by
        refine Classical.not_not.mp fun z => h0 (decide_eq_true ?_)
        show ((p : Nat) : Int) > 0
        omega
      have e : hasPart F M = false := by
        cases e : hasPart F M with
        | false => rfl
        | true =>
          obtain ⟨q', h1, h2, h3, h4⟩ := hasPart_iff.mp e
          have := hq q' h1 h2 h3 h4
          omega
      rw [e] at q
      exact q
def spGateMasks : Sp := fun vs H Q _ => ∃ (la lb : Addr) (fs ss : List Nat) (k : Nat), vs = [.ref la, .ref lb, nV k] ∧ H la = some (.lst (fs.map nV)) ∧ H lb = some (.lst (ss.map nV)) ∧ (∀ f ∈ fs, 0 < f ∧ f < 2 ^ 23) ∧ (∀ f ∈ ss, f < 2 ^ 23) ∧ k ≤ 1000 ∧
  ∀ p H' (F : List Nat), Same H H' → H p = none → H' p = some (.lst ((F.filter fun M => !hasPart F M).map nV)) → F.Nodup → (∀ M ∈ F, M < 2 ^ 23) → Found k fs ss F → Q (.ref p) H'
theorem ok_gatemasks {f c : Addr} (D : Dfn K mg "gate_masks" s_gate_masks f c) (T : Txt mg) (c_fits : Cal P w K mg base 1 "fits" spFits []) (c_has_part : Cal P w K mg base 1 "has_part" spHasPart []) : Cal P w K mg base 2 "gate_masks" spGateMasks [] := by
  refine cal D (fun _ _ _ _ _ _ us hl => match us, hl with | [_, _, _], _ => rfl) sc_gate_masks (fun vs H Q E h => ?_) (fun A outer s H vs Q E hr h => ?_)
  · obtain ⟨la, lb, fs, ss, k, rfl, _⟩ := h
    rfl
  · obtain ⟨la, lb, fs, ss, k, rfl, hla, hlb, hfs, hss, hk, q⟩ := h
    refine ⟨_, (pss_cons (ps_set (i := 3) sc_gate_masks.nd rfl (by first | exact Or.inl rfl | exact Or.inr rfl) pe_dnewK)
      (pss_cons (ps_for PassesOwn.never rfl (pi_list (pv 0)) (pg_name (i := 4) sc_gate_masks.nd rfl (by first | exact Or.inl rfl | exact Or.inr rfl))
        (pss_one (ps_for PassesOwn.never rfl (pi_list (pv 1)) (pg_name (i := 5) sc_gate_masks.nd rfl (by first | exact Or.inl rfl | exact Or.inr rfl))
        (pss_one (ps_if (pt_val (pe_c c_fits hr (by decide) (by rfl) (pa_cons (pe_op op_or (pv 4) (pv 5)) (pa_cons (pv 2) pa_nil)))) (pss_one (ps_dput (Nat.lt_of_le_of_lt (Nat.add_le_add_left (by decide) _) hr.units) (pv 3) (pe_op op_or (pv 4) (pv 5)) pe_bl (by rfl))) pss_nil)))))
      (pss_one (ps_ret (pe_lock (pe_lc (own := [("mask", 6)]) (g := gName 6)  rfl sc_gate_masks.nd (pi_keys (pv 3)) (blkOk_by (own := [("mask", 6)]) (N := ["firsts", "seconds", "k", "found", "first", "second", "mask"]) (sc := defScope s_gate_masks) (by decide +kernel)) (fun _ _ _ _ _ => (pg_name (i := 6) sc_gate_masks.nd rfl (by first | exact Or.inl rfl | exact Or.inr rfl))) (fun _ _ _ _ _ => (pts_one (pt_not (pt_val (pe_c c_has_part hr (by decide) (by rfl) (pa_cons (pv 3) (pa_cons (pv 6) pa_nil))))))) (fun _ _ _ _ _ => (pv 6)))))))), ?_⟩
    refine fun d nd => ?_
    have s1 := Same.new (o := .dK []) nd
    have putA : ∀ {Hx : Hp} {u : HO}, Same H Hx → Same H (upd Hx d u) := fun {Hx u} x b o e => by rw [upd_ne (ne_of_none e nd)]; exact x b o e
    have hd1 : upd H d (.dK []) d = some (.dK (kvF [])) := upd_same
    generalize upd H d (.dK []) = H1 at s1 hd1 ⊢
    refine ⟨_, rfl, la, rfl, ⟨_, SqL.of (s1 _ _ hla)⟩, ?_⟩
    refine for_list (K := K) (a := la) (xs := fs.map nV) (fun i σ H' => ∃ (x4 x5 x6 : Option V) (F : List Nat), σ = [some (.ref la), some (.ref lb), some (nV k), some (.ref d), x4, x5, x6] ∧ Same H H' ∧ H' d = some (.dK (kvF F)) ∧ F.Nodup ∧ (∀ M ∈ F, 0 < M ∧ M < 2 ^ 23) ∧ FoundW k fs ss i 0 F) ⟨none, none, none, [], rfl, s1, hd1, List.nodup_nil, fun M hM => (by cases hM), FoundW.zero _ _ _⟩ ?_ ?_ ?_
    · rintro i σ H' _ ⟨_, _, _, _, _, s', _⟩
      exact SqL.of (s' _ _ hla)
    · rintro i x σ H2 hx ⟨x4, x5, x6, F, rfl, s2, hd2, nF, lF, fw⟩
      have hi : i < fs.length := by
        have := (List.getElem?_eq_some_iff.mp hx).1
        rwa [List.length_map] at this
      rw [natAt hi] at hx
      cases hx
      obtain ⟨f0, f23⟩ := hfs _ (getD_mem hi)
      refine ⟨_, rfl, lb, rfl, ⟨_, SqL.of (s2 _ _ hlb)⟩, ?_⟩
      refine for_list (K := K) (a := lb) (xs := ss.map nV) (fun j σ H' => ∃ (x5 x6 : Option V) (F : List Nat), σ = [some (.ref la), some (.ref lb), some (nV k), some (.ref d), some (nV (fs.getD i 0)), x5, x6] ∧ Same H H' ∧ H' d = some (.dK (kvF F)) ∧ F.Nodup ∧ (∀ M ∈ F, 0 < M ∧ M < 2 ^ 23) ∧ FoundW k fs ss i j F) ⟨_, _, F, rfl, s2, hd2, nF, lF, fw⟩ ?_ ?_ ?_
      · rintro j σ H' _ ⟨_, _, _, _, s', _⟩
        exact SqL.of (s' _ _ hlb)
      · rintro j x σ H3 hx ⟨x5, x6, F, rfl, s3, hd3, nF, lF, fw⟩
        have hj : j < ss.length := by
          have := (List.getElem?_eq_some_iff.mp hx).1
          rwa [List.length_map] at this
        rw [natAt hj] at hx
        cases hx
        have s23 := hss _ (getD_mem hj)
        have o23 := or_lt23 f23 s23
        have o0 : 0 < fs.getD i 0 ||| ss.getD j 0 := Nat.lt_of_lt_of_le f0 (sub_or_left _ _).le
        refine ⟨_, rfl, _, rfl, _, _, rfl, rfl, _, rfl, fs.getD i 0 ||| ss.getD j 0, k, (by show [V.int (Builtin.bitOr _ _), _] = _; rw [or_of]; rfl), hk, _, rfl, ite2 (fun hp => ?_) (fun hp => ?_)⟩
        · have hp' := of_decide_eq_true hp
          refine ⟨_, rfl, _, rfl, _, rfl, _, _, rfl, rfl, ?_⟩
          dsimp -proj only
          rw [or_of]
          generalize hM : fs.getD i 0 ||| ss.getD j 0 = M at o23 o0 hp' ⊢
          refine ⟨d, _, rfl, DPut.k (k := nK M) hd3 (by rw [kvF_len]; exact nodup_lt23 nF fun M h => (lF M h).2), ?_⟩
          by_cases e : M ∈ F
          · rw [kvF_again e]
            exact ⟨_, _, F, rfl, putA s3, upd_same, nF, lF, fw.yes hj (by rw [hM]; exact hp') fun M' => by
              rw [hM]
              exact ⟨.inl, fun z => z.elim id fun z => by rw [z]; exact e⟩⟩
          · rw [kvF_put e]
            refine ⟨_, _, F ++ [M], rfl, putA s3, upd_same, nodup_snoc nF e, fun M' h => ?_, fw.yes hj (by rw [hM]; exact hp') fun M' => by rw [hM, List.mem_append, List.mem_singleton]⟩
            rcases List.mem_append.mp h with h | h
            · exact lF M' h
            · rw [List.mem_singleton.mp h]
              exact ⟨o0, o23⟩
        · exact ⟨_, _, F, rfl, s3, hd3, nF, lF, fw.no hj fun z => hp (decide_eq_true z)⟩
      · rintro σ H3 ⟨x5, x6, F, rfl, s3, hd3, nF, lF, fw⟩
        rw [List.length_map] at fw
        exact ⟨_, _, _, F, rfl, s3, hd3, nF, lF, fw.row hi⟩
    · rintro σ H2 ⟨x4, x5, x6, F, rfl, s2, hd2, nF, lF, fw⟩
      rw [List.length_map] at fw
      have fl := nodup_lt23 nF fun M h => (lF M h).2
      refine ⟨d, .dK (kvF F), hd2, trivial, fun od => ⟨_, rfl, d, od, rfl, .inl ⟨kvF F, upd_same, fun S nS => ?_⟩⟩⟩
      have hdl : upd H2 d (.frz od (.dK (kvF F))) d = some (.frz od (.dK (kvF F))) := upd_same
      have sl : Same H (upd H2 d (.frz od (.dK (kvF F)))) := putA s2
      generalize upd H2 d (.frz od (.dK (kvF F))) = Hl at nS hdl sl ⊢
      refine lc_it (walk_keys (kvs := kvF F)) (fun i H' => Own Hl H' S (((F.take i).filter fun M => !hasPart F M).map nV)) ⟨Same.new nS, upd_same, nS⟩ (fun i H' _ o' => o'.sm _ _ hdl) ?_ ?_
      · rintro i x H3 H4 hi o3 ⟨rfl, kk, v, hkv, rfl⟩
        rw [kvF_len] at hi
        have ek : kk = nK (F.getD i 0) := by
          unfold kvF at hkv
          rw [List.getElem?_map, List.getElem?_eq_getElem hi] at hkv
          rw [List.getD_eq_getElem?_getD, List.getElem?_eq_getElem hi]
          have := Option.some.inj hkv
          exact (congrArg Prod.fst this).symm
        subst ek
        have hm := getD_mem hi
        have ef : (F.take (i + 1)).filter (fun M => !hasPart F M) = (F.take i).filter (fun M => !hasPart F M) ++ (if (!hasPart F (F.getD i 0)) = true then [F.getD i 0] else []) := by
          rw [List.take_add_one, List.filter_append, List.getD_eq_getElem?_getD, List.getElem?_eq_getElem hi, Option.toList_some, List.filter_cons]
          rfl
        generalize F.getD i 0 = z at hm ef ⊢
        refine ⟨rfl, _, rfl, _, rfl, d, F, z, rfl, .inr ⟨od, o3.sm _ _ hdl⟩, (lF z hm).1, _, rfl, ite2 (fun hg => ?_) (fun hg => ?_)⟩
        · refine ⟨_, rfl, _, o3.at_, ?_, ?_⟩
          · rw [List.length_map]
            exact Nat.lt_of_le_of_lt (List.length_filter_le _ _) (by rw [List.length_take]; omega)
          · rw [ef, if_pos hg, List.map_append]
            exact o3.app
        · show Own Hl H4 S _
          rw [ef, if_neg hg, List.append_nil]
          exact o3
      · rintro H3 o3
        rw [kvF_len, List.take_length] at o3
        refine ⟨o3.sm _ _ hdl, ?_⟩
        have Sd : S ≠ d := fun z => by rw [z, hdl] at nS; cases nS
        have s4 : Same H (upd H3 d (.dK (kvF F))) := putA (sl.trans o3.sm)
        have S0 : H S = none := Classical.not_not.mp fun z => by
          obtain ⟨u, hu⟩ := Option.ne_none_iff_exists'.mp z
          rw [sl _ _ hu] at nS
          cases nS
        exact q S _ F s4 S0 (by rw [upd_ne Sd]; exact o3.at_) nF (fun M h => (lF M h).2) fw.all
end
section
variable {P : Program} {w : World} {K : PySem.W.Frag} {mg : Str → Option Value} {base : Heap} {Ts : List Addr}
structure WsOk (n : Net) (ws : List Nat) : Prop where
  ris : ws.Pairwise (· < ·)
  lt : ∀ x ∈ ws, x < n.many + n.gates.length
  clo : ∀ x ∈ ws, ∀ k, n.many ≤ x → n.gates[x - n.many]? = some k → k.2.1 ∈ ws ∧ k.2.2 ∈ ws
def spCutMasks : Sp := fun vs H Q _ => ∃ (a wa : Addr) (n : Net) (g o : Addr) (ps : List Addr) (ws : List Nat) (k : Nat), vs = [.ref a, .ref wa, nV k] ∧ NetAt H a n g o ps ∧ n.Ok ∧ H wa = some (.lst (ws.map nV)) ∧ WsOk n ws ∧ 1 ≤ k ∧ k ≤ 1000 ∧
  ∀ d H' kvs, Same H H' → H' d = some (.dK kvs) → (∀ x ∈ ws, CutsIn n k H' kvs x) → Q (.ref d) H'
theorem ok_cutmasks {f c : Addr} (D : Dfn K mg "cut_masks" s_cut_masks f c) (T : Txt mg) (c_places : Cal P w K mg base 1 "places" spPlaces []) (c_gate_masks : Cal P w K mg base 2 "gate_masks" spGateMasks []) : Cal P w K mg base 3 "cut_masks" spCutMasks [] := by
  refine cal D (fun _ _ _ _ _ _ us hl => match us, hl with | [_, _, _], _ => rfl) sc_cut_masks (fun vs H Q E h => ?_) (fun A outer s H vs Q E hr h => ?_)
  · obtain ⟨a, wa, n, g, o, ps, ws, k, rfl, _⟩ := h
    rfl
  · obtain ⟨a, wa, n, g, o, ps, ws, k, rfl, N, ok, hwa, wok, hk1, hk, q⟩ := h
    have m8 := ok.m8
    have g16 := ok.g16
    refine ⟨_, (pss_cons (ps_set (i := 3) sc_cut_masks.nd rfl (by first | exact Or.inl rfl | exact Or.inr rfl) pe_dnewK)
      (pss_cons (ps_for PassesOwn.never rfl (pi_list (pv 1)) (pg_name (i := 4) sc_cut_masks.nd rfl (by first | exact Or.inl rfl | exact Or.inr rfl))
        (pss_cons (ps_dput (Nat.lt_of_le_of_lt (Nat.add_le_add_left (by decide) _) hr.units) (pv 3) (pv 4) (pe_lst pa_nil) (by rfl))
      (pss_one (ps_if (pt_cmpR op_ge (pv 4) (pe_ix ix_tup (pv 0) pe_int (fun _ _ => rfl)) (nomark _)) (pss_cons (ps_asg (pe_c c_places hr (by decide) (by rfl) (pa_cons (pv 0) (pa_cons (pv 4) pa_nil))) (pg_tup rfl (pgs_cons (pg_name (i := 5) sc_cut_masks.nd rfl (by first | exact Or.inl rfl | exact Or.inr rfl)) (pgs_cons (pg_name (i := 6) sc_cut_masks.nd rfl (by first | exact Or.inl rfl | exact Or.inr rfl)) pgs_nil))))
      (pss_one (ps_dput (Nat.lt_of_le_of_lt (Nat.add_le_add_left (by decide) _) hr.units) (pv 3) (pv 4) (pe_c c_gate_masks hr (by decide) (by rfl) (pa_cons (pe_op op_cat (pe_dget (Nat.lt_of_le_of_lt (Nat.add_le_add_left (by decide) _) hr.units) (pv 3) (pv 5) (fun _ _ => rfl)) (pe_lst (pa_cons (pe_op op_shl pe_int (pv 5)) pa_nil))) (pa_cons (pe_op op_cat (pe_dget (Nat.lt_of_le_of_lt (Nat.add_le_add_left (by decide) _) hr.units) (pv 3) (pv 6) (fun _ _ => rfl)) (pe_lst (pa_cons (pe_op op_shl pe_int (pv 6)) pa_nil))) (pa_cons (pv 2) pa_nil)))) (by rfl)))) pss_nil))))
      (pss_one (ps_ret (pv 3))))), ?_⟩
    refine fun d nd => ?_
    have s1 := Same.new (o := .dK []) nd
    have putA : ∀ {Hx : Hp} {u : HO}, Same H Hx → Same H (upd Hx d u) := fun {Hx u} x b o e => by rw [upd_ne (ne_of_none e nd)]; exact x b o e
    have putL : ∀ {Hx : Hp} {u : HO} {kvs : List (L2.Key × V)}, Hx d = some (.dK kvs) → ∀ b zs, Hx b = some (.lst zs) → upd Hx d u b = some (.lst zs) := fun {Hx u kvs} hd b zs e => by
      rw [upd_ne (fun z => by rw [z, hd] at e; cases e)]
      exact e
    have hd1 : upd H d (.dK []) d = some (.dK []) := upd_same
    generalize upd H d (.dK []) = H1 at s1 hd1 ⊢
    have wl : ws.length ≤ 24 := by
      have nd : ws.Nodup := wok.ris.imp fun h => Nat.ne_of_lt h
      have := nd.length_le_of_subset (l₂ := List.range (n.many + n.gates.length)) fun x hx => List.mem_range.mpr (wok.lt x hx)
      rw [List.length_range] at this
      omega
    refine ⟨_, rfl, wa, rfl, ⟨_, SqL.of (s1 _ _ hwa)⟩, ?_⟩
    refine for_list (K := K) (a := wa) (xs := ws.map nV) (fun i σ H' => ∃ (x4 x5 x6 : Option V) (kvs : List (L2.Key × V)), σ = [some (.ref a), some (.ref wa), some (nV k), some (.ref d), x4, x5, x6] ∧ Same H H' ∧ H' d = some (.dK kvs) ∧ kvs.length ≤ 2 * i ∧ ∀ x ∈ ws.take i, CutsIn n k H' kvs x) ⟨none, none, none, [], rfl, s1, hd1, Nat.le_refl _, fun x hx => (by cases hx)⟩ ?_ ?_ ?_
    · rintro i σ H' _ ⟨_, _, _, _, _, s', _⟩
      exact SqL.of (s' _ _ hwa)
    · rintro i x σ H2 hx ⟨x4, x5, x6, kvs, rfl, s2, hd2, kl, ci⟩
      have hi : i < ws.length := by
        have := (List.getElem?_eq_some_iff.mp hx).1
        rwa [List.length_map] at this
      rw [natAt hi] at hx
      cases hx
      have hx := getD_mem hi
      have xlt := wok.lt _ hx
      have tk := mem_take_succ hi
      have inT : ∀ y ∈ ws, y < ws.getD i 0 → y ∈ ws.take i := fun y hy h => mem_take_lt wok.ris hi hy h
      have ne : ∀ y ∈ ws.take i, y ≠ ws.getD i 0 := fun y hy => Nat.ne_of_lt (not_mem_take wok.ris hi hy)
      have clo := wok.clo _ hx
      generalize ws.getD i 0 = x at hx xlt tk inT ne clo ⊢
      refine ⟨small 0, fun L nL => ⟨_, rfl, _, rfl, d, _, rfl, DPut.k (k := nK x) (Same.new nL _ _ hd2) (small256 (by omega)), ?_⟩⟩
      have hdL : upd H2 L (.lst []) d = some (.dK kvs) := Same.new nL _ _ hd2
      have s3 : Same H (upd (upd H2 L (.lst [])) d (.dK (putK kvs (nK x) (.ref L)))) := putA (s2.trans (Same.new nL))
      have hd3 : upd (upd H2 L (.lst [])) d (.dK (putK kvs (nK x) (.ref L))) d = some (.dK (putK kvs (nK x) (.ref L))) := upd_same
      have hL3 : upd (upd H2 L (.lst [])) d (.dK (putK kvs (nK x) (.ref L))) L = some (.lst []) := putL hdL _ _ upd_same
      have ci3 : ∀ y ∈ ws.take i, CutsIn n k (upd (upd H2 L (.lst [])) d (.dK (putK kvs (nK x) (.ref L)))) (putK kvs (nK x) (.ref L)) y := fun y hy => ((ci y hy).mono fun b zs e => putL hdL _ _ (Same.new nL _ _ e)).put (ne y hy)
      generalize upd (upd H2 L (.lst [])) d (.dK (putK kvs (nK x) (.ref L))) = H3 at s3 hd3 hL3 ci3 ⊢
      have kl3 := putK_le kvs (nK x) (.ref L)
      have val3 : valV (putK kvs (nK x) (.ref L)) (nK x) = some (.ref L) := by rw [valV_put, if_pos rfl]
      generalize putK kvs (nK x) (.ref L) = kv3 at hd3 ci3 kl3 val3 ⊢
      have N3 := N.same s3
      refine ⟨_, rfl, _, rfl, a, _, 0, _, rfl, rfl, SqT.of N3.top, at0, _, _, rfl, rfl, _, rfl, ite2 (fun hg => ?_) (fun hg => ?_)⟩
      · have hg' : n.many ≤ x := by
          have := of_decide_eq_true hg
          omega
        obtain ⟨kk, hkk⟩ : ∃ kk, n.gates[x - n.many]? = some kk := ⟨_, List.getElem?_eq_getElem (by omega)⟩
        obtain ⟨c1, c2⟩ := clo kk hg' hkk
        have l1 := place_lt ok hg' hkk (.inl rfl)
        have l2 := place_lt ok hg' hkk (.inr rfl)
        obtain ⟨p1, ms1, v1, h1, ml1, nd1⟩ := ci3 _ (inT _ c1 l1)
        obtain ⟨p2, ms2, v2, h2, ml2, nd2⟩ := ci3 _ (inT _ c2 l2)
        have lt1 := wok.lt _ c1
        have lt2 := wok.lt _ c2
        have f1 := ml1.full ok lt1 hk1
        have f2 := ml2.full ok lt2 hk1
        have b1 : ∀ M ∈ ms1, 0 < M ∧ M < 2 ^ 23 := fun M h => ml1.lt23 ok lt1 h
        have b2 : ∀ M ∈ ms2, 0 < M ∧ M < 2 ^ 23 := fun M h => ml2.lt23 ok lt2 h
        have lm1 := nodup_lt23 nd1 fun M h => (b1 M h).2
        have lm2 := nodup_lt23 nd2 fun M h => (b2 M h).2
        have w1 := pow_lt23 (x := kk.2.1) (by omega)
        have w2 := pow_lt23 (x := kk.2.2) (by omega)
        refine ⟨_, rfl, _, rfl, a, n, g, o, ps, x, kk, rfl, N3, hg', hkk, fun t nt => ?_⟩
        have s4 := s3.trans (Same.new (o := .tup [nV kk.2.1, nV kk.2.2]) nt)
        have ht4 : upd H3 t (.tup [nV kk.2.1, nV kk.2.2]) t = some (.tup [nV kk.2.1, nV kk.2.2]) := upd_same
        have st := Same.new (o := .tup [nV kk.2.1, nV kk.2.2]) nt
        generalize upd H3 t (.tup [nV kk.2.1, nV kk.2.2]) = H4 at s4 ht4 st ⊢
        have hd4 := st _ _ hd3
        refine ⟨t, _, rfl, SqT.of ht4, rfl, _, _, rfl, _, _, rfl, rfl, ?_⟩
        have dg1 : DGet H4 d (nV kk.2.1) (some (.ref p1)) := .inl ⟨kv3, nK kk.2.1, .inl hd4, rfl, v1.symm⟩
        refine ⟨_, rfl, _, rfl, d, _, rfl, dg1, _, rfl, _, _, rfl, rfl, ⟨by omega, by omega, by decide⟩, ?_⟩
        dsimp -proj only
        rw [shl_of]
        refine ⟨small 1, fun L1 nL1 => ⟨p1, L1, _, _, rfl, rfl, Same.new nL1 _ _ (st _ _ h1), upd_same, by rw [List.length_map]; exact lm1, fun R1 nR1 => ?_⟩⟩
        have s5 := (Same.new (o := .lst [V.int ((2 ^ kk.2.1 : Nat) : Int)]) nL1).trans (Same.new (o := .lst (ms1.map nV ++ [V.int ((2 ^ kk.2.1 : Nat) : Int)])) nR1)
        have hR1 : upd (upd H4 L1 (.lst [V.int ((2 ^ kk.2.1 : Nat) : Int)])) R1 (.lst (ms1.map nV ++ [V.int ((2 ^ kk.2.1 : Nat) : Int)])) R1 = some (.lst ((ms1 ++ [2 ^ kk.2.1]).map nV)) := by
          rw [upd_same, List.map_append]
          rfl
        generalize upd (upd H4 L1 (.lst [V.int ((2 ^ kk.2.1 : Nat) : Int)])) R1 (.lst (ms1.map nV ++ [V.int ((2 ^ kk.2.1 : Nat) : Int)])) = H5 at s5 hR1 ⊢
        have hd5 := s5 _ _ hd4
        have dg2 : DGet H5 d (nV kk.2.2) (some (.ref p2)) := .inl ⟨kv3, nK kk.2.2, .inl hd5, rfl, v2.symm⟩
        refine ⟨_, rfl, _, rfl, d, _, rfl, dg2, _, rfl, _, _, rfl, rfl, ⟨by omega, by omega, by decide⟩, ?_⟩
        dsimp -proj only
        rw [shl_of]
        refine ⟨small 1, fun L2 nL2 => ⟨p2, L2, _, _, rfl, rfl, Same.new nL2 _ _ (s5 _ _ (st _ _ h2)), upd_same, by rw [List.length_map]; exact lm2, fun R2 nR2 => ?_⟩⟩
        have s6 := (Same.new (o := .lst [V.int ((2 ^ kk.2.2 : Nat) : Int)]) nL2).trans (Same.new (o := .lst (ms2.map nV ++ [V.int ((2 ^ kk.2.2 : Nat) : Int)])) nR2)
        have hR2 : upd (upd H5 L2 (.lst [V.int ((2 ^ kk.2.2 : Nat) : Int)])) R2 (.lst (ms2.map nV ++ [V.int ((2 ^ kk.2.2 : Nat) : Int)])) R2 = some (.lst ((ms2 ++ [2 ^ kk.2.2]).map nV)) := by
          rw [upd_same, List.map_append]
          rfl
        generalize upd (upd H5 L2 (.lst [V.int ((2 ^ kk.2.2 : Nat) : Int)])) R2 (.lst (ms2.map nV ++ [V.int ((2 ^ kk.2.2 : Nat) : Int)])) = H6 at s6 hR2 ⊢
        have hd6 := s6 _ _ hd5
        refine ⟨_, rfl, R1, R2, _, _, k, rfl, s6 _ _ hR1, hR2, fun M hM => ?_, fun M hM => ?_, hk, fun p H7 F s7 np hp nF lF fd => ?_⟩
        · rcases List.mem_append.mp hM with h | h
          · exact b1 M h
          · rw [List.mem_singleton.mp h]
            exact w1
        · rcases List.mem_append.mp hM with h | h
          · exact (b2 M h).2
          · rw [List.mem_singleton.mp h]
            exact w2.2
        have ml := gate_found ok hg' xlt hkk f1 f2 fd
        have hd7 := s7 _ _ hd6
        have s47 := (st.trans (s5.trans s6)).trans s7
        refine ⟨_, rfl, _, rfl, d, _, rfl, DPut.k (k := nK x) hd7 (small256 (by omega)), ?_⟩
        have kl7 := putK_le kv3 (nK x) (.ref p)
        refine ⟨_, _, _, putK kv3 (nK x) (.ref p), rfl, putA (s3.trans s47), upd_same, by omega, fun y hy => ?_⟩
        rcases (tk y).mp hy with hy | rfl
        · exact ((ci3 y hy).mono fun b zs e => putL hd7 _ _ (s47 _ _ e)).put (ne y hy)
        · exact ⟨p, _, by rw [valV_put, if_pos rfl], putL hd7 _ _ hp, ml, nF.filter _⟩
      · have hx0 : x < n.many := by
          refine Nat.lt_of_not_le fun z => hg (decide_eq_true ?_)
          show ((x : Nat) : Int) ≥ ((n.many : Nat) : Int)
          omega
        refine ⟨_, _, _, kv3, rfl, s3, hd3, by omega, fun y hy => ?_⟩
        rcases (tk y).mp hy with hy | rfl
        · exact ci3 y hy
        · exact ⟨L, [], val3, hL3, ML.input hx0, List.nodup_nil⟩
    · rintro σ H2 ⟨x4, x5, x6, kvs, rfl, s2, hd2, kl, ci⟩
      rw [List.length_map, List.take_length] at ci
      exact ⟨_, rfl, q d H2 kvs s2 hd2 ci⟩
end
section
variable {P : Program} {w : World} {K : PySem.W.Frag} {mg : Str → Option Value} {base : Heap} {Ts : List Addr}
def spTold (Ts : List Addr) : Sp := fun vs H Q _ => ∃ (la : Addr) (ms : List Nat), vs = [.ref la] ∧ H la = some (.lst (ms.map nV)) ∧ ms.length < sizeLine ∧ (∀ M ∈ ms, 0 < M ∧ M < 2 ^ 23) ∧ Tabs Ts H ∧
  ∀ p H' (rs : List Addr) (cs : List (List Nat)), Aft Ts H H' → H' p = some (.tup (rs.map V.ref)) → TupsAt H' rs cs → cs.Perm (ms.map bitsOf) → (cs.Pairwise fun a b => lexN b a = false) → Q (.ref p) H'
theorem ok_told {f c : Addr} (D : Dfn K mg "told_cuts" s_told_cuts f c) (T : Txt mg) (c_wires_of : Cal P w K mg base 1 "wires_of" (spWiresOf Ts) []) : Cal P w K mg base 2 "told_cuts" (spTold Ts) [] := by
  refine cal D (fun _ _ _ _ _ _ us hl => match us, hl with | [_], _ => rfl) sc_told_cuts (fun vs H Q E h => ?_) (fun A outer s H vs Q E hr h => ?_)
  · obtain ⟨la, ms, rfl, _⟩ := h
    rfl
  · obtain ⟨la, ms, rfl, hla, hl, hb, tb, q⟩ := h
    refine ⟨_, (pss_one (ps_ret (pe_callTy call_tuple_of (by rfl) T.b_tuple (by decide +kernel) (pa_cons (pe_callB cr_sortTup (by rfl) T.b_sorted (by decide +kernel) (pa_cons (pe_lc (own := [("mask", 1)]) (g := gName 1) (tt := tYes) rfl sc_told_cuts.nd (pi_list (pv 0)) (blkOk_by (own := [("mask", 1)]) (N := ["masks", "mask"]) (sc := defScope s_told_cuts) (by decide +kernel)) (fun _ _ _ _ _ => (pg_name (i := 1) sc_told_cuts.nd rfl (by first | exact Or.inl rfl | exact Or.inr rfl))) (fun _ _ _ _ _ => pts_nil) (fun _ _ _ _ _ => (pe_c c_wires_of hr (by decide) (by rfl) (pa_cons (pv 1) pa_nil)))) pa_nil)) pa_nil)))), ?_⟩
    refine ⟨_, rfl, la, rfl, ⟨_, SqL.of hla⟩, fun M nM => ?_⟩
    have laM : la ≠ M := fun z => by rw [z, nM] at hla; cases hla
    refine lc_list (K := K) (a := la) (xs := ms.map nV) (fun i H' => ∃ ts : List Addr, H' M = some (.lst (ts.map V.ref)) ∧ Aft Ts H H' ∧ RefsAt (fun x => (bitsOf x).map nV) H' ts (ms.take i)) ⟨[], upd_same, Aft.new tb nM, RefsAt.nil _ _⟩ (fun _ H' _ h => h.elim fun ts h => SqL.of (h.2.1.lst tb hla)) ?_ ?_
    · rintro i x H4 hx ⟨ts, hM4, a4, R4⟩
      have hi : i < ms.length := by
        have := (List.getElem?_eq_some_iff.mp hx).1
        rwa [List.length_map] at this
      rw [natAt hi] at hx
      cases hx
      refine ⟨rfl, ?_⟩
      unfold tYes
      refine iteT ?_
      refine ⟨_, rfl, ms.getD i 0, rfl, (hb _ (getD_mem hi)).2, a4.tb, fun cp H5 a5 hcp => ?_⟩
      have hM5 := a5.lst a4.tb hM4
      have R5 := (R4.mono fun b zs e => a5.tup a4.tb e).push (y := ms.getD i 0) hcp
      have tl : ts.length ≤ i := by
        rw [R4.1, List.length_take]
        omega
      refine ⟨_, hM5, by rw [List.length_map]; omega, ts ++ [cp], by rw [upd_same, List.map_append]; rfl, ?_, ?_⟩
      · exact ⟨fun b u e nb => by rw [upd_ne (ne_of_none e nM)]; exact (a4.trans a5).kp b u e nb, a5.tb.upd (tb.none nM)⟩
      · have ew : ms.getD i 0 = ms[i] := by rw [List.getD_eq_getElem?_getD, List.getElem?_eq_getElem hi]; rfl
        rw [List.take_add_one, List.getElem?_eq_getElem hi, Option.toList_some, ← ew]
        exact R5.mono fun b zs e => by
          rw [upd_ne (fun z => by rw [z, hM5] at e; cases e)]
          exact e
    · rintro H4 ⟨ts, hM4, a4, R4⟩
      rw [List.length_map, List.take_length] at R4
      have R4' : TupsAt H4 ts (ms.map bitsOf) := ⟨by rw [List.length_map]; exact R4.1, fun i p x e1 e2 => by
        rw [List.getElem?_map] at e2
        cases e : ms[i]? with
        | none => rw [e] at e2; cases e2
        | some y =>
          rw [e] at e2
          cases e2
          exact R4.2 i p y e1 e⟩
      refine ⟨M, ts.map V.ref, fun x => (tupN H4 x).map (fun n : Nat => (n : Int)), rfl, SqL.of hM4, fun x hx => ?_, fun ys p srt pm np => ?_⟩
      · obtain ⟨t, c', rfl, hc, ht⟩ := R4'.all hx
        dsimp only
        rw [tupN_at ht]
        refine ⟨⟨t, rfl, by rw [mapV]; exact ht⟩, fun z => ?_⟩
        obtain ⟨M', hM', rfl⟩ := List.mem_map.mp hc
        have z' := List.map_eq_nil_iff.mp z
        have : pop M' = 0 := by
          unfold pop
          rw [z']
          rfl
        have := pop_zero_iff.mp this
        have := (hb M' hM').1
        omega
      · obtain ⟨rs, ds, rfl, hr', pd, sd⟩ := tups_sorted R4' srt pm
        refine ⟨p, _, rfl, .inl ⟨SqL.of upd_same, fun r nr => ?_⟩⟩
        have a5 := Aft.new (o := .lst (rs.map V.ref)) a4.tb np
        have a6 := Aft.new (o := .tup (rs.map V.ref)) a5.tb nr
        exact q r _ rs ds ((a4.trans a5).trans a6) upd_same (hr'.mono fun b zs e => a6.tup a5.tb (a5.tup a4.tb e)) pd sd
end
section
variable {P : Program} {w : World} {K : PySem.W.Frag} {mg : Str → Option Value} {base : Heap} {Ts : List Addr}
/-- the cuts of a wire, told -/
def CutsTold (n : Net) (k : Nat) (H : Hp) (q : Addr) (x : Nat) : Prop := ∃ (rs : List Addr) (cs : List (List Nat)), H q = some (.tup (rs.map V.ref)) ∧ TupsAt H rs cs ∧ CutsAre n k x cs ∧ cs.length < sizeLine
theorem CutsTold.mono {n : Net} {k : Nat} {H H' : Hp} {q : Addr} {x : Nat} (h : CutsTold n k H q x) (m : ∀ b xs, H b = some (.tup xs) → H' b = some (.tup xs)) : CutsTold n k H' q x := by
  obtain ⟨rs, cs, h1, h2, h3⟩ := h
  exact ⟨rs, cs, m _ _ h1, h2.mono m, h3⟩
def spAllCuts (Ts : List Addr) : Sp := fun vs H Q _ => ∃ (a : Addr) (n : Net) (g o : Addr) (ps : List Addr) (k : Nat), vs = [.ref a, nV k] ∧ NetAt H a n g o ps ∧ n.Ok ∧ 2 ≤ k ∧ k ≤ 1000 ∧ Tabs Ts H ∧
  ∀ p H' (qs : List Addr), Aft Ts H H' → H' p = some (.tup (qs.map V.ref)) → PtsAt (CutsTold n k) H' qs (List.range (n.many + n.gates.length)) → Q (.ref p) H'
theorem ok_allcuts {f c PA' : Addr} (D : Dfn K mg "all_cuts" s_all_cuts f c) (T : Txt mg) (c_wires_in : Cal P w K mg base 1 "wires_in" spWires []) (c_cut_masks : Cal P w K mg base 3 "cut_masks" spCutMasks []) (c_places : Cal P w K mg base 1 "places" spPlaces []) (c_told_cuts : Cal P w K mg base 2 "told_cuts" (spTold Ts) []) (TB_all_cuts : GxR.TabB base mg c PA') (hP : PA' ∈ Ts) : Cal P w K mg base 4 "all_cuts" (spAllCuts Ts) [] := by
  refine cal D (fun _ _ _ _ _ _ us hl => match us, hl with | [_, _], _ => rfl) sc_all_cuts (fun vs H Q E h => ?_) (fun A outer s H vs Q E hr h => ?_)
  · obtain ⟨a, n, g, o, ps, k, rfl, _⟩ := h
    rfl
  · obtain ⟨a, n, g, o, ps, k, rfl, N, ok, hk2, hk, tb, q⟩ := h
    have m8 := ok.m8
    have g16 := ok.g16
    refine ⟨_, (pss_cons (ps_set (i := 2) sc_all_cuts.nd rfl (by first | exact Or.inl rfl | exact Or.inr rfl) (pe_listRg rfl (by rfl) T.b_list (prg_1 (by rfl) T.b_range (pe_c c_wires_in hr (by decide) (by rfl) (pa_cons (pv 0) pa_nil)))))
      (pss_cons (ps_set (i := 3) sc_all_cuts.nd rfl (by first | exact Or.inl rfl | exact Or.inr rfl) (pe_c c_cut_masks hr (by decide) (by rfl) (pa_cons (pv 0) (pa_cons (pv 2) (pa_cons (pv 1) pa_nil)))))
      (pss_cons (ps_for PassesOwn.never rfl (pi_list (pe_slice sl_list (pv 2) (po_some (pe_ix ix_tup (pv 0) pe_int (fun _ _ => rfl))) po_none)) (pg_name (i := 4) sc_all_cuts.nd rfl (by first | exact Or.inl rfl | exact Or.inr rfl))
        (pss_one (ps_if (pt_cmpR op_eq (pe_callB call_len_seq (by rfl) T.b_len (by decide +kernel) (pa_cons (pe_dget (Nat.lt_of_le_of_lt (Nat.add_le_add_left (by decide) _) hr.units) (pv 3) (pv 4) (fun _ _ => rfl)) pa_nil)) pe_int (nomark _)) (pss_cons (ps_asg (pe_c c_places hr (by decide) (by rfl) (pa_cons (pv 0) (pa_cons (pv 4) pa_nil))) (pg_tup rfl (pgs_cons (pg_name (i := 5) sc_all_cuts.nd rfl (by first | exact Or.inl rfl | exact Or.inr rfl)) (pgs_cons (pg_name (i := 6) sc_all_cuts.nd rfl (by first | exact Or.inl rfl | exact Or.inr rfl)) pgs_nil))))
      (pss_one (ps_dput (Nat.lt_of_le_of_lt (Nat.add_le_add_left (by decide) _) hr.units) (pv 3) (pv 4) (pe_lst (pa_cons (pe_op op_or (pe_op op_shl pe_int (pv 5)) (pe_op op_shl pe_int (pv 6))) pa_nil)) (by rfl)))) pss_nil)))
      (pss_one (ps_ret (pe_tupG (own := [("wire", 7)]) hr (by rfl) T.b_tuple TB_all_cuts rfl (gxOk_by (N := ["net", "k", "wires", "masks", "gate", "one", "other", "wire"]) (sc := defScope s_all_cuts) (own := [("wire", 7)]) (by decide +kernel)) sc_all_cuts.nd (pi_list (pv 2)) (fun _ _ _ _ => (pg_name (i := 7) sc_all_cuts.nd rfl (by first | exact Or.inl rfl | exact Or.inr rfl))) (fun _ _ _ _ => pts_nil) (fun _ _ _ _ => (pe_c c_told_cuts (GX.Room.gx4 hr) (by decide) (by rfl) (pa_cons (pe_dget (Nat.lt_of_le_of_lt (Nat.add_le_add_left (by decide) _) (GX.Room.gx4 hr).units) (pv 3) (pv 7) (fun _ _ => rfl)) pa_nil))))))))), ?_⟩
    refine ⟨_, rfl, a, n, g, o, ps, rfl, N, _, rfl, RgOk.of_le (by decide) (by show ((n.many + n.gates.length : Nat) : Int) ≤ 16777216; omega) (by decide) (by show (0 : Int) ≤ ((n.many + n.gates.length : Nat) : Int); omega), fun rp nrp => ?_⟩
    have et : rgV 0 ((n.many + n.gates.length : Nat) : Int) = (List.range (n.many + n.gates.length)).map nV := by
      unfold rgV
      rw [Int.sub_zero, Int.toNat_natCast]
      refine List.map_congr_left fun i _ => ?_
      rw [Int.zero_add]
      rfl
    have s1 := Same.new (o := .lst (rgV 0 ((n.many + n.gates.length : Nat) : Int))) nrp
    have hrp : upd H rp (.lst (rgV 0 ((n.many + n.gates.length : Nat) : Int))) rp = some (.lst ((List.range (n.many + n.gates.length)).map nV)) := by rw [upd_same, et]
    generalize upd H rp (.lst (rgV 0 ((n.many + n.gates.length : Nat) : Int))) = H1 at s1 hrp ⊢
    have wok : WsOk n (List.range (n.many + n.gates.length)) := ⟨List.pairwise_lt_range, fun x hx => List.mem_range.mp hx, fun x hx kk hm hkk => by
      have l1 := place_lt ok hm hkk (.inl rfl)
      have l2 := place_lt ok hm hkk (.inr rfl)
      have := List.mem_range.mp hx
      exact ⟨List.mem_range.mpr (by omega), List.mem_range.mpr (by omega)⟩⟩
    refine ⟨_, rfl, _, rfl, _, rfl, a, rp, n, g, o, ps, _, k, rfl, N.same s1, ok, hrp, wok, by omega, hk, fun d H2 kvs s2 hd ci => ?_⟩
    have N2 := (N.same s1).same s2
    have hrp2 := s2 _ _ hrp
    have tb2 := tb.same (s1.trans s2)
    refine ⟨_, rfl, _, rfl, a, _, 0, _, rfl, rfl, SqT.of N2.top, at0, _, rfl, ?_⟩
    unfold tNoPart
    refine ⟨rp, _, rfl, SqL.of hrp2, fun S nS => ?_⟩
    rw [cut_lo, ← List.map_drop]
    have s3 := Same.new (o := .lst (((List.range (n.many + n.gates.length)).drop n.many).map nV)) nS
    have hS3 : upd H2 S (.lst (((List.range (n.many + n.gates.length)).drop n.many).map nV)) S = some (.lst (((List.range (n.many + n.gates.length)).drop n.many).map nV)) := upd_same
    have hd3 := s3 _ _ hd
    have hrp3 := s3 _ _ hrp2
    have tb3 := tb2.same s3
    have ci3 : ∀ x ∈ List.range (n.many + n.gates.length), CutsIn n k (upd H2 S (.lst (((List.range (n.many + n.gates.length)).drop n.many).map nV))) kvs x := fun x hx => (ci x hx).mono fun b zs e => s3 _ _ e
    have a03 : Aft Ts H (upd H2 S (.lst (((List.range (n.many + n.gates.length)).drop n.many).map nV))) := Aft.ofSame tb ((s1.trans s2).trans s3)
    generalize upd H2 S (.lst (((List.range (n.many + n.gates.length)).drop n.many).map nV)) = H3 at s3 hS3 hd3 hrp3 tb3 ci3 a03 ⊢
    refine ⟨S, rfl, ⟨_, SqL.of hS3⟩, ?_⟩
    refine for_list (K := K) (a := S) (xs := ((List.range (n.many + n.gates.length)).drop n.many).map nV) (fun i σ H' => ∃ (x4 x5 x6 x7 : Option V), σ = [some (.ref a), some (nV k), some (.ref rp), some (.ref d), x4, x5, x6, x7] ∧ H' = H3) ⟨_, _, _, _, rfl, rfl⟩ ?_ ?_ ?_
    · rintro i σ H' _ ⟨_, _, _, _, _, rfl⟩
      exact SqL.of hS3
    · rintro i x σ H' hx ⟨x4, x5, x6, x7, rfl, rfl⟩
      have hi : i < ((List.range (n.many + n.gates.length)).drop n.many).length := by
        have := (List.getElem?_eq_some_iff.mp hx).1
        rwa [List.length_map] at this
      rw [natAt hi] at hx
      cases hx
      have hm := getD_mem hi
      have hxe : n.many ≤ ((List.range (n.many + n.gates.length)).drop n.many).getD i 0 ∧ ((List.range (n.many + n.gates.length)).drop n.many).getD i 0 < n.many + n.gates.length := by
        rw [List.length_drop, List.length_range] at hi
        rw [List.getD_eq_getElem?_getD, List.getElem?_drop, List.getElem?_range (by omega)]
        show n.many ≤ n.many + i ∧ n.many + i < _
        omega
      generalize ((List.range (n.many + n.gates.length)).drop n.many).getD i 0 = x at hm hxe ⊢
      obtain ⟨p, ms, v, hp, ml, nd⟩ := ci3 x (List.mem_range.mpr hxe.2)
      have ne := ml.some_ ok hk2 hxe.1 (List.getElem?_eq_getElem (show x - n.many < n.gates.length by omega))
      have dg : DGet H' d (nV x) (some (.ref p)) := .inl ⟨kvs, nK x, .inl hd3, rfl, v.symm⟩
      refine ⟨_, rfl, _, rfl, d, _, rfl, dg, p, _, rfl, .inl (SqL.of hp), rfl, _, rfl, ?_⟩
      rw [decide_eq_false (fun z => ne (List.length_eq_zero_iff.mp (by have := V.int.inj z; rw [List.length_map] at this; omega)))]
      refine iteF ?_
      exact ⟨_, _, _, _, rfl, rfl⟩
    · rintro σ H' ⟨x4, x5, x6, x7, rfl, rfl⟩
      refine ⟨_, rfl, rp, rfl, ⟨_, SqL.of hrp3⟩, tb3 PA' hP, fun H4 ht => ?_⟩
      have a4 : Aft Ts H' H4 := ⟨Keep.tabbed hP ht, tb3.tabbed ht⟩
      have a04 := a4
      refine turns_it (walk_list (xs := (List.range (n.many + n.gates.length)).map nV)) (fun i ys H5 => ∃ qs : List Addr, ys = qs.map V.ref ∧ Aft Ts H' H5 ∧ PtsAt (CutsTold n k) H5 qs ((List.range (n.many + n.gates.length)).take i)) ⟨[], rfl, a4, PtsAt.nil _ _⟩ (fun i ys H5 _ h => h.elim fun qs h => SqL.of (h.2.1.lst tb3 hrp3)) ?_ ?_
      · rintro i x ys H5 H6 hi ⟨qs, rfl, a5, P5⟩ ⟨rfl, hx⟩
        rw [List.length_map] at hi
        rw [natAt hi] at hx
        cases hx
        have hxm := getD_mem hi
        have ex : (List.range (n.many + n.gates.length)).getD i 0 = (List.range (n.many + n.gates.length))[i] := by rw [List.getD_eq_getElem?_getD, List.getElem?_eq_getElem hi]; rfl
        have ql : qs.length ≤ 24 := by
          rw [P5.1, List.length_take, List.length_range]
          omega
        obtain ⟨p, ms, v, hp, ml, nd⟩ := ci3 _ hxm
        have xlt := List.mem_range.mp hxm
        have bnd := fun M (h : M ∈ ms) => ml.lt23 ok xlt h
        have hd5 : Rd H6 d (.dK kvs) := .inl (a5.kp _ _ hd3 (tb3.nott hd3 fun _ z => by cases z))
        have dg : DGet H6 d (nV ((List.range (n.many + n.gates.length)).getD i 0)) (some (.ref p)) := .inl ⟨kvs, nK _, hd5, rfl, v.symm⟩
        refine ⟨rfl, ?_⟩
        unfold tYes
        refine iteT ?_
        refine ⟨_, rfl, _, rfl, d, _, rfl, dg, p, ms, rfl, a5.lst tb3 hp, nodup_lt23 nd fun M h => (bnd M h).2, bnd, a5.tb, fun r H7 rs cs a7 hr7 ht7 pm srt => ⟨?_, fun _ => ⟨qs ++ [r], by rw [List.map_append]; rfl, a5.trans a7, ?_⟩⟩⟩
        · show (List.map V.ref qs).length < sizeLine
          rw [List.length_map]
          exact small256 (by omega)
        · rw [List.take_add_one, List.getElem?_eq_getElem hi, Option.toList_some, ← ex]
          exact (P5.mono fun p x h => CutsTold.mono h fun b zs e => a7.tup a5.tb e).push ⟨rs, cs, hr7, ht7, cuts_of_masks ok ml nd pm srt, by rw [pm.length_eq, List.length_map]; exact nodup_lt23 nd fun M h => (bnd M h).2⟩
      · rintro ys H5 ⟨qs, rfl, a5, P5⟩
        rw [List.length_map, List.take_length] at P5
        refine ⟨?_, fun p np => ?_⟩
        · rw [List.length_map, P5.1, List.length_range]
          exact small _ (by omega)
        · have a6 := Aft.new (o := .tup (qs.map V.ref)) a5.tb np
          exact q p _ qs ((a03.trans a5).trans a6) upd_same (P5.mono fun p x h => CutsTold.mono h fun b zs e => a6.tup a5.tb e)
end
end K52
set_option Elab.async false
set_option linter.all false
set_option maxRecDepth 100000
set_option maxHeartbeats 4000000
namespace K52
open PySem PySem.Spec PyProof.Rows L2 GX
open C8 (Cal pe_c pe_gc Met Mak)
-- @exc CoverError
-- @exc NoText
-- @exc NoDepth init=least
-- @exc TooMany made
-- @exc NoMatch
-- @exc NoChange
-- @exc NoRow
-- @sub NoDepth NoDepth true
-- @sub NoDepth CoverError true
-- @sub NoDepth ValueError true
-- @sub NoDepth NoChange false
-- @sub NoDepth NoMatch false
-- @sub NoDepth NoRow false
-- @sub NoDepth NoText false
-- @sub NoDepth TooMany false
-- @sub TooMany TooMany true
-- @sub TooMany CoverError true
-- @sub TooMany ValueError true
-- @sub TooMany NoChange false
-- @sub TooMany NoMatch false
-- @sub TooMany NoRow false
-- @sub TooMany NoText false
-- @sub TooMany NoDepth false
section
variable {P : Program} {w : World} {K : PySem.W.Frag} {mg : Str → Option Value} {base : Heap} {Ts : List Addr}
def spOneDeepL : Sp := fun vs H Q _ => ∃ (l ca : Addr) (ds ws : List Nat), vs = [.ref l, .ref ca] ∧ H l = some (.lst (ds.map nV)) ∧ H ca = some (.tup (ws.map nV)) ∧ 0 < ws.length ∧ ws.length ≤ 1000 ∧ (∀ x ∈ ws, x < ds.length) ∧ ∀ H', Same H H' → Q (nV (1 + maxL (ws.map fun x => ds.getD x 0))) H'
theorem ok_onedeepL {f c : Addr} (D : Dfn K mg "one_deeper" s_one_deeper f c) (T : Txt mg) : Cal P w K mg base 1 "one_deeper" spOneDeepL [] := by
  refine cal D (fun _ _ _ _ _ _ us hl => match us, hl with | [_, _], _ => rfl) sc_one_deeper (fun vs H Q E h => ?_) (fun A outer s H vs Q E hr h => ?_)
  · obtain ⟨l, ca, ds, ws, rfl, _⟩ := h
    rfl
  · obtain ⟨l, ca, ds, ws, rfl, hl, hca, w0, w24, hv, q⟩ := h
    refine ⟨_, (pss_one (ps_ret (pe_op op_add pe_int (pe_callB (cr_max rfl) (by rfl) T.b_max (by decide +kernel) (pa_cons (pe_lc (own := [("wire", 2)]) (g := gName 2) (tt := tYes) rfl sc_one_deeper.nd (pi_tup (pv 1)) (blkOk_by (own := [("wire", 2)]) (N := ["told", "wires", "wire"]) (sc := defScope s_one_deeper) (by decide +kernel)) (fun _ _ _ _ _ => (pg_name (i := 2) sc_one_deeper.nd rfl (by first | exact Or.inl rfl | exact Or.inr rfl))) (fun _ _ _ _ _ => pts_nil) (fun _ _ _ _ _ => (pe_ix (ix_listK (K := K)) (pv 0) (pv 2) (fun _ _ => rfl)))) pa_nil))))), ?_⟩
    refine ⟨_, rfl, ca, rfl, ⟨_, SqT.of hca⟩, fun M nM => ?_⟩
    refine lc_tup (K := K) (a := ca) (xs := ws.map nV) (fun i H' => Own H H' M (((ws.take i).map fun x => ds.getD x 0).map nV)) ⟨Same.new nM, upd_same, nM⟩ (fun k H' _ o' => SqT.of (o'.sm _ _ hca)) ?_ ?_
    · rintro i x H2 hx o2
      have hi : i < ws.length := by
        have := (List.getElem?_eq_some_iff.mp hx).1
        rwa [List.length_map] at this
      rw [natAt hi] at hx
      cases hx
      refine ⟨rfl, ?_⟩
      unfold tYes
      refine iteT ?_
      refine ⟨_, rfl, _, rfl, l, _, _, _, rfl, rfl, SqL.of (o2.sm _ _ hl), atI_nat (natAt (hv _ (getD_mem hi))), _, o2.at_, by rw [List.length_map, List.length_map, List.length_take]; exact small256 (by omega), ?_⟩
      have : ws.getD i 0 = ws[i] := by rw [List.getD_eq_getElem?_getD, List.getElem?_eq_getElem hi]; rfl
      rw [List.take_add_one, List.getElem?_eq_getElem hi, Option.toList_some, List.map_append, List.map_append, this]
      exact o2.app
    · rintro H2 o2
      rw [List.length_map, List.take_length] at o2
      refine ⟨M, (ws.map fun x => ds.getD x 0).map (fun n : Nat => (n : Int)), rfl, (by rw [mapV]; exact SqL.of o2.at_), by rw [List.length_map, List.length_map]; exact w0, fun m hm hb => ⟨_, _, rfl, rfl, ?_⟩⟩
      have e := max_eq hm hb
      have e2 : V.int (1 + m) = nV (1 + maxL (ws.map fun x => ds.getD x 0)) := by
        have := V.int.inj e
        rw [this]
        rfl
      dsimp -proj only
      rw [e2]
      exact q H2 o2.sm
/-- depths, so far -/
structure DepsTo (n : Net) (k : Nat) (ds : List Nat) : Prop where
  low : ∀ x, x < n.many → x < ds.length → ds.getD x 0 = 0
  at_ : ∀ g, n.many ≤ g → g < ds.length → (∃ c, LC n k g c ∧ ds.getD g 0 = 1 + maxL (c.map fun x => ds.getD x 0)) ∧ ∀ c, LC n k g c → ds.getD g 0 ≤ 1 + maxL (c.map fun x => ds.getD x 0)
theorem maxL_sub {c xs : List Nat} {f : Nat → Nat} (h : ∀ x ∈ c, x ∈ xs) : maxL (c.map f) ≤ maxL (xs.map f) := by
  by_cases e : 0 < (c.map f).length
  · obtain ⟨x, hx, ex⟩ := List.mem_map.mp (maxL_mem e)
    rw [← ex]
    exact le_maxL (List.mem_map.mpr ⟨x, h x hx, rfl⟩)
  · have e0 : c.map f = [] := List.length_eq_zero_iff.mp (by omega)
    rw [e0]
    exact Nat.zero_le _
/-- no set that tells is less deep -/
theorem DepsTo.tell {n : Net} (ok : n.Ok) {k : Nat} {ds : List Nat} (d : DepsTo n k ds) {g : Nat} (hg : n.many ≤ g) (hl : g < ds.length) {xs : List Nat} (ris : xs.Pairwise (· < ·)) (lt : ∀ x ∈ xs, x < g) (sep : Sep n g xs) (hk : xs.length ≤ k) : ds.getD g 0 ≤ 1 + maxL (xs.map fun x => ds.getD x 0) := by
  obtain ⟨c, lc, sub⟩ := lc_within ok ris lt sep hk
  exact Nat.le_trans ((d.at_ g hg hl).2 c lc) (Nat.add_le_add_left (maxL_sub sub) 1)
theorem lc_any {n : Net} (ok : n.Ok) {k g : Nat} {kk : Nat × Nat × Nat} (hk : 2 ≤ k) (hg : n.many ≤ g) (hkk : n.gates[g - n.many]? = some kk) : ∃ c, LC n k g c := by
  have l1 := place_lt ok hg hkk (.inl rfl)
  have l2 := place_lt ok hg hkk (.inr rfl)
  have bit : ∀ j, (2 ^ kk.2.1 ||| 2 ^ kk.2.2).testBit j = true ↔ (j = kk.2.1 ∨ j = kk.2.2) := fun j => by
    rw [Nat.testBit_or, Nat.testBit_two_pow, Nat.testBit_two_pow, Bool.or_eq_true, decide_eq_true_iff, decide_eq_true_iff]
    omega
  have hp : (bitsOf (2 ^ kk.2.1 ||| 2 ^ kk.2.2)).length ≤ 2 := by
    have := (bits_nodup (2 ^ kk.2.1 ||| 2 ^ kk.2.2)).length_le_of_subset (l₂ := [kk.2.1, kk.2.2]) fun x hx => by
      rcases (bit x).mp (mem_bits.mp hx) with e | e
      · rw [e]; exact List.mem_cons_self
      · rw [e]; exact List.mem_cons_of_mem _ List.mem_cons_self
    exact this
  obtain ⟨c, h, _⟩ := lc_within ok (k := k) (g := g) (bits_rise (2 ^ kk.2.1 ||| 2 ^ kk.2.2)) (fun x hx => by rcases (bit x).mp (mem_bits.mp hx) with e | e <;> omega) (sep_first hg hkk fun z hz => mem_bits.mpr ((bit z).mpr hz)) (by omega)
  exact ⟨c, h⟩
def spDepthsBy : Sp := fun vs H Q _ => ∃ (a p : Addr) (n : Net) (g o : Addr) (ps qs : List Addr) (k : Nat), vs = [.ref a, .ref p] ∧ NetAt H a n g o ps ∧ n.Ok ∧ 2 ≤ k ∧ k ≤ 1000 ∧ H p = some (.tup (qs.map V.ref)) ∧ PtsAt (CutsTold n k) H qs (List.range (n.many + n.gates.length)) ∧
  ∀ r H' (ds : List Nat), Same H H' → H' r = some (.tup (ds.map nV)) → ds.length = n.many + n.gates.length → DepsTo n k ds → Q (.ref r) H'
theorem ok_depthsby {f c : Addr} (D : Dfn K mg "depths_by" s_depths_by f c) (T : Txt mg) (c_one_deeper : Cal P w K mg base 1 "one_deeper" spOneDeepL []) : Cal P w K mg base 2 "depths_by" spDepthsBy [] := by
  refine cal D (fun _ _ _ _ _ _ us hl => match us, hl with | [_, _], _ => rfl) sc_depths_by (fun vs H Q E h => ?_) (fun A outer s H vs Q E hr h => ?_)
  · obtain ⟨a, p, n, g, o, ps, qs, k, rfl, _⟩ := h
    rfl
  · obtain ⟨a, p, n, g, o, ps, qs, k, rfl, N, ok, hk2, hk, hp, PQ, q⟩ := h
    have m8 := ok.m8
    have g16 := ok.g16
    refine ⟨_, (pss_cons (ps_set (i := 2) sc_depths_by.nd rfl (by first | exact Or.inl rfl | exact Or.inr rfl) (pe_op op_rep (pe_lst (pa_cons pe_int pa_nil)) (pe_ix ix_tup (pv 0) pe_int (fun _ _ => rfl))))
      (pss_cons (ps_for PassesOwn.never rfl (pi_range2 (by rfl) T.b_range (pa_cons (pe_ix ix_tup (pv 0) pe_int (fun _ _ => rfl)) (pa_cons (pe_callB call_len_seq (by rfl) T.b_len (by decide +kernel) (pa_cons (pv 1) pa_nil)) pa_nil))) (pg_name (i := 3) sc_depths_by.nd rfl (by first | exact Or.inl rfl | exact Or.inr rfl))
        (pss_one (ps_expr (pe_bm PySem.F.plainAttrs_list PySem.F.slot_list_append PySem.F.type_list_append mt_append (pv 2) (pa_cons (pe_callB (cr_min rfl) (by rfl) T.b_min (by decide +kernel) (pa_cons (pe_lc (own := [("cut", 4)]) (g := gName 4) (tt := tYes) rfl sc_depths_by.nd (pi_tup (pe_ix ix_tup (pv 1) (pv 3) (fun _ _ => rfl))) (blkOk_by (own := [("cut", 4)]) (N := ["net", "cuts", "told", "gate", "cut"]) (sc := defScope s_depths_by) (by decide +kernel)) (fun _ _ _ _ _ => (pg_name (i := 4) sc_depths_by.nd rfl (by first | exact Or.inl rfl | exact Or.inr rfl))) (fun _ _ _ _ _ => pts_nil) (fun _ _ _ _ _ => (pe_c c_one_deeper hr (by decide) (by rfl) (pa_cons (pv 2) (pa_cons (pv 4) pa_nil))))) pa_nil)) pa_nil)))))
      (pss_one (ps_ret (pe_callTy call_tuple_of (by rfl) T.b_tuple (by decide +kernel) (pa_cons (pv 2) pa_nil)))))), ?_⟩
    refine ⟨small 1, fun z nz => ?_⟩
    have e1 := Same.new (o := .lst [.int 0]) nz
    refine ⟨_, rfl, a, _, 0, _, rfl, rfl, SqT.of (N.same e1).top, at0, z, _, _, rfl, rfl, upd_same, by omega, by omega, ?_, fun l nl => ?_⟩
    · show 1 * (((n.many : Nat)) : Int).toNat ≤ sizeLine
      rw [Int.toNat_natCast]
      exact small _ (by omega)
    have ef : (List.replicate (((n.many : Nat)) : Int).toNat [V.int 0]).flatten = (List.replicate n.many 0).map nV := by
      rw [Int.toNat_natCast, List.map_replicate, List.flatten_replicate_singleton]
      rfl
    rw [ef]
    have nlH : H l = none := by
      cases e : H l with
      | none => rfl
      | some u =>
        have := e1 _ _ e
        rw [nl] at this
        cases this
    have o1 : Own H (upd (upd H z (.lst [.int 0])) l (.lst ((List.replicate n.many 0).map nV))) l ((List.replicate n.many 0).map nV) := ⟨e1.trans (Same.new nl), upd_same, nlH⟩
    generalize upd (upd H z (.lst [.int 0])) l (.lst ((List.replicate n.many 0).map nV)) = H1 at o1 ⊢
    have N1 := N.same o1.sm
    have hp1 := o1.sm _ _ hp
    have ql : qs.length = n.many + n.gates.length := by rw [PQ.1, List.length_range]
    refine ⟨_, rfl, a, _, 0, _, rfl, rfl, SqT.of N1.top, at0, _, rfl, p, _, rfl, .inr (SqT.of hp1), _, _, rfl, ⟨by omega, by omega, by omega, by rw [List.length_map]; omega⟩, ?_⟩
    refine for_range (lo := ((n.many : Nat) : Int)) (n := ((((qs.map V.ref).length : Nat) : Int) - ((n.many : Nat) : Int)).toNat) (fun j σ H' => ∃ (x3 x4 : Option V) (ds : List Nat), σ = [some (.ref a), some (.ref p), some (.ref l), x3, x4] ∧ Own H H' l (ds.map nV) ∧ ds.length = n.many + j ∧ DepsTo n k ds) ⟨none, none, List.replicate n.many 0, rfl, o1, by rw [List.length_replicate]; rfl, ⟨fun x hx _ => by rw [List.getD_eq_getElem?_getD, List.getElem?_replicate, if_pos hx]; rfl, fun g' h1 h2 => by rw [List.length_replicate] at h2; omega⟩⟩ ?_ ?_
    · rintro j σ H2 hj ⟨x3, x4, ds, rfl, o2, dl, dt⟩
      rw [List.length_map, ql] at hj
      have hgl : n.many + j < (List.range (n.many + n.gates.length)).length := by rw [List.length_range]; omega
      obtain ⟨qg, eq, hq⟩ := PQ.get (i := n.many + j) (y := n.many + j) (by rw [List.getElem?_range (by omega)])
      obtain ⟨rs, cs, h1, h2, ca, cl⟩ := CutsTold.mono hq fun b xs e => o2.sm b _ e
      have hp2 := o2.sm _ _ hp
      have csne : 0 < cs.length := by
        obtain ⟨c0, h0⟩ := lc_any ok hk2 (Nat.le_add_right n.many j) (List.getElem?_eq_getElem (show n.many + j - n.many < n.gates.length by omega))
        exact List.length_pos_of_mem ((ca.mem c0).mpr h0)
      have cok : ∀ c ∈ cs, 0 < c.length ∧ c.length ≤ k ∧ ∀ x ∈ c, x < ds.length := fun c hc => by
        have h := (ca.mem c).mp hc
        refine ⟨Nat.pos_of_ne_zero fun z => ?_, h.len, fun x hx => by rw [dl]; exact h.lt x hx⟩
        have hs := h.sep
        rw [List.length_eq_zero_iff.mp z] at hs
        exact sep_none ok _ _ (Nat.le_refl _) (by omega) hs
      refine ⟨_, rfl, .inl ⟨rfl, _, SqL.of o2.at_⟩, _, rfl, _, rfl, p, _, ((n.many + j : Nat) : Int), _, rfl, rfl, SqT.of hp2, atI_nat eq, qg, rfl, ⟨_, SqT.of h1⟩, fun M nM => ?_⟩
      refine lc_tup (K := K) (a := qg) (xs := rs.map V.ref) (fun i H' => Own H2 H' M (((cs.take i).map fun c => 1 + maxL (c.map fun x => ds.getD x 0)).map nV)) ⟨Same.new nM, upd_same, nM⟩ (fun _ H' _ o' => SqT.of (o'.sm _ _ h1)) ?_ ?_
      · rintro i v H3 hv o3
        have hi : i < cs.length := by
          have := (List.getElem?_eq_some_iff.mp hv).1
          rwa [List.length_map, h2.1] at this
        obtain ⟨tq, c', rfl, hc, hat⟩ := h2.at_ hv
        obtain ⟨k1, k2, k3⟩ := cok c' (List.mem_of_getElem? hc)
        refine ⟨rfl, ?_⟩
        unfold tYes
        refine iteT ?_
        refine ⟨_, rfl, _, rfl, l, tq, ds, c', rfl, o3.sm _ _ o2.at_, o3.sm _ _ hat, k1, by omega, k3, fun H4 s4 => ?_⟩
        have o4 : Own H2 H4 M (((cs.take i).map fun c => 1 + maxL (c.map fun x => ds.getD x 0)).map nV) := ⟨o3.sm.trans s4, s4 _ _ o3.at_, o3.nw⟩
        refine ⟨_, o4.at_, by rw [List.length_map, List.length_map, List.length_take]; omega, ?_⟩
        rw [List.take_add_one, hc, Option.toList_some, List.map_append, List.map_append]
        exact o4.app
      · rintro H3 o3
        rw [List.length_map, h2.1, List.take_length] at o3
        refine ⟨M, (cs.map fun c => 1 + maxL (c.map fun x => ds.getD x 0)).map (fun n : Nat => (n : Int)), rfl, (by rw [mapV]; exact SqL.of o3.at_), by rw [List.length_map, List.length_map]; exact csne, fun m hm hb => ?_⟩
        obtain ⟨mn, hmn, rfl⟩ := List.mem_map.mp hm
        have hb' : ∀ y ∈ (cs.map fun c => 1 + maxL (c.map fun x => ds.getD x 0)), mn ≤ y := fun y hy => by
          have := hb _ (List.mem_map.mpr ⟨y, hy, rfl⟩)
          omega
        have oo : Own H H3 l (ds.map nV) := ⟨o2.sm.trans o3.sm, o3.sm _ _ o2.at_, o2.nw⟩
        refine ⟨l, _, _, rfl, rfl, oo.at_, by rw [List.length_map]; exact small256 (by omega), _, _, ds ++ [mn], rfl, by rw [List.map_append]; exact oo.app, by rw [List.length_append, dl]; rfl, ?_⟩
        have gs : ∀ x, x < ds.length → (ds ++ [mn]).getD x 0 = ds.getD x 0 := fun x hx => getSnoc hx
        have gl : (ds ++ [mn]).getD (n.many + j) 0 = mn := by
          rw [← dl]
          exact getLastN
        have cong : ∀ g' c, g' ≤ ds.length → LC n k g' c → maxL (c.map fun x => (ds ++ [mn]).getD x 0) = maxL (c.map fun x => ds.getD x 0) := fun g' c hg' lc => maxL_congr fun x hx => gs x (by have := lc.lt x hx; omega)
        refine ⟨fun x hx hx2 => ?_, fun g' hg1 hg2 => ?_⟩
        · rw [gs x (by omega)]
          exact dt.low x hx (by omega)
        · rw [List.length_append] at hg2
          have hg2' : g' < ds.length + 1 := hg2
          by_cases e : g' < ds.length
          · obtain ⟨⟨c, hc, e1⟩, e2⟩ := dt.at_ g' hg1 e
            rw [gs g' e]
            refine ⟨⟨c, hc, by rw [cong g' c (by omega) hc]; exact e1⟩, fun c hc => by rw [cong g' c (by omega) hc]; exact e2 c hc⟩
          · have eg : g' = n.many + j := by omega
            subst eg
            rw [gl]
            refine ⟨?_, fun c hc => by rw [cong _ c (by omega) hc]; exact hb' _ (List.mem_map.mpr ⟨c, (ca.mem c).mpr hc, rfl⟩)⟩
            obtain ⟨c, hc, e1⟩ := List.mem_map.mp hmn
            have lc := (ca.mem c).mp hc
            exact ⟨c, lc, by rw [cong _ c (by omega) lc]; exact e1.symm⟩
    · rintro σ H2 ⟨x3, x4, ds, rfl, o2, dl, dt⟩
      rw [List.length_map, ql, show (((n.many + n.gates.length : Nat) : Int) - ((n.many : Nat) : Int)).toNat = n.gates.length by omega] at dl
      refine ⟨_, rfl, l, _, rfl, .inl ⟨SqL.of o2.at_, fun r nr => ?_⟩⟩
      exact q r _ ds (o2.sm.trans (Same.new nr)) upd_same dl dt
def spDepths (Ts : List Addr) : Sp := fun vs H Q _ => ∃ (a : Addr) (n : Net) (g o : Addr) (ps : List Addr) (k : Nat), vs = [.ref a, nV k] ∧ NetAt H a n g o ps ∧ n.Ok ∧ 2 ≤ k ∧ k ≤ 1000 ∧ Tabs Ts H ∧
  ∀ r H' (ds : List Nat), Aft Ts H H' → H' r = some (.tup (ds.map nV)) → ds.length = n.many + n.gates.length → DepsTo n k ds → Q (.ref r) H'
theorem ok_depths {f c : Addr} (D : Dfn K mg "depths" s_depths f c) (T : Txt mg) (c_all_cuts : Cal P w K mg base 4 "all_cuts" (spAllCuts Ts) []) (c_depths_by : Cal P w K mg base 2 "depths_by" spDepthsBy []) : Cal P w K mg base 5 "depths" (spDepths Ts) [] := by
  refine cal D (fun _ _ _ _ _ _ us hl => match us, hl with | [_, _], _ => rfl) sc_depths (fun vs H Q E h => ?_) (fun A outer s H vs Q E hr h => ?_)
  · obtain ⟨a, n, g, o, ps, k, rfl, _⟩ := h
    rfl
  · obtain ⟨a, n, g, o, ps, k, rfl, N, ok, hk2, hk, tb, q⟩ := h
    refine ⟨_, (pss_one (ps_ret (pe_c c_depths_by hr (by decide) (by rfl) (pa_cons (pv 0) (pa_cons (pe_c c_all_cuts hr (by decide) (by rfl) (pa_cons (pv 0) (pa_cons (pv 1) pa_nil))) pa_nil))))), ?_⟩
    refine ⟨_, rfl, _, rfl, _, rfl, a, n, g, o, ps, k, rfl, N, ok, hk2, hk, tb, fun p H1 qs a1 hp PQ => ?_⟩
    exact ⟨a, p, n, g, o, ps, qs, k, rfl, N.aft tb a1, ok, hk2, hk, hp, PQ, fun r H2 ds s2 hr dl dt => q r H2 ds (a1.trans (Aft.ofSame a1.tb s2)) hr dl dt⟩
end
end K52
set_option Elab.async false
set_option linter.all false
set_option maxRecDepth 100000
set_option maxHeartbeats 4000000
/-! Needs: gates and the depths they have to keep, as dicts. -/
namespace GX
open PySem PySem.Spec PyProof.Rows L2
abbrev Nd := List (Nat × Int)
def kvI (ns : Nd) : List (L2.Key × V) := ns.map fun e => (nK e.1, V.int e.2)
def ndGet : Nd → Nat → Option Int
  | [], _ => none
  | e :: r, w => if e.1 = w then some e.2 else ndGet r w
def ndPut : Nd → Nat → Int → Nd
  | [], w, d => [(w, d)]
  | e :: r, w, d => if e.1 = w then (e.1, d) :: r else e :: ndPut r w d
def NdOk (ns : Nd) : Prop := (ns.map (·.1)).Nodup
theorem kvI_len (ns : Nd) : (kvI ns).length = ns.length := List.length_map _
theorem kvI_val : ∀ (ns : Nd) (w : Nat), valV (kvI ns) (nK w) = (ndGet ns w).map V.int
  | [], _ => rfl
  | e :: r, w => by
    unfold ndGet
    by_cases h : e.1 = w
    · rw [if_pos h]
      exact valV_pos (p := (nK e.1, V.int e.2)) (r := kvI r) (by rw [h])
    · rw [if_neg h, ← kvI_val r w]
      exact valV_neg (p := (nK e.1, V.int e.2)) (r := kvI r) fun z => h (nK_inj z)
theorem ndPut_keys : ∀ (ns : Nd) (w : Nat) (d : Int), (ndPut ns w d).map (·.1) = if w ∈ ns.map (·.1) then ns.map (·.1) else ns.map (·.1) ++ [w]
  | [], w, d => by rw [if_neg (by simp)]; rfl
  | e :: r, w, d => by
    unfold ndPut
    by_cases h : e.1 = w
    · rw [if_pos h, if_pos (by rw [← h]; exact List.mem_cons_self)]
      rfl
    · rw [if_neg h]
      show e.1 :: (ndPut r w d).map (·.1) = _
      rw [ndPut_keys r w d]
      show _ = if w ∈ e.1 :: r.map (·.1) then e.1 :: r.map (·.1) else e.1 :: r.map (·.1) ++ [w]
      by_cases h2 : w ∈ r.map (·.1)
      · rw [if_pos h2, if_pos (List.mem_cons_of_mem _ h2)]
      · rw [if_neg h2, if_neg fun z => by
          rcases List.mem_cons.mp z with z | z
          · exact h z.symm
          · exact h2 z]
        rfl
theorem NdOk.put {ns : Nd} (h : NdOk ns) (w : Nat) (d : Int) : NdOk (ndPut ns w d) := by
  unfold NdOk
  rw [ndPut_keys]
  split
  · exact h
  · rename_i hw
    refine List.nodup_append.mpr ⟨h, List.nodup_cons.mpr ⟨by simp, List.nodup_nil⟩, fun a ha b hb e => ?_⟩
    rw [List.mem_singleton.mp hb] at e
    exact hw (e ▸ ha)
theorem ndGet_put : ∀ (ns : Nd) (w : Nat) (d : Int) (x : Nat), ndGet (ndPut ns w d) x = if x = w then some d else ndGet ns x
  | [], w, d, x => by
    unfold ndPut
    show (if w = x then some d else none) = _
    by_cases h : x = w
    · rw [if_pos h, if_pos h.symm]
    · rw [if_neg h, if_neg fun z => h z.symm]
      rfl
  | e :: r, w, d, x => by
    unfold ndPut
    by_cases h : e.1 = w
    · rw [if_pos h]
      show (if e.1 = x then some d else ndGet r x) = if x = w then some d else if e.1 = x then some e.2 else ndGet r x
      by_cases hx : x = w
      · rw [if_pos hx, if_pos (h.trans hx.symm)]
      · rw [if_neg hx, if_neg (fun z => hx (z.symm.trans h)), if_neg (fun z => hx (z.symm.trans h))]
    · rw [if_neg h]
      show (if e.1 = x then some e.2 else ndGet (ndPut r w d) x) = if x = w then some d else if e.1 = x then some e.2 else ndGet r x
      rw [ndGet_put r w d x]
      by_cases hx : e.1 = x
      · rw [if_pos hx, if_pos hx, if_neg fun z => h (hx.trans z)]
      · rw [if_neg hx, if_neg hx]
theorem ndGet_none {ns : Nd} {w : Nat} : ndGet ns w = none ↔ w ∉ ns.map (·.1) := by
  induction ns with
  | nil => exact ⟨fun _ z => (by cases z), fun _ => rfl⟩
  | cons e r ih =>
    unfold ndGet
    by_cases h : e.1 = w
    · rw [if_pos h]
      exact ⟨fun z => (by cases z), fun z => absurd (show w ∈ (e :: r).map (·.1) from h ▸ List.mem_cons_self) z⟩
    · rw [if_neg h, ih]
      exact ⟨fun z y => by
        rcases List.mem_cons.mp y with y | y
        · exact h y.symm
        · exact z y, fun z y => z (List.mem_cons_of_mem _ y)⟩
theorem ndGet_some {ns : Nd} {w : Nat} (h : w ∈ ns.map (·.1)) : ∃ d, ndGet ns w = some d := by
  cases e : ndGet ns w with
  | none => exact absurd h (ndGet_none.mp e)
  | some d => exact ⟨d, rfl⟩
theorem ndGet_mem {ns : Nd} {w : Nat} {d : Int} (h : ndGet ns w = some d) : w ∈ ns.map (·.1) := Classical.not_not.mp fun z => by
  rw [ndGet_none.mpr z] at h
  cases h
theorem kvI_put {ns : Nd} (ok : NdOk ns) (w : Nat) (d : Int) : putK (kvI ns) (nK w) (.int d) = kvI (ndPut ns w d) := by
  induction ns with
  | nil => rfl
  | cons e r ih =>
    have okr : NdOk r := (List.nodup_cons.mp ok).2
    have hn : e.1 ∉ r.map (·.1) := (List.nodup_cons.mp ok).1
    have ih := ih okr
    unfold putK at ih ⊢
    unfold ndPut
    by_cases h : e.1 = w
    · rw [if_pos h, if_pos]
      · show (if nK e.1 = nK w then (nK e.1, V.int d) else (nK e.1, V.int e.2)) :: _ = (nK e.1, V.int d) :: kvI r
        rw [if_pos (show nK e.1 = nK w by rw [h])]
        congr 1
        refine (List.map_congr_left fun kv hkv => ?_).trans (List.map_id _)
        rw [if_neg fun z => ?_]
        · rfl
        · obtain ⟨x, hx, rfl⟩ := List.mem_map.mp hkv
          rw [h, ← nK_inj (show nK x.1 = nK w from z)] at hn
          exact hn (List.mem_map.mpr ⟨x, hx, rfl⟩)
      · show (decide (nK e.1 = nK w) || _) = true
        rw [decide_eq_true (by rw [h])]
        rfl
    · rw [if_neg h]
      have hk : ¬ nK e.1 = nK w := fun z => h (nK_inj z)
      have ha : ((kvI (e :: r)).any fun kv => decide (kv.1 = nK w)) = (kvI r).any fun kv => decide (kv.1 = nK w) := by
        show (decide (nK e.1 = nK w) || _) = _
        rw [decide_eq_false hk]
        rfl
      rw [ha]
      show (if _ then (if nK e.1 = nK w then _ else (nK e.1, V.int e.2)) :: List.map _ (kvI r) else (nK e.1, V.int e.2) :: kvI r ++ _) = (nK e.1, V.int e.2) :: kvI (ndPut r w d)
      rw [if_neg hk, ← ih]
      split <;> rfl
/-- merged one by one -/
theorem kvI_merge : ∀ {more ns : Nd}, NdOk ns → mergeK (kvI ns) (kvI more) = kvI (more.foldl (fun acc e => ndPut acc e.1 e.2) ns)
  | [], _, _ => rfl
  | e :: r, ns, ok => by
    show mergeK (putK (kvI ns) (nK e.1) (V.int e.2)) (kvI r) = _
    rw [kvI_put ok]
    exact kvI_merge (ok.put _ _)
/-- what the outs need -/
def firstN (n : Net) (d : Int) : Nd := (n.outs.filter fun o => decide (n.many ≤ o)).foldl (fun acc o => ndPut acc o d) []
/-- the greatest gate below -/
def nextG (ns : Nd) (b : Nat) : Option Nat := ((ns.map (·.1)).filter fun g => decide (g < b)).max?
/-- cuts that keep a depth -/
def fitC (ds : List Nat) (cs : List (List Nat)) (d : Int) : List (List Nat) := cs.filter fun c => decide (((maxL (c.map fun x => ds.getD x 0) : Nat) : Int) < d)
def minI (i j : Int) : Int := if j < i then j else i
/-- the needs when a gate is led so -/
def thenN (many : Nat) (ns : Nd) (g : Nat) (c : List Nat) : Nd := c.foldl (fun acc w => if many ≤ w then ndPut acc w (minI ((ndGet ns g).getD 0 - 1) ((ndGet acc w).getD ((ndGet ns g).getD 0 - 1))) else acc) ns
theorem NdOk.fold {α : Type} {f : Nd → α → Nd} (hf : ∀ acc x, NdOk acc → NdOk (f acc x)) : ∀ {l : List α} {ns : Nd}, NdOk ns → NdOk (l.foldl f ns)
  | [], _, h => h
  | x :: l, ns, h => NdOk.fold hf (l := l) (hf ns x h)
theorem firstN_ok (n : Net) (d : Int) : NdOk (firstN n d) := NdOk.fold (fun acc x h => h.put _ _) List.nodup_nil
theorem thenN_step {many : Nat} {by_ : Int} {acc : Nd} {w : Nat} (h : NdOk acc) : NdOk (if many ≤ w then ndPut acc w (minI by_ ((ndGet acc w).getD by_)) else acc) := by
  split
  · exact h.put _ _
  · exact h
theorem thenN_ok {many : Nat} {ns : Nd} {g : Nat} {c : List Nat} (h : NdOk ns) : NdOk (thenN many ns g c) := NdOk.fold (fun acc x h => thenN_step h) h
theorem nextG_some {ns : Nd} {b g : Nat} (h : nextG ns b = some g) : g ∈ ns.map (·.1) ∧ g < b ∧ ∀ x ∈ ns.map (·.1), x < b → x ≤ g := by
  obtain ⟨h1, h2⟩ := List.max?_eq_some_iff.mp h
  obtain ⟨h3, h4⟩ := List.mem_filter.mp h1
  exact ⟨h3, of_decide_eq_true h4, fun x hx hb => h2 x (List.mem_filter.mpr ⟨hx, decide_eq_true hb⟩)⟩
theorem nextG_none {ns : Nd} {b : Nat} : nextG ns b = none ↔ ((ns.map (·.1)).filter fun g => decide (g < b)) = [] := List.max?_eq_none_iff
theorem nextG_eq {ns : Nd} {b g : Nat} (h1 : g ∈ (ns.map (·.1)).filter fun g => decide (g < b)) (h2 : ∀ x ∈ (ns.map (·.1)).filter fun g => decide (g < b), x ≤ g) : nextG ns b = some g := List.max?_eq_some_iff.mpr ⟨h1, h2⟩
end GX
set_option Elab.async false
set_option linter.all false
set_option maxRecDepth 100000
set_option maxHeartbeats 4000000
namespace K52
open PySem PySem.Spec PyProof.Rows L2 GX
open C8 (Cal pe_c pe_gc Met Mak)
-- @exc CoverError
-- @exc NoText
-- @exc NoDepth init=least
-- @exc TooMany made
-- @exc NoMatch
-- @exc NoChange
-- @exc NoRow
-- @sub NoDepth NoDepth true
-- @sub NoDepth CoverError true
-- @sub NoDepth ValueError true
-- @sub NoDepth NoChange false
-- @sub NoDepth NoMatch false
-- @sub NoDepth NoRow false
-- @sub NoDepth NoText false
-- @sub NoDepth TooMany false
-- @sub TooMany TooMany true
-- @sub TooMany CoverError true
-- @sub TooMany ValueError true
-- @sub TooMany NoChange false
-- @sub TooMany NoMatch false
-- @sub TooMany NoRow false
-- @sub TooMany NoText false
-- @sub TooMany NoDepth false
section
variable {P : Program} {w : World} {K : PySem.W.Frag} {mg : Str → Option Value} {base : Heap} {Ts : List Addr}
/-- a cut and the greatest depth in it -/
def CutDp (ds : List Nat) (H : Hp) (q : Addr) (c : List Nat) : Prop := ∃ ca, H q = some (.tup [.ref ca, nV (maxL (c.map fun x => ds.getD x 0))]) ∧ H ca = some (.tup (c.map nV))
theorem CutDp.mono {ds : List Nat} {H H' : Hp} {q : Addr} {c : List Nat} (h : CutDp ds H q c) (m : ∀ b xs, H b = some (.tup xs) → H' b = some (.tup xs)) : CutDp ds H' q c := by
  obtain ⟨ca, h1, h2⟩ := h
  exact ⟨ca, m _ _ h1, m _ _ h2⟩
theorem tyes {σ : L2.St} {H : Hp} {A B : Hp → Prop} (h : A H) : tYes σ H fun b H3 => if b = true then A H3 else B H3 := by
  unfold tYes
  exact iteT h
def spWithDeep (Ts : List Addr) : Sp := fun vs H Q _ => ∃ (q la : Addr) (rs : List Addr) (cs : List (List Nat)) (ds : List Nat), vs = [.ref q, .ref la] ∧ H q = some (.tup (rs.map V.ref)) ∧ TupsAt H rs cs ∧ H la = some (.tup (ds.map nV)) ∧ cs.length < sizeLine ∧ (∀ c ∈ cs, 0 < c.length ∧ c.length ≤ 1000 ∧ ∀ x ∈ c, x < ds.length) ∧ Tabs Ts H ∧
  ∀ p H' us, Aft Ts H H' → H' p = some (.tup (us.map V.ref)) → PtsAt (CutDp ds) H' us cs → Q (.ref p) H'
theorem ok_withdeep {f c PW : Addr} (D : Dfn K mg "with_deepest" s_with_deepest f c) (T : Txt mg) (TB_with_deepest : GxR.TabB base mg c PW) (hP : PW ∈ Ts) : Cal P w K mg base 3 "with_deepest" (spWithDeep Ts) [] := by
  refine cal D (fun _ _ _ _ _ _ us hl => match us, hl with | [_, _], _ => rfl) sc_with_deepest (fun vs H Q E h => ?_) (fun A outer s H vs Q E hr h => ?_)
  · obtain ⟨q, la, rs, cs, ds, rfl, _⟩ := h
    rfl
  · obtain ⟨q, la, rs, cs, ds, rfl, hq, tq, hla, cl, cb, tb, fin⟩ := h
    refine ⟨_, (pss_one (ps_ret (pe_tupG (own := [("cut", 3)]) hr (by rfl) T.b_tuple TB_with_deepest rfl (gxOk_by (N := ["cuts", "told", "wire", "cut"]) (sc := defScope s_with_deepest) (own := [("cut", 3)]) (by decide +kernel)) sc_with_deepest.nd (pi_tup (pv 0)) (fun _ _ _ _ => (pg_name (i := 3) sc_with_deepest.nd rfl (by first | exact Or.inl rfl | exact Or.inr rfl))) (fun _ _ _ _ => pts_nil) (fun _ _ _ _ => (pe_tup (pa_cons (pv 3) (pa_cons (pe_callB (cr_maxK (K := K) rfl) (by rfl) T.b_max (by decide +kernel) (pa_cons (pe_lc (own := [("wire", 2)]) (g := gName 2) (tt := tYes) rfl sc_with_deepest.nd (pi_tupK (K := K) (pv 3)) (blkOk_by (own := [("wire", 2)]) (by rfl)) (fun _ _ _ _ _ => (pg_name (i := 2) sc_with_deepest.nd rfl (by first | exact Or.inl rfl | exact Or.inr rfl))) (fun _ _ _ _ _ => pts_nil) (fun _ _ _ _ _ => (pe_ix (ix_tupK (K := K)) (pv 1) (pv 2) (fun _ _ => rfl)))) pa_nil)) pa_nil))))))), ?_⟩
    refine ⟨_, rfl, q, rfl, ⟨_, SqT.of hq⟩, tb PW hP, fun H2 ht => ?_⟩
    have a2 : Aft Ts H H2 := ⟨Keep.tabbed hP ht, tb.tabbed ht⟩
    refine turns_it (walk_tup (xs := rs.map V.ref)) (fun i ys H' => ∃ us : List Addr, ys = us.map V.ref ∧ Aft Ts H H' ∧ PtsAt (CutDp ds) H' us (cs.take i)) ⟨[], rfl, a2, PtsAt.nil _ _⟩ (fun i ys H5 _ h => h.elim fun us h => SqT.of (h.2.1.tup tb hq)) ?_ ?_
    · rintro i x ys H3 H4 hi ⟨us, rfl, a3, P3⟩ ⟨rfl, hx⟩
      obtain ⟨t, c, rfl, hc, htc⟩ := tq.at_ hx
      have hci : i < cs.length := (List.getElem?_eq_some_iff.mp hc).1
      obtain ⟨c0, c1000, cds⟩ := cb c (List.mem_of_getElem? hc)
      have ht3 := a3.tup tb htc
      have hla3 := a3.tup tb hla
      refine ⟨rfl, tyes ?_⟩
      refine ⟨_, rfl, _, rfl, t, rfl, ⟨_, SqT.of ht3⟩, fun M nM => ?_⟩
      refine lc_tup (K := K) (a := t) (xs := c.map nV) (fun i H' => Own H4 H' M (((c.take i).map fun x => ds.getD x 0).map nV)) ⟨Same.new nM, upd_same, nM⟩ (fun k H' _ o' => SqT.of (o'.sm _ _ ht3)) ?_ ?_
      · rintro j x H2 hx o2
        have hj : j < c.length := by
          have := (List.getElem?_eq_some_iff.mp hx).1
          rwa [List.length_map] at this
        rw [natAt hj] at hx
        cases hx
        refine ⟨rfl, ?_⟩
        unfold tYes
        refine iteT ?_
        refine ⟨_, rfl, _, rfl, la, _, _, _, rfl, rfl, SqT.of (o2.sm _ _ hla3), atI_nat (natAt (cds _ (getD_mem hj))), _, o2.at_, by rw [List.length_map, List.length_map, List.length_take]; exact small256 (by omega), ?_⟩
        have : c.getD j 0 = c[j] := by rw [List.getD_eq_getElem?_getD, List.getElem?_eq_getElem hj]; rfl
        rw [List.take_add_one, List.getElem?_eq_getElem hj, Option.toList_some, List.map_append, List.map_append, this]
        exact o2.app
      · rintro H5 o5
        rw [List.length_map, List.take_length] at o5
        refine ⟨M, (c.map fun x => ds.getD x 0).map (fun n : Nat => (n : Int)), rfl, (by rw [mapV]; exact SqL.of o5.at_), by rw [List.length_map, List.length_map]; exact c0, fun m hm hb => ⟨small 2, fun p np => ?_⟩⟩
        have e : V.int m = nV (maxL (c.map fun x => ds.getD x 0)) := max_eq hm hb
        dsimp -proj only
        rw [e]
        have s6 := o5.sm.trans (Same.new (o := .tup [.ref t, nV (maxL (c.map fun x => ds.getD x 0))]) np)
        have a6 := a3.trans (Aft.ofSame a3.tb s6)
        have ul : us.length = i := by rw [P3.1, List.length_take]; omega
        refine ⟨?_, fun _ => ⟨us ++ [p], by rw [List.map_append]; rfl, a6, ?_⟩⟩
        · show (us.map V.ref).length < sizeLine
          rw [List.length_map, ul]
          omega
        · rw [List.take_add_one, hc, Option.toList_some]
          exact (P3.mono fun p x h => CutDp.mono h fun b zs e => s6 b _ e).push ⟨t, upd_same, s6 _ _ ht3⟩
    · rintro ys H5 ⟨us, rfl, a5, P5⟩
      have el : (rs.map V.ref).length = cs.length := by rw [List.length_map]; exact tq.1
      rw [el, List.take_length] at P5
      refine ⟨?_, fun p np => ?_⟩
      · rw [List.length_map, P5.1]
        exact Nat.le_of_lt cl
      · have a6 := Aft.new (o := .tup (us.map V.ref)) a5.tb np
        exact fin p _ us (a5.trans a6) upd_same (P5.mono fun p x h => CutDp.mono h fun b zs e => a6.tup a5.tb e)
def spFirstN : Sp := fun vs H Q _ => ∃ (a : Addr) (n : Net) (g o : Addr) (ps : List Addr) (d : Int), vs = [.ref a, .int d] ∧ NetAt H a n g o ps ∧ n.Ok ∧ ∀ p H', Same H H' → H' p = some (.dK (kvI (firstN n d))) → H p = none → Q (.ref p) H'
theorem ok_firstn {f c : Addr} (D : Dfn K mg "first_needs" s_first_needs f c) (T : Txt mg) : Cal P w K mg base 1 "first_needs" spFirstN [] := by
  refine cal D (fun _ _ _ _ _ _ us hl => match us, hl with | [_, _], _ => rfl) sc_first_needs (fun vs H Q E h => ?_) (fun A outer s H vs Q E hr h => ?_)
  · obtain ⟨a, n, g, o, ps, d, rfl, _⟩ := h
    rfl
  · obtain ⟨a, n, g, o, ps, d, rfl, N, ok, q⟩ := h
    have o8 := ok.o8
    refine ⟨_, (pss_one (ps_ret (pe_dc (own := [("out", 2)]) (g := gName 2)  rfl sc_first_needs.nd (pi_tup (pe_ix ix_tup (pv 0) pe_int (fun _ _ => rfl))) (blkOk_by (own := [("out", 2)]) (N := ["net", "depth", "out"]) (sc := defScope s_first_needs) (by decide +kernel)) (fun _ _ _ _ _ => (pg_name (i := 2) sc_first_needs.nd rfl (by first | exact Or.inl rfl | exact Or.inr rfl))) (fun _ _ _ _ _ => (pts_one (pt_cmpR op_ge (pv 2) (pe_ix (ix_tupK (K := K)) (pv 0) pe_int (fun _ _ => rfl)) (nomark _)))) (fun _ _ _ _ _ => (pv 2)) (fun _ _ _ _ _ => (pv 1))))), ?_⟩
    refine ⟨_, rfl, a, _, 2, _, rfl, rfl, SqT.of N.top, at2, o, rfl, ⟨_, SqT.of N.ot⟩, fun p np => ?_⟩
    refine dc_tup (K := K) (a := o) (xs := n.outs.map nV) (fun i H' => ∃ ns : Nd, Same H H' ∧ H' p = some (.dK (kvI ns)) ∧ NdOk ns ∧ ns.length ≤ i ∧ ns = ((n.outs.take i).filter fun o => decide (n.many ≤ o)).foldl (fun acc o => ndPut acc o d) []) ⟨[], Same.new np, upd_same, List.nodup_nil, Nat.le_refl _, rfl⟩ (fun i H' _ ⟨_, sm, _⟩ => SqT.of (sm _ _ N.ot)) ?_ ?_
    · rintro i x H1 hx ⟨ns, sm, hp1, nok, nl, en⟩
      have hi : i < n.outs.length := by
        have := (List.getElem?_eq_some_iff.mp hx).1
        rwa [List.length_map] at this
      rw [natAt hi] at hx
      cases hx
      have eo : n.outs.getD i 0 = n.outs[i] := by rw [List.getD_eq_getElem?_getD, List.getElem?_eq_getElem hi]; rfl
      refine ⟨rfl, ?_⟩
      refine ⟨_, rfl, _, rfl, a, _, 0, _, rfl, rfl, SqT.of (sm _ _ N.top), at0, _, _, rfl, rfl, _, rfl, ite2 (fun h => ?_) (fun h => ?_)⟩
      · have h' : n.many ≤ n.outs[i] := by
          have := of_decide_eq_true h
          rw [eo] at this
          omega
        refine ⟨_, rfl, _, rfl, kvI ns, nK (n.outs.getD i 0), rfl, hp1, by rw [kvI_len]; exact small256 (by omega), ndPut ns (n.outs.getD i 0) d, fun b u e => ?_, by rw [upd_same, kvI_put nok], nok.put _ _, ?_, ?_⟩
        · rw [upd_ne (ne_of_none e np)]
          exact sm b u e
        · have : (ndPut ns (n.outs.getD i 0) d).length = ((ndPut ns (n.outs.getD i 0) d).map (·.1)).length := (List.length_map _).symm
          rw [this, ndPut_keys]
          split
          · rw [List.length_map]; omega
          · rw [List.length_append, List.length_map]; exact Nat.succ_le_succ nl
        · rw [List.take_add_one, List.getElem?_eq_getElem hi, Option.toList_some, List.filter_append, List.foldl_append, ← en, List.filter_cons, if_pos (decide_eq_true h'), eo]
          rfl
      · have h' : ¬ n.many ≤ n.outs[i] := fun z => h (decide_eq_true (by rw [eo]; omega))
        refine ⟨ns, sm, hp1, nok, by omega, ?_⟩
        rw [List.take_add_one, List.getElem?_eq_getElem hi, Option.toList_some, List.filter_append, List.filter_cons, if_neg (by rw [decide_eq_true_iff]; exact h'), List.filter_nil, List.append_nil]
        exact en
    · rintro H1 ⟨ns, sm, hp1, nok, nl, en⟩
      rw [List.length_map, List.take_length] at en
      rw [en] at hp1
      exact q p H1 sm hp1 np
def optV : Option Nat → V
  | none => .non
  | some g => nV g
def spNextG : Sp := fun vs H Q _ => ∃ (d : Addr) (ns : Nd) (b : Nat), vs = [.ref d, nV b] ∧ H d = some (.dK (kvI ns)) ∧ ns.length ≤ 1000 ∧ ∀ H', Same H H' → Q (optV (nextG ns b)) H'
theorem ok_nextg {f c : Addr} (D : Dfn K mg "next_gate" s_next_gate f c) (T : Txt mg) : Cal P w K mg base 1 "next_gate" spNextG [] := by
  refine cal D (fun _ _ _ _ _ _ us hl => match us, hl with | [_, _], _ => rfl) sc_next_gate (fun vs H Q E h => ?_) (fun A outer s H vs Q E hr h => ?_)
  · obtain ⟨d, ns, b, rfl, _⟩ := h
    rfl
  · obtain ⟨d, ns, b, rfl, hd, nl, q⟩ := h
    refine ⟨_, (pss_one (ps_ret (pe_maxD (K := K) hr.hd (by rfl) T.b_max (pa_cons (pe_lock (pe_lc (own := [("gate", 2)]) (g := gName 2)  rfl sc_next_gate.nd (pi_keys (pv 0)) (blkOk_by (own := [("gate", 2)]) (N := ["needs", "bound", "gate"]) (sc := defScope s_next_gate) (by decide +kernel)) (fun _ _ _ _ _ => (pg_name (i := 2) sc_next_gate.nd rfl (by first | exact Or.inl rfl | exact Or.inr rfl))) (fun _ _ _ _ _ => (pts_one (pt_cmpR op_lt (pv 2) (pv 1) (nomark _)))) (fun _ _ _ _ _ => (pv 2)))) pa_nil)))), ?_⟩
    refine ⟨d, .dK (kvI ns), hd, trivial, fun od => ⟨_, rfl, d, od, rfl, .inl ⟨kvI ns, upd_same, fun S nS => ?_⟩⟩⟩
    have hdl : upd H d (.frz od (.dK (kvI ns))) d = some (.frz od (.dK (kvI ns))) := upd_same
    have nS0 : H S = none := by
      by_cases z : S = d
      · rw [z, hdl] at nS; cases nS
      · rw [upd_ne z] at nS; exact nS
    have ol : ∀ b u, b ≠ d → H b = some u → upd H d (.frz od (.dK (kvI ns))) b = some u := fun b u hb e => by rw [upd_ne hb]; exact e
    generalize upd H d (.frz od (.dK (kvI ns))) = Hl at nS hdl ol ⊢
    refine lc_it (walk_keys (kvs := kvI ns)) (fun i H' => Own Hl H' S ((((ns.map (·.1)).take i).filter fun g => decide (g < b)).map nV)) ⟨Same.new nS, upd_same, nS⟩ (fun i H' _ o' => o'.sm _ _ hdl) ?_ ?_
    · rintro i x H3 H4 hi o3 ⟨rfl, kk, v, hkv, rfl⟩
      rw [kvI_len] at hi
      have ek : kk = nK ((ns.map (·.1)).getD i 0) := by
        unfold kvI at hkv
        rw [List.getElem?_map, List.getElem?_eq_getElem hi] at hkv
        rw [List.getD_eq_getElem?_getD, List.getElem?_map, List.getElem?_eq_getElem hi]
        cases hkv
        rfl
      subst ek
      have hi' : i < (ns.map (·.1)).length := by rw [List.length_map]; exact hi
      have ee : (ns.map (·.1)).getD i 0 = (ns.map (·.1))[i] := by rw [List.getD_eq_getElem?_getD, List.getElem?_eq_getElem hi']; rfl
      refine ⟨rfl, ?_⟩
      refine ⟨_, rfl, _, rfl, _, _, rfl, rfl, _, rfl, ite2 (fun h => ?_) (fun h => ?_)⟩
      · have h' : (ns.map (·.1))[i] < b := by
          have := of_decide_eq_true h
          rw [ee] at this
          omega
        refine ⟨_, rfl, _, o3.at_, ?_, ?_⟩
        · rw [List.length_map]
          have := List.length_filter_le (fun g => decide (g < b)) ((ns.map (·.1)).take i)
          rw [List.length_take] at this
          exact small256 (by omega)
        · rw [List.take_add_one, List.getElem?_eq_getElem hi', Option.toList_some, List.filter_append, List.filter_cons, if_pos (decide_eq_true h'), List.filter_nil, List.map_append, ← ee]
          exact o3.app
      · have h' : ¬ (ns.map (·.1))[i] < b := fun z => h (decide_eq_true (by rw [ee]; omega))
        show Own Hl H4 S _
        rw [List.take_add_one, List.getElem?_eq_getElem hi', Option.toList_some, List.filter_append, List.filter_cons, if_neg (by rw [decide_eq_true_iff]; exact h'), List.filter_nil, List.append_nil]
        exact o3
    · rintro H4 o4
      rw [kvI_len, ← List.length_map (f := fun e : Nat × Int => e.1), List.take_length] at o4
      refine ⟨o4.sm _ _ hdl, ?_⟩
      have dS : S ≠ d := fun z => by rw [z, hdl] at nS; cases nS
      have s5 : Same H (upd H4 d (.dK (kvI ns))) := fun b u e => by
        by_cases z : b = d
        · rw [z, hd] at e
          rw [z, upd_same]
          exact e
        · rw [upd_ne z]
          exact o4.sm _ _ (ol b u z e)
      have hS5 : upd H4 d (.dK (kvI ns)) S = some (.lst (((ns.map (·.1)).filter fun g => decide (g < b)).map nV)) := by rw [upd_ne dS]; exact o4.at_
      refine ⟨S, ((ns.map (·.1)).filter fun g => decide (g < b)).map (fun n : Nat => (n : Int)), rfl, by rw [mapV]; exact SqL.of hS5, fun e => ?_, fun m hm hb => ?_⟩
      · have := nextG_none.mpr (List.map_eq_nil_iff.mp e)
        rw [← show optV (nextG ns b) = V.non by rw [this]; rfl]
        exact q _ s5
      · obtain ⟨g, hg, rfl⟩ := List.mem_map.mp hm
        have := nextG_eq hg fun x hx => by
          have := hb (x : Int) (List.mem_map.mpr ⟨x, hx, rfl⟩)
          omega
        rw [← show optV (nextG ns b) = V.int (g : Int) by rw [this]; rfl]
        exact q _ s5
end
end K52
set_option Elab.async false
set_option linter.all false
set_option maxRecDepth 100000
set_option maxHeartbeats 4000000
namespace K52
open PySem PySem.Spec PyProof.Rows L2 GX
open C8 (Cal pe_c pe_gc Met Mak)
-- @exc CoverError
-- @exc NoText
-- @exc NoDepth init=least
-- @exc TooMany made
-- @exc NoMatch
-- @exc NoChange
-- @exc NoRow
-- @sub NoDepth NoDepth true
-- @sub NoDepth CoverError true
-- @sub NoDepth ValueError true
-- @sub NoDepth NoChange false
-- @sub NoDepth NoMatch false
-- @sub NoDepth NoRow false
-- @sub NoDepth NoText false
-- @sub NoDepth TooMany false
-- @sub TooMany TooMany true
-- @sub TooMany CoverError true
-- @sub TooMany ValueError true
-- @sub TooMany NoChange false
-- @sub TooMany NoMatch false
-- @sub TooMany NoRow false
-- @sub TooMany NoText false
-- @sub TooMany NoDepth false
section
variable {P : Program} {w : World} {K : PySem.W.Frag} {mg : Str → Option Value} {base : Heap} {Ts : List Addr}
/-- the choices of a wire, told -/
def ChTold (n : Net) (k : Nat) (ds : List Nat) (H : Hp) (q : Addr) (x : Nat) : Prop := ∃ (rs : List Addr) (cs : List (List Nat)), H q = some (.tup (rs.map V.ref)) ∧ PtsAt (CutDp ds) H rs cs ∧ CutsAre n k x cs ∧ cs.length < sizeLine
theorem ChTold.mono {n : Net} {k : Nat} {ds : List Nat} {H H' : Hp} {q : Addr} {x : Nat} (h : ChTold n k ds H q x) (m : ∀ b xs, H b = some (.tup xs) → H' b = some (.tup xs)) : ChTold n k ds H' q x := by
  obtain ⟨rs, cs, h1, h2, h3⟩ := h
  exact ⟨rs, cs, m _ _ h1, h2.mono fun p x h => CutDp.mono h m, h3⟩
/-- all choices -/
structure ChAt (n : Net) (k : Nat) (ds : List Nat) (H : Hp) (p : Addr) (qs : List Addr) : Prop where
  top : H p = some (.tup (qs.map V.ref))
  pts : PtsAt (ChTold n k ds) H qs (List.range (n.many + n.gates.length))
theorem ChAt.mono {n : Net} {k : Nat} {ds : List Nat} {H H' : Hp} {p : Addr} {qs : List Addr} (h : ChAt n k ds H p qs) (m : ∀ b xs, H b = some (.tup xs) → H' b = some (.tup xs)) : ChAt n k ds H' p qs := ⟨m _ _ h.top, h.pts.mono fun p x h => ChTold.mono h m⟩
theorem getD_some {ns : Nd} {g : Nat} {d : Int} (h : ndGet ns g = some d) : some (V.int d) = valV (kvI ns) (nK g) := by rw [kvI_val, h]; rfl
def spFit : Sp := fun vs H Q _ => ∃ (cp d : Addr) (n : Net) (k : Nat) (ds : List Nat) (qs : List Addr) (g : Nat) (ns : Nd) (nd : Int), vs = [.ref cp, nV g, .ref d] ∧ ChAt n k ds H cp qs ∧ g < n.many + n.gates.length ∧ H d = some (.dK (kvI ns)) ∧ ndGet ns g = some nd ∧
  ∀ M H' us cs, CutsAre n k g cs → Same H H' → H M = none → H' M = some (.lst (us.map V.ref)) → TupsAt H' us (fitC ds cs nd) → cs.length < sizeLine → Q (.ref M) H'
theorem ok_fit {f c : Addr} (D : Dfn K mg "fitting_cuts" s_fitting_cuts f c) (T : Txt mg) : Cal P w K mg base 1 "fitting_cuts" spFit [] := by
  refine cal D (fun _ _ _ _ _ _ us hl => match us, hl with | [_, _, _], _ => rfl) sc_fitting_cuts (fun vs H Q E h => ?_) (fun A outer s H vs Q E hr h => ?_)
  · obtain ⟨cp, d, n, k, ds, qs, g, ns, nd, rfl, _⟩ := h
    rfl
  · obtain ⟨cp, d, n, k, ds, qs, g, ns, nd, rfl, C, hg, hd, hnd, q⟩ := h
    obtain ⟨qa, hqa, rs, cs, h1, h2, h3, h4⟩ := C.pts.get (List.getElem?_range hg)
    refine ⟨_, (pss_one (ps_ret (pe_lc (own := [("cut", 3), ("deepest", 4)])   rfl sc_fitting_cuts.nd (pi_tup (pe_ix ix_tup (pv 0) (pv 1) (fun _ _ => rfl))) (blkOk_by (own := [("cut", 3), ("deepest", 4)]) (N := ["choices", "gate", "needs", "cut", "deepest"]) (sc := defScope s_fitting_cuts) (by decide +kernel)) (fun _ _ _ _ _ => (pg_tupK (K := K) (n := 2) rfl rfl (pgs_cons (pg_name (i := 3) sc_fitting_cuts.nd rfl (by first | exact Or.inl rfl | exact Or.inr rfl)) (pgs_cons (pg_name (i := 4) sc_fitting_cuts.nd rfl (by first | exact Or.inl rfl | exact Or.inr rfl)) pgs_nil)))) (fun _ _ _ _ _ => (pts_one (pt_cmpR op_lt (pv 4) (pe_dget (Nat.lt_of_le_of_lt (Nat.add_le_add_left (by decide) _) hr.units) (pv 2) (pv 1) (fun _ _ => rfl)) (nomark _)))) (fun _ _ _ _ _ => (pv 3))))), ?_⟩
    refine ⟨_, rfl, _, rfl, cp, _, _, _, rfl, rfl, SqT.of C.top, atI_nat hqa, qa, rfl, ⟨_, SqT.of h1⟩, fun M nM => ?_⟩
    refine lc_tup (K := K) (a := qa) (xs := rs.map V.ref) (fun i H' => ∃ us : List Addr, Own H H' M (us.map V.ref) ∧ TupsAt H' us (fitC ds (cs.take i) nd)) ⟨[], ⟨Same.new nM, upd_same, nM⟩, RefsAt.nil _ _⟩ (fun i H' _ ⟨_, o', _⟩ => SqT.of (o'.sm _ _ h1)) ?_ ?_
    · rintro i x H1 hx ⟨us, o1, t1⟩
      obtain ⟨t, ct, rfl, hc, ca, ht, hca⟩ := h2.at_ hx
      have hci : i < cs.length := (List.getElem?_eq_some_iff.mp hc).1
      have el : (us.map V.ref).length ≤ i := by
        rw [List.length_map, t1.1]
        have := List.length_filter_le (fun c => decide (((maxL (c.map fun x => ds.getD x 0) : Nat) : Int) < nd)) (cs.take i)
        rw [List.length_take] at this
        show (List.filter _ _).length ≤ i
        omega
      refine ⟨t, _, rfl, SqT.of (o1.sm _ _ ht), rfl, _, _, rfl, _, _, rfl, rfl, rfl, ?_⟩
      refine ⟨_, rfl, _, rfl, _, rfl, d, _, rfl, .inl ⟨kvI ns, nK g, .inl (o1.sm _ _ hd), rfl, getD_some hnd⟩, _, _, rfl, rfl, _, rfl, ite2 (fun h => ?_) (fun h => ?_)⟩
      · refine ⟨_, rfl, _, o1.at_, by omega, us ++ [ca], ?_, ?_⟩
        · rw [List.map_append]
          exact o1.app
        · unfold fitC
          rw [List.take_add_one, hc, Option.toList_some, List.filter_append, List.filter_cons, if_pos h]
          exact (t1.mono fun p x h => (Own.app (y := .ref ca) o1).sm |> fun _ => by rw [upd_ne (fun z => by rw [z, o1.at_] at h; cases h)]; exact h).push (by rw [upd_ne (fun z => by have := o1.sm _ _ hca; rw [z, o1.at_] at this; cases this)]; exact o1.sm _ _ hca)
      · refine ⟨us, o1, ?_⟩
        unfold fitC
        rw [List.take_add_one, hc, Option.toList_some, List.filter_append, List.filter_cons, if_neg h, List.filter_nil, List.append_nil]
        exact t1
    · rintro H1 ⟨us, o1, t1⟩
      have el : (rs.map V.ref).length = cs.length := by rw [List.length_map]; exact h2.1
      rw [el, List.take_length] at t1
      exact q M H1 us cs h3 o1.sm nM o1.at_ t1 h4
def spNeedsWith : Sp := fun vs H Q _ => ∃ (a d ca : Addr) (n : Net) (g o : Addr) (ps : List Addr) (ns : Nd) (gt : Nat) (nd : Int) (c : List Nat), vs = [.ref a, .ref d, nV gt, .ref ca] ∧ NetAt H a n g o ps ∧ H d = some (.dK (kvI ns)) ∧ NdOk ns ∧ ndGet ns gt = some nd ∧ H ca = some (.tup (c.map nV)) ∧ ns.length + c.length ≤ 1000 ∧
  ∀ p H', Same H H' → H p = none → H' p = some (.dK (kvI (thenN n.many ns gt c))) → Q (.ref p) H'
theorem ok_needswith {f c : Addr} (D : Dfn K mg "needs_with" s_needs_with f c) (T : Txt mg) : Cal P w K mg base 1 "needs_with" spNeedsWith [] := by
  refine cal D (fun _ _ _ _ _ _ us hl => match us, hl with | [_, _, _, _], _ => rfl) sc_needs_with (fun vs H Q E h => ?_) (fun A outer s H vs Q E hr h => ?_)
  · obtain ⟨a, d, ca, n, g, o, ps, ns, gt, nd, c, rfl, _⟩ := h
    rfl
  · obtain ⟨a, d, ca, n, g, o, ps, ns, gt, nd, c, rfl, N, hd, nok, hnd, hca, hl, q⟩ := h
    refine ⟨_, (pss_cons (ps_set (i := 4) sc_needs_with.nd rfl (by first | exact Or.inl rfl | exact Or.inr rfl) (pe_op op_sub (pe_dget (Nat.lt_of_le_of_lt (Nat.add_le_add_left (by decide) _) hr.units) (pv 1) (pv 2) (fun _ _ => rfl)) pe_int))
      (pss_cons (ps_set (i := 5) sc_needs_with.nd rfl (by first | exact Or.inl rfl | exact Or.inr rfl) (pe_callTy call_dictD (by rfl) T.b_dict (by decide +kernel) (pa_cons (pv 1) pa_nil)))
      (pss_cons (ps_for PassesOwn.never rfl (pi_tup (pv 3)) (pg_name (i := 6) sc_needs_with.nd rfl (by first | exact Or.inl rfl | exact Or.inr rfl))
        (pss_one (ps_if (pt_cmpR op_ge (pv 6) (pe_ix ix_tup (pv 0) pe_int (fun _ _ => rfl)) (nomark _)) (pss_one (ps_dput (Nat.lt_of_le_of_lt (Nat.add_le_add_left (by decide) _) hr.units) (pv 5) (pv 6) (pe_callB (call_min2 rfl) (by rfl) T.b_min (by decide +kernel) (pa_cons (pv 4) (pa_cons (pe_dget2 (Nat.lt_of_le_of_lt (Nat.add_le_add_left (by decide) _) hr.units) (pv 5) (pv 6) (pv 4) ⟨rfl, rfl, rfl, rfl⟩) pa_nil))) (by rfl))) pss_nil)))
      (pss_one (ps_ret (pv 5)))))), ?_⟩
    refine ⟨_, rfl, _, rfl, d, _, rfl, .inl ⟨kvI ns, nK gt, .inl hd, rfl, getD_some hnd⟩, _, _, rfl, rfl, ?_⟩
    refine ⟨_, rfl, d, kvI ns, rfl, .inl hd, fun p np => ?_⟩
    have s1 := Same.new (o := .dK (kvI ns)) np
    have hp1 : upd H p (.dK (kvI ns)) p = some (.dK (kvI ns)) := upd_same
    generalize upd H p (.dK (kvI ns)) = H1 at s1 hp1 ⊢
    refine ⟨_, rfl, ca, rfl, ⟨_, SqT.of (s1 _ _ hca)⟩, ?_⟩
    refine for_tup (K := K) (a := ca) (xs := c.map nV) (fun i σ H' => ∃ (x6 : Option V) (ms : Nd), σ = [some (.ref a), some (.ref d), some (nV gt), some (.ref ca), some (.int (nd - 1)), some (.ref p), x6] ∧ Same H H' ∧ H' p = some (.dK (kvI ms)) ∧ NdOk ms ∧ ms.length ≤ ns.length + i ∧ ms = (c.take i).foldl (fun acc w => if n.many ≤ w then ndPut acc w (minI (nd - 1) ((ndGet acc w).getD (nd - 1))) else acc) ns) ⟨_, ns, rfl, s1, hp1, nok, Nat.le_refl _, rfl⟩ ?_ ?_ ?_
    · rintro i σ H2 _ ⟨_, _, rfl, s2, _⟩
      exact SqT.of (s2 _ _ hca)
    · rintro i x σ H2 hx ⟨x6, ms, rfl, s2, hp2, mok, ml, em⟩
      have hi : i < c.length := by
        have := (List.getElem?_eq_some_iff.mp hx).1
        rwa [List.length_map] at this
      rw [natAt hi] at hx
      cases hx
      have ec : c.getD i 0 = c[i] := by rw [List.getD_eq_getElem?_getD, List.getElem?_eq_getElem hi]; rfl
      rw [ec]
      have et : ∀ r : Nd, (r = if n.many ≤ c[i] then ndPut ms c[i] (minI (nd - 1) ((ndGet ms c[i]).getD (nd - 1))) else ms) → r = (c.take (i + 1)).foldl (fun acc w => if n.many ≤ w then ndPut acc w (minI (nd - 1) ((ndGet acc w).getD (nd - 1))) else acc) ns := fun r e => by
        rw [List.take_add_one, List.getElem?_eq_getElem hi, Option.toList_some, List.foldl_append, ← em]
        exact e
      refine ⟨_, rfl, _, rfl, a, _, 0, _, rfl, rfl, SqT.of (s2 _ _ N.top), at0, _, _, rfl, rfl, _, rfl, ite2 (fun h => ?_) (fun h => ?_)⟩
      · have h' : n.many ≤ c[i] := by
          have := of_decide_eq_true h
          omega
        refine ⟨_, rfl, _, rfl, p, rfl, .inl ⟨_, .inl hp2⟩, _, rfl, _, rfl, (ndGet ms c[i]).map V.int, .inl ⟨kvI ms, nK c[i], .inl hp2, rfl, (kvI_val ms c[i]).symm⟩, ?_⟩
        have eg : ((ndGet ms c[i]).map V.int).getD (V.int (nd - 1)) = V.int ((ndGet ms c[i]).getD (nd - 1)) := by cases ndGet ms c[i] <;> rfl
        rw [eg]
        refine ⟨_, _, rfl, _, rfl, _, rfl, p, _, rfl, .inl ⟨kvI ms, nK c[i], hp2, rfl, by rw [kvI_len]; exact small256 (by omega), rfl⟩, ?_⟩
        refine ⟨_, ndPut ms c[i] (minI (nd - 1) ((ndGet ms c[i]).getD (nd - 1))), rfl, fun b u e => ?_, ?_, mok.put _ _, ?_, et _ (by rw [if_pos h'])⟩
        · rw [upd_ne (ne_of_none e np)]
          exact s2 b u e
        · rw [upd_same, ← kvI_put mok]
          rfl
        · have : (ndPut ms c[i] (minI (nd - 1) ((ndGet ms c[i]).getD (nd - 1)))).length = ((ndPut ms c[i] (minI (nd - 1) ((ndGet ms c[i]).getD (nd - 1)))).map (·.1)).length := (List.length_map _).symm
          rw [this, ndPut_keys]
          split
          · rw [List.length_map]; omega
          · rw [List.length_append, List.length_map, List.length_singleton]; omega
      · have h' : ¬ n.many ≤ c[i] := fun z => h (decide_eq_true (by omega))
        exact ⟨_, ms, rfl, s2, hp2, mok, by omega, et _ (by rw [if_neg h'])⟩
    · rintro σ H2 ⟨x6, ms, rfl, s2, hp2, mok, ml, em⟩
      rw [List.length_map, List.take_length] at em
      refine ⟨_, rfl, q p H2 s2 np ?_⟩
      rw [hp2, em]
      unfold thenN
      rw [hnd]
      rfl
/-- ("cases", papers) -/
def casesT : Th → Option (List Th)
  | .tup [t, .tup ps] => if isTx "cases" t = true then some ps else none
  | _ => none
end
end K52
set_option Elab.async false
set_option linter.all false
set_option maxRecDepth 100000
set_option maxHeartbeats 4000000
/-! zip of a tuple and a list, walked. -/
namespace GX
open PySem PySem.Spec PyProof.Rows L2
def ItzM (K : PySem.W.Frag) (a b : Addr) : It :=
  ⟨fun i H => ∃ (xs ys : List V) (x y : V), SqT K H a xs ∧ SqL K H b ys ∧ xs[i]? = some x ∧ ys[i]? = some y,
    fun i H v H' => ∃ T x y, v = .ref T ∧ H T = none ∧ H' = upd H T (.tup [x, y]) ∧ (∀ xs, SqT K H a xs → xs[i]? = some x) ∧ ∀ ys, SqL K H b ys → ys[i]? = some y,
    fun i H => ∃ xs ys : List V, SqT K H a xs ∧ SqL K H b ys ∧ i ≤ xs.length ∧ i ≤ ys.length ∧ (i = xs.length ∨ i = ys.length)⟩
theorem sepM {z TI TO i1 i2 a b : Addr} (D : ZipApart z TI TO i1 i2 a b) : ZipSep2 z TI TO i1 i2 [i1, a] [i2, b] where
  TIz := D.TIz
  TOz := D.TOz
  TITO := D.TITO
  TIi1 := D.TIi1
  mem1 := by simp
  zf1 := by simp [Ne.symm D.i1z, Ne.symm D.l1z]
  Tf1 := by simp [D.TOi1, Ne.symm D.l1TO]
  TIi2 := D.TIi2
  mem2 := by simp
  zf2 := by simp [Ne.symm D.i2z, Ne.symm D.l2z]
  Tf2 := by simp [D.TOi2, Ne.symm D.l2TO]
  sep1_2 := by simp [D.i12, Ne.symm D.l2i1]
  sep2_1 := by simp [Ne.symm D.i12, Ne.symm D.l1i2]
theorem turn_zipM {P : Program} {w : World} {K : PySem.W.Frag} {elts : List Expr} {kk : Nat} {tpos : Pos} {a b z TI TO i1 i2 : Addr} (D : ZipApart z TI TO i1 i2 a b) :
    Turn P w K (.Tuple elts kk tpos) (ItzM K a b) [z, TI, TO, i1, i2] z (fun i h => IsZip h z TI TO .none ∧ IsTupOf2 h TI (.ref i1) (.ref i2) ∧ (∃ x y, IsTupOf2 h TO x y) ∧ h.IsTupleIter i1 a i ∧ h.IsListIter i2 b i) where
  mem := by simp
  obj := fun i h st c hc => by
    obtain ⟨hz, hTI, ⟨x, y, hTO⟩, ⟨o1, e1, _, d1⟩, ⟨o2, e2, _, d2⟩⟩ := st
    rcases (show c = z ∨ c = TI ∨ c = TO ∨ c = i1 ∨ c = i2 by simpa using hc) with q | q | q | q | q
    · rw [q]; exact ⟨_, hz, fun v q => nomatch q⟩
    · rw [q]; exact ⟨_, hTI, fun v q => nomatch q⟩
    · rw [q]; exact ⟨_, hTO, fun v q => nomatch q⟩
    · rw [q]; exact ⟨o1, e1, fun v q => by rw [d1] at q; cases q⟩
    · rw [q]; exact ⟨o2, e2, fun v q => by rw [d2] at q; cases q⟩
  keep := fun i h h' st k => let ⟨hz, hTI, ⟨x, y, hTO⟩, h1, h2⟩ := st; ⟨k z (by simp) _ hz, k TI (by simp) _ hTI, ⟨x, y, k TO (by simp) _ hTO⟩, h1.at fun o q => k i1 (by simp) o q, h2.at fun o q => k i2 (by simp) o q⟩
  item := by
    intro X hP hw hK hc i pins s σ H E I hf st hg
    subst hP hw hK
    obtain ⟨hz, hTI, ⟨x0, y0, hTO⟩, h1, h2⟩ := st
    obtain ⟨xs, ys, x, y, hqx, hqy, hx, hy⟩ := hg
    obtain ⟨its, rv, p, _⟩ := I.tuple hqx
    obtain ⟨its2, rv2, p2, _⟩ := I.list hqy
    obtain ⟨u, hu, ru⟩ := rv.get hx
    obtain ⟨u2, hu2, ru2⟩ := rv2.get hy
    have hzl : z < s.heap.objs.size := Heap.lt_size hz
    have hu' : its.toArray[i]? = some u := by simpa using hu
    have hu2' : its2.toArray[i]? = some u2 := by simpa using hu2
    have hh : X.A.in1.handled = none := I.ok.hd hc
    refine wpAny_pyNext_zipD2_item (sepM D) (Draws.tuple (A := X.A.in1) hh i1 a D.l1i1 its.toArray) (Draws.list (A := X.A.in1) hh i2 b D.l2i2 its2.toArray) hz hTI hTO ⟨h1, p⟩ ⟨h2, p2.isList⟩ (Array.getElem?_eq_some_iff.mp hu').1 (Array.getElem?_eq_some_iff.mp hu2').1 fun w1 w2 h' tk hw1 hw2 z' TO' s1' s2' hT hsz hk => ?_
    obtain rfl : u = w1 := Option.some.inj (hu'.symm.trans hw1)
    obtain rfl : u2 = w2 := Option.some.inj (hu2'.symm.trans hw2)
    refine ⟨_, rfl, wpAny_letOwnedTupleGo_zip (s := { s with heap := h', toks := tk }) z' fun h'' z'' sb => ?_⟩
    have hT2 : h''.get? s.heap.objs.size = some { cls := .type "tuple", data := .seq #[u, u2] } := (sb.2 _ (Nat.ne_of_gt hzl)).trans hT
    have nw : ObjOk X.prog X.w (upd H s.heap.objs.size (.tup [x, y])) h'' s.heap.objs.size (.tup [x, y]) := ⟨small 2, [u, u2], .cons ru (.cons ru2 .nil), ⟨_, hT2, rfl, _, rfl⟩⟩
    have I1 : Inv X pins σ (upd H s.heap.objs.size (.tup [x, y])) { s with heap := h'', toks := tk } :=
      I.turnedNew (ch := [z, TI, TO, i1, i2]) (fun c o hb q => (sb.2 c (fun q' => hb (by simp [q']))).trans (hk c o (fun q' => hb (by simp [q'])) (fun q' => hb (by simp [q'])) (fun q' => hb (by simp [q'])) (fun q' => hb (by simp [q'])) q)) hf (Nat.le_refl _) nw
    refine ⟨.ref s.heap.objs.size, _, I1, rfl, ⟨_, x, y, rfl, I.hok.fresh (Nat.le_refl _), rfl, fun l hl => by rw [I.tuple_inj hl hqx]; exact hx, fun l hl => by rw [I.list_inj hl hqy]; exact hy⟩, ⟨z'', ?_, ⟨u, u2, ?_⟩, ?_, ?_⟩, fun c hcm => ?_⟩
    · exact (sb.2 _ D.TIz).trans (hk _ _ D.TIz D.TITO D.TIi1 D.TIi2 hTI)
    · exact (sb.2 _ D.TOz).trans TO'
    · exact s1'.1.at fun o q => (sb.2 _ D.i1z).trans q
    · exact s2'.1.at fun o q => (sb.2 _ D.i2z).trans q
    · have hlt : c < s.heap.objs.size := by
        rcases (show c = z ∨ c = TI ∨ c = TO ∨ c = i1 ∨ c = i2 by simpa using hcm) with q | q | q | q | q
        · rw [q]; exact hzl
        · rw [q]; exact Heap.lt_size hTI
        · rw [q]; exact Heap.lt_size hTO
        · rw [q]; obtain ⟨_, e1, _⟩ := h1; exact Heap.lt_size e1
        · rw [q]; obtain ⟨_, e2, _⟩ := h2; exact Heap.lt_size e2
      rw [upd_ne (Nat.ne_of_lt hlt)]
      exact (hf c hcm).1
  done := by
    intro X hP hw hK hc i pins s σ H E I hf st hg
    subst hP hw hK
    obtain ⟨hz, hTI, ⟨x0, y0, hTO⟩, h1, h2⟩ := st
    obtain ⟨xs, ys, hqx, hqy, hl1, hl2, hend⟩ := hg
    obtain ⟨its, rv, p, _⟩ := I.tuple hqx
    obtain ⟨its2, rv2, p2, _⟩ := I.list hqy
    have l1 : xs.length = its.toArray.size := by rw [List.size_toArray]; exact rv.length
    have l2 : ys.length = its2.toArray.size := by rw [List.size_toArray]; exact rv2.length
    have hh : X.A.in1.handled = none := I.ok.hd hc
    rw [l1] at hl1 hend
    rw [l2] at hl2 hend
    exact wpAny_pyNext_zipD2_end (sepM D) (Draws.tuple (A := X.A.in1) hh i1 a D.l1i1 its.toArray) (Draws.list (A := X.A.in1) hh i2 b D.l2i2 its2.toArray) hz hTI hTO ⟨h1, p⟩ ⟨h2, p2.isList⟩ hl1 hl2 hend fun h' tk hk => ⟨rfl, I.turnedL (t' := tk) (ch := [z, TI, TO, i1, i2]) (fun c o hb q =>
      hk c o (fun q' => hb (by simp [q'])) (fun q' => hb (by simp [q'])) (fun q' => hb (by simp [q'])) (fun q' => hb (by simp [q'])) q) hf⟩
  self := fun A i s Q E st h => wpAny_pyIter_zip st.1 h
def iZipM (K : PySem.W.Frag) (ta : TA) : TI := fun σ H R => ta σ H fun vs H1 => ∃ a b xs ys, vs = [.ref a, .ref b] ∧ SqT K H1 a xs ∧ SqL K H1 b ys ∧ R (ItzM K a b) H1
theorem pi_zipM {X : Cx} {e e2 : Expr} {ta : TA} {p pos tpos : Pos} {elts : List Expr} {kk : Nat} (hg : Gl X "zip") (hm : X.mg "zip" = none) (ha : PA X [e, e2] ta)
    (hs : starEach [e, e2] X.env = (false, eval e X.env) :: starEach [e2] X.env := by rfl) (hpl : (backTo pos (starEach [e2] X.env)).any (·.1) = false := by rfl) :
    PI X (.Tuple elts kk tpos) (.Call (.Name "zip" p) [e, e2] [] pos) (iZipM X.K ta) := by
  refine ⟨fun pins s σ H R I h => ?_⟩
  refine Call_ (ld_blt I hg hm PyProof.Rows.boot_zip (PyProof.Rows.callWith_type1 (thn (ha.run pos pins s σ H _ I h) fun us s1 ⟨vs, H1, I1, r1, q1⟩ => ?_) hs hpl))
  obtain ⟨a, b, xs, ys, ex, hqx, hqy, q⟩ := q1
  subst ex
  cases r1 with
  | cons r rr =>
    cases rr with
    | cons r' rr =>
      cases rr
      cases r
      cases r'
      obtain ⟨its, rv, p1, _⟩ := I1.tuple hqx
      obtain ⟨its2, rv2, p2, _⟩ := I1.list hqy
      have la : a < s1.heap.objs.size := IsTup.lt p1
      refine zip_begins2 (begins_tuple a its.toArray) (begins_list b its2.toArray) p1 p2.isList fun h' hz hTI hTO g1 g2 hsz hk => wpAny_pyIter_zip hz ?_
      have I2 : Inv X pins σ H1 { s1 with heap := h' } := I1.kept (t' := s1.toks) hk
      refine ⟨s1.heap.objs.size + 4, [s1.heap.objs.size + 4, s1.heap.objs.size + 2, s1.heap.objs.size + 3, s1.heap.objs.size, s1.heap.objs.size + 1], _, _, H1, rfl, I2, turn_zipM (PySem.W.ktu_apart s1.heap.objs.size a b la p2.lt), ⟨hz, hTI, ⟨_, _, hTO⟩, ⟨_, g1, rfl, rfl⟩, ⟨_, g2, rfl, rfl⟩⟩, fun c hcm => ?_, q⟩
      have hle : s1.heap.objs.size ≤ c := by
        rcases (show c = s1.heap.objs.size + 4 ∨ c = s1.heap.objs.size + 2 ∨ c = s1.heap.objs.size + 3 ∨ c = s1.heap.objs.size ∨ c = s1.heap.objs.size + 1 by simpa using hcm) with z | z | z | z | z <;> rw [z] <;> omega
      exact I1.fpOk hle (I1.hok.fresh hle)
theorem walk_zipM {K : PySem.W.Frag} {a b : Addr} {xs ys : List V} {n : Nat} (h1 : xs.length = n) (h2 : ys.length = n) : Walk (ItzM K a b) n (fun H => SqT K H a xs ∧ SqL K H b ys) (YPair (fun i => xs[i]?) (fun i => ys[i]?)) := by
  refine ⟨fun i _ hi q => ?_, fun _ q => ⟨xs, ys, q.1, q.2, by omega, by omega, by omega⟩, fun i H v H' _ q y => ?_⟩
  · exact ⟨xs, ys, xs[i]'(by omega), ys[i]'(by omega), q.1, q.2, List.getElem?_eq_getElem _, List.getElem?_eq_getElem _⟩
  · obtain ⟨T, x, z, g1, g2, g3, g4, g5⟩ := y
    exact ⟨T, x, z, g1, g2, g3, g4 xs q.1, g5 ys q.2⟩
end GX
set_option Elab.async false
set_option linter.all false
set_option maxRecDepth 100000
set_option maxHeartbeats 4000000
/-! zip of a list and a tuple, walked. -/
namespace GX
open PySem PySem.Spec PyProof.Rows L2
def ItzW (K : PySem.W.Frag) (a b : Addr) : It :=
  ⟨fun i H => ∃ (xs ys : List V) (x y : V), SqL K H a xs ∧ SqT K H b ys ∧ xs[i]? = some x ∧ ys[i]? = some y,
    fun i H v H' => ∃ T x y, v = .ref T ∧ H T = none ∧ H' = upd H T (.tup [x, y]) ∧ (∀ xs, SqL K H a xs → xs[i]? = some x) ∧ ∀ ys, SqT K H b ys → ys[i]? = some y,
    fun i H => ∃ xs ys : List V, SqL K H a xs ∧ SqT K H b ys ∧ i ≤ xs.length ∧ i ≤ ys.length ∧ (i = xs.length ∨ i = ys.length)⟩
theorem turn_zipW {P : Program} {w : World} {K : PySem.W.Frag} {elts : List Expr} {kk : Nat} {tpos : Pos} {a b z TI TO i1 i2 : Addr} (D : ZipApart z TI TO i1 i2 a b) :
    Turn P w K (.Tuple elts kk tpos) (ItzW K a b) [z, TI, TO, i1, i2] z (fun i h => IsZip h z TI TO .none ∧ IsTupOf2 h TI (.ref i1) (.ref i2) ∧ (∃ x y, IsTupOf2 h TO x y) ∧ h.IsListIter i1 a i ∧ h.IsTupleIter i2 b i) where
  mem := by simp
  obj := fun i h st c hc => by
    obtain ⟨hz, hTI, ⟨x, y, hTO⟩, ⟨o1, e1, _, d1⟩, ⟨o2, e2, _, d2⟩⟩ := st
    rcases (show c = z ∨ c = TI ∨ c = TO ∨ c = i1 ∨ c = i2 by simpa using hc) with q | q | q | q | q
    · rw [q]; exact ⟨_, hz, fun v q => nomatch q⟩
    · rw [q]; exact ⟨_, hTI, fun v q => nomatch q⟩
    · rw [q]; exact ⟨_, hTO, fun v q => nomatch q⟩
    · rw [q]; exact ⟨o1, e1, fun v q => by rw [d1] at q; cases q⟩
    · rw [q]; exact ⟨o2, e2, fun v q => by rw [d2] at q; cases q⟩
  keep := fun i h h' st k => let ⟨hz, hTI, ⟨x, y, hTO⟩, h1, h2⟩ := st; ⟨k z (by simp) _ hz, k TI (by simp) _ hTI, ⟨x, y, k TO (by simp) _ hTO⟩, h1.at fun o q => k i1 (by simp) o q, h2.at fun o q => k i2 (by simp) o q⟩
  item := by
    intro X hP hw hK hc i pins s σ H E I hf st hg
    subst hP hw hK
    obtain ⟨hz, hTI, ⟨x0, y0, hTO⟩, h1, h2⟩ := st
    obtain ⟨xs, ys, x, y, hqx, hqy, hx, hy⟩ := hg
    obtain ⟨its, rv, p, _⟩ := I.list hqx
    obtain ⟨its2, rv2, p2, _⟩ := I.tuple hqy
    obtain ⟨u, hu, ru⟩ := rv.get hx
    obtain ⟨u2, hu2, ru2⟩ := rv2.get hy
    have hzl : z < s.heap.objs.size := Heap.lt_size hz
    have hu' : its.toArray[i]? = some u := by simpa using hu
    have hu2' : its2.toArray[i]? = some u2 := by simpa using hu2
    have hh : X.A.in1.handled = none := I.ok.hd hc
    refine wpAny_pyNext_zipD2_item (sepM D) (Draws.list (A := X.A.in1) hh i1 a D.l1i1 its.toArray) (Draws.tuple (A := X.A.in1) hh i2 b D.l2i2 its2.toArray) hz hTI hTO ⟨h1, p.isList⟩ ⟨h2, p2⟩ (Array.getElem?_eq_some_iff.mp hu').1 (Array.getElem?_eq_some_iff.mp hu2').1 fun w1 w2 h' tk hw1 hw2 z' TO' s1' s2' hT hsz hk => ?_
    obtain rfl : u = w1 := Option.some.inj (hu'.symm.trans hw1)
    obtain rfl : u2 = w2 := Option.some.inj (hu2'.symm.trans hw2)
    refine ⟨_, rfl, wpAny_letOwnedTupleGo_zip (s := { s with heap := h', toks := tk }) z' fun h'' z'' sb => ?_⟩
    have hT2 : h''.get? s.heap.objs.size = some { cls := .type "tuple", data := .seq #[u, u2] } := (sb.2 _ (Nat.ne_of_gt hzl)).trans hT
    have nw : ObjOk X.prog X.w (upd H s.heap.objs.size (.tup [x, y])) h'' s.heap.objs.size (.tup [x, y]) := ⟨small 2, [u, u2], .cons ru (.cons ru2 .nil), ⟨_, hT2, rfl, _, rfl⟩⟩
    have I1 : Inv X pins σ (upd H s.heap.objs.size (.tup [x, y])) { s with heap := h'', toks := tk } :=
      I.turnedNew (ch := [z, TI, TO, i1, i2]) (fun c o hb q => (sb.2 c (fun q' => hb (by simp [q']))).trans (hk c o (fun q' => hb (by simp [q'])) (fun q' => hb (by simp [q'])) (fun q' => hb (by simp [q'])) (fun q' => hb (by simp [q'])) q)) hf (Nat.le_refl _) nw
    refine ⟨.ref s.heap.objs.size, _, I1, rfl, ⟨_, x, y, rfl, I.hok.fresh (Nat.le_refl _), rfl, fun l hl => by rw [I.list_inj hl hqx]; exact hx, fun l hl => by rw [I.tuple_inj hl hqy]; exact hy⟩, ⟨z'', ?_, ⟨u, u2, ?_⟩, ?_, ?_⟩, fun c hcm => ?_⟩
    · exact (sb.2 _ D.TIz).trans (hk _ _ D.TIz D.TITO D.TIi1 D.TIi2 hTI)
    · exact (sb.2 _ D.TOz).trans TO'
    · exact s1'.1.at fun o q => (sb.2 _ D.i1z).trans q
    · exact s2'.1.at fun o q => (sb.2 _ D.i2z).trans q
    · have hlt : c < s.heap.objs.size := by
        rcases (show c = z ∨ c = TI ∨ c = TO ∨ c = i1 ∨ c = i2 by simpa using hcm) with q | q | q | q | q
        · rw [q]; exact hzl
        · rw [q]; exact Heap.lt_size hTI
        · rw [q]; exact Heap.lt_size hTO
        · rw [q]; obtain ⟨_, e1, _⟩ := h1; exact Heap.lt_size e1
        · rw [q]; obtain ⟨_, e2, _⟩ := h2; exact Heap.lt_size e2
      rw [upd_ne (Nat.ne_of_lt hlt)]
      exact (hf c hcm).1
  done := by
    intro X hP hw hK hc i pins s σ H E I hf st hg
    subst hP hw hK
    obtain ⟨hz, hTI, ⟨x0, y0, hTO⟩, h1, h2⟩ := st
    obtain ⟨xs, ys, hqx, hqy, hl1, hl2, hend⟩ := hg
    obtain ⟨its, rv, p, _⟩ := I.list hqx
    obtain ⟨its2, rv2, p2, _⟩ := I.tuple hqy
    have l1 : xs.length = its.toArray.size := by rw [List.size_toArray]; exact rv.length
    have l2 : ys.length = its2.toArray.size := by rw [List.size_toArray]; exact rv2.length
    have hh : X.A.in1.handled = none := I.ok.hd hc
    rw [l1] at hl1 hend
    rw [l2] at hl2 hend
    exact wpAny_pyNext_zipD2_end (sepM D) (Draws.list (A := X.A.in1) hh i1 a D.l1i1 its.toArray) (Draws.tuple (A := X.A.in1) hh i2 b D.l2i2 its2.toArray) hz hTI hTO ⟨h1, p.isList⟩ ⟨h2, p2⟩ hl1 hl2 hend fun h' tk hk => ⟨rfl, I.turnedL (t' := tk) (ch := [z, TI, TO, i1, i2]) (fun c o hb q =>
      hk c o (fun q' => hb (by simp [q'])) (fun q' => hb (by simp [q'])) (fun q' => hb (by simp [q'])) (fun q' => hb (by simp [q'])) q) hf⟩
  self := fun A i s Q E st h => wpAny_pyIter_zip st.1 h
def iZipW (K : PySem.W.Frag) (ta : TA) : TI := fun σ H R => ta σ H fun vs H1 => ∃ a b xs ys, vs = [.ref a, .ref b] ∧ SqL K H1 a xs ∧ SqT K H1 b ys ∧ R (ItzW K a b) H1
theorem pi_zipW {X : Cx} {e e2 : Expr} {ta : TA} {p pos tpos : Pos} {elts : List Expr} {kk : Nat} (hg : Gl X "zip") (hm : X.mg "zip" = none) (ha : PA X [e, e2] ta)
    (hs : starEach [e, e2] X.env = (false, eval e X.env) :: starEach [e2] X.env := by rfl) (hpl : (backTo pos (starEach [e2] X.env)).any (·.1) = false := by rfl) :
    PI X (.Tuple elts kk tpos) (.Call (.Name "zip" p) [e, e2] [] pos) (iZipW X.K ta) := by
  refine ⟨fun pins s σ H R I h => ?_⟩
  refine Call_ (ld_blt I hg hm PyProof.Rows.boot_zip (PyProof.Rows.callWith_type1 (thn (ha.run pos pins s σ H _ I h) fun us s1 ⟨vs, H1, I1, r1, q1⟩ => ?_) hs hpl))
  obtain ⟨a, b, xs, ys, ex, hqx, hqy, q⟩ := q1
  subst ex
  cases r1 with
  | cons r rr =>
    cases rr with
    | cons r' rr =>
      cases rr
      cases r
      cases r'
      obtain ⟨its, rv, p1, _⟩ := I1.list hqx
      obtain ⟨its2, rv2, p2, _⟩ := I1.tuple hqy
      have la : a < s1.heap.objs.size := p1.lt
      refine zip_begins2 (begins_list a its.toArray) (begins_tuple b its2.toArray) p1.isList p2 fun h' hz hTI hTO g1 g2 hsz hk => wpAny_pyIter_zip hz ?_
      have I2 : Inv X pins σ H1 { s1 with heap := h' } := I1.kept (t' := s1.toks) hk
      refine ⟨s1.heap.objs.size + 4, [s1.heap.objs.size + 4, s1.heap.objs.size + 2, s1.heap.objs.size + 3, s1.heap.objs.size, s1.heap.objs.size + 1], _, _, H1, rfl, I2, turn_zipW (PySem.W.ktu_apart s1.heap.objs.size a b la (IsTup.lt p2)), ⟨hz, hTI, ⟨_, _, hTO⟩, ⟨_, g1, rfl, rfl⟩, ⟨_, g2, rfl, rfl⟩⟩, fun c hcm => ?_, q⟩
      have hle : s1.heap.objs.size ≤ c := by
        rcases (show c = s1.heap.objs.size + 4 ∨ c = s1.heap.objs.size + 2 ∨ c = s1.heap.objs.size + 3 ∨ c = s1.heap.objs.size ∨ c = s1.heap.objs.size + 1 by simpa using hcm) with z | z | z | z | z <;> rw [z] <;> omega
      exact I1.fpOk hle (I1.hok.fresh hle)
theorem walk_zipW {K : PySem.W.Frag} {a b : Addr} {xs ys : List V} {n : Nat} (h1 : xs.length = n) (h2 : ys.length = n) : Walk (ItzW K a b) n (fun H => SqL K H a xs ∧ SqT K H b ys) (YPair (fun i => xs[i]?) (fun i => ys[i]?)) := by
  refine ⟨fun i _ hi q => ?_, fun _ q => ⟨xs, ys, q.1, q.2, by omega, by omega, by omega⟩, fun i H v H' _ q y => ?_⟩
  · exact ⟨xs, ys, xs[i]'(by omega), ys[i]'(by omega), q.1, q.2, List.getElem?_eq_getElem _, List.getElem?_eq_getElem _⟩
  · obtain ⟨T, x, z, g1, g2, g3, g4, g5⟩ := y
    exact ⟨T, x, z, g1, g2, g3, g4 xs q.1, g5 ys q.2⟩
end GX
set_option Elab.async false
set_option linter.all false
set_option maxRecDepth 100000
set_option maxHeartbeats 4000000
namespace K52
open PySem PySem.Spec PyProof.Rows L2 GX
open C8 (Cal pe_c pe_gc Met Mak)
-- @exc CoverError
-- @exc NoText
-- @exc NoDepth init=least
-- @exc TooMany made
-- @exc NoMatch
-- @exc NoChange
-- @exc NoRow
-- @sub NoDepth NoDepth true
-- @sub NoDepth CoverError true
-- @sub NoDepth ValueError true
-- @sub NoDepth NoChange false
-- @sub NoDepth NoMatch false
-- @sub NoDepth NoRow false
-- @sub NoDepth NoText false
-- @sub NoDepth TooMany false
-- @sub TooMany TooMany true
-- @sub TooMany CoverError true
-- @sub TooMany ValueError true
-- @sub TooMany NoChange false
-- @sub TooMany NoMatch false
-- @sub TooMany NoRow false
-- @sub TooMany NoText false
-- @sub TooMany NoDepth false
section
variable {P : Program} {w : World} {K : PySem.W.Frag} {mg : Str → Option Value} {base : Heap} {Ts : List Addr}
def minO (l : List (Option Nat)) : Option Nat := if l.any Option.isNone = true then none else (l.filterMap id).min?
theorem minO_none {l : List (Option Nat)} (h : none ∈ l) : minO l = none := by
  unfold minO
  rw [if_pos (List.any_eq_true.mpr ⟨none, h, rfl⟩)]
theorem minO_some (vs : List Nat) : minO (vs.map some) = vs.min? := by
  unfold minO
  rw [if_neg]
  · rw [List.filterMap_map]
    congr 1
    induction vs with
    | nil => rfl
    | cons v r ih => rw [List.filterMap_cons]; exact congrArg (v :: ·) ih
  · intro z
    obtain ⟨x, hx, e⟩ := List.any_eq_true.mp z
    obtain ⟨v, _, rfl⟩ := List.mem_map.mp hx
    cases e
/-- what a paper shows -/
def shownT (n : Net) (ds : List Nat) (cof : Nat → List (List Nat)) : Nat → Nd → Nat → Th → Option Nat
  | 0, ns, _, t => if isTxT "count" t = true then some ns.length else none
  | f + 1, ns, b, t => if isTxT "count" t = true then some ns.length else
    match nextG ns b, casesT t with
    | some g, some ps => if ps.length = (fitC ds (cof g) ((ndGet ns g).getD 0)).length then minO (((fitC ds (cof g) ((ndGet ns g).getD 0)).zip ps).map fun cp => shownT n ds cof f (thenN n.many ns g cp.1) g cp.2) else none
    | _, _ => none
theorem casesT_some {t : Th} {ps : List Th} (h : casesT t = some ps) : ∃ t0, t = .tup [t0, .tup ps] := by
  unfold casesT at h
  split at h
  · split at h
    · cases h
      exact ⟨_, rfl⟩
    · cases h
  · cases h
/-- gates of the net -/
def NdIn (n : Net) (ns : Nd) : Prop := ∀ x ∈ ns.map (·.1), n.many ≤ x ∧ x < n.many + n.gates.length
theorem NdIn.put {n : Net} {ns : Nd} (h : NdIn n ns) {w : Nat} (h1 : n.many ≤ w) (h2 : w < n.many + n.gates.length) (d : Int) : NdIn n (ndPut ns w d) := fun x hx => by
  rw [ndPut_keys] at hx
  split at hx
  · exact h x hx
  · rcases List.mem_append.mp hx with hx | hx
    · exact h x hx
    · rw [List.mem_singleton.mp hx]
      exact ⟨h1, h2⟩
theorem nd_fold {α : Type} {p : Nd → Prop} {f : Nd → α → Nd} : ∀ {l : List α} {ns : Nd}, (∀ acc x, x ∈ l → p acc → p (f acc x)) → p ns → p (l.foldl f ns)
  | [], _, _, h => h
  | x :: l, ns, hf, h => nd_fold (l := l) (fun acc y hy => hf acc y (List.mem_cons_of_mem _ hy)) (hf ns x List.mem_cons_self h)
theorem thenN_in {n : Net} {ns : Nd} {g : Nat} {c : List Nat} (h : NdIn n ns) (hc : ∀ x ∈ c, x < n.many + n.gates.length) : NdIn n (thenN n.many ns g c) := nd_fold (p := NdIn n) (fun acc x hx h => by
  split
  · rename_i h1
    exact h.put h1 (hc x hx) _
  · exact h) h
theorem firstN_in {n : Net} (ok : n.Ok) (d : Int) : NdIn n (firstN n d) := nd_fold (p := NdIn n) (fun acc x hx h => by
  obtain ⟨h1, h2⟩ := List.mem_filter.mp hx
  exact h.put (of_decide_eq_true h2) (ok.os x h1) _) (fun x hx => by cases hx)
theorem nd_len {n : Net} (ok : n.Ok) {ns : Nd} (h1 : NdOk ns) (h2 : NdIn n ns) : ns.length ≤ 24 := by
  have := ok.m8
  have := ok.g16
  have := List.Nodup.length_le_of_subset h1 (l₂ := List.range 24) fun x hx => List.mem_range.mpr (by have := h2 x hx; omega)
  rw [List.length_range, List.length_map] at this
  exact this
def spChoices (Ts : List Addr) : Sp := fun vs H Q _ => ∃ (a : Addr) (n : Net) (g o : Addr) (ps : List Addr) (k : Nat), vs = [.ref a, nV k] ∧ NetAt H a n g o ps ∧ n.Ok ∧ 2 ≤ k ∧ k ≤ 900 ∧ Tabs Ts H ∧
  ∀ p H' (qs : List Addr) (ds : List Nat), Aft Ts H H' → ds.length = n.many + n.gates.length → DepsTo n k ds → ChAt n k ds H' p qs → Q (.ref p) H'
theorem ok_choices {f c PW : Addr} (D : Dfn K mg "cut_choices" s_cut_choices f c) (T : Txt mg) (c_all_cuts : Cal P w K mg base 4 "all_cuts" (spAllCuts Ts) []) (c_depths_by : Cal P w K mg base 2 "depths_by" spDepthsBy []) (c_with_deepest : Cal P w K mg base 3 "with_deepest" (spWithDeep Ts) []) (TB_cut_choices : GxR.TabB base mg c PW) (hP : PW ∈ Ts) : Cal P w K mg base 5 "cut_choices" (spChoices Ts) [] := by
  refine cal D (fun _ _ _ _ _ _ us hl => match us, hl with | [_, _], _ => rfl) sc_cut_choices (fun vs H Q E h => ?_) (fun A outer s H vs Q E hr h => ?_)
  · obtain ⟨a, n, g, o, ps, k, rfl, _⟩ := h
    rfl
  · obtain ⟨a, n, g, o, ps, k, rfl, N, ok, hk2, hk, tb, q⟩ := h
    have m8 := ok.m8
    have g16 := ok.g16
    refine ⟨_, (pss_cons (ps_set (i := 2) sc_cut_choices.nd rfl (by first | exact Or.inl rfl | exact Or.inr rfl) (pe_c c_all_cuts hr (by decide) (by rfl) (pa_cons (pv 0) (pa_cons (pv 1) pa_nil))))
      (pss_cons (ps_set (i := 3) sc_cut_choices.nd rfl (by first | exact Or.inl rfl | exact Or.inr rfl) (pe_c c_depths_by hr (by decide) (by rfl) (pa_cons (pv 0) (pa_cons (pv 2) pa_nil))))
      (pss_one (ps_ret (pe_tupG (own := [("own", 4)]) hr (by rfl) T.b_tuple TB_cut_choices rfl (gxOk_by (N := ["net", "k", "cuts", "told", "own"]) (sc := defScope s_cut_choices) (own := [("own", 4)]) (by decide +kernel)) sc_cut_choices.nd (pi_tup (pv 2)) (fun _ _ _ _ => (pg_name (i := 4) sc_cut_choices.nd rfl (by first | exact Or.inl rfl | exact Or.inr rfl))) (fun _ _ _ _ => pts_nil) (fun _ _ _ _ => (pe_c c_with_deepest (GX.Room.gx4 hr) (by decide) (by rfl) (pa_cons (pv 4) (pa_cons (pv 3) pa_nil))))))))), ?_⟩
    refine ⟨_, rfl, _, rfl, a, n, g, o, ps, k, rfl, N, ok, hk2, by omega, tb, fun p H1 qs a1 hp PQ => ?_⟩
    refine ⟨_, rfl, _, rfl, a, p, n, g, o, ps, qs, k, rfl, N.aft tb a1, ok, hk2, by omega, hp, PQ, fun r H2 ds s2 hr2 dl dt => ?_⟩
    have a12 := a1.trans (Aft.ofSame a1.tb s2)
    have hp2 := s2 _ _ hp
    have PQ2 := PQ.mono fun p x h => CutsTold.mono h fun b zs e => s2 b _ e
    refine ⟨_, rfl, p, rfl, ⟨_, SqT.of hp2⟩, a12.tb PW hP, fun H3 ht => ?_⟩
    have a23 : Aft Ts H2 H3 := ⟨Keep.tabbed hP ht, a12.tb.tabbed ht⟩
    refine turns_it (walk_tup (xs := qs.map V.ref)) (fun i ys H' => ∃ us : List Addr, ys = us.map V.ref ∧ Aft Ts H2 H' ∧ PtsAt (ChTold n k ds) H' us ((List.range (n.many + n.gates.length)).take i)) ⟨[], rfl, a23, PtsAt.nil _ _⟩ (fun i ys H5 _ h => h.elim fun us h => SqT.of (h.2.1.tup a12.tb hp2)) ?_ ?_
    · rintro i x ys H4 H5 hi ⟨us, rfl, a4, P4⟩ ⟨rfl, hx⟩
      obtain ⟨qa, y, rfl, hy, rs, cs, h1, h2, h3, h4⟩ := PQ2.at_ hx
      have hyr := List.mem_range.mp (List.mem_of_getElem? hy)
      have ul : us.length ≤ 24 := by
        rw [P4.1, List.length_take, List.length_range]
        omega
      have hb : ∀ c ∈ cs, 0 < c.length ∧ c.length ≤ 1000 ∧ ∀ x ∈ c, x < ds.length := fun c hc => by
        have h := (h3.mem c).mp hc
        have hl := h.len
        refine ⟨Nat.pos_of_ne_zero fun z => ?_, by omega, fun x hx => by have := h.lt x hx; omega⟩
        have hs := h.sep
        rw [List.length_eq_zero_iff.mp z] at hs
        exact sep_none ok _ _ (Nat.le_refl _) hyr hs
      have tu := fun b xs (e : H2 b = some (.tup xs)) => a4.tup a12.tb e
      refine ⟨rfl, ?_⟩
      unfold tYes
      refine iteT ?_
      refine ⟨_, rfl, _, rfl, qa, r, rs, cs, ds, rfl, tu _ _ h1, h2.mono tu, tu _ _ hr2, h4, hb, a4.tb, fun r2 H6 us2 a6 hr6 P6 => ⟨?_, fun _ => ⟨us ++ [r2], by rw [List.map_append]; rfl, a4.trans a6, ?_⟩⟩⟩
      · show (List.map V.ref us).length < sizeLine
        rw [List.length_map]
        exact small256 (by omega)
      · rw [List.take_add_one, hy, Option.toList_some]
        exact (P4.mono fun p x h => ChTold.mono h fun b zs e => a6.tup a4.tb e).push ⟨us2, cs, hr6, P6, h3, h4⟩
    · rintro ys H4 ⟨us, rfl, a4, P4⟩
      have el : (qs.map V.ref).length = (List.range (n.many + n.gates.length)).length := by rw [List.length_map]; exact PQ2.1
      rw [el, List.take_length] at P4
      refine ⟨?_, fun p2 np => ?_⟩
      · rw [List.length_map, P4.1, List.length_range]
        exact small _ (by omega)
      · have a5 := Aft.new (o := .tup (us.map V.ref)) a4.tb np
        exact q p2 _ us ds ((a12.trans a4).trans a5) dl dt ⟨upd_same, P4.mono fun p x h => ChTold.mono h fun b zs e => a5.tup a4.tb e⟩
end
end K52
set_option Elab.async false
set_option linter.all false
set_option maxRecDepth 100000
set_option maxHeartbeats 4000000
/-! A deck whose count is bounded. -/
namespace GX
open PySem PySem.Spec PyProof.Rows L2
structure Wt (H : Hp) (W C : Addr) (t : Nat) : Prop where
  ex : ∃ (ns : List Int) (a b : Int), H W = some (.lst [.ref C, .int a, .int b]) ∧ H C = some (.lst (ns.map V.int)) ∧ ns.length ≤ 64 ∧ 0 ≤ b ∧ b ≤ (t : Int)
  ne : W ≠ C
theorem Wt.wd {H : Hp} {W C : Addr} {t : Nat} (h : Wt H W C t) : Wd H W C := by
  obtain ⟨⟨ns, a, b, e1, e2, l, _⟩, ne⟩ := h
  exact ⟨⟨ns, a, b, e1, e2, l⟩, ne⟩
theorem Wt.le {H : Hp} {W C : Addr} {t u : Nat} (h : Wt H W C t) (l : t ≤ u) : Wt H W C u := by
  obtain ⟨⟨ns, a, b, e1, e2, l1, l2, l3⟩, ne⟩ := h
  exact ⟨⟨ns, a, b, e1, e2, l1, l2, by omega⟩, ne⟩
theorem Wt.same {H H' : Hp} {W C : Addr} {t : Nat} (h : Wt H W C t) (s : Same H H') : Wt H' W C t := by
  obtain ⟨⟨ns, a, c, e1, e2, l⟩, ne⟩ := h
  exact ⟨⟨ns, a, c, s _ _ e1, s _ _ e2, l⟩, ne⟩
theorem Wt.keep {X : List Addr} {H H' : Hp} {W C : Addr} {t : Nat} (h : Wt H W C t) (k : Keep X H H') (n : W ∉ X) (m : C ∉ X) : Wt H' W C t := by
  obtain ⟨⟨ns, a, c, e1, e2, l⟩, ne⟩ := h
  exact ⟨⟨ns, a, c, k _ _ e1 n, k _ _ e2 m, l⟩, ne⟩
theorem Wt.put {H : Hp} {W C l : Addr} {t : Nat} {o : HO} (h : Wt H W C t) (n : l ≠ W ∧ l ≠ C) : Wt (upd H l o) W C t := by
  obtain ⟨⟨ns, a, c, e1, e2, z⟩, ne⟩ := h
  exact ⟨⟨ns, a, c, by rw [upd_ne (Ne.symm n.1)]; exact e1, by rw [upd_ne (Ne.symm n.2)]; exact e2, z⟩, ne⟩
/-- the deck stands, all else is kept -/
structure Wkt (W C : Addr) (t : Nat) (H H' : Hp) : Prop where
  wl : Wt H' W C t
  kp : Keep [W, C] H H'
theorem Wkt.wk {W C : Addr} {t : Nat} {H H' : Hp} (s : Wkt W C t H H') : Wk2 W C H H' := ⟨s.wl.wd, s.kp⟩
theorem Wkt.le {W C : Addr} {t u : Nat} {H H' : Hp} (s : Wkt W C t H H') (l : t ≤ u) : Wkt W C u H H' := ⟨s.wl.le l, s.kp⟩
theorem Wkt.nxt {W C : Addr} {t u : Nat} {H H1 H2 : Hp} (s : Wkt W C t H H1) (r : Wkt W C u H1 H2) : Wkt W C u H H2 := ⟨r.wl, s.kp.trans r.kp⟩
theorem Wkt.same {W C : Addr} {t : Nat} {H H1 H2 : Hp} (s : Wkt W C t H H1) (e : Same H1 H2) : Wkt W C t H H2 := ⟨s.wl.same e, s.kp.trans (Same.keep e)⟩
theorem Wkt.new {W C : Addr} {t : Nat} {H H1 : Hp} {p : Addr} {o : HO} (s : Wkt W C t H H1) (n : H1 p = none) : Wkt W C t H (upd H1 p o) := s.same (Same.new n)
theorem Wkt.refl {W C : Addr} {t : Nat} {H : Hp} (h : Wt H W C t) : Wkt W C t H H := ⟨h, Keep.refl⟩
theorem Wkt.at_ {W C : Addr} {t : Nat} {H H' : Hp} {l : Addr} {o : HO} (k : Wkt W C t H H') (n : l ≠ W ∧ l ≠ C) (e : H l = some o) : H' l = some o := k.wk.at_ n e
theorem Wkt.was {W C : Addr} {t : Nat} {H H' : Hp} {l : Addr} (k : Wkt W C t H H') (n : H' l = none) : H l = none := k.wk.was n
theorem Wkt.put {W C : Addr} {t : Nat} {H H' : Hp} {l : Addr} {o : HO} (s : Wkt W C t H H') (nl : H l = none) (n : l ≠ W ∧ l ≠ C) : Wkt W C t H (upd H' l o) := ⟨s.wl.put n, (s.wk.put nl n).kp⟩
theorem Wt.new {H : Hp} {W C l : Addr} {t : Nat} (h : Wt H W C t) (n : H l = none) : l ≠ W ∧ l ≠ C := h.wd.new n
theorem Wt.tup {H H' : Hp} {W C : Addr} {t u : Nat} (h : Wt H W C t) (k : Wkt W C u H H') {b : Addr} {xs : List V} (e : H b = some (.tup xs)) : H' b = some (.tup xs) := h.wd.tup k.wk e
theorem Wt.gates {H H' : Hp} {W C : Addr} {t u : Nat} (h : Wt H W C t) (k : Wkt W C u H H') {ps : List Addr} {gs : List (Nat × Nat × Nat)} (x : GatesAt H ps gs) : GatesAt H' ps gs := x.mono fun b xs e => h.tup k e
/-- the deck, the tables stand; all else is kept -/
structure Dkt (W C : Addr) (t : Nat) (Ts : List Addr) (H H' : Hp) : Prop where
  wl : Wt H' W C t
  tb : Tabs Ts H'
  kp : Keep (W :: C :: Ts) H H'
theorem Dkt.dk {W C : Addr} {t : Nat} {Ts : List Addr} {H H1 : Hp} (d : Dkt W C t Ts H H1) : Dk2 W C Ts H H1 := ⟨d.wl.wd, d.tb, d.kp⟩
theorem Dkt.le {W C : Addr} {t u : Nat} {Ts : List Addr} {H H1 : Hp} (d : Dkt W C t Ts H H1) (l : t ≤ u) : Dkt W C u Ts H H1 := ⟨d.wl.le l, d.tb, d.kp⟩
theorem Dkt.refl {W C : Addr} {t : Nat} {Ts : List Addr} {H : Hp} (w : Wt H W C t) (tb : Tabs Ts H) : Dkt W C t Ts H H := ⟨w, tb, Keep.refl⟩
theorem Dkt.aft {W C : Addr} {t : Nat} {Ts : List Addr} {H H1 H2 : Hp} (d : Dkt W C t Ts H H1) (a : Aft Ts H1 H2) : Dkt W C t Ts H H2 := ⟨d.wl.keep a.kp (d.wl.wd.tabW d.tb) (d.wl.wd.tabC d.tb), a.tb, (d.dk.aft a).kp⟩
theorem Dkt.same {W C : Addr} {t : Nat} {Ts : List Addr} {H H1 H2 : Hp} (d : Dkt W C t Ts H H1) (s : Same H1 H2) : Dkt W C t Ts H H2 := d.aft (Aft.ofSame d.tb s)
theorem Dkt.draw {W C : Addr} {t u : Nat} {Ts : List Addr} {H H1 H2 : Hp} (d : Dkt W C t Ts H H1) (s : Wkt W C u H1 H2) : Dkt W C u Ts H H2 := ⟨s.wl, (d.dk.draw s.wk).tb, (d.dk.draw s.wk).kp⟩
theorem Dkt.put {W C : Addr} {t : Nat} {Ts : List Addr} {H H1 : Hp} {l : Addr} {o : HO} {xs : List V} (d : Dkt W C t Ts H H1) (nl : H l = none) (hl : H1 l = some (.lst xs)) (n : l ≠ W ∧ l ≠ C) : Dkt W C t Ts H (upd H1 l o) := ⟨d.wl.put n, (d.dk.put nl hl n).tb, (d.dk.put nl hl n).kp⟩
theorem Dkt.was {W C : Addr} {t : Nat} {Ts : List Addr} {H H1 : Hp} {l : Addr} (d : Dkt W C t Ts H H1) (n : H1 l = none) : H l = none := d.dk.was n
/-- what stood stands, but the deck -/
theorem Dkt.at_ {W C : Addr} {t : Nat} {Ts : List Addr} {H H1 : Hp} {l : Addr} {o : HO} (d : Dkt W C t Ts H H1) (n : l ≠ W ∧ l ≠ C) (m : l ∉ Ts) (e : H l = some o) : H1 l = some o := d.kp _ _ e fun z => by
  rcases List.mem_cons.mp z with z | z
  · exact n.1 z
  · rcases List.mem_cons.mp z with z | z
    · exact n.2 z
    · exact m z
end GX
set_option Elab.async false
set_option linter.all false
set_option maxRecDepth 100000
set_option maxHeartbeats 4000000
namespace K52
open PySem PySem.Spec PyProof.Rows L2 GX
open C8 (Cal pe_c pe_gc Met Mak)
-- @exc CoverError
-- @exc NoText
-- @exc NoDepth init=least
-- @exc TooMany made
-- @exc NoMatch
-- @exc NoChange
-- @exc NoRow
-- @sub NoDepth NoDepth true
-- @sub NoDepth CoverError true
-- @sub NoDepth ValueError true
-- @sub NoDepth NoChange false
-- @sub NoDepth NoMatch false
-- @sub NoDepth NoRow false
-- @sub NoDepth NoText false
-- @sub NoDepth TooMany false
-- @sub TooMany TooMany true
-- @sub TooMany CoverError true
-- @sub TooMany ValueError true
-- @sub TooMany NoChange false
-- @sub TooMany NoMatch false
-- @sub TooMany NoRow false
-- @sub TooMany NoText false
-- @sub TooMany NoDepth false
section
variable {P : Program} {w : World} {K : PySem.W.Frag} {mg : Str → Option Value} {base : Heap}
/-! ### the deck -/
def spDraw : Sp := fun vs H Q _ => ∃ (W C : Addr) (m : Int) (t : Nat), vs = [.ref W, .int m] ∧ Wt H W C t ∧ t ≤ 1000000 ∧ 0 < m ∧ m < 1361129467683753853853498429727072845824 ∧ ∀ d H', 0 ≤ d → d < m → Wkt W C (t + 1) H H' → Q (.int d) H'
theorem ok_draw {f c : Addr} (D : Dfn K mg "_law_draw" s__law_draw f c) (T : Txt mg) : Cal P w K mg base 1 "_law_draw" spDraw [] := by
  refine cal D (fun _ _ _ _ _ _ us hl => match us, hl with | [_, _], _ => rfl) sc__law_draw (fun vs H Q E h => ?_) (fun A outer s H vs Q E hr h => ?_)
  · obtain ⟨W, C, m, t, rfl, _⟩ := h
    rfl
  · obtain ⟨W, C, m, t, rfl, ⟨⟨ns, a, b, hW, hC, hl, b0, bt⟩, ne⟩, ht, hm0, hm1, q⟩ := h
    have lgm : m.natAbs.log2 < 9000 := (Nat.log2_lt (by omega)).mpr (Nat.lt_of_lt_of_le (show m.natAbs < 2 ^ 130 by omega) (Nat.pow_le_pow_right (by decide) (by decide)))
    refine ⟨_, (pss_cons (ps_asg (pe_op op_add (pe_ix ix_list (pv 0) pe_int (fun _ _ => rfl)) pe_int) (pg_sub (pv 0) pe_int set_list))
      (pss_cons (ps_set (i := 2) sc__law_draw.nd rfl (by first | exact Or.inl rfl | exact Or.inr rfl) (pe_ix ix_list (pv 0) pe_int (fun _ _ => rfl)))
      (pss_cons (ps_if (pt_cmpR (op_neD hr.units) (pe_ix ix_list (pv 0) pe_int (fun _ _ => rfl)) (pe_lst pa_nil) (nomark _)) (pss_cons (ps_set (i := 2) sc__law_draw.nd rfl (by first | exact Or.inl rfl | exact Or.inr rfl) (pe_bm0 PySem.F.plainAttrs_list PySem.F.slot_list_pop PySem.F.type_list_pop mt_pop (pe_ix ix_list (pv 0) pe_int (fun _ _ => rfl))))
      (pss_one (ps_if (pt_cmpR op_ge (pv 2) (pe_op op_pow pe_int pe_int) (nomark _)) (pss_cons (ps_expr (pe_bm PySem.F.plainAttrs_list PySem.F.slot_list_append PySem.F.type_list_append mt_append (pe_ix ix_list (pv 0) pe_int (fun _ _ => rfl)) (pa_cons (pe_op op_fdivW (pv 2) (pv 1)) pa_nil)))
      (pss_one (ps_ret (pe_op op_mod (pv 2) (pv 1))))) pss_nil))) pss_nil)
      (pss_cons (ps_set (i := 3) sc__law_draw.nd rfl (by first | exact Or.inl rfl | exact Or.inr rfl) (pe_op op_mod (pe_op op_mul (pe_op op_add (pe_op op_mod (pv 2) pe_int) pe_int) (pe_op op_add (pe_op op_mul (pe_ix ix_list (pv 0) pe_int (fun _ _ => rfl)) (pe_ix ix_list (pv 0) pe_int (fun _ _ => rfl))) pe_int)) pe_int))
      (pss_cons (ps_set (i := 3) sc__law_draw.nd rfl (by first | exact Or.inl rfl | exact Or.inr rfl) (pe_op op_mod (pe_op op_pow (pv 3) pe_int) pe_int))
      (pss_cons (ps_set (i := 3) sc__law_draw.nd rfl (by first | exact Or.inl rfl | exact Or.inr rfl) (pe_op op_mod (pe_op op_add (pe_op op_add (pe_op op_mul (pv 3) pe_int) (pe_op op_mul pe_int (pe_ix ix_list (pv 0) pe_int (fun _ _ => rfl)))) pe_int) pe_int))
      (pss_cons (ps_set (i := 3) sc__law_draw.nd rfl (by first | exact Or.inl rfl | exact Or.inr rfl) (pe_op op_mod (pe_op op_mul (pv 3) (pe_op op_add (pe_op op_fdivW (pv 3) pe_int) pe_int)) pe_int))
      (pss_one (ps_ret (pe_op op_mod (pe_op op_fdivW (pe_op op_mod (pe_op op_mul (pv 3) pe_int) pe_int) pe_int) (pv 1))))))))))), ?_⟩
    refine ⟨_, rfl, W, _, 2, _, rfl, rfl, SqL.of hW, at2, _, _, rfl, rfl, _, rfl, W, _, 2, 2, rfl, rfl, hW, rfl, ?_⟩
    have hW1 : (upd H W (.lst ([.ref C, .int a, .int b].set 2 (.int (b + 1))))) W = some (.lst [.ref C, .int a, .int (b + 1)]) := upd_same
    have hC1 : (upd H W (.lst ([.ref C, .int a, .int b].set 2 (.int (b + 1))))) C = some (.lst (ns.map V.int)) := by rw [upd_ne (Ne.symm ne)]; exact hC
    have k1 : Keep [W, C] H (upd H W (.lst ([.ref C, .int a, .int b].set 2 (.int (b + 1))))) := Keep.put List.mem_cons_self
    generalize (upd H W (.lst ([.ref C, .int a, .int b].set 2 (.int (b + 1))))) = H1 at hW1 hC1 k1 ⊢
    refine ⟨_, rfl, W, _, 1, _, rfl, rfl, SqL.of hW1, at1, ?_⟩
    refine ⟨_, rfl, W, _, 0, _, rfl, rfl, SqL.of hW1, at0, small 0, fun z nz => ?_⟩
    have e2 := Same.new (o := .lst []) nz
    refine ⟨.list (ns.map PyData.int), .list [], .lst (SqL.of (e2 _ _ hC1)) (dpInt K _ _), .lst (SqL.of upd_same) .nil, PySem.W.ke_shaped_ints ns, by decide, _, rfl, ?_⟩
    have hW2 := e2 _ _ hW1
    have hC2 := e2 _ _ hC1
    have k2 : Keep [W, C] H (upd H1 z (.lst [])) := k1.trans (Same.keep e2)
    generalize upd H1 z (.lst []) = H2 at e2 hW2 hC2 k2 ⊢
    refine ite2 (fun g => ?_) (fun g => ?_)
    · have g' : ns.length ≠ 0 := fun z => by
        have : PyData.eqv (.list (ns.map PyData.int)) (.list []) = true := by
          show PyData.eqvAll _ [] = true
          rw [eqvAllN, List.length_map]
          exact decide_eq_true z
        rw [this] at g
        cases g
      obtain ⟨ms, x, rfl⟩ : ∃ ms x, ns = ms ++ [x] := ⟨ns.dropLast, ns.getLast (fun z => g' (by rw [z]; rfl)), (List.dropLast_concat_getLast _).symm⟩
      have el : ((ms ++ [x]).map V.int)[((ms ++ [x]).map V.int).length - 1]? = some (.int x) := by
        rw [List.map_append, List.length_append, List.length_map]
        show (ms.map V.int ++ [V.int x])[ms.length + 1 - 1]? = _
        rw [List.getElem?_append_right (by rw [List.length_map]; omega), List.length_map, Nat.add_sub_cancel, Nat.sub_self]
        rfl
      have ed : ((ms ++ [x]).map V.int).dropLast = ms.map V.int := by
        rw [List.map_append]
        exact List.dropLast_concat
      refine ⟨_, rfl, W, _, 0, _, rfl, rfl, SqL.of hW2, at0, .inl ⟨rfl, _, SqL.of hC2⟩, C, _, _, rfl, rfl, hC2, el, ?_⟩
      rw [ed]
      have hW3 : (upd H2 C (.lst (ms.map V.int))) W = some (.lst [.ref C, .int a, .int (b + 1)]) := by rw [upd_ne ne]; exact hW2
      have hC3 : (upd H2 C (.lst (ms.map V.int))) C = some (.lst (ms.map V.int)) := upd_same
      have k3 : Keep [W, C] H (upd H2 C (.lst (ms.map V.int))) := k2.trans (Keep.put (List.mem_cons_of_mem _ List.mem_cons_self))
      have hl3 : ms.length + 1 ≤ 64 := by rw [List.length_append] at hl; exact hl
      generalize upd H2 C (.lst (ms.map V.int)) = H3 at hW3 hC3 k3 ⊢
      refine ⟨_, rfl, _, _, rfl, rfl, ⟨by decide, by decide, by decide⟩, _, _, rfl, rfl, _, rfl, ite2 (fun g2 => ?_) (fun g2 => ?_)⟩
      · refine ⟨_, rfl, W, _, 0, _, rfl, rfl, SqL.of hW3, at0, .inl ⟨rfl, _, SqL.of hC3⟩, _, rfl, _, rfl, _, _, rfl, rfl, ⟨hm0, lgm⟩, C, _, _, rfl, rfl, hC3, by rw [List.length_map]; exact len64 (by omega), ?_⟩
        refine ⟨_, rfl, _, rfl, _, _, rfl, rfl, hm0, ?_⟩
        refine q _ _ (Int.emod_nonneg _ (by omega)) (Int.emod_lt_of_pos _ hm0) ⟨⟨⟨ms ++ [x / m], _, _, by rw [upd_ne ne]; exact hW3, by rw [upd_same, List.map_append]; rfl, by rw [List.length_append]; exact hl3, by omega, by omega⟩, ne⟩, k3.trans (Keep.put (List.mem_cons_of_mem _ List.mem_cons_self))⟩
      · refine ⟨_, rfl, _, _, rfl, rfl, (by show (0 : Int) < 2147483587; decide), _, _, rfl, rfl, _, rfl, W, _, 2, _, rfl, rfl, SqL.of hW3, at2, _, rfl, W, _, 2, _, rfl, rfl, SqL.of hW3, at2, _, _, rfl, rfl, .inl (by omega), _, _, rfl, rfl, _, _, rfl, rfl, .inl (by omega), _, _, rfl, rfl, (by show (0 : Int) < 2147483647; decide), ?_⟩
        have b1 := Int.emod_nonneg ((x % 2147483587 + 1) * ((b + 1) * (b + 1) + 48271)) (show (2147483647 : Int) ≠ 0 by decide)
        have b2 := Int.emod_lt_of_pos ((x % 2147483587 + 1) * ((b + 1) * (b + 1) + 48271)) (show (0 : Int) < 2147483647 by decide)
        generalize ((x % 2147483587 + 1) * ((b + 1) * (b + 1) + 48271)) % 2147483647 = n1 at b1 b2 ⊢
        refine ⟨_, rfl, _, _, rfl, rfl, ⟨by decide, by decide, by omega⟩, _, _, rfl, rfl, (by show (0 : Int) < 2147483629; decide), ?_⟩
        have b3 := Int.emod_nonneg (n1 ^ (3 : Int).toNat) (show (2147483629 : Int) ≠ 0 by decide)
        have b4 := Int.emod_lt_of_pos (n1 ^ (3 : Int).toNat) (show (0 : Int) < 2147483629 by decide)
        generalize n1 ^ (3 : Int).toNat % 2147483629 = n2 at b3 b4 ⊢
        refine ⟨_, rfl, _, _, rfl, rfl, .inl (by omega), _, rfl, W, _, 2, _, rfl, rfl, SqL.of hW3, at2, _, _, rfl, rfl, .inl (by omega), _, _, rfl, rfl, _, _, rfl, rfl, _, _, rfl, rfl, (by show (0 : Int) < 2147483579; decide), ?_⟩
        have b5 := Int.emod_nonneg (n2 * 39373 + 69621 * (b + 1) + 7919) (show (2147483579 : Int) ≠ 0 by decide)
        have b6 := Int.emod_lt_of_pos (n2 * 39373 + 69621 * (b + 1) + 7919) (show (0 : Int) < 2147483579 by decide)
        generalize (n2 * 39373 + 69621 * (b + 1) + 7919) % 2147483579 = n3 at b5 b6 ⊢
        refine ⟨_, rfl, _, rfl, _, _, rfl, rfl, ⟨by decide, by decide +kernel⟩, _, _, rfl, rfl, _, _, rfl, rfl, .inl (by omega), _, _, rfl, rfl, (by show (0 : Int) < 2147483563; decide), ?_⟩
        have b7 := Int.emod_nonneg (n3 * (n3 / 5 + 11)) (show (2147483563 : Int) ≠ 0 by decide)
        have b8 := Int.emod_lt_of_pos (n3 * (n3 / 5 + 11)) (show (0 : Int) < 2147483563 by decide)
        generalize (n3 * (n3 / 5 + 11)) % 2147483563 = n4 at b7 b8 ⊢
        refine ⟨_, rfl, _, _, rfl, rfl, .inl (by omega), _, _, rfl, rfl, (by show (0 : Int) < 2305843009213693951; decide), _, _, rfl, rfl, ⟨by decide, by decide +kernel⟩, _, rfl, _, _, rfl, rfl, hm0, ?_⟩
        exact q _ _ (Int.emod_nonneg _ (by omega)) (Int.emod_lt_of_pos _ hm0) ⟨⟨⟨ms, _, _, hW3, hC3, by omega, by omega, by omega⟩, ne⟩, k3⟩
    · refine ⟨_, rfl, _, _, rfl, rfl, (by show (0 : Int) < 2147483587; decide), _, _, rfl, rfl, _, rfl, W, _, 2, _, rfl, rfl, SqL.of hW2, at2, _, rfl, W, _, 2, _, rfl, rfl, SqL.of hW2, at2, _, _, rfl, rfl, .inl (by omega), _, _, rfl, rfl, _, _, rfl, rfl, .inl (by omega), _, _, rfl, rfl, (by show (0 : Int) < 2147483647; decide), ?_⟩
      have b1 := Int.emod_nonneg ((a % 2147483587 + 1) * ((b + 1) * (b + 1) + 48271)) (show (2147483647 : Int) ≠ 0 by decide)
      have b2 := Int.emod_lt_of_pos ((a % 2147483587 + 1) * ((b + 1) * (b + 1) + 48271)) (show (0 : Int) < 2147483647 by decide)
      generalize ((a % 2147483587 + 1) * ((b + 1) * (b + 1) + 48271)) % 2147483647 = n1 at b1 b2 ⊢
      refine ⟨_, rfl, _, _, rfl, rfl, ⟨by decide, by decide, by omega⟩, _, _, rfl, rfl, (by show (0 : Int) < 2147483629; decide), ?_⟩
      have b3 := Int.emod_nonneg (n1 ^ (3 : Int).toNat) (show (2147483629 : Int) ≠ 0 by decide)
      have b4 := Int.emod_lt_of_pos (n1 ^ (3 : Int).toNat) (show (0 : Int) < 2147483629 by decide)
      generalize n1 ^ (3 : Int).toNat % 2147483629 = n2 at b3 b4 ⊢
      refine ⟨_, rfl, _, _, rfl, rfl, .inl (by omega), _, rfl, W, _, 2, _, rfl, rfl, SqL.of hW2, at2, _, _, rfl, rfl, .inl (by omega), _, _, rfl, rfl, _, _, rfl, rfl, _, _, rfl, rfl, (by show (0 : Int) < 2147483579; decide), ?_⟩
      have b5 := Int.emod_nonneg (n2 * 39373 + 69621 * (b + 1) + 7919) (show (2147483579 : Int) ≠ 0 by decide)
      have b6 := Int.emod_lt_of_pos (n2 * 39373 + 69621 * (b + 1) + 7919) (show (0 : Int) < 2147483579 by decide)
      generalize (n2 * 39373 + 69621 * (b + 1) + 7919) % 2147483579 = n3 at b5 b6 ⊢
      refine ⟨_, rfl, _, rfl, _, _, rfl, rfl, ⟨by decide, by decide +kernel⟩, _, _, rfl, rfl, _, _, rfl, rfl, .inl (by omega), _, _, rfl, rfl, (by show (0 : Int) < 2147483563; decide), ?_⟩
      have b7 := Int.emod_nonneg (n3 * (n3 / 5 + 11)) (show (2147483563 : Int) ≠ 0 by decide)
      have b8 := Int.emod_lt_of_pos (n3 * (n3 / 5 + 11)) (show (0 : Int) < 2147483563 by decide)
      generalize (n3 * (n3 / 5 + 11)) % 2147483563 = n4 at b7 b8 ⊢
      refine ⟨_, rfl, _, _, rfl, rfl, .inl (by omega), _, _, rfl, rfl, (by show (0 : Int) < 2305843009213693951; decide), _, _, rfl, rfl, ⟨by decide, by decide +kernel⟩, _, rfl, _, _, rfl, rfl, hm0, ?_⟩
      exact q _ _ (Int.emod_nonneg _ (by omega)) (Int.emod_lt_of_pos _ hm0) ⟨⟨⟨ns, _, _, hW2, hC2, hl, by omega, by omega⟩, ne⟩, k2⟩
def spDeck (K : PySem.W.Frag) : Sp := fun vs H Q _ => ∃ (a : Addr) (ns : List Int), vs = [.ref a] ∧ SqL K H a (ns.map V.int) ∧ ns.length ≤ 63 ∧ ∀ p C H', H p = none → H C = none → Wt H' p C 0 → Same H H' → Q (.ref p) H'
theorem ok_deck {f c : Addr} (D : Dfn K mg "_law_deck" s__law_deck f c) (T : Txt mg) : Cal P w K mg base 1 "_law_deck" (spDeck K) [] := by
  refine cal D (fun _ _ _ _ _ _ us hl => match us, hl with | [_], _ => rfl) sc__law_deck (fun vs H Q E h => ?_) (fun A outer s H vs Q E hr h => ?_)
  · obtain ⟨a, ns, rfl, _⟩ := h
    rfl
  · obtain ⟨a, ns, rfl, hS, hl, q⟩ := h
    refine ⟨_, (pss_cons (ps_set (i := 1) sc__law_deck.nd rfl (by first | exact Or.inl rfl | exact Or.inr rfl) (pe_callTy call_list_of (by rfl) T.b_list (by decide +kernel) (pa_cons (pe_slice sl_list (pv 0) po_none (po_some pe_int)) pa_nil)))
      (pss_one (ps_ret (pe_lst (pa_cons (pe_revL (pv 1)) (pa_cons (pe_op op_add (pe_op op_mod (pe_callB (cr_sum rfl) (by rfl) T.b_sum (by decide +kernel) (pa_cons (pv 1) pa_nil)) pe_int) (pe_op op_mul pe_int (pe_callB call_len_seq (by rfl) T.b_len (by decide +kernel) (pa_cons (pv 1) pa_nil)))) (pa_cons pe_int pa_nil))))))), ?_⟩
    refine ⟨_, rfl, 63, rfl, ?_⟩
    refine ⟨a, _, rfl, hS, fun p np => ?_⟩
    have e1 := Same.new (o := .lst (cutV (ns.map V.int) none (some 63))) np
    have ec : cutV (ns.map V.int) none (some 63) = ns.map V.int := by
      rw [show (some (63 : Int)) = some ((63 : Nat) : Int) from rfl, cut_hi, List.take_of_length_le (by rw [List.length_map]; exact hl)]
    rw [ec] at e1 ⊢
    refine ⟨p, _, rfl, .inl (SqL.of upd_same), fun L nL => ?_⟩
    have e2 := e1.trans (Same.new (o := .lst (ns.map V.int)) nL)
    have hL : (upd (upd H p (.lst (ns.map V.int))) L (.lst (ns.map V.int))) L = some (.lst (ns.map V.int)) := upd_same
    generalize upd (upd H p (.lst (ns.map V.int))) L (.lst (ns.map V.int)) = H1 at e2 hL ⊢
    refine ⟨_, rfl, L, _, rfl, SqL.of hL, fun C nC => ?_⟩
    have e3 := Same.new (o := .lst (ns.map V.int).reverse) nC
    have hC : upd H1 C (.lst (ns.map V.int).reverse) C = some (.lst (ns.reverse.map V.int)) := by rw [upd_same, List.map_reverse]
    have hL2 := e3 _ _ hL
    have sm := e2.trans e3
    have C0 : H C = none := by
      cases e : H C with
      | none => rfl
      | some u =>
        have := e2 _ _ e
        rw [nC] at this
        cases this
    generalize upd H1 C (.lst (ns.map V.int).reverse) = H2 at sm hC hL2 ⊢
    refine ⟨_, rfl, L, ns, rfl, SqL.of hL2, _, _, rfl, rfl, (by show (0 : Int) < 2147483629; decide), _, rfl, L, _, rfl, .inl (SqL.of hL2), _, _, rfl, rfl, .inl (by omega), _, _, rfl, rfl, small 3, fun W nW => ?_⟩
    have e4 := Same.new (o := .lst [.ref C, .int (ns.sum % 2147483629 + 31 * (((ns.map V.int).length : Nat) : Int)), .int 0]) nW
    have W0 : H W = none := by
      cases e : H W with
      | none => rfl
      | some u =>
        have := sm _ _ e
        rw [nW] at this
        cases this
    exact q W C _ W0 C0 ⟨⟨ns.reverse, _, _, upd_same, e4 _ _ hC, by rw [List.length_reverse]; omega, by omega, by omega⟩, fun z => by rw [z, hC] at nW; cases nW⟩ (sm.trans e4)
end
section
variable {P : Program} {w : World} {K : PySem.W.Frag} {mg : Str → Option Value} {base : Heap}
def spGate : Sp := fun vs H Q _ => ∃ (W C : Addr) (many wire : Nat) (way : Int) (t : Nat), vs = [.ref W, nV many, nV wire, .int way] ∧ Wt H W C t ∧ t ≤ 900000 ∧ 1 ≤ wire ∧ wire ≤ 1000 ∧ many ≤ 1000 ∧ 0 ≤ way ∧ way < 4 ∧
  ∀ p H' (g : Nat × Nat × Nat), g.1 < 16 → g.2.1 < wire → g.2.2 < wire → H' p = some (.tup (gV g)) → Wkt W C (t + 4) H H' → H p = none → Q (.ref p) H'
theorem ok_gate {f c : Addr} (D : Dfn K mg "_law_gate" s__law_gate f c) (T : Txt mg) (c__law_draw : Cal P w K mg base 1 "_law_draw" spDraw []) : Cal P w K mg base 2 "_law_gate" spGate [] := by
  refine cal D (fun _ _ _ _ _ _ us hl => match us, hl with | [_, _, _, _], _ => rfl) sc__law_gate (fun vs H Q E h => ?_) (fun A outer s H vs Q E hr h => ?_)
  · obtain ⟨W, C, many, wire, way, t, rfl, _⟩ := h
    rfl
  · obtain ⟨W, C, many, wire, way, t, rfl, wl, ht, hw1, hw2, hm, y0, y4, q⟩ := h
    refine ⟨_, (pss_cons (ps_set (i := 4) sc__law_gate.nd rfl (by first | exact Or.inl rfl | exact Or.inr rfl) (pe_ix ix_list (pe_lst (pa_cons (pv 2) (pa_cons (pe_callB (call_min2 rfl) (by rfl) T.b_min (by decide +kernel) (pa_cons (pv 2) (pa_cons pe_int pa_nil))) (pa_cons (pe_callB (call_min2 rfl) (by rfl) T.b_min (by decide +kernel) (pa_cons (pv 2) (pa_cons (pe_op op_add (pv 1) pe_int) pa_nil))) (pa_cons (pv 2) pa_nil))))) (pv 3) (fun _ _ => rfl)))
      (pss_cons (ps_set (i := 5) sc__law_gate.nd rfl (by first | exact Or.inl rfl | exact Or.inr rfl) (pe_cmpR op_eq (pe_c c__law_draw hr (by decide) (by rfl) (pa_cons (pv 0) (pa_cons pe_int pa_nil))) pe_int (nomark _)))
      (pss_cons (ps_set (i := 6) sc__law_gate.nd rfl (by first | exact Or.inl rfl | exact Or.inr rfl) (pe_op op_sub (pe_op op_sub (pv 2) pe_int) (pe_c c__law_draw hr (by decide) (by rfl) (pa_cons (pv 0) (pa_cons (pe_ix ix_list (pe_lst (pa_cons (pv 4) (pa_cons pe_int pa_nil))) (pe_callTy call_int1 (by rfl) T.b_int (by decide +kernel) (pa_cons (pe_cmpR op_eq (pv 3) pe_int (nomark _)) pa_nil)) (fun _ _ => rfl)) pa_nil)))))
      (pss_cons (ps_set (i := 7) sc__law_gate.nd rfl (by first | exact Or.inl rfl | exact Or.inr rfl) (pe_op op_sub (pe_op op_sub (pv 2) pe_int) (pe_c c__law_draw hr (by decide) (by rfl) (pa_cons (pv 0) (pa_cons (pv 4) pa_nil)))))
      (pss_one (ps_ret (pe_tup (pa_cons (pe_c c__law_draw hr (by decide) (by rfl) (pa_cons (pv 0) (pa_cons pe_int pa_nil))) (pa_cons (pv 6) (pa_cons (pe_ix ix_list (pe_lst (pa_cons (pv 7) (pa_cons (pv 6) pa_nil))) (pe_callTy call_int1 (by rfl) T.b_int (by decide +kernel) (pa_cons (pv 5) pa_nil)) (fun _ _ => rfl)) pa_nil)))))))))), ?_⟩
    refine ⟨_, rfl, _, rfl, _, _, rfl, _, rfl, _, rfl, _, _, rfl, rfl, _, _, rfl, _, rfl, small 4, fun l nl => ?_⟩
    obtain ⟨r, er, r1, r2⟩ : ∃ r : Int, atI [nV wire, V.int (if (3 : Int) < ((wire : Nat) : Int) then 3 else ((wire : Nat) : Int)), V.int (if ((many : Nat) : Int) + 1 < ((wire : Nat) : Int) then ((many : Nat) : Int) + 1 else ((wire : Nat) : Int)), nV wire] way = some (.int r) ∧ 1 ≤ r ∧ r ≤ ((wire : Nat) : Int) := by
      rcases (by omega : way = 0 ∨ way = 1 ∨ way = 2 ∨ way = 3) with e | e | e | e <;> subst e
      · exact ⟨_, at0, by omega, by omega⟩
      · exact ⟨_, at1, by split <;> omega, by split <;> omega⟩
      · exact ⟨_, at2, by split <;> omega, by split <;> omega⟩
      · exact ⟨_, atI_nat (j := 3) rfl, by omega, by omega⟩
    refine ⟨_, rfl, l, _, _, .int r, rfl, rfl, SqL.of upd_same, er, ?_⟩
    have s1 : Wkt W C t H (upd H l _) := (Wkt.refl wl).new (o := .lst [nV wire, V.int (if (3 : Int) < ((wire : Nat) : Int) then 3 else ((wire : Nat) : Int)), V.int (if ((many : Nat) : Int) + 1 < ((wire : Nat) : Int) then ((many : Nat) : Int) + 1 else ((wire : Nat) : Int)), nV wire]) nl
    refine ⟨_, rfl, W, C, 8, t, rfl, s1.wl, by omega, by decide, by decide, fun dt H2 _ _ k2 => ⟨rfl, ?_⟩⟩
    have s2 := s1.nxt k2
    refine ⟨_, rfl, _, _, rfl, rfl, _, rfl, _, rfl, small 2, fun l3 n3 => ?_⟩
    have s3 := s2.new (o := .lst [.int r, .int 1]) n3
    have h33 : upd H2 l3 (.lst [.int r, .int 1]) l3 = some (.lst [.int r, .int 1]) := upd_same
    generalize upd H2 l3 (.lst [.int r, .int 1]) = H3 at s3 h33 ⊢
    obtain ⟨m1, em1, m10, m11⟩ : ∃ m1 : Int, (if decide (V.int way = V.int 3) = true then V.int 1 else V.int r) = V.int m1 ∧ 1 ≤ m1 ∧ m1 ≤ ((wire : Nat) : Int) := by
      split
      · exact ⟨_, rfl, by omega, by omega⟩
      · exact ⟨_, rfl, r1, r2⟩
    refine ⟨_, rfl, rfl, .inr ⟨_, rfl, l3, _, _, .int m1, rfl, rfl, SqL.of h33, (by rw [atIf]; exact congrArg some em1), ?_⟩⟩
    refine ⟨W, C, m1, t + 1, rfl, s3.wl, by omega, by omega, by omega, fun d1 H4 d10 d11 k4 => ⟨_, _, rfl, rfl, ?_⟩⟩
    have s4 := s3.nxt k4
    refine ⟨_, rfl, _, _, rfl, rfl, _, rfl, _, rfl, W, C, r, t + 1 + 1, rfl, s4.wl, by omega, by omega, by omega, fun d2 H5 d20 d21 k5 => ⟨_, _, rfl, rfl, ?_⟩⟩
    have s5 := s4.nxt k5
    refine ⟨_, rfl, W, C, 16, t + 1 + 1 + 1, rfl, s5.wl, by omega, by decide, by decide, fun kd H6 k60 k61 k6 => ?_⟩
    have s6 := s5.nxt k6
    refine ⟨_, rfl, _, rfl, _, rfl, small 2, fun l7 n7 => ?_⟩
    have s7 := s6.new (o := .lst [.int (((wire : Nat) : Int) - 1 - d2), .int (((wire : Nat) : Int) - 1 - d1)]) n7
    have h77 : upd H6 l7 (.lst [.int (((wire : Nat) : Int) - 1 - d2), .int (((wire : Nat) : Int) - 1 - d1)]) l7 = some (.lst [.int (((wire : Nat) : Int) - 1 - d2), .int (((wire : Nat) : Int) - 1 - d1)]) := upd_same
    generalize upd H6 l7 (.lst [.int (((wire : Nat) : Int) - 1 - d2), .int (((wire : Nat) : Int) - 1 - d1)]) = H7 at s7 h77 ⊢
    obtain ⟨o2, eo, o20, o21⟩ : ∃ o2 : Int, (if decide (V.int dt = V.int 3) = true then V.int (((wire : Nat) : Int) - 1 - d1) else V.int (((wire : Nat) : Int) - 1 - d2)) = V.int o2 ∧ 0 ≤ o2 ∧ o2 < ((wire : Nat) : Int) := by
      split
      · exact ⟨_, rfl, by omega, by omega⟩
      · exact ⟨_, rfl, by omega, by omega⟩
    refine ⟨_, rfl, .inr ⟨_, rfl, l7, _, _, .int o2, rfl, rfl, SqL.of h77, (by rw [atIf]; exact congrArg some eo), small 3, fun p np => ?_⟩⟩
    have s8 := s7.new (o := .tup [.int kd, .int (((wire : Nat) : Int) - 1 - d1), .int o2]) np
    refine q p _ (kd.toNat, (((wire : Nat) : Int) - 1 - d1).toNat, o2.toNat) (by show kd.toNat < 16; omega) (by show (((wire : Nat) : Int) - 1 - d1).toNat < wire; omega) (by show o2.toNat < wire; omega) ?_ s8 (s7.was np)
    rw [upd_same]
    show some (HO.tup [V.int kd, V.int (((wire : Nat) : Int) - 1 - d1), V.int o2]) = some (HO.tup [V.int (kd.toNat : Int), V.int ((((wire : Nat) : Int) - 1 - d1).toNat : Int), V.int (o2.toNat : Int)])
    rw [Int.toNat_of_nonneg k60, Int.toNat_of_nonneg (by omega), Int.toNat_of_nonneg o20]
def spNet : Sp := fun vs H Q _ => ∃ (W C : Addr) (most gm t : Nat), vs = [.ref W, nV most, nV gm] ∧ Wt H W C t ∧ t ≤ 800000 ∧ 1 ≤ most ∧ most ≤ 8 ∧ gm ≤ 16 ∧ ∀ a n g o ps H', n.Ok → n.many ≤ most → n.gates.length ≤ gm → NetAt H' a n g o ps → Wkt W C (t + 200) H H' → Q (.ref a) H'
theorem ok_net {f c : Addr} (D : Dfn K mg "_law_net" s__law_net f c) (T : Txt mg) (c__law_draw : Cal P w K mg base 1 "_law_draw" spDraw []) (c__law_gate : Cal P w K mg base 2 "_law_gate" spGate []) : Cal P w K mg base 3 "_law_net" spNet [] := by
  refine cal D (fun _ _ _ _ _ _ us hl => match us, hl with | [_, _, _], _ => rfl) sc__law_net (fun vs H Q E h => ?_) (fun A outer s H vs Q E hr h => ?_)
  · obtain ⟨W, C, most, gm, t, rfl, _⟩ := h
    rfl
  · obtain ⟨W, C, most, gm, t, rfl, wl, ht, h1, h8, hg, q⟩ := h
    refine ⟨_, (pss_cons (ps_set (i := 3) sc__law_net.nd rfl (by first | exact Or.inl rfl | exact Or.inr rfl) (pe_c c__law_draw hr (by decide) (by rfl) (pa_cons (pv 0) (pa_cons pe_int pa_nil))))
      (pss_cons (ps_set (i := 4) sc__law_net.nd rfl (by first | exact Or.inl rfl | exact Or.inr rfl) (pe_op op_add pe_int (pe_c c__law_draw hr (by decide) (by rfl) (pa_cons (pv 0) (pa_cons (pv 1) pa_nil)))))
      (pss_cons (ps_set (i := 5) sc__law_net.nd rfl (by first | exact Or.inl rfl | exact Or.inr rfl) (pe_c c__law_draw hr (by decide) (by rfl) (pa_cons (pv 0) (pa_cons (pe_op op_add (pv 2) pe_int) pa_nil))))
      (pss_cons (ps_set (i := 6) sc__law_net.nd rfl (by first | exact Or.inl rfl | exact Or.inr rfl) (pe_lst pa_nil))
      (pss_cons (ps_for PassesOwn.never rfl (pi_range1 (by rfl) T.b_range (pa_cons (pv 5) pa_nil)) (pg_name (i := 7) sc__law_net.nd rfl (by first | exact Or.inl rfl | exact Or.inr rfl))
        (pss_one (ps_expr (pe_bm PySem.F.plainAttrs_list PySem.F.slot_list_append PySem.F.type_list_append mt_append (pv 6) (pa_cons (pe_c c__law_gate hr (by decide) (by rfl) (pa_cons (pv 0) (pa_cons (pv 4) (pa_cons (pe_op op_add (pv 4) (pv 7)) (pa_cons (pv 3) pa_nil))))) pa_nil)))))
      (pss_cons (ps_set (i := 8) sc__law_net.nd rfl (by first | exact Or.inl rfl | exact Or.inr rfl) (pe_lst pa_nil))
      (pss_cons (ps_for PassesOwn.never rfl (pi_range1 (by rfl) T.b_range (pa_cons (pe_op op_add pe_int (pe_c c__law_draw hr (by decide) (by rfl) (pa_cons (pv 0) (pa_cons (pe_ix ix_list (pe_lst (pa_cons pe_int (pa_cons pe_int pa_nil))) (pe_callTy call_int1 (by rfl) T.b_int (by decide +kernel) (pa_cons (pe_cmpR op_eq (pe_c c__law_draw hr (by decide) (by rfl) (pa_cons (pv 0) (pa_cons pe_int pa_nil))) pe_int (nomark _)) pa_nil)) (fun _ _ => rfl)) pa_nil)))) pa_nil)) (pg_name (i := 7) sc__law_net.nd rfl (by first | exact Or.inl rfl | exact Or.inr rfl))
        (pss_cons (ps_set (i := 9) sc__law_net.nd rfl (by first | exact Or.inl rfl | exact Or.inr rfl) (pe_c c__law_draw hr (by decide) (by rfl) (pa_cons (pv 0) (pa_cons (pe_ix ix_list (pe_lst (pa_cons (pe_callB (call_min2 rfl) (by rfl) T.b_min (by decide +kernel) (pa_cons pe_int (pa_cons (pe_op op_add (pv 4) (pv 5)) pa_nil))) (pa_cons (pe_op op_add (pv 4) (pv 5)) pa_nil))) (pe_c c__law_draw hr (by decide) (by rfl) (pa_cons (pv 0) (pa_cons pe_int pa_nil))) (fun _ _ => rfl)) pa_nil))))
      (pss_one (ps_expr (pe_bm PySem.F.plainAttrs_list PySem.F.slot_list_append PySem.F.type_list_append mt_append (pv 8) (pa_cons (pe_op op_sub (pe_op op_sub (pe_op op_add (pv 4) (pv 5)) pe_int) (pv 9)) pa_nil))))))
      (pss_one (ps_ret (pe_tup (pa_cons (pv 4) (pa_cons (pe_callTy call_tuple_of (by rfl) T.b_tuple (by decide +kernel) (pa_cons (pv 6) pa_nil)) (pa_cons (pe_callTy call_tuple_of (by rfl) T.b_tuple (by decide +kernel) (pa_cons (pv 8) pa_nil)) pa_nil))))))))))))), ?_⟩
    refine ⟨_, rfl, W, C, 4, t, rfl, wl, by omega, by decide, by decide, fun way H1 y0 y4 s1 => ?_⟩
    refine ⟨_, rfl, _, rfl, W, C, most, t + 1, rfl, s1.wl, by omega, by omega, by omega, fun m0 H2 m1 m2 k2 => ⟨_, _, rfl, rfl, ?_⟩⟩
    have s2 := s1.nxt k2
    refine ⟨_, rfl, _, rfl, _, _, rfl, rfl, W, C, gm + 1, t + 1 + 1, rfl, s2.wl, by omega, by omega, by omega, fun count H3 c0 c1 k3 => ?_⟩
    have s3 := s2.nxt k3
    refine ⟨small 0, fun l nl => ?_⟩
    have s4 := s3.new (o := .lst []) nl
    have nlW := s3.wl.new nl
    have nlH := s3.was nl
    obtain ⟨m, em⟩ : ∃ m : Nat, 1 + m0 = ((m : Nat) : Int) := ⟨(1 + m0).toNat, by omega⟩
    dsimp -proj only
    rw [em]
    refine ⟨_, rfl, _, rfl, by omega, by omega, ?_⟩
    refine for_range (lo := 0) (n := count.toNat) (fun i σ H' => ∃ (ps : List Addr) (gs : List (Nat × Nat × Nat)) (x7 : Option V), σ = [some (.ref W), some (nV most), some (nV gm), some (.int way), some (.int ((m : Nat) : Int)), some (.int count), some (.ref l), x7, none, none] ∧ Wkt W C (t + 3 + 4 * i) H H' ∧
      H' l = some (.lst (ps.map V.ref)) ∧ GatesAt H' ps gs ∧ gs.length = i ∧ ∀ (j : Nat) (g : Nat × Nat × Nat), gs[j]? = some g → gateOk m j g) ⟨[], [], none, rfl, s4, upd_same, GatesAt.nil _, rfl, fun j g e => by simp at e⟩ ?_ ?_
    · rintro i σ H5 hi ⟨ps, gs, x7, rfl, s5, hl, hgs, hlen, hok⟩
      have hi' : i < 16 := by omega
      refine ⟨_, rfl, .inl ⟨rfl, _, SqL.of hl⟩, _, rfl, _, rfl, _, rfl, _, rfl, _, _, rfl, rfl, _, rfl, W, C, m, m + i, way, t + 3 + 4 * i, (by rw [Int.zero_add]; rfl), s5.wl, by omega, by omega, by omega, by omega, y0, y4, fun p H6 g g1 g2 g3 hp k6 np => ?_⟩
      have s6 := s5.nxt k6
      have hl6 := k6.at_ nlW hl
      have hgs6 := s5.wl.gates k6 hgs
      refine ⟨l, _, _, rfl, rfl, hl6, by rw [List.length_map, hgs.1, hlen]; exact small1000 (by omega), ?_⟩
      refine ⟨ps ++ [p], gs ++ [g], _, rfl, (s6.put nlH nlW).le (by omega), by rw [upd_same, List.map_append]; rfl, (hgs6.mono (tupPut hl6)).push (tupPut hl6 _ _ hp), by rw [List.length_append, hlen]; rfl, fun j g' e => ?_⟩
      by_cases hj : j < gs.length
      · rw [List.getElem?_append_left hj] at e
        exact hok j g' e
      · rw [List.getElem?_append_right (by omega)] at e
        have hz : j - gs.length = 0 := by
          obtain ⟨h1, _⟩ := List.getElem?_eq_some_iff.mp e
          simp at h1
          omega
        rw [hz] at e
        cases e
        have ej : j = i := by omega
        rw [ej]
        exact ⟨g1, g2, g3⟩
    · rintro σ H5 ⟨ps, gs, x7, rfl, s5, hl, hgs, hlen, hok⟩
      -- outs
      refine ⟨small 0, fun lo nlo => ?_⟩
      have s6 := s5.new (o := .lst []) nlo
      have noW := s5.wl.new nlo
      have noH := s5.was nlo
      have nol : lo ≠ l := fun y => by
        rw [y, hl] at nlo
        cases nlo
      have e6 := Same.new (o := .lst []) nlo
      have hl6 := e6 _ _ hl
      have hgs6 := Same.gates e6 hgs
      have ho6 : upd H5 lo (.lst []) lo = some (.lst []) := upd_same
      generalize upd H5 lo (.lst []) = H6 at s6 hl6 hgs6 ho6 ⊢
      refine ⟨_, rfl, small 2, fun l2 n2 => ?_⟩
      have e7 := Same.new (o := .lst [.int 2, .int 8]) n2
      have s7 := s6.same e7
      have hl7 := e7 _ _ hl6
      have hgs7 := Same.gates e7 hgs6
      have ho7 := e7 _ _ ho6
      have h27 : upd H6 l2 (.lst [.int 2, .int 8]) l2 = some (.lst [.int 2, .int 8]) := upd_same
      have n2W := s6.wl.new n2
      generalize upd H6 l2 (.lst [.int 2, .int 8]) = H7 at s7 hl7 hgs7 ho7 h27 ⊢
      refine ⟨_, rfl, W, C, 4, _, rfl, s7.wl, by omega, by decide, by decide, fun cd H8 _ _ k8 => ⟨rfl, ?_⟩⟩
      have s8 := s7.nxt k8
      obtain ⟨m3, em3, m30, m31⟩ : ∃ m3 : Int, (if decide (V.int cd = V.int 1) = true then V.int 8 else V.int 2) = V.int m3 ∧ 1 ≤ m3 ∧ m3 ≤ 8 := by
        split
        · exact ⟨_, rfl, by decide, by decide⟩
        · exact ⟨_, rfl, by decide, by decide⟩
      refine .inr ⟨_, rfl, l2, _, _, .int m3, rfl, rfl, SqL.of (k8.at_ n2W h27), (by rw [atIf]; exact congrArg some em3), ?_⟩
      refine ⟨W, C, m3, _, rfl, s8.wl, by omega, by omega, by omega, fun more H9 r0 r1 k9 => ⟨_, _, rfl, rfl, _, rfl, by omega, by omega, ?_⟩⟩
      have s9 := s8.nxt k9
      refine for_range (lo := 0) (n := (1 + more).toNat) (fun i σ H' => ∃ (os : List Nat) (x7 x9 : Option V), σ = [some (.ref W), some (nV most), some (nV gm), some (.int way), some (.int ((m : Nat) : Int)), some (.int count), some (.ref l), x7, some (.ref lo), x9] ∧ Wkt W C (t + 100 + 2 * i) H H' ∧
        H' l = some (.lst (ps.map V.ref)) ∧ GatesAt H' ps gs ∧ H' lo = some (.lst (os.map nV)) ∧ os.length = i ∧ ∀ o ∈ os, o < m + gs.length) ⟨[], x7, none, rfl, s9.le (by omega), k9.at_ nlW (k8.at_ nlW hl7), s8.wl.gates k9 (s7.wl.gates k8 hgs7), k9.at_ noW (k8.at_ noW ho7), rfl, fun o ho => by cases ho⟩ ?_ ?_
      · rintro i σ H10 hi ⟨os, y7, y9, rfl, s10, hl10, hgs10, ho10, hol, hos⟩
        refine ⟨_, rfl, _, rfl, _, rfl, _, _, rfl, rfl, _, _, rfl, _, rfl, _, rfl, _, _, rfl, rfl, small 2, fun l11 n11 => ?_⟩
        have e11 := Same.new (o := .lst [.int (if ((m : Nat) : Int) + count < 3 then ((m : Nat) : Int) + count else 3), .int (((m : Nat) : Int) + count)]) n11
        have s11 := s10.same e11
        have n11W := s10.wl.new n11
        have hl11 := e11 _ _ hl10
        have hgs11 := Same.gates e11 hgs10
        have ho11 := e11 _ _ ho10
        have h11 : upd H10 l11 (.lst [.int (if ((m : Nat) : Int) + count < 3 then ((m : Nat) : Int) + count else 3), .int (((m : Nat) : Int) + count)]) l11 = some (.lst [.int (if ((m : Nat) : Int) + count < 3 then ((m : Nat) : Int) + count else 3), .int (((m : Nat) : Int) + count)]) := upd_same
        generalize upd H10 l11 (.lst [.int (if ((m : Nat) : Int) + count < 3 then ((m : Nat) : Int) + count else 3), .int (((m : Nat) : Int) + count)]) = H11 at s11 hl11 hgs11 ho11 h11 ⊢
        refine ⟨_, rfl, W, C, 2, _, rfl, s11.wl, by omega, by decide, by decide, fun d2 H12 d20 d21 k12 => ?_⟩
        have s12 := s11.nxt k12
        obtain ⟨m4, em4, m40, m41⟩ : ∃ m4 : Int, atI [V.int (if ((m : Nat) : Int) + count < 3 then ((m : Nat) : Int) + count else 3), V.int (((m : Nat) : Int) + count)] d2 = some (.int m4) ∧ 1 ≤ m4 ∧ m4 ≤ ((m : Nat) : Int) + count := by
          rcases (by omega : d2 = 0 ∨ d2 = 1) with e | e <;> subst e
          · exact ⟨_, at0, by split <;> omega, by split <;> omega⟩
          · exact ⟨_, at1, by omega, by omega⟩
        refine ⟨l11, _, _, .int m4, rfl, rfl, SqL.of (k12.at_ n11W h11), em4, ?_⟩
        refine ⟨W, C, m4, _, rfl, s12.wl, by omega, by omega, by omega, fun far H13 f0 f1 k13 => ?_⟩
        have s13 := s12.nxt k13
        have hl13 := k13.at_ nlW (k12.at_ nlW hl11)
        have ho13 := k13.at_ noW (k12.at_ noW ho11)
        have hgs13 := s12.wl.gates k13 (s11.wl.gates k12 hgs11)
        refine ⟨_, rfl, .inl ⟨rfl, _, SqL.of ho13⟩, _, rfl, _, rfl, _, _, rfl, rfl, _, _, rfl, rfl, _, rfl, _, _, rfl, rfl, lo, _, _, rfl, rfl, ho13, by rw [List.length_map, hol]; exact small1000 (by omega), ?_⟩
        obtain ⟨o, eo⟩ : ∃ o : Nat, ((m : Nat) : Int) + count - 1 - far = ((o : Nat) : Int) := ⟨(((m : Nat) : Int) + count - 1 - far).toNat, by omega⟩
        dsimp -proj only
        rw [eo]
        refine ⟨os ++ [o], _, _, rfl, (s13.put noH noW).le (by omega), ?_, hgs13.mono (tupPut ho13), ?_, by rw [List.length_append, hol]; rfl, fun o' ho' => ?_⟩
        · rw [upd_ne (Ne.symm nol)]
          exact hl13
        · rw [upd_same, List.map_append]
          rfl
        · rcases List.mem_append.mp ho' with ho' | ho'
          · exact hos o' ho'
          · rw [List.mem_singleton.mp ho']
            omega
      · rintro σ H10 ⟨os, y7, y9, rfl, s10, hl10, hgs10, ho10, hol, hos⟩
        refine ⟨_, rfl, _, rfl, l, _, rfl, .inl ⟨SqL.of hl10, fun g ng => ?_⟩⟩
        have e11 := Same.new (o := .tup (ps.map V.ref)) ng
        refine ⟨_, rfl, lo, _, rfl, .inl ⟨SqL.of (e11 _ _ ho10), fun o no => ?_⟩⟩
        have e12 := Same.new (o := .tup (os.map nV)) no
        refine ⟨small 3, fun a na => ?_⟩
        have e13 := Same.new (o := .tup [.int ((m : Nat) : Int), .ref g, .ref o]) na
        have hps : ps.length = gs.length := hgs10.1
        refine q a ⟨m, gs, os⟩ g o ps _ ⟨?_, ?_, ?_, ?_, ?_, ?_, ?_⟩ ?_ ?_ ⟨?_, ?_, ?_, ?_⟩ ((((s10.same e11).same e12).same e13).le (by omega))
        · show 1 ≤ m; omega
        · show m ≤ 8; omega
        · show gs.length ≤ 16; omega
        · exact hok
        · show 1 ≤ os.length; omega
        · show os.length ≤ 8; omega
        · exact hos
        · show m ≤ most; omega
        · show gs.length ≤ gm; omega
        · exact upd_same
        · exact e13 _ _ (e12 _ _ upd_same)
        · exact Same.gates e13 (Same.gates e12 (Same.gates e11 hgs10))
        · exact e13 _ _ upd_same
end
end K52
set_option Elab.async false
set_option linter.all false
set_option maxRecDepth 100000
set_option maxHeartbeats 4000000
/-! The least ones, out of pairs (how many, tuple) in their order. -/
namespace GX
open PySem PySem.Spec PyProof.Rows L2
/-- a pair: how many, the tuple -/
def PrAt (H : Hp) (p : Addr) (c : List Nat) : Prop := ∃ t, H p = some (.tup [.int (c.length : Int), .ref t]) ∧ H t = some (.tup (c.map nV))
theorem PrAt.mono {H H' : Hp} {p : Addr} {c : List Nat} (h : PrAt H p c) (m : ∀ b xs, H b = some (.tup xs) → H' b = some (.tup xs)) : PrAt H' p c := by
  obtain ⟨t, h1, h2⟩ := h
  exact ⟨t, m _ _ h1, m _ _ h2⟩
/-- the tuple of a pair -/
def prN (H : Hp) : V → List Nat
  | .ref p => match H p with
    | some (.tup [_, x]) => tupN H x
    | _ => []
  | _ => []
theorem prN_at {H : Hp} {p : Addr} {c : List Nat} (h : PrAt H p c) : prN H (.ref p) = c := by
  obtain ⟨t, h1, h2⟩ := h
  show (match H p with | some (HO.tup [_, x]) => tupN H x | _ => []) = c
  rw [h1]
  exact tupN_at h2
def prK (H : Hp) (x : V) : List Int := ((prN H x).length : Int) :: (prN H x).map fun n : Nat => (n : Int)
theorem prs_map {H : Hp} : ∀ {qs : List Addr} {cs : List (List Nat)}, PtsAt PrAt H qs cs → (qs.map V.ref).map (prN H) = cs
  | [], cs, h => (List.length_eq_zero_iff.mp h.1.symm).symm
  | q :: qs, [], h => by cases h.1
  | q :: qs, c :: cs, h => by
    have h1 := h.2 0 q c rfl rfl
    have h2 : PtsAt PrAt H qs cs := ⟨Nat.succ.inj h.1, fun i p x e1 e2 => h.2 (i + 1) p x e1 e2⟩
    show prN H (.ref q) :: _ = _
    rw [prN_at h1, prs_map h2]
theorem prs_all {H : Hp} {qs : List Addr} {cs : List (List Nat)} (h : PtsAt PrAt H qs cs) {x : V} (hx : x ∈ qs.map V.ref) : ∃ p c, x = .ref p ∧ c ∈ cs ∧ PrAt H p c := by
  obtain ⟨i, hi, e⟩ := List.mem_iff_getElem.mp hx
  obtain ⟨t, c, e1, e2, e3⟩ := h.at_ (i := i) (v := x) (by rw [List.getElem?_eq_getElem hi, e])
  exact ⟨t, c, e1, List.mem_of_getElem? e2, e3⟩
theorem prs_sorted {H : Hp} {qs : List Addr} {cs : List (List Nat)} (h : PtsAt PrAt H qs cs) {ys : List V} (srt : SrtO.Srtd (fun x y => HT.lexLt (prK H x) (prK H y)) ys) (pm : ys.Perm (qs.map V.ref)) :
    ∃ (rs : List Addr) (ds : List (List Nat)), ys = rs.map V.ref ∧ PtsAt PrAt H rs ds ∧ ds.Perm cs ∧ ds.Pairwise fun a b => a.length ≤ b.length := by
  have hall : ∀ y ∈ ys, ∃ p c, y = .ref p ∧ c ∈ cs ∧ PrAt H p c := fun y hy => prs_all h (pm.mem_iff.mp hy)
  have mk : ∀ zs : List V, (∀ y ∈ zs, ∃ p c, y = .ref p ∧ c ∈ cs ∧ PrAt H p c) → ∃ rs : List Addr, zs = rs.map V.ref ∧ PtsAt PrAt H rs (zs.map (prN H)) := by
    intro zs
    induction zs with
    | nil => exact fun _ => ⟨[], rfl, PtsAt.nil _ _⟩
    | cons y zs ih =>
      intro hz
      obtain ⟨t, c, rfl, _, ht⟩ := hz y List.mem_cons_self
      obtain ⟨rs, e, hr⟩ := ih fun y hy => hz y (List.mem_cons_of_mem _ hy)
      refine ⟨t :: rs, by rw [e]; rfl, ?_⟩
      have := hr.cons (q := t) (y := prN H (.ref t)) (by rw [prN_at ht]; exact ht)
      exact this
  obtain ⟨rs, e, hr⟩ := mk ys hall
  refine ⟨rs, ys.map (prN H), e, hr, ?_, ?_⟩
  · have := pm.map (prN H)
    rw [prs_map h] at this
    exact this
  · refine List.pairwise_map.mpr (List.Pairwise.imp (fun {x y} hxy => ?_) srt)
    have hxy' : HT.lexLt (prK H y) (prK H x) = false := hxy
    unfold prK at hxy'
    rw [HT.lexLt_cons] at hxy'
    by_cases e : ((prN H y).length : Int) = ((prN H x).length : Int)
    · omega
    · rw [if_neg e] at hxy'
      have := of_decide_eq_false hxy'
      omega
/-- what is kept of the first few, by size -/
structure KeptS (F cs : List (List Nat)) (j : Nat) (R : List (List Nat)) : Prop where
  nd : R.Nodup
  mem : ∀ c, c ∈ R ↔ (c ∈ cs.take j ∧ Minl F c)
theorem KeptS.zero (F cs : List (List Nat)) : KeptS F cs 0 [] := ⟨List.nodup_nil, fun c => ⟨fun z => (by cases z), fun z => by
  have := z.1
  rw [List.take_zero] at this
  cases this⟩⟩
theorem not_taken {cs : List (List Nat)} (nd : cs.Nodup) {j : Nat} {c : List Nat} (hc : cs[j]? = some c) : c ∉ cs.take j := fun z => by
  obtain ⟨i', hi', e'⟩ := List.mem_iff_getElem.mp z
  rw [List.getElem_take] at e'
  rw [List.length_take] at hi'
  obtain ⟨h3, h4⟩ := List.getElem?_eq_some_iff.mp hc
  have := (List.getElem_inj (xs := cs) (i := i') (j := j) (h₀ := by omega) (h₁ := h3) nd).mp (by rw [e', h4])
  omega
theorem KeptS.test {F cs : List (List Nat)} (rise : ∀ c ∈ F, c.Pairwise (· < ·)) (pm : ∀ c, c ∈ cs ↔ c ∈ F) (nd : cs.Nodup) (srt : cs.Pairwise fun a b => a.length ≤ b.length) {j : Nat} {R : List (List Nat)} (h : KeptS F cs j R) {c : List Nat} (hc : cs[j]? = some c) : (∀ m ∈ R, ¬ SubL m c) ↔ Minl F c := by
  have hcF : c ∈ F := (pm c).mp (List.mem_of_getElem? hc)
  constructor
  · intro a c' hc' hsub
    refine Classical.not_not.mp fun ne => ?_
    obtain ⟨m, m1, m2, m3⟩ := minl_ex rise _ c' (Nat.le_refl _) hc'
    have mc : SubL m c := fun x hx => hsub x (m2 x hx)
    have mne : m ≠ c := fun e => by
      have : SubL c c' := by rw [← e]; exact m2
      exact ne (rise_eq (rise c' hc') (rise c hcF) fun z => ⟨hsub z, this z⟩)
    have lt := subl_len (rise m m1) (rise c hcF) mc mne
    refine a m ((h.mem m).mpr ⟨?_, m3⟩) mc
    obtain ⟨i, hi, ei⟩ := List.mem_iff_getElem.mp ((pm m).mpr m1)
    obtain ⟨hj, ej⟩ := List.getElem?_eq_some_iff.mp hc
    have ij : i < j := by
      rcases Nat.lt_trichotomy i j with z | z | z
      · exact z
      · subst z
        rw [ei] at ej
        exact absurd ej mne
      · have := List.pairwise_iff_getElem.mp srt j i hj hi z
        rw [ei, ej] at this
        omega
    rw [← ei]
    exact List.mem_iff_getElem.mpr ⟨i, by rw [List.length_take]; omega, List.getElem_take⟩
  · intro hm m hmR hsub
    obtain ⟨h1, _⟩ := (h.mem m).mp hmR
    have e := hm m ((pm m).mp (List.mem_of_mem_take h1)) hsub
    rw [e] at h1
    exact not_taken nd hc h1
theorem KeptS.yes {F cs : List (List Nat)} (nd : cs.Nodup) {j : Nat} {R : List (List Nat)} (h : KeptS F cs j R) {c : List Nat} (hc : cs[j]? = some c) (hm : Minl F c) : KeptS F cs (j + 1) (R ++ [c]) := by
  have tk : cs.take (j + 1) = cs.take j ++ [c] := by rw [List.take_add_one, hc]; rfl
  refine ⟨?_, fun d => ?_⟩
  · refine List.nodup_append.mpr ⟨h.nd, List.nodup_cons.mpr ⟨fun z => (by cases z), List.nodup_nil⟩, fun a ha b hb e => ?_⟩
    rw [List.mem_singleton.mp hb] at e
    rw [e] at ha
    exact not_taken nd hc ((h.mem c).mp ha).1
  · rw [List.mem_append, h.mem, tk, List.mem_append, List.mem_singleton]
    constructor
    · rintro (⟨h1, h2⟩ | rfl)
      · exact ⟨.inl h1, h2⟩
      · exact ⟨.inr rfl, hm⟩
    · rintro ⟨h1 | rfl, h2⟩
      · exact .inl ⟨h1, h2⟩
      · exact .inr rfl
theorem KeptS.no {F cs : List (List Nat)} {j : Nat} {R : List (List Nat)} (h : KeptS F cs j R) {c : List Nat} (hc : cs[j]? = some c) (hm : ¬ Minl F c) : KeptS F cs (j + 1) R := by
  have tk : cs.take (j + 1) = cs.take j ++ [c] := by rw [List.take_add_one, hc]; rfl
  refine ⟨h.nd, fun d => ?_⟩
  rw [h.mem, tk, List.mem_append, List.mem_singleton]
  constructor
  · rintro ⟨h1, h2⟩
    exact ⟨.inl h1, h2⟩
  · rintro ⟨h1 | rfl, h2⟩
    · exact ⟨h1, h2⟩
    · exact absurd h2 hm
end GX
set_option Elab.async false
set_option linter.all false
/-! A statement by what stands behind it. -/
namespace GX
open PySem PySem.Spec PyProof.Rows L2
theorem seq_cut {t u : TS} {D : Ends} {σ : L2.St} {H : Hp} (Iv : L2.St → Hp → Prop) (h1 : ∀ B : L2.St → Hp → Prop, (∀ σ' H', Iv σ' H' → B σ' H') → t { D with nx := B } σ H) (h2 : ∀ σ' H', Iv σ' H' → u D σ' H') : tSeq t u D σ H := h1 (u D) h2
theorem seq_cutG {t u : TS} {D : Ends} {σ : L2.St} {H : Hp} {i : Nat} {x : V} (Iv : L2.St → Hp → Prop) (h1 : ∀ B : L2.St → Hp → Prop, (∀ σ' H', Iv σ' H' → B σ' H') → t { D with nx := B } (σ.set i (some x)) H) (h2 : ∀ σ' H', Iv σ' H' → u D σ' H') : gName i x σ H (tSeq t u D) := h1 (u D) h2
theorem te_cut {te : TE} {σ : L2.St} {H : Hp} {Q : VK} (Iv : V → Hp → Prop) (h1 : ∀ Q' : VK, (∀ v H', Iv v H' → Q' v H') → te σ H Q') (h2 : ∀ v H', Iv v H' → Q v H') : te σ H Q := h1 Q h2
theorem tt_cut {tt : TT} {σ : L2.St} {H : Hp} {Q : Bool → Hp → Prop} (Iv : Bool → Hp → Prop) (h1 : ∀ Q' : Bool → Hp → Prop, (∀ v H', Iv v H' → Q' v H') → tt σ H Q') (h2 : ∀ v H', Iv v H' → Q v H') : tt σ H Q := h1 Q h2
end GX
set_option Elab.async false
set_option linter.all false
/-! A gate of a net. -/
namespace GX
open PySem PySem.Spec PyProof.Rows L2
theorem gateAt {n : Net} {a g o : Addr} {ps : List Addr} {Ha : Hp} (x : Nat) (NA : NetAt Ha a n g o ps) (h1 : n.many ≤ x) (h2 : x < n.many + n.gates.length) : ∃ (k : Nat × Nat × Nat) (p : Addr), n.gates[x - n.many]? = some k ∧ Ha p = some (.tup (gV k)) ∧ atI (ps.map V.ref) (((x : Nat) : Int) - ((n.many : Nat) : Int)) = some (.ref p) := by
  obtain ⟨k, hk⟩ : ∃ k, n.gates[x - n.many]? = some k := ⟨_, List.getElem?_eq_getElem (by omega)⟩
  have hil : x - n.many < ps.length := by rw [NA.gs.1]; omega
  refine ⟨k, ps[x - n.many], hk, NA.gs.2 _ _ _ (List.getElem?_eq_getElem hil) hk, ?_⟩
  rw [show (((x : Nat) : Int) - ((n.many : Nat) : Int)) = ((x - n.many : Nat) : Int) by omega]
  exact atI_nat (by rw [List.getElem?_map, List.getElem?_eq_getElem hil]; rfl)
end GX
set_option Elab.async false
set_option linter.all false
set_option maxRecDepth 100000
set_option maxHeartbeats 4000000
namespace K52
open PySem PySem.Spec PyProof.Rows L2 GX
open C8 (Cal pe_c pe_gc Met Mak)
-- @exc CoverError
-- @exc NoText
-- @exc NoDepth init=least
-- @exc TooMany made
-- @exc NoMatch
-- @exc NoChange
-- @exc NoRow
-- @sub NoDepth NoDepth true
-- @sub NoDepth CoverError true
-- @sub NoDepth ValueError true
-- @sub NoDepth NoChange false
-- @sub NoDepth NoMatch false
-- @sub NoDepth NoRow false
-- @sub NoDepth NoText false
-- @sub NoDepth TooMany false
-- @sub TooMany TooMany true
-- @sub TooMany CoverError true
-- @sub TooMany ValueError true
-- @sub TooMany NoChange false
-- @sub TooMany NoMatch false
-- @sub TooMany NoRow false
-- @sub TooMany NoText false
-- @sub TooMany NoDepth false
section
variable {P : Program} {w : World} {K : PySem.W.Frag} {mg : Str → Option Value} {base : Heap} {Ts : List Addr}
def spHeld : Sp := fun vs H Q _ => ∃ (ra oa : Addr) (row other : List Nat), vs = [.ref oa, .ref ra] ∧ H ra = some (.tup (row.map nV)) ∧ H oa = some (.tup (other.map nV)) ∧ other.length ≤ 100 ∧ ∀ b H', (b = true ↔ SubL other row) → Same H H' → Q (.bl b) H'
theorem ok_held {f c : Addr} (D : Dfn K mg "_law_held" s__law_held f c) (T : Txt mg) : Cal P w K mg base 1 "_law_held" spHeld [] := by
  refine cal D (fun _ _ _ _ _ _ us hl => match us, hl with | [_, _], _ => rfl) sc__law_held (fun vs H Q E h => ?_) (fun A outer s H vs Q E hr h => ?_)
  · obtain ⟨ra, oa, row, other, rfl, _⟩ := h
    rfl
  · obtain ⟨ra, oa, row, other, rfl, hra, hoa, ol, q⟩ := h
    refine ⟨_, (pss_one (ps_ret (pe_cmpR (op_eqD hr.units) (pe_lc (own := [("_law_wire", 2)]) (g := gName 2)  rfl sc__law_held.nd (pi_tup (pv 0)) (blkOk_by (own := [("_law_wire", 2)]) (N := ["_law_one", "_law_other", "_law_wire"]) (sc := defScope s__law_held) (by decide +kernel)) (fun _ _ _ _ _ => (pg_name (i := 2) sc__law_held.nd rfl (by first | exact Or.inl rfl | exact Or.inr rfl))) (fun _ _ _ _ _ => (pts_one (pt_cmpR (op_notIn_seqK (K := K)) (pv 2) (pv 1) (by rfl)))) (fun _ _ _ _ _ => (pv 2))) (pe_lst pa_nil) (nomark _)))), ?_⟩
    refine ⟨_, rfl, oa, rfl, ⟨_, SqT.of hoa⟩, fun M nM => ?_⟩
    refine lc_tup (K := K) (a := oa) (xs := other.map nV) (fun i H' => ∃ js : List Nat, Own H H' M (js.map nV) ∧ js.length ≤ i ∧ (js = [] ↔ ∀ x ∈ other.take i, x ∈ row)) ⟨[], ⟨Same.new nM, upd_same, nM⟩, Nat.le_refl _, fun _ x hx => (by cases hx), fun _ => rfl⟩ (fun _ H' _ h => h.elim fun us h => SqT.of (h.1.sm _ _ hoa)) ?_ ?_
    · rintro i x H2 hx ⟨js, o2, jl, jw⟩
      have hi : i < other.length := by
        have := (List.getElem?_eq_some_iff.mp hx).1
        rwa [List.length_map] at this
      rw [natAt hi] at hx
      cases hx
      have mt := fun x => mem_take_succ (l := other) hi x
      generalize other.getD i 0 = y at mt ⊢
      refine ⟨rfl, _, rfl, _, rfl, ra, _, rfl, .inr (SqT.of (o2.sm _ _ hra)), rfl, flat_ns row, _, rfl, ?_⟩
      have ev : (if true = true then !inV (nV y) (row.map nV) else inV (nV y) (row.map nV)) = !decide (y ∈ row) := by rw [if_pos rfl, inV_n]
      rw [ev]
      refine ite2 (fun h1 => ?_) (fun h1 => ?_)
      · have h1' : y ∉ row := fun z => by rw [decide_eq_true z] at h1; cases h1
        exact ⟨_, rfl, _, o2.at_, by rw [List.length_map]; exact small256 (by omega), js ++ [y], by rw [List.map_append]; exact o2.app, by rw [List.length_append]; show js.length + 1 ≤ _; omega, fun z => (by cases js <;> cases z), fun z => absurd (z y ((mt y).mpr (.inr rfl))) h1'⟩
      · have h1' : y ∈ row := Classical.not_not.mp fun z => h1 (by rw [decide_eq_false z]; rfl)
        refine ⟨js, o2, by omega, jw.trans ⟨fun z x hx => ?_, fun z x hx => z x ((mt x).mpr (.inl hx))⟩⟩
        rcases (mt x).mp hx with e | e
        · exact z x e
        · rw [e]; exact h1'
    · rintro H2 ⟨js, o2, jl, jw⟩
      rw [List.length_map, List.take_length] at jw
      refine ⟨small 0, fun z nz => ?_⟩
      have s3 := Same.new (o := .lst []) nz
      refine ⟨.list ((js.map fun n : Nat => (n : Int)).map PyData.int), .list [], .lst (SqL.of (s3 _ _ o2.at_)) (dpNat K _ _), .lst (SqL.of upd_same) .nil, PySem.W.ke_shaped_ints _, by decide, ?_⟩
      have ee : (PyData.eqv (.list ((js.map fun n : Nat => (n : Int)).map PyData.int)) (.list [])) = decide (js.length = 0) := by
        show (PyData.eqvAll _ []) = _
        rw [eqvAllN, List.length_map, List.length_map]
      rw [ee]
      refine q _ _ ?_ (o2.sm.trans s3)
      rw [decide_eq_true_iff, List.length_eq_zero_iff, jw]
      exact Iff.rfl
end
section
variable {P : Program} {w : World} {K : PySem.W.Frag} {mg : Str → Option Value} {base : Heap} {Ts : List Addr}
/-- the least ones of a dict's keys, sorted -/
def spLeastD : Sp := fun vs H Q _ => ∃ (d : Addr) (F : List (List Nat)), vs = [.ref d] ∧ H d = some (.dT (kvT F)) ∧ F.Nodup ∧ (∀ c ∈ F, c.Pairwise (· < ·) ∧ 0 < c.length ∧ c.length ≤ 100) ∧ F.length < sizeLine ∧
  ∀ r H' (rs : List Addr) (ls : List (List Nat)), Same H H' → H r = none → H' r = some (.lst (rs.map V.ref)) → TupsAt H' rs ls → ls.Nodup → (∀ c, c ∈ ls ↔ (c ∈ F ∧ Minl F c)) → (ls.Pairwise fun a b => lexN b a = false) → Q (.ref r) H'
theorem ok_leastD {f c : Addr} (D : Dfn K mg "_law_least" s__law_least f c) (T : Txt mg) (c__law_held : Cal P w K mg base 1 "_law_held" spHeld []) : Cal P w K mg base 2 "_law_least" spLeastD [] := by
  refine cal D (fun _ _ _ _ _ _ us hl => match us, hl with | [_], _ => rfl) sc__law_least (fun vs H Q E h => ?_) (fun A outer s H vs Q E hr h => ?_)
  · obtain ⟨d, F, rfl, _⟩ := h
    rfl
  · obtain ⟨d, F, rfl, hd, ndF, lF, lenF, q⟩ := h
    have rise : ∀ c ∈ F, c.Pairwise (· < ·) := fun c hc => (lF c hc).1
    refine ⟨_, (pss_cons (ps_set (i := 1) sc__law_least.nd rfl (by first | exact Or.inl rfl | exact Or.inr rfl) (pe_lst pa_nil))
      (pss_cons (ps_for PassesOwn.never rfl (pi_list (pe_callB (cr_sortPair (Nat.lt_of_le_of_lt (Nat.add_le_add_left (by decide) _) hr.units)) (by rfl) T.b_sorted (by decide +kernel) (pa_cons (pe_lock (pe_lc (own := [("_law_one", 4)]) (g := gName 4) (tt := tYes) rfl sc__law_least.nd (pi_keys (pv 0)) (blkOk_by (own := [("_law_one", 4)]) (N := ["_law_some", "_law_kept", "_law_many", "_law_cut", "_law_one"]) (sc := defScope s__law_least) (by decide +kernel)) (fun _ _ _ _ _ => (pg_name (i := 4) sc__law_least.nd rfl (by first | exact Or.inl rfl | exact Or.inr rfl))) (fun _ _ _ _ _ => pts_nil) (fun _ _ _ _ _ => (pe_tup (pa_cons (pe_callB (len_seqK (K := K)) (by rfl) T.b_len (by decide +kernel) (pa_cons (pv 4) pa_nil)) (pa_cons (pv 4) pa_nil)))))) pa_nil))) (pg_tup rfl (pgs_cons (pg_name (i := 2) sc__law_least.nd rfl (by first | exact Or.inl rfl | exact Or.inr rfl)) (pgs_cons (pg_name (i := 3) sc__law_least.nd rfl (by first | exact Or.inl rfl | exact Or.inr rfl)) pgs_nil)))
        (pss_one (ps_if (pt_cmpR (op_eqD hr.units) (pe_lc (own := [("_law_one", 4)]) (g := gName 4)  rfl sc__law_least.nd (pi_list (pv 1)) (blkOk_by (own := [("_law_one", 4)]) (N := ["_law_some", "_law_kept", "_law_many", "_law_cut", "_law_one"]) (sc := defScope s__law_least) (by decide +kernel)) (fun _ _ _ _ _ => (pg_name (i := 4) sc__law_least.nd rfl (by first | exact Or.inl rfl | exact Or.inr rfl))) (fun _ _ _ _ _ => (pts_one (pt_val (pe_c c__law_held hr (by decide) (by rfl) (pa_cons (pv 4) (pa_cons (pv 3) pa_nil)))))) (fun _ _ _ _ _ => (pv 4))) (pe_lst pa_nil) (nomark _)) (pss_one (ps_expr (pe_bm PySem.F.plainAttrs_list PySem.F.slot_list_append PySem.F.type_list_append mt_append (pv 1) (pa_cons (pv 3) pa_nil)))) pss_nil)))
      (pss_one (ps_ret (pe_callB cr_sortTup (by rfl) T.b_sorted (by decide +kernel) (pa_cons (pv 1) pa_nil)))))), ?_⟩
    refine ⟨small 0, fun S nS => ?_⟩
    have o1 : Own H (upd H S (.lst [])) S (([] : List Addr).map V.ref) := ⟨Same.new nS, upd_same, nS⟩
    generalize upd H S (.lst []) = H1 at o1 ⊢
    have hd1 := o1.sm _ _ hd
    refine ⟨d, .dT (kvT F), hd1, trivial, fun od => ⟨_, rfl, d, od, rfl, .inr ⟨kvT F, upd_same, fun M nM => ?_⟩⟩⟩
    have hdl : upd H1 d (.frz od (.dT (kvT F))) d = some (.frz od (.dT (kvT F))) := upd_same
    have kl1 : ∀ b v, b ≠ d → H1 b = some v → upd H1 d (.frz od (.dT (kvT F))) b = some v := fun b v hb e => by rw [upd_ne hb]; exact e
    generalize upd H1 d (.frz od (.dT (kvT F))) = Hl at nM hdl kl1 ⊢
    refine lc_it (walk_keysT (kvs := kvT F)) (fun j H' => ∃ us : List Addr, Own Hl H' M (us.map V.ref) ∧ PtsAt PrAt H' us (F.take j)) ⟨[], ⟨Same.new nM, upd_same, nM⟩, PtsAt.nil _ _⟩ (fun i H' _ h => h.elim fun _ h => h.1.sm _ _ hdl) ?_ ?_
    · rintro j x H2 H3 hj ⟨us, o2, P2⟩ ⟨rfl, kk', v, qk, hkv, rfl, hqk⟩
      rw [kvT_len] at hj
      have hc : F[j]? = some F[j] := List.getElem?_eq_getElem hj
      have ek' : kk' = F[j].map nK := by
        unfold kvT at hkv
        rw [List.getElem?_map, hc] at hkv
        exact (congrArg Prod.fst (Option.some.inj hkv)).symm
      generalize F[j] = c' at hc ek'
      subst ek'
      rw [mapKV] at hqk
      have tk : F.take (j + 1) = F.take j ++ [c'] := by rw [List.take_add_one, hc]; rfl
      have ul : us.length ≤ F.length := by rw [P2.1, List.length_take]; omega
      refine ⟨rfl, ?_⟩
      unfold tYes
      refine iteT ?_
      refine ⟨_, rfl, qk, _, rfl, .inr (SqT.of hqk), _, rfl, small 2, fun pr npr => ?_⟩
      have s3 := Same.new (o := .tup [.int (((c'.map nV).length : Nat) : Int), .ref qk]) npr
      rw [List.length_map] at s3 ⊢
      have hpr : upd H3 pr (.tup [.int ((c'.length : Nat) : Int), .ref qk]) pr = some (.tup [.int ((c'.length : Nat) : Int), .ref qk]) := upd_same
      generalize upd H3 pr (.tup [.int ((c'.length : Nat) : Int), .ref qk]) = H4 at s3 hpr ⊢
      have o4 : Own Hl H4 M (us.map V.ref) := ⟨o2.sm.trans s3, s3 _ _ o2.at_, o2.nw⟩
      refine ⟨_, o4.at_, by rw [List.length_map]; exact Nat.lt_of_le_of_lt ul lenF, us ++ [pr], by rw [List.map_append]; exact o4.app, ?_⟩
      have up : ∀ b xs, H4 b = some (.tup xs) → upd H4 M (.lst (us.map V.ref ++ [V.ref pr])) b = some (.tup xs) := fun b xs e => by
        rw [upd_ne (fun z => by rw [z, o4.at_] at e; cases e)]
        exact e
      rw [tk]
      exact (P2.mono fun p y h => (h.mono fun b xs e => s3 _ _ e).mono up).push (PrAt.mono ⟨qk, hpr, s3 _ _ hqk⟩ up)
    · rintro H2 ⟨us, o2, P2⟩
      rw [kvT_len, List.take_length] at P2
      refine ⟨o2.sm _ _ hdl, ?_⟩
      have s13 : Same H1 (upd H2 d (.dT (kvT F))) := fun b v e => by
        by_cases hb : b = d
        · rw [hb] at e ⊢
          rw [hd1] at e
          rw [upd_same, e]
        · rw [upd_ne hb]
          exact o2.sm _ _ (kl1 b v hb e)
      have Md : M ≠ d := fun z => by rw [z, hdl] at nM; cases nM
      have hM3 : upd H2 d (.dT (kvT F)) M = some (.lst (us.map V.ref)) := by rw [upd_ne Md]; exact o2.at_
      have P3 : PtsAt PrAt (upd H2 d (.dT (kvT F))) us F := P2.mono fun p y h => h.mono fun b zs e => by
        rw [upd_ne (fun z => by rw [z, o2.sm _ _ hdl] at e; cases e)]
        exact e
      generalize upd H2 d (.dT (kvT F)) = H3 at s13 hM3 P3 ⊢
      refine ⟨M, us.map V.ref, prK H3, rfl, SqL.of hM3, fun x hx => ?_, fun ys lp srt pm np => ?_⟩
      · obtain ⟨p, c', rfl, hc, hp⟩ := prs_all P3 hx
        have e := prN_at hp
        obtain ⟨t, h1, h2⟩ := hp
        refine ⟨p, t, (c'.length : Int), c'.map fun n : Nat => (n : Int), rfl, ?_, h1, by rw [mapV]; exact h2⟩
        unfold prK
        rw [e]
      obtain ⟨rs, cs, rfl, R3, pm', len'⟩ := prs_sorted P3 srt pm
      have s4 := Same.new (o := .lst (rs.map V.ref)) np
      have o4 : Own H (upd H3 lp (.lst (rs.map V.ref))) S (([] : List Addr).map V.ref) := ⟨o1.sm.trans (s13.trans s4), s4 _ _ (s13 _ _ o1.at_), nS⟩
      have hlp : upd H3 lp (.lst (rs.map V.ref)) lp = some (.lst (rs.map V.ref)) := upd_same
      have R4 := R3.mono fun p y h => h.mono fun b zs e => s4 _ _ e
      have lpS : lp ≠ S := fun z => by
        have := s13 _ _ o1.at_
        rw [← z, np] at this
        cases this
      generalize upd H3 lp (.lst (rs.map V.ref)) = H4 at o4 hlp R4 ⊢
      have ndc : cs.Nodup := pm'.nodup_iff.mpr ndF
      have mc : ∀ c, c ∈ cs ↔ c ∈ F := fun c => pm'.mem_iff
      refine ⟨lp, rfl, ⟨_, SqL.of hlp⟩, ?_⟩
      refine for_list (K := K) (a := lp) (xs := rs.map V.ref) (fun j σ H' => ∃ (x2 x3 x4 : Option V) (us : List Addr) (Rl : List (List Nat)), σ = [some (.ref d), some (.ref S), x2, x3, x4] ∧ (∀ b v, b ≠ S → H4 b = some v → H' b = some v) ∧ Own H H' S (us.map V.ref) ∧ TupsAt H' us Rl ∧ KeptS F cs j Rl) ⟨none, none, none, [], [], rfl, fun b v _ e => e, o4, RefsAt.nil _ _, KeptS.zero _ _⟩ ?_ ?_ ?_
      · rintro j σ H' _ ⟨_, _, _, _, _, _, kp, _⟩
        exact SqL.of (kp _ _ lpS hlp)
      · rintro j x σ H5 hx ⟨x2, x3, x4, us, Rl, rfl, kp5, o5, U5, kl⟩
        obtain ⟨pr, cr, rfl, hcr, tr, hpr0, htr0⟩ := R4.at_ hx
        have hpr : H4 pr = some (.tup [.int (cr.length : Int), .ref tr]) := hpr0
        have htr : H4 tr = some (.tup (cr.map nV)) := htr0
        have hpr5 := kp5 _ _ (fun z => by rw [z, o4.at_] at hpr; cases hpr) hpr
        have htr5 := kp5 _ _ (fun z => by rw [z, o4.at_] at htr; cases htr) htr
        have tst := kl.test rise mc ndc len' hcr
        have RF : ∀ c ∈ Rl, c ∈ F := fun c hc => (mc c).mp (List.mem_of_mem_take ((kl.mem c).mp hc).1)
        have RlF : Rl.length ≤ F.length := List.Nodup.length_le_of_subset kl.nd RF
        refine ⟨pr, _, rfl, SqT.of hpr5, rfl, _, _, rfl, _, _, rfl, rfl, ?_⟩
        refine ⟨_, rfl, S, rfl, ⟨_, SqL.of o5.at_⟩, fun L nL => ?_⟩
        refine lc_list (K := K) (a := S) (xs := us.map V.ref) (fun i H' => ∃ (ws : List Addr) (ms : List (List Nat)), Own H5 H' L (ws.map V.ref) ∧ TupsAt H' ws ms ∧ ms.length ≤ i ∧ (ms = [] ↔ ∀ m ∈ Rl.take i, ¬ SubL m cr)) ⟨[], [], ⟨Same.new nL, upd_same, nL⟩, RefsAt.nil _ _, Nat.le_refl _, fun _ x hx => (by cases hx), fun _ => rfl⟩ (fun _ H' _ h => by obtain ⟨ws, ms, o', _⟩ := h; exact SqL.of (o'.sm _ _ o5.at_)) ?_ ?_
        · rintro i' v H16 hv ⟨ws, ms, o16, W16, ml, mw⟩
          have hi' : i' < Rl.length := by
            have := (List.getElem?_eq_some_iff.mp hv).1
            rwa [List.length_map, U5.1] at this
          obtain ⟨tm, cm, rfl, hcm, hat⟩ := U5.at_ hv
          have hat16 := o16.sm _ _ hat
          have tkm : Rl.take (i' + 1) = Rl.take i' ++ [cm] := by rw [List.take_add_one, hcm]; rfl
          have cm4 := (lF cm (RF cm (List.mem_of_getElem? hcm))).2.2
          refine ⟨rfl, _, rfl, _, rfl, tr, tm, cr, cm, rfl, o16.sm _ _ htr5, hat16, cm4, fun b H17 hb s17 => ⟨_, rfl, ite2 (fun h1 => ?_) (fun h1 => ?_)⟩⟩
          · have o17 : Own H5 H17 L (ws.map V.ref) := ⟨o16.sm.trans s17, s17 _ _ o16.at_, o16.nw⟩
            refine ⟨_, rfl, _, o17.at_, by rw [List.length_map, W16.1]; omega, ws ++ [tm], ms ++ [cm], ?_, ?_, ?_, ?_⟩
            · rw [List.map_append]
              exact o17.app
            · exact ((W16.mono fun b zs e => s17 _ _ e).push (y := cm) (s17 _ _ hat16)).mono fun b zs e => by
                rw [upd_ne (fun z => by rw [z, o17.at_] at e; cases e)]
                exact e
            · rw [List.length_append]
              show ms.length + 1 ≤ _
              omega
            · rw [tkm]
              exact ⟨fun z => (by cases ms <;> cases z), fun z => absurd (hb.mp h1) (z cm (List.mem_append.mpr (.inr List.mem_cons_self)))⟩
          · refine ⟨ws, ms, ⟨o16.sm.trans s17, s17 _ _ o16.at_, o16.nw⟩, W16.mono fun b zs e => s17 _ _ e, by omega, mw.trans ?_⟩
            rw [tkm]
            refine ⟨fun z m hm => ?_, fun z m hm => z m (List.mem_append.mpr (.inl hm))⟩
            rcases List.mem_append.mp hm with e | e
            · exact z m e
            · rw [List.mem_singleton.mp e]
              exact fun y => h1 (hb.mpr y)
        · rintro H16 ⟨ws, ms, o16, W16, ml, mw⟩
          rw [List.length_map, U5.1, List.take_length] at mw
          refine ⟨small 0, fun z nz => ?_⟩
          have s17 := Same.new (o := .lst []) nz
          refine ⟨.list (tupsD ms), .list [], .lst (SqL.of (s17 _ _ o16.at_)) (dpTups (W16.mono fun b zs e => s17 _ _ e)), .lst (SqL.of upd_same) .nil, shaped_lst (tupsD_can ms).1 (tupsD_can ms).2 (by decide), by decide, _, rfl, ?_⟩
          have ee : (PyData.eqv (.list (tupsD ms)) (.list [])) = decide (ms.length = 0) := by
            show (PyData.eqvAll _ []) = _
            unfold tupsD
            rw [eqvAllN, List.length_map]
          rw [ee]
          have s57 : Same H5 (upd H16 z (.lst [])) := o16.sm.trans s17
          generalize upd H16 z (.lst []) = H17 at s57 ⊢
          have o17 : Own H H17 S (us.map V.ref) := ⟨o5.sm.trans s57, s57 _ _ o5.at_, nS⟩
          have U17 := U5.mono fun b zs e => s57 _ _ e
          have kp17 : ∀ b v, b ≠ S → H4 b = some v → H17 b = some v := fun b v hb e => s57 _ _ (kp5 b v hb e)
          refine ite2 (fun h1 => ?_) (fun h1 => ?_)
          · have hm : Minl F cr := tst.mp (mw.mp (List.length_eq_zero_iff.mp (of_decide_eq_true h1)))
            refine ⟨_, rfl, .inl ⟨rfl, _, SqL.of o17.at_⟩, _, rfl, S, _, _, rfl, rfl, o17.at_, by rw [List.length_map, U17.1]; omega, ?_⟩
            refine ⟨_, _, _, us ++ [tr], Rl ++ [cr], rfl, fun b v hb e => by rw [upd_ne hb]; exact kp17 b v hb e, by rw [List.map_append]; exact o17.app, ?_, kl.yes ndc hcr hm⟩
            exact (U17.push (y := cr) (s57 _ _ htr5)).mono fun b zs e => by
              rw [upd_ne (fun z => by rw [z, o17.at_] at e; cases e)]
              exact e
          · have hm : ¬ Minl F cr := fun z => h1 (decide_eq_true (List.length_eq_zero_iff.mpr (mw.mpr (tst.mpr z))))
            exact ⟨_, _, _, us, Rl, rfl, kp17, o17, U17, kl.no hcr hm⟩
      · rintro σ H5 ⟨x2, x3, x4, us, Rl, rfl, kp5, o5, U5, kl⟩
        rw [List.length_map, R4.1] at kl
        have hR : ∀ c, c ∈ Rl ↔ (c ∈ F ∧ Minl F c) := fun c => by
          rw [kl.mem, List.take_length, mc]
        refine ⟨_, rfl, S, us.map V.ref, fun x => (tupN H5 x).map (fun n : Nat => (n : Int)), rfl, SqL.of o5.at_, fun x hx => ?_, fun ys lp2 srt pm2 np => ?_⟩
        · obtain ⟨t, c', rfl, hc, ht⟩ := U5.all hx
          dsimp only
          rw [tupN_at ht]
          refine ⟨⟨t, rfl, by rw [mapV]; exact ht⟩, fun z => ?_⟩
          have z' := List.map_eq_nil_iff.mp z
          rw [z'] at hc
          have := (lF [] ((hR _).mp hc).1).2.1
          cases this
        · obtain ⟨rs', ls, rfl, hR9, pd, sd⟩ := tups_sorted U5 srt pm2
          have sP := Same.new (o := .lst (rs'.map V.ref)) np
          exact q lp2 _ rs' ls (o5.sm.trans sP) (Same.was o5.sm np) upd_same (hR9.mono fun b zs e => sP _ _ e) (pd.nodup_iff.mpr kl.nd) (fun c => by rw [pd.mem_iff, hR]) sd
end
end K52
set_option Elab.async false
set_option linter.all false
set_option maxRecDepth 100000
set_option maxHeartbeats 4000000
namespace K52
open PySem PySem.Spec PyProof.Rows L2 GX
open C8 (Cal pe_c pe_gc Met Mak)
-- @exc CoverError
-- @exc NoText
-- @exc NoDepth init=least
-- @exc TooMany made
-- @exc NoMatch
-- @exc NoChange
-- @exc NoRow
-- @sub NoDepth NoDepth true
-- @sub NoDepth CoverError true
-- @sub NoDepth ValueError true
-- @sub NoDepth NoChange false
-- @sub NoDepth NoMatch false
-- @sub NoDepth NoRow false
-- @sub NoDepth NoText false
-- @sub NoDepth TooMany false
-- @sub TooMany TooMany true
-- @sub TooMany CoverError true
-- @sub TooMany ValueError true
-- @sub TooMany NoChange false
-- @sub TooMany NoMatch false
-- @sub TooMany NoRow false
-- @sub TooMany NoText false
-- @sub TooMany NoDepth false
section
variable {P : Program} {w : World} {K : PySem.W.Frag} {mg : Str → Option Value} {base : Heap} {Ts : List Addr}
/-- the cuts of a wire, as a list of tuples, no part of S -/
def KTolL (S : Addr) (n : Net) (k : Nat) (H : Hp) (q : Addr) (x : Nat) : Prop := q ≠ S ∧ ∃ (rs : List Addr) (cs : List (List Nat)), H q = some (.lst (rs.map V.ref)) ∧ TupsAt H rs cs ∧ CutsAre n k x cs ∧ cs.length < 2 ^ 23
theorem KTolL.mono {S : Addr} {n : Net} {k : Nat} {H H' : Hp} {q : Addr} {x : Nat} (h : KTolL S n k H q x) (m : ∀ b v, b ≠ S → H b = some v → (∀ kvs, v ≠ .dT kvs) → H' b = some v) (hS : ∀ xs, H S ≠ some (.tup xs)) : KTolL S n k H' q x := by
  obtain ⟨ne, rs, cs, h1, h2, h3⟩ := h
  exact ⟨ne, rs, cs, m _ _ ne h1 (fun _ z => by cases z), h2.mono fun b xs e => m _ _ (fun z => hS xs (by rw [← z]; exact e)) e (fun _ z => by cases z), h3⟩
def spCutsD : Sp := fun vs H Q _ => ∃ (a : Addr) (n : Net) (g o : Addr) (ps : List Addr) (k : Nat), vs = [.ref a, nV k] ∧ NetAt H a n g o ps ∧ n.Ok ∧ 2 ≤ k ∧ k ≤ 4 ∧
  ∀ r H' (qs : List Addr), Same H H' → H r = none → H' r = some (.lst (qs.map V.ref)) → PtsAt (KTolL r n k) H' qs (List.range (n.many + n.gates.length)) → Q (.ref r) H'
theorem ok_cutsD {f c : Addr} (D : Dfn K mg "_law_cuts" s__law_cuts f c) (T : Txt mg) (c__law_least : Cal P w K mg base 2 "_law_least" spLeastD []) : Cal P w K mg base 3 "_law_cuts" spCutsD [] := by
  refine cal D (fun _ _ _ _ _ _ us hl => match us, hl with | [_, _], _ => rfl) sc__law_cuts (fun vs H Q E h => ?_) (fun A outer s H vs Q E hr h => ?_)
  · obtain ⟨a, n, g, o, ps, k, rfl, _⟩ := h
    rfl
  · obtain ⟨a, n, g, o, ps, k, rfl, N, ok, hk2, hk4, q⟩ := h
    have m8 := ok.m8
    have m1 := ok.m1
    have g16 := ok.g16
    refine ⟨_, (pss_cons (ps_setLc (i := 2) (own := [("_law_wire", 3)]) (g := gName 3) (tt := tYes) rfl sc__law_cuts.nd rfl rfl (sw_true rfl rfl rfl (by decide +kernel)) (pi_range1 (by rfl) T.b_range (pa_cons (pe_ix ix_tup (pv 0) pe_int (fun _ _ => rfl)) pa_nil)) (blkOk_by (own := [("_law_wire", 3)]) (N := ["_law_net_here", "_law_k", "_law_cuts_here", "_law_wire", "_law_kind", "_law_one", "_law_other", "_law_some", "_law_first", "_law_second", "_law_cut"]) (sc := defScope s__law_cuts) (by decide +kernel)) (fun _ _ _ _ _ => (pg_name (i := 3) sc__law_cuts.nd rfl (by first | exact Or.inl rfl | exact Or.inr rfl))) (fun _ _ _ _ _ => pts_nil) (fun _ _ _ _ _ => (pe_lst pa_nil)))
      (pss_cons (ps_for PassesOwn.never rfl (pi_tup (pe_ix ix_tup (pv 0) pe_int (fun _ _ => rfl))) (pg_tup rfl (pgs_cons (pg_name (i := 4) sc__law_cuts.nd rfl (by first | exact Or.inl rfl | exact Or.inr rfl)) (pgs_cons (pg_name (i := 5) sc__law_cuts.nd rfl (by first | exact Or.inl rfl | exact Or.inr rfl)) (pgs_cons (pg_name (i := 6) sc__law_cuts.nd rfl (by first | exact Or.inl rfl | exact Or.inr rfl)) pgs_nil))))
        (pss_cons (ps_set (i := 7) sc__law_cuts.nd rfl (by first | exact Or.inl rfl | exact Or.inr rfl) pe_dnewT)
      (pss_cons (ps_for PassesOwn.never rfl (pi_list (pe_op op_cat (pe_ix ix_list (pv 2) (pv 5) (fun _ _ => rfl)) (pe_lst (pa_cons (pe_tup (pa_cons (pv 5) pa_nil)) pa_nil)))) (pg_name (i := 8) sc__law_cuts.nd rfl (by first | exact Or.inl rfl | exact Or.inr rfl))
        (pss_one (ps_for PassesOwn.never rfl (pi_list (pe_op op_cat (pe_ix ix_list (pv 2) (pv 6) (fun _ _ => rfl)) (pe_lst (pa_cons (pe_tup (pa_cons (pv 6) pa_nil)) pa_nil)))) (pg_name (i := 9) sc__law_cuts.nd rfl (by first | exact Or.inl rfl | exact Or.inr rfl))
        (pss_cons (ps_set (i := 10) sc__law_cuts.nd rfl (by first | exact Or.inl rfl | exact Or.inr rfl) (pe_callTy call_tuple_of (by rfl) T.b_tuple (by decide +kernel) (pa_cons (pe_callB (cr_sortedSet rfl) (by rfl) T.b_sorted (by decide +kernel) (pa_cons (pe_callTy (cr_setN rfl) (by rfl) T.b_set (by decide +kernel) (pa_cons (pe_op op_catA (pv 8) (pv 9)) pa_nil)) pa_nil)) pa_nil)))
      (pss_one (ps_if (pt_cmpR op_le (pe_callB call_len_seq (by rfl) T.b_len (by decide +kernel) (pa_cons (pv 10) pa_nil)) (pv 1) (nomark _)) (pss_one (ps_dput (Nat.lt_of_le_of_lt (Nat.add_le_add_left (by decide) _) hr.units) (pv 7) (pv 10) pe_bl (by rfl))) pss_nil))))))
      (pss_one (ps_expr (pe_bm PySem.F.plainAttrs_list PySem.F.slot_list_append PySem.F.type_list_append mt_append (pv 2) (pa_cons (pe_c c__law_least hr (by decide) (by rfl) (pa_cons (pv 7) pa_nil)) pa_nil)))))))
      (pss_one (ps_ret (pv 2))))), ?_⟩
    refine ⟨_, rfl, a, _, 0, _, rfl, rfl, SqT.of N.top, at0, _, rfl, by omega, by omega, fun S nS => ?_⟩
    refine lc_range (lo := 0) (n := ((n.many : Nat) : Int).toNat) (fun i H' => ∃ qs : List Addr, Own H H' S (qs.map V.ref) ∧ i ≤ n.many ∧ PtsAt (KTolL S n k) H' qs (List.range i)) ⟨[], ⟨Same.new nS, upd_same, nS⟩, Nat.zero_le _, PtsAt.nil _ _⟩ ?_ ?_
    · rintro i H1 hi ⟨qs, o1, im, K1⟩
      rw [Int.toNat_natCast] at hi
      refine ⟨rfl, ?_⟩
      unfold tYes
      refine iteT ?_
      refine ⟨small 0, fun e ne => ?_⟩
      have s2 := Same.new (o := .lst []) ne
      have he2 : upd H1 e (.lst []) e = some (.lst []) := upd_same
      have eS : e ≠ S := fun z => by rw [z, o1.at_] at ne; cases ne
      generalize upd H1 e (.lst []) = H2 at s2 he2 ⊢
      have o2 : Own H H2 S (qs.map V.ref) := ⟨o1.sm.trans s2, s2 _ _ o1.at_, nS⟩
      refine ⟨_, o2.at_, by rw [List.length_map, K1.1, List.length_range]; exact small256 (by omega), qs ++ [e], by rw [List.map_append]; exact o2.app, hi, ?_⟩
      rw [List.range_succ]
      have up : ∀ b v, b ≠ S → H2 b = some v → (∀ kvs, v ≠ .dT kvs) → upd H2 S (.lst (qs.map V.ref ++ [V.ref e])) b = some v := fun b v hb e _ => by rw [upd_ne hb]; exact e
      have nt : ∀ xs, H2 S ≠ some (.tup xs) := fun xs z => by rw [o2.at_] at z; cases z
      refine (K1.mono fun p y h => (h.mono (fun b v _ e _ => s2 _ _ e) fun xs z => by rw [o1.at_] at z; cases z).mono up nt).push ?_
      exact KTolL.mono (H := H2) ⟨eS, [], [], he2, RefsAt.nil _ _, cuts_input hi, by decide⟩ up nt
    rintro H1 ⟨qs, o1, _, K1⟩
    rw [Int.toNat_natCast] at K1
    have N1 := N.same o1.sm
    refine ⟨_, rfl, a, _, 1, _, rfl, rfl, SqT.of N1.top, at1, g, rfl, ⟨_, SqT.of N1.gt⟩, ?_⟩
    refine for_tup (K := K) (a := g) (xs := ps.map V.ref) (fun i σ H' => ∃ (x3 x4 x5 x6 x7 x8 x9 x10 : Option V) (qs : List Addr), σ = [some (.ref a), some (nV k), some (.ref S), x3, x4, x5, x6, x7, x8, x9, x10] ∧ Own H H' S (qs.map V.ref) ∧ PtsAt (KTolL S n k) H' qs (List.range (n.many + i))) ⟨none, none, none, none, none, none, none, none, qs, rfl, o1, K1⟩ ?_ ?_ ?_
    · rintro i σ H' _ ⟨_, _, _, _, _, _, _, _, _, _, o', _⟩
      exact SqT.of (o'.sm _ _ N.gt)
    · rintro i x σ H2 hx ⟨x3, x4, x5, x6, x7, x8, x9, x10, qs, rfl, o2, K2⟩
      have N2 := N.same o2.sm
      have hi : i < n.gates.length := by
        have := (List.getElem?_eq_some_iff.mp hx).1
        rwa [List.length_map, N.gs.1] at this
      have hil : i < ps.length := by rw [N.gs.1]; exact hi
      rw [List.getElem?_map, List.getElem?_eq_getElem hil] at hx
      cases hx
      have hpg := N2.gs.2 i _ _ (List.getElem?_eq_getElem hil) (List.getElem?_eq_getElem hi)
      have hkk : n.gates[n.many + i - n.many]? = some n.gates[i] := by rw [Nat.add_sub_cancel_left]; exact List.getElem?_eq_getElem hi
      generalize n.gates[i] = kk at hpg hkk
      generalize ps[i] = pg at hpg
      have hm : n.many ≤ n.many + i := Nat.le_add_right _ _
      have hgt : n.many + i < n.many + n.gates.length := by omega
      have l1 := place_lt ok hm hkk (.inl rfl)
      have l2 := place_lt ok hm hkk (.inr rfl)
      refine ⟨pg, _, rfl, SqT.of hpg, rfl, _, _, rfl, _, _, rfl, _, _, rfl, rfl, ?_⟩
      refine fun d nd => ?_
      have s3 := Same.new (o := .dT []) nd
      have hd3 : upd H2 d (.dT []) d = some (.dT (kvT [])) := upd_same
      have d2 : H2 d = none := nd
      generalize upd H2 d (.dT []) = H3 at s3 hd3 ⊢
      have o3 : Own H H3 S (qs.map V.ref) := ⟨o2.sm.trans s3, s3 _ _ o2.at_, nS⟩
      have K3 : PtsAt (KTolL S n k) H3 qs (List.range (n.many + i)) := K2.mono fun p y h => h.mono (fun b v _ e _ => s3 _ _ e) fun xs z => by rw [o2.at_] at z; cases z
      have ql : qs.length = n.many + i := by rw [K3.1, List.length_range]
      obtain ⟨q1, eq1, q1S, rs1, cs1, hq1, T1, C1, b1⟩ := K3.get (i := kk.2.1) (y := kk.2.1) (by rw [List.getElem?_range l1])
      obtain ⟨q2, eq2, q2S, rs2, cs2, hq2, T2, C2, b2⟩ := K3.get (i := kk.2.2) (y := kk.2.2) (by rw [List.getElem?_range l2])
      refine ⟨_, rfl, _, rfl, S, _, _, _, rfl, rfl, SqL.of o3.at_, atI_nat eq1, _, rfl, small 1, fun t7 nt7 => ⟨small 1, fun l7 nl7 => ?_⟩⟩
      have s7 := (Same.new (o := .tup [nV kk.2.1]) nt7).trans (Same.new (o := .lst [.ref t7]) nl7)
      have ht7 : upd (upd H3 t7 (.tup [nV kk.2.1])) l7 (.lst [.ref t7]) t7 = some (.tup ([kk.2.1].map nV)) := Same.new nl7 _ _ upd_same
      have hl7 : upd (upd H3 t7 (.tup [nV kk.2.1])) l7 (.lst [.ref t7]) l7 = some (.lst [.ref t7]) := upd_same
      generalize upd (upd H3 t7 (.tup [nV kk.2.1])) l7 (.lst [.ref t7]) = H7 at s7 ht7 hl7 ⊢
      refine ⟨q1, l7, _, _, rfl, rfl, s7 _ _ hq1, hl7, by rw [List.length_map, T1.1]; show cs1.length + 1 ≤ sizeLine; exact Nat.le_trans (by omega : cs1.length + 1 ≤ 2 ^ 23) (by decide), fun R2 nR2 => ?_⟩
      have s9 := s7.trans (Same.new (o := .lst (rs1.map V.ref ++ [V.ref t7])) nR2)
      have hR9 : upd H7 R2 (.lst (rs1.map V.ref ++ [V.ref t7])) R2 = some (.lst ((rs1 ++ [t7]).map V.ref)) := by rw [upd_same, List.map_append]; rfl
      have TF9 : TupsAt (upd H7 R2 (.lst (rs1.map V.ref ++ [V.ref t7]))) (rs1 ++ [t7]) (cs1 ++ [[kk.2.1]]) := (T1.mono fun b zs e => s9 _ _ e).push (Same.new nR2 _ _ ht7)
      generalize upd H7 R2 (.lst (rs1.map V.ref ++ [V.ref t7])) = H9 at hR9 s9 TF9 ⊢
      have hd9 := s9 _ _ hd3
      have hS9 := s9 _ _ o3.at_
      generalize hfs : cs1 ++ [[kk.2.1]] = fs at TF9
      have fsok : ∀ c ∈ fs, c.Pairwise (· < ·) ∧ (∀ x ∈ c, x < 23) ∧ c.length ≤ 4 ∧ 0 < c.length := fun c hc => by
        rw [← hfs] at hc
        rcases List.mem_append.mp hc with e | e
        · have lc := (C1.mem c).mp e
          refine ⟨lc.rise, fun x hx => by have := lc.lt x hx; omega, Nat.le_trans lc.len hk4, Nat.pos_of_ne_zero fun z => ?_⟩
          have hs := lc.sep
          rw [List.length_eq_zero_iff.mp z] at hs
          exact sep_none ok _ _ (Nat.le_refl _) (by omega) hs
        · rw [List.mem_singleton.mp e]
          exact ⟨List.pairwise_singleton _ _, fun x hx => by rw [List.mem_singleton.mp hx]; omega, by show 1 ≤ 4; decide, by show 0 < 1; decide⟩
      have full : ∀ {x : Nat} {cs : List (List Nat)}, x < n.many + i → CutsAre n k x cs → ∀ M, M ∈ (cs ++ [[x]]).map maskOf ↔ (MinT n x M ∧ pop M ≤ k) := fun {x cs} hx C M => by
        rw [← cuts_full ok (k := k) (by omega) (by omega) C M, List.map_append, List.mem_append]
        show (_ ∨ M ∈ [maskOf [x]]) ↔ M ∈ maskOf [x] :: cs.map maskOf
        rw [List.mem_singleton, List.mem_cons]
        exact or_comm
      have fm := full l1 C1
      rw [hfs] at fm
      have sm := full l2 C2
      -- all but the dict stays
      have keepd : ∀ {Hx Ha : Hp} {u : HO}, (∀ b v, b ≠ d → Hx b = some v → Ha b = some v) → ∀ b v, b ≠ d → Hx b = some v → upd Ha d u b = some v := fun hh b v hb e => by rw [upd_ne hb]; exact hh b v hb e
      have nod : ∀ {b : Addr} {o : HO}, H9 b = some o → (∀ kvs, o ≠ .dT kvs) → b ≠ d := fun {b o} e ho z => by
        rw [z, hd9] at e
        cases e
        exact ho _ rfl
      have dF : ∀ (F : List (List Nat)), (F.map maskOf).Nodup → (∀ c ∈ F, c.Pairwise (· < ·) ∧ (∀ x ∈ c, x < 23) ∧ 0 < c.length ∧ c.length ≤ k) → F.length < sizeLine := fun F nF hF => by
        have := nodup_lt23 nF fun M hM => by
          obtain ⟨c, hc, rfl⟩ := List.mem_map.mp hM
          exact mask_lt (hF c hc).2.1
        rwa [List.length_map] at this
      refine ⟨R2, rfl, ⟨_, SqL.of hR9⟩, ?_⟩
      refine for_list (K := K) (a := R2) (xs := (rs1 ++ [t7]).map V.ref) (fun i σ H' => ∃ (x8 x9 x10 : Option V) (F : List (List Nat)), σ = [some (.ref a), some (nV k), some (.ref S), x3, some (nV kk.1), some (nV kk.2.1), some (nV kk.2.2), some (.ref d), x8, x9, x10] ∧ (∀ b v, b ≠ d → H9 b = some v → H' b = some v) ∧ H' d = some (.dT (kvT F)) ∧ (F.map maskOf).Nodup ∧ (∀ c ∈ F, c.Pairwise (· < ·) ∧ (∀ x ∈ c, x < 23) ∧ 0 < c.length ∧ c.length ≤ k) ∧ FoundW k (fs.map maskOf) ((cs2 ++ [[kk.2.2]]).map maskOf) i 0 (F.map maskOf)) ⟨x8, x9, x10, [], rfl, fun b v _ e => e, hd9, List.nodup_nil, fun c hc => (by cases hc), FoundW.zero _ _ _⟩ ?_ ?_ ?_
      · rintro i σ H' _ ⟨_, _, _, _, _, kp, _⟩
        exact SqL.of (kp _ _ (nod hR9 fun _ z => (by cases z)) hR9)
      · rintro i x σ H10 hx ⟨x8, x9, x10, F, rfl, kp10, hd10, nF, lF, fw⟩
        obtain ⟨tf, cf, rfl, hcf, htf⟩ := TF9.at_ hx
        have hi : i < fs.length := (List.getElem?_eq_some_iff.mp hcf).1
        have ecf : (fs.map maskOf).getD i 0 = maskOf cf := by rw [List.getD_eq_getElem?_getD, List.getElem?_map, hcf]; rfl
        obtain ⟨cf1, cf2, cf3, cf4⟩ := fsok cf (List.mem_of_getElem? hcf)
        have htf10 := kp10 _ _ (nod htf fun _ z => (by cases z)) htf
        have hS10 := kp10 _ _ (nod hS9 fun _ z => (by cases z)) hS9
        have hq210 := kp10 _ _ (nod (s9 _ _ hq2) fun _ z => (by cases z)) (s9 _ _ hq2)
        have T210 := T2.mono fun b zs e => kp10 _ _ (nod (s9 _ _ e) fun _ z => (by cases z)) (s9 _ _ e)
        -- the cuts of the other place
        refine ⟨_, rfl, _, rfl, S, _, _, _, rfl, rfl, SqL.of hS10, atI_nat eq2, _, rfl, small 1, fun t8 nt8 => ⟨small 1, fun l8 nl8 => ?_⟩⟩
        have s11 := (Same.new (o := .tup [nV kk.2.2]) nt8).trans (Same.new (o := .lst [.ref t8]) nl8)
        have ht8 : upd (upd H10 t8 (.tup [nV kk.2.2])) l8 (.lst [.ref t8]) t8 = some (.tup ([kk.2.2].map nV)) := Same.new nl8 _ _ upd_same
        have hl8 : upd (upd H10 t8 (.tup [nV kk.2.2])) l8 (.lst [.ref t8]) l8 = some (.lst [.ref t8]) := upd_same
        generalize upd (upd H10 t8 (.tup [nV kk.2.2])) l8 (.lst [.ref t8]) = H11 at s11 ht8 hl8 ⊢
        refine ⟨q2, l8, _, _, rfl, rfl, s11 _ _ hq210, hl8, by rw [List.length_map, T2.1]; show cs2.length + 1 ≤ sizeLine; exact Nat.le_trans (by omega : cs2.length + 1 ≤ 2 ^ 23) (by decide), fun R nR => ?_⟩
        have s12 := s11.trans (Same.new (o := .lst (rs2.map V.ref ++ [V.ref t8])) nR)
        have hR12 : upd H11 R (.lst (rs2.map V.ref ++ [V.ref t8])) R = some (.lst ((rs2 ++ [t8]).map V.ref)) := by rw [upd_same, List.map_append]; rfl
        have TS12 : TupsAt (upd H11 R (.lst (rs2.map V.ref ++ [V.ref t8]))) (rs2 ++ [t8]) (cs2 ++ [[kk.2.2]]) := (T210.mono fun b zs e => s12 _ _ e).push (Same.new nR _ _ ht8)
        generalize upd H11 R (.lst (rs2.map V.ref ++ [V.ref t8])) = H12 at hR12 s12 TS12 ⊢
        have hd12 := s12 _ _ hd10
        have htf12 := s12 _ _ htf10
        have kp12 : ∀ b v, b ≠ d → H9 b = some v → H12 b = some v := fun b v hb e => s12 _ _ (kp10 b v hb e)
        have ssok : ∀ c ∈ cs2 ++ [[kk.2.2]], c.Pairwise (· < ·) ∧ (∀ x ∈ c, x < 23) ∧ c.length ≤ 4 := fun c hc => by
          rcases List.mem_append.mp hc with e | e
          · have lc := (C2.mem c).mp e
            exact ⟨lc.rise, fun x hx => by have := lc.lt x hx; omega, Nat.le_trans lc.len hk4⟩
          · rw [List.mem_singleton.mp e]
            exact ⟨List.pairwise_singleton _ _, fun x hx => by rw [List.mem_singleton.mp hx]; omega, by show 1 ≤ 4; decide⟩
        generalize cs2 ++ [[kk.2.2]] = ss at TS12 ssok fw ⊢
        have nod2 : ∀ {b : Addr} {o : HO}, H12 b = some o → (∀ kvs, o ≠ .dT kvs) → b ≠ d := fun {b o} e ho z => by
          rw [z, hd12] at e
          cases e
          exact ho _ rfl
        have hDK : ∀ {Ha Hb : Hp}, (∀ b v, b ≠ d → H12 b = some v → Ha b = some v) → Same Ha Hb → ∀ b v, b ≠ d → H12 b = some v → Hb b = some v := fun hh ss b v hb e => ss _ _ (hh b v hb e)
        refine ⟨R, rfl, ⟨_, SqL.of hR12⟩, ?_⟩
        refine for_list (K := K) (a := R) (xs := (rs2 ++ [t8]).map V.ref) (fun j σ H' => ∃ (x9 x10 : Option V) (F : List (List Nat)), σ = [some (.ref a), some (nV k), some (.ref S), x3, some (nV kk.1), some (nV kk.2.1), some (nV kk.2.2), some (.ref d), some (.ref tf), x9, x10] ∧ (∀ b v, b ≠ d → H12 b = some v → H' b = some v) ∧ H' d = some (.dT (kvT F)) ∧ (F.map maskOf).Nodup ∧ (∀ c ∈ F, c.Pairwise (· < ·) ∧ (∀ x ∈ c, x < 23) ∧ 0 < c.length ∧ c.length ≤ k) ∧ FoundW k (fs.map maskOf) (ss.map maskOf) i j (F.map maskOf)) ⟨_, _, F, rfl, fun b v _ e => e, hd12, nF, lF, fw⟩ ?_ ?_ ?_
        · rintro j σ H' _ ⟨_, _, _, _, kp, _⟩
          exact SqL.of (kp _ _ (nod2 hR12 fun _ z => (by cases z)) hR12)
        · rintro j x σ H11 hx ⟨x9, x10, F, rfl, kp11, hd11, nF, lF, fw⟩
          obtain ⟨ts, cs, rfl, hcs, hts⟩ := TS12.at_ hx
          have hj : j < (ss.map maskOf).length := by rw [List.length_map]; exact (List.getElem?_eq_some_iff.mp hcs).1
          have ecs : (ss.map maskOf).getD j 0 = maskOf cs := by rw [List.getD_eq_getElem?_getD, List.getElem?_map, hcs]; rfl
          obtain ⟨cs1', cs2', cs3'⟩ := ssok cs (List.mem_of_getElem? hcs)
          have htf11 := kp11 _ _ (nod2 htf12 fun _ z => (by cases z)) htf12
          have hts11 := kp11 _ _ (nod2 hts fun _ z => (by cases z)) hts
          refine ⟨_, rfl, _, rfl, ?_⟩
          refine catA_any rfl rfl htf11 hts11 (by rw [List.length_map, List.length_map]; exact Nat.le_of_lt (small256 (by omega))) fun p1 H12 s12 h12 => ?_
          rw [← List.map_append] at h12
          refine ⟨p1, cf ++ cs, rfl, .inr (SqT.of h12), by rw [List.length_append]; omega, fun sq c nsq hc => ?_⟩
          rw [List.length_append] at hc
          have s13 := Same.new (o := SetO w sq (fun j => decide (j ∈ (cf ++ cs).map fun n : Nat => (n : Int))) c) nsq
          refine ⟨sq, _, c, rfl, upd_same, by omega, fun out l pw hmm hll nl => ?_⟩
          obtain ⟨ys, rfl, yr, ym⟩ := sorted_set_nat pw hmm
          rw [mapV]
          have s14 := Same.new (o := .lst (ys.map nV)) nl
          refine ⟨l, _, rfl, .inl ⟨SqL.of upd_same, fun tp ntp => ?_⟩⟩
          have s15 := Same.new (o := .tup (ys.map nV)) ntp
          have s0 := ((s12.trans s13).trans s14).trans s15
          have hd15 := s0 _ _ hd11
          have kp15 := hDK kp11 s0
          have mu := mask_union ym
          have mp := mask_pop yr
          have y23 : ∀ x ∈ ys, x < 23 := fun x hx => (List.mem_append.mp ((ym x).mp hx)).elim (cf2 x) (cs2' x)
          have y0 : 0 < ys.length := by
            obtain ⟨x, hx⟩ := List.exists_mem_of_length_pos cf4
            exact List.length_pos_of_mem ((ym x).mpr (List.mem_append.mpr (.inl hx)))
          refine ⟨_, rfl, tp, _, rfl, .inr (SqT.of upd_same), _, rfl, _, _, rfl, rfl, _, rfl, ite2 (fun hp => ?_) (fun hp => ?_)⟩
          · have hp' : ys.length ≤ k := by
              have := of_decide_eq_true hp
              rw [List.length_map] at this
              omega
            have hpm : pop ((fs.map maskOf).getD i 0 ||| (ss.map maskOf).getD j 0) ≤ k := by rw [ecf, ecs, ← mu, mp]; exact hp'
            refine ⟨_, rfl, _, rfl, d, _, rfl, DPut.t (k := ys.map nK) hd15 (by rw [mapKV]; exact upd_same) (by rw [kvT_len]; exact dF F nF lF), ?_⟩
            by_cases e : ys ∈ F
            · rw [kvT_again e]
              exact ⟨_, _, F, rfl, keepd kp15, upd_same, nF, lF, fw.yes hj hpm fun M' => by
                rw [ecf, ecs, ← mu]
                exact ⟨.inl, fun z => z.elim id fun z => by rw [z]; exact List.mem_map.mpr ⟨ys, e, rfl⟩⟩⟩
            · rw [kvT_put e]
              refine ⟨_, _, F ++ [ys], rfl, keepd kp15, upd_same, ?_, fun c hc => ?_, fw.yes hj hpm fun M' => by rw [ecf, ecs, ← mu, List.map_append, List.mem_append]; exact or_congr_right List.mem_singleton⟩
              · rw [List.map_append]
                refine nodup_snoc nF fun z => ?_
                obtain ⟨c, hc, ec⟩ := List.mem_map.mp z
                exact e (by rw [← mask_inj (lF c hc).1 yr ec]; exact hc)
              · rcases List.mem_append.mp hc with h | h
                · exact lF c h
                · rw [List.mem_singleton.mp h]
                  exact ⟨yr, y23, y0, hp'⟩
          · refine ⟨_, _, F, rfl, kp15, hd15, nF, lF, fw.no hj fun z => hp (decide_eq_true ?_)⟩
            rw [ecf, ecs, ← mu, mp] at z
            rw [List.length_map]
            omega
        · rintro σ H13 ⟨x9, x10, F, rfl, kp13, hd13, nF, lF, fw⟩
          rw [List.length_map, TS12.1, ← List.length_map (f := maskOf)] at fw
          exact ⟨_, _, _, F, rfl, fun b v hb e => kp13 b v hb (kp12 b v hb e), hd13, nF, lF, fw.row (by rw [List.length_map]; exact hi)⟩
      · rintro σ H10 ⟨x8, x9, x10, F, rfl, kp10, hd10, nF, lF, fw⟩
        rw [List.length_map, TF9.1, ← List.length_map (f := maskOf)] at fw
        have mlF : ML n k (n.many + i) ((F.map maskOf).filter fun M => !hasPart (F.map maskOf) M) := gate_found ok hm hgt hkk fm sm fw.all
        have ndF : F.Nodup := by
          rw [List.nodup_iff_pairwise_ne] at nF ⊢
          rw [List.pairwise_map] at nF
          exact nF.imp fun h e => h (by rw [e])
        have s210 : Same H2 H10 := fun b v e => kp10 b v (fun z => by rw [z, d2] at e; cases e) (s9 _ _ (s3 _ _ e))
        have hS10 := s210 _ _ o2.at_
        refine ⟨_, rfl, .inl ⟨rfl, _, SqL.of hS10⟩, _, rfl, d, F, rfl, hd10, ndF, fun c hc => ⟨(lF c hc).1, (lF c hc).2.2.1, by have := (lF c hc).2.2.2; omega⟩, dF F nF lF, fun r H11 rs ls s11 r0 hr11 TR ndl meml srt => ?_⟩
        have s211 := s210.trans s11
        have hS11 := s11 _ _ hS10
        refine ⟨S, _, _, rfl, rfl, hS11, by rw [List.length_map, ql]; exact small256 (by omega), ?_⟩
        have o11 : Own H H11 S (qs.map V.ref) := ⟨o2.sm.trans s211, hS11, nS⟩
        refine ⟨_, _, _, _, _, _, _, _, qs ++ [r], rfl, by rw [List.map_append]; exact o11.app, ?_⟩
        have rS : r ≠ S := fun z => by rw [z, hS10] at r0; cases r0
        have up : ∀ b v, b ≠ S → H11 b = some v → (∀ kvs, v ≠ .dT kvs) → upd H11 S (.lst (qs.map V.ref ++ [V.ref r])) b = some v := fun b v hb e _ => by rw [upd_ne hb]; exact e
        have nt : ∀ xs, H11 S ≠ some (.tup xs) := fun xs z => by rw [hS11] at z; cases z
        rw [← Nat.add_assoc, List.range_succ]
        refine (K2.mono fun p y h => (h.mono (fun b v _ e _ => s211 _ _ e) fun xs z => by rw [o2.at_] at z; cases z).mono up nt).push ?_
        have rise : ∀ c ∈ F, c.Pairwise (· < ·) := fun c hc => (lF c hc).1
        have ml : ML n k (n.many + i) (ls.map maskOf) := fun M => (kept_masks rise (fun c hc => (lF c hc).2.2.1) meml M).trans (mlF M)
        have ndm : (ls.map maskOf).Nodup := by
          rw [List.nodup_iff_pairwise_ne, List.pairwise_map]
          exact List.Pairwise.imp_of_mem (fun {x y} hx hy h e => h (mask_inj (rise x ((meml x).mp hx).1) (rise y ((meml y).mp hy).1) e)) (List.nodup_iff_pairwise_ne.mp ndl)
        have lsF : ls.length ≤ F.length := List.Nodup.length_le_of_subset ndl fun c hc => ((meml c).mp hc).1
        refine KTolL.mono (H := H11) ⟨rS, rs, ls, hr11, TR, cuts_of_masks ok ml ndm ?_ srt, ?_⟩ up nt
        · rw [List.map_map]
          have : ls.map (bitsOf ∘ maskOf) = ls := by
            conv => rhs; rw [← List.map_id ls]
            exact List.map_congr_left fun c hc => bits_mask (rise c ((meml c).mp hc).1)
          rw [this]
        · refine Nat.lt_of_le_of_lt lsF ?_
          have nd0 : (0 :: F.map maskOf).Nodup := List.nodup_cons.mpr ⟨fun z => by
            obtain ⟨c, hc, e⟩ := List.mem_map.mp z
            have := mask_pos (lF c hc).2.2.1
            omega, nF⟩
          have := nd0.length_le_of_subset (l₂ := List.range (2 ^ 23)) fun x hx => List.mem_range.mpr (by
            rcases List.mem_cons.mp hx with e | e
            · rw [e]; decide
            · obtain ⟨c, hc, rfl⟩ := List.mem_map.mp e
              exact mask_lt (lF c hc).2.1)
          rw [List.length_range, List.length_cons, List.length_map] at this
          omega
    · rintro σ H2 ⟨x3, x4, x5, x6, x7, x8, x9, x10, qs, rfl, o2, K2⟩
      rw [List.length_map, N.gs.1] at K2
      exact ⟨_, rfl, q S H2 qs o2.sm nS o2.at_ K2⟩
end
end K52
set_option Elab.async false
set_option linter.all false
set_option maxRecDepth 100000
set_option maxHeartbeats 4000000
namespace K52
open PySem PySem.Spec PyProof.Rows L2 GX
open C8 (Cal pe_c pe_gc Met Mak)
-- @exc CoverError
-- @exc NoText
-- @exc NoDepth init=least
-- @exc TooMany made
-- @exc NoMatch
-- @exc NoChange
-- @exc NoRow
-- @sub NoDepth NoDepth true
-- @sub NoDepth CoverError true
-- @sub NoDepth ValueError true
-- @sub NoDepth NoChange false
-- @sub NoDepth NoMatch false
-- @sub NoDepth NoRow false
-- @sub NoDepth NoText false
-- @sub NoDepth TooMany false
-- @sub TooMany TooMany true
-- @sub TooMany CoverError true
-- @sub TooMany ValueError true
-- @sub TooMany NoChange false
-- @sub TooMany NoMatch false
-- @sub TooMany NoRow false
-- @sub TooMany NoText false
-- @sub TooMany NoDepth false
section
/-! ### depths of chains -/
theorem deps_mono {n : Net} (ok : n.Ok) {k : Nat} {ds : List Nat} (d : DepsTo n k ds) {g p : Nat} {kk : Nat × Nat × Nat} (hg : n.many ≤ g) (hl : g < ds.length) (hw : g < n.many + n.gates.length) (hkk : n.gates[g - n.many]? = some kk) (hp : p = kk.2.1 ∨ p = kk.2.2) : ds.getD p 0 ≤ ds.getD g 0 := by
  have plt := place_lt ok hg hkk hp
  by_cases hm : p < n.many
  · rw [d.low p hm (by omega)]
    exact Nat.zero_le _
  · obtain ⟨⟨c, lc, e1⟩, _⟩ := d.at_ g hg hl
    rw [e1]
    by_cases hc : p ∈ c
    · have h0 : ds.getD p 0 ≤ maxL (c.map fun x => ds.getD x 0) := le_maxL (xs := c.map fun x => ds.getD x 0) (List.mem_map.mpr ⟨p, hc, rfl⟩)
      omega
    · have hgc : g ∉ c := fun z => Nat.lt_irrefl _ (lc.lt g z)
      have hs := (sep_gate hg hkk hgc).mp lc.sep
      have sp : Sep n p c := by
        rcases hp with e | e
        · rw [e]; exact hs.1
        · rw [e]; exact hs.2
      have sf : Sep n p (c.filter fun x => decide (x < p)) := sep_low ok (fun x hx hxc => List.mem_filter.mpr ⟨hxc, decide_eq_true (by
        have : x ≠ p := fun z => hc (by rw [← z]; exact hxc)
        omega)⟩) sp
      have := d.tell ok (by omega) (by omega) (lc.rise.filter _) (fun x hx => of_decide_eq_true (List.mem_filter.mp hx).2) sf (Nat.le_trans (List.length_filter_le _ _) lc.len)
      exact Nat.le_trans this (Nat.add_le_add_left (maxL_sub fun x hx => (List.mem_filter.mp hx).1) 1)
theorem deps_one {n : Net} {k : Nat} {ds : List Nat} (d : DepsTo n k ds) {g : Nat} (hg : n.many ≤ g) (hl : g < ds.length) : 1 ≤ ds.getD g 0 := by
  obtain ⟨⟨c, lc, e1⟩, _⟩ := d.at_ g hg hl
  rw [e1]
  omega
theorem deps_uniq {n : Net} (ok : n.Ok) {k : Nat} {ds es : List Nat} (d : DepsTo n k ds) (e : DepsTo n k es) (dl : ds.length = n.many + n.gates.length) (el : es.length = n.many + n.gates.length) : ds = es := by
  have key : ∀ b x, x ≤ b → x < n.many + n.gates.length → ds.getD x 0 = es.getD x 0 := fun b => by
    induction b with
    | zero =>
      intro x hx _
      have := ok.m1
      rw [d.low x (by omega) (by omega), e.low x (by omega) (by omega)]
    | succ b ih =>
      intro x hx hx2
      by_cases hm : x < n.many
      · rw [d.low x hm (by omega), e.low x hm (by omega)]
      · obtain ⟨⟨c, lc, e1⟩, e2⟩ := d.at_ x (by omega) (by omega)
        obtain ⟨⟨c', lc', f1⟩, f2⟩ := e.at_ x (by omega) (by omega)
        have h1 := e2 c' lc'
        have h2 := f2 c lc
        have g1 : maxL (c'.map fun x => ds.getD x 0) = maxL (c'.map fun x => es.getD x 0) := maxL_congr fun y hy => ih y (by have := lc'.lt y hy; omega) (by have := lc'.lt y hy; omega)
        have g2 : maxL (c.map fun x => ds.getD x 0) = maxL (c.map fun x => es.getD x 0) := maxL_congr fun y hy => ih y (by have := lc.lt y hy; omega) (by have := lc.lt y hy; omega)
        rw [g1, ← f1] at h1
        rw [← g2, ← e1] at h2
        omega
  refine List.ext_getElem (by rw [dl, el]) fun i h1 h2 => ?_
  have := key i i (Nat.le_refl _) (by omega)
  rwa [List.getD_eq_getElem?_getD, List.getElem?_eq_getElem h1, List.getD_eq_getElem?_getD, List.getElem?_eq_getElem h2] at this
/-- the same places, either way about -/
structure Like (n n' : Net) : Prop where
  m : n.many = n'.many
  l : n.gates.length = n'.gates.length
  g : ∀ (i : Nat) (k : Nat × Nat × Nat), n.gates[i]? = some k → ∃ k' : Nat × Nat × Nat, n'.gates[i]? = some k' ∧ ∀ z, (z = k.2.1 ∨ z = k.2.2) ↔ (z = k'.2.1 ∨ z = k'.2.2)
theorem Like.symm {n n' : Net} (h : Like n n') : Like n' n := ⟨h.m.symm, h.l.symm, fun i k hk => by
  have hi : i < n.gates.length := by rw [h.l]; exact (List.getElem?_eq_some_iff.mp hk).1
  obtain ⟨k', e, hz⟩ := h.g i _ (List.getElem?_eq_getElem hi)
  rw [hk] at e
  cases e
  exact ⟨_, List.getElem?_eq_getElem hi, fun z => (hz z).symm⟩⟩
theorem Like.rc {n n' : Net} (h : Like n n') {st : List Nat} {w y : Nat} (r : Rc n st w n.many y) : Rc n' st w n'.many y := by
  induction r with
  | here e => exact .here e
  | @step g p k _ hg _ hk hp hs ih =>
    obtain ⟨k', e, hz⟩ := h.g _ k hk
    rw [h.m] at e hg
    exact .step ih hg hg e ((hz p).mp hp) hs
theorem Like.sep {n n' : Net} (h : Like n n') {st : List Nat} {w : Nat} : Sep n w st ↔ Sep n' w st := ⟨fun s y r => by rw [← h.m]; exact s y (h.symm.rc r), fun s y r => by rw [h.m]; exact s y (h.rc r)⟩
theorem Like.lc {n n' : Net} (h : Like n n') {k g : Nat} {c : List Nat} (x : LC n k g c) : LC n' k g c := ⟨x.rise, x.lt, h.sep.mp x.sep, x.len, fun y hy z => x.least y hy (h.sep.mpr z)⟩
theorem Like.deps {n n' : Net} (h : Like n n') {k : Nat} {ds : List Nat} (d : DepsTo n k ds) : DepsTo n' k ds := ⟨fun x hx hl => d.low x (by rw [h.m]; exact hx) hl, fun g hg hl => by
  obtain ⟨⟨c, lc, e⟩, a⟩ := d.at_ g (by rw [h.m]; exact hg) hl
  exact ⟨⟨c, h.lc lc, e⟩, fun c lc => a c (h.symm.lc lc)⟩⟩
/-- a chain: gate j is wire many + (j * G + t) -/
def prevC (m G t : Nat) (row : List Nat) (j : Nat) : Nat := if j = 0 then row.getD 0 0 else m + ((j - 1) * G + t)
def nxtC (row : List Nat) (j : Nat) : Nat := row.getD ((j + 1) % row.length) 0
structure Chain (n : Net) (G t c : Nat) (row : List Nat) : Prop where
  nd : row.Nodup
  lt : ∀ x ∈ row, x < n.many
  l2 : 2 ≤ row.length
  G1 : 1 ≤ G
  tG : t < G
  gs : ∀ j, j < c → j * G + t < n.gates.length ∧ ∃ k : Nat × Nat × Nat, n.gates[j * G + t]? = some k ∧ ∀ z, (z = k.2.1 ∨ z = k.2.2) ↔ (z = prevC n.many G t row j ∨ z = nxtC row j)
theorem Chain.nxt_lt {n : Net} {G t c : Nat} {row : List Nat} (h : Chain n G t c row) (j : Nat) : nxtC row j < n.many := h.lt _ (getD_mem (Nat.mod_lt _ (by have := h.l2; omega)))
theorem Chain.row0_lt {n : Net} {G t c : Nat} {row : List Nat} (h : Chain n G t c row) : row.getD 0 0 < n.many := h.lt _ (getD_mem (by have := h.l2; omega))
theorem Chain.sepIff {n : Net} {G t c : Nat} {row : List Nat} (h : Chain n G t c row) {j : Nat} (hj : j < c) {xs : List Nat} (hx : n.many + (j * G + t) ∉ xs) : Sep n (n.many + (j * G + t)) xs ↔ (Sep n (prevC n.many G t row j) xs ∧ nxtC row j ∈ xs) := by
  obtain ⟨_, k, hk, hz⟩ := h.gs j hj
  have hk' : n.gates[n.many + (j * G + t) - n.many]? = some k := by rw [Nat.add_sub_cancel_left]; exact hk
  rw [sep_gate (Nat.le_add_right _ _) hk' hx]
  have e2 := sep_input (st := xs) (h.nxt_lt j)
  rw [← e2]
  have a1 := (hz k.2.1).mp (.inl rfl)
  have a2 := (hz k.2.2).mp (.inr rfl)
  have b1 := (hz (prevC n.many G t row j)).mpr (.inl rfl)
  have b2 := (hz (nxtC row j)).mpr (.inr rfl)
  constructor
  · rintro ⟨s1, s2⟩
    refine ⟨?_, ?_⟩
    · rcases b1 with e | e
      · rw [e]; exact s1
      · rw [e]; exact s2
    · rcases b2 with e | e
      · rw [e]; exact s1
      · rw [e]; exact s2
  · rintro ⟨s1, s2⟩
    refine ⟨?_, ?_⟩
    · rcases a1 with e | e
      · rw [e]; exact s1
      · rw [e]; exact s2
    · rcases a2 with e | e
      · rw [e]; exact s1
      · rw [e]; exact s2
/-- what tells a gate of a chain -/
theorem Chain.told {n : Net} {G t c : Nat} {row : List Nat} (h : Chain n G t c row) {xs : List Nat} : ∀ j, j < c → n.many + (j * G + t) ∉ xs → Sep n (n.many + (j * G + t)) xs →
    (∃ i, i < j ∧ n.many + (i * G + t) ∈ xs ∧ ∀ s, i < s → s ≤ j → nxtC row s ∈ xs) ∨ (row.getD 0 0 ∈ xs ∧ ∀ s, s ≤ j → nxtC row s ∈ xs)
  | 0, hj, hx, hs => by
    obtain ⟨s1, s2⟩ := (h.sepIff hj hx).mp hs
    have s1' : Sep n (row.getD 0 0) xs := s1
    refine .inr ⟨(sep_input h.row0_lt).mp s1', fun s hs' => ?_⟩
    rw [Nat.le_zero.mp hs']
    exact s2
  | j + 1, hj, hx, hs => by
    obtain ⟨s1, s2⟩ := (h.sepIff hj hx).mp hs
    have s1' : Sep n (n.many + (j * G + t)) xs := s1
    have ext : ∀ {p : Nat → Prop}, (∀ s, p s → s ≤ j → nxtC row s ∈ xs) → ∀ s, p s → s ≤ j + 1 → nxtC row s ∈ xs := fun hp s ps hs' => by
      by_cases e : s = j + 1
      · rw [e]; exact s2
      · exact hp s ps (by omega)
    by_cases hin : n.many + (j * G + t) ∈ xs
    · exact .inl ⟨j, Nat.lt_succ_self j, hin, ext fun s ps hs' => by omega⟩
    · rcases h.told j (by omega) hin s1' with ⟨i, i1, i2, i3⟩ | ⟨r1, r2⟩
      · exact .inl ⟨i, by omega, i2, ext i3⟩
      · exact .inr ⟨r1, fun s hs' => ext (p := fun _ => True) (fun s _ h' => r2 s h') s trivial hs'⟩
/-- and that tells it -/
theorem Chain.tells {n : Net} {G t c : Nat} {row : List Nat} (h : Chain n G t c row) {xs : List Nat} : ∀ j, j < c →
    ((∃ i, i < j ∧ n.many + (i * G + t) ∈ xs ∧ ∀ s, i < s → s ≤ j → nxtC row s ∈ xs) ∨ (row.getD 0 0 ∈ xs ∧ ∀ s, s ≤ j → nxtC row s ∈ xs)) → Sep n (n.many + (j * G + t)) xs := by
  intro j
  induction j with
  | zero =>
    intro hj hh
    by_cases hx : n.many + (0 * G + t) ∈ xs
    · exact sep_in hx
    · rcases hh with ⟨i, hi, _⟩ | ⟨r1, r2⟩
      · omega
      · refine (h.sepIff hj hx).mpr ⟨?_, r2 0 (Nat.le_refl _)⟩
        show Sep n (row.getD 0 0) xs
        exact (sep_input h.row0_lt).mpr r1
  | succ j ih =>
    intro hj hh
    by_cases hx : n.many + ((j + 1) * G + t) ∈ xs
    · exact sep_in hx
    · refine (h.sepIff hj hx).mpr ⟨?_, ?_⟩
      · show Sep n (n.many + (j * G + t)) xs
        rcases hh with ⟨i, hi, i2, i3⟩ | ⟨r1, r2⟩
        · by_cases e : i = j
          · rw [← e]; exact sep_in i2
          · exact ih (by omega) (.inl ⟨i, by omega, i2, fun s h1 h2 => i3 s h1 (by omega)⟩)
        · exact ih (by omega) (.inr ⟨r1, fun s h2 => r2 s (by omega)⟩)
      · rcases hh with ⟨i, hi, i2, i3⟩ | ⟨r1, r2⟩
        · exact i3 _ hi (Nat.le_refl _)
        · exact r2 _ (Nat.le_refl _)
theorem sort_of (L : List Nat) : ∃ xs : List Nat, xs.Pairwise (· < ·) ∧ (∀ x, x ∈ xs ↔ x ∈ L) ∧ xs.length ≤ L.length := by
  refine ⟨bitsOf (maskOf L), bits_rise _, fun x => by rw [mem_bits, mask_bit, decide_eq_true_iff], ?_⟩
  exact nodup_len (bits_nodup _) fun x hx => by rwa [mem_bits, mask_bit, decide_eq_true_iff] at hx
theorem Chain.wire_lt {n : Net} {G t c : Nat} {row : List Nat} (h : Chain n G t c row) {i j : Nat} (hij : i < j) : n.many + (i * G + t) < n.many + (j * G + t) := by
  have : i * G < j * G := Nat.mul_lt_mul_of_pos_right hij (by have := h.G1; omega)
  omega
/-- no deeper than by so many wires a table -/
theorem Chain.upper {n : Net} (ok : n.Ok) {G t c k : Nat} {row ds : List Nat} (h : Chain n G t c row) (hk : 2 ≤ k) (d : DepsTo n k ds) (dl : ds.length = n.many + n.gates.length) : ∀ b j, j ≤ b → j < c → ds.getD (n.many + (j * G + t)) 0 ≤ 1 + j / (k - 1) := by
  intro b
  induction b with
  | zero => 
    intro j hj hc
    have hj0 : j = 0 := by omega
    subst hj0
    obtain ⟨xs, xr, xm, xl⟩ := sort_of [row.getD 0 0, nxtC row 0]
    obtain ⟨gl, _⟩ := h.gs 0 hc
    have r0 := h.row0_lt
    have n0 := h.nxt_lt 0
    have lt : ∀ x ∈ xs, x < n.many := fun x hx => by
      rcases List.mem_cons.mp ((xm x).mp hx) with e | e
      · rw [e]; exact r0
      · rw [List.mem_singleton.mp e]; exact n0
    have := d.tell ok (Nat.le_add_right _ _) (by omega) xr (fun x hx => by have := lt x hx; omega) (h.tells (xs := xs) 0 hc (.inr ⟨(xm _).mpr List.mem_cons_self, fun s hs => by rw [Nat.le_zero.mp hs]; exact (xm _).mpr (List.mem_cons_of_mem _ List.mem_cons_self)⟩)) (Nat.le_trans xl hk)
    have z : maxL (xs.map fun x => ds.getD x 0) ≤ 0 := by
      by_cases e : 0 < (xs.map fun x => ds.getD x 0).length
      · obtain ⟨x, hx, ex⟩ := List.mem_map.mp (maxL_mem e)
        rw [← ex]
        show ds.getD x 0 ≤ 0
        rw [d.low x (lt x hx) (by have := lt x hx; omega)]
        exact Nat.le_refl _
      · rw [List.length_eq_zero_iff.mp (by omega : (xs.map fun x => ds.getD x 0).length = 0)]
        exact Nat.le_refl _
    rw [Nat.zero_div]
    omega
  | succ b ih =>
    intro j hj hc
    obtain ⟨gl, _⟩ := h.gs j hc
    have hb : ∀ (xs : List Nat) (v : Nat), (∀ x ∈ xs, ds.getD x 0 ≤ v) → maxL (xs.map fun x => ds.getD x 0) ≤ v := fun xs v hv => by
      by_cases e : 0 < (xs.map fun x => ds.getD x 0).length
      · obtain ⟨x, hx, ex⟩ := List.mem_map.mp (maxL_mem e)
        rw [← ex]
        exact hv x hx
      · rw [List.length_eq_zero_iff.mp (by omega : (xs.map fun x => ds.getD x 0).length = 0)]
        exact Nat.zero_le _
    have inp : ∀ x, x < n.many → ds.getD x 0 = 0 := fun x hx => d.low x hx (by omega)
    by_cases hq : j < k - 1
    · obtain ⟨xs, xr, xm, xl⟩ := sort_of (row.getD 0 0 :: (List.range (j + 1)).map (nxtC row))
      have lt : ∀ x ∈ xs, x < n.many := fun x hx => by
        rcases List.mem_cons.mp ((xm x).mp hx) with e | e
        · rw [e]; exact h.row0_lt
        · obtain ⟨s, _, rfl⟩ := List.mem_map.mp e
          exact h.nxt_lt s
      rw [List.length_cons, List.length_map, List.length_range] at xl
      have := d.tell ok (Nat.le_add_right _ _) (by omega) xr (fun x hx => by have := lt x hx; omega) (h.tells (xs := xs) j hc (.inr ⟨(xm _).mpr List.mem_cons_self, fun s hs => (xm _).mpr (List.mem_cons_of_mem _ (List.mem_map.mpr ⟨s, List.mem_range.mpr (by omega), rfl⟩))⟩)) (by omega)
      have := hb xs 0 fun x hx => by rw [inp x (lt x hx)]; exact Nat.le_refl _
      generalize j / (k - 1) = v
      omega
    · obtain ⟨xs, xr, xm, xl⟩ := sort_of ((n.many + ((j - (k - 1)) * G + t)) :: (List.range (k - 1)).map fun s => nxtC row (j - (k - 1) + 1 + s))
      rw [List.length_cons, List.length_map, List.length_range] at xl
      have wl := h.wire_lt (i := j - (k - 1)) (j := j) (by omega)
      have iht := ih (j - (k - 1)) (by omega) (by omega)
      have lt : ∀ x ∈ xs, x = n.many + ((j - (k - 1)) * G + t) ∨ x < n.many := fun x hx => by
        rcases List.mem_cons.mp ((xm x).mp hx) with e | e
        · exact .inl e
        · obtain ⟨s, _, rfl⟩ := List.mem_map.mp e
          exact .inr (h.nxt_lt _)
      have := d.tell ok (Nat.le_add_right _ _) (by omega) xr (fun x hx => by rcases lt x hx with e | e <;> omega) (h.tells (xs := xs) j hc (.inl ⟨j - (k - 1), by omega, (xm _).mpr List.mem_cons_self, fun s h1 h2 => (xm _).mpr (List.mem_cons_of_mem _ (List.mem_map.mpr ⟨s - (j - (k - 1) + 1), List.mem_range.mpr (by omega), by rw [show j - (k - 1) + 1 + (s - (j - (k - 1) + 1)) = s by omega]⟩))⟩)) (by omega)
      have := hb xs (1 + (j - (k - 1)) / (k - 1)) fun x hx => by
        rcases lt x hx with e | e
        · rw [e]; exact iht
        · rw [inp x e]; omega
      have e : j / (k - 1) = (j - (k - 1)) / (k - 1) + 1 := by
        rw [← Nat.add_div_right _ (by omega : 0 < k - 1), Nat.sub_add_cancel (by omega)]
      omega
theorem Chain.nxt_at {n : Net} {G t c : Nat} {row : List Nat} (h : Chain n G t c row) {s : Nat} (hs : s + 1 < row.length) : nxtC row s = row.getD (s + 1) 0 := by
  unfold nxtC
  rw [Nat.mod_eq_of_lt hs]
theorem row_map {row : List Nat} (nd : row.Nodup) {a m : Nat} (h : a + m ≤ row.length) : ((List.range m).map fun s => row.getD (a + s) 0).Nodup := by
  rw [List.nodup_iff_pairwise_ne, List.pairwise_map]
  refine List.Pairwise.imp_of_mem (fun {x y} hx hy hlt e => ?_) (List.pairwise_lt_range (n := m))
  have h1 := List.mem_range.mp hx
  have h2 := List.mem_range.mp hy
  have := ixOf_get nd (j := a + x) (by omega)
  rw [e, ixOf_get nd (j := a + y) (by omega)] at this
  omega
/-- no less deep, while the inputs are unlike -/
theorem Chain.lower {n : Net} (ok : n.Ok) {G t c k : Nat} {row ds : List Nat} (h : Chain n G t c row) (hk : 2 ≤ k) (d : DepsTo n k ds) (dl : ds.length = n.many + n.gates.length) : ∀ b j, j ≤ b → j < c → j + 2 ≤ row.length → 1 + j / (k - 1) ≤ ds.getD (n.many + (j * G + t)) 0 := by
  intro b
  induction b with
  | zero =>
    intro j hj hc _
    have hj0 : j = 0 := by omega
    subst hj0
    obtain ⟨gl, _⟩ := h.gs 0 hc
    have := deps_one d (g := n.many + (0 * G + t)) (Nat.le_add_right _ _) (by omega)
    rw [Nat.zero_div]
    exact this
  | succ b ih =>
    intro j hj hc hr
    obtain ⟨gl, _⟩ := h.gs j hc
    obtain ⟨⟨cc, lc, e1⟩, _⟩ := d.at_ (n.many + (j * G + t)) (Nat.le_add_right _ _) (by omega)
    have hnot : n.many + (j * G + t) ∉ cc := fun z => Nat.lt_irrefl _ (lc.lt _ z)
    have len := lc.len
    rcases h.told j hc hnot lc.sep with ⟨i, i1, i2, i3⟩ | ⟨r1, r2⟩
    · have nd : ((n.many + (i * G + t)) :: (List.range (j - i)).map fun s => row.getD (i + 2 + s) 0).Nodup := by
        refine List.nodup_cons.mpr ⟨fun z => ?_, row_map h.nd (by omega)⟩
        obtain ⟨s, hs, e⟩ := List.mem_map.mp z
        have := List.mem_range.mp hs
        have := h.lt _ (getD_mem (xs := row) (i := i + 2 + s) (by omega))
        omega
      have sub := nodup_len nd (ys := cc) fun x hx => by
        rcases List.mem_cons.mp hx with e | e
        · rw [e]; exact i2
        · obtain ⟨s, hs, rfl⟩ := List.mem_map.mp e
          have hs' := List.mem_range.mp hs
          have := i3 (i + 1 + s) (by omega) (by omega)
          rw [h.nxt_at (by omega)] at this
          rw [show i + 2 + s = i + 1 + s + 1 by omega]
          exact this
      rw [List.length_cons, List.length_map, List.length_range] at sub
      have iht := ih i (by omega) (by omega) (by omega)
      have ge := le_maxL (xs := cc.map fun x => ds.getD x 0) (List.mem_map.mpr ⟨_, i2, rfl⟩)
      have e : (i + (k - 1)) / (k - 1) = i / (k - 1) + 1 := Nat.add_div_right _ (by omega)
      have mono : j / (k - 1) ≤ (i + (k - 1)) / (k - 1) := Nat.div_le_div_right (by omega)
      have ge' : ds.getD (n.many + (i * G + t)) 0 ≤ maxL (cc.map fun x => ds.getD x 0) := ge
      omega
    · have sub := nodup_len (row_map h.nd (a := 0) (m := j + 2) (by omega)) (ys := cc) fun x hx => by
        obtain ⟨s, hs, rfl⟩ := List.mem_map.mp hx
        have hs' := List.mem_range.mp hs
        rw [Nat.zero_add]
        cases s with
        | zero => exact r1
        | succ s =>
          have := r2 s (by omega)
          rwa [h.nxt_at (by omega)] at this
      rw [List.length_map, List.length_range] at sub
      have : j / (k - 1) = 0 := Nat.div_eq_of_lt (by omega)
      omega
end
section
variable {P : Program} {w : World} {K : PySem.W.Frag} {mg : Str → Option Value} {base : Heap} {Ts : List Addr}
def spDepsD : Sp := fun vs H Q _ => ∃ (a : Addr) (n : Net) (g o : Addr) (ps : List Addr) (ca S : Addr) (qs : List Addr) (k : Nat), vs = [.ref a, .ref ca] ∧ NetAt H a n g o ps ∧ n.Ok ∧ 2 ≤ k ∧ k ≤ 4 ∧ H ca = some (.lst (qs.map V.ref)) ∧ PtsAt (KTolL S n k) H qs (List.range (n.many + n.gates.length)) ∧
  ∀ r H' (ds : List Nat), Same H H' → H' r = some (.lst (ds.map nV)) → ds.length = n.many + n.gates.length → DepsTo n k ds → Q (.ref r) H'
theorem ok_depsD {f c : Addr} (D : Dfn K mg "_law_depths" s__law_depths f c) (T : Txt mg) : Cal P w K mg base 1 "_law_depths" spDepsD [] := by
  refine cal D (fun _ _ _ _ _ _ us hl => match us, hl with | [_, _], _ => rfl) sc__law_depths (fun vs H Q E h => ?_) (fun A outer s H vs Q E hr h => ?_)
  · obtain ⟨a, n, g, o, ps, ca, S, qs, k, rfl, _⟩ := h
    rfl
  · obtain ⟨a, n, g, o, ps, ca, S, qs, k, rfl, N, ok, hk2, hk, hca, KP, q⟩ := h
    have m8 := ok.m8
    have g16 := ok.g16
    have m1 := ok.m1
    refine ⟨_, (pss_cons (ps_set (i := 2) sc__law_depths.nd rfl (by first | exact Or.inl rfl | exact Or.inr rfl) (pe_op op_rep (pe_lst (pa_cons pe_int pa_nil)) (pe_ix ix_tup (pv 0) pe_int (fun _ _ => rfl))))
      (pss_cons (ps_for PassesOwn.never rfl (pi_range2 (by rfl) T.b_range (pa_cons (pe_ix ix_tup (pv 0) pe_int (fun _ _ => rfl)) (pa_cons (pe_op op_add (pe_ix ix_tup (pv 0) pe_int (fun _ _ => rfl)) (pe_callB call_len_seq (by rfl) T.b_len (by decide +kernel) (pa_cons (pe_ix ix_tup (pv 0) pe_int (fun _ _ => rfl)) pa_nil))) pa_nil))) (pg_name (i := 3) sc__law_depths.nd rfl (by first | exact Or.inl rfl | exact Or.inr rfl))
        (pss_one (ps_expr (pe_bm PySem.F.plainAttrs_list PySem.F.slot_list_append PySem.F.type_list_append mt_append (pv 2) (pa_cons (pe_callB (cr_min rfl) (by rfl) T.b_min (by decide +kernel) (pa_cons (pe_lc (own := [("_law_cut", 5)]) (g := gName 5) (tt := tYes) rfl sc__law_depths.nd (pi_list (pe_ix ix_list (pv 1) (pv 3) (fun _ _ => rfl))) (blkOk_by (own := [("_law_cut", 5)]) (N := ["_law_net_here", "_law_cuts_here", "_law_known", "_law_gate_here", "_law_wire", "_law_cut"]) (sc := defScope s__law_depths) (by decide +kernel)) (fun _ _ _ _ _ => (pg_name (i := 5) sc__law_depths.nd rfl (by first | exact Or.inl rfl | exact Or.inr rfl))) (fun _ _ _ _ _ => pts_nil) (fun _ _ _ _ _ => (pe_op op_add pe_int (pe_callB (cr_maxK (K := K) rfl) (by rfl) T.b_max (by decide +kernel) (pa_cons (pe_lc (own := [("_law_wire", 4)]) (g := gName 4) (tt := tYes) rfl sc__law_depths.nd (pi_tupK (K := K) (pv 5)) (blkOk_by (own := [("_law_wire", 4)]) (by rfl)) (fun _ _ _ _ _ => (pg_name (i := 4) sc__law_depths.nd rfl (by first | exact Or.inl rfl | exact Or.inr rfl))) (fun _ _ _ _ _ => pts_nil) (fun _ _ _ _ _ => (pe_ix (ix_listK (K := K)) (pv 2) (pv 4) (fun _ _ => rfl)))) pa_nil))))) pa_nil)) pa_nil)))))
      (pss_one (ps_ret (pv 2))))), ?_⟩
    refine ⟨small 1, fun z nz => ?_⟩
    have e1 := Same.new (o := .lst [.int 0]) nz
    refine ⟨_, rfl, a, _, 0, _, rfl, rfl, SqT.of (N.same e1).top, at0, z, _, _, rfl, rfl, upd_same, by omega, by omega, ?_, fun l nl => ?_⟩
    · show 1 * (((n.many : Nat)) : Int).toNat ≤ sizeLine
      rw [Int.toNat_natCast]
      exact small _ (by omega)
    have ef : (List.replicate (((n.many : Nat)) : Int).toNat [V.int 0]).flatten = (List.replicate n.many 0).map nV := by
      rw [Int.toNat_natCast, List.map_replicate, List.flatten_replicate_singleton]
      rfl
    rw [ef]
    have nlH : H l = none := Same.was e1 nl
    have o1 : Own H (upd (upd H z (.lst [.int 0])) l (.lst ((List.replicate n.many 0).map nV))) l ((List.replicate n.many 0).map nV) := ⟨e1.trans (Same.new nl), upd_same, nlH⟩
    generalize upd (upd H z (.lst [.int 0])) l (.lst ((List.replicate n.many 0).map nV)) = H1 at o1 ⊢
    have N1 := N.same o1.sm
    refine ⟨_, rfl, a, _, 0, _, rfl, rfl, SqT.of N1.top, at0, _, rfl, a, _, 0, _, rfl, rfl, SqT.of N1.top, at0, _, rfl, a, _, 1, _, rfl, rfl, SqT.of N1.top, at1, g, _, rfl, .inr (SqT.of N1.gt), _, _, rfl, rfl, _, _, rfl, ⟨by omega, by omega, by omega, by rw [List.length_map, N.gs.1]; omega⟩, ?_⟩
    refine for_range (lo := ((n.many : Nat) : Int)) (n := (((n.many : Nat) : Int) + (((ps.map V.ref).length : Nat) : Int) - ((n.many : Nat) : Int)).toNat) (fun j σ H' => ∃ (x3 x4 x5 : Option V) (ds : List Nat), σ = [some (.ref a), some (.ref ca), some (.ref l), x3, x4, x5] ∧ Own H H' l (ds.map nV) ∧ ds.length = n.many + j ∧ DepsTo n k ds) ⟨none, none, none, List.replicate n.many 0, rfl, o1, by rw [List.length_replicate]; rfl, ⟨fun x hx _ => by rw [List.getD_eq_getElem?_getD, List.getElem?_replicate, if_pos hx]; rfl, fun g' h1 h2 => by rw [List.length_replicate] at h2; omega⟩⟩ ?_ ?_
    · rintro j σ H2 hj ⟨x3, x4, x5, ds, rfl, o2, dl, dt⟩
      have hj' : j < n.gates.length := by
        rw [List.length_map, N.gs.1] at hj
        omega
      have hgt : n.many + j < n.many + n.gates.length := by omega
      obtain ⟨q1, eq1, q1S, rs, cs, hq1, TQ, CA, cl⟩ := KP.get (i := n.many + j) (y := n.many + j) (by rw [List.getElem?_range hgt])
      have hq12 := o2.sm _ _ hq1
      have TS := TQ.mono fun b zs e => o2.sm _ _ e
      refine ⟨_, rfl, .inl ⟨rfl, _, SqL.of o2.at_⟩, ?_⟩
      refine ⟨_, rfl, _, rfl, ca, _, _, _, rfl, rfl, SqL.of (o2.sm _ _ hca), atI_nat (j := n.many + j) eq1, q1, rfl, ⟨_, SqL.of hq12⟩, fun M nM => ?_⟩
      have c0 : cs.length ≠ 0 := fun z => by
        have := (cuts_ml ok CA).some_ ok hk2 (Nat.le_add_right n.many j) (List.getElem?_eq_getElem (show n.many + j - n.many < n.gates.length by omega))
        rw [List.length_eq_zero_iff.mp z] at this
        exact this rfl
      refine lc_list (K := K) (a := q1) (xs := rs.map V.ref) (fun i H' => Own H2 H' M (((cs.take i).map fun c => 1 + maxL (c.map fun x => ds.getD x 0)).map nV)) ⟨Same.new nM, upd_same, nM⟩ (fun _ H' _ h => SqL.of (h.sm _ _ hq12)) ?_ ?_
      · rintro i v H4 hv o4
        have hi : i < cs.length := by
          have := (List.getElem?_eq_some_iff.mp hv).1
          rwa [List.length_map, TS.1] at this
        obtain ⟨tq, c', rfl, hc, hat⟩ := TS.at_ hv
        have hat4 := o4.sm _ _ hat
        have lc := (CA.mem c').mp (List.mem_of_getElem? hc)
        have c2 := lc.lt
        have c4 := lc.len
        have c3 : 0 < c'.length := Nat.pos_of_ne_zero fun z => by
          have hs := lc.sep
          rw [List.length_eq_zero_iff.mp z] at hs
          exact sep_none ok _ _ (Nat.le_refl _) hgt hs
        have tk : cs.take (i + 1) = cs.take i ++ [c'] := by rw [List.take_add_one, hc]; rfl
        refine ⟨rfl, ?_⟩
        refine iteT (B := Own H2 H4 M (((cs.take (i + 1)).map fun c => 1 + maxL (c.map fun x => ds.getD x 0)).map nV)) ?_
        have hl5 := o4.sm _ _ o2.at_
        refine ⟨_, rfl, tq, rfl, ⟨_, SqT.of hat4⟩, fun M2 nM2 => ?_⟩
        refine lc_tup (K := K) (a := tq) (xs := c'.map nV) (fun i H' => Own H4 H' M2 (((c'.take i).map fun x => ds.getD x 0).map nV)) ⟨Same.new nM2, upd_same, nM2⟩ (fun k H' _ o' => SqT.of (o'.sm _ _ hat4)) ?_ ?_
        · rintro i2 x H6 hx o6
          have hi2 : i2 < c'.length := by
            have := (List.getElem?_eq_some_iff.mp hx).1
            rwa [List.length_map] at this
          rw [natAt hi2] at hx
          cases hx
          refine ⟨rfl, ?_⟩
          unfold tYes
          refine iteT ?_
          refine ⟨_, rfl, _, rfl, l, _, _, _, rfl, rfl, SqL.of (o6.sm _ _ hl5), atI_nat (natAt (by have := c2 _ (getD_mem hi2); omega)), _, o6.at_, by rw [List.length_map, List.length_map, List.length_take]; exact small256 (by omega), ?_⟩
          have : c'.getD i2 0 = c'[i2] := by rw [List.getD_eq_getElem?_getD, List.getElem?_eq_getElem hi2]; rfl
          rw [List.take_add_one, List.getElem?_eq_getElem hi2, Option.toList_some, List.map_append, List.map_append, this]
          exact o6.app
        · rintro H6 o6
          rw [List.length_map, List.take_length] at o6
          have o7 : Own H2 H6 M _ := ⟨o4.sm.trans o6.sm, o6.sm _ _ o4.at_, o4.nw⟩
          refine ⟨M2, (c'.map fun x => ds.getD x 0).map (fun n : Nat => (n : Int)), rfl, (by rw [mapV]; exact SqL.of o6.at_), by rw [List.length_map, List.length_map]; exact c3, fun m hm hb => ⟨_, _, rfl, rfl, ?_⟩⟩
          have e := max_eq hm hb
          have e2 : V.int (1 + m) = nV (1 + maxL (c'.map fun x => ds.getD x 0)) := by
            have := V.int.inj e
            rw [this]
            rfl
          dsimp -proj only
          rw [e2]
          refine ⟨_, o7.at_, by rw [List.length_map, List.length_map, List.length_take]; exact Nat.lt_of_le_of_lt (Nat.min_le_right _ _) (Nat.lt_of_lt_of_le cl (by decide)), ?_⟩
          rw [tk, List.map_append, List.map_append]
          exact o7.app
      · rintro H4 o4
        rw [List.length_map, TS.1, List.take_length] at o4
        have o5 : Own H H4 l (ds.map nV) := ⟨o2.sm.trans o4.sm, o4.sm _ _ o2.at_, o2.nw⟩
        refine ⟨M, (cs.map fun c => 1 + maxL (c.map fun x => ds.getD x 0)).map (fun n : Nat => (n : Int)), rfl, (by rw [mapV]; exact SqL.of o4.at_), by rw [List.length_map, List.length_map]; omega, fun m hm hb => ?_⟩
        obtain ⟨mn, hmn, rfl⟩ := List.mem_map.mp hm
        have hb' : ∀ y ∈ (cs.map fun c => 1 + maxL (c.map fun x => ds.getD x 0)), mn ≤ y := fun y hy => by
          have := hb _ (List.mem_map.mpr ⟨y, hy, rfl⟩)
          omega
        refine ⟨l, _, _, rfl, rfl, o5.at_, by rw [List.length_map]; exact small256 (by omega), _, _, _, ds ++ [mn], rfl, by rw [List.map_append]; exact o5.app, by rw [List.length_append, dl]; rfl, ?_⟩
        have gs : ∀ x, x < ds.length → (ds ++ [mn]).getD x 0 = ds.getD x 0 := fun x hx => getSnoc hx
        have gl : (ds ++ [mn]).getD (n.many + j) 0 = mn := by
          rw [← dl]
          exact getLastN
        have cong : ∀ g' c, g' ≤ ds.length → LC n k g' c → maxL (c.map fun x => (ds ++ [mn]).getD x 0) = maxL (c.map fun x => ds.getD x 0) := fun g' c hg' lc => maxL_congr fun x hx => gs x (by have := lc.lt x hx; omega)
        refine ⟨fun x hx hx2 => ?_, fun g' hg1 hg2 => ?_⟩
        · rw [gs x (by omega)]
          exact dt.low x hx (by omega)
        · rw [List.length_append] at hg2
          have hg2' : g' < ds.length + 1 := hg2
          by_cases e : g' < ds.length
          · obtain ⟨⟨c, hc, e1⟩, e2⟩ := dt.at_ g' hg1 e
            rw [gs g' e]
            refine ⟨⟨c, hc, by rw [cong g' c (by omega) hc]; exact e1⟩, fun c hc => by rw [cong g' c (by omega) hc]; exact e2 c hc⟩
          · have eg : g' = n.many + j := by omega
            subst eg
            rw [gl]
            refine ⟨?_, fun c hc => by rw [cong _ c (by omega) hc]; exact hb' _ (List.mem_map.mpr ⟨c, (CA.mem c).mpr hc, rfl⟩)⟩
            obtain ⟨c, hc, e1⟩ := List.mem_map.mp hmn
            have lc := (CA.mem c).mp hc
            exact ⟨c, lc, by rw [cong _ c (by omega) lc]; exact e1.symm⟩
    · rintro σ H2 ⟨x3, x4, x5, ds, rfl, o2, dl, dt⟩
      rw [List.length_map, N.gs.1, show (((n.many : Nat) : Int) + ((n.gates.length : Nat) : Int) - ((n.many : Nat) : Int)).toNat = n.gates.length by omega] at dl
      exact ⟨_, rfl, q l H2 ds o2.sm o2.at_ dl dt⟩
end
end K52
set_option Elab.async false
set_option linter.all false
set_option maxRecDepth 100000
set_option maxHeartbeats 4000000
/-! Data with lists or dicts as it stands in the heap, and its text by repr. -/
namespace GX
open PySem PySem.Spec PyProof.Rows L2
def keyD : Key → PyData
  | .inl i => .int i
  | .inr x => .str x
mutual
/-- l: lists may stand in it, else dicts may -/
inductive Rp (l : Bool) (H : Hp) : V → PyData → Prop
  | non : Rp l H .non .none
  | bl (b : Bool) : Rp l H (.bl b) (.bool b)
  | int (i : Int) : Rp l H (.int i) (.int i)
  | str (x : Str) : Rp l H (.str x) (.str x)
  | lst {a : Addr} {xs : List V} {ds : List PyData} (hl : l = true) (e : H a = some (.lst xs)) (r : RpAll l H xs ds) : Rp l H (.ref a) (.list ds)
  | tup {a : Addr} {xs : List V} {ds : List PyData} (e : H a = some (.tup xs)) (r : RpAll l H xs ds) : Rp l H (.ref a) (.tuple ds)
  | dic {a : Addr} {kvs : List (Key × V)} {ps : List (PyData × PyData)} (hl : l = false) (e : H a = some (.dK kvs)) (r : RpKv l H kvs ps) : Rp l H (.ref a) (.dict ps)
inductive RpAll (l : Bool) (H : Hp) : List V → List PyData → Prop
  | nil : RpAll l H [] []
  | cons {v : V} {vs : List V} {d : PyData} {ds : List PyData} : Rp l H v d → RpAll l H vs ds → RpAll l H (v :: vs) (d :: ds)
inductive RpKv (l : Bool) (H : Hp) : List (Key × V) → List (PyData × PyData) → Prop
  | nil : RpKv l H [] []
  | cons {k : Key} {v : V} {kvs : List (Key × V)} {d : PyData} {ps : List (PyData × PyData)} : Rp l H v d → RpKv l H kvs ps → RpKv l H ((k, v) :: kvs) ((keyD k, d) :: ps)
end
mutual
theorem Rp.mono {l : Bool} {H H' : Hp} (k : KeepT H H') : ∀ {v : V} {d : PyData}, Rp l H v d → Rp l H' v d
  | _, _, .non => .non
  | _, _, .bl b => .bl b
  | _, _, .int i => .int i
  | _, _, .str x => .str x
  | _, _, .lst hl e r => .lst hl (k _ _ e fun _ z => by cases z) (r.mono k)
  | _, _, .tup e r => .tup (k _ _ e fun _ z => by cases z) (r.mono k)
  | _, _, .dic hl e r => .dic hl (k _ _ e fun _ z => by cases z) (r.mono k)
theorem RpAll.mono {l : Bool} {H H' : Hp} (k : KeepT H H') : ∀ {vs : List V} {ds : List PyData}, RpAll l H vs ds → RpAll l H' vs ds
  | _, _, .nil => .nil
  | _, _, .cons a b => .cons (a.mono k) (b.mono k)
theorem RpKv.mono {l : Bool} {H H' : Hp} (k : KeepT H H') : ∀ {kvs : List (Key × V)} {ps : List (PyData × PyData)}, RpKv l H kvs ps → RpKv l H' kvs ps
  | _, _, .nil => .nil
  | _, _, .cons a b => .cons (a.mono k) (b.mono k)
end
/-- the thing that such data is -/
def thD : PyData → Th
  | .none => .non
  | .bool b => .bl b
  | .int i => .int i
  | .str x => .str x
  | .list _ => .oth true
  | .dict _ => .oth false
  | .tuple ds => .tup (thDs ds)
where thDs : List PyData → List Th
  | [] => []
  | d :: r => thD d :: thDs r
mutual
theorem Rp.rep {l : Bool} {H : Hp} : ∀ {v : V} {d : PyData}, Rp l H v d → Rep H v (thD d)
  | _, _, .non => by rw [thD]; exact .non
  | _, _, .bl b => by rw [thD]; exact .bl b
  | _, _, .int i => by rw [thD]; exact .int i
  | _, _, .str x => by rw [thD]; exact .str x
  | _, _, .lst _ e _ => by rw [thD]; exact .lst e
  | _, _, .tup e r => by rw [thD]; exact .tup e r.rep
  | _, _, .dic _ e _ => by rw [thD]; exact .dic e
theorem RpAll.rep {l : Bool} {H : Hp} : ∀ {vs : List V} {ds : List PyData}, RpAll l H vs ds → RepAll H vs (thD.thDs ds)
  | _, _, .nil => by rw [thD.thDs]; exact .nil
  | _, _, .cons a b => by rw [thD.thDs]; exact .cons a.rep b.rep
end
/-! ### what the model reads -/
section
variable {X : Cx} {pins : List (Addr × Obj)} {σ : L2.St} {H : Hp} {s : Shared}
theorem pairs_keys {P : Program} {w : World} {es : List DictEntry} {kvs : List (Key × Value)} (p : Pairs (mixKind P w) es kvs) (h : Heap) : ReadsAll h (es.map (·.key)) (kvs.map fun kv => keyD kv.1) [] := by
  induction p with
  | nil => exact .nil
  | cons hk _ _ ih =>
    rcases keyIs_shape hk with ⟨i, tk, e1, e2⟩ | ⟨x, tk, e1, e2⟩
    · rw [List.map_cons, List.map_cons, e1, e2]
      exact ReadsAll.cons (Reads.int i tk) ih
    · rw [List.map_cons, List.map_cons, e1, e2]
      exact ReadsAll.cons (Reads.str x tk) ih
theorem pairs_vals {P : Program} {w : World} : ∀ {es : List DictEntry} {kvs : List (Key × Value)}, Pairs (mixKind P w) es kvs → es.map (·.val) = kvs.map (·.2)
  | _, _, .nil => rfl
  | _, _, .cons _ e r => by rw [List.map_cons, List.map_cons, e, pairs_vals r]
theorem kv_keys {l : Bool} : ∀ {kvs : List (Key × V)} {ps : List (PyData × PyData)} {us : List (Key × Value)}, RpKv l H kvs ps → KV kvs us → us.map (fun kv => keyD kv.1) = ps.map (·.1)
  | _, _, _, .nil, .nil => rfl
  | _, _, _, .cons _ r, .cons k t => by rw [List.map_cons, List.map_cons, kv_keys r t, ← k.1]
/-- lists: no dict in it; dicts: not the table of the modules -/
def Fits (l : Bool) (d : PyData) (as : List Addr) : Prop := (l = true → d.hasDict = false) ∧ (l = false → sysModules ∉ as)
def FitsAll (l : Bool) (ds : List PyData) (as : List Addr) : Prop := (l = true → PyData.hasDictAll ds = false) ∧ (l = false → sysModules ∉ as)
mutual
theorem Rp.reads (I : Inv X pins σ H s) {l : Bool} : ∀ (d : PyData) (v : V) (u : Value), Rp l H v d → RelV v u → ∃ as, Reads s.heap u d as ∧ Fits l d as
  | .none, _, _, h, r => by
    cases h
    cases r
    exact ⟨_, Reads.none, fun _ => by rw [PyData.hasDict], fun _ z => by cases z⟩
  | .bool b, _, _, h, r => by
    cases h
    cases r
    exact ⟨_, Reads.bool b, fun _ => by rw [PyData.hasDict], fun _ z => by cases z⟩
  | .int i, _, _, h, r => by
    cases h
    obtain ⟨t, rfl⟩ := r
    exact ⟨_, Reads.int i t, fun _ => by rw [PyData.hasDict], fun _ z => by cases z⟩
  | .str x, _, _, h, r => by
    cases h
    obtain ⟨t, rfl⟩ := r
    exact ⟨_, Reads.str x t, fun _ => by rw [PyData.hasDict], fun _ z => by cases z⟩
  | .list ds, _, _, h, r => by
    cases h with
    | lst hl e ra =>
      cases r
      obtain ⟨_, its, n, rv, eo⟩ := I.hok _ _ e
      obtain ⟨as, hr, f1, f2⟩ := RpAll.reads I ds _ its ra rv
      exact ⟨_, Reads.list eo rfl rfl hr, fun hl => (by rw [PyData.hasDict]; exact f1 hl), fun z => by rw [hl] at z; cases z⟩
  | .tuple ds, _, _, h, r => by
    cases h with
    | tup e ra =>
      cases r
      obtain ⟨_, its, rv, o, eo, hc, n, hd⟩ := I.hok _ _ e
      obtain ⟨as, hr, f1, f2⟩ := RpAll.reads I ds _ its ra rv
      exact ⟨_, Reads.tuple eo hc hd hr, fun hl => (by rw [PyData.hasDict]; exact f1 hl), f2⟩
  | .dict ps, _, _, h, r => by
    cases h with
    | dic hl e ra =>
      cases r
      obtain ⟨_, hS, us, rk, o, es, ep, eo, hx, hd, _, hp, _⟩ := I.hok _ _ e
      obtain ⟨bs, hr, f1, f2⟩ := RpKv.reads I ps _ us ra rk
      have k1 := pairs_keys hp s.heap
      rw [kv_keys ra rk] at k1
      rw [← pairs_vals hp] at hr
      refine ⟨_, Reads.dict eo hx.1 hd k1 hr, fun hl' => (by rw [hl] at hl'; cases hl'), fun hl' z => ?_⟩
      rcases List.mem_append.mp z with z | z
      · rw [← List.mem_singleton.mp z] at hS
        simp at hS
      · exact f2 hl' z
theorem RpAll.reads (I : Inv X pins σ H s) {l : Bool} : ∀ (ds : List PyData) (vs : List V) (us : List Value), RpAll l H vs ds → Vals vs us → ∃ as, ReadsAll s.heap us ds as ∧ FitsAll l ds as
  | [], _, _, h, r => by
    cases h
    cases r
    exact ⟨_, ReadsAll.nil, fun _ => by rw [PyData.hasDictAll], fun _ z => by cases z⟩
  | d :: ds, _, _, h, r => by
    cases h with
    | cons h1 h2 =>
      cases r with
      | cons r1 r2 =>
        obtain ⟨as, q1, f1, f2⟩ := Rp.reads I d _ _ h1 r1
        obtain ⟨bs, q2, g1, g2⟩ := RpAll.reads I ds _ _ h2 r2
        refine ⟨_, ReadsAll.cons q1 q2, fun hl => (by rw [PyData.hasDictAll, f1 hl, g1 hl]; rfl), fun hl z => ?_⟩
        rcases List.mem_append.mp z with z | z
        · exact f2 hl z
        · exact g2 hl z
theorem RpKv.reads (I : Inv X pins σ H s) {l : Bool} : ∀ (ps : List (PyData × PyData)) (kvs : List (Key × V)) (us : List (Key × Value)), RpKv l H kvs ps → KV kvs us → ∃ as, ReadsAll s.heap (us.map (·.2)) (ps.map (·.2)) as ∧ FitsAll l (ps.map (·.2)) as
  | [], _, _, h, r => by
    cases h
    cases r
    exact ⟨_, ReadsAll.nil, fun _ => (by rw [List.map_nil, PyData.hasDictAll]), fun _ z => by cases z⟩
  | p :: ps, _, _, h, r => by
    cases h with
    | cons h1 h2 =>
      cases r with
      | cons r1 r2 =>
        obtain ⟨as, q1, f1, f2⟩ := Rp.reads I _ _ _ h1 r1.2
        obtain ⟨bs, q2, g1, g2⟩ := RpKv.reads I ps _ _ h2 r2
        refine ⟨_, ReadsAll.cons q1 q2, fun hl => (by rw [List.map_cons, PyData.hasDictAll, f1 hl, g1 hl]; rfl), fun hl z => ?_⟩
        rcases List.mem_append.mp z with z | z
        · exact f2 hl z
        · exact g2 hl z
end
end
/-- repr of such data, where no other repr is under way -/
def rRepr : List V → Hp → VK → Prop := fun xs H Q => ∃ (v : V) (l : Bool) (d : PyData), xs = [v] ∧ Rp l H v d ∧ d.showable = true ∧ d.depth ≤ 60 ∧ d.shown.length ≤ sizeLine ∧ Q (.str d.shown) H
theorem cr_repr {X : Cx} (hu : X.A.units + 64 < cLine) (hg : X.A.guards = some []) : CallR X (.builtin "repr") rRepr := by
  intro pins s σ H xs us Q I r h
  obtain ⟨v, l, d, rfl, rp, hs, hd, hz, q⟩ := h
  obtain ⟨u, rfl, ru⟩ := vals1 r
  obtain ⟨as, rd, f1, f2⟩ := rp.reads I d v u ru
  have fin : ∀ h' tk (t : Tok), (∀ b o, s.heap.get? b = some o → h'.get? b = some o) → EP X pins σ Q (.str d.shown t) { s with heap := h', toks := tk } := fun h' tk t k => ⟨.str d.shown, H, I.kept k, ⟨t, rfl⟩, q⟩
  cases rp with
  | non =>
    cases ru
    rw [PyData.shown] at q fin
    exact PySem.P.repr_of_none (fin s.heap _ _ fun _ _ e => e)
  | bl b =>
    cases ru
    rw [PyData.shown] at q fin
    exact PySem.P.repr_of_bool (fin s.heap _ _ fun _ _ e => e)
  | int i =>
    obtain ⟨t, rfl⟩ := ru
    rw [PyData.shown] at q fin
    exact PySem.P.repr_of_int (by simpa [PyData.showable] using hs) (fin s.heap _ _ fun _ _ e => e)
  | str x =>
    obtain ⟨t, rfl⟩ := ru
    rw [PyData.shown] at q fin hz
    exact PySem.P.repr_of_str (fin s.heap _ _ fun _ _ e => e) hz
  | lst hl e r =>
    cases ru
    exact repr_of_reads' rd hs (by
      cases l with
      | true => intro z; rw [f1 rfl] at z; cases z
      | false => exact fun _ => f2 rfl) hg (by omega) (fun _ _ e => e) (fun h' u tk k => fin h' tk u k) hz
  | tup e r =>
    cases ru
    exact repr_of_reads' rd hs (by
      cases l with
      | true => intro z; rw [f1 rfl] at z; cases z
      | false => exact fun _ => f2 rfl) hg (by omega) (fun _ _ e => e) (fun h' u tk k => fin h' tk u k) hz
  | dic hl e r =>
    cases ru
    exact repr_of_reads' rd hs (by
      cases l with
      | true => intro z; rw [f1 rfl] at z; cases z
      | false => exact fun _ => f2 rfl) hg (by omega) (fun _ _ e => e) (fun h' u tk k => fin h' tk u k) hz
end GX
set_option Elab.async false
set_option linter.all false
set_option maxRecDepth 100000
set_option maxHeartbeats 4000000
/-! Promises of defs that ask repr: they hold where no repr is under way. -/
namespace GX
open PySem PySem.Spec PyProof.Rows L2
open C8 (Cal pe_c)
structure FnG (P : Program) (w : World) (K : PySem.W.Frag) (mg : Str → Option Value) (base : Heap) (k : Nat) (f : Addr) (fd : FuncData) (ps : List Str) (sp : Sp) : Prop where
  len : ∀ vs H Q E, sp vs H Q E → vs.length = ps.length
  go : ∀ (A : Around), A.guards = some [] → Room k A → ∀ (fr : List Env) (s : Shared) (H : Hp), Env0 P w K mg base A fr s H → ∀ (args : Args) (us : List Value) (vs : List V), BindsTo s fd args (ps.zip us) → Vals vs us → ∀ (Q : VK) (E : XK), sp vs H Q E →
    codeAny (model P w) A (.call (.ref f) args) (CR L2.CX0 fr P w H s Q E) s
section
variable {P : Program} {w : World} {K : PySem.W.Frag} {mg : Str → Option Value} {base : Heap}
/-- such a def by its body -/
theorem fnG {x : Str} {st : Stmt} {f c : Addr} {N ps : List Str} {k : Nat} {sp : Sp} {oc kV doc pm ct : Value} {od an : Option Addr} {osl : Array (Option Value)}
    (lk : K.lookup f = some ⟨oc, od, .func (PySem.W.fnOf x x (defArgs st) (defBody st) (defScope st) .none kV doc pm an (.ref c) ct), osl⟩) (cd : PySem.W.codeIn K (.ref c) x = true)
    (S : FnScope N ps (defScope st)) (len : ∀ vs H Q E, sp vs H Q E → vs.length = ps.length)
    (body : ∀ (A : Around) (outer : List Env) (s : Shared) (H : Hp) (vs : List V) (Q : VK) (E : XK), A.guards = some [] → Room k (A.deeper (envOfC x (defScope st) s.heap.objs.size f (.ref c))) → sp vs H Q E →
      ∃ t, PSs (cxOf L2.CX0 P w K mg base N x (defScope st) f (.ref c) A outer s H E).nox (defBody st) t ∧ t { nx := fun _ H' => Q .non H', rt := Q } (start N vs) H) :
    FnG P w K mg base (k + 1) f (PySem.W.fnOf x x (defArgs st) (defBody st) (defScope st) .none kV doc pm an (.ref c) ct) ps sp where
  len := len
  go := by
    intro A hA hr fr s H e0 args us vs hb hv Q E hsp
    have stays := fun b o (e : base.get? b = some o) => (e0.bs b o e).1
    have KX : K.In s.heap := e0.mod.kin.keeps stays
    obtain ⟨t, ht, q⟩ := body A fr s H vs Q E hA (hr.deeper _) hsp
    refine codeAny_call_function hr.depth (KX _ _ lk) rfl S.co S.gen rfl (PySem.W.codeRec_of KX cd) (hb _ _ _ _ ?_)
    refine wpAny_newFunctionEnv_cells S.kind (fun y hy => ?_) fun env he s1 z => ?_
    · have hm : y.1 ∈ ps := (List.of_mem_zip (show (y.1, y.2) ∈ ps.zip us from hy)).1
      rcases S.par y.1 hm with a | a
      · exact .inl a
      · exact .inr ⟨a, PySem.W.cellsFrom_some _ _ _ (.inl a)⟩
    subst he
    have I := inv_start (CX := L2.CX0) (E := E) S hr.hd e0 (len _ _ _ _ hsp) hv z
    refine ⟨(e0.mod.nolimit.keeps stays).keeps z.toInCall.keep, codeAny_func ?_⟩
    refine wpAny_mono (ht.nox.run [] s1 _ H _ I q) (fun fl s' h => ?_) fun _ _ h => h
    cases fl with
    | ret u =>
      obtain ⟨v, σ', H', J, rv, q'⟩ := h
      exact ⟨v, H', J.os, J.bare, J.base, J.hok, rv, q'⟩
    | next =>
      obtain ⟨σ', H', J, q'⟩ := h
      exact ⟨V.non, H', J.os, J.bare, J.base, J.hok, rfl, q'⟩
    | brk => exact (h.elim fun _ h => h.elim fun _ h => False.elim h.2)
    | cont => exact (h.elim fun _ h => h.elim fun _ h => False.elim h.2)
/-- .. by its name -/
structure CalG (P : Program) (w : World) (K : PySem.W.Frag) (mg : Str → Option Value) (base : Heap) (k : Nat) (x : Str) (sp : Sp) : Prop where
  ex : ∃ (f : Addr) (fd : FuncData) (ps : List Str), FnG P w K mg base k f fd ps sp ∧ mg x = some (.ref f) ∧ PySem.W.keepIn K (.ref f) = true ∧ Binds K fd ps []
theorem calG {x : Str} {st : Stmt} {f c : Addr} {N ps : List Str} {k : Nat} {sp : Sp} (D : Dfn K mg x st f c)
    (hb : ∀ (kV doc pm : Value) (an : Option Addr) (cdv ct : Value) (us : List Value), us.length = ps.length → bindArgs (PySem.W.fnOf x x (defArgs st) (defBody st) (defScope st) .none kV doc pm an cdv ct) ⟨us, []⟩ = pure (ps.zip us))
    (S : FnScope N ps (defScope st)) (len : ∀ vs H Q E, sp vs H Q E → vs.length = ps.length)
    (body : ∀ (A : Around) (outer : List Env) (s : Shared) (H : Hp) (vs : List V) (Q : VK) (E : XK), A.guards = some [] → Room k (A.deeper (envOfC x (defScope st) s.heap.objs.size f (.ref c))) → sp vs H Q E →
      ∃ t, PSs (cxOf L2.CX0 P w K mg base N x (defScope st) f (.ref c) A outer s H E).nox (defBody st) t ∧ t { nx := fun _ H' => Q .non H', rt := Q } (start N vs) H) : CalG P w K mg base (k + 1) x sp := by
  obtain ⟨oc, od, kV, doc, pm, an, ct, osl, lk⟩ := D.ex
  exact ⟨f, _, ps, fnG lk D.hcd S len body, D.mgf, D.kp, .all (hb kV doc pm an (.ref c) ct)⟩
end
section
variable {X : Cx} {j k : Nat} {x : Str} {sp : Sp} {p pos : Pos} {e : Expr} {es : List Expr} {t : TA}
theorem pe_cG (c : CalG X.prog X.w X.K X.mg X.base k x sp) (hr : Room j X.A) (hA : X.A.guards = some []) (hk : k ≤ j) (hg : Gl X x) (ha : PA X (e :: es) t)
    (hdb : (x == ("__debug__" : Str)) = false := by decide) (he : starEach (e :: es) X.env = (false, eval e X.env) :: starEach es X.env := by rfl) (hpl : (backTo pos (starEach es X.env)).any (·.1) = false := by rfl) :
    PE X (.Call (.Name x p) (e :: es) [] pos) (tCall sp [] C8.E0 t) := by
  obtain ⟨f, fd, ps, F, hm, kp, b⟩ := c.ex
  refine ⟨fun pins s σ H Q I h => wpAny_Call_Name_kw (ld_glob I hg hm ?_ hdb)⟩
  refine PySem.W.callWith_K (h₀ := X.base) I.ok.mod.kin kp (thn (ha.run pos pins s σ H _ I h) fun us s1 ⟨vs, H1, I1, rv, q⟩ => ⟨I1.kIn, ?_⟩) he hpl
  have q : sp (vs ++ []) H1 Q C8.E0 := q
  rw [List.append_nil] at q
  show wpAny _ _ (call (.ref f) us) _ _ _
  have lu : us.length = ps.length := by rw [← rv.length]; exact F.len _ _ _ _ q
  have hb := b s1 us I1.kIn (by rw [List.append_nil]; exact lu)
  rw [List.append_nil] at hb
  refine wpAny_call (codeAny_mono (F.go X.A hA (hr.mono hk) X.stack s1 H1 I1.env0 ⟨us, []⟩ us vs hb rv _ _ q) fun r s' h => ?_)
  rcases r with e | fl
  · exact False.elim h
  · cases fl with
    | ret u => exact I1.after h
    | _ => exact False.elim h
end
/-! ### the law's end for such a law -/
section
variable {P : Program} {w : World} {K : PySem.W.Frag} {mg mb : Str → Option Value} {k : Nat} {fa a : Addr} {cs : List (Addr × Addr)} {fd : FuncData} {x : Str} {sp : Sp} {s : Shared} {vs : List Value} {ns : List Int}
def tabObj : Obj := { cls := .none, data := .fields #[] }
def scrObj (vs : List Value) : Obj := { cls := .type "list", data := .seq vs.toArray }
/-- what is tracked when the law begins: the tables, and the script where it is no part of the written -/
def begin' (Ts : List Addr) (K : PySem.W.Frag) (a : Addr) (vs : List Value) (ns : List Int) : Hp := fun b =>
  if b ∈ Ts then some (.tbl #[]) else if b = a ∧ K.lookup a = none then some (.frz (scrObj vs) (.lst (ns.map V.int))) else none
structure LawIn (K : PySem.W.Frag) (mg mb : Str → Option Value) (cs : List (Addr × Addr)) (a : Addr) (vs : List Value) (ns : List Int) (h : Heap) : Prop where
  kin : K.In h
  ns_ : h.Ns mainGlobals mg
  bl : h.Ns builtinsNs mb
  bb : ∀ x : Str, x ≠ "__name__" → mb x = bootBuiltins x
  nl : h.NoLimit
  tab : ∀ p ∈ cs, h.get? p.2 = some tabObj
  ntab : ∀ p ∈ cs, K.lookup p.2 = none
  code : ∀ p ∈ cs, PySem.W.CodeHd h p.1 p.2
  bm : ∃ (bm : Addr) (ob : Obj), mg "__builtins__" = some (.ref bm) ∧ bm ≠ builtinsNs ∧ h.get? bm = some ob ∧ ob.cls = .type "module" ∧ ob.dict = some builtinsNs ∧ ob.data = .plain
  scr : h.get? a = some (scrObj vs)
  iv : IntsAre vs ns
  room : ns.length ≤ sizeLine
section
variable {h : Heap} (L : LawIn K mg mb cs a vs ns h)
include L
theorem LawIn.tabs {b : Addr} (hb : b ∈ cs.map (·.2)) : h.get? b = some tabObj := by
  obtain ⟨p, hp, rfl⟩ := List.mem_map.mp hb
  exact L.tab p hp
theorem LawIn.apart : a ∉ cs.map (·.2) := fun hb => by
  have e := L.tabs hb
  rw [L.scr] at e
  have e2 := congrArg Obj.data (Option.some.inj e)
  cases e2
/-- where something is tracked there stands a table or the script -/
theorem LawIn.what {b : Addr} {u : HO} (e : begin' (cs.map (·.2)) K a vs ns b = some u) : (b ∈ cs.map (·.2) ∧ u = .tbl #[]) ∨ (b = a ∧ K.lookup a = none ∧ u = .frz (scrObj vs) (.lst (ns.map V.int))) := by
  unfold begin' at e
  by_cases hb : b ∈ cs.map (·.2)
  · rw [if_pos hb] at e
    exact .inl ⟨hb, (Option.some.inj e).symm⟩
  · rw [if_neg hb] at e
    by_cases hc : b = a ∧ K.lookup a = none
    · rw [if_pos hc] at e
      exact .inr ⟨hc.1, hc.2, (Option.some.inj e).symm⟩
    · rw [if_neg hc] at e
      cases e
theorem LawIn.free {b : Addr} {o : Obj} (e : h.get? b = some o) (h1 : o ≠ tabObj) (h2 : o ≠ scrObj vs) : begin' (cs.map (·.2)) K a vs ns b = none := by
  cases q : begin' (cs.map (·.2)) K a vs ns b with
  | none => rfl
  | some u =>
    rcases L.what q with ⟨hb, _⟩ | ⟨rfl, _⟩
    · rw [L.tabs hb] at e
      exact absurd (Option.some.inj e).symm h1
    · rw [L.scr] at e
      exact absurd (Option.some.inj e).symm h2
theorem LawIn.freeK {b : Addr} {o : Obj} (e : K.lookup b = some o) : begin' (cs.map (·.2)) K a vs ns b = none := by
  cases q : begin' (cs.map (·.2)) K a vs ns b with
  | none => rfl
  | some u =>
    rcases L.what q with ⟨hb, _⟩ | ⟨rfl, hk, _⟩
    · obtain ⟨p, hp, rfl⟩ := List.mem_map.mp hb
      rw [L.ntab p hp] at e
      cases e
    · rw [hk] at e
      cases e
theorem LawIn.holds {w : World} {P : Program} : HOk P w (begin' (cs.map (·.2)) K a vs ns) h := fun b u e => by
  rcases L.what e with ⟨hb, rfl⟩ | ⟨rfl, _, rfl⟩
  · exact L.tabs hb
  · exact ⟨L.scr, by rw [List.length_map]; exact L.room, vs, _, vals_ints L.iv, L.scr⟩
theorem LawIn.dicts {b : Addr} {m : Str → Option Value} (e : h.Ns b m) : (hidT h (begin' (cs.map (·.2)) K a vs ns)).Ns b m := by
  obtain ⟨o, es, ep, e1, e2, r⟩ := e
  exact ⟨o, es, ep, hidT_get e1 (L.free e1 (fun z => by rw [z] at e2; cases e2) (fun z => by rw [z] at e2; cases e2)), e2, r⟩
theorem LawIn.kinB : K.In (hidT h (begin' (cs.map (·.2)) K a vs ns)) := fun b o e => hidT_get (L.kin b o e) (L.freeK e)
theorem LawIn.mod : L2.Mod K mg (hidT h (begin' (cs.map (·.2)) K a vs ns)) :=
  ⟨L.kinB, L.dicts L.ns_, ⟨mb, L.dicts L.bl, L.bb⟩, let ⟨mc, z, n⟩ := L.nl; ⟨mc, L.dicts z, n⟩⟩
theorem LawIn.tabB : ∀ p ∈ cs, LamX.TabB (hidT h (begin' (cs.map (·.2)) K a vs ns)) mg p.1 p.2 := fun p hp => by
  have notMain : mainGlobals ≠ p.2 := fun z => by
    obtain ⟨o, es, ep, e, d, _⟩ := L.ns_
    rw [z, L.tab p hp] at e
    cases e
    cases d
  refine ⟨?_, ?_, notMain⟩
  · obtain ⟨o, us, file, tf, fl, tg, iF, tx, tt, e, r⟩ := L.code p hp
    refine ⟨o, us, file, tf, fl, tg, iF, tx, tt, hidT_get e (L.free e (fun z => ?_) fun z => ?_), r⟩
    · have := r.1
      rw [z] at this
      cases this
    · have := r.1
      rw [z] at this
      injection this with e
      exact absurd e (by decide)
  · obtain ⟨bm, ob, b1, b2, b3, b4, b5, b6⟩ := L.bm
    refine ⟨bm, ob, b1, b2, fun z => ?_, fun z => ?_, hidT_get b3 (L.free b3 (fun z => by rw [z] at b6; cases b6) fun z => by rw [z] at b6; cases b6), b4, b5, b6⟩
    · obtain ⟨o, es, ep, e, d, _⟩ := L.ns_
      rw [← z, b3] at e
      cases e
      rw [b6] at d
      cases d
    · rw [z, L.tab p hp] at b3
      cases b3
      cases b6
theorem LawIn.script : SqL K (begin' (cs.map (·.2)) K a vs ns) a (ns.map V.int) := by
  cases hk : K.lookup a with
  | none => exact .inl (.inr ⟨scrObj vs, by
      unfold begin'
      rw [if_neg L.apart, if_pos ⟨rfl, hk⟩]⟩)
  | some o =>
    have e := L.kin a o hk
    rw [L.scr] at e
    cases e
    exact .inr ⟨_, vs.toArray, _, hk, rfl, rfl, rfl, by rw [List.size_toArray, L.iv.length]; exact L.room, vals_ints L.iv⟩
end
theorem law_callG (L : LawIn K mg mb cs a vs ns s.heap) (hg : s.gens = #[]) (hr : Room k callerA)
    (F : ∀ base : Heap, K.In base → base.Ns mainGlobals mg → (∀ p ∈ cs, LamX.TabB base mg p.1 p.2) → FnG P w K mg base k fa fd [x] sp) (hbind : ∀ (z : Shared) (u : Value), BindsTo z fd ⟨[u], []⟩ [(x, u)])
    (hsp : ∀ H : Hp, (∀ p ∈ cs, H p.2 = some (.tbl #[])) → SqL K H a (ns.map V.int) → sp [.ref a] H (fun v _ => v = .bl true) fun _ _ _ => False) :
    codeAny (model P w) callerA (.call (.ref fa) ⟨[.ref a], []⟩) (fun r s' => r = .ok (.ret (.bool true)) ∧ OldK s.heap s'.heap ∧ s'.os = s.os ∧ AllBare s'.gens) s := by
  let B := begin' (cs.map (·.2)) K a vs ns
  have tb : ∀ p ∈ cs, B p.2 = some (.tbl #[]) := fun p hp => if_pos (List.mem_map.mpr ⟨p, hp, rfl⟩)
  have e0 : Env0 P w K mg (hidT s.heap B) callerA [] s B := ⟨rfl, L.mod, fun b o e => of_hidT e, Nat.le_of_eq (hidT_size _ _), trivial, fun b hb => (by cases hb), L.holds, .of_eq hg⟩
  refine codeAny_mono ((F _ L.kinB (L.dicts L.ns_) L.tabB).go callerA rfl hr [] s B e0 ⟨[.ref a], []⟩ [.ref a] [.ref a] (hbind s _) (.cons rfl .nil) _ _ (hsp B tb L.script)) fun r s' h => ?_
  rcases r with e | fl
  · exact False.elim h
  cases fl with
  | ret u =>
    obtain ⟨v, H', os, bare, un, ok', rv, q⟩ := h
    cases (show v = V.bl true from q)
    cases (show u = Value.bool true from rv)
    have stays : ∀ b o, b ∉ cs.map (·.2) → s.heap.get? b = some o → s'.heap.get? b = some o := fun b o nb e => by
      cases z : B b with
      | none => exact un.keep b o e z (fun m => by cases m) (fun m => by cases m)
      | some y =>
        rcases L.what z with ⟨hb, _⟩ | ⟨rfl, _, rfl⟩
        · exact absurd hb nb
        · have e2 := (ok' _ _ (un.frzs _ _ _ z)).1
          rw [L.scr] at e
          cases e
          exact e2
    refine ⟨rfl, ⟨fun b o e => ?_, fun b o e => ?_⟩, os, bare⟩
    all_goals by_cases hb : b ∈ cs.map (·.2)
    · obtain ⟨p, hp, rfl⟩ := List.mem_map.mp hb
      obtain ⟨more, z⟩ := un.tbls p.2 #[] (tb p hp)
      have e2 : s'.heap.get? p.2 = some { cls := .none, data := .fields (#[] ++ more) } := ok' _ _ z
      rw [L.tab p hp] at e
      cases e
      exact .inr (.inl ⟨((L.code p hp).tab (L.tab p hp)).isCodeTable, rfl, #[], more, rfl, e2⟩)
    · exact .inl (stays b o hb e)
    · obtain ⟨p, hp, rfl⟩ := List.mem_map.mp hb
      obtain ⟨more, z⟩ := un.tbls p.2 #[] (tb p hp)
      exact ⟨_, ok' _ _ z⟩
    · exact ⟨o, stays b o hb e⟩
  | _ => exact False.elim h
end
theorem tabs_of {q : Program} {loose : List Str} {XP : (Str → Option Value) → Heap → Prop} {R : PySem.W.WRecords} {w : World} {s₀ : Shared} {mg mb : Str → Option Value} {h : Heap} {K : PySem.W.Frag} (KX : K.In h) (G : PySem.W.Ground q loose R XP w s₀ mg mb h) (y : Str) (hy : ((recsOf q).any fun e => e.name == y) = true) : TabOf K mg h y := by
  intro fa c P o1 fd1 e dd vs1 sl k0 k1 k2 k3 k4 k5
  obtain ⟨dL, hm, hn⟩ := List.any_eq_true.mp hy
  have hn : dL.name = y := beq_iff_eq.mp hn
  obtain ⟨a', o', fd', c', P', h1, h2, h3, h4, h5, ⟨oc, vc, e1, _, e3, e4⟩, hP⟩ := G.T.tab dL hm
  rw [hn, k0] at h1
  cases h1
  rw [KX _ _ k1] at h2
  cases h2
  rw [k2] at h3
  cases h3
  rw [k3] at h4
  cases h4
  rw [KX _ _ k4] at e1
  cases e1
  cases e3
  rw [k5] at e4
  cases e4
  exact hP
/-- what is known of such a law's promise -/
def LawAtG (l : PySem.W.OpenLaw) (w : World) (K : PySem.W.Frag) (k n : Nat) (x : Str) (mg : Str → Option Value) (fa : Addr) (h : Heap) : Prop :=
  ∃ (fd : FuncData) (cs : List (Addr × Addr)) (sp : Sp), ((∀ p ∈ cs, h.get? p.2 = some tabObj) ∧ (∀ p ∈ cs, K.lookup p.2 = none) ∧ ∀ p ∈ cs, PySem.W.CodeHd h p.1 p.2) ∧ (∀ (s : Shared) (u : Value), BindsTo s fd ⟨[u], []⟩ [(x, u)]) ∧
    (∀ (H : Hp) (a : Addr) (ns : List Int), ns.length ≤ n → (∀ p ∈ cs, H p.2 = some (.tbl #[])) → SqL K H a (ns.map V.int) → sp [.ref a] H (fun v _ => v = .bl true) fun _ _ _ => False) ∧
    ∀ base : Heap, K.In base → base.Ns mainGlobals mg → (∀ p ∈ cs, LamX.TabB base mg p.1 p.2) → FnG l.prog w K mg base k fa fd [x] sp
theorem walk_defsG {l : PySem.W.OpenLaw} {n k : Nat} {q : Program} {loose : List Str} {XP : (Str → Option Value) → Heap → Prop} {YP : World → Heap → Prop} {d : DefRec} {K : Params → PySem.W.Frag} {x : Str}
    (hn : l.most = some n) (hn2 : n ≤ sizeLine) (hdf : d.params.defaults = []) (hr : Room k callerA) (hY : ∀ (w : World) (h : Heap), YP w h → (K w.params).In h)
    (F : ∀ (w : World) (mg : Str → Option Value) (fa : Addr) (h : Heap), YP w h → (K w.params).In h → h.Ns mainGlobals mg → mg d.name = some (.ref fa) → (∀ y : Str, ((recsOf q).any fun e => e.name == y) = true → TabOf (K w.params) mg h y) → LawAtG l w (K w.params) k n x mg fa h) :
    PySem.W.WalkO q loose XP YP l.row.toRowW d [] (fun f vs => PySem.call f vs) := by
  refine Att.attach_callB hn hdf fun w s₀ s₁ mg mb fa o pm cd doc a vs ns G Y ho hd hcd hmg hobj hints hlen hbits hg => ?_
  have KX := hY w _ Y
  obtain ⟨fd, cs, sp, ⟨t1, t2, t3⟩, hb, hsp, hF⟩ := F w mg fa _ Y KX G.T.g hmg (tabs_of KX G)
  exact law_callG ⟨KX, G.T.g, G.T.b, G.T.builtins, G.T.nolimit, t1, t2, t3, G.T.bmain, hobj, hints, Nat.le_trans hlen hn2⟩ hg hr hF hb fun H hH hS => hsp H a ns hlen hH hS
end GX
set_option Elab.async false
set_option linter.all false
set_option maxRecDepth 100000
set_option maxHeartbeats 4000000
/-! How long the texts are. -/
namespace GX
open PySem PySem.Spec PyProof.Rows L2
theorem textFrom_up : ∀ (ts : List Str) (k : Nat) (acc : Str), (textFrom k acc ts).length ≤ acc.length + piled ts
  | [], k, acc => Nat.le_add_right _ _
  | t :: r, k, acc => by
    have e : (acc ++ (if k > 0 then ", " else "" : String) ++ t).length ≤ acc.length + 2 + t.length := by
      rw [strLen_append, strLen_append]
      have : (((if k > 0 then ", " else "" : String) : Str)).length ≤ 2 := by split <;> decide
      omega
    have ih := textFrom_up r (k + 1) (acc ++ (if k > 0 then ", " else "" : String) ++ t)
    show (textFrom (k + 1) _ r).length ≤ _
    rw [piled_cons]
    omega
theorem listText_up (ts : List Str) : (listText ts).length ≤ piled ts + 2 := by
  have := textFrom_up ts 0 "["
  unfold listText
  rw [strLen_append]
  have e1 : ((("[" : String) : Str)).length = 1 := rfl
  have e2 : ((("]" : String) : Str)).length = 1 := rfl
  rw [e1] at this
  rw [e2]
  omega
theorem join_up (ts : List Str) : (Str.join ", " ts).length ≤ piled ts := by
  by_cases h : ts = []
  · subst h; exact Nat.zero_le _
  · have := join_length_add ts h
    omega
theorem tupleText_up (ts : List Str) : (tupleText ts).length ≤ piled ts + 3 := by
  have := join_up ts
  unfold tupleText
  rw [strLen_append, strLen_append]
  have e1 : ((("(" : String) : Str)).length = 1 := rfl
  have e3 : (((if ts.length == 1 then ",)" else ")" : String) : Str)).length ≤ 2 := by split <;> decide
  rw [e1]
  omega
theorem dictText_up (ts : List Str) : (dictText ts).length ≤ piled ts + 2 := by
  have := join_up ts
  unfold dictText
  rw [strLen_append, strLen_append]
  have e1 : ((("{" : String) : Str)).length = 1 := rfl
  have e2 : ((("}" : String) : Str)).length = 1 := rfl
  rw [e1, e2]
  omega
/-- shown within m levels and n signs -/
structure Sd (m n : Nat) (d : PyData) : Prop where
  sh : d.showable = true
  dp : d.depth ≤ m
  ln : d.shown.length ≤ n
theorem Sd.mono {m n m' n' : Nat} {d : PyData} (h : Sd m n d) (a : m ≤ m') (b : n ≤ n') : Sd m' n' d := ⟨h.sh, Nat.le_trans h.dp a, Nat.le_trans h.ln b⟩
theorem sd_all {m n : Nat} : ∀ {ds : List PyData}, (∀ d ∈ ds, Sd m n d) → PyData.showableAll ds = true ∧ PyData.depthAll ds ≤ m ∧ piled (PyData.shownAll ds) ≤ ds.length * (n + 2)
  | [], _ => ⟨by rw [PyData.showableAll], Nat.zero_le _, by rw [PyData.shownAll]; exact Nat.zero_le _⟩
  | d :: ds, h => by
    obtain ⟨h1, h2, h3⟩ := sd_all fun e he => h e (List.mem_cons_of_mem _ he)
    have hd := h d List.mem_cons_self
    refine ⟨by rw [PyData.showableAll, hd.sh, h1]; rfl, ?_, ?_⟩
    · show max d.depth (PyData.depthAll ds) ≤ m
      have := hd.dp
      omega
    · rw [PyData.shownAll, piled_cons, List.length_cons, Nat.succ_mul]
      have := hd.ln
      omega
theorem Sd.tup {m n c : Nat} {ds : List PyData} (h : ∀ d ∈ ds, Sd m n d) (hc : ds.length ≤ c) : Sd (m + 1) (c * (n + 2) + 3) (.tuple ds) := by
  obtain ⟨h1, h2, h3⟩ := sd_all h
  refine ⟨by rw [PyData.showable]; exact h1, Nat.succ_le_succ h2, ?_⟩
  rw [PyData.shown]
  have := tupleText_up (PyData.shownAll ds)
  have := Nat.mul_le_mul_right (n + 2) hc
  omega
theorem Sd.lst {m n c : Nat} {ds : List PyData} (h : ∀ d ∈ ds, Sd m n d) (hc : ds.length ≤ c) : Sd (m + 1) (c * (n + 2) + 3) (.list ds) := by
  obtain ⟨h1, h2, h3⟩ := sd_all h
  refine ⟨by rw [PyData.showable]; exact h1, Nat.succ_le_succ h2, ?_⟩
  rw [PyData.shown]
  have := listText_up (PyData.shownAll ds)
  have := Nat.mul_le_mul_right (n + 2) hc
  omega
theorem Sd.dic0 : Sd 1 3 (.dict []) := ⟨by decide +kernel, by decide +kernel, by decide +kernel⟩
theorem Sd.dic1 {m n : Nat} {k d : PyData} (hk : Sd m n k) (h : Sd m n d) : Sd (m + 1) (2 * n + 6) (.dict [(k, d)]) := by
  refine ⟨?_, ?_, ?_⟩
  · rw [PyData.showable, PyData.showableKv, PyData.showableKv, hk.sh, h.sh]
    rfl
  · have := hk.dp
    have := h.dp
    simp only [PyData.depth, PyData.depthKv]
    omega
  · rw [PyData.shown, PyData.shownKv, PyData.shownKv]
    have h1 := dictText_up [k.shown ++ ": " ++ d.shown]
    rw [piled_cons, piled_nil, strLen_append, strLen_append] at h1
    have e : (((": " : String) : Str)).length = 2 := rfl
    rw [e] at h1
    have := hk.ln
    have := h.ln
    omega
theorem small_text : ∀ k < 1000, ((toString ((k : Nat) : Int) : String) : Str).length ≤ 4 ∧ ((toString (-((k : Nat) : Int)) : String) : Str).length ≤ 4 ∧ (reprText ((toString ((k : Nat) : Int) : String) : Str)).length ≤ 6 ∧ (reprText ((toString (-((k : Nat) : Int)) : String) : Str)).length ≤ 6 := by decide +kernel
theorem small_int {i : Int} (h : i.natAbs < 1000) : ((toString i : String) : Str).length ≤ 4 ∧ (reprText ((toString i : String) : Str)).length ≤ 6 := by
  have := small_text i.natAbs h
  rcases Int.natAbs_eq i with e | e
  · rw [← e] at this
    exact ⟨this.1, this.2.2.1⟩
  · rw [← e] at this
    exact ⟨this.2.1, this.2.2.2⟩
theorem log_small {i : Nat} (h : i < 1000) : i.log2 < 1920 := by
  by_cases z : i = 0
  · subst z; decide
  · exact Nat.lt_of_lt_of_le ((Nat.log2_lt z).mpr (show i < 2 ^ 10 by omega)) (by decide)
theorem Sd.int {i : Int} (h : i.natAbs < 1000) : Sd 0 4 (.int i) := ⟨by rw [PyData.showable]; exact decide_eq_true (log_small h), Nat.zero_le _, by rw [PyData.shown]; exact (small_int h).1⟩
theorem Sd.none : Sd 0 4 .none := ⟨by decide +kernel, by decide +kernel, by decide +kernel⟩
theorem Sd.bl (b : Bool) : Sd 0 5 (.bool b) := by cases b <;> exact ⟨by decide +kernel, by decide +kernel, by decide +kernel⟩
/-- such a thing in the heap -/
def Shw (l : Bool) (m n : Nat) (H : Hp) (v : V) : Prop := ∃ d, Rp l H v d ∧ Sd m n d
def ShAll (l : Bool) (m n : Nat) (H : Hp) (vs : List V) : Prop := ∃ ds, RpAll l H vs ds ∧ ∀ d ∈ ds, Sd m n d
theorem RpAll.length {l : Bool} {H : Hp} : ∀ {vs : List V} {ds : List PyData}, RpAll l H vs ds → vs.length = ds.length
  | _, _, .nil => rfl
  | _, _, .cons _ b => by rw [List.length_cons, List.length_cons, b.length]
theorem RpAll.append {l : Bool} {H : Hp} : ∀ {vs ws : List V} {ds es : List PyData}, RpAll l H vs ds → RpAll l H ws es → RpAll l H (vs ++ ws) (ds ++ es)
  | _, _, _, _, .nil, s => s
  | _, _, _, _, .cons a b, s => .cons a (b.append s)
theorem RpAll.drop {l : Bool} {H : Hp} : ∀ {vs : List V} {ds : List PyData} (n : Nat), RpAll l H vs ds → RpAll l H (vs.drop n) (ds.drop n)
  | _, _, 0, r => r
  | _, _, _ + 1, .nil => .nil
  | _, _, n + 1, .cons _ b => b.drop n
theorem RpAll.take {l : Bool} {H : Hp} : ∀ {vs : List V} {ds : List PyData} (n : Nat), RpAll l H vs ds → RpAll l H (vs.take n) (ds.take n)
  | _, _, 0, _ => .nil
  | _, _, _ + 1, .nil => .nil
  | _, _, n + 1, .cons a b => .cons a (b.take n)
theorem RpAll.get {l : Bool} {H : Hp} : ∀ {vs : List V} {ds : List PyData} {i : Nat} {v : V}, RpAll l H vs ds → vs[i]? = some v → ∃ d, ds[i]? = some d ∧ Rp l H v d
  | _, _, _, _, .nil, h => by simp at h
  | _, _, 0, _, .cons a _, h => by cases h; exact ⟨_, rfl, a⟩
  | _, _, i + 1, _, .cons _ b, h => RpAll.get (i := i) b h
section
variable {l : Bool} {m n m' n' : Nat} {H H' : Hp} {v : V} {vs us : List V} {a : Addr}
theorem Shw.keep (k : KeepT H H') (h : Shw l m n H v) : Shw l m n H' v := let ⟨d, r, s⟩ := h; ⟨d, r.mono k, s⟩
theorem ShAll.keep (k : KeepT H H') (h : ShAll l m n H vs) : ShAll l m n H' vs := let ⟨d, r, s⟩ := h; ⟨d, r.mono k, s⟩
theorem Shw.mono (h : Shw l m n H v) (a : m ≤ m') (b : n ≤ n') : Shw l m' n' H v := let ⟨d, r, s⟩ := h; ⟨d, r, s.mono a b⟩
theorem ShAll.mono (h : ShAll l m n H vs) (a : m ≤ m') (b : n ≤ n') : ShAll l m' n' H vs := let ⟨d, r, s⟩ := h; ⟨d, r, fun e he => (s e he).mono a b⟩
theorem ShAll.nil : ShAll l m n H [] := ⟨[], .nil, fun d hd => by cases hd⟩
theorem Shw.cons (h : Shw l m n H v) (t : ShAll l m n H vs) : ShAll l m n H (v :: vs) := let ⟨d, r, s⟩ := h; let ⟨ds, q, z⟩ := t; ⟨d :: ds, .cons r q, fun e he => by
  rcases List.mem_cons.mp he with rfl | he
  · exact s
  · exact z e he⟩
theorem ShAll.append (h : ShAll l m n H vs) (t : ShAll l m n H us) : ShAll l m n H (vs ++ us) := let ⟨d, r, s⟩ := h; let ⟨ds, q, z⟩ := t; ⟨d ++ ds, r.append q, fun e he => by
  rcases List.mem_append.mp he with he | he
  · exact s e he
  · exact z e he⟩
theorem ShAll.take (i : Nat) (h : ShAll l m n H vs) : ShAll l m n H (vs.take i) := let ⟨d, r, s⟩ := h; ⟨d.take i, r.take i, fun e he => s e (List.mem_of_mem_take he)⟩
theorem ShAll.drop (i : Nat) (h : ShAll l m n H vs) : ShAll l m n H (vs.drop i) := let ⟨d, r, s⟩ := h; ⟨d.drop i, r.drop i, fun e he => s e (List.mem_of_mem_drop he)⟩
theorem ShAll.get {i : Nat} (h : ShAll l m n H vs) (e : vs[i]? = some v) : Shw l m n H v := by
  obtain ⟨ds, r, s⟩ := h
  obtain ⟨d, hd, rd⟩ := r.get e
  exact ⟨d, rd, s d (List.mem_of_getElem? hd)⟩
theorem Shw.tup {c : Nat} (e : H a = some (.tup vs)) (h : ShAll l m n H vs) (hc : vs.length ≤ c) : Shw l (m + 1) (c * (n + 2) + 3) H (.ref a) := let ⟨ds, r, s⟩ := h; ⟨.tuple ds, .tup e r, Sd.tup s (by rw [← r.length]; exact hc)⟩
theorem Shw.lst {c : Nat} (e : H a = some (.lst vs)) (h : ShAll true m n H vs) (hc : vs.length ≤ c) : Shw true (m + 1) (c * (n + 2) + 3) H (.ref a) := let ⟨ds, r, s⟩ := h; ⟨.list ds, .lst rfl e r, Sd.lst s (by rw [← r.length]; exact hc)⟩
theorem Shw.dic0 (e : H a = some (.dK [])) : Shw false 1 3 H (.ref a) := ⟨.dict [], .dic rfl e .nil, Sd.dic0⟩
theorem Shw.dic1 {k : Key} (e : H a = some (.dK [(k, v)])) (hk : Sd m n (keyD k)) (h : Shw false m n H v) : Shw false (m + 1) (2 * n + 6) H (.ref a) := let ⟨d, r, s⟩ := h; ⟨_, .dic rfl e (.cons r .nil), Sd.dic1 hk s⟩
theorem Shw.int {i : Int} (h : i.natAbs < 1000) : Shw l 0 4 H (.int i) := ⟨_, .int i, Sd.int h⟩
theorem Shw.non : Shw l 0 4 H .non := ⟨_, .non, Sd.none⟩
theorem Shw.bl (b : Bool) : Shw l 0 5 H (.bl b) := ⟨_, .bl b, Sd.bl b⟩
theorem Shw.str {x : Str} {n : Nat} (h : (reprText x).length ≤ n) : Shw l 0 n H (.str x) := ⟨_, .str x, ⟨by rw [PyData.showable], Nat.zero_le _, by rw [PyData.shown]; exact h⟩⟩
/-- the text is asked -/
theorem Shw.repr {Q : VK} (h : Shw l m n H v) (hm : m ≤ 60) (hn : n ≤ sizeLine) (q : ∀ d, Rp l H v d → Q (.str d.shown) H) : rRepr [v] H Q := let ⟨d, r, s⟩ := h; ⟨v, l, d, rfl, r, s.sh, Nat.le_trans s.dp hm, Nat.le_trans s.ln hn, q d r⟩
/-- .. again -/
theorem Rp.repr {d : PyData} {Q : VK} (h : Shw l m n H v) (hm : m ≤ 60) (hn : n ≤ sizeLine) (k : KeepT H H') (r : Rp l H v d) (s : Sd m n d) (q : Q (.str d.shown) H') : rRepr [v] H' Q := ⟨v, l, d, rfl, r.mono k, s.sh, Nat.le_trans s.dp hm, Nat.le_trans s.ln hn, q⟩
end
end GX
set_option Elab.async false
set_option linter.all false
set_option maxRecDepth 100000
set_option maxHeartbeats 4000000
/-! A list or a tuple of anything, held against an empty one. -/
namespace GX
open PySem PySem.Spec PyProof.Rows L2
def rEq0 (K : PySem.W.Frag) : R2 := fun x y H Q => ∃ (a b : Addr) (xs : List V), x = .ref a ∧ y = .ref b ∧ ((SqT K H a xs ∧ SqT K H b []) ∨ (SqL K H a xs ∧ SqL K H b [])) ∧ Q (.bl (decide (xs.length = 0))) H
def rNe0 (K : PySem.W.Frag) : R2 := fun x y H Q => ∃ (a b : Addr) (xs : List V), x = .ref a ∧ y = .ref b ∧ ((SqT K H a xs ∧ SqT K H b []) ∨ (SqL K H a xs ∧ SqL K H b [])) ∧ Q (.bl (!decide (xs.length = 0))) H
theorem vals_nil {its : List Value} (h : Vals [] its) : its = [] := by cases h; rfl
theorem op_eq0 {X : Cx} (hu : X.A.units < cLine) : OpR X (compareOp .Eq) (rEq0 X.K) := by
  intro pins s σ H x y v u Q I rx ry h
  obtain ⟨a, b, xs, rfl, rfl, hh, q⟩ := h
  cases rx
  cases ry
  rcases hh with ⟨ha, hb⟩ | ⟨ha, hb⟩
  · obtain ⟨its, r, ⟨o, e, c, n, d⟩, _⟩ := I.tuple ha
    obtain ⟨its2, r2, ⟨o2, e2, c2, n2, d2⟩, _⟩ := I.tuple hb
    obtain rfl := vals_nil r2
    have hl : its.length = xs.length := r.length.symm
    refine PySem.SeqAt.eq_tupleAt (items := its.toArray) (items2 := #[]) (e := fun _ => true) ⟨o, e, c, n, d⟩ ⟨o2, e2, c2, n2, d2⟩ hu (fun j h1 h2 => by simp at h2) ⟨.bl (decide (xs.length = 0)), H, I, ?_, q⟩
    show Value.bool _ = Value.bool _
    congr 1
    cases xs with
    | nil => simp [hl]
    | cons _ _ => simp [hl]
  · obtain ⟨its, r, ⟨o, n, e, c, d0, d⟩, _⟩ := I.list ha
    obtain ⟨its2, r2, ⟨o2, n2, e2, c2, d02, d2⟩, _⟩ := I.list hb
    obtain rfl := vals_nil r2
    have hl : its.length = xs.length := r.length.symm
    by_cases h0 : xs.length = 0
    · refine PySem.SeqAt.eq_listAt (items := its.toArray) (items2 := #[]) (e := fun _ => true) ⟨o, e, c, n, d⟩ ⟨o2, e2, c2, n2, d2⟩ (by simp [hl, h0]) hu (fun j h1 h2 => by simp at h2) ⟨.bl (decide (xs.length = 0)), H, I, ?_, q⟩
      show Value.bool _ = Value.bool _
      simp [h0]
    · refine PySem.SeqAt.eq_list_lengthsAt (items := its.toArray) (items2 := #[]) ⟨o, e, c, n, d⟩ ⟨o2, e2, c2, n2, d2⟩ (by simp [hl, h0]) hu ⟨.bl (decide (xs.length = 0)), H, I, ?_, q⟩
      show Value.bool _ = Value.bool _
      simp [h0]
theorem op_ne0 {X : Cx} (hu : X.A.units < cLine) : OpR X (compareOp .NotEq) (rNe0 X.K) := by
  intro pins s σ H x y v u Q I rx ry h
  obtain ⟨a, b, xs, rfl, rfl, hh, q⟩ := h
  cases rx
  cases ry
  rcases hh with ⟨ha, hb⟩ | ⟨ha, hb⟩
  · obtain ⟨its, r, ⟨o, e, c, n, d⟩, _⟩ := I.tuple ha
    obtain ⟨its2, r2, ⟨o2, e2, c2, n2, d2⟩, _⟩ := I.tuple hb
    obtain rfl := vals_nil r2
    have hl : its.length = xs.length := r.length.symm
    refine PySem.SeqAt.RcNeAt.tuples (items := its.toArray) (items2 := #[]) (e := fun _ => true) ⟨o, e, c, n, d⟩ ⟨o2, e2, c2, n2, d2⟩ hu (fun j h1 h2 => by simp at h2) X.prog X.w _ _ ⟨.bl (!decide (xs.length = 0)), H, I, ?_, q⟩
    show Value.bool _ = Value.bool _
    congr 1
    cases xs with
    | nil => simp [hl]
    | cons _ _ => simp [hl]
  · obtain ⟨its, r, ⟨o, n, e, c, d0, d⟩, _⟩ := I.list ha
    obtain ⟨its2, r2, ⟨o2, n2, e2, c2, d02, d2⟩, _⟩ := I.list hb
    obtain rfl := vals_nil r2
    have hl : its.length = xs.length := r.length.symm
    by_cases h0 : xs.length = 0
    · refine PySem.SeqAt.RcNeAt.lists (items := its.toArray) (items2 := #[]) (e := fun _ => true) ⟨o, e, c, n, d⟩ ⟨o2, e2, c2, n2, d2⟩ (by simp [hl, h0]) hu (fun j h1 h2 => by simp at h2) X.prog X.w _ _ ⟨.bl (!decide (xs.length = 0)), H, I, ?_, q⟩
      show Value.bool _ = Value.bool _
      simp [h0]
    · refine PySem.SeqAt.RcNeAt.lists_lengths (items := its.toArray) (items2 := #[]) ⟨o, e, c, n, d⟩ ⟨o2, e2, c2, n2, d2⟩ (by simp [hl, h0]) hu X.prog X.w _ _ ⟨.bl (!decide (xs.length = 0)), H, I, ?_, q⟩
      show Value.bool _ = Value.bool _
      simp [h0]
theorem op_eq0K {X : Cx} {K : PySem.W.Frag} (hu : X.A.units < cLine) (h : X.K = K := by rfl) : OpR X (compareOp .Eq) (rEq0 K) := by subst h; exact op_eq0 hu
theorem op_ne0K {X : Cx} {K : PySem.W.Frag} (hu : X.A.units < cLine) (h : X.K = K := by rfl) : OpR X (compareOp .NotEq) (rNe0 K) := by subst h; exact op_ne0 hu
end GX
set_option Elab.async false
set_option linter.all false
set_option maxRecDepth 100000
set_option maxHeartbeats 4000000
namespace K52
open PySem PySem.Spec PyProof.Rows L2 GX
open C8 (Cal pe_c pe_gc Met Mak)
-- @exc CoverError
-- @exc NoText
-- @exc NoDepth init=least
-- @exc TooMany made
-- @exc NoMatch
-- @exc NoChange
-- @exc NoRow
-- @sub NoDepth NoDepth true
-- @sub NoDepth CoverError true
-- @sub NoDepth ValueError true
-- @sub NoDepth NoChange false
-- @sub NoDepth NoMatch false
-- @sub NoDepth NoRow false
-- @sub NoDepth NoText false
-- @sub NoDepth TooMany false
-- @sub TooMany TooMany true
-- @sub TooMany CoverError true
-- @sub TooMany ValueError true
-- @sub TooMany NoChange false
-- @sub TooMany NoMatch false
-- @sub TooMany NoRow false
-- @sub TooMany NoText false
-- @sub TooMany NoDepth false
section
variable {P : Program} {w : World} {K : PySem.W.Frag} {mg : Str → Option Value} {base : Heap} {Ts : List Addr}
theorem next_seq {t u : TS} {D D0 : Ends} {σ : L2.St} {H : Hp} (e : D0.nx = tSeq t u D) (h : tSeq t u D σ H) : tNext D0 σ H := by
  show D0.nx σ H
  rw [e]
  exact h
/-- needs no less than the depths -/
def NdGe (ds : List Nat) (ns : Nd) : Prop := ∀ x e, ndGet ns x = some e → ((ds.getD x 0 : Nat) : Int) ≤ e
theorem NdGe.put {ds : List Nat} {ns : Nd} (h : NdGe ds ns) {w : Nat} {d : Int} (hd : ((ds.getD w 0 : Nat) : Int) ≤ d) : NdGe ds (ndPut ns w d) := fun x e hx => by
  rw [ndGet_put] at hx
  split at hx
  · rename_i z
    cases hx
    rw [z]
    exact hd
  · exact h x e hx
theorem thenN_ge {ds : List Nat} {many : Nat} {ns : Nd} {g : Nat} {nd : Int} {c : List Nat} (h : NdGe ds ns) (hg : ndGet ns g = some nd) (hc : ((maxL (c.map fun x => ds.getD x 0) : Nat) : Int) < nd) : NdGe ds (thenN many ns g c) := by
  unfold thenN
  rw [hg]
  refine nd_fold (p := NdGe ds) (fun acc x hx h => ?_) h
  split
  · refine h.put ?_
    have h1 : ds.getD x 0 ≤ maxL (c.map fun x => ds.getD x 0) := le_maxL (List.mem_map.mpr ⟨x, hx, rfl⟩)
    show _ ≤ minI (nd - 1) ((ndGet acc x).getD (nd - 1))
    unfold minI
    split
    · cases e : ndGet acc x with
      | none => show _ ≤ nd - 1; omega
      | some y => exact h x y e
    · omega
  · exact h
theorem fit_some {n : Net} {k : Nat} {ds : List Nat} {ns : Nd} {g : Nat} {nd : Int} {cs : List (List Nat)} (hm : n.many ≤ g) (hl : g < ds.length) (dt : DepsTo n k ds) (hge : NdGe ds ns) (hg : ndGet ns g = some nd) (hcs : CutsAre n k g cs) : fitC ds cs nd ≠ [] := fun z => by
  obtain ⟨⟨c, lc, e⟩, _⟩ := dt.at_ g hm hl
  have := hge g nd hg
  have : c ∈ fitC ds cs nd := List.mem_filter.mpr ⟨(hcs.mem c).mpr lc, decide_eq_true (by omega)⟩
  rw [z] at this
  cases this
theorem shown_odd {n : Net} {ds : List Nat} {cof : Nat → List (List Nat)} {f : Nat} {ns : Nd} {b : Nat} {t : Th} (h1 : isTxT "count" t = false) (h2 : casesT t = none) : shownT n ds cof f ns b t = none := by
  cases f with
  | zero => unfold shownT; rw [h1]; rfl
  | succ f =>
    unfold shownT
    rw [h1, h2]
    cases nextG ns b <;> rfl
theorem shown_last {n : Net} {ds : List Nat} {cof : Nat → List (List Nat)} {f : Nat} {ns : Nd} {b : Nat} {t : Th} (h1 : isTxT "count" t = false) (h2 : nextG ns b = none) : shownT n ds cof f ns b t = none := by
  cases f with
  | zero => unfold shownT; rw [h1]; rfl
  | succ f =>
    unfold shownT
    rw [h1, h2]
    rfl
theorem shown_count {n : Net} {ds : List Nat} {cof : Nat → List (List Nat)} {f : Nat} {ns : Nd} {b : Nat} {t : Th} (h1 : isTxT "count" t = true) : shownT n ds cof f ns b t = some ns.length := by
  cases f with
  | zero => unfold shownT; rw [h1]; rfl
  | succ f => unfold shownT; rw [h1]; rfl
theorem shown_cases {n : Net} {ds : List Nat} {cof : Nat → List (List Nat)} {f : Nat} {ns : Nd} {b g : Nat} {nd : Int} {t : Th} {ps : List Th} (h1 : isTxT "count" t = false) (h2 : nextG ns b = some g) (h3 : casesT t = some ps) (hg : ndGet ns g = some nd) : shownT n ds cof (f + 1) ns b t = if ps.length = (fitC ds (cof g) nd).length then minO (((fitC ds (cof g) nd).zip ps).map fun cp => shownT n ds cof f (thenN n.many ns g cp.1) g cp.2) else none := by
  conv => lhs; unfold shownT
  rw [h1, h2, h3]
  show (if ps.length = (fitC ds (cof g) ((ndGet ns g).getD 0)).length then minO (((fitC ds (cof g) ((ndGet ns g).getD 0)).zip ps).map fun cp => shownT n ds cof f (thenN n.many ns g cp.1) g cp.2) else none) = _
  rw [hg]
  rfl
theorem no_none {l : List (Option Nat)} (h : l.filter Option.isNone = []) : ∃ vals : List Nat, l = vals.map some := by
  induction l with
  | nil => exact ⟨[], rfl⟩
  | cons x r ih =>
    cases x with
    | none => cases h
    | some v =>
      obtain ⟨vals, e⟩ := ih h
      exact ⟨v :: vals, by rw [e]; rfl⟩
/-- where the law's walk stands -/
structure NdAt (n : Net) (ds : List Nat) (H : Hp) (d : Addr) (ns : Nd) : Prop where
  at_ : H d = some (.dK (kvI ns))
  ok : NdOk ns
  in_ : NdIn n ns
  ge : NdGe ds ns
theorem NdAt.same {n : Net} {ds : List Nat} {H H' : Hp} {d : Addr} {ns : Nd} (h : NdAt n ds H d ns) (s : Same H H') : NdAt n ds H' d ns := ⟨s _ _ h.at_, h.ok, h.in_, h.ge⟩
end
section
variable {P : Program} {w : World} {K : PySem.W.Frag} {mg : Str → Option Value} {base : Heap} {Ts : List Addr}
def minL (l : List Nat) : Nat := l.min?.getD 0
/-- the fewest tables by all choices -/
def cntN (n : Net) (ds : List Nat) (cof : Nat → List (List Nat)) : Nat → Nd → Nat → Nat
  | 0, ns, _ => ns.length
  | f + 1, ns, b => match nextG ns b with
    | none => ns.length
    | some g => minL ((fitC ds (cof g) ((ndGet ns g).getD 0)).map fun c => cntN n ds cof f (thenN n.many ns g c) g)
theorem cnt_last {n : Net} {ds : List Nat} {cof : Nat → List (List Nat)} {f : Nat} {ns : Nd} {b : Nat} (h : nextG ns b = none) : cntN n ds cof f ns b = ns.length := by
  cases f with
  | zero => rfl
  | succ f => unfold cntN; rw [h]
theorem cnt_some {n : Net} {ds : List Nat} {cof : Nat → List (List Nat)} {f : Nat} {ns : Nd} {b g : Nat} {nd : Int} (h : nextG ns b = some g) (hg : ndGet ns g = some nd) : cntN n ds cof (f + 1) ns b = minL ((fitC ds (cof g) nd).map fun c => cntN n ds cof f (thenN n.many ns g c) g) := by
  conv => lhs; unfold cntN
  rw [h]
  show minL ((fitC ds (cof g) ((ndGet ns g).getD 0)).map fun c => cntN n ds cof f (thenN n.many ns g c) g) = _
  rw [hg]
  rfl
theorem minL_eq {l : List Nat} {m : Nat} (h1 : m ∈ l) (h2 : ∀ x ∈ l, m ≤ x) : minL l = m := by
  unfold minL
  rw [List.min?_eq_some_iff.mpr ⟨h1, h2⟩]
  rfl
theorem minL_mem {l : List Nat} (h : l ≠ []) : minL l ∈ l ∧ ∀ x ∈ l, minL l ≤ x := by
  unfold minL
  cases e : l.min? with
  | none => exact absurd (List.min?_eq_none_iff.mp e) h
  | some m => exact List.min?_eq_some_iff.mp e
theorem put_len (ns : Nd) (w : Nat) (d : Int) : ns.length ≤ (ndPut ns w d).length := by
  have : (ndPut ns w d).length = ((ndPut ns w d).map (·.1)).length := (List.length_map _).symm
  rw [this, ndPut_keys]
  split
  · rw [List.length_map]; exact Nat.le_refl _
  · rw [List.length_append, List.length_map]; exact Nat.le_add_right _ _
theorem then_len (many : Nat) (ns : Nd) (g : Nat) (c : List Nat) : ns.length ≤ (thenN many ns g c).length := nd_fold (p := fun m => ns.length ≤ m.length) (fun acc x _ h => by
  split
  · exact Nat.le_trans h (put_len _ _ _)
  · exact h) (Nat.le_refl _)
/-- needs as they have to be -/
structure NdW (n : Net) (ds : List Nat) (ns : Nd) : Prop where
  ok : NdOk ns
  in_ : NdIn n ns
  ge : NdGe ds ns
theorem NdAt.toW {n : Net} {ds : List Nat} {H : Hp} {d : Addr} {ns : Nd} (h : NdAt n ds H d ns) : NdW n ds ns := ⟨h.ok, h.in_, h.ge⟩
theorem NdW.then_ {n : Net} {k : Nat} {ds : List Nat} {ns : Nd} {g : Nat} {nd : Int} {cs : List (List Nat)} {c : List Nat} (h : NdW n ds ns) (gl : g < n.many + n.gates.length) (hcs : CutsAre n k g cs) (hnd : ndGet ns g = some nd) (hc : c ∈ fitC ds cs nd) : NdW n ds (thenN n.many ns g c) := by
  obtain ⟨h1, h2⟩ := List.mem_filter.mp hc
  have lc := (hcs.mem c).mp h1
  exact ⟨thenN_ok h.ok, thenN_in h.in_ fun x hx => Nat.lt_trans (lc.lt x hx) gl, thenN_ge h.ge hnd (of_decide_eq_true h2)⟩
theorem cnt_len {n : Net} {k : Nat} {ds : List Nat} {cof : Nat → List (List Nat)} (dl : ds.length = n.many + n.gates.length) (dt : DepsTo n k ds) (hcof : ∀ x, x < n.many + n.gates.length → CutsAre n k x (cof x)) : ∀ (f : Nat) (ns : Nd) (b : Nat), NdW n ds ns → ns.length ≤ cntN n ds cof f ns b
  | 0, _, _, _ => Nat.le_refl _
  | f + 1, ns, b, W => by
    cases h : nextG ns b with
    | none => rw [cnt_last h]; exact Nat.le_refl _
    | some g =>
      obtain ⟨m1, m2, m3⟩ := nextG_some h
      obtain ⟨gm, gl⟩ := W.in_ g m1
      obtain ⟨nd, hnd⟩ := ndGet_some m1
      rw [cnt_some h hnd]
      have ne := fit_some gm (by rw [dl]; exact gl) dt W.ge hnd (hcof g gl)
      obtain ⟨h1, _⟩ := minL_mem (l := (fitC ds (cof g) nd).map fun c => cntN n ds cof f (thenN n.many ns g c) g) (fun z => ne (List.map_eq_nil_iff.mp z))
      obtain ⟨c, hc, e⟩ := List.mem_map.mp h1
      rw [← e]
      exact Nat.le_trans (then_len _ _ _ _) (cnt_len dl dt hcof f _ g (W.then_ gl (hcof g gl) hnd hc))
/-- no paper shows more than the fewest -/
theorem shown_le {n : Net} {k : Nat} {ds : List Nat} {cof : Nat → List (List Nat)} (dl : ds.length = n.many + n.gates.length) (dt : DepsTo n k ds) (hcof : ∀ x, x < n.many + n.gates.length → CutsAre n k x (cof x)) : ∀ (f : Nat) (ns : Nd) (b : Nat) (t : Th) (m : Nat), NdW n ds ns → shownT n ds cof f ns b t = some m → m ≤ cntN n ds cof f ns b := by
  intro f
  induction f with
  | zero =>
    intro ns b t m W h
    unfold shownT at h
    split at h
    · cases h
      exact Nat.le_refl _
    · cases h
  | succ f ih =>
    intro ns b t m W h
    cases h1 : isTxT "count" t with
    | true =>
      rw [shown_count h1] at h
      cases h
      exact cnt_len dl dt hcof _ _ _ W
    | false =>
      cases h2 : nextG ns b with
      | none => rw [shown_last h1 h2] at h; cases h
      | some g =>
        cases h3 : casesT t with
        | none => rw [shown_odd h1 h3] at h; cases h
        | some pps =>
          obtain ⟨m1, m2, m3⟩ := nextG_some h2
          obtain ⟨gm, gl⟩ := W.in_ g m1
          obtain ⟨nd, hnd⟩ := ndGet_some m1
          rw [shown_cases h1 h2 h3 hnd] at h
          split at h
          · rename_i el
            rw [cnt_some h2 hnd]
            have ne := fit_some gm (by rw [dl]; exact gl) dt W.ge hnd (hcof g gl)
            obtain ⟨q1, _⟩ := minL_mem (l := (fitC ds (cof g) nd).map fun c => cntN n ds cof f (thenN n.many ns g c) g) (fun z => ne (List.map_eq_nil_iff.mp z))
            obtain ⟨c, hc, e⟩ := List.mem_map.mp q1
            rw [← e]
            obtain ⟨i, hi, ei⟩ := List.getElem_of_mem hc
            have hip : i < pps.length := by omega
            have ri : (((fitC ds (cof g) nd).zip pps).map fun cp => shownT n ds cof f (thenN n.many ns g cp.1) g cp.2)[i]? = some (shownT n ds cof f (thenN n.many ns g c) g pps[i]) := by
              rw [List.getElem?_map, (List.getElem?_zip_eq_some (z := (c, pps[i]))).mpr ⟨by rw [List.getElem?_eq_getElem hi, ei], List.getElem?_eq_getElem hip⟩]
              rfl
            have rm := List.mem_of_getElem? ri
            generalize (((fitC ds (cof g) nd).zip pps).map fun cp => shownT n ds cof f (thenN n.many ns g cp.1) g cp.2) = R at h rm
            cases hs : shownT n ds cof f (thenN n.many ns g c) g pps[i] with
            | none =>
              rw [hs] at rm
              rw [minO_none rm] at h
              cases h
            | some v =>
              have hv := ih _ _ _ _ (W.then_ gl (hcof g gl) hnd hc) hs
              unfold minO at h
              split at h
              · cases h
              · have := (List.min?_eq_some_iff.mp h).2 v (List.mem_filterMap.mpr ⟨some v, by rw [← hs]; exact rm, rfl⟩)
                omega
          · cases h
end
end K52
set_option Elab.async false
set_option linter.all false
set_option maxRecDepth 100000
set_option maxHeartbeats 4000000
namespace K52
open PySem PySem.Spec PyProof.Rows L2 GX
open C8 (Cal pe_c pe_gc Met Mak)
-- @exc CoverError
-- @exc NoText
-- @exc NoDepth init=least
-- @exc TooMany made
-- @exc NoMatch
-- @exc NoChange
-- @exc NoRow
-- @sub NoDepth NoDepth true
-- @sub NoDepth CoverError true
-- @sub NoDepth ValueError true
-- @sub NoDepth NoChange false
-- @sub NoDepth NoMatch false
-- @sub NoDepth NoRow false
-- @sub NoDepth NoText false
-- @sub NoDepth TooMany false
-- @sub TooMany TooMany true
-- @sub TooMany CoverError true
-- @sub TooMany ValueError true
-- @sub TooMany NoChange false
-- @sub TooMany NoMatch false
-- @sub TooMany NoRow false
-- @sub TooMany NoText false
-- @sub TooMany NoDepth false
section
variable {P : Program} {w : World} {K : PySem.W.Frag} {mg : Str → Option Value} {base : Heap} {Ts : List Addr}
/-! ### the fewest tables, as data -/
def pickF (b y : List Tb) : List Tb := if y.length < b.length then y else b
/-- the first of the shortest -/
def bestOf : List (List Tb) → List Tb
  | [] => []
  | x :: r => r.foldl pickF x
theorem best_push {l : List (List Tb)} (h : l ≠ []) (y : List Tb) : bestOf (l ++ [y]) = pickF (bestOf l) y := by
  cases l with
  | nil => exact absurd rfl h
  | cons x r =>
    show (r ++ [y]).foldl pickF x = _
    rw [List.foldl_append]
    rfl
theorem best_foldl : ∀ (r : List (List Tb)) (x : List Tb), (r.foldl pickF x ∈ x :: r) ∧ ∀ y ∈ x :: r, (r.foldl pickF x).length ≤ y.length
  | [], x => ⟨List.mem_cons_self, fun y hy => by
    rw [List.mem_singleton.mp hy]
    exact Nat.le_refl _⟩
  | z :: r, x => by
    obtain ⟨h1, h2⟩ := best_foldl r (pickF x z)
    have hp : (pickF x z = x ∨ pickF x z = z) ∧ (pickF x z).length ≤ x.length ∧ (pickF x z).length ≤ z.length := by
      unfold pickF
      split
      · rename_i h
        exact ⟨.inr rfl, Nat.le_of_lt h, Nat.le_refl _⟩
      · rename_i h
        exact ⟨.inl rfl, Nat.le_refl _, by omega⟩
    refine ⟨?_, fun y hy => ?_⟩
    · show r.foldl pickF (pickF x z) ∈ _
      rcases List.mem_cons.mp h1 with e | e
      · rw [e]
        rcases hp.1 with e2 | e2 <;> rw [e2]
        · exact List.mem_cons_self
        · exact List.mem_cons_of_mem _ List.mem_cons_self
      · exact List.mem_cons_of_mem _ (List.mem_cons_of_mem _ e)
    · show (r.foldl pickF (pickF x z)).length ≤ _
      have h0 := h2 _ List.mem_cons_self
      rcases List.mem_cons.mp hy with e | e
      · rw [e]; exact Nat.le_trans h0 hp.2.1
      · rcases List.mem_cons.mp e with e | e
        · rw [e]; exact Nat.le_trans h0 hp.2.2
        · exact h2 y (List.mem_cons_of_mem _ e)
theorem best_mem {l : List (List Tb)} (h : l ≠ []) : bestOf l ∈ l ∧ ∀ y ∈ l, (bestOf l).length ≤ y.length := by
  cases l with
  | nil => exact absurd rfl h
  | cons x r => exact best_foldl r x
def fewT (n : Net) (ds : List Nat) (cof : Nat → List (List Nat)) : Nat → Nd → Nat → List Tb
  | 0, _, _ => []
  | f + 1, ns, b => match nextG ns b with
    | none => []
    | some g => bestOf ((fitC ds (cof g) ((ndGet ns g).getD 0)).map fun c => (g, c) :: fewT n ds cof f (thenN n.many ns g c) g)
theorem few_last {n : Net} {ds : List Nat} {cof : Nat → List (List Nat)} {f : Nat} {ns : Nd} {b : Nat} (h : nextG ns b = none) : fewT n ds cof f ns b = [] := by
  cases f with
  | zero => rfl
  | succ f => unfold fewT; rw [h]
theorem few_some {n : Net} {ds : List Nat} {cof : Nat → List (List Nat)} {f : Nat} {ns : Nd} {b g : Nat} {nd : Int} (h : nextG ns b = some g) (hg : ndGet ns g = some nd) : fewT n ds cof (f + 1) ns b = bestOf ((fitC ds (cof g) nd).map fun c => (g, c) :: fewT n ds cof f (thenN n.many ns g c) g) := by
  conv => lhs; unfold fewT
  rw [h]
  show bestOf ((fitC ds (cof g) ((ndGet ns g).getD 0)).map fun c => (g, c) :: fewT n ds cof f (thenN n.many ns g c) g) = _
  rw [hg]
  rfl
theorem few_len {n : Net} {ds : List Nat} {cof : Nat → List (List Nat)} : ∀ (f : Nat) (ns : Nd) (b : Nat), (fewT n ds cof f ns b).length ≤ f
  | 0, _, _ => Nat.le_refl _
  | f + 1, ns, b => by
    cases h : nextG ns b with
    | none => rw [few_last h]; exact Nat.zero_le _
    | some g =>
      obtain ⟨nd, hnd⟩ := ndGet_some (nextG_some h).1
      rw [few_some h hnd]
      by_cases e : ((fitC ds (cof g) nd).map fun c => (g, c) :: fewT n ds cof f (thenN n.many ns g c) g) = []
      · rw [e]; exact Nat.zero_le _
      · obtain ⟨h1, _⟩ := best_mem e
        obtain ⟨c, _, e2⟩ := List.mem_map.mp h1
        rw [← e2]
        exact Nat.succ_le_succ (few_len f _ _)
/-! ### the paper that counts, as data -/
def papT (n : Net) (ds : List Nat) (cof : Nat → List (List Nat)) (m : Nat) : Nat → Nd → Nat → Th
  | 0, _, _ => .tup [.str "count"]
  | f + 1, ns, b => if m ≤ ns.length then .tup [.str "count"] else match nextG ns b with
    | none => .tup [.str "count"]
    | some g => .tup [.str "cases", .tup ((fitC ds (cof g) ((ndGet ns g).getD 0)).map fun c => papT n ds cof m f (thenN n.many ns g c) g)]
theorem pap_count {n : Net} {ds : List Nat} {cof : Nat → List (List Nat)} {m f : Nat} {ns : Nd} {b : Nat} (h : m ≤ ns.length) : papT n ds cof m f ns b = .tup [.str "count"] := by
  cases f with
  | zero => rfl
  | succ f => unfold papT; rw [if_pos h]
theorem pap_cases {n : Net} {ds : List Nat} {cof : Nat → List (List Nat)} {m f : Nat} {ns : Nd} {b g : Nat} {nd : Int} (h : ¬ m ≤ ns.length) (h2 : nextG ns b = some g) (hg : ndGet ns g = some nd) : papT n ds cof m (f + 1) ns b = .tup [.str "cases", .tup ((fitC ds (cof g) nd).map fun c => papT n ds cof m f (thenN n.many ns g c) g)] := by
  conv => lhs; unfold papT
  rw [if_neg h, h2]
  show Th.tup [.str "cases", .tup ((fitC ds (cof g) ((ndGet ns g).getD 0)).map fun c => papT n ds cof m f (thenN n.many ns g c) g)] = _
  rw [hg]
  rfl
/-- a cover stands -/
def CvAt (H : Hp) (p : Addr) (cv : List Tb) : Prop := ∃ ps, CovAt H p cv ps
theorem CvAt.mono {H H' : Hp} {p : Addr} {cv : List Tb} (h : CvAt H p cv) (m : ∀ b xs, H b = some (.tup xs) → H' b = some (.tup xs)) : CvAt H' p cv := by
  obtain ⟨ps, h⟩ := h
  exact ⟨ps, h.mono m⟩
structure FwAt (n : Net) (k : Nat) (ds : List Nat) (cof : Nat → List (List Nat)) (H : Hp) (a cp g o : Addr) (ps qs : List Addr) : Prop where
  net : NetAt H a n g o ps
  ok : n.Ok
  k9 : k ≤ 900
  ch : ChAt n k ds H cp qs
  dl : ds.length = n.many + n.gates.length
  dt : DepsTo n k ds
  cof : ∀ x, x < n.many + n.gates.length → CutsAre n k x (cof x)
theorem FwAt.same {n : Net} {k : Nat} {ds : List Nat} {cof : Nat → List (List Nat)} {H H' : Hp} {a cp g o : Addr} {ps qs : List Addr} (h : FwAt n k ds cof H a cp g o ps qs) (s : Same H H') : FwAt n k ds cof H' a cp g o ps qs := ⟨h.net.same s, h.ok, h.k9, h.ch.mono fun b xs e => s b _ e, h.dl, h.dt, h.cof⟩
def spFewT (f : Nat) : Sp := fun vs H Q _ => ∃ (a cp d : Addr) (n : Net) (g o : Addr) (ps qs : List Addr) (k : Nat) (ds : List Nat) (cof : Nat → List (List Nat)) (ns : Nd) (b : Nat), vs = [.ref a, .ref cp, .ref d, nV b] ∧ FwAt n k ds cof H a cp g o ps qs ∧ NdAt n ds H d ns ∧ b < f ∧
  ∀ p H', Same H H' → CvAt H' p (fewT n ds cof (f - 1) ns b) → Q (.ref p) H'
theorem ok_fewT0 {f c : Addr} (D : Dfn K mg "fewest_tables" s_fewest_tables f c) : Cal P w K mg base 2 "fewest_tables" (spFewT 0) [] := by
  refine cal D (fun _ _ _ _ _ _ us hl => match us, hl with | [_, _, _, _], _ => rfl) sc_fewest_tables (fun vs H Q E h => ?_) (fun A outer s H vs Q E hr h => ?_)
  · obtain ⟨a, cp, d, n, g, o, ps, qs, k, ds, cof, ns, b, rfl, _⟩ := h
    rfl
  · obtain ⟨a, cp, d, n, g, o, ps, qs, k, ds, cof, ns, b, rfl, _, _, z, _⟩ := h
    exact absurd z (Nat.not_lt_zero _)
theorem ok_fewTS {f c : Addr} {l e : Nat} (D : Dfn K mg "fewest_tables" s_fewest_tables f c) (T : Txt mg) (hk : 2 ≤ l) (he : e ≤ 30) (c_next_gate : Cal P w K mg base 1 "next_gate" spNextG []) (c_fitting_cuts : Cal P w K mg base 1 "fitting_cuts" spFit []) (c_needs_with : Cal P w K mg base 1 "needs_with" spNeedsWith []) (c_fewest_tables : Cal P w K mg base l "fewest_tables" (spFewT e) []) : Cal P w K mg base (l + 1) "fewest_tables" (spFewT (e + 1)) [] := by
  refine cal D (fun _ _ _ _ _ _ us hl => match us, hl with | [_, _, _, _], _ => rfl) sc_fewest_tables (fun vs H Q E h => ?_) (fun A outer s H vs Q E hr h => ?_)
  · obtain ⟨a, cp, d, n, g, o, ps, qs, k, ds, cof, ns, b, rfl, _⟩ := h
    rfl
  · obtain ⟨a, cp, d, n, g, o, ps, qs, k, ds, cof, ns, b, rfl, L0, Nd0, hb, q⟩ := h
    have q : ∀ p H', Same H H' → CvAt H' p (fewT n ds cof e ns b) → Q (.ref p) H' := q
    have nl := nd_len L0.ok Nd0.ok Nd0.in_
    refine ⟨_, (pss_cons (ps_set (i := 4) sc_fewest_tables.nd rfl (by first | exact Or.inl rfl | exact Or.inr rfl) (pe_c c_next_gate hr (by omega) (by rfl) (pa_cons (pv 2) (pa_cons (pv 3) pa_nil))))
      (pss_cons (ps_if (pt_cmpR op_isN (pv 4) pe_non (nomark _)) (pss_one (ps_ret (pe_tup pa_nil))) pss_nil)
      (pss_cons (ps_set (i := 5) sc_fewest_tables.nd rfl (by first | exact Or.inl rfl | exact Or.inr rfl) (pe_lst pa_nil))
      (pss_cons (ps_for PassesOwn.never rfl (pi_list (pe_c c_fitting_cuts hr (by omega) (by rfl) (pa_cons (pv 1) (pa_cons (pv 4) (pa_cons (pv 2) pa_nil))))) (pg_name (i := 6) sc_fewest_tables.nd rfl (by first | exact Or.inl rfl | exact Or.inr rfl))
        (pss_cons (ps_set (i := 7) sc_fewest_tables.nd rfl (by first | exact Or.inl rfl | exact Or.inr rfl) (pe_c c_fewest_tables hr (by omega) (by rfl) (pa_cons (pv 0) (pa_cons (pv 1) (pa_cons (pe_c c_needs_with hr (by omega) (by rfl) (pa_cons (pv 0) (pa_cons (pv 2) (pa_cons (pv 4) (pa_cons (pv 6) pa_nil))))) (pa_cons (pv 4) pa_nil))))))
      (pss_one (ps_expr (pe_bm PySem.F.plainAttrs_list PySem.F.slot_list_append PySem.F.type_list_append mt_append (pv 5) (pa_cons (pe_op op_catA (pe_tup (pa_cons (pe_tup (pa_cons (pv 4) (pa_cons (pv 6) pa_nil))) pa_nil)) (pv 7)) pa_nil))))))
      (pss_one (ps_ret (pe_minBL (K := K) rfl hr.hd (by rfl) T.b_min (by rfl) T.b_len (by decide +kernel) (len_seqK (K := K)) (ltR_of op_lt) (pa_cons (pv 5) pa_nil)))))))), ?_⟩
    clear hr
    refine ⟨_, rfl, _, rfl, d, ns, b, rfl, Nd0.at_, by omega, fun H1 s1 => ?_⟩
    have L1 := L0.same s1
    have Nd1 := Nd0.same s1
    cases hng : nextG ns b with
    | none =>
      refine ⟨_, rfl, rfl, _, rfl, iteT ?_⟩
      refine ⟨small 0, fun p np => ?_⟩
      refine q p _ (s1.trans (Same.new np)) ?_
      rw [few_last hng]
      exact ⟨[], upd_same, PtsAt.nil _ _⟩
    | some gt =>
      obtain ⟨m1, m2, m3⟩ := nextG_some hng
      obtain ⟨e, rfl⟩ : ∃ e', e = e' + 1 := ⟨e - 1, by omega⟩
      obtain ⟨gm, gl⟩ := Nd0.in_ gt m1
      obtain ⟨nd, hnd⟩ := ndGet_some m1
      rw [few_some hng hnd] at q
      refine ⟨_, rfl, rfl, _, rfl, iteF ?_⟩
      refine ⟨small 0, fun F nF => ?_⟩
      have s7 := Same.new (o := .lst []) nF
      have hF7 : upd H1 F (.lst []) F = some (.lst []) := upd_same
      have L7 := L1.same s7
      have Nd7 := Nd1.same s7
      refine ⟨_, rfl, _, rfl, _, rfl, cp, d, n, k, ds, qs, gt, ns, nd, rfl, L7.ch, gl, Nd7.at_, hnd, fun M H8 us cs hcs s8 nM hM tM cl => ?_⟩
      obtain rfl : cs = cof gt := hcs.uniq (L0.cof gt gl)
      have L8 := L7.same s8
      have Nd8 := Nd7.same s8
      have ne := fit_some gm (by rw [L8.dl]; exact gl) L8.dt Nd8.ge hnd hcs
      have fl : (fitC ds (cof gt) nd).length ≤ (cof gt).length := List.length_filter_le _ _
      have FM : F ≠ M := fun z => by rw [← z, hF7] at nM; cases nM
      have o8 : Own H1 H8 F [] := ⟨s7.trans s8, s8 _ _ hF7, nF⟩
      refine ⟨M, rfl, ⟨_, SqL.of hM⟩, ?_⟩
      refine for_list (K := K) (a := M) (xs := us.map V.ref) (fun i σ H' => ∃ (x6 x7 : Option V) (rs : List Addr), σ = [some (.ref a), some (.ref cp), some (.ref d), some (nV b), some (nV gt), some (.ref F), x6, x7] ∧ Own H1 H' F (rs.map V.ref) ∧ (∀ b u, b ≠ F → H8 b = some u → H' b = some u) ∧ PtsAt CvAt H' rs (((fitC ds (cof gt) nd).take i).map fun c => (gt, c) :: fewT n ds cof e (thenN n.many ns gt c) gt)) ⟨_, _, [], rfl, o8, fun _ _ _ e => e, PtsAt.nil _ _⟩ ?_ ?_ ?_
      · rintro i σ H' _ ⟨_, _, _, _, _, kp, _⟩
        exact SqL.of (kp _ _ FM.symm hM)
      · rintro i x σ H9 hx ⟨x6, x7, rs, rfl, o9, kp9, R9⟩
        obtain ⟨cc, c, rfl, hc, hca⟩ := tM.at_ hx
        have hci := List.mem_of_getElem? hc
        have lc := (hcs.mem c).mp (List.mem_filter.mp hci).1
        have Wt' := Nd8.toW.then_ gl hcs hnd hci
        have L9 := L1.same o9.sm
        have Nd9 := Nd1.same o9.sm
        have cc9 := kp9 _ _ (fun z => by rw [z, s8 _ _ hF7] at hca; cases hca) hca
        have hi : i < (fitC ds (cof gt) nd).length := (List.getElem?_eq_some_iff.mp hc).1
        have rl : rs.length = i := by rw [R9.1, List.length_map, List.length_take]; omega
        refine ⟨_, rfl, _, rfl, _, rfl, _, rfl, _, rfl, _, rfl, a, d, cc, n, g, o, ps, ns, gt, nd, c, rfl, L9.net, Nd9.at_, Nd9.ok, hnd, cc9, by have := lc.len; have := L9.k9; omega, fun p H10 s10 np10 hp10 => ?_⟩
        refine ⟨_, rfl, a, cp, p, n, g, o, ps, qs, k, ds, cof, thenN n.many ns gt c, gt, rfl, L9.same s10, ⟨hp10, Wt'.ok, Wt'.in_, Wt'.ge⟩, by omega, fun pp H11 s11 cv => ?_⟩
        have cv : CvAt H11 pp (fewT n ds cof e (thenN n.many ns gt c) gt) := cv
        obtain ⟨pps, cva⟩ := cv
        have s911 := s10.trans s11
        have hF11 := s911 _ _ o9.at_
        refine ⟨_, rfl, .inl ⟨rfl, _, SqL.of hF11⟩, ?_⟩
        refine ⟨_, rfl, _, rfl, small 2, fun t1 n1 => ⟨small 1, fun t2 n2 => ?_⟩⟩
        have s12 := Same.new (o := .tup [nV gt, .ref cc]) n1
        have s13 := Same.new (o := .tup [.ref t1]) n2
        have e1 := s13 _ _ (upd_same (H := H11) (a := t1) (o := .tup [nV gt, .ref cc]))
        have e2 : upd (upd H11 t1 (.tup [nV gt, .ref cc])) t2 (.tup [.ref t1]) t2 = some (.tup [.ref t1]) := upd_same
        have s123 := s12.trans s13
        generalize upd (upd H11 t1 (.tup [nV gt, .ref cc])) t2 (.tup [.ref t1]) = H13 at e1 e2 s123 ⊢
        have cva13 := cva.same s123
        have pl : pps.length = (fewT n ds cof e (thenN n.many ns gt c) gt).length := cva.ts.1
        have pl2 := few_len (n := n) (ds := ds) (cof := cof) e (thenN n.many ns gt c) gt
        refine ⟨_, rfl, ?_⟩
        refine catA_any rfl rfl e2 cva13.top (by rw [List.length_map]; exact Nat.le_trans (show 1 + pps.length ≤ 100 by omega) (small 100)) fun r H14 s14 hr14 => ?_
        have hF14 := s14 _ _ (s123 _ _ hF11)
        refine ⟨F, _, _, rfl, rfl, hF14, by rw [List.length_map]; omega, ?_⟩
        have tp : ∀ b xs, H14 b = some (.tup xs) → upd H14 F (.lst (rs.map V.ref ++ [.ref r])) b = some (.tup xs) := fun b xs e => by
          by_cases z : b = F
          · rw [z, hF14] at e; cases e
          · rw [upd_ne z]; exact e
        have t914 : ∀ b xs, H9 b = some (.tup xs) → upd H14 F (.lst (rs.map V.ref ++ [.ref r])) b = some (.tup xs) := fun b xs e => tp b xs (s14 _ _ (s123 _ _ (s911 _ _ e)))
        have nFF : H1 F = none := nF
        refine ⟨_, _, rs ++ [r], rfl, ?_, fun b u hb e => by rw [upd_ne hb]; exact s14 _ _ (s123 _ _ (s911 _ _ (kp9 _ _ hb e))), ?_⟩
        · rw [List.map_append]
          exact Own.app ⟨((o9.sm.trans s911).trans s123).trans s14, hF14, nF⟩
        · rw [List.take_add_one, hc, Option.toList_some, List.map_append]
          refine (R9.mono fun p x h => CvAt.mono h t914).push ⟨t1 :: pps, ?_, ?_⟩
          · exact tp _ _ hr14
          · have hcc := t914 _ _ cc9
            exact ⟨congrArg (· + 1) cva.ts.1, fun j p x a1 a2 => by
              cases j with
              | zero =>
                cases a1
                cases a2
                exact ⟨cc, tp _ _ (s14 _ _ e1), hcc⟩
              | succ j => exact TbAt.mono (fun b xs e => tp b xs (s14 _ _ e)) p x (cva13.ts.2 j p x a1 a2)⟩
      · rintro σ H9 ⟨x6, x7, rs, rfl, o9, kp9, R9⟩
        rw [List.length_map, tM.1, List.take_length] at R9
        generalize hT : (fitC ds (cof gt) nd).map (fun c => (gt, c) :: fewT n ds cof e (thenN n.many ns gt c) gt) = T at R9 q
        have T0 : 0 < T.length := by rw [← hT, List.length_map]; exact List.length_pos_iff.mpr ne
        have s19 := s1.trans o9.sm
        obtain ⟨r0, hr0⟩ : ∃ r0, rs[0]? = some r0 := ⟨rs[0]'(by rw [R9.1]; exact T0), List.getElem?_eq_getElem _⟩
        have hx0 : (rs.map V.ref)[0]? = some (.ref r0) := by rw [List.getElem?_map, hr0]; rfl
        have at_ : ∀ {j : Nat} {r : Addr}, rs[j]? = some r → ∃ (cv : List Tb) (ps' : List Addr), T[j]? = some cv ∧ CovAt H9 r cv ps' := fun {j r} hj => by
          have hjl := (List.getElem?_eq_some_iff.mp hj).1
          have hT' := List.getElem?_eq_getElem (l := T) (i := j) (by rw [← R9.1]; exact hjl)
          obtain ⟨ps', h⟩ := R9.2 j r _ hj hT'
          exact ⟨_, ps', hT', h⟩
        have len_ : ∀ {r : Addr} {cv : List Tb} {ps' : List Addr}, CovAt H9 r cv ps' → V.int (((ps'.map V.ref).length : Nat) : Int) = V.int ((cv.length : Nat) : Int) := fun h => by rw [List.length_map, h.ts.1]
        have tk : ∀ {j : Nat} {cv : List Tb}, T[j]? = some cv → T.take (j + 1) = T.take j ++ [cv] := fun h => by rw [List.take_add_one, h]; rfl
        refine ⟨_, rfl, F, rs.map V.ref, rfl, SqL.of o9.at_, .ref r0, fun j b k H' => H' = H9 ∧ 0 < j ∧ ∃ r, b = .ref r ∧ CvAt H9 r (bestOf (T.take j)) ∧ k = .int ((bestOf (T.take j)).length : Nat), hx0, ?_, ?_, ?_, ?_⟩
        · obtain ⟨cv, ps', h1, h2⟩ := at_ hr0
          have : T.take 1 = [cv] := by rw [tk h1]; rfl
          refine ⟨r0, _, rfl, .inr (SqT.of h2.top), rfl, Nat.one_pos, r0, rfl, ?_, ?_⟩
          · rw [this]; exact ⟨ps', h2⟩
          · rw [this]; exact len_ h2
        · rintro j b k H' ⟨rfl, _⟩
          exact ⟨SqL.of o9.at_, trivial⟩
        · rintro j b k H' x ⟨rfl, j0, r, rfl, ⟨ps1, h1⟩, rfl⟩ hx
          rw [List.getElem?_map] at hx
          obtain ⟨r', hr', rfl⟩ := Option.map_eq_some_iff.mp hx
          obtain ⟨cv, ps', h3, h4⟩ := at_ hr'
          have hne : T.take j ≠ [] := fun z => by
            have := congrArg List.length z
            rw [List.length_take] at this
            have hjl := (List.getElem?_eq_some_iff.mp h3).1
            have : min j T.length = 0 := this
            omega
          have bp := best_push hne cv
          refine ⟨r', _, rfl, .inr (SqT.of h4.top), ?_⟩
          have el : (ps'.map V.ref).length = cv.length := by rw [List.length_map, h4.ts.1]
          rw [el]
          refine ⟨_, _, rfl, rfl, _, rfl, rfl, Nat.succ_pos _, ?_⟩
          rw [tk h3, bp]
          unfold pickF
          by_cases h : cv.length < (bestOf (T.take j)).length
          · rw [decide_eq_true (show ((cv.length : Nat) : Int) < (((bestOf (T.take j)).length : Nat) : Int) by omega), if_pos h]
            exact ⟨r', rfl, ⟨ps', h4⟩, rfl⟩
          · rw [decide_eq_false (show ¬ ((cv.length : Nat) : Int) < (((bestOf (T.take j)).length : Nat) : Int) by omega), if_neg h]
            exact ⟨r, rfl, ⟨ps1, h1⟩, rfl⟩
        · rintro b k H' ⟨rfl, _, r, rfl, h1, _⟩
          refine q r _ s19 ?_
          rw [List.length_map, R9.1, List.take_length] at h1
          exact h1
theorem ok_fewT {f c : Addr} (D : Dfn K mg "fewest_tables" s_fewest_tables f c) (T : Txt mg) (c_next_gate : Cal P w K mg base 1 "next_gate" spNextG []) (c_fitting_cuts : Cal P w K mg base 1 "fitting_cuts" spFit []) (c_needs_with : Cal P w K mg base 1 "needs_with" spNeedsWith []) : ∀ e, e ≤ 30 → Cal P w K mg base (2 + e) "fewest_tables" (spFewT e) []
  | 0, _ => ok_fewT0 D
  | e + 1, h => ok_fewTS D T (Nat.le_add_right 2 e) (by omega) c_next_gate c_fitting_cuts c_needs_with (ok_fewT D T c_next_gate c_fitting_cuts c_needs_with e (by omega))
end
end K52
set_option Elab.async false
set_option linter.all false
set_option maxRecDepth 100000
set_option maxHeartbeats 4000000
namespace K52
open PySem PySem.Spec PyProof.Rows L2 GX
open C8 (Cal pe_c pe_gc Met Mak)
-- @exc CoverError
-- @exc NoText
-- @exc NoDepth init=least
-- @exc TooMany made
-- @exc NoMatch
-- @exc NoChange
-- @exc NoRow
-- @sub NoDepth NoDepth true
-- @sub NoDepth CoverError true
-- @sub NoDepth ValueError true
-- @sub NoDepth NoChange false
-- @sub NoDepth NoMatch false
-- @sub NoDepth NoRow false
-- @sub NoDepth NoText false
-- @sub NoDepth TooMany false
-- @sub TooMany TooMany true
-- @sub TooMany CoverError true
-- @sub TooMany ValueError true
-- @sub TooMany NoChange false
-- @sub TooMany NoMatch false
-- @sub TooMany NoRow false
-- @sub TooMany NoText false
-- @sub TooMany NoDepth false
section
variable {P : Program} {w : World} {K : PySem.W.Frag} {mg : Str → Option Value} {base : Heap} {Ts : List Addr}
/-! ### how many: the tables told, the least count -/
/-- how many are laid -/
def hiN (ns : Nd) (b : Nat) : Nat := ((ns.map (·.1)).filter fun g => decide (b ≤ g)).length
theorem hi_next {b g : Nat} (hg : g < b) : ∀ {l : List Nat}, l.Nodup → g ∈ l → (∀ x ∈ l, x < b → x ≤ g) → (l.filter fun x => decide (g ≤ x)).length = (l.filter fun x => decide (b ≤ x)).length + 1
  | [], _, h, _ => (by cases h)
  | x :: r, nd, h, hb => by
    obtain ⟨n1, n2⟩ := List.nodup_cons.mp nd
    by_cases e : x = g
    · subst e
      have : (r.filter fun y => decide (x ≤ y)) = r.filter fun y => decide (b ≤ y) := List.filter_congr fun y hy => by
        have h1 := hb y (List.mem_cons_of_mem _ hy)
        have h2 : y ≠ x := fun z => n1 (z ▸ hy)
        rw [decide_eq_decide]
        omega
      rw [List.filter_cons, if_pos (decide_eq_true (Nat.le_refl x)), List.filter_cons, if_neg (by rw [decide_eq_true_iff]; omega), this]
      rfl
    · have hr : g ∈ r := (List.mem_cons.mp h).resolve_left fun z => e z.symm
      have ih := hi_next hg n2 hr fun y hy => hb y (List.mem_cons_of_mem _ hy)
      have h1 := hb x List.mem_cons_self
      by_cases hx : b ≤ x
      · rw [List.filter_cons, if_pos (decide_eq_true (by omega)), List.filter_cons, if_pos (decide_eq_true hx), List.length_cons, ih]
        rfl
      · rw [List.filter_cons, if_neg (by rw [decide_eq_true_iff]; omega), List.filter_cons, if_neg (by rw [decide_eq_true_iff]; exact hx), ih]
theorem hi_then {many : Nat} {ns : Nd} {g : Nat} {c : List Nat} (hc : ∀ x ∈ c, x < g) : hiN (thenN many ns g c) g = hiN ns g := by
  have : ((thenN many ns g c).map (·.1)).filter (fun x => decide (g ≤ x)) = (ns.map (·.1)).filter fun x => decide (g ≤ x) := nd_fold (p := fun m => (m.map (·.1)).filter (fun x => decide (g ≤ x)) = (ns.map (·.1)).filter fun x => decide (g ≤ x)) (fun acc x hx h => by
    split
    · rw [ndPut_keys]
      split
      · exact h
      · rw [List.filter_append, List.filter_cons, if_neg (by rw [decide_eq_true_iff]; have := hc x hx; omega), List.filter_nil, List.append_nil]
        exact h
    · exact h) rfl
  unfold hiN
  rw [this]
theorem few_cnt {n : Net} {k : Nat} {ds : List Nat} {cof : Nat → List (List Nat)} (dl : ds.length = n.many + n.gates.length) (dt : DepsTo n k ds) (hcof : ∀ x, x < n.many + n.gates.length → CutsAre n k x (cof x)) : ∀ (f : Nat) (ns : Nd) (b : Nat), NdW n ds ns → b ≤ f → (fewT n ds cof f ns b).length + hiN ns b = cntN n ds cof f ns b := by
  intro f
  have all : ∀ (ns : Nd) (b : Nat), nextG ns b = none → hiN ns b = ns.length := fun ns b h => by
    have h := nextG_none.mp h
    unfold hiN
    rw [List.filter_eq_self.mpr, List.length_map]
    intro x hx
    have := List.filter_eq_nil_iff.mp h x hx
    rw [decide_eq_true_iff] at this ⊢
    omega
  induction f with
  | zero =>
    intro ns b W hb
    have hn : nextG ns b = none := by
      cases h : nextG ns b with
      | none => rfl
      | some g => have := (nextG_some h).2.1; omega
    rw [few_last hn, cnt_last hn, all ns b hn]
    exact Nat.zero_add _
  | succ f ih =>
    intro ns b W hb
    cases h : nextG ns b with
    | none =>
      rw [few_last h, cnt_last h, all ns b h]
      exact Nat.zero_add _
    | some g =>
      obtain ⟨m1, m2, m3⟩ := nextG_some h
      obtain ⟨gm, gl⟩ := W.in_ g m1
      obtain ⟨nd, hnd⟩ := ndGet_some m1
      have hcs := hcof g gl
      have ne := fit_some gm (by rw [dl]; exact gl) dt W.ge hnd hcs
      rw [few_some h hnd, cnt_some h hnd]
      have hi : hiN ns g = hiN ns b + 1 := hi_next m2 W.ok m1 m3
      have each : ∀ c ∈ fitC ds (cof g) nd, ((g, c) :: fewT n ds cof f (thenN n.many ns g c) g).length + hiN ns b = cntN n ds cof f (thenN n.many ns g c) g := fun c hc => by
        have lc := (hcs.mem c).mp (List.mem_filter.mp hc).1
        have := ih (thenN n.many ns g c) g (W.then_ gl hcs hnd hc) (by omega)
        rw [hi_then lc.lt, hi] at this
        rw [List.length_cons]
        omega
      obtain ⟨b1, b2⟩ := best_mem (l := (fitC ds (cof g) nd).map fun c => (g, c) :: fewT n ds cof f (thenN n.many ns g c) g) fun z => ne (List.map_eq_nil_iff.mp z)
      obtain ⟨c, hc, e⟩ := List.mem_map.mp b1
      refine (minL_eq (List.mem_map.mpr ⟨c, hc, ?_⟩) fun x hx => ?_).symm
      · rw [← each c hc, e]
      · obtain ⟨c', hc', rfl⟩ := List.mem_map.mp hx
        have := b2 _ (List.mem_map.mpr ⟨c', hc', rfl⟩)
        rw [← each c' hc']
        omega
theorem cnt_child {n : Net} {ds : List Nat} {cof : Nat → List (List Nat)} {f : Nat} {ns : Nd} {b g : Nat} {nd : Int} (h : nextG ns b = some g) (hg : ndGet ns g = some nd) {c : List Nat} (hc : c ∈ fitC ds (cof g) nd) : cntN n ds cof (f + 1) ns b ≤ cntN n ds cof f (thenN n.many ns g c) g := by
  rw [cnt_some h hg]
  exact (minL_mem (l := (fitC ds (cof g) nd).map fun c => cntN n ds cof f (thenN n.many ns g c) g) fun z => by
    rw [List.map_eq_nil_iff.mp z] at hc
    cases hc).2 _ (List.mem_map.mpr ⟨c, hc, rfl⟩)
def spCountP (f : Nat) : Sp := fun vs H Q _ => ∃ (a cp d : Addr) (n : Net) (g o : Addr) (ps qs : List Addr) (k : Nat) (ds : List Nat) (cof : Nat → List (List Nat)) (ns : Nd) (b m : Nat), vs = [.ref a, .ref cp, .ref d, nV b, nV m] ∧ FwAt n k ds cof H a cp g o ps qs ∧ NdAt n ds H d ns ∧ b < f ∧ m ≤ cntN n ds cof (f - 1) ns b ∧
  ∀ p H', Same H H' → Rep H' (.ref p) (papT n ds cof m (f - 1) ns b) → Q (.ref p) H'
theorem ok_countp0 {f c : Addr} (D : Dfn K mg "count_paper" s_count_paper f c) : Cal P w K mg base 2 "count_paper" (spCountP 0) [] := by
  refine cal D (fun _ _ _ _ _ _ us hl => match us, hl with | [_, _, _, _, _], _ => rfl) sc_count_paper (fun vs H Q E h => ?_) (fun A outer s H vs Q E hr h => ?_)
  · obtain ⟨a, cp, d, n, g, o, ps, qs, k, ds, cof, ns, b, m, rfl, _⟩ := h
    rfl
  · obtain ⟨a, cp, d, n, g, o, ps, qs, k, ds, cof, ns, b, m, rfl, _, _, z, _⟩ := h
    exact absurd z (Nat.not_lt_zero _)
theorem ok_countpS {f c : Addr} {l e : Nat} (D : Dfn K mg "count_paper" s_count_paper f c) (T : Txt mg) (hk : 2 ≤ l) (c_next_gate : Cal P w K mg base 1 "next_gate" spNextG []) (c_fitting_cuts : Cal P w K mg base 1 "fitting_cuts" spFit []) (c_needs_with : Cal P w K mg base 1 "needs_with" spNeedsWith []) (c_count_paper : Cal P w K mg base l "count_paper" (spCountP e) []) : Cal P w K mg base (l + 1) "count_paper" (spCountP (e + 1)) [] := by
  refine cal D (fun _ _ _ _ _ _ us hl => match us, hl with | [_, _, _, _, _], _ => rfl) sc_count_paper (fun vs H Q E h => ?_) (fun A outer s H vs Q E hr h => ?_)
  · obtain ⟨a, cp, d, n, g, o, ps, qs, k, ds, cof, ns, b, m, rfl, _⟩ := h
    rfl
  · obtain ⟨a, cp, d, n, g, o, ps, qs, k, ds, cof, ns, b, m, rfl, L0, Nd0, hb, hm, q⟩ := h
    have q : ∀ p H', Same H H' → Rep H' (.ref p) (papT n ds cof m e ns b) → Q (.ref p) H' := q
    have hm : m ≤ cntN n ds cof e ns b := hm
    have nl := nd_len L0.ok Nd0.ok Nd0.in_
    refine ⟨_, (pss_cons (ps_if (pt_cmpR op_ge (pe_callB call_lenD (by rfl) T.b_len (by decide +kernel) (pa_cons (pv 2) pa_nil)) (pv 4) (nomark _)) (pss_one (ps_ret (pe_tup (pa_cons pe_str pa_nil)))) pss_nil)
      (pss_cons (ps_set (i := 5) sc_count_paper.nd rfl (by first | exact Or.inl rfl | exact Or.inr rfl) (pe_c c_next_gate hr (by omega) (by rfl) (pa_cons (pv 2) (pa_cons (pv 3) pa_nil))))
      (pss_cons (ps_set (i := 6) sc_count_paper.nd rfl (by first | exact Or.inl rfl | exact Or.inr rfl) (pe_c c_fitting_cuts hr (by omega) (by rfl) (pa_cons (pv 1) (pa_cons (pv 5) (pa_cons (pv 2) pa_nil)))))
      (pss_cons (ps_setLc (i := 7) (own := [("cut", 8)]) (g := gName 8) (tt := tYes) rfl sc_count_paper.nd rfl rfl (sw_true rfl rfl rfl (by decide +kernel)) (pi_list (pv 6)) (blkOk_by (own := [("cut", 8)]) (N := ["net", "choices", "needs", "bound", "count", "gate", "cuts", "papers", "cut"]) (sc := defScope s_count_paper) (by decide +kernel)) (fun _ _ _ _ _ => (pg_name (i := 8) sc_count_paper.nd rfl (by first | exact Or.inl rfl | exact Or.inr rfl))) (fun _ _ _ _ _ => pts_nil) (fun _ _ _ _ _ => (pe_c c_count_paper hr (by omega) (by rfl) (pa_cons (pv 0) (pa_cons (pv 1) (pa_cons (pe_c c_needs_with hr (by omega) (by rfl) (pa_cons (pv 0) (pa_cons (pv 2) (pa_cons (pv 5) (pa_cons (pv 8) pa_nil))))) (pa_cons (pv 5) (pa_cons (pv 4) pa_nil))))))))
      (pss_one (ps_ret (pe_tup (pa_cons pe_str (pa_cons (pe_callTy call_tuple_of (by rfl) T.b_tuple (by decide +kernel) (pa_cons (pv 7) pa_nil)) pa_nil))))))))), ?_⟩
    clear hr
    refine ⟨_, rfl, d, _, rfl, Nd0.at_, _, rfl, _, _, rfl, rfl, _, rfl, ite2 (fun h => ?_) (fun h => ?_)⟩
    · have h := of_decide_eq_true h
      rw [kvI_len] at h
      refine ⟨small 1, fun p np => q p _ (Same.new np) ?_⟩
      rw [pap_count (by omega)]
      exact .tup upd_same (.cons (.str _) .nil)
    have h : ¬ m ≤ ns.length := fun z => h (decide_eq_true (by rw [kvI_len]; omega))
    obtain ⟨gt, hng⟩ : ∃ gt, nextG ns b = some gt := by
      cases hh : nextG ns b with
      | none => rw [cnt_last hh] at hm; exact absurd hm h
      | some gt => exact ⟨gt, rfl⟩
    obtain ⟨m1, m2, m3⟩ := nextG_some hng
    obtain ⟨e, rfl⟩ : ∃ e', e = e' + 1 := ⟨e - 1, by omega⟩
    obtain ⟨gm, gl⟩ := Nd0.in_ gt m1
    obtain ⟨nd, hnd⟩ := ndGet_some m1
    rw [pap_cases h hng hnd] at q
    refine ⟨_, rfl, _, rfl, d, ns, b, rfl, Nd0.at_, by omega, fun H1 s1 => ?_⟩
    rw [hng]
    have L1 := L0.same s1
    have Nd1 := Nd0.same s1
    refine ⟨_, rfl, _, rfl, _, rfl, cp, d, n, k, ds, qs, gt, ns, nd, rfl, L1.ch, gl, Nd1.at_, hnd, fun M H7 us cs hcs s7 nM hM tM cl => ?_⟩
    obtain rfl : cs = cof gt := hcs.uniq (L0.cof gt gl)
    have s17 := s1.trans s7
    have L7 := L1.same s7
    have Nd7 := Nd1.same s7
    have fl : (fitC ds (cof gt) nd).length ≤ (cof gt).length := List.length_filter_le _ _
    refine ⟨_, rfl, M, rfl, ⟨_, SqL.of hM⟩, fun L nL => ?_⟩
    refine lc_list (K := K) (a := M) (xs := us.map V.ref) (fun i H' => ∃ ws : List V, Own H7 H' L ws ∧ RepAll H' ws (((fitC ds (cof gt) nd).take i).map fun c => papT n ds cof m e (thenN n.many ns gt c) gt)) ⟨[], ⟨Same.new nL, upd_same, nL⟩, .nil⟩ (fun _ H' _ h => h.elim fun _ h => SqL.of (h.1.sm _ _ hM)) ?_ ?_
    · rintro i x H8 hx ⟨ws, o8, ra⟩
      obtain ⟨cc, c, rfl, hc, hca⟩ := tM.at_ hx
      have hci := List.mem_of_getElem? hc
      have lc := (hcs.mem c).mp (List.mem_filter.mp hci).1
      have Wt' := Nd7.toW.then_ gl hcs hnd hci
      refine ⟨rfl, ?_⟩
      unfold tYes
      refine iteT ?_
      refine ⟨_, rfl, _, rfl, _, rfl, _, rfl, _, rfl, _, rfl, a, d, cc, n, g, o, ps, ns, gt, nd, c, rfl, (L7.same o8.sm).net, (Nd7.same o8.sm).at_, Nd7.ok, hnd, o8.sm _ _ hca, by have := lc.len; have := L7.k9; omega, fun p H10 s10 np10 hp10 => ?_⟩
      have s810 := o8.sm.trans s10
      refine ⟨_, rfl, _, rfl, a, cp, p, n, g, o, ps, qs, k, ds, cof, thenN n.many ns gt c, gt, m, rfl, L7.same s810, ⟨hp10, Wt'.ok, Wt'.in_, Wt'.ge⟩, by omega, Nat.le_trans hm (cnt_child hng hnd hci), fun pp H11 s11 rp => ?_⟩
      have hL11 := s11 _ _ (s10 _ _ o8.at_)
      have wl : ws.length ≤ i := by
        rw [ra.length, List.length_map, List.length_take]
        omega
      have hi : i < (fitC ds (cof gt) nd).length := (List.getElem?_eq_some_iff.mp hc).1
      refine ⟨_, hL11, by omega, ?_⟩
      have pu := KeepR.put (ys := ws ++ [V.ref pp]) hL11
      refine ⟨ws ++ [.ref pp], Own.app ⟨s810.trans s11, hL11, nL⟩, ?_⟩
      rw [List.take_add_one, hc, Option.toList_some, List.map_append]
      exact ((ra.mono (KeepT.same (s10.trans s11))).keepR pu).append (.cons (rp.keepR pu) .nil)
    · rintro H8 ⟨ws, o8, ra⟩
      rw [List.length_map, tM.1, List.take_length] at ra
      refine ⟨_, rfl, L, _, rfl, .inl ⟨SqL.of o8.at_, fun p np => ⟨small 2, fun r nr => ?_⟩⟩⟩
      have s9 := Same.new (o := .tup ws) np
      have s10 := Same.new (o := .tup [.str "cases", .ref p]) nr
      exact q r _ ((s17.trans o8.sm).trans (s9.trans s10)) (.tup upd_same (.cons (.str _) (.cons (.tup (s10 _ _ upd_same) (ra.mono (KeepT.same (s9.trans s10)))) .nil)))
theorem ok_countp {f c : Addr} (D : Dfn K mg "count_paper" s_count_paper f c) (T : Txt mg) (c_next_gate : Cal P w K mg base 1 "next_gate" spNextG []) (c_fitting_cuts : Cal P w K mg base 1 "fitting_cuts" spFit []) (c_needs_with : Cal P w K mg base 1 "needs_with" spNeedsWith []) : ∀ e, Cal P w K mg base (2 + e) "count_paper" (spCountP e) []
  | 0 => ok_countp0 D
  | e + 1 => ok_countpS D T (Nat.le_add_right 2 e) c_next_gate c_fitting_cuts c_needs_with (ok_countp D T c_next_gate c_fitting_cuts c_needs_with e)
theorem firstN_ge {n : Net} {ds : List Nat} {dep : Int} (h : ∀ o ∈ n.outs, ((ds.getD o 0 : Nat) : Int) ≤ dep) : NdGe ds (firstN n dep) := nd_fold (p := NdGe ds) (fun acc x hx h' => h'.put (h x (List.mem_filter.mp hx).1)) (fun x e hx => by cases hx)
end
end K52
set_option Elab.async false
set_option linter.all false
set_option maxRecDepth 100000
set_option maxHeartbeats 4000000
namespace K52
open PySem PySem.Spec PyProof.Rows L2 GX
open C8 (Cal pe_c pe_gc Met Mak)
-- @exc CoverError
-- @exc NoText
-- @exc NoDepth init=least
-- @exc TooMany made
-- @exc NoMatch
-- @exc NoChange
-- @exc NoRow
-- @sub NoDepth NoDepth true
-- @sub NoDepth CoverError true
-- @sub NoDepth ValueError true
-- @sub NoDepth NoChange false
-- @sub NoDepth NoMatch false
-- @sub NoDepth NoRow false
-- @sub NoDepth NoText false
-- @sub NoDepth TooMany false
-- @sub TooMany TooMany true
-- @sub TooMany CoverError true
-- @sub TooMany ValueError true
-- @sub TooMany NoChange false
-- @sub TooMany NoMatch false
-- @sub TooMany NoRow false
-- @sub TooMany NoText false
-- @sub TooMany NoDepth false
section
variable {P : Program} {w : World} {K : PySem.W.Frag} {mg : Str → Option Value} {base : Heap} {Ts : List Addr} {CTooMany CNoDepth CNoChange CNoMatch CNoRow CNoText CCoverError : Addr}
/-- a depth is at most the wire's number -/
theorem deps_num {n : Net} (ok : n.Ok) {k : Nat} {ds : List Nat} (d : DepsTo n k ds) : ∀ x, x < ds.length → ds.getD x 0 ≤ x := by
  intro x
  induction x using Nat.strongRecOn with
  | _ x ih =>
    intro hx
    by_cases h : x < n.many
    · rw [d.low x h hx]
      exact Nat.zero_le _
    · obtain ⟨⟨c, lc, e⟩, _⟩ := d.at_ x (by omega) hx
      rw [e]
      by_cases z : 0 < (c.map fun y => ds.getD y 0).length
      · obtain ⟨y, hy, ey⟩ := List.mem_map.mp (maxL_mem z)
        have h1 := lc.lt y hy
        have h2 := ih y h1 (by omega)
        rw [← ey]
        omega
      · rw [List.length_eq_zero_iff.mp (Nat.eq_zero_of_not_pos z)]
        have := ok.m1
        show 1 + 0 ≤ x
        omega
/-- the greatest depth of the outs -/
def MaxO (n : Net) (ds : List Nat) (m : Int) : Prop := m ∈ (n.outs.map fun x => ds.getD x 0).map (fun n : Nat => (n : Int)) ∧ ∀ x ∈ (n.outs.map fun x => ds.getD x 0).map (fun n : Nat => (n : Int)), x ≤ m
theorem MaxO.uniq {n : Net} {ds : List Nat} {m m' : Int} (h : MaxO n ds m) (h' : MaxO n ds m') : m = m' := Int.le_antisymm (h'.2 _ h.1) (h.2 _ h'.1)
theorem MaxO.small {n : Net} (ok : n.Ok) {k : Nat} {ds : List Nat} {m : Int} (dl : ds.length = n.many + n.gates.length) (d : DepsTo n k ds) (h : MaxO n ds m) : 0 ≤ m ∧ m < 24 := by
  obtain ⟨y, hy, rfl⟩ := List.mem_map.mp h.1
  obtain ⟨x, hx, rfl⟩ := List.mem_map.mp hy
  have h1 := ok.os x hx
  have := deps_num ok d x (by rw [dl]; exact h1)
  have m8 := ok.m8
  have g16 := ok.g16
  omega
def spFewX (Ts : List Addr) (CM CD : Addr) : Sp := fun vs H Q E => ∃ (a : Addr) (n : Net) (g o : Addr) (ps : List Addr) (k : Nat) (dep : Int) (cof : Nat → List (List Nat)) (ds : List Nat) (m : Int), vs = [.ref a, nV k, .int dep] ∧ NetAt H a n g o ps ∧ n.Ok ∧ 2 ≤ k ∧ k ≤ 900 ∧ (∀ x, x < n.many + n.gates.length → CutsAre n k x (cof x)) ∧ Tabs Ts H ∧ ds.length = n.many + n.gates.length ∧ DepsTo n k ds ∧ MaxO n ds m ∧
  (6 < n.gates.length → E (.ref CM) none H) ∧ (n.gates.length ≤ 6 → dep < m → ∀ d H', Aft Ts H H' → H' d = none → E (.ref CD) (some d) (upd H' d (.xd [("least", .int m)]))) ∧
  (n.gates.length ≤ 6 → ¬ dep < m → ∀ p H' tp pp, Aft Ts H H' → H' p = some (.tup [.ref tp, .ref pp]) → Q (.ref p) H')
theorem ok_fewX {f c : Addr} (D : Dfn K mg "fewest" s_fewest f c) (T : Txt mg) (x_TooMany : ExcM K mg "TooMany" CTooMany) (i_NoDepth : SupI P w K mg base "NoDepth" CNoDepth "least" 1) (x_NoDepth : ExcT K mg "NoDepth" CNoDepth) (c_depths : Cal P w K mg base 5 "depths" (spDepths Ts) []) (c_cut_choices : Cal P w K mg base 5 "cut_choices" (spChoices Ts) []) (c_first_needs : Cal P w K mg base 1 "first_needs" spFirstN []) (c_wires_in : Cal P w K mg base 1 "wires_in" spWires []) (c_fewest_tables : Cal P w K mg base 27 "fewest_tables" (spFewT 25) []) (c_count_paper : Cal P w K mg base 27 "count_paper" (spCountP 25) []) : CalX P w K mg base 28 "fewest" (spFewX Ts CTooMany CNoDepth) := by
  refine calX D (fun _ _ _ _ _ _ us hl => match us, hl with | [_, _, _], _ => rfl) sc_fewest (fun vs H Q E h => ?_) (fun A outer s H vs Q E hr h tk => ?_)
  · obtain ⟨a, n, g, o, ps, k, dep, cof, ds, m, rfl, _⟩ := h
    rfl
  · obtain ⟨a, n, g, o, ps, k, dep, cof, ds, m, rfl, N, ok, hk2, hk9, hcof, tb, dl, dt, hm, qM, qD, q⟩ := h
    have m8 := ok.m8
    have g16 := ok.g16
    refine ⟨_, (pss_cons (ps_if (PT.nox (pt_cmpR op_gt (pe_callB call_len_seq (by rfl) T.b_len (by decide +kernel) (pa_cons (pe_ix ix_tup (pv 0) pe_int (fun _ _ => rfl)) pa_nil)) (pe_gc (by rfl) T.g_MOST_GATES_TRIED) (nomark _))) (pss_one (ps_raise rfl tk (SkE.pmk_own1 PySem.F.excBase_ValueError x_TooMany.x x_TooMany.g x_TooMany.k x_TooMany.toExcT.raises rfl (pe_joined (.cons pe_str (.cons (pe_fmt (pe_gc (by rfl) T.g_MOST_GATES_TRIED)) (.cons pe_str .nil))))))) pss_nil)
      (pss_cons (psNox (ps_set (i := 3) sc_fewest.nd rfl (by first | exact Or.inl rfl | exact Or.inr rfl) (pe_c c_depths hr (by decide) (by rfl) (pa_cons (pv 0) (pa_cons (pv 1) pa_nil)))))
      (pss_cons (psNox (ps_set (i := 4) sc_fewest.nd rfl (by first | exact Or.inl rfl | exact Or.inr rfl) (pe_callB (cr_max rfl) (by rfl) T.b_max (by decide +kernel) (pa_cons (pe_lc (own := [("out", 5)]) (g := gName 5) (tt := tYes) rfl sc_fewest.nd (pi_tup (pe_ix ix_tup (pv 0) pe_int (fun _ _ => rfl))) (blkOk_by (own := [("out", 5)]) (N := ["net", "k", "depth", "told", "least", "out", "choices", "needs", "tables"]) (sc := defScope s_fewest) (by decide +kernel)) (fun _ _ _ _ _ => (pg_name (i := 5) sc_fewest.nd rfl (by first | exact Or.inl rfl | exact Or.inr rfl))) (fun _ _ _ _ _ => pts_nil) (fun _ _ _ _ _ => (pe_ix (ix_tupK (K := K)) (pv 3) (pv 5) (fun _ _ => rfl)))) pa_nil))))
      (pss_cons (ps_if (PT.nox (pt_cmpR op_gt (pv 4) (pv 2) (nomark _))) (pss_one (ps_raise rfl tk (pmk_sup i_NoDepth hr (by decide) rfl (pa_cons (pv 4) pa_nil)))) pss_nil)
      (PSs.nox (pss_cons (ps_set (i := 6) sc_fewest.nd rfl (by first | exact Or.inl rfl | exact Or.inr rfl) (pe_c c_cut_choices hr (by decide) (by rfl) (pa_cons (pv 0) (pa_cons (pv 1) pa_nil))))
      (pss_cons (ps_set (i := 7) sc_fewest.nd rfl (by first | exact Or.inl rfl | exact Or.inr rfl) (pe_c c_first_needs hr (by decide) (by rfl) (pa_cons (pv 0) (pa_cons (pv 2) pa_nil))))
      (pss_cons (ps_set (i := 8) sc_fewest.nd rfl (by first | exact Or.inl rfl | exact Or.inr rfl) (pe_c c_fewest_tables hr (by decide) (by rfl) (pa_cons (pv 0) (pa_cons (pv 6) (pa_cons (pv 7) (pa_cons (pe_c c_wires_in hr (by decide) (by rfl) (pa_cons (pv 0) pa_nil)) pa_nil))))))
      (pss_one (ps_ret (pe_tup (pa_cons (pe_revT (pv 8)) (pa_cons (pe_c c_count_paper hr (by decide) (by rfl) (pa_cons (pv 0) (pa_cons (pv 6) (pa_cons (pv 7) (pa_cons (pe_c c_wires_in hr (by decide) (by rfl) (pa_cons (pv 0) pa_nil)) (pa_cons (pe_callB call_len_seq (by rfl) T.b_len (by decide +kernel) (pa_cons (pv 8) pa_nil)) pa_nil)))))) pa_nil))))))))))))), ?_⟩
    clear hr
    refine ⟨_, rfl, a, _, 1, _, rfl, rfl, SqT.of N.top, at1, g, _, rfl, .inr (SqT.of N.gt), _, _, rfl, rfl, _, rfl, ite2 (fun h6 => ?_) (fun h6 => ?_)⟩
    · have h6 := of_decide_eq_true h6
      rw [List.length_map, N.gs.1] at h6
      exact ⟨_, rfl, by decide +kernel, .inr ⟨_, rfl, by decide, _, rfl, by decide +kernel, _, rfl, by decide +kernel, qM (by omega)⟩⟩
    have g6 : n.gates.length ≤ 6 := by
      have : ¬ ((6 : Int) < (((ps.map V.ref).length : Nat) : Int)) := fun z => h6 (decide_eq_true z)
      rw [List.length_map, N.gs.1] at this
      omega
    refine ⟨_, rfl, _, rfl, a, n, g, o, ps, k, rfl, N, ok, hk2, by omega, tb, fun r H1 ds0 a1 hr1 dl0 dt0 => ?_⟩
    obtain rfl : ds = ds0 := deps_uniq ok dt dt0 dl dl0
    have N1 := N.aft tb a1
    refine ⟨_, rfl, a, _, 2, _, rfl, rfl, SqT.of N1.top, at2, o, rfl, ⟨_, SqT.of N1.ot⟩, fun M nM => ?_⟩
    refine lc_tup (K := K) (a := o) (xs := n.outs.map nV) (fun i H' => Own H1 H' M (((n.outs.take i).map fun x => ds.getD x 0).map nV)) ⟨Same.new nM, upd_same, nM⟩ (fun k H' _ o' => SqT.of (o'.sm _ _ N1.ot)) ?_ ?_
    · rintro j x H10 hx o10
      have hj : j < n.outs.length := by
        have := (List.getElem?_eq_some_iff.mp hx).1
        rwa [List.length_map] at this
      rw [natAt hj] at hx
      cases hx
      have hlt : n.outs.getD j 0 < ds.length := by rw [dl]; exact ok.os _ (getD_mem hj)
      have o8 := ok.o8
      refine ⟨rfl, ?_⟩
      unfold tYes
      refine iteT ?_
      refine ⟨_, rfl, _, rfl, r, _, _, _, rfl, rfl, SqT.of (o10.sm _ _ hr1), atI_nat (natAt hlt), _, o10.at_, by rw [List.length_map, List.length_map, List.length_take]; exact small256 (by omega), ?_⟩
      have : n.outs.getD j 0 = n.outs[j] := by rw [List.getD_eq_getElem?_getD, List.getElem?_eq_getElem hj]; rfl
      rw [List.take_add_one, List.getElem?_eq_getElem hj, Option.toList_some, List.map_append, List.map_append, this]
      exact o10.app
    rintro H2 o2
    rw [List.length_map, List.take_length] at o2
    refine ⟨M, (n.outs.map fun x => ds.getD x 0).map (fun n : Nat => (n : Int)), rfl, (by rw [mapV]; exact SqL.of o2.at_), by rw [List.length_map, List.length_map]; exact ok.o1, fun m0 hm0 hbm0 => ?_⟩
    obtain rfl : m = m0 := hm.uniq ⟨hm0, hbm0⟩
    obtain ⟨z0, z1⟩ := hm.small ok dl dt
    have a2 := a1.trans (Aft.ofSame a1.tb o2.sm)
    refine ⟨_, rfl, _, rfl, _, _, rfl, rfl, _, rfl, ite2 (fun hd => ?_) (fun hd => ?_)⟩
    · have hd := of_decide_eq_true hd
      refine ⟨_, rfl, ?_⟩
      exact sup_read (log_small (by omega)) (Nat.le_trans (small_int (i := m) (by omega)).1 (by decide)) fun d hdn => qD g6 hd d _ a2 hdn
    have hd : ¬ dep < m := fun z => hd (decide_eq_true z)
    have hge : ∀ x ∈ n.outs, ((ds.getD x 0 : Nat) : Int) ≤ dep := fun x hx => by
      have := hm.2 _ (List.mem_map.mpr ⟨_, List.mem_map.mpr ⟨x, hx, rfl⟩, rfl⟩)
      omega
    have N2 := N1.same o2.sm
    refine ⟨_, rfl, _, rfl, a, n, g, o, ps, k, rfl, N2, ok, hk2, hk9, a2.tb, fun cp H3 qs ds' a3 dl' dt' C => ?_⟩
    obtain rfl : ds = ds' := deps_uniq ok dt dt' dl dl'
    have a13 := a2.trans a3
    have N3 := N2.aft a2.tb a3
    refine ⟨_, rfl, _, rfl, a, n, g, o, ps, dep, rfl, N3, ok, fun d H4 s4 hd4 nd4 => ?_⟩
    have F4 : FwAt n k ds cof H4 a cp g o ps qs := ⟨N3.same s4, ok, hk9, C.mono fun b xs e => s4 b _ e, dl, dt, hcof⟩
    have Nd4 : NdAt n ds H4 d (firstN n dep) := ⟨hd4, firstN_ok n dep, firstN_in ok dep, firstN_ge hge⟩
    have fc := few_cnt dl dt hcof 24 (firstN n dep) (n.many + n.gates.length) Nd4.toW (by omega)
    refine ⟨_, rfl, _, rfl, _, rfl, _, rfl, a, n, g, o, ps, rfl, F4.net, a, cp, d, n, g, o, ps, qs, k, ds, cof, firstN n dep, n.many + n.gates.length, rfl, F4, Nd4, by omega, fun tp H5 s5 cv => ?_⟩
    have cv : CvAt H5 tp (fewT n ds cof 24 (firstN n dep) (n.many + n.gates.length)) := cv
    obtain ⟨tps, cva⟩ := cv
    have tl : (tps.map V.ref).length = (fewT n ds cof 24 (firstN n dep) (n.many + n.gates.length)).length := by rw [List.length_map, cva.ts.1]
    have F5 := F4.same s5
    refine ⟨_, rfl, tp, _, rfl, SqT.of cva.top, fun rp nr => ?_⟩
    have s6 := Same.new (o := .tup (tps.map V.ref).reverse) nr
    have cr : CvAt (upd H5 rp (.tup (tps.map V.ref).reverse)) rp (fewT n ds cof 24 (firstN n dep) (n.many + n.gates.length)).reverse := by
      refine ⟨tps.reverse, by rw [upd_same, List.map_reverse], by rw [List.length_reverse, List.length_reverse]; exact cva.ts.1, fun j p x e1 e2 => ?_⟩
      have hl := cva.ts.1
      have h1 := (List.getElem?_eq_some_iff.mp e1).1
      rw [List.length_reverse] at h1
      rw [List.getElem?_reverse h1] at e1
      rw [List.getElem?_reverse (by omega), ← hl] at e2
      exact TbAt.mono (fun b xs e => s6 _ _ e) p x (cva.ts.2 _ p x e1 e2)
    generalize upd H5 rp (.tup (tps.map V.ref).reverse) = H6 at s6 cr ⊢
    have F6 := F5.same s6
    have Nd6 := Nd4.same (s5.trans s6)
    refine ⟨_, rfl, _, rfl, _, rfl, _, rfl, a, n, g, o, ps, rfl, F6.net, _, rfl, tp, _, rfl, .inr (SqT.of (s6 _ _ cva.top)), a, cp, d, n, g, o, ps, qs, k, ds, cof, firstN n dep, n.many + n.gates.length, (tps.map V.ref).length, rfl, F6, Nd6, by omega, by rw [tl]; show _ ≤ cntN n ds cof 24 _ _; omega, fun pp H7 s7 rpp => ⟨small 2, fun p np => ?_⟩⟩
    have rpp : Rep H7 (.ref pp) (papT n ds cof (tps.map V.ref).length 24 (firstN n dep) (n.many + n.gates.length)) := rpp
    rw [tl] at rpp
    have s8 := Same.new (o := .tup [.ref rp, .ref pp]) np
    have s78 := s7.trans s8
    exact q g6 hd p _ rp pp (a13.trans (Aft.ofSame a13.tb (((s4.trans s5).trans s6).trans s78))) upd_same
end
end K52
set_option Elab.async false
set_option linter.all false
set_option maxRecDepth 100000
set_option maxHeartbeats 4000000
namespace K52
open PySem PySem.Spec PyProof.Rows L2 GX
open C8 (Cal pe_c pe_gc Met Mak)
-- @exc CoverError
-- @exc NoText
-- @exc NoDepth init=least
-- @exc TooMany made
-- @exc NoMatch
-- @exc NoChange
-- @exc NoRow
-- @sub NoDepth NoDepth true
-- @sub NoDepth CoverError true
-- @sub NoDepth ValueError true
-- @sub NoDepth NoChange false
-- @sub NoDepth NoMatch false
-- @sub NoDepth NoRow false
-- @sub NoDepth NoText false
-- @sub NoDepth TooMany false
-- @sub TooMany TooMany true
-- @sub TooMany CoverError true
-- @sub TooMany ValueError true
-- @sub TooMany NoChange false
-- @sub TooMany NoMatch false
-- @sub TooMany NoRow false
-- @sub TooMany NoText false
-- @sub TooMany NoDepth false
section
variable {P : Program} {w : World} {K : PySem.W.Frag} {mg : Str → Option Value} {base : Heap} {Ts : List Addr} {CTooMany CNoDepth CNoChange CNoMatch CNoRow CNoText CCoverError : Addr}
theorem kit_ib {K : PySem.W.Frag} : PySem.W.kitOne K (.type "int") (.type "bool") = some false := by
  have s : PySem.W.subIn K (.type "int") (.type "bool") = some false := by
    have e : fastBuiltinMro "int" = some [.type "int", .type "object"] := by decide +kernel
    show (fastBuiltinMro "int").map (fun l => l.contains (Value.type "bool")) = some false
    rw [e]
    rfl
  have hn : PySem.W.kitMeta "bool" = true := by decide +kernel
  unfold PySem.W.kitOne
  rw [if_neg (by simp)]
  unfold PySem.W.kitCls
  simp only [hn, s]
  rfl
def dueV (n : Net) (m dep : Int) : List V := if 6 < n.gates.length then [.str "many", .int 0] else if dep < m then [.str "depth", .int m] else [.str "told", .int 0]
def spLTold (Ts : List Addr) : Sp := fun vs H Q _ => ∃ (a : Addr) (n : Net) (g o : Addr) (ps : List Addr) (k : Nat) (dep : Int) (cof : Nat → List (List Nat)) (ds : List Nat) (m : Int), vs = [.ref a, nV k, .int dep] ∧ NetAt H a n g o ps ∧ n.Ok ∧ 2 ≤ k ∧ k ≤ 900 ∧ (∀ x, x < n.many + n.gates.length → CutsAre n k x (cof x)) ∧ Tabs Ts H ∧ ds.length = n.many + n.gates.length ∧ DepsTo n k ds ∧ MaxO n ds m ∧
  ∀ t H', Aft Ts H H' → H' t = some (.tup (dueV n m dep)) → Q (.ref t) H'
theorem ok_lTold {f c : Addr} (D : Dfn K mg "_law_told" s__law_told f c) (T : Txt mg) (x_CoverError : ExcT K mg "CoverError" CCoverError) (x_NoMatch : ExcT K mg "NoMatch" CNoMatch) (x_NoChange : ExcT K mg "NoChange" CNoChange) (x_NoDepth : ExcT K mg "NoDepth" CNoDepth) (x_NoRow : ExcT K mg "NoRow" CNoRow) (x_NoText : ExcT K mg "NoText" CNoText) (x_TooMany : ExcM K mg "TooMany" CTooMany)
    (su_NoDepth_NoDepth : PySem.W.subIn K (.ref CNoDepth) (.ref CNoDepth) = some true) (su_NoDepth_CoverError : PySem.W.subIn K (.ref CNoDepth) (.ref CCoverError) = some true) (su_NoDepth_ValueError : PySem.W.subIn K (.ref CNoDepth) (.type "ValueError") = some true) (su_NoDepth_NoChange : PySem.W.subIn K (.ref CNoDepth) (.ref CNoChange) = some false) (su_NoDepth_NoMatch : PySem.W.subIn K (.ref CNoDepth) (.ref CNoMatch) = some false) (su_NoDepth_NoRow : PySem.W.subIn K (.ref CNoDepth) (.ref CNoRow) = some false) (su_NoDepth_NoText : PySem.W.subIn K (.ref CNoDepth) (.ref CNoText) = some false) (su_NoDepth_TooMany : PySem.W.subIn K (.ref CNoDepth) (.ref CTooMany) = some false)
    (su_TooMany_TooMany : PySem.W.subIn K (.ref CTooMany) (.ref CTooMany) = some true) (su_TooMany_CoverError : PySem.W.subIn K (.ref CTooMany) (.ref CCoverError) = some true) (su_TooMany_ValueError : PySem.W.subIn K (.ref CTooMany) (.type "ValueError") = some true) (su_TooMany_NoChange : PySem.W.subIn K (.ref CTooMany) (.ref CNoChange) = some false) (su_TooMany_NoMatch : PySem.W.subIn K (.ref CTooMany) (.ref CNoMatch) = some false) (su_TooMany_NoRow : PySem.W.subIn K (.ref CTooMany) (.ref CNoRow) = some false) (su_TooMany_NoText : PySem.W.subIn K (.ref CTooMany) (.ref CNoText) = some false) (su_TooMany_NoDepth : PySem.W.subIn K (.ref CTooMany) (.ref CNoDepth) = some false)
    (hfl : PySem.W.findIn K (.ref CNoDepth) "least" = some none)
    (c_fewest : CalX P w K mg base 28 "fewest" (spFewX Ts CTooMany CNoDepth)) : Cal P w K mg base 29 "_law_told" (spLTold Ts) [] := by
  refine cal D (fun _ _ _ _ _ _ us hl => match us, hl with | [_, _, _], _ => rfl) sc__law_told (fun vs H Q E h => ?_) (fun A outer s H vs Q E hr h => ?_)
  · obtain ⟨a, n, g, o, ps, k, dep, cof, ds, m, rfl, _⟩ := h
    rfl
  · obtain ⟨a, n, g, o, ps, k, dep, cof, ds, m, rfl, N, ok, hk2, hk9, hcof, tb, dl, dt, hm, q⟩ := h
    refine ⟨_, (pss_cons (ps_set (i := 3) sc__law_told.nd rfl (by first | exact Or.inl rfl | exact Or.inr rfl) (pe_tup (pa_cons pe_str (pa_cons pe_int pa_nil))))
      (pss_cons (ps_tryK (i := 6) rfl rfl rfl sc__law_told.nd rfl rfl ⟨rfl, by decide, .inl x_CoverError.g⟩ takes0
        (fun W pn xe tk => (pss_one (ps_set (i := 4) sc__law_told.nd rfl (by first | exact Or.inl rfl | exact Or.inr rfl) (pe_cX c_fewest tk hr (by decide) (by rfl) (pa_cons (pv 0) (pa_cons (pv 1) (pa_cons (pv 2) pa_nil)))))))
        (fun a pn => (pss_cons (ps_set (i := 5) sc__law_told.nd rfl (by first | exact Or.inl rfl | exact Or.inr rfl) (pe_or (pe_callB (call_isETK (K := K) rfl) (by rfl) T.b_isinstance (by decide +kernel) (pa_cons (pv 6) (pa_cons (pe_tup (pa_cons (pe_gc (v := .ref CNoChange) (by rfl) ⟨_, x_NoChange.g, rfl⟩) (pa_cons (pe_gc (v := .ref CNoMatch) (by rfl) ⟨_, x_NoMatch.g, rfl⟩) (pa_cons (pe_gc (v := .ref CNoRow) (by rfl) ⟨_, x_NoRow.g, rfl⟩) (pa_cons (pe_gc (v := .ref CNoText) (by rfl) ⟨_, x_NoText.g, rfl⟩) pa_nil))))) pa_nil))) (pe_one (pe_not (pe_callB (call_isE1K (K := K) rfl) (by rfl) T.b_isinstance (by decide +kernel) (pa_cons (pv 6) (pa_cons (pe_bltn (v := .ty "ValueError") (by rfl) T.b_ValueError (by decide +kernel) rfl) pa_nil)))))))
      (pss_cons (ps_set (i := 3) sc__law_told.nd rfl (by first | exact Or.inl rfl | exact Or.inr rfl) (pe_tup (pa_cons pe_str (pa_cons pe_int pa_nil))))
      (pss_cons (ps_if (PW.pt (pw_and (pt_val (pe_callB (call_isE1K (K := K) rfl) (by rfl) T.b_isinstance (by decide +kernel) (pa_cons (pv 6) (pa_cons (pe_gc (v := .ref CTooMany) (by rfl) ⟨_, x_TooMany.g, rfl⟩) pa_nil)))) (pw_and (pt_not (pt_val (pe_callB (call_isE1K (K := K) rfl) (by rfl) T.b_isinstance (by decide +kernel) (pa_cons (pv 6) (pa_cons (pe_gc (v := .ref CNoDepth) (by rfl) ⟨_, x_NoDepth.g, rfl⟩) pa_nil))))) (pw_and1 (pt_not (pt_val (pv 5))))))) (pss_one (ps_set (i := 3) sc__law_told.nd rfl (by first | exact Or.inl rfl | exact Or.inr rfl) (pe_tup (pa_cons pe_str (pa_cons pe_int pa_nil))))) pss_nil)
      (pss_one (ps_if (PW.pt (pw_and (pt_val (pe_callB (call_isE1K (K := K) rfl) (by rfl) T.b_isinstance (by decide +kernel) (pa_cons (pv 6) (pa_cons (pe_gc (v := .ref CNoDepth) (by rfl) ⟨_, x_NoDepth.g, rfl⟩) pa_nil)))) (pw_and (pt_not (pt_val (pe_callB (call_isE1K (K := K) rfl) (by rfl) T.b_isinstance (by decide +kernel) (pa_cons (pv 6) (pa_cons (pe_gc (v := .ref CTooMany) (by rfl) ⟨_, x_TooMany.g, rfl⟩) pa_nil))))) (pw_and (pt_not (pt_val (pv 5))) (pw_and1 (pt_not (pt_val (pe_callB (call_isE1K (K := K) rfl) (by rfl) T.b_isinstance (by decide +kernel) (pa_cons (pe_xfB (K := K) rfl (pv 6) rfl) (pa_cons (pe_bltn (v := .ty "bool") (by rfl) T.b_bool (by decide +kernel) rfl) pa_nil)))))))))) (pss_one (ps_set (i := 3) sc__law_told.nd rfl (by first | exact Or.inl rfl | exact Or.inr rfl) (pe_tup (pa_cons pe_str (pa_cons (pe_xfB (K := K) rfl (pv 6) rfl) pa_nil))))) pss_nil)))))) (pss_one (ps_if (PW.pt (pw_or (pt_not (pt_val (pe_callB call_isE1 (by rfl) T.b_isinstance (by decide +kernel) (pa_cons (pv 4) (pa_cons (pe_bltn (v := .ty "tuple") (by rfl) T.b_tuple (by decide +kernel) rfl) pa_nil))))) (pw_or1 (pt_cmpR op_ne (pe_callB call_len_seq (by rfl) T.b_len (by decide +kernel) (pa_cons (pv 4) pa_nil)) pe_int (nomark _))))) (pss_one (ps_set (i := 3) sc__law_told.nd rfl (by first | exact Or.inl rfl | exact Or.inr rfl) (pe_tup (pa_cons pe_str (pa_cons pe_int pa_nil))))) pss_nil)))
      (pss_one (ps_ret (pv 3))))), ?_⟩
    clear hr
    refine ⟨small 2, fun p0 np0 => ?_⟩
    have a0 := Aft.new (o := .tup [.str "told", .int 0]) tb np0
    have N0 := N.aft tb a0
    have XF : XfC K CNoDepth := ⟨x_NoDepth.e.hg, x_NoDepth.e.hk, x_NoDepth.e.hs, x_NoDepth.e.hd⟩
    with_reducible refine seq_cutG (fun σ H' => ∃ (x4 x5 x6 : Option V) (t : Addr), σ = [some (.ref a), some (nV k), some (.int dep), some (.ref t), x4, x5, x6] ∧ Aft Ts H H' ∧ H' t = some (.tup (dueV n m dep))) (fun B hB => ?_) ?_
    · refine ⟨_, rfl, _, rfl, _, rfl, a, n, g, o, ps, k, dep, cof, ds, m, rfl, N0, ok, hk2, hk9, hcof, a0.tb, dl, dt, hm, fun h6 => ?_, fun h6 hd0 d H1 a1 nd => ?_, fun h6 hd0 p H1 tp pp a1 hp => ?_⟩
      · refine ⟨true, exm_of2 x_CoverError su_TooMany_CoverError, fun _ e ne => ?_, fun z => by cases z⟩
        have s1 := Same.new (o := XO (.ref CTooMany) none e) ne
        have he : upd (upd H p0 (.tup [.str "told", .int 0])) e (XO (.ref CTooMany) none e) e = some (XO (.ref CTooMany) none e) := upd_same
        generalize upd (upd H p0 (.tup [.str "told", .int 0])) e (XO (.ref CTooMany) none e) = H2 at s1 he ⊢
        refine ⟨_, rfl, small 4, fun p np => ⟨_, p, _, .ref CTooMany, [.ref CNoChange, .ref CNoMatch, .ref CNoRow, .ref CNoText], false, rfl, upd_same, .cons (.own _) (.cons (.own _) (.cons (.own _) (.cons (.own _) .nil))), .e x_TooMany.e ((Same.new np) _ _ he) (fun _ z => by cases z), kit_none _ (fun c hc => ?_), ?_⟩⟩
        · simp only [List.mem_cons, List.not_mem_nil, or_false] at hc
          rcases hc with rfl | rfl | rfl | rfl
          · exact kit_no x_NoChange su_TooMany_TooMany su_TooMany_NoChange
          · exact kit_no x_NoMatch su_TooMany_TooMany su_TooMany_NoMatch
          · exact kit_no x_NoRow su_TooMany_TooMany su_TooMany_NoRow
          · exact kit_no x_NoText su_TooMany_TooMany su_TooMany_NoText
        have s2 := s1.trans (Same.new (o := .tup [.ref CNoChange, .ref CNoMatch, .ref CNoRow, .ref CNoText]) np)
        have he2 := (Same.new (o := .tup [.ref CNoChange, .ref CNoMatch, .ref CNoRow, .ref CNoText]) np) _ _ he
        generalize upd H2 p (.tup [.ref CNoChange, .ref CNoMatch, .ref CNoRow, .ref CNoText]) = H3 at s2 he2 ⊢
        refine ⟨false, rfl, iteF ?_⟩
        refine ⟨_, rfl, _, _, .ref CTooMany, _, true, rfl, .ty "ValueError", .e x_TooMany.e he2 (fun _ z => by cases z), kit_ve (by decide +kernel) su_TooMany_ValueError, _, rfl, ?_⟩
        refine ⟨small 2, fun p1 np1 => ?_⟩
        have s3 := s2.trans (Same.new (o := .tup [.str "odd", .int 0]) np1)
        have he3 := (Same.new (o := .tup [.str "odd", .int 0]) np1) _ _ he2
        generalize upd H3 p1 (.tup [.str "odd", .int 0]) = H4 at s3 he3 ⊢
        refine ⟨_, rfl, _, _, .ref CTooMany, _, true, rfl, .own _, .e x_TooMany.e he3 (fun _ z => by cases z), kit_ref x_TooMany.t x_TooMany.i su_TooMany_TooMany (fun _ => rfl), _, rfl, iteT ?_⟩
        refine ⟨_, rfl, _, _, .ref CTooMany, _, false, rfl, .own _, .e x_TooMany.e he3 (fun _ z => by cases z), kit_no x_NoDepth su_TooMany_TooMany su_TooMany_NoDepth, _, rfl, iteT ?_⟩
        refine ⟨_, rfl, _, rfl, iteT ?_⟩
        refine ⟨small 2, fun p2 np2 => ?_⟩
        have s4 := s3.trans (Same.new (o := .tup [.str "many", .int 0]) np2)
        have he4 := (Same.new (o := .tup [.str "many", .int 0]) np2) _ _ he3
        refine ⟨_, rfl, _, _, .ref CTooMany, _, false, rfl, .own _, .e x_TooMany.e he4 (fun _ z => by cases z), kit_no x_NoDepth su_TooMany_TooMany su_TooMany_NoDepth, _, rfl, iteF (iteF ?_)⟩
        refine hB _ _ ⟨_, _, _, p2, rfl, a0.trans (Aft.ofSame a0.tb s4), ?_⟩
        rw [upd_same]
        unfold dueV
        rw [if_pos h6]
      · refine ⟨true, exm_of2 x_CoverError su_NoDepth_CoverError, fun _ e ne => ?_, fun z => by cases z⟩
        have s1 := Same.new (o := XO (.ref CNoDepth) (some d) e) ne
        have he : upd (upd H1 d (.xd [("least", .int m)])) e (XO (.ref CNoDepth) (some d) e) e = some (XO (.ref CNoDepth) (some d) e) := upd_same
        have hd : upd (upd H1 d (.xd [("least", .int m)])) e (XO (.ref CNoDepth) (some d) e) d = some (.xd [("least", .int m)]) := s1 _ _ upd_same
        generalize upd (upd H1 d (.xd [("least", .int m)])) e (XO (.ref CNoDepth) (some d) e) = H2 at s1 he hd ⊢
        refine ⟨_, rfl, small 4, fun p np => ⟨_, p, _, .ref CNoDepth, [.ref CNoChange, .ref CNoMatch, .ref CNoRow, .ref CNoText], false, rfl, upd_same, .cons (.own _) (.cons (.own _) (.cons (.own _) (.cons (.own _) .nil))), .e x_NoDepth.e ((Same.new np) _ _ he) (fun _ z => by cases z; exact ⟨_, (Same.new np) _ _ hd⟩), kit_none _ (fun c hc => ?_), ?_⟩⟩
        · simp only [List.mem_cons, List.not_mem_nil, or_false] at hc
          rcases hc with rfl | rfl | rfl | rfl
          · exact kit_no x_NoChange su_NoDepth_NoDepth su_NoDepth_NoChange
          · exact kit_no x_NoMatch su_NoDepth_NoDepth su_NoDepth_NoMatch
          · exact kit_no x_NoRow su_NoDepth_NoDepth su_NoDepth_NoRow
          · exact kit_no x_NoText su_NoDepth_NoDepth su_NoDepth_NoText
        have s2 := s1.trans (Same.new (o := .tup [.ref CNoChange, .ref CNoMatch, .ref CNoRow, .ref CNoText]) np)
        have he2 := (Same.new (o := .tup [.ref CNoChange, .ref CNoMatch, .ref CNoRow, .ref CNoText]) np) _ _ he
        have hd2 := (Same.new (o := .tup [.ref CNoChange, .ref CNoMatch, .ref CNoRow, .ref CNoText]) np) _ _ hd
        generalize upd H2 p (.tup [.ref CNoChange, .ref CNoMatch, .ref CNoRow, .ref CNoText]) = H3 at s2 he2 hd2 ⊢
        refine ⟨false, rfl, iteF ?_⟩
        refine ⟨_, rfl, _, _, .ref CNoDepth, _, true, rfl, .ty "ValueError", .e x_NoDepth.e he2 (fun _ z => by cases z; exact ⟨_, hd2⟩), kit_ve (by decide +kernel) su_NoDepth_ValueError, _, rfl, ?_⟩
        refine ⟨small 2, fun p1 np1 => ?_⟩
        have s3 := s2.trans (Same.new (o := .tup [.str "odd", .int 0]) np1)
        have he3 := (Same.new (o := .tup [.str "odd", .int 0]) np1) _ _ he2
        have hd3 := (Same.new (o := .tup [.str "odd", .int 0]) np1) _ _ hd2
        generalize upd H3 p1 (.tup [.str "odd", .int 0]) = H4 at s3 he3 hd3 ⊢
        refine ⟨_, rfl, _, _, .ref CNoDepth, _, false, rfl, .own _, .e x_NoDepth.e he3 (fun _ z => by cases z; exact ⟨_, hd3⟩), kit_no x_TooMany.toExcT su_NoDepth_NoDepth su_NoDepth_TooMany, _, rfl, iteF (iteF ?_)⟩
        refine ⟨_, rfl, _, _, .ref CNoDepth, _, true, rfl, .own _, .e x_NoDepth.e he3 (fun _ z => by cases z; exact ⟨_, hd3⟩), kit_ref x_NoDepth.t x_NoDepth.i su_NoDepth_NoDepth (fun _ => rfl), _, rfl, iteT ?_⟩
        refine ⟨_, rfl, _, _, .ref CNoDepth, _, false, rfl, .own _, .e x_NoDepth.e he3 (fun _ z => by cases z; exact ⟨_, hd3⟩), kit_no x_TooMany.toExcT su_NoDepth_NoDepth su_NoDepth_TooMany, _, rfl, iteT ?_⟩
        refine ⟨_, rfl, _, rfl, iteT ?_⟩
        refine ⟨_, rfl, e, CNoDepth, d, _, _, rfl, XF, hfl, he3, hd3, rfl, _, _, .type "int", _, false, rfl, .ty "bool", .x (.base (.int m)), kit_ib, _, rfl, iteT ?_⟩
        refine ⟨_, rfl, e, CNoDepth, d, _, _, rfl, XF, hfl, he3, hd3, rfl, small 2, fun p2 np2 => ?_⟩
        have s4 := s3.trans (Same.new (o := .tup [.str "depth", .int m]) np2)
        refine hB _ _ ⟨_, _, _, p2, rfl, (a0.trans a1).trans (Aft.ofSame a1.tb ((Same.new nd).trans s4)), ?_⟩
        rw [upd_same]
        unfold dueV
        rw [if_neg (by omega), if_pos hd0]
      · refine ⟨_, rfl, _, _, .type "tuple", _, true, rfl, .ty "tuple", .x (.base (.tup hp)), by unfold PySem.W.kitOne; rw [if_pos (by simp)], _, rfl, iteF ?_⟩
        refine ⟨_, rfl, p, _, rfl, .inr (SqT.of hp), rfl, _, rfl, iteF ?_⟩
        refine hB _ _ ⟨_, _, _, p0, rfl, a0.trans a1, ?_⟩
        rw [a1.tup a0.tb upd_same]
        unfold dueV
        rw [if_neg (by omega), if_neg hd0]
    · rintro σ H1 ⟨x4, x5, x6, t, rfl, a1, ht⟩
      exact ⟨_, rfl, q t H1 a1 ht⟩
end
end K52
set_option Elab.async false
set_option linter.all false
set_option maxRecDepth 100000
set_option maxHeartbeats 4000000
namespace K52
open PySem PySem.Spec PyProof.Rows L2 GX
open C8 (Cal pe_c pe_gc Met Mak)
-- @exc CoverError
-- @exc NoText
-- @exc NoDepth init=least
-- @exc TooMany made
-- @exc NoMatch
-- @exc NoChange
-- @exc NoRow
-- @sub NoDepth NoDepth true
-- @sub NoDepth CoverError true
-- @sub NoDepth ValueError true
-- @sub NoDepth NoChange false
-- @sub NoDepth NoMatch false
-- @sub NoDepth NoRow false
-- @sub NoDepth NoText false
-- @sub NoDepth TooMany false
-- @sub TooMany TooMany true
-- @sub TooMany CoverError true
-- @sub TooMany ValueError true
-- @sub TooMany NoChange false
-- @sub TooMany NoMatch false
-- @sub TooMany NoRow false
-- @sub TooMany NoText false
-- @sub TooMany NoDepth false
section
variable {P : Program} {w : World} {K : PySem.W.Frag} {mg : Str → Option Value} {base : Heap} {Ts : List Addr}
def spLDue : Sp := fun vs H Q _ => ∃ (a : Addr) (n : Net) (g o : Addr) (ps : List Addr) (m dep : Int), vs = [.ref a, .int m, .int dep] ∧ NetAt H a n g o ps ∧ ∀ t H', Same H H' → H' t = some (.tup (dueV n m dep)) → Q (.ref t) H'
theorem ok_lDue {f c : Addr} (D : Dfn K mg "_law_due" s__law_due f c) (T : Txt mg) : Cal P w K mg base 1 "_law_due" spLDue [] := by
  refine cal D (fun _ _ _ _ _ _ us hl => match us, hl with | [_, _, _], _ => rfl) sc__law_due (fun vs H Q E h => ?_) (fun A outer s H vs Q E hr h => ?_)
  · obtain ⟨a, n, g, o, ps, m, dep, rfl, _⟩ := h
    rfl
  · obtain ⟨a, n, g, o, ps, m, dep, rfl, N, q⟩ := h
    refine ⟨_, (pss_cons (ps_if (pt_cmpR op_gt (pe_callB call_len_seq (by rfl) T.b_len (by decide +kernel) (pa_cons (pe_ix ix_tup (pv 0) pe_int (fun _ _ => rfl)) pa_nil)) pe_int (nomark _)) (pss_one (ps_ret (pe_tup (pa_cons pe_str (pa_cons pe_int pa_nil))))) pss_nil)
      (pss_cons (ps_if (pt_cmpR op_lt (pv 2) (pv 1) (nomark _)) (pss_one (ps_ret (pe_tup (pa_cons pe_str (pa_cons (pv 1) pa_nil))))) pss_nil)
      (pss_one (ps_ret (pe_tup (pa_cons pe_str (pa_cons pe_int pa_nil))))))), ?_⟩
    clear hr
    refine ⟨_, rfl, a, _, 1, _, rfl, rfl, SqT.of N.top, at1, g, _, rfl, .inr (SqT.of N.gt), _, _, rfl, rfl, _, rfl, ite2 (fun h6 => ?_) (fun h6 => ?_)⟩
    · have h6 := of_decide_eq_true h6
      rw [List.length_map, N.gs.1] at h6
      refine ⟨small 2, fun t nt => q t _ (Same.new nt) ?_⟩
      rw [upd_same]
      unfold dueV
      rw [if_pos (by omega)]
    have g6 : ¬ 6 < n.gates.length := by
      have : ¬ ((6 : Int) < (((ps.map V.ref).length : Nat) : Int)) := fun z => h6 (decide_eq_true z)
      rw [List.length_map, N.gs.1] at this
      omega
    refine ⟨_, rfl, _, rfl, _, _, rfl, rfl, _, rfl, ite2 (fun hd => ?_) (fun hd => ?_)⟩
    · have hd := of_decide_eq_true hd
      refine ⟨_, rfl, small 2, fun t nt => q t _ (Same.new nt) ?_⟩
      rw [upd_same]
      unfold dueV
      rw [if_neg g6, if_pos hd]
    · have hd : ¬ dep < m := fun z => hd (decide_eq_true z)
      refine ⟨small 2, fun t nt => q t _ (Same.new nt) ?_⟩
      rw [upd_same]
      unfold dueV
      rw [if_neg g6, if_neg hd]
def spLaw (K : PySem.W.Frag) (Ts : List Addr) : Sp := fun vs H Q _ => ∃ (a : Addr) (ns : List Int), vs = [.ref a] ∧ SqL K H a (ns.map V.int) ∧ ns.length ≤ 63 ∧ Tabs Ts H ∧ ∀ H', Q (.bl true) H'
theorem ok_law {f c : Addr} {oc kV doc pm ct : Value} {od an : Option Addr} {osl : Array (Option Value)}
    (lk : K.lookup f = some ⟨oc, od, .func (PySem.W.fnOf "law" "law" (defArgs s_law) (defBody s_law) (defScope s_law) .none kV doc pm an (.ref c) ct), osl⟩) (hcd : PySem.W.codeIn K (.ref c) "law" = true) (T : Txt mg)
    (c__law_deck : Cal P w K mg base 1 "_law_deck" (spDeck K) []) (c__law_draw : Cal P w K mg base 1 "_law_draw" spDraw []) (c__law_net : Cal P w K mg base 3 "_law_net" spNet []) (c__law_cuts : Cal P w K mg base 3 "_law_cuts" spCutsD []) (c__law_depths : Cal P w K mg base 1 "_law_depths" spDepsD []) (c__law_told : Cal P w K mg base 29 "_law_told" (spLTold Ts) []) (c__law_due : Cal P w K mg base 1 "_law_due" spLDue []) :
    FnOk P w K mg base L2.CX0 30 f (PySem.W.fnOf "law" "law" (defArgs s_law) (defBody s_law) (defScope s_law) .none kV doc pm an (.ref c) ct) ["_law_script"] (spLaw K Ts) := by
  refine fnok lk hcd sc_law (fun vs H Q E h => ?_) (fun A outer s H vs Q E hr h => ?_)
  · obtain ⟨a, ns, rfl, _⟩ := h
    rfl
  · obtain ⟨a, ns, rfl, hS, hlen, tb, q⟩ := h
    refine ⟨_, (pss_cons (ps_set (i := 1) sc_law.nd rfl (by first | exact Or.inl rfl | exact Or.inr rfl) (pe_c c__law_deck hr (by decide) (by rfl) (pa_cons (pv 0) pa_nil)))
      (pss_cons (ps_for PassesOwn.never rfl (pi_range1 (by rfl) T.b_range (pa_cons pe_int pa_nil)) (pg_name (i := 2) sc_law.nd rfl (by first | exact Or.inl rfl | exact Or.inr rfl))
        (pss_cons (ps_set (i := 3) sc_law.nd rfl (by first | exact Or.inl rfl | exact Or.inr rfl) (pe_callTy call_int1 (by rfl) T.b_int (by decide +kernel) (pa_cons (pe_cmpR op_eq (pe_c c__law_draw hr (by decide) (by rfl) (pa_cons (pv 1) (pa_cons pe_int pa_nil))) pe_int (nomark _)) pa_nil)))
      (pss_cons (ps_set (i := 4) sc_law.nd rfl (by first | exact Or.inl rfl | exact Or.inr rfl) (pe_op op_add pe_int (pe_c c__law_draw hr (by decide) (by rfl) (pa_cons (pv 1) (pa_cons (pe_op op_sub pe_int (pv 3)) pa_nil)))))
      (pss_cons (ps_set (i := 5) sc_law.nd rfl (by first | exact Or.inl rfl | exact Or.inr rfl) (pe_c c__law_net hr (by decide) (by rfl) (pa_cons (pv 1) (pa_cons pe_int (pa_cons (pe_ix ix_list (pe_lst (pa_cons pe_int (pa_cons pe_int pa_nil))) (pv 3) (fun _ _ => rfl)) pa_nil)))))
      (pss_cons (ps_set (i := 6) sc_law.nd rfl (by first | exact Or.inl rfl | exact Or.inr rfl) (pe_c c__law_depths hr (by decide) (by rfl) (pa_cons (pv 5) (pa_cons (pe_c c__law_cuts hr (by decide) (by rfl) (pa_cons (pv 5) (pa_cons (pv 4) pa_nil))) pa_nil))))
      (pss_cons (ps_set (i := 7) sc_law.nd rfl (by first | exact Or.inl rfl | exact Or.inr rfl) (pe_callB (cr_max rfl) (by rfl) T.b_max (by decide +kernel) (pa_cons (pe_lc (own := [("_law_wire", 8)]) (g := gName 8) (tt := tYes) rfl sc_law.nd (pi_tup (pe_ix ix_tup (pv 5) pe_int (fun _ _ => rfl))) (blkOk_by (own := [("_law_wire", 8)]) (N := ["_law_script", "_law_deck_here", "_law_turn", "_law_wide", "_law_k", "_law_net_here", "_law_known", "_law_least_here", "_law_wire", "_law_depth"]) (sc := defScope s_law) (by decide +kernel)) (fun _ _ _ _ _ => (pg_name (i := 8) sc_law.nd rfl (by first | exact Or.inl rfl | exact Or.inr rfl))) (fun _ _ _ _ _ => pts_nil) (fun _ _ _ _ _ => (pe_ix (ix_listK (K := K)) (pv 6) (pv 8) (fun _ _ => rfl)))) pa_nil)))
      (pss_one (ps_for PassesOwn.never rfl (pi_list (pe_lst (pa_cons (pv 7) (pa_cons pe_int (pa_cons (pe_callB (call_max2 rfl) (by rfl) T.b_max (by decide +kernel) (pa_cons pe_int (pa_cons (pe_op op_sub (pv 7) pe_int) pa_nil))) (pa_cons (pe_op op_add (pv 7) pe_int) (pa_cons (pe_c c__law_draw hr (by decide) (by rfl) (pa_cons (pv 1) (pa_cons (pe_op op_pow pe_int pe_int) pa_nil))) (pa_cons (pv 7) pa_nil)))))))) (pg_name (i := 9) sc_law.nd rfl (by first | exact Or.inl rfl | exact Or.inr rfl))
        (pss_one (ps_if (pt_cmpR (op_neD hr.units) (pe_c c__law_told hr (by decide) (by rfl) (pa_cons (pv 5) (pa_cons (pv 4) (pa_cons (pv 9) pa_nil)))) (pe_c c__law_due hr (by decide) (by rfl) (pa_cons (pv 5) (pa_cons (pv 7) (pa_cons (pv 9) pa_nil)))) (nomark _)) (pss_one (ps_ret pe_bl)) pss_nil))))))))))
      (pss_one (ps_ret pe_bl)))), ?_⟩
    clear hr
    refine ⟨_, rfl, a, ns, rfl, hS, hlen, fun W C H1 nW nC w1 s1 => ?_⟩
    have tb1 := tb.same s1
    refine ⟨_, rfl, by decide, by decide, ?_⟩
    refine for_range (lo := 0) (n := (3 : Int).toNat) (fun i σ H' => ∃ x2 x3 x4 x5 x6 x7 x8 x9, σ = [some (.ref a), some (.ref W), x2, x3, x4, x5, x6, x7, x8, x9] ∧ ∃ t, t ≤ 400 * i ∧ Wt H' W C t ∧ Tabs Ts H') ⟨none, none, none, none, none, none, none, none, rfl, 0, Nat.le_refl _, w1, tb1⟩ ?_ ?_
    · rintro i σ H2 hi ⟨x2, x3, x4, x5, x6, x7, x8, x9, rfl, t, ht, w2, tb2⟩
      have hi3 : i < 3 := hi
      have d2 : Dkt W C t Ts H2 H2 := Dkt.refl w2 tb2
      refine ⟨_, rfl, W, C, 8, t, rfl, w2, by omega, by decide, by decide, fun dw H3 _ _ k3 => ⟨rfl, ?_⟩⟩
      have d3 := d2.draw k3
      obtain ⟨wd, ew, wd2⟩ : ∃ wd : Nat, (if decide (V.int dw = V.int 5) = true then (1 : Int) else 0) = ((wd : Nat) : Int) ∧ wd < 2 := by
        split
        · exact ⟨1, rfl, by decide⟩
        · exact ⟨0, rfl, by decide⟩
      refine .inr ⟨_, rfl, ?_⟩
      rw [ew]
      refine ⟨_, rfl, _, rfl, _, _, rfl, rfl, W, C, 3 - ((wd : Nat) : Int), t + 1, rfl, d3.wl, by omega, by omega, by omega, fun dk H4 dk0 dk1 k4 => ⟨_, _, rfl, rfl, ?_⟩⟩
      have d4 := d3.draw k4
      obtain ⟨kk, rfl⟩ := Int.eq_ofNat_of_zero_le dk0
      refine ⟨_, rfl, small 2, fun l2 nl2 => ?_⟩
      have s5 := Same.new (o := .lst [.int 11, .int 16]) nl2
      have d5 := d4.same s5
      have hl2 : upd H4 l2 (.lst [.int 11, .int 16]) l2 = some (.lst [.int 11, .int 16]) := upd_same
      generalize upd H4 l2 (.lst [.int 11, .int 16]) = H5 at s5 d5 hl2 ⊢
      obtain ⟨gm, eg, gm16⟩ : ∃ gm : Nat, atI [V.int 11, V.int 16] ((wd : Nat) : Int) = some (nV gm) ∧ gm ≤ 16 := by
        rcases (by omega : wd = 0 ∨ wd = 1) with rfl | rfl
        · exact ⟨11, rfl, by decide⟩
        · exact ⟨16, rfl, by decide⟩
      refine ⟨_, rfl, l2, _, _, nV gm, rfl, rfl, SqL.of hl2, eg, W, C, 8, gm, t + 1 + 1, rfl, d5.wl, by omega, by decide, by decide, gm16, fun an n g o ps H6 ok _ _ N6 k6 => ?_⟩
      have d6 := d5.draw k6
      have m1 := ok.m1
      have m8 := ok.m8
      have g16 := ok.g16
      have e2 : (2 : Int) + ((kk : Nat) : Int) = ((2 + kk : Nat) : Int) := by omega
      have hk4 : 2 + kk ≤ 4 := by omega
      refine ⟨_, rfl, _, rfl, _, rfl, an, n, g, o, ps, 2 + kk, (by rw [show nV (2 + kk) = V.int ((2 : Int) + ((kk : Nat) : Int)) from congrArg V.int e2.symm]; rfl), N6, ok, by omega, hk4, fun ca H7 qs s7 nca hca PQ => ?_⟩
      have d7 := d6.same s7
      have N7 := N6.same s7
      refine ⟨an, n, g, o, ps, ca, ca, qs, 2 + kk, rfl, N7, ok, by omega, hk4, hca, PQ, fun la H8 ds s8 hla dl dt => ?_⟩
      have d8 := d7.same s8
      have N8 := N7.same s8
      obtain ⟨cof, hcof⟩ : ∃ cof : Nat → List (List Nat), ∀ x, x < n.many + n.gates.length → CutsAre n (2 + kk) x (cof x) := by
        have ex : ∀ x, ∃ cs, x < n.many + n.gates.length → CutsAre n (2 + kk) x cs := fun x => by
          by_cases hx : x < n.many + n.gates.length
          · obtain ⟨qa, _, _, rs, cs, _, _, h3, _⟩ := PQ.get (List.getElem?_range hx)
            exact ⟨cs, fun _ => h3⟩
          · exact ⟨[], fun z => absurd z hx⟩
        exact ⟨fun x => Classical.choose (ex x), fun x hx => Classical.choose_spec (ex x) hx⟩
      refine ⟨_, rfl, an, _, 2, _, rfl, rfl, SqT.of N8.top, at2, o, rfl, ⟨_, SqT.of N8.ot⟩, fun M nM => ?_⟩
      refine lc_tup (K := K) (a := o) (xs := n.outs.map nV) (fun i H' => Own H8 H' M (((n.outs.take i).map fun x => ds.getD x 0).map nV)) ⟨Same.new nM, upd_same, nM⟩ (fun k H' _ o' => SqT.of (o'.sm _ _ N8.ot)) ?_ ?_
      · rintro j x H9 hx o10
        have hj : j < n.outs.length := by
          have := (List.getElem?_eq_some_iff.mp hx).1
          rwa [List.length_map] at this
        rw [natAt hj] at hx
        cases hx
        have hlt : n.outs.getD j 0 < ds.length := by rw [dl]; exact ok.os _ (getD_mem hj)
        have o8 := ok.o8
        refine ⟨rfl, ?_⟩
        unfold tYes
        refine iteT ?_
        refine ⟨_, rfl, _, rfl, la, _, _, _, rfl, rfl, SqL.of (o10.sm _ _ hla), atI_nat (natAt hlt), _, o10.at_, by rw [List.length_map, List.length_map, List.length_take]; exact small256 (by omega), ?_⟩
        have : n.outs.getD j 0 = n.outs[j] := by rw [List.getD_eq_getElem?_getD, List.getElem?_eq_getElem hj]; rfl
        rw [List.take_add_one, List.getElem?_eq_getElem hj, Option.toList_some, List.map_append, List.map_append, this]
        exact o10.app
      rintro H9 o10
      rw [List.length_map, List.take_length] at o10
      have d9 := d8.same o10.sm
      have N9 := N8.same o10.sm
      refine ⟨M, (n.outs.map fun x => ds.getD x 0).map (fun n : Nat => (n : Int)), rfl, (by rw [mapV]; exact SqL.of o10.at_), by rw [List.length_map, List.length_map]; exact ok.o1, fun m hm hbm => ?_⟩
      have MO : MaxO n ds m := ⟨hm, hbm⟩
      show gName _ _ _ _ _
      refine ⟨_, rfl, _, rfl, _, _, rfl, rfl, _, _, rfl, _, rfl, _, _, rfl, rfl, _, rfl, _, _, rfl, rfl, ⟨by decide, by decide, by decide⟩, W, C, 10 ^ (39 : Int).toNat, _, rfl, d9.wl, by omega, by decide, by decide, fun dd H10 _ _ k10 => ⟨_, rfl, small 6, fun L nL => ?_⟩⟩
      have d10 := d9.draw k10
      have N10 : NetAt H10 an n g o ps := N9.mono fun b xs e => d9.wl.tup k10 e
      have s11 := Same.new (o := .lst [.int m, .int 0, .int (if m - 1 > 0 then m - 1 else 0), .int (m + 1), .int dd, .int m]) nL
      have d11 := d10.same s11
      have N11 := N10.same s11
      have hL : upd H10 L (.lst [.int m, .int 0, .int (if m - 1 > 0 then m - 1 else 0), .int (m + 1), .int dd, .int m]) L = some (.lst [.int m, .int 0, .int (if m - 1 > 0 then m - 1 else 0), .int (m + 1), .int dd, .int m]) := upd_same
      generalize upd H10 L (.lst [.int m, .int 0, .int (if m - 1 > 0 then m - 1 else 0), .int (m + 1), .int dd, .int m]) = H11 at s11 d11 N11 hL ⊢
      refine ⟨L, rfl, ⟨_, SqL.of hL⟩, ?_⟩
      refine for_list (K := K) (a := L) (xs := [.int m, .int 0, .int (if m - 1 > 0 then m - 1 else 0), .int (m + 1), .int dd, .int m]) (fun j σ H' => ∃ x2 x6 x8 x9, σ = [some (.ref a), some (.ref W), x2, some (.int ((wd : Nat) : Int)), some (nV (2 + kk)), some (.ref an), x6, some (.int m), x8, x9] ∧ Aft Ts H11 H') ⟨some (.int (0 + ((i : Nat) : Int))), some (.ref la), x8, x9, ?_, Aft.refl d11.tb⟩ (fun j σ H' _ ⟨_, _, _, _, _, a'⟩ => SqL.of (a'.lst d11.tb hL)) ?_ ?_
      · rw [show nV (2 + kk) = V.int ((2 : Int) + ((kk : Nat) : Int)) from congrArg V.int e2.symm]
        rfl
      · rintro j y σ H' hy ⟨x2', x6', x8', x9', rfl, a'⟩
        obtain ⟨dep, rfl⟩ : ∃ dep : Int, y = .int dep := by
          have := List.mem_of_getElem? hy
          simp only [List.mem_cons, List.not_mem_nil, or_false] at this
          rcases this with h | h | h | h | h | h <;> exact ⟨_, h⟩
        have N' := N11.aft d11.tb a'
        refine ⟨_, rfl, _, rfl, _, rfl, an, n, g, o, ps, 2 + kk, dep, cof, ds, m, rfl, N', ok, by omega, by omega, hcof, a'.tb, dl, dt, MO, fun t1 H12 a12 ht1 => ?_⟩
        have N12 := N'.aft a'.tb a12
        refine ⟨_, rfl, _, rfl, _, rfl, an, n, g, o, ps, m, dep, rfl, N12, fun t2 H13 s13 ht2 => ?_⟩
        obtain ⟨sx, jx, ev, oks⟩ : ∃ (sx : Str) (jx : Int), dueV n m dep = [.str sx, .int jx] ∧ PyData.canLay0 (.str sx) = true := by
          unfold dueV
          split
          · exact ⟨_, _, rfl, by decide +kernel⟩
          · split <;> exact ⟨_, _, rfl, by decide +kernel⟩
        rw [ev] at ht1 ht2
        have sh : SeqAt.shaped (.tuple [.str sx, .int jx]) = true := shaped_tup (d := 1) (by rw [PyData.canLayAll0, PyData.canLayAll0, PyData.canLayAll0, oks, PyData.canLay0]; rfl) (by simp [PyData.depth, PyData.depthAll]) (by decide)
        refine ⟨.tuple [.str sx, .int jx], .tuple [.str sx, .int jx], .tup (SqT.of (s13 _ _ ht1)) (.cons (.str _) (.cons (.int _) .nil)), .tup (SqT.of ht2) (.cons (.str _) (.cons (.int _) .nil)), sh, sh, _, rfl, ?_⟩
        rw [SeqAt.eqv_refl _ (SeqAt.canLay_of_shaped sh)]
        refine iteF ?_
        exact ⟨_, _, _, _, rfl, (a'.trans a12).trans (Aft.ofSame a12.tb s13)⟩
      · rintro σ H' ⟨x2', x6', x8', x9', rfl, a'⟩
        have dE := d11.aft a'
        exact ⟨_, _, _, _, _, _, _, _, rfl, _, by omega, dE.wl, dE.tb⟩
    · rintro σ H2 _
      exact q H2
end
end K52
set_option Elab.async false
set_option linter.all false
set_option maxRecDepth 100000
set_option maxHeartbeats 4000000
namespace K52
open PySem PySem.Spec PyProof.Rows L2 GX
open C8 (Cal pe_c pe_gc)
-- @exc CoverError
-- @exc NoText
-- @exc NoDepth init=least
-- @exc TooMany made
-- @exc NoMatch
-- @exc NoChange
-- @exc NoRow
-- @sub NoDepth NoDepth true
-- @sub NoDepth CoverError true
-- @sub NoDepth ValueError true
-- @sub NoDepth NoChange false
-- @sub NoDepth NoMatch false
-- @sub NoDepth NoRow false
-- @sub NoDepth NoText false
-- @sub NoDepth TooMany false
-- @sub TooMany TooMany true
-- @sub TooMany CoverError true
-- @sub TooMany ValueError true
-- @sub TooMany NoChange false
-- @sub TooMany NoMatch false
-- @sub TooMany NoRow false
-- @sub TooMany NoText false
-- @sub TooMany NoDepth false
/-! ### what the top has written -/
theorem all_mk {l : PySem.W.OpenLaw} {w : World} {K : PySem.W.Frag} {h : Heap} {mg : Str → Option Value} {fa : Addr} (X : K.In h) (G : h.Ns mainGlobals mg) (hfa : mg "law" = some (.ref fa))
    {f0 c0 : Addr} {od0 an0 : Option Addr} {sl0 : Array (Option Value)} {oc0 kV0 dc0 pm0 ct0 : Value}
    (a0 : PySem.W.nsIn K mainGlobals "wires_of" = some (some (.ref f0))) (l0 : K.lookup f0 = some ⟨oc0, od0, .func (PySem.W.fnOf "wires_of" "wires_of" (defArgs s_wires_of) (defBody s_wires_of) (defScope s_wires_of) .none kV0 dc0 pm0 an0 (.ref c0) ct0), sl0⟩) (e0 : PySem.W.codeIn K (.ref c0) "wires_of" = true) (k0 : PySem.W.keepIn K (.ref f0) = true)
    {P0 : Addr} {dd0 : Option Addr} {vs0 : Array Value} {ls0 : Array (Option Value)} {fl0 : Str} {tf0 tg0 tt0 : Tok} {fg0 tx0 : Int} {iF0 : Bool}
    (o0 : K.lookup c0 = some ⟨.type "code", dd0, .fields vs0, ls0⟩) (h0 : vs0[11]? = some (.ref P0) ∧ vs0.getD 11 .none = .ref P0 ∧ vs0.getD 18 .none = .str fl0 tf0 ∧ vs0.getD 7 .none = .int fg0 tg0 ∧ vs0.getD 9 .none = .bool iF0 ∧ vs0.getD 10 .none = .int tx0 tt0 ∧ c0 ≠ P0) (n0 : K.lookup P0 = none) (y0 : TabOf K mg h "wires_of")
    {f1 c1 : Addr} {od1 an1 : Option Addr} {sl1 : Array (Option Value)} {oc1 kV1 dc1 pm1 ct1 : Value}
    (a1 : PySem.W.nsIn K mainGlobals "fits" = some (some (.ref f1))) (l1 : K.lookup f1 = some ⟨oc1, od1, .func (PySem.W.fnOf "fits" "fits" (defArgs s_fits) (defBody s_fits) (defScope s_fits) .none kV1 dc1 pm1 an1 (.ref c1) ct1), sl1⟩) (e1 : PySem.W.codeIn K (.ref c1) "fits" = true) (k1 : PySem.W.keepIn K (.ref f1) = true)
    {f2 c2 : Addr} {od2 an2 : Option Addr} {sl2 : Array (Option Value)} {oc2 kV2 dc2 pm2 ct2 : Value}
    (a2 : PySem.W.nsIn K mainGlobals "has_part" = some (some (.ref f2))) (l2 : K.lookup f2 = some ⟨oc2, od2, .func (PySem.W.fnOf "has_part" "has_part" (defArgs s_has_part) (defBody s_has_part) (defScope s_has_part) .none kV2 dc2 pm2 an2 (.ref c2) ct2), sl2⟩) (e2 : PySem.W.codeIn K (.ref c2) "has_part" = true) (k2 : PySem.W.keepIn K (.ref f2) = true)
    {f3 c3 : Addr} {od3 an3 : Option Addr} {sl3 : Array (Option Value)} {oc3 kV3 dc3 pm3 ct3 : Value}
    (a3 : PySem.W.nsIn K mainGlobals "wires_in" = some (some (.ref f3))) (l3 : K.lookup f3 = some ⟨oc3, od3, .func (PySem.W.fnOf "wires_in" "wires_in" (defArgs s_wires_in) (defBody s_wires_in) (defScope s_wires_in) .none kV3 dc3 pm3 an3 (.ref c3) ct3), sl3⟩) (e3 : PySem.W.codeIn K (.ref c3) "wires_in" = true) (k3 : PySem.W.keepIn K (.ref f3) = true)
    {f4 c4 : Addr} {od4 an4 : Option Addr} {sl4 : Array (Option Value)} {oc4 kV4 dc4 pm4 ct4 : Value}
    (a4 : PySem.W.nsIn K mainGlobals "places" = some (some (.ref f4))) (l4 : K.lookup f4 = some ⟨oc4, od4, .func (PySem.W.fnOf "places" "places" (defArgs s_places) (defBody s_places) (defScope s_places) .none kV4 dc4 pm4 an4 (.ref c4) ct4), sl4⟩) (e4 : PySem.W.codeIn K (.ref c4) "places" = true) (k4 : PySem.W.keepIn K (.ref f4) = true)
    {f5 c5 : Addr} {od5 an5 : Option Addr} {sl5 : Array (Option Value)} {oc5 kV5 dc5 pm5 ct5 : Value}
    (a5 : PySem.W.nsIn K mainGlobals "gate_masks" = some (some (.ref f5))) (l5 : K.lookup f5 = some ⟨oc5, od5, .func (PySem.W.fnOf "gate_masks" "gate_masks" (defArgs s_gate_masks) (defBody s_gate_masks) (defScope s_gate_masks) .none kV5 dc5 pm5 an5 (.ref c5) ct5), sl5⟩) (e5 : PySem.W.codeIn K (.ref c5) "gate_masks" = true) (k5 : PySem.W.keepIn K (.ref f5) = true)
    {f6 c6 : Addr} {od6 an6 : Option Addr} {sl6 : Array (Option Value)} {oc6 kV6 dc6 pm6 ct6 : Value}
    (a6 : PySem.W.nsIn K mainGlobals "cut_masks" = some (some (.ref f6))) (l6 : K.lookup f6 = some ⟨oc6, od6, .func (PySem.W.fnOf "cut_masks" "cut_masks" (defArgs s_cut_masks) (defBody s_cut_masks) (defScope s_cut_masks) .none kV6 dc6 pm6 an6 (.ref c6) ct6), sl6⟩) (e6 : PySem.W.codeIn K (.ref c6) "cut_masks" = true) (k6 : PySem.W.keepIn K (.ref f6) = true)
    {f7 c7 : Addr} {od7 an7 : Option Addr} {sl7 : Array (Option Value)} {oc7 kV7 dc7 pm7 ct7 : Value}
    (a7 : PySem.W.nsIn K mainGlobals "told_cuts" = some (some (.ref f7))) (l7 : K.lookup f7 = some ⟨oc7, od7, .func (PySem.W.fnOf "told_cuts" "told_cuts" (defArgs s_told_cuts) (defBody s_told_cuts) (defScope s_told_cuts) .none kV7 dc7 pm7 an7 (.ref c7) ct7), sl7⟩) (e7 : PySem.W.codeIn K (.ref c7) "told_cuts" = true) (k7 : PySem.W.keepIn K (.ref f7) = true)
    {f8 c8 : Addr} {od8 an8 : Option Addr} {sl8 : Array (Option Value)} {oc8 kV8 dc8 pm8 ct8 : Value}
    (a8 : PySem.W.nsIn K mainGlobals "all_cuts" = some (some (.ref f8))) (l8 : K.lookup f8 = some ⟨oc8, od8, .func (PySem.W.fnOf "all_cuts" "all_cuts" (defArgs s_all_cuts) (defBody s_all_cuts) (defScope s_all_cuts) .none kV8 dc8 pm8 an8 (.ref c8) ct8), sl8⟩) (e8 : PySem.W.codeIn K (.ref c8) "all_cuts" = true) (k8 : PySem.W.keepIn K (.ref f8) = true)
    {P8 : Addr} {dd8 : Option Addr} {vs8 : Array Value} {ls8 : Array (Option Value)} {fl8 : Str} {tf8 tg8 tt8 : Tok} {fg8 tx8 : Int} {iF8 : Bool}
    (o8 : K.lookup c8 = some ⟨.type "code", dd8, .fields vs8, ls8⟩) (h8 : vs8[11]? = some (.ref P8) ∧ vs8.getD 11 .none = .ref P8 ∧ vs8.getD 18 .none = .str fl8 tf8 ∧ vs8.getD 7 .none = .int fg8 tg8 ∧ vs8.getD 9 .none = .bool iF8 ∧ vs8.getD 10 .none = .int tx8 tt8 ∧ c8 ≠ P8) (n8 : K.lookup P8 = none) (y8 : TabOf K mg h "all_cuts")
    {f9 c9 : Addr} {od9 an9 : Option Addr} {sl9 : Array (Option Value)} {oc9 kV9 dc9 pm9 ct9 : Value}
    (a9 : PySem.W.nsIn K mainGlobals "one_deeper" = some (some (.ref f9))) (l9 : K.lookup f9 = some ⟨oc9, od9, .func (PySem.W.fnOf "one_deeper" "one_deeper" (defArgs s_one_deeper) (defBody s_one_deeper) (defScope s_one_deeper) .none kV9 dc9 pm9 an9 (.ref c9) ct9), sl9⟩) (e9 : PySem.W.codeIn K (.ref c9) "one_deeper" = true) (k9 : PySem.W.keepIn K (.ref f9) = true)
    {f10 c10 : Addr} {od10 an10 : Option Addr} {sl10 : Array (Option Value)} {oc10 kV10 dc10 pm10 ct10 : Value}
    (a10 : PySem.W.nsIn K mainGlobals "depths_by" = some (some (.ref f10))) (l10 : K.lookup f10 = some ⟨oc10, od10, .func (PySem.W.fnOf "depths_by" "depths_by" (defArgs s_depths_by) (defBody s_depths_by) (defScope s_depths_by) .none kV10 dc10 pm10 an10 (.ref c10) ct10), sl10⟩) (e10 : PySem.W.codeIn K (.ref c10) "depths_by" = true) (k10 : PySem.W.keepIn K (.ref f10) = true)
    {f11 c11 : Addr} {od11 an11 : Option Addr} {sl11 : Array (Option Value)} {oc11 kV11 dc11 pm11 ct11 : Value}
    (a11 : PySem.W.nsIn K mainGlobals "depths" = some (some (.ref f11))) (l11 : K.lookup f11 = some ⟨oc11, od11, .func (PySem.W.fnOf "depths" "depths" (defArgs s_depths) (defBody s_depths) (defScope s_depths) .none kV11 dc11 pm11 an11 (.ref c11) ct11), sl11⟩) (e11 : PySem.W.codeIn K (.ref c11) "depths" = true) (k11 : PySem.W.keepIn K (.ref f11) = true)
    {f12 c12 : Addr} {od12 an12 : Option Addr} {sl12 : Array (Option Value)} {oc12 kV12 dc12 pm12 ct12 : Value}
    (a12 : PySem.W.nsIn K mainGlobals "with_deepest" = some (some (.ref f12))) (l12 : K.lookup f12 = some ⟨oc12, od12, .func (PySem.W.fnOf "with_deepest" "with_deepest" (defArgs s_with_deepest) (defBody s_with_deepest) (defScope s_with_deepest) .none kV12 dc12 pm12 an12 (.ref c12) ct12), sl12⟩) (e12 : PySem.W.codeIn K (.ref c12) "with_deepest" = true) (k12 : PySem.W.keepIn K (.ref f12) = true)
    {P12 : Addr} {dd12 : Option Addr} {vs12 : Array Value} {ls12 : Array (Option Value)} {fl12 : Str} {tf12 tg12 tt12 : Tok} {fg12 tx12 : Int} {iF12 : Bool}
    (o12 : K.lookup c12 = some ⟨.type "code", dd12, .fields vs12, ls12⟩) (h12 : vs12[11]? = some (.ref P12) ∧ vs12.getD 11 .none = .ref P12 ∧ vs12.getD 18 .none = .str fl12 tf12 ∧ vs12.getD 7 .none = .int fg12 tg12 ∧ vs12.getD 9 .none = .bool iF12 ∧ vs12.getD 10 .none = .int tx12 tt12 ∧ c12 ≠ P12) (n12 : K.lookup P12 = none) (y12 : TabOf K mg h "with_deepest")
    {f13 c13 : Addr} {od13 an13 : Option Addr} {sl13 : Array (Option Value)} {oc13 kV13 dc13 pm13 ct13 : Value}
    (a13 : PySem.W.nsIn K mainGlobals "cut_choices" = some (some (.ref f13))) (l13 : K.lookup f13 = some ⟨oc13, od13, .func (PySem.W.fnOf "cut_choices" "cut_choices" (defArgs s_cut_choices) (defBody s_cut_choices) (defScope s_cut_choices) .none kV13 dc13 pm13 an13 (.ref c13) ct13), sl13⟩) (e13 : PySem.W.codeIn K (.ref c13) "cut_choices" = true) (k13 : PySem.W.keepIn K (.ref f13) = true)
    {P13 : Addr} {dd13 : Option Addr} {vs13 : Array Value} {ls13 : Array (Option Value)} {fl13 : Str} {tf13 tg13 tt13 : Tok} {fg13 tx13 : Int} {iF13 : Bool}
    (o13 : K.lookup c13 = some ⟨.type "code", dd13, .fields vs13, ls13⟩) (h13 : vs13[11]? = some (.ref P13) ∧ vs13.getD 11 .none = .ref P13 ∧ vs13.getD 18 .none = .str fl13 tf13 ∧ vs13.getD 7 .none = .int fg13 tg13 ∧ vs13.getD 9 .none = .bool iF13 ∧ vs13.getD 10 .none = .int tx13 tt13 ∧ c13 ≠ P13) (n13 : K.lookup P13 = none) (y13 : TabOf K mg h "cut_choices")
    {f14 c14 : Addr} {od14 an14 : Option Addr} {sl14 : Array (Option Value)} {oc14 kV14 dc14 pm14 ct14 : Value}
    (a14 : PySem.W.nsIn K mainGlobals "first_needs" = some (some (.ref f14))) (l14 : K.lookup f14 = some ⟨oc14, od14, .func (PySem.W.fnOf "first_needs" "first_needs" (defArgs s_first_needs) (defBody s_first_needs) (defScope s_first_needs) .none kV14 dc14 pm14 an14 (.ref c14) ct14), sl14⟩) (e14 : PySem.W.codeIn K (.ref c14) "first_needs" = true) (k14 : PySem.W.keepIn K (.ref f14) = true)
    {f15 c15 : Addr} {od15 an15 : Option Addr} {sl15 : Array (Option Value)} {oc15 kV15 dc15 pm15 ct15 : Value}
    (a15 : PySem.W.nsIn K mainGlobals "next_gate" = some (some (.ref f15))) (l15 : K.lookup f15 = some ⟨oc15, od15, .func (PySem.W.fnOf "next_gate" "next_gate" (defArgs s_next_gate) (defBody s_next_gate) (defScope s_next_gate) .none kV15 dc15 pm15 an15 (.ref c15) ct15), sl15⟩) (e15 : PySem.W.codeIn K (.ref c15) "next_gate" = true) (k15 : PySem.W.keepIn K (.ref f15) = true)
    {f16 c16 : Addr} {od16 an16 : Option Addr} {sl16 : Array (Option Value)} {oc16 kV16 dc16 pm16 ct16 : Value}
    (a16 : PySem.W.nsIn K mainGlobals "fitting_cuts" = some (some (.ref f16))) (l16 : K.lookup f16 = some ⟨oc16, od16, .func (PySem.W.fnOf "fitting_cuts" "fitting_cuts" (defArgs s_fitting_cuts) (defBody s_fitting_cuts) (defScope s_fitting_cuts) .none kV16 dc16 pm16 an16 (.ref c16) ct16), sl16⟩) (e16 : PySem.W.codeIn K (.ref c16) "fitting_cuts" = true) (k16 : PySem.W.keepIn K (.ref f16) = true)
    {f17 c17 : Addr} {od17 an17 : Option Addr} {sl17 : Array (Option Value)} {oc17 kV17 dc17 pm17 ct17 : Value}
    (a17 : PySem.W.nsIn K mainGlobals "needs_with" = some (some (.ref f17))) (l17 : K.lookup f17 = some ⟨oc17, od17, .func (PySem.W.fnOf "needs_with" "needs_with" (defArgs s_needs_with) (defBody s_needs_with) (defScope s_needs_with) .none kV17 dc17 pm17 an17 (.ref c17) ct17), sl17⟩) (e17 : PySem.W.codeIn K (.ref c17) "needs_with" = true) (k17 : PySem.W.keepIn K (.ref f17) = true)
    {f18 c18 : Addr} {od18 an18 : Option Addr} {sl18 : Array (Option Value)} {oc18 kV18 dc18 pm18 ct18 : Value}
    (a18 : PySem.W.nsIn K mainGlobals "fewest_tables" = some (some (.ref f18))) (l18 : K.lookup f18 = some ⟨oc18, od18, .func (PySem.W.fnOf "fewest_tables" "fewest_tables" (defArgs s_fewest_tables) (defBody s_fewest_tables) (defScope s_fewest_tables) .none kV18 dc18 pm18 an18 (.ref c18) ct18), sl18⟩) (e18 : PySem.W.codeIn K (.ref c18) "fewest_tables" = true) (k18 : PySem.W.keepIn K (.ref f18) = true)
    {f19 c19 : Addr} {od19 an19 : Option Addr} {sl19 : Array (Option Value)} {oc19 kV19 dc19 pm19 ct19 : Value}
    (a19 : PySem.W.nsIn K mainGlobals "count_paper" = some (some (.ref f19))) (l19 : K.lookup f19 = some ⟨oc19, od19, .func (PySem.W.fnOf "count_paper" "count_paper" (defArgs s_count_paper) (defBody s_count_paper) (defScope s_count_paper) .none kV19 dc19 pm19 an19 (.ref c19) ct19), sl19⟩) (e19 : PySem.W.codeIn K (.ref c19) "count_paper" = true) (k19 : PySem.W.keepIn K (.ref f19) = true)
    {f20 c20 : Addr} {od20 an20 : Option Addr} {sl20 : Array (Option Value)} {oc20 kV20 dc20 pm20 ct20 : Value}
    (a20 : PySem.W.nsIn K mainGlobals "fewest" = some (some (.ref f20))) (l20 : K.lookup f20 = some ⟨oc20, od20, .func (PySem.W.fnOf "fewest" "fewest" (defArgs s_fewest) (defBody s_fewest) (defScope s_fewest) .none kV20 dc20 pm20 an20 (.ref c20) ct20), sl20⟩) (e20 : PySem.W.codeIn K (.ref c20) "fewest" = true) (k20 : PySem.W.keepIn K (.ref f20) = true)
    {f21 c21 : Addr} {od21 an21 : Option Addr} {sl21 : Array (Option Value)} {oc21 kV21 dc21 pm21 ct21 : Value}
    (a21 : PySem.W.nsIn K mainGlobals "_law_deck" = some (some (.ref f21))) (l21 : K.lookup f21 = some ⟨oc21, od21, .func (PySem.W.fnOf "_law_deck" "_law_deck" (defArgs s__law_deck) (defBody s__law_deck) (defScope s__law_deck) .none kV21 dc21 pm21 an21 (.ref c21) ct21), sl21⟩) (e21 : PySem.W.codeIn K (.ref c21) "_law_deck" = true) (k21 : PySem.W.keepIn K (.ref f21) = true)
    {f22 c22 : Addr} {od22 an22 : Option Addr} {sl22 : Array (Option Value)} {oc22 kV22 dc22 pm22 ct22 : Value}
    (a22 : PySem.W.nsIn K mainGlobals "_law_draw" = some (some (.ref f22))) (l22 : K.lookup f22 = some ⟨oc22, od22, .func (PySem.W.fnOf "_law_draw" "_law_draw" (defArgs s__law_draw) (defBody s__law_draw) (defScope s__law_draw) .none kV22 dc22 pm22 an22 (.ref c22) ct22), sl22⟩) (e22 : PySem.W.codeIn K (.ref c22) "_law_draw" = true) (k22 : PySem.W.keepIn K (.ref f22) = true)
    {f23 c23 : Addr} {od23 an23 : Option Addr} {sl23 : Array (Option Value)} {oc23 kV23 dc23 pm23 ct23 : Value}
    (a23 : PySem.W.nsIn K mainGlobals "_law_gate" = some (some (.ref f23))) (l23 : K.lookup f23 = some ⟨oc23, od23, .func (PySem.W.fnOf "_law_gate" "_law_gate" (defArgs s__law_gate) (defBody s__law_gate) (defScope s__law_gate) .none kV23 dc23 pm23 an23 (.ref c23) ct23), sl23⟩) (e23 : PySem.W.codeIn K (.ref c23) "_law_gate" = true) (k23 : PySem.W.keepIn K (.ref f23) = true)
    {f24 c24 : Addr} {od24 an24 : Option Addr} {sl24 : Array (Option Value)} {oc24 kV24 dc24 pm24 ct24 : Value}
    (a24 : PySem.W.nsIn K mainGlobals "_law_net" = some (some (.ref f24))) (l24 : K.lookup f24 = some ⟨oc24, od24, .func (PySem.W.fnOf "_law_net" "_law_net" (defArgs s__law_net) (defBody s__law_net) (defScope s__law_net) .none kV24 dc24 pm24 an24 (.ref c24) ct24), sl24⟩) (e24 : PySem.W.codeIn K (.ref c24) "_law_net" = true) (k24 : PySem.W.keepIn K (.ref f24) = true)
    {f25 c25 : Addr} {od25 an25 : Option Addr} {sl25 : Array (Option Value)} {oc25 kV25 dc25 pm25 ct25 : Value}
    (a25 : PySem.W.nsIn K mainGlobals "_law_held" = some (some (.ref f25))) (l25 : K.lookup f25 = some ⟨oc25, od25, .func (PySem.W.fnOf "_law_held" "_law_held" (defArgs s__law_held) (defBody s__law_held) (defScope s__law_held) .none kV25 dc25 pm25 an25 (.ref c25) ct25), sl25⟩) (e25 : PySem.W.codeIn K (.ref c25) "_law_held" = true) (k25 : PySem.W.keepIn K (.ref f25) = true)
    {f26 c26 : Addr} {od26 an26 : Option Addr} {sl26 : Array (Option Value)} {oc26 kV26 dc26 pm26 ct26 : Value}
    (a26 : PySem.W.nsIn K mainGlobals "_law_least" = some (some (.ref f26))) (l26 : K.lookup f26 = some ⟨oc26, od26, .func (PySem.W.fnOf "_law_least" "_law_least" (defArgs s__law_least) (defBody s__law_least) (defScope s__law_least) .none kV26 dc26 pm26 an26 (.ref c26) ct26), sl26⟩) (e26 : PySem.W.codeIn K (.ref c26) "_law_least" = true) (k26 : PySem.W.keepIn K (.ref f26) = true)
    {f27 c27 : Addr} {od27 an27 : Option Addr} {sl27 : Array (Option Value)} {oc27 kV27 dc27 pm27 ct27 : Value}
    (a27 : PySem.W.nsIn K mainGlobals "_law_cuts" = some (some (.ref f27))) (l27 : K.lookup f27 = some ⟨oc27, od27, .func (PySem.W.fnOf "_law_cuts" "_law_cuts" (defArgs s__law_cuts) (defBody s__law_cuts) (defScope s__law_cuts) .none kV27 dc27 pm27 an27 (.ref c27) ct27), sl27⟩) (e27 : PySem.W.codeIn K (.ref c27) "_law_cuts" = true) (k27 : PySem.W.keepIn K (.ref f27) = true)
    {f28 c28 : Addr} {od28 an28 : Option Addr} {sl28 : Array (Option Value)} {oc28 kV28 dc28 pm28 ct28 : Value}
    (a28 : PySem.W.nsIn K mainGlobals "_law_depths" = some (some (.ref f28))) (l28 : K.lookup f28 = some ⟨oc28, od28, .func (PySem.W.fnOf "_law_depths" "_law_depths" (defArgs s__law_depths) (defBody s__law_depths) (defScope s__law_depths) .none kV28 dc28 pm28 an28 (.ref c28) ct28), sl28⟩) (e28 : PySem.W.codeIn K (.ref c28) "_law_depths" = true) (k28 : PySem.W.keepIn K (.ref f28) = true)
    {f29 c29 : Addr} {od29 an29 : Option Addr} {sl29 : Array (Option Value)} {oc29 kV29 dc29 pm29 ct29 : Value}
    (a29 : PySem.W.nsIn K mainGlobals "_law_told" = some (some (.ref f29))) (l29 : K.lookup f29 = some ⟨oc29, od29, .func (PySem.W.fnOf "_law_told" "_law_told" (defArgs s__law_told) (defBody s__law_told) (defScope s__law_told) .none kV29 dc29 pm29 an29 (.ref c29) ct29), sl29⟩) (e29 : PySem.W.codeIn K (.ref c29) "_law_told" = true) (k29 : PySem.W.keepIn K (.ref f29) = true)
    {f30 c30 : Addr} {od30 an30 : Option Addr} {sl30 : Array (Option Value)} {oc30 kV30 dc30 pm30 ct30 : Value}
    (a30 : PySem.W.nsIn K mainGlobals "_law_due" = some (some (.ref f30))) (l30 : K.lookup f30 = some ⟨oc30, od30, .func (PySem.W.fnOf "_law_due" "_law_due" (defArgs s__law_due) (defBody s__law_due) (defScope s__law_due) .none kV30 dc30 pm30 an30 (.ref c30) ct30), sl30⟩) (e30 : PySem.W.codeIn K (.ref c30) "_law_due" = true) (k30 : PySem.W.keepIn K (.ref f30) = true)
    {f31 c31 : Addr} {od31 an31 : Option Addr} {sl31 : Array (Option Value)} {oc31 kV31 dc31 pm31 ct31 : Value}
    (a31 : PySem.W.nsIn K mainGlobals "law" = some (some (.ref f31))) (l31 : K.lookup f31 = some ⟨oc31, od31, .func (PySem.W.fnOf "law" "law" (defArgs s_law) (defBody s_law) (defScope s_law) .none kV31 dc31 pm31 an31 (.ref c31) ct31), sl31⟩) (e31 : PySem.W.codeIn K (.ref c31) "law" = true) (k31 : PySem.W.keepIn K (.ref f31) = true)
    {CCoverError : Addr} (eg_CoverError : PySem.W.nsIn K mainGlobals "CoverError" = some (some (.ref CCoverError))) (ek_CoverError : PySem.W.keepIn K (.ref CCoverError) = true) (et_CoverError : PySem.W.typeIn K (.ref CCoverError) = some (.type "type")) (ei_CoverError : PySem.W.isClsIn K CCoverError = true) (e1_CoverError : PySem.W.findIn K (.ref CCoverError) "__getattribute__" = some (some (.builtin "BaseException.__getattribute__"))) (e2_CoverError : PySem.W.findIn K (.ref CCoverError) "__getattr__" = some none) (e3_CoverError : PySem.W.subIn K (.ref CCoverError) (.type "BaseException") = some true) (e4_CoverError : PySem.W.hasDictIn K CCoverError = true) (e5_CoverError : PySem.W.findIn K (.ref CCoverError) "__class__" = some (some (.builtin "object.__class__"))) (e6_CoverError : PySem.W.specialIn K (.builtin "object.__class__") "__get__" = some (some (.builtin "getset_descriptor.__get__"))) (e7_CoverError : PySem.W.takesIn K (.builtin "object.__class__") = some true) (e8_CoverError : PySem.W.mroIn K CCoverError (.type "object") = some true)
    {CNoText : Addr} (eg_NoText : PySem.W.nsIn K mainGlobals "NoText" = some (some (.ref CNoText))) (ek_NoText : PySem.W.keepIn K (.ref CNoText) = true) (et_NoText : PySem.W.typeIn K (.ref CNoText) = some (.type "type")) (ei_NoText : PySem.W.isClsIn K CNoText = true) (e1_NoText : PySem.W.findIn K (.ref CNoText) "__getattribute__" = some (some (.builtin "BaseException.__getattribute__"))) (e2_NoText : PySem.W.findIn K (.ref CNoText) "__getattr__" = some none) (e3_NoText : PySem.W.subIn K (.ref CNoText) (.type "BaseException") = some true) (e4_NoText : PySem.W.hasDictIn K CNoText = true) (e5_NoText : PySem.W.findIn K (.ref CNoText) "__class__" = some (some (.builtin "object.__class__"))) (e6_NoText : PySem.W.specialIn K (.builtin "object.__class__") "__get__" = some (some (.builtin "getset_descriptor.__get__"))) (e7_NoText : PySem.W.takesIn K (.builtin "object.__class__") = some true) (e8_NoText : PySem.W.mroIn K CNoText (.type "object") = some true)
    {CNoDepth : Addr} (eg_NoDepth : PySem.W.nsIn K mainGlobals "NoDepth" = some (some (.ref CNoDepth))) (ek_NoDepth : PySem.W.keepIn K (.ref CNoDepth) = true) (et_NoDepth : PySem.W.typeIn K (.ref CNoDepth) = some (.type "type")) (ei_NoDepth : PySem.W.isClsIn K CNoDepth = true) (e1_NoDepth : PySem.W.findIn K (.ref CNoDepth) "__getattribute__" = some (some (.builtin "BaseException.__getattribute__"))) (e2_NoDepth : PySem.W.findIn K (.ref CNoDepth) "__getattr__" = some none) (e3_NoDepth : PySem.W.subIn K (.ref CNoDepth) (.type "BaseException") = some true) (e4_NoDepth : PySem.W.hasDictIn K CNoDepth = true) (e5_NoDepth : PySem.W.findIn K (.ref CNoDepth) "__class__" = some (some (.builtin "object.__class__"))) (e6_NoDepth : PySem.W.specialIn K (.builtin "object.__class__") "__get__" = some (some (.builtin "getset_descriptor.__get__"))) (e7_NoDepth : PySem.W.takesIn K (.builtin "object.__class__") = some true) (e8_NoDepth : PySem.W.mroIn K CNoDepth (.type "object") = some true)
    {fINoDepth cINoDepth clNoDepth NsNoDepth : Addr} {odINoDepth odcNoDepth odlNoDepth anNoDepth : Option Addr} {slINoDepth slcNoDepth sllNoDepth : Array (Option Value)} {ocNoDepth occNoDepth oclNoDepth kVNoDepth dcNoDepth pmNoDepth ctNoDepth : Value} {vsNoDepth : Array Value} {t1NoDepth t2NoDepth : Tok} {fileNoDepth : Str} (i1_NoDepth : PySem.W.findIn K (.ref CNoDepth) "__init__" = some (some (.ref fINoDepth))) (i2_NoDepth : PySem.W.typeIn K (.ref fINoDepth) = some (.type "function")) (i3_NoDepth : K.lookup fINoDepth = some ⟨ocNoDepth, odINoDepth, .func { PySem.W.fnOf "__init__" "NoDepth.__init__" (defArgs s_NoDepth___init__) (defBody s_NoDepth___init__) (defScope s_NoDepth___init__) .none kVNoDepth dcNoDepth pmNoDepth anNoDepth (.ref cINoDepth) ctNoDepth with closure := [(("__class__" : Str), clNoDepth)] }, slINoDepth⟩) (i4_NoDepth : K.lookup cINoDepth = some ⟨occNoDepth, odcNoDepth, .fields vsNoDepth, slcNoDepth⟩) (i5_NoDepth : vsNoDepth[1]? = some (.str "NoDepth.__init__" t1NoDepth) ∧ vsNoDepth[2]? = some (.str fileNoDepth t2NoDepth)) (i6_NoDepth : (l.prog.main.file == fileNoDepth) = true) (i7_NoDepth : K.lookup clNoDepth = some ⟨oclNoDepth, odlNoDepth, .cell (some (.ref CNoDepth)), sllNoDepth⟩) (i9_NoDepth : PySem.W.findIn K (.ref CNoDepth) "__setattr__" = some (some (.builtin "object.__setattr__"))) (ia_NoDepth : PySem.W.ks_superIn K CNoDepth CNoDepth "__init__" = some (some (.builtin "ValueError.__init__"))) (ib_NoDepth : PySem.W.subIn K (.ref CNoDepth) (.type "ValueError") = some true) (ic_NoDepth : PySem.W.mroIn K CNoDepth (.ref CNoDepth) = some true) (id_NoDepth : PySem.W.findIn K (.ref CNoDepth) "least" = some none) (ie_NoDepth : PySem.W.nsIn K PySem.cStatics "thirdparty.any" = some none) (if_NoDepth : (l.prog.main.scope.names.lookup ("super" : Str)).isSome = false) {nmNoDepth qNoDepth : Str} {bsNoDepth bmNoDepth : List Value} {snNoDepth : List Str} {subNoDepth : List Value} {abNoDepth : Bool} {colNoDepth : Option Bool} {ddNoDepth : Option Addr} {k0NoDepth k1NoDepth k2NoDepth k3NoDepth k5NoDepth : Option Value} (ig_NoDepth : K.lookup CNoDepth = some (excClassObj nmNoDepth qNoDepth CNoDepth NsNoDepth bsNoDepth bmNoDepth true snNoDepth subNoDepth abNoDepth colNoDepth ddNoDepth k0NoDepth k1NoDepth k2NoDepth k3NoDepth k5NoDepth "ValueError.__new__")) (ih_NoDepth : PySem.HandSPX.refsVE bmNoDepth = true)
    {CTooMany : Addr} (eg_TooMany : PySem.W.nsIn K mainGlobals "TooMany" = some (some (.ref CTooMany))) (ek_TooMany : PySem.W.keepIn K (.ref CTooMany) = true) (et_TooMany : PySem.W.typeIn K (.ref CTooMany) = some (.type "type")) (ei_TooMany : PySem.W.isClsIn K CTooMany = true) (e1_TooMany : PySem.W.findIn K (.ref CTooMany) "__getattribute__" = some (some (.builtin "BaseException.__getattribute__"))) (e2_TooMany : PySem.W.findIn K (.ref CTooMany) "__getattr__" = some none) (e3_TooMany : PySem.W.subIn K (.ref CTooMany) (.type "BaseException") = some true) (e4_TooMany : PySem.W.hasDictIn K CTooMany = true) (e5_TooMany : PySem.W.findIn K (.ref CTooMany) "__class__" = some (some (.builtin "object.__class__"))) (e6_TooMany : PySem.W.specialIn K (.builtin "object.__class__") "__get__" = some (some (.builtin "getset_descriptor.__get__"))) (e7_TooMany : PySem.W.takesIn K (.builtin "object.__class__") = some true) (e8_TooMany : PySem.W.mroIn K CTooMany (.type "object") = some true) (ex_TooMany : PySem.W.excIn K CTooMany [.type "ValueError", .type "Exception", .type "BaseException", .type "object"] "ValueError.__new__" = true)
    {CNoMatch : Addr} (eg_NoMatch : PySem.W.nsIn K mainGlobals "NoMatch" = some (some (.ref CNoMatch))) (ek_NoMatch : PySem.W.keepIn K (.ref CNoMatch) = true) (et_NoMatch : PySem.W.typeIn K (.ref CNoMatch) = some (.type "type")) (ei_NoMatch : PySem.W.isClsIn K CNoMatch = true) (e1_NoMatch : PySem.W.findIn K (.ref CNoMatch) "__getattribute__" = some (some (.builtin "BaseException.__getattribute__"))) (e2_NoMatch : PySem.W.findIn K (.ref CNoMatch) "__getattr__" = some none) (e3_NoMatch : PySem.W.subIn K (.ref CNoMatch) (.type "BaseException") = some true) (e4_NoMatch : PySem.W.hasDictIn K CNoMatch = true) (e5_NoMatch : PySem.W.findIn K (.ref CNoMatch) "__class__" = some (some (.builtin "object.__class__"))) (e6_NoMatch : PySem.W.specialIn K (.builtin "object.__class__") "__get__" = some (some (.builtin "getset_descriptor.__get__"))) (e7_NoMatch : PySem.W.takesIn K (.builtin "object.__class__") = some true) (e8_NoMatch : PySem.W.mroIn K CNoMatch (.type "object") = some true)
    {CNoChange : Addr} (eg_NoChange : PySem.W.nsIn K mainGlobals "NoChange" = some (some (.ref CNoChange))) (ek_NoChange : PySem.W.keepIn K (.ref CNoChange) = true) (et_NoChange : PySem.W.typeIn K (.ref CNoChange) = some (.type "type")) (ei_NoChange : PySem.W.isClsIn K CNoChange = true) (e1_NoChange : PySem.W.findIn K (.ref CNoChange) "__getattribute__" = some (some (.builtin "BaseException.__getattribute__"))) (e2_NoChange : PySem.W.findIn K (.ref CNoChange) "__getattr__" = some none) (e3_NoChange : PySem.W.subIn K (.ref CNoChange) (.type "BaseException") = some true) (e4_NoChange : PySem.W.hasDictIn K CNoChange = true) (e5_NoChange : PySem.W.findIn K (.ref CNoChange) "__class__" = some (some (.builtin "object.__class__"))) (e6_NoChange : PySem.W.specialIn K (.builtin "object.__class__") "__get__" = some (some (.builtin "getset_descriptor.__get__"))) (e7_NoChange : PySem.W.takesIn K (.builtin "object.__class__") = some true) (e8_NoChange : PySem.W.mroIn K CNoChange (.type "object") = some true)
    {CNoRow : Addr} (eg_NoRow : PySem.W.nsIn K mainGlobals "NoRow" = some (some (.ref CNoRow))) (ek_NoRow : PySem.W.keepIn K (.ref CNoRow) = true) (et_NoRow : PySem.W.typeIn K (.ref CNoRow) = some (.type "type")) (ei_NoRow : PySem.W.isClsIn K CNoRow = true) (e1_NoRow : PySem.W.findIn K (.ref CNoRow) "__getattribute__" = some (some (.builtin "BaseException.__getattribute__"))) (e2_NoRow : PySem.W.findIn K (.ref CNoRow) "__getattr__" = some none) (e3_NoRow : PySem.W.subIn K (.ref CNoRow) (.type "BaseException") = some true) (e4_NoRow : PySem.W.hasDictIn K CNoRow = true) (e5_NoRow : PySem.W.findIn K (.ref CNoRow) "__class__" = some (some (.builtin "object.__class__"))) (e6_NoRow : PySem.W.specialIn K (.builtin "object.__class__") "__get__" = some (some (.builtin "getset_descriptor.__get__"))) (e7_NoRow : PySem.W.takesIn K (.builtin "object.__class__") = some true) (e8_NoRow : PySem.W.mroIn K CNoRow (.type "object") = some true)
    (su_NoDepth_NoDepth : PySem.W.subIn K (.ref CNoDepth) (.ref CNoDepth) = some true)
    (su_NoDepth_CoverError : PySem.W.subIn K (.ref CNoDepth) (.ref CCoverError) = some true)
    (su_NoDepth_ValueError : PySem.W.subIn K (.ref CNoDepth) (.type "ValueError") = some true)
    (su_NoDepth_NoChange : PySem.W.subIn K (.ref CNoDepth) (.ref CNoChange) = some false)
    (su_NoDepth_NoMatch : PySem.W.subIn K (.ref CNoDepth) (.ref CNoMatch) = some false)
    (su_NoDepth_NoRow : PySem.W.subIn K (.ref CNoDepth) (.ref CNoRow) = some false)
    (su_NoDepth_NoText : PySem.W.subIn K (.ref CNoDepth) (.ref CNoText) = some false)
    (su_NoDepth_TooMany : PySem.W.subIn K (.ref CNoDepth) (.ref CTooMany) = some false)
    (su_TooMany_TooMany : PySem.W.subIn K (.ref CTooMany) (.ref CTooMany) = some true)
    (su_TooMany_CoverError : PySem.W.subIn K (.ref CTooMany) (.ref CCoverError) = some true)
    (su_TooMany_ValueError : PySem.W.subIn K (.ref CTooMany) (.type "ValueError") = some true)
    (su_TooMany_NoChange : PySem.W.subIn K (.ref CTooMany) (.ref CNoChange) = some false)
    (su_TooMany_NoMatch : PySem.W.subIn K (.ref CTooMany) (.ref CNoMatch) = some false)
    (su_TooMany_NoRow : PySem.W.subIn K (.ref CTooMany) (.ref CNoRow) = some false)
    (su_TooMany_NoText : PySem.W.subIn K (.ref CTooMany) (.ref CNoText) = some false)
    (su_TooMany_NoDepth : PySem.W.subIn K (.ref CTooMany) (.ref CNoDepth) = some false)
    (z_ValueError : PySem.W.nsIn K mainGlobals "ValueError" = some none) (z_bool : PySem.W.nsIn K mainGlobals "bool" = some none) (z_dict : PySem.W.nsIn K mainGlobals "dict" = some none) (z_int : PySem.W.nsIn K mainGlobals "int" = some none) (z_isinstance : PySem.W.nsIn K mainGlobals "isinstance" = some none) (z_len : PySem.W.nsIn K mainGlobals "len" = some none) (z_list : PySem.W.nsIn K mainGlobals "list" = some none) (z_max : PySem.W.nsIn K mainGlobals "max" = some none) (z_min : PySem.W.nsIn K mainGlobals "min" = some none) (z_range : PySem.W.nsIn K mainGlobals "range" = some none) (z_set : PySem.W.nsIn K mainGlobals "set" = some none) (z_sorted : PySem.W.nsIn K mainGlobals "sorted" = some none) (z_sum : PySem.W.nsIn K mainGlobals "sum" = some none) (z_super : PySem.W.nsIn K mainGlobals "super" = some none) (z_tuple : PySem.W.nsIn K mainGlobals "tuple" = some none)
    {t_MOST_GATES_TRIED : Tok} (q_MOST_GATES_TRIED : PySem.W.nsIn K mainGlobals "MOST_GATES_TRIED" = some (some (.int 6 t_MOST_GATES_TRIED))) : LamX.LawAtS l w K L2.CX0 30 63 "_law_script" mg fa h := by
  have e := hfa.symm.trans (PySem.W.mg_of X G a31)
  cases e
  have D_wires_of : Dfn K mg "wires_of" s_wires_of f0 c0 := ⟨⟨_, _, _, _, _, _, _, _, l0⟩, e0, k0, PySem.W.mg_of X G a0⟩
  have D_fits : Dfn K mg "fits" s_fits f1 c1 := ⟨⟨_, _, _, _, _, _, _, _, l1⟩, e1, k1, PySem.W.mg_of X G a1⟩
  have D_has_part : Dfn K mg "has_part" s_has_part f2 c2 := ⟨⟨_, _, _, _, _, _, _, _, l2⟩, e2, k2, PySem.W.mg_of X G a2⟩
  have D_wires_in : Dfn K mg "wires_in" s_wires_in f3 c3 := ⟨⟨_, _, _, _, _, _, _, _, l3⟩, e3, k3, PySem.W.mg_of X G a3⟩
  have D_places : Dfn K mg "places" s_places f4 c4 := ⟨⟨_, _, _, _, _, _, _, _, l4⟩, e4, k4, PySem.W.mg_of X G a4⟩
  have D_gate_masks : Dfn K mg "gate_masks" s_gate_masks f5 c5 := ⟨⟨_, _, _, _, _, _, _, _, l5⟩, e5, k5, PySem.W.mg_of X G a5⟩
  have D_cut_masks : Dfn K mg "cut_masks" s_cut_masks f6 c6 := ⟨⟨_, _, _, _, _, _, _, _, l6⟩, e6, k6, PySem.W.mg_of X G a6⟩
  have D_told_cuts : Dfn K mg "told_cuts" s_told_cuts f7 c7 := ⟨⟨_, _, _, _, _, _, _, _, l7⟩, e7, k7, PySem.W.mg_of X G a7⟩
  have D_all_cuts : Dfn K mg "all_cuts" s_all_cuts f8 c8 := ⟨⟨_, _, _, _, _, _, _, _, l8⟩, e8, k8, PySem.W.mg_of X G a8⟩
  have D_one_deeper : Dfn K mg "one_deeper" s_one_deeper f9 c9 := ⟨⟨_, _, _, _, _, _, _, _, l9⟩, e9, k9, PySem.W.mg_of X G a9⟩
  have D_depths_by : Dfn K mg "depths_by" s_depths_by f10 c10 := ⟨⟨_, _, _, _, _, _, _, _, l10⟩, e10, k10, PySem.W.mg_of X G a10⟩
  have D_depths : Dfn K mg "depths" s_depths f11 c11 := ⟨⟨_, _, _, _, _, _, _, _, l11⟩, e11, k11, PySem.W.mg_of X G a11⟩
  have D_with_deepest : Dfn K mg "with_deepest" s_with_deepest f12 c12 := ⟨⟨_, _, _, _, _, _, _, _, l12⟩, e12, k12, PySem.W.mg_of X G a12⟩
  have D_cut_choices : Dfn K mg "cut_choices" s_cut_choices f13 c13 := ⟨⟨_, _, _, _, _, _, _, _, l13⟩, e13, k13, PySem.W.mg_of X G a13⟩
  have D_first_needs : Dfn K mg "first_needs" s_first_needs f14 c14 := ⟨⟨_, _, _, _, _, _, _, _, l14⟩, e14, k14, PySem.W.mg_of X G a14⟩
  have D_next_gate : Dfn K mg "next_gate" s_next_gate f15 c15 := ⟨⟨_, _, _, _, _, _, _, _, l15⟩, e15, k15, PySem.W.mg_of X G a15⟩
  have D_fitting_cuts : Dfn K mg "fitting_cuts" s_fitting_cuts f16 c16 := ⟨⟨_, _, _, _, _, _, _, _, l16⟩, e16, k16, PySem.W.mg_of X G a16⟩
  have D_needs_with : Dfn K mg "needs_with" s_needs_with f17 c17 := ⟨⟨_, _, _, _, _, _, _, _, l17⟩, e17, k17, PySem.W.mg_of X G a17⟩
  have D_fewest_tables : Dfn K mg "fewest_tables" s_fewest_tables f18 c18 := ⟨⟨_, _, _, _, _, _, _, _, l18⟩, e18, k18, PySem.W.mg_of X G a18⟩
  have D_count_paper : Dfn K mg "count_paper" s_count_paper f19 c19 := ⟨⟨_, _, _, _, _, _, _, _, l19⟩, e19, k19, PySem.W.mg_of X G a19⟩
  have D_fewest : Dfn K mg "fewest" s_fewest f20 c20 := ⟨⟨_, _, _, _, _, _, _, _, l20⟩, e20, k20, PySem.W.mg_of X G a20⟩
  have D__law_deck : Dfn K mg "_law_deck" s__law_deck f21 c21 := ⟨⟨_, _, _, _, _, _, _, _, l21⟩, e21, k21, PySem.W.mg_of X G a21⟩
  have D__law_draw : Dfn K mg "_law_draw" s__law_draw f22 c22 := ⟨⟨_, _, _, _, _, _, _, _, l22⟩, e22, k22, PySem.W.mg_of X G a22⟩
  have D__law_gate : Dfn K mg "_law_gate" s__law_gate f23 c23 := ⟨⟨_, _, _, _, _, _, _, _, l23⟩, e23, k23, PySem.W.mg_of X G a23⟩
  have D__law_net : Dfn K mg "_law_net" s__law_net f24 c24 := ⟨⟨_, _, _, _, _, _, _, _, l24⟩, e24, k24, PySem.W.mg_of X G a24⟩
  have D__law_held : Dfn K mg "_law_held" s__law_held f25 c25 := ⟨⟨_, _, _, _, _, _, _, _, l25⟩, e25, k25, PySem.W.mg_of X G a25⟩
  have D__law_least : Dfn K mg "_law_least" s__law_least f26 c26 := ⟨⟨_, _, _, _, _, _, _, _, l26⟩, e26, k26, PySem.W.mg_of X G a26⟩
  have D__law_cuts : Dfn K mg "_law_cuts" s__law_cuts f27 c27 := ⟨⟨_, _, _, _, _, _, _, _, l27⟩, e27, k27, PySem.W.mg_of X G a27⟩
  have D__law_depths : Dfn K mg "_law_depths" s__law_depths f28 c28 := ⟨⟨_, _, _, _, _, _, _, _, l28⟩, e28, k28, PySem.W.mg_of X G a28⟩
  have D__law_told : Dfn K mg "_law_told" s__law_told f29 c29 := ⟨⟨_, _, _, _, _, _, _, _, l29⟩, e29, k29, PySem.W.mg_of X G a29⟩
  have D__law_due : Dfn K mg "_law_due" s__law_due f30 c30 := ⟨⟨_, _, _, _, _, _, _, _, l30⟩, e30, k30, PySem.W.mg_of X G a30⟩
  have x_CoverError : ExcT K mg "CoverError" CCoverError := ⟨PySem.W.mg_of X G eg_CoverError, ek_CoverError, et_CoverError, ei_CoverError, ⟨e1_CoverError, e2_CoverError, e3_CoverError, e4_CoverError, e5_CoverError, e6_CoverError, e7_CoverError, e8_CoverError⟩⟩
  have x_NoText : ExcT K mg "NoText" CNoText := ⟨PySem.W.mg_of X G eg_NoText, ek_NoText, et_NoText, ei_NoText, ⟨e1_NoText, e2_NoText, e3_NoText, e4_NoText, e5_NoText, e6_NoText, e7_NoText, e8_NoText⟩⟩
  have x_NoDepth : ExcT K mg "NoDepth" CNoDepth := ⟨PySem.W.mg_of X G eg_NoDepth, ek_NoDepth, et_NoDepth, ei_NoDepth, ⟨e1_NoDepth, e2_NoDepth, e3_NoDepth, e4_NoDepth, e5_NoDepth, e6_NoDepth, e7_NoDepth, e8_NoDepth⟩⟩
  have x_TooMany : ExcM K mg "TooMany" CTooMany := ⟨⟨PySem.W.mg_of X G eg_TooMany, ek_TooMany, et_TooMany, ei_TooMany, ⟨e1_TooMany, e2_TooMany, e3_TooMany, e4_TooMany, e5_TooMany, e6_TooMany, e7_TooMany, e8_TooMany⟩⟩, ex_TooMany⟩
  have x_NoMatch : ExcT K mg "NoMatch" CNoMatch := ⟨PySem.W.mg_of X G eg_NoMatch, ek_NoMatch, et_NoMatch, ei_NoMatch, ⟨e1_NoMatch, e2_NoMatch, e3_NoMatch, e4_NoMatch, e5_NoMatch, e6_NoMatch, e7_NoMatch, e8_NoMatch⟩⟩
  have x_NoChange : ExcT K mg "NoChange" CNoChange := ⟨PySem.W.mg_of X G eg_NoChange, ek_NoChange, et_NoChange, ei_NoChange, ⟨e1_NoChange, e2_NoChange, e3_NoChange, e4_NoChange, e5_NoChange, e6_NoChange, e7_NoChange, e8_NoChange⟩⟩
  have x_NoRow : ExcT K mg "NoRow" CNoRow := ⟨PySem.W.mg_of X G eg_NoRow, ek_NoRow, et_NoRow, ei_NoRow, ⟨e1_NoRow, e2_NoRow, e3_NoRow, e4_NoRow, e5_NoRow, e6_NoRow, e7_NoRow, e8_NoRow⟩⟩
  have T : Txt mg := ⟨PySem.W.mg_none_of X G z_ValueError, PySem.W.mg_none_of X G z_bool, PySem.W.mg_none_of X G z_dict, PySem.W.mg_none_of X G z_int, PySem.W.mg_none_of X G z_isinstance, PySem.W.mg_none_of X G z_len, PySem.W.mg_none_of X G z_list, PySem.W.mg_none_of X G z_max, PySem.W.mg_none_of X G z_min, PySem.W.mg_none_of X G z_range, PySem.W.mg_none_of X G z_set, PySem.W.mg_none_of X G z_sorted, PySem.W.mg_none_of X G z_sum, PySem.W.mg_none_of X G z_super, PySem.W.mg_none_of X G z_tuple, ⟨_, PySem.W.mg_of X G q_MOST_GATES_TRIED, ⟨_, rfl⟩⟩⟩
  have o_NoDepth : L2.OexC K CNoDepth := ⟨⟨_, _, _, _, _, _, _, _, _, _, _, _, _, _, _, ig_NoDepth, ih_NoDepth⟩, i9_NoDepth, e3_NoDepth, et_NoDepth, ek_NoDepth⟩
  have s_NoDepth : SupF l.prog K mg CNoDepth fINoDepth cINoDepth clNoDepth { PySem.W.fnOf "__init__" "NoDepth.__init__" (defArgs s_NoDepth___init__) (defBody s_NoDepth___init__) (defScope s_NoDepth___init__) .none kVNoDepth dcNoDepth pmNoDepth anNoDepth (.ref cINoDepth) ctNoDepth with closure := [(("__class__" : Str), clNoDepth)] } "least" := ⟨⟨_, _, _, i3_NoDepth⟩, ⟨_, _, _, i7_NoDepth⟩, rfl, ⟨_, _, _, _, _, _, _, i4_NoDepth, i5_NoDepth.1, i5_NoDepth.2, i6_NoDepth⟩, if_NoDepth, rfl, rfl, rfl, rfl, rfl, rfl, rfl, ⟨_, rfl, rfl⟩, o_NoDepth, ia_NoDepth, ib_NoDepth, ic_NoDepth, id_NoDepth, ie_NoDepth, T.b_super, by decide +kernel, by decide +kernel, by decide +kernel⟩
  have i_NoDepth : ∀ base : Heap, SupI l.prog w K mg base "NoDepth" CNoDepth "least" 1 := fun base => ⟨o_NoDepth, ⟨_, _, i1_NoDepth, i2_NoDepth, supi_NoDepth s_NoDepth, .all (fun us hl => match us, hl with | [_, _], _ => rfl)⟩, x_NoDepth.g⟩
  refine ⟨(PySem.W.fnOf "law" "law" (defArgs s_law) (defBody s_law) (defScope s_law) .none kV31 dc31 pm31 an31 (.ref c31) ct31), [(c0, P0), (c8, P8), (c12, P12), (c13, P13)], spLaw K ([(c0, P0), (c8, P8), (c12, P12), (c13, P13)].map (·.2)), ?t0, ?t1, ?t2, fun s v => .of_eq rfl, fun H a ns hl _ hH hS => ⟨a, ns, rfl, hS, hl, fun p hp => ?t3, fun _ => rfl⟩, fun base _ _ TB => ?t4⟩
  case t0 => 
    intro p hp
    simp only [List.mem_cons, List.not_mem_nil, or_false] at hp
    rcases hp with rfl | rfl | rfl | rfl
    · exact y0 f0 c0 P0 _ _ _ _ _ _ (PySem.W.mg_of X G a0) l0 rfl rfl o0 h0.1
    · exact y8 f8 c8 P8 _ _ _ _ _ _ (PySem.W.mg_of X G a8) l8 rfl rfl o8 h8.1
    · exact y12 f12 c12 P12 _ _ _ _ _ _ (PySem.W.mg_of X G a12) l12 rfl rfl o12 h12.1
    · exact y13 f13 c13 P13 _ _ _ _ _ _ (PySem.W.mg_of X G a13) l13 rfl rfl o13 h13.1
  case t1 => 
    intro p hp
    simp only [List.mem_cons, List.not_mem_nil, or_false] at hp
    rcases hp with rfl | rfl | rfl | rfl
    · exact n0
    · exact n8
    · exact n12
    · exact n13
  case t2 => 
    intro p hp
    simp only [List.mem_cons, List.not_mem_nil, or_false] at hp
    rcases hp with rfl | rfl | rfl | rfl
    · exact codeHd_of X o0 h0
    · exact codeHd_of X o8 h8
    · exact codeHd_of X o12 h12
    · exact codeHd_of X o13 h13
  case t3 =>
    obtain ⟨pr, hpr, rfl⟩ := List.mem_map.mp hp
    exact ⟨#[], hH pr hpr, trivial⟩
  case t4 =>
    have cdraw := ok_draw (P := l.prog) (w := w) (base := base) D__law_draw T
    have cnet := ok_net D__law_net T cdraw (ok_gate D__law_gate T cdraw)
    have cwires := ok_wires (P := l.prog) (w := w) (base := base) D_wires_in T
    have cplaces := ok_places (P := l.prog) (w := w) (base := base) D_places
    have cwof := ok_wiresof (P := l.prog) (w := w) (base := base) (Ts := [(c0, P0), (c8, P8), (c12, P12), (c13, P13)].map (·.2)) D_wires_of T (tabB_of (TB (c0, P0) (by simp))) (by simp)
    have cfits := ok_fits (P := l.prog) (w := w) (base := base) D_fits T
    have chas := ok_haspart (P := l.prog) (w := w) (base := base) D_has_part T
    have cgm := ok_gatemasks D_gate_masks T cfits chas
    have ccm := ok_cutmasks D_cut_masks T cplaces cgm
    have ctold := ok_told D_told_cuts T cwof
    have call := ok_allcuts D_all_cuts T cwires ccm cplaces ctold (tabB_of (TB (c8, P8) (by simp))) (by simp)
    have cby := ok_depthsby D_depths_by T (ok_onedeepL (P := l.prog) (w := w) (base := base) D_one_deeper T)
    have cdeep := ok_withdeep (P := l.prog) (w := w) (base := base) (Ts := [(c0, P0), (c8, P8), (c12, P12), (c13, P13)].map (·.2)) D_with_deepest T (tabB_of (TB (c12, P12) (by simp))) (by simp)
    have cdep := ok_depths D_depths T call cby
    have cch := ok_choices D_cut_choices T call cby cdeep (tabB_of (TB (c13, P13) (by simp))) (by simp)
    have cfirst := ok_firstn (P := l.prog) (w := w) (base := base) D_first_needs T
    have cnext := ok_nextg (P := l.prog) (w := w) (base := base) D_next_gate T
    have cfit := ok_fit (P := l.prog) (w := w) (base := base) D_fitting_cuts T
    have cneeds := ok_needswith (P := l.prog) (w := w) (base := base) D_needs_with T
    have cleast := ok_leastD D__law_least T (ok_held (P := l.prog) (w := w) (base := base) D__law_held T)
    have cfewest := ok_fewX D_fewest T x_TooMany (i_NoDepth base) x_NoDepth cdep cch cfirst cwires (ok_fewT D_fewest_tables T cnext cfit cneeds 25 (by decide)) (ok_countp D_count_paper T cnext cfit cneeds 25)
    have ctold2 := ok_lTold D__law_told T x_CoverError x_NoMatch x_NoChange x_NoDepth x_NoRow x_NoText x_TooMany su_NoDepth_NoDepth su_NoDepth_CoverError su_NoDepth_ValueError su_NoDepth_NoChange su_NoDepth_NoMatch su_NoDepth_NoRow su_NoDepth_NoText su_NoDepth_TooMany su_TooMany_TooMany su_TooMany_CoverError su_TooMany_ValueError su_TooMany_NoChange su_TooMany_NoMatch su_TooMany_NoRow su_TooMany_NoText su_TooMany_NoDepth s_NoDepth.fnd cfewest
    exact ok_law l31 e31 T (ok_deck D__law_deck T) cdraw cnet (ok_cutsD D__law_cuts T cleast) (ok_depsD D__law_depths T) ctold2 (ok_lDue D__law_due T)
end K52
open PySem PySem.W PyProof.Rows
set_option maxRecDepth 100000 in
set_option maxHeartbeats 0 in
theorem PySem.Challenge.cw_tablecover_k52_fewest_refused_holds : PySem.Challenge.rw_tablecover_k52_fewest_refused.Holds := by
  w_on; o_law; k_head; (case hw => w_witness2)
  k_fill
  refine GX.walk_defs (l := PySem.Challenge.rw_tablecover_k52_fewest_refused) (n := 63) (k := 30) (x := "_law_script") (CX := fun _ => L2.CX0) rfl (by decide) rfl ⟨rfl, by decide, by decide⟩ (fun w h Y => PySem.W.kIn_of Y) ?F (fun _ _ _ _ _ h => h)
  case F =>
    intro w mg fa h Y KX G hmg TF
    refine' K52.all_mk KX G hmg ?a0 ?l0 ?e0 ?k0 ?o0 ?h0 ?n0 ?y0 ?a1 ?l1 ?e1 ?k1 ?a2 ?l2 ?e2 ?k2 ?a3 ?l3 ?e3 ?k3 ?a4 ?l4 ?e4 ?k4 ?a5 ?l5 ?e5 ?k5 ?a6 ?l6 ?e6 ?k6 ?a7 ?l7 ?e7 ?k7 ?a8 ?l8 ?e8 ?k8 ?o8 ?h8 ?n8 ?y8 ?a9 ?l9 ?e9 ?k9 ?a10 ?l10 ?e10 ?k10 ?a11 ?l11 ?e11 ?k11 ?a12 ?l12 ?e12 ?k12 ?o12 ?h12 ?n12 ?y12 ?a13 ?l13 ?e13 ?k13 ?o13 ?h13 ?n13 ?y13 ?a14 ?l14 ?e14 ?k14 ?a15 ?l15 ?e15 ?k15 ?a16 ?l16 ?e16 ?k16 ?a17 ?l17 ?e17 ?k17 ?a18 ?l18 ?e18 ?k18 ?a19 ?l19 ?e19 ?k19 ?a20 ?l20 ?e20 ?k20 ?a21 ?l21 ?e21 ?k21 ?a22 ?l22 ?e22 ?k22 ?a23 ?l23 ?e23 ?k23 ?a24 ?l24 ?e24 ?k24 ?a25 ?l25 ?e25 ?k25 ?a26 ?l26 ?e26 ?k26 ?a27 ?l27 ?e27 ?k27 ?a28 ?l28 ?e28 ?k28 ?a29 ?l29 ?e29 ?k29 ?a30 ?l30 ?e30 ?k30 ?a31 ?l31 ?e31 ?k31 ?eg_CoverError ?ek_CoverError ?et_CoverError ?ei_CoverError ?e1_CoverError ?e2_CoverError ?e3_CoverError ?e4_CoverError ?e5_CoverError ?e6_CoverError ?e7_CoverError ?e8_CoverError ?eg_NoText ?ek_NoText ?et_NoText ?ei_NoText ?e1_NoText ?e2_NoText ?e3_NoText ?e4_NoText ?e5_NoText ?e6_NoText ?e7_NoText ?e8_NoText ?eg_NoDepth ?ek_NoDepth ?et_NoDepth ?ei_NoDepth ?e1_NoDepth ?e2_NoDepth ?e3_NoDepth ?e4_NoDepth ?e5_NoDepth ?e6_NoDepth ?e7_NoDepth ?e8_NoDepth ?i1_NoDepth ?i2_NoDepth ?i3_NoDepth ?i4_NoDepth ?i5_NoDepth ?i6_NoDepth ?i7_NoDepth ?i9_NoDepth ?ia_NoDepth ?ib_NoDepth ?ic_NoDepth ?id_NoDepth ?ie_NoDepth ?if_NoDepth ?ig_NoDepth ?ih_NoDepth ?eg_TooMany ?ek_TooMany ?et_TooMany ?ei_TooMany ?e1_TooMany ?e2_TooMany ?e3_TooMany ?e4_TooMany ?e5_TooMany ?e6_TooMany ?e7_TooMany ?e8_TooMany ?ex_TooMany ?eg_NoMatch ?ek_NoMatch ?et_NoMatch ?ei_NoMatch ?e1_NoMatch ?e2_NoMatch ?e3_NoMatch ?e4_NoMatch ?e5_NoMatch ?e6_NoMatch ?e7_NoMatch ?e8_NoMatch ?eg_NoChange ?ek_NoChange ?et_NoChange ?ei_NoChange ?e1_NoChange ?e2_NoChange ?e3_NoChange ?e4_NoChange ?e5_NoChange ?e6_NoChange ?e7_NoChange ?e8_NoChange ?eg_NoRow ?ek_NoRow ?et_NoRow ?ei_NoRow ?e1_NoRow ?e2_NoRow ?e3_NoRow ?e4_NoRow ?e5_NoRow ?e6_NoRow ?e7_NoRow ?e8_NoRow ?su_NoDepth_NoDepth ?su_NoDepth_CoverError ?su_NoDepth_ValueError ?su_NoDepth_NoChange ?su_NoDepth_NoMatch ?su_NoDepth_NoRow ?su_NoDepth_NoText ?su_NoDepth_TooMany ?su_TooMany_TooMany ?su_TooMany_CoverError ?su_TooMany_ValueError ?su_TooMany_NoChange ?su_TooMany_NoMatch ?su_TooMany_NoRow ?su_TooMany_NoText ?su_TooMany_NoDepth ?z_ValueError ?z_bool ?z_dict ?z_int ?z_isinstance ?z_len ?z_list ?z_max ?z_min ?z_range ?z_set ?z_sorted ?z_sum ?z_super ?z_tuple ?q_MOST_GATES_TRIED
    (case a0 => k_is)
    (case l0 => k_is)
    (case e0 => k_is)
    (case k0 => k_is)
    (case o0 => k_is)
    (case h0 => exact ⟨rfl, rfl, rfl, rfl, rfl, rfl, by decide⟩)
    (case n0 => rfl)
    (case y0 => exact TF _ (by decide +kernel))
    (case a1 => k_is)
    (case l1 => k_is)
    (case e1 => k_is)
    (case k1 => k_is)
    (case a2 => k_is)
    (case l2 => k_is)
    (case e2 => k_is)
    (case k2 => k_is)
    (case a3 => k_is)
    (case l3 => k_is)
    (case e3 => k_is)
    (case k3 => k_is)
    (case a4 => k_is)
    (case l4 => k_is)
    (case e4 => k_is)
    (case k4 => k_is)
    (case a5 => k_is)
    (case l5 => k_is)
    (case e5 => k_is)
    (case k5 => k_is)
    (case a6 => k_is)
    (case l6 => k_is)
    (case e6 => k_is)
    (case k6 => k_is)
    (case a7 => k_is)
    (case l7 => k_is)
    (case e7 => k_is)
    (case k7 => k_is)
    (case a8 => k_is)
    (case l8 => k_is)
    (case e8 => k_is)
    (case k8 => k_is)
    (case o8 => k_is)
    (case h8 => exact ⟨rfl, rfl, rfl, rfl, rfl, rfl, by decide⟩)
    (case n8 => rfl)
    (case y8 => exact TF _ (by decide +kernel))
    (case a9 => k_is)
    (case l9 => k_is)
    (case e9 => k_is)
    (case k9 => k_is)
    (case a10 => k_is)
    (case l10 => k_is)
    (case e10 => k_is)
    (case k10 => k_is)
    (case a11 => k_is)
    (case l11 => k_is)
    (case e11 => k_is)
    (case k11 => k_is)
    (case a12 => k_is)
    (case l12 => k_is)
    (case e12 => k_is)
    (case k12 => k_is)
    (case o12 => k_is)
    (case h12 => exact ⟨rfl, rfl, rfl, rfl, rfl, rfl, by decide⟩)
    (case n12 => rfl)
    (case y12 => exact TF _ (by decide +kernel))
    (case a13 => k_is)
    (case l13 => k_is)
    (case e13 => k_is)
    (case k13 => k_is)
    (case o13 => k_is)
    (case h13 => exact ⟨rfl, rfl, rfl, rfl, rfl, rfl, by decide⟩)
    (case n13 => rfl)
    (case y13 => exact TF _ (by decide +kernel))
    (case a14 => k_is)
    (case l14 => k_is)
    (case e14 => k_is)
    (case k14 => k_is)
    (case a15 => k_is)
    (case l15 => k_is)
    (case e15 => k_is)
    (case k15 => k_is)
    (case a16 => k_is)
    (case l16 => k_is)
    (case e16 => k_is)
    (case k16 => k_is)
    (case a17 => k_is)
    (case l17 => k_is)
    (case e17 => k_is)
    (case k17 => k_is)
    (case a18 => k_is)
    (case l18 => k_is)
    (case e18 => k_is)
    (case k18 => k_is)
    (case a19 => k_is)
    (case l19 => k_is)
    (case e19 => k_is)
    (case k19 => k_is)
    (case a20 => k_is)
    (case l20 => k_is)
    (case e20 => k_is)
    (case k20 => k_is)
    (case a21 => k_is)
    (case l21 => k_is)
    (case e21 => k_is)
    (case k21 => k_is)
    (case a22 => k_is)
    (case l22 => k_is)
    (case e22 => k_is)
    (case k22 => k_is)
    (case a23 => k_is)
    (case l23 => k_is)
    (case e23 => k_is)
    (case k23 => k_is)
    (case a24 => k_is)
    (case l24 => k_is)
    (case e24 => k_is)
    (case k24 => k_is)
    (case a25 => k_is)
    (case l25 => k_is)
    (case e25 => k_is)
    (case k25 => k_is)
    (case a26 => k_is)
    (case l26 => k_is)
    (case e26 => k_is)
    (case k26 => k_is)
    (case a27 => k_is)
    (case l27 => k_is)
    (case e27 => k_is)
    (case k27 => k_is)
    (case a28 => k_is)
    (case l28 => k_is)
    (case e28 => k_is)
    (case k28 => k_is)
    (case a29 => k_is)
    (case l29 => k_is)
    (case e29 => k_is)
    (case k29 => k_is)
    (case a30 => k_is)
    (case l30 => k_is)
    (case e30 => k_is)
    (case k30 => k_is)
    (case a31 => k_is)
    (case l31 => k_is)
    (case e31 => k_is)
    (case k31 => k_is)
    (case eg_CoverError => k_is)
    (case ek_CoverError => k_is)
    (case et_CoverError => k_is)
    (case ei_CoverError => k_is)
    (case e1_CoverError => k_is)
    (case e2_CoverError => k_is)
    (case e3_CoverError => k_is)
    (case e4_CoverError => k_is)
    (case e5_CoverError => k_is)
    (case e6_CoverError => k_is)
    (case e7_CoverError => k_is)
    (case e8_CoverError => k_is)
    (case eg_NoText => k_is)
    (case ek_NoText => k_is)
    (case et_NoText => k_is)
    (case ei_NoText => k_is)
    (case e1_NoText => k_is)
    (case e2_NoText => k_is)
    (case e3_NoText => k_is)
    (case e4_NoText => k_is)
    (case e5_NoText => k_is)
    (case e6_NoText => k_is)
    (case e7_NoText => k_is)
    (case e8_NoText => k_is)
    (case eg_NoDepth => k_is)
    (case ek_NoDepth => k_is)
    (case et_NoDepth => k_is)
    (case ei_NoDepth => k_is)
    (case e1_NoDepth => k_is)
    (case e2_NoDepth => k_is)
    (case e3_NoDepth => k_is)
    (case e4_NoDepth => k_is)
    (case e5_NoDepth => k_is)
    (case e6_NoDepth => k_is)
    (case e7_NoDepth => k_is)
    (case e8_NoDepth => k_is)
    (case i1_NoDepth => k_is)
    (case i2_NoDepth => k_is)
    (case i3_NoDepth => k_is)
    (case i4_NoDepth => k_is)
    (case i5_NoDepth => exact ⟨rfl, rfl⟩)
    (case i6_NoDepth => decide +kernel)
    (case i7_NoDepth => k_is)
    (case i9_NoDepth => k_is)
    (case ia_NoDepth => ks_is)
    (case ib_NoDepth => k_is)
    (case ic_NoDepth => k_is)
    (case id_NoDepth => k_is)
    (case ie_NoDepth => k_is)
    (case if_NoDepth => decide +kernel)
    (case ig_NoDepth => k_is)
    (case ih_NoDepth => decide +kernel)
    (case eg_TooMany => k_is)
    (case ek_TooMany => k_is)
    (case et_TooMany => k_is)
    (case ei_TooMany => k_is)
    (case e1_TooMany => k_is)
    (case e2_TooMany => k_is)
    (case e3_TooMany => k_is)
    (case e4_TooMany => k_is)
    (case e5_TooMany => k_is)
    (case e6_TooMany => k_is)
    (case e7_TooMany => k_is)
    (case e8_TooMany => k_is)
    (case ex_TooMany => k_exc)
    (case eg_NoMatch => k_is)
    (case ek_NoMatch => k_is)
    (case et_NoMatch => k_is)
    (case ei_NoMatch => k_is)
    (case e1_NoMatch => k_is)
    (case e2_NoMatch => k_is)
    (case e3_NoMatch => k_is)
    (case e4_NoMatch => k_is)
    (case e5_NoMatch => k_is)
    (case e6_NoMatch => k_is)
    (case e7_NoMatch => k_is)
    (case e8_NoMatch => k_is)
    (case eg_NoChange => k_is)
    (case ek_NoChange => k_is)
    (case et_NoChange => k_is)
    (case ei_NoChange => k_is)
    (case e1_NoChange => k_is)
    (case e2_NoChange => k_is)
    (case e3_NoChange => k_is)
    (case e4_NoChange => k_is)
    (case e5_NoChange => k_is)
    (case e6_NoChange => k_is)
    (case e7_NoChange => k_is)
    (case e8_NoChange => k_is)
    (case eg_NoRow => k_is)
    (case ek_NoRow => k_is)
    (case et_NoRow => k_is)
    (case ei_NoRow => k_is)
    (case e1_NoRow => k_is)
    (case e2_NoRow => k_is)
    (case e3_NoRow => k_is)
    (case e4_NoRow => k_is)
    (case e5_NoRow => k_is)
    (case e6_NoRow => k_is)
    (case e7_NoRow => k_is)
    (case e8_NoRow => k_is)
    (case su_NoDepth_NoDepth => k_is)
    (case su_NoDepth_CoverError => k_is)
    (case su_NoDepth_ValueError => k_is)
    (case su_NoDepth_NoChange => k_is)
    (case su_NoDepth_NoMatch => k_is)
    (case su_NoDepth_NoRow => k_is)
    (case su_NoDepth_NoText => k_is)
    (case su_NoDepth_TooMany => k_is)
    (case su_TooMany_TooMany => k_is)
    (case su_TooMany_CoverError => k_is)
    (case su_TooMany_ValueError => k_is)
    (case su_TooMany_NoChange => k_is)
    (case su_TooMany_NoMatch => k_is)
    (case su_TooMany_NoRow => k_is)
    (case su_TooMany_NoText => k_is)
    (case su_TooMany_NoDepth => k_is)
    (case z_ValueError => k_is)
    (case z_bool => k_is)
    (case z_dict => k_is)
    (case z_int => k_is)
    (case z_isinstance => k_is)
    (case z_len => k_is)
    (case z_list => k_is)
    (case z_max => k_is)
    (case z_min => k_is)
    (case z_range => k_is)
    (case z_set => k_is)
    (case z_sorted => k_is)
    (case z_sum => k_is)
    (case z_super => k_is)
    (case z_tuple => k_is)
    (case q_MOST_GATES_TRIED => k_is)
