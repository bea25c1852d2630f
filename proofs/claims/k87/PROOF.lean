import PyProof.Rows.All
import Wide.All
import OpenK.AllK
import Wide.FinOn
import HandS.ForMost
import HandS.AnyAll
import HandS.GenList
import PyProof.TupleOfGen
import HandS.Walk
import HandS.Codes
import HandS.TupAny
import HandS.IsInst
import HandS.EndTab
import HandS.Wide
import HandS.Conv
import KE.GoesMore
import PyProof.EnumMake
import HandS.Style
import HandS.TupMul
import HandS.SetFor
import HandS.Strs
import HandS.Zip
import HandS.NamedTupSort
import HandS.TupSets
import KE.BitLaws
import KE.IntBitsLaws
import HandS.WideBits
import HandS.Rev
import HandS.RevRange
import HandS.Dict
import KE.KIndexOf
import KE.KDictPairs
import HandS.Flow
import HandS.Lambda
import KE.KMinKey
import HandS.TupLe
import PyProof.EqKinds
import HandS.DictEq
import HandS.DictComp
import HandS.Comp
import HandS.Exc
import HandS.ExcOwn
import HandS.ExcIs
import HandS.ExcField
import KE.KExcIs
import KE.KExcSuper
import HandS.ExcSuper
import HandS.ExcInit
import HandS.FStr
import HandS.Iter
import HandS.SortInts
import HandS.More
import HandS.WordsDict
import HandS.RaiseMore
import HandS.Remove
import PyProof.EqAt
import PyProof.NeKinds
import HandS.List
import KE.GoesRev
import KE.GoesEnum
import PyProof.ReprRoads
import KE.RegKSuper
import PySem.Challenge.RW_tablecover_k87_whole_numbered_otherwise
set_option Elab.async false
set_option linter.all false
set_option maxRecDepth 100000
set_option maxHeartbeats 4000000
/-! Generator expressions as arguments of all, any, tuple, over the hand layer: the element may call, make objects, hold further generator expressions. -/
namespace GX
open PySem PySem.Spec PyProof.Rows L2 GenW
/-- the frame of a generator expression made in the state s; A0: what runs around it while it runs -/
abbrev gcx (X : Cx) (A0 : Around) (s : Shared) (H : Hp) (scope : Scope) (code : Value) (fp : List Addr) : Cx :=
  { X with
    A := A0.deeper (genEnv scope (cloFrom X.env.cells scope.names []) s.heap.objs.size code builtinsNs X.env)
    s_0 := s
    H_0 := H
    env := genEnv scope (cloFrom X.env.cells scope.names []) s.heap.objs.size code builtinsNs X.env
    outer := X.stack
    stack := genEnv scope (cloFrom X.env.cells scope.names []) s.heap.objs.size code builtinsNs X.env :: X.stack
    ex := fp
    fn := fun _ => false
    calm := true
    pn := []
    xe := fun _ _ => False }
/-- the names of the generator expression's scope -/
structure GxOk (N : List Str) (sc scope : Scope) (own : List (Str × Nat)) : Prop where
  blk : BlkOk N sc scope own
  co : scope.isCoroutine = false
  cell : ∀ y ∈ scope.names, y.2 ≠ .cell
  dot : scope.names.lookup (".0" : Str) = some NameKind.local
section
variable {X : Cx} {pins : List (Addr × Obj)} {σ : L2.St} {H : Hp} {s : Shared}
theorem gen_start {A0 : Around} {scope : Scope} {own : List (Str × Nat)} {fp : List Addr} {code : Value} {h5 : Heap} {g5 : Array GenState} {t5 : Nat} {m : Str → Option Value}
    (I : Inv X pins σ H s) (ok : GxOk X.N X.env.scope scope own) (hN : X.N.Nodup) (hfp : ∀ b ∈ fp, FpOk X pins H b ∧ b < s.heap.objs.size)
    (hh : A0.handled = none) (hfr : A0.frames = some X.stack)
    (hn : h5.Ns s.heap.objs.size m) (kp : ∀ b o, s.heap.get? b = some o → h5.get? b = some o) (hg : AllBare g5) :
    Inv (gcx X A0 s H scope code fp) [] (wipe σ (own.map (·.2))) H { s with heap := h5, gens := g5, toks := t5 } := by
  have hfree : ∀ y ∈ scope.names, y.2 = .free → ∃ c, X.env.cells.lookup y.1 = some c := fun y hy e => by
    rcases ok.blk.free y hy e with k | k
    · exact I.ok.has _ (.inl k)
    · exact I.ok.has _ (.inr k)
  have cm : ∀ {y c}, (cloFrom X.env.cells scope.names []).lookup y = some c → X.env.cells.lookup y = some c ∧ c < s.heap.objs.size ∧ scope.names.lookup y = some .free := fun {y c} hl => by
    rcases cloFrom_mem (PySem.mem_of_lookup hl) with hm | ⟨h1, rfl⟩
    · cases hm
    · obtain ⟨c, hc⟩ := hfree _ h1 rfl
      rw [hc]
      obtain ⟨w, z⟩ := I.cell _ _ hc
      exact ⟨rfl, z.lt, ok.blk.uniq _ h1⟩
  have look : ∀ {y}, scope.names.lookup y = some .free → ∃ c, (cloFrom X.env.cells scope.names []).lookup y = some c ∧ X.env.cells.lookup y = some c := fun {y} hl => by
    have hy : (y, NameKind.free) ∈ scope.names := PySem.mem_of_lookup hl
    obtain ⟨c', e'⟩ := mem_lookup (cloFrom_has (cells := X.env.cells) (acc := []) hy)
    exact ⟨c', e', (cm e').1⟩
  have okB : (gcx X A0 s H scope code fp).Ok := by
    refine ⟨I.ok.mod, ok.blk.kind, I.ok.glob, rfl, Nat.le_refl _, fun y z c e1 e2 => ?_, fun y hy => ?_, fun y c z e => (by cases z), fun _ => hh, Around.frames_deeper hfr, .inr ⟨rfl, rfl⟩,
      fun b hb => ⟨Nat.ne_of_lt (hfp b hb).2, fun y c e z => ?_⟩, I.bs, Nat.le_trans I.ok.bsz I.sz, fun b o e hb => ?_, fun b hb z => ?_, I.stack, I.stkFree⟩
    · exact I.ok.inj y z c (cm e1).1 (cm e2).1
    · rcases hy with hy | hy
      · exact absurd rfl (ok.cell _ (PySem.mem_of_lookup hy))
      · obtain ⟨c, h1, _⟩ := look hy
        exact ⟨c, h1⟩
    · exact (hfp b hb).1.2.2.2.2.1 y c (cm e).1 z
    · rcases (hfp b hb).1.2.2.2.1 with z | z
      · exact I.ok.noex b o e z
      · exact absurd (Nat.lt_of_lt_of_le (Heap.lt_size e) (Nat.le_trans I.ok.bsz z)) (Nat.lt_irrefl _)
    · rcases List.mem_cons.mp (I.stkSub b z) with z | z
      · exact (hfp b hb).1.2.1 z
      · exact (hfp b hb).1.2.2.1 z
  refine ⟨okB, rfl, hg, Un.kept kp, ⟨m, hn, fun i y av e1 e2 e3 => ?_⟩, fun y c e => ?_, I.hok.fresh (Nat.le_refl _), fun y c e => I.freeC y c (cm e).1, fun p hp => absurd (show p ∈ ([] : List (Addr × Obj)) ++ [] from hp) (by simp), I.hok.kept kp, by rw [wipe_length]; exact I.len⟩
  · obtain ⟨e2, hne⟩ := wipe_some e2
    have no : ∀ k, scope.names.lookup y = some k → ¬ (k = .local ∨ k = .cell) := fun k e hh => by
      rcases ok.blk.own _ (PySem.mem_of_lookup e) hh with e' | e'
      · obtain ⟨p, hp, hpy⟩ := List.mem_map.mp e'
        have e3 := ok.blk.ix p hp
        have : p.1 = y := hpy
        rw [this] at e3
        exact hne (List.mem_map.mpr ⟨p, hp, nodup_ix hN e3 e1⟩)
      · exact e' (List.mem_of_getElem? e1)
    have hfr : scope.names.lookup y = some .free := by
      rcases e3 with e3 | e3 | e3
      · exact absurd (.inl rfl) (no _ e3)
      · exact absurd (.inr rfl) (no _ e3)
      · exact e3
    obtain ⟨m', hn', hl⟩ := I.loc
    have hvis : Vis X.env.scope y := (ok.blk.free _ (PySem.mem_of_lookup hfr) rfl).elim (fun k => .inr (.inl k)) (fun k => .inr (.inr k))
    obtain ⟨w, r, q⟩ := hl i y av e1 e2 hvis
    refine ⟨w, r, .inr ⟨.inr hfr, ?_⟩⟩
    obtain ⟨c, h1, h2⟩ := look hfr
    rcases q with ⟨k, _⟩ | ⟨_, c', e', z⟩
    · have k : X.env.scope.names.lookup y = some .local := k
      rcases ok.blk.free _ (PySem.mem_of_lookup hfr) rfl with k' | k' <;> rw [show X.env.scope.names.lookup y = _ from k'] at k <;> cases k
    · rw [h2] at e'; cases e'
      exact ⟨c, h1, z.keeps kp⟩
  · obtain ⟨w, z⟩ := I.cell y c (cm e).1
    exact ⟨w, z.keeps kp⟩
end
/-! ### asleep -/
/-- while the generator sleeps its consumer changes what stands at B alone -/
structure Slp (B : List Addr) (s s' : Shared) : Prop where
  os : s'.os = s.os
  bare : AllBare s'.gens
  keep : ∀ b o, b ∉ B → s.heap.get? b = some o → s'.heap.get? b = some o
/-- the consumer's own objects -/
structure Aprt (Y : Cx) (B fp : List Addr) (a : Addr) : Prop where
  hi : ∀ b ∈ B, Y.s_0.heap.objs.size ≤ b
  lo : ∀ b ∈ B, b ≠ Y.env.locals
  ce : ∀ b ∈ B, ∀ x c, Y.env.cells.lookup x = some c → c ≠ b
  sf : ∀ b ∈ B, b ∉ Y.fs
  bf : ∀ b ∈ B, b ∉ fp
  na : a ∉ B
  af : a ∉ fp
theorem woken {Y : Cx} {B fp : List Addr} {a : Addr} {go : Obj} {pins pins' : List (Addr × Obj)} {σ : L2.St} {H : Hp} {s s' : Shared} (hpn : Y.pn = []) (hB : Aprt Y B fp a) (I : Inv Y ((a, go) :: pins) σ H s)
    (hHB : ∀ b ∈ B, H b = none) (z : Slp B s s') (hp : ∀ p ∈ pins', p.1 ∈ B ∧ s'.heap.get? p.1 = some p.2 ∧ ∀ v, p.2.data ≠ .cell v) : Inv Y ((a, go) :: pins') σ H s' := by
  have I1 : Inv Y [(a, go)] σ H s := I.pins_of fun p hp => by
    have e : p = (a, go) := List.mem_singleton.mp hp
    rw [e]
    exact I.pin (a, go) (List.mem_append_right _ List.mem_cons_self)
  have nt : ∀ b u, H b = some u → b ∉ B := fun b u q hb => by rw [hHB b hb] at q; cases q
  obtain ⟨z1, z2, z3⟩ := z
  obtain ⟨hh, g, d, t, o⟩ := s'
  have ho : o = s.os := z1
  subst ho
  have J : Inv Y [(a, go)] σ H { s with heap := hh, gens := g, drawn := d, toks := t } := by
    refine I1.step (g' := g) (t' := t) (d' := d) (ch := B) (fun b hb => ?_)
      (fun b ob _ _ hc q _ => z3 b ob hc q) (fun b ob _ _ hc q _ => ⟨ob.slots, z3 b ob hc q⟩) (fun _ _ _ _ n => n) (fun b ob hc q => ⟨ob, z3 b ob hc q⟩)
      (fun _ _ q => q) (fun _ _ _ q => q) (fun b ps q => ⟨#[], by rw [q]; simp⟩) (fun m hm => ?_) (fun b u q => ?_) z2
    · refine ⟨.inr (hB.hi b hb), hB.lo b hb, hB.ce b hb, fun p hp => ?_⟩
      rw [hpn] at hp
      have e : p = (a, go) := by simpa using hp
      rw [e]
      intro e2
      have e3 : a = b := e2
      exact hB.na (by rw [e3]; exact hb)
    · obtain ⟨ob, es, ep, ho, r⟩ := hm
      exact ⟨ob, es, ep, z3 _ ob (fun hb => hB.lo _ hb rfl) ho, r⟩
    · refine (I1.hok b u q).stay (fun c v hc y => z3 c v ?_ y) (fun _ y => y) fun _ _ y => y
      rcases hc with y | y
      · rw [y]; exact nt b u q
      · exact nt c _ y
  refine J.pins_of fun p hp' => ?_
  rcases List.mem_cons.mp hp' with e | hp'
  · rw [e]
    exact J.pin (a, go) (List.mem_append_right _ List.mem_cons_self)
  · obtain ⟨h1, h2, h3⟩ := hp p hp'
    exact ⟨h2, hHB _ h1, hB.lo _ h1, hB.sf _ h1, h3⟩
/-! ### the turns -/
/-- what the consumer holds behind ys: Pn; what is wanted at a yield: Kx; where it goes on: Cn; at the end: Fi -/
structure Con where
  B : List Addr
  Pn : List V → List (Addr × Obj) → Prop
  Kx : List V → V → Hp → Prop
  Cn : List V → V → Prop
  Fi : List V → Hp → Prop
structure Con.Ok (C : Con) : Prop where
  pn : ∀ ys pins, C.Pn ys pins → ∀ p ∈ pins, p.1 ∈ C.B ∧ ∀ v, p.2.data ≠ .cell v
  all : ∀ ys pins, C.Pn ys pins → ∀ b ∈ C.B, ∃ o, (b, o) ∈ pins
def YG (Y : Cx) (C : Con) (a : Addr) (go : Obj) (σ0 : L2.St) : Protocol := fun n s₀ v s kap =>
  ∃ ys x pins H, RelV x v ∧ C.Pn ys pins ∧ Inv Y ((a, go) :: pins) σ0 H s ∧ C.Kx ys x H ∧
    (C.Cn ys x → ∀ s', Slp C.B s s' → (∃ pins', C.Pn (ys ++ [x]) pins' ∧ ∀ p ∈ pins', s'.heap.get? p.1 = some p.2) → kap (.send .none) s')
def RG (Y : Cx) (C : Con) (a : Addr) (go : Obj) (σ0 : L2.St) : Nat → Shared → Shared → Prop := fun n s₀ s => ∃ ys pins H, C.Pn ys pins ∧ Inv Y ((a, go) :: pins) σ0 H s ∧ C.Fi ys H
def GSt (Y : Cx) (C : Con) (fp : List Addr) (tn : Nat → Heap → Prop) (a : Addr) (go : Obj) (σ0 : L2.St) (W : Nat → Nat → List V → Hp → Prop) (i m : Nat) (ys : List V) (s : Shared) : Prop :=
  ∃ pins H, C.Pn ys pins ∧ Inv Y ((a, go) :: pins) σ0 H s ∧ tn i s.heap ∧ (∀ b ∈ fp, H b = none) ∧ W i m ys H
/-- the turns' reading -/
def Turns (J : It) (g : TG) (tt : TT) (te : TE) (vs : List Nat) (σ0 : L2.St) (C : Con) (W : Nat → Nat → List V → Hp → Prop) : Prop := ∀ i m ys H, W i m ys H →
  (J.stop i H ∧ C.Fi ys H) ∨ (J.go i H ∧ ∃ Nx : List V → Hp → Prop, (∀ ys' H', Nx ys' H' → ∃ m', m' < m ∧ W (i + 1) m' ys' H') ∧ ∀ x H', J.yld i H x H' → g x σ0 H' fun σ2 H2 => wipe σ2 vs = σ0 ∧ tt σ2 H2 fun b H3 =>
    if b = true then te σ2 H3 fun y H4 => C.Kx ys y H4 ∧ (C.Cn ys y → Nx (ys ++ [y]) H4) else Nx ys H3)
section
variable {Y : Cx} {C : Con} {A0 : Around} {elt tg iter : Expr} {ifs : List Expr} {scope : Scope} {pos : Pos} {it a : Addr} {fp : List Addr} {tn : Nat → Heap → Prop} {go : Obj} {J : It} {g : TG} {tt : TT} {te : TE} {vs : List Nat} {σ0 : L2.St} {W : Nat → Nat → List V → Hp → Prop}
theorem seg_loop (hA : A0.over (.compLoop (.GeneratorExp elt [⟨tg, iter, ifs, 0⟩] scope pos) 0 (.ref it) .none Y.env) [] = Y.A) (hc : Y.calm = true) (hx : ∀ e s, Y.xe e s → False) (hpn : Y.pn = []) (hco : Y.env.scope.isCoroutine = false)
    (CO : C.Ok) (hB : Aprt Y C.B fp a) (hst : ∀ b ∈ fp, b ≠ Y.env.locals ∧ b ∉ Y.fs ∧ (b ∈ Y.ex ∨ Y.s_0.heap.objs.size ≤ b) ∧ ∀ x c, Y.env.cells.lookup x = some c → c ≠ b)
    (T : Turn Y.prog Y.w Y.K tg J fp it tn) (hg : PG Y tg g) (ht : PTs Y ifs tt) (he : PE Y elt te) (turns : Turns J g tt te vs σ0 C W) :
    ∀ (m i n : Nat) (ys : List V) (s₀ s : Shared), m < n → GSt Y C fp tn a go σ0 W i m ys s →
      Seg (model Y.prog Y.w) A0 (fun n s₀ r s₁ => r = .ok .next ∧ RG Y C a go σ0 n s₀ s₁) (YG Y C a go σ0) n s₀
        (.compLoop (.GeneratorExp elt [⟨tg, iter, ifs, 0⟩] scope pos) 0 (.ref it) .none Y.env)
        ((model Y.prog Y.w).den (.compLoop (.GeneratorExp elt [⟨tg, iter, ifs, 0⟩] scope pos) 0 (.ref it) .none Y.env)) [] s := by
  intro m
  induction m using Nat.strongRecOn with
  | ind m ih =>
    intro i n ys s₀ s hmn ⟨pins, H, hP, I, st, fr, w⟩
    have stat : ∀ {H' : Hp}, (∀ b ∈ fp, H' b = none) → ∀ b ∈ fp, FpOk Y ((a, go) :: pins) H' b := fun hn b hb => by
      obtain ⟨h1, h2, h3, h4⟩ := hst b hb
      refine ⟨hn b hb, h1, h2, h3, h4, fun p hp => ?_⟩
      rw [hpn] at hp
      rcases List.mem_cons.mp (show p ∈ (a, go) :: pins from hp) with e | hp
      · rw [e]; intro e2; have e3 : a = b := e2; exact hB.af (by rw [e3]; exact hb)
      · intro e2; exact hB.bf _ (CO.pn _ _ hP p hp).1 (by rw [e2]; exact hb)
    obtain ⟨k, rfl⟩ : ∃ k, n = k + 1 := ⟨n - 1, by omega⟩
    show Seg _ A0 _ _ _ s₀ _ ((compTurn (.GeneratorExp elt [⟨tg, iter, ifs, 0⟩] scope pos) 0 (.ref it) .none Y.env).onRaise (leaving Y.env)) [] s
    rw [compTurn_gen, Sem.onRaise_eq_wrap]
    refine seg_bind_wrap (wpAny_standAt ?_)
    rcases turns i m ys H w with ⟨stop, q⟩ | ⟨go1, Nx, hN, step⟩
    · refine seg_bind_wrap ?_
      rw [hA]
      refine thn (T.done Y rfl rfl rfl hc i _ s σ0 H _ I (stat fr) st stop) fun r s1 ⟨hr, I1⟩ => ?_
      subst hr
      exact seg_end (.ok .next) ⟨rfl, ys, pins, H, hP, I1, q⟩
    · refine seg_bind_wrap ?_
      rw [hA]
      refine thn (T.item Y rfl rfl rfl hc i _ s σ0 H _ I (stat fr) st go1) fun r s1 ⟨u, hr, h1⟩ => ?_
      subst hr
      refine seg_bind_wrap ?_
      rw [hA]
      refine thn h1 fun _ s2 ⟨x, H2, I2, rx, y2, st2, fr2⟩ => ?_
      have I2' := I2.pinned (stat fr2) (T.obj _ _ st2)
      refine seg_bind_wrap ?_
      rw [hA]
      refine wpAny_mono (hg.run _ s2 σ0 H2 x u _ I2' rx (step x H2 y2)) (fun _ s3 ⟨σ3, H3, I3, hw, q3⟩ => ?_) (fun e s' z => (hx e s' z).elim)
      refine seg_bind_wrap ?_
      rw [hA]
      refine wpAny_mono (ht.run _ s3 σ3 H3 _ I3 q3) (fun b s4 ⟨H4, I4, q4⟩ => ?_) (fun e s' z => (hx e s' z).elim)
      have weak : ∀ {H' : Hp} {s' : Shared}, Inv Y ((a, go) :: pins ++ pinsAt fp s2.heap) σ3 H' s' → Inv Y ((a, go) :: pins ++ pinsAt fp s2.heap) σ0 H' s' := fun I' => by
        refine I'.weak (by rw [← hw, wipe_length]) fun j v e => ?_
        rw [← hw] at e
        exact (wipe_some e).1
      have tnk : ∀ {H' : Hp} {s' : Shared}, Inv Y ((a, go) :: pins ++ pinsAt fp s2.heap) σ3 H' s' → tn (i + 1) s'.heap ∧ ∀ b ∈ fp, H' b = none := fun I' => by
        refine ⟨T.keep _ _ _ st2 fun b hb o e => (I'.pin (b, o) (List.mem_append_right _ (List.mem_append_right _ (mem_pinsAt hb e)))).1, fun b hb => ?_⟩
        obtain ⟨o, e, d⟩ := T.obj _ _ st2 b hb
        exact (I'.pin (b, o) (List.mem_append_right _ (List.mem_append_right _ (mem_pinsAt hb e)))).2.1
      cases b with
      | false =>
        rw [if_neg Bool.false_ne_true] at q4
        obtain ⟨m', hm, w'⟩ := hN _ _ q4
        obtain ⟨t4, f4⟩ := tnk I4
        simp only [Bool.false_eq_true, if_false]
        exact seg_again rfl (ih m' hm (i + 1) (k + 1) ys s₀ s4 (by omega) ⟨pins, H4, hP, (weak I4).unpinned, t4, f4, w'⟩)
      | true =>
        rw [if_pos rfl] at q4
        simp only [if_true]
        have hy : ∀ v, yieldOut Y.env v = yieldValue v := fun v => by simp only [yieldOut, hco, Bool.false_eq_true, if_false]
        simp only [hy]
        rw [Sem.bind_eq_wrap', Sem.bind_eq_wrap', Sem.wrap_wrap, Sem.wrap_wrap]
        refine seg_wrap ?_
        rw [hA]
        refine wpAny_mono (he.run _ s4 σ3 H4 _ I4 q4) (fun v s5 ⟨y, H5, I5, ry, kx, nx⟩ => ?_) (fun e s' z => (hx e s' z).elim)
        obtain ⟨t5, f5⟩ := tnk I5
        have I5' := (weak I5).unpinned
        refine seg_at (seg_yield rfl rfl rfl ⟨ys, y, pins, H5, ry, hP, I5', kx, fun cn s6 z ⟨pins', hP', hp'⟩ => ?_⟩)
        obtain ⟨m', hm, w'⟩ := hN _ _ (nx cn)
        have hHB : ∀ b ∈ C.B, H5 b = none := fun b hb => by
          obtain ⟨o, ho⟩ := CO.all _ _ hP b hb
          exact (I5'.pin (b, o) (List.mem_append_right _ (List.mem_cons_of_mem _ ho))).2.1
        have I6 : Inv Y ((a, go) :: pins') σ0 H5 s6 := woken hpn hB I5' hHB z fun p hp => ⟨(CO.pn _ _ hP' p hp).1, hp' p hp, (CO.pn _ _ hP' p hp).2⟩
        refine seg_again rfl (ih m' hm (i + 1) k (ys ++ [y]) s6 s6 (by omega) ⟨pins', H5, hP', I6, T.keep _ _ _ t5 fun b hb o e => z.keep b o (fun hm => hB.bf b hm hb) e, f5, w'⟩)
end
end GX
set_option Elab.async false
set_option linter.all false
set_option maxRecDepth 100000
set_option maxHeartbeats 4000000
namespace GX
open PySem PySem.Spec PyProof.Rows L2 GenW
section
variable {Y : Cx} {C : Con} {A0 : Around} {elt tg iter : Expr} {ifs : List Expr} {scope : Scope} {pos : Pos} {it a : Addr} {fp : List Addr} {tn : Nat → Heap → Prop} {go : Obj} {J : It} {g : TG} {tt : TT} {te : TE} {vs : List Nat} {σ0 : L2.St} {W : Nat → Nat → List V → Hp → Prop}
theorem seg_start (hA : A0.over (.compLoop (.GeneratorExp elt [⟨tg, iter, ifs, 0⟩] scope pos) 0 (.ref it) .none Y.env) [] = Y.A) (hc : Y.calm = true) (hx : ∀ e s, Y.xe e s → False) (hpn : Y.pn = []) (hco : Y.env.scope.isCoroutine = false)
    (CO : C.Ok) (hB : Aprt Y C.B fp a) (hst : ∀ b ∈ fp, b ≠ Y.env.locals ∧ b ∉ Y.fs ∧ (b ∈ Y.ex ∨ Y.s_0.heap.objs.size ≤ b) ∧ ∀ x c, Y.env.cells.lookup x = some c → c ≠ b)
    (T : Turn Y.prog Y.w Y.K tg J fp it tn) (hg : PG Y tg g) (ht : PTs Y ifs tt) (he : PE Y elt te) (turns : Turns J g tt te vs σ0 C W)
    (m i n : Nat) (ys : List V) (s₀ s : Shared) (hmn : m < n) (h : GSt Y C fp tn a go σ0 W i m ys s) :
      Seg (model Y.prog Y.w) A0 (fun n s₀ r s₁ => r = .ok .next ∧ RG Y C a go σ0 n s₀ s₁) (YG Y C a go σ0) n s₀
        (.compStart (.GeneratorExp elt [⟨tg, iter, ifs, 0⟩] scope pos) 0 (.ref it) .none Y.env)
        ((model Y.prog Y.w).den (.compStart (.GeneratorExp elt [⟨tg, iter, ifs, 0⟩] scope pos) 0 (.ref it) .none Y.env)) [] s := by
  have loop := seg_loop (iter := iter) (scope := scope) (pos := pos) hA hc hx hpn hco CO hB hst T hg ht he turns m i n ys s₀ s hmn h
  obtain ⟨pins, H, hP, I, st, fr, w⟩ := h
  show Seg _ A0 _ _ _ s₀ _ ((compStart (.GeneratorExp elt [⟨tg, iter, ifs, 0⟩] scope pos) 0 (.ref it) .none Y.env).onRaise (leaving Y.env)) [] s
  unfold compStart
  rw [Sem.onRaise_eq_wrap]
  show Seg _ A0 _ _ _ s₀ _ ((ask >>= _).wrap _ _ _ _) [] s
  refine seg_bind_wrap (wpAny_askSetting ?_)
  split
  · exact seg_again rfl loop
  · first
      | exact seg_bind_wrap (wpAny_rule (seg_bind_wrap (wpAny_standAt (seg_bind_wrap (T.self _ i s _ _ st (seg_again rfl loop))))))
      | (refine seg_bind_wrap (wpAny_rule ?_); show Seg _ A0 _ _ _ s₀ _ ((standAt iter.pos >>= _).wrap _ _ _ _) [] s; exact seg_bind_wrap (wpAny_standAt (seg_bind_wrap (T.self _ i s _ _ st (seg_again rfl loop)))))
end
/-! ### the generator, as its consumer sees it -/
def Live (Y : Cx) (C : Con) (A0 : Around) (a : Addr) (go : Obj) (σ0 : L2.St) (g n : Nat) (s : Shared) : Prop :=
  s.heap.IsGen a g ∧ s.heap.NoLimit ∧ ∃ gs, s.gens[g]? = some gs ∧ gs.Goes (model Y.prog Y.w) A0 (fun n s₀ r s₁ => r = .ok .next ∧ RG Y C a go σ0 n s₀ s₁) (YG Y C a go σ0) n (.send .none) (s.setGen g .running)
theorem inv_setGen {Y : Cx} {pins : List (Addr × Obj)} {σ : L2.St} {H : Hp} {s : Shared} {g : Nat} {gs : GenState} (I : Inv Y pins σ H s) (hb : gs.bare = true) : Inv Y pins σ H (s.setGen g gs) :=
  ⟨I.ok, I.os, allBare_setGen I.bare hb, I.base, I.loc, I.cell, I.free, I.freeC, I.pin, I.hok, I.len⟩
/-- one next -/
theorem gx_next {Y : Cx} {C : Con} {A : Around} {a : Addr} {go : Obj} {σ0 : L2.St} {g n : Nat} {s : Shared} {Q : Option Value → Shared → Prop} {E : Value → Shared → Prop} (hh : A.handled = none) (hroom : A.depth < recursionLimit)
    (L : Live Y C A.in1 a go σ0 g n s) (hgo : ∀ h : Heap, h.get? a = some go → h.IsGen a g)
    (hY : ∀ ys x v pins H s₁, RelV x v → C.Pn ys pins → Inv Y ((a, go) :: pins) σ0 H s₁ → C.Kx ys x H →
      (C.Cn ys x → ∀ s', Slp C.B s₁ s' → (∃ pins', C.Pn (ys ++ [x]) pins' ∧ ∀ p ∈ pins', s'.heap.get? p.1 = some p.2) → s'.heap.get? a = some go → s'.heap.NoLimit → s'.gens = s₁.gens → ∃ k, n = k + 1 ∧ Live Y C A.in1 a go σ0 g k s') → Q (some v) s₁)
    (hF : ∀ ys pins H s₁, C.Pn ys pins → Inv Y ((a, go) :: pins) σ0 H s₁ → C.Fi ys H → Q none s₁) :
    wpAny (model Y.prog Y.w) A (pyNext (.ref a)) Q E s := by
  obtain ⟨hg, hl, gs, hgs, hgoes⟩ := L
  have hgl : g < s.gens.size := (Array.getElem?_eq_some_iff.mp hgs).1
  refine wpAny_gsz (n := g + 1) hgl (wpAny_pyNext_genexpQ hh hl hroom hg hgs hgoes (fun v s₁ gs' hb hv => ?_) (fun s₁ hp h' hk => ?_))
  · intro hsz
    obtain ⟨ys, x, pins, H, rv, hP, I, kx, kap⟩ := hv
    have hsz1 : g < s₁.gens.size := by
      have q : (s₁.setGen g gs').gens.size = s₁.gens.size := setGen_size _ _ _
      have hsz' : g + 1 ≤ (s₁.setGen g gs').gens.size := hsz
      omega
    refine hY ys x v pins H _ rv hP (inv_setGen I hb) kx fun cn s' z hp ha hl' hgens => ?_
    have z' : Slp C.B s₁ (s'.setGen g .running) := ⟨z.os, allBare_setGen z.bare rfl, fun b o hb e => z.keep b o hb e⟩
    have q := kap cn _ z' hp
    cases n with
    | zero => exact False.elim q
    | succ k => exact ⟨k, rfl, hgo _ ha, hl', gs', by rw [hgens]; exact setGen_at hsz1, q⟩
  · intro _
    obtain ⟨ys, pins, H, hP, I, fi⟩ := hp
    refine hF ys pins H _ hP ?_ fi
    exact (inv_setGen (gs := .finished) (g := g) I rfl).kept (t' := s₁.toks) hk
end GX
set_option Elab.async false
set_option linter.all false
set_option maxRecDepth 100000
set_option maxHeartbeats 4000000
namespace GX
open PySem PySem.Spec PyProof.Rows L2 GenW
/-- a generator expression has been made -/
structure Made (X : Cx) (pins : List (Addr × Obj)) (σ : L2.St) (A0 : Around) (elt tg iter : Expr) (ifs : List Expr) (scope : Scope) (gpos : Pos) (own : List (Str × Nat)) (it a : Addr) (fp : List Addr) (tn : Nat → Heap → Prop) (J : It) (H4 : Hp) (s4 s5 : Shared) (code : Value) (g : Nat) (go : Obj) : Prop where
  outer : Inv X pins σ H4 s4
  inner : Inv (gcx X A0 s4 H4 scope code fp) [(a, go)] (wipe σ (own.map (·.2))) H4 s5
  turn : Turn X.prog X.w X.K tg J fp it tn
  tn0 : tn 0 s5.heap
  fpk : ∀ b ∈ fp, FpOk X pins H4 b ∧ b < s4.heap.objs.size
  alo : s4.heap.objs.size < a
  asz : s5.heap.objs.size = a + 1
  gen : ∀ h : Heap, h.get? a = some go → h.IsGen a g
  gs : s5.gens[g]? = some (.fresh (.compStart (.GeneratorExp elt [⟨tg, iter, ifs, 0⟩] scope gpos) 0 (.ref it) .none (gcx X A0 s4 H4 scope code fp).env))
  ga : s5.heap.get? a = some go
section
variable {X : Cx} {pins : List (Addr × Obj)} {σ : L2.St} {H : Hp} {s : Shared}
theorem gx_make {A0 : Around} {c P : Addr} {elt tg iter : Expr} {ifs : List Expr} {gpos : Pos} {scope : Scope} {own : List (Str × Nat)} {wi : TI} {k : Nat} {R : It → Hp → Prop} {Q' : Value → Shared → Prop}
    (hA0h : A0.handled = none) (hA0f : A0.frames = X.A.frames) (hr : Room k X.A) (TB : GxR.TabB X.base X.mg c P) (hcode : X.env.code = .ref c) (ok : GxOk X.N X.env.scope scope own) (hN : X.N.Nodup) (hi : PI X tg iter wi)
    (hs : ∀ v, genFold iter X.env v = pure v) (I : Inv X pins σ H s) (h : wi σ H fun J H1 => GxR.TabG H1 P ∧ ∀ H2, GxR.Tabbed P H1 H2 → R J H2)
    (hQ : ∀ it a fp tn J H4 s4 s5 code g go, Made X pins σ A0 elt tg iter ifs scope gpos own it a fp tn J H4 s4 s5 code g go → R J H4 → Q' (.ref a) s5) :
    wpAny (model X.prog X.w) X.A (eval (.GeneratorExp elt [⟨tg, iter, ifs, 0⟩] scope gpos) X.env) Q' X.xe s := by
  have hfree : ∀ y ∈ scope.names, y.2 = .free → ∃ c, X.env.cells.lookup y.1 = some c := fun y hy e => by
    rcases ok.blk.free y hy e with k | k
    · exact I.ok.has _ (.inl k)
    · exact I.ok.has _ (.inr k)
  refine wpAny_GeneratorExp_make ok.co (closure_ok hfree) ok.cell ok.dot ok.blk.kind (by have := hr.dp; omega) ?_ hs
  refine thn (hi.run pins s σ H _ I h) fun xv s1 hx => thn hx fun itv s2 h2 => ?_
  obtain ⟨it, fp, tn, J, H2, e, I2, T, st2, f2, ⟨ps, hP, ht⟩, q⟩ := h2
  subst e
  have hPs : s2.heap.get? P = some { cls := .none, data := .fields ps } := I2.hok P _ hP
  have cd : PySem.W.CodeHd s2.heap c P := TB.code.keeps fun b u e => I2.bk b u e
  have sz : ∀ b ∈ fp, b < s2.heap.objs.size := fun b hb => by
    obtain ⟨o, e, _⟩ := T.obj _ _ st2 b hb
    exact Heap.lt_size e
  have fnP : ∀ b ∈ fp, b ≠ P := fun b hb e => by
    have q := (f2 b hb).1
    rw [e, hP] at q
    cases q
  have cont : ∀ (code : Value) (h3 : Heap) (tk : Nat) (ps' : Array Value), Heap.ExtBut P s2.heap h3 → s2.heap.objs.size ≤ h3.objs.size → h3.get? P = some { cls := .none, data := .fields ps' } → (∃ more, ps' = ps ++ more) → TriplesOk ps'.toList →
      wpAny (model X.prog X.w) X.A (builtinsFor X.env.globals X.env.builtins) (fun bi s₄ =>
        ∀ h', h'.Ns s₄.heap.objs.size (fun y => if y = ".0" then some (Value.ref it) else none) → Heap.SameBut s₄.heap.objs.size (s₄.heap.push { cls := .type "frame", data := .dict #[] }) h' →
          Q' (.ref h'.objs.size) { s₄ with
            gens := s₄.gens.push (.fresh (.compStart (.GeneratorExp elt [⟨tg, iter, ifs, 0⟩] scope gpos) 0 (.ref it) .none (genEnv scope (cloFrom X.env.cells scope.names []) s₄.heap.objs.size code bi X.env))),
            toks := s₄.toks + 1 + 1 + 1,
            heap := h'.push { cls := .type "generator", data := .fields #[.int s₄.gens.size 0, .str "<genexpr>" (s₄.toks + 1), .str (X.env.qual ++ "<genexpr>") (s₄.toks + 1 + 1)] } }) X.xe { s2 with heap := h3, toks := tk } := by
    intro code h3 tk ps' hx hsz hP3 hmore ht3
    obtain ⟨more, em⟩ := hmore
    obtain ⟨bm, ob, e1, e2, e3, e4, e5, e6, e7, e8⟩ := TB.bm
    have keep3 : ∀ b u, b ≠ P → s2.heap.get? b = some u → h3.get? b = some u := fun b u hb e => hx b u hb e
    refine wpAny_builtinsFor (m := X.mg) (by rw [I2.ok.glob]; exact (I2.mod.glob.keeps I2.bk).extBut hx TB.gP) e1 e2 (keep3 _ _ e4 (I2.bk _ _ e5)) e6 e7 e8 ?_
    have I4 : Inv X pins σ (upd H2 P (.tbl (ps ++ more))) { s2 with heap := h3, toks := tk } :=
      GxR.inv_tab (more := more) (h' := h3) (g' := s2.gens) (d' := s2.drawn) (t' := tk) I2 hP (fun b u hb e => keep3 b u hb e) (by rw [← em]; exact hP3) I2.bare
    have hT4 : GxR.Tabbed P H2 (upd H2 P (.tbl (ps ++ more))) := ⟨⟨ps ++ more, upd_same, by rw [← em]; exact ht3⟩, fun b hb => upd_ne hb⟩
    have fk : ∀ b ∈ fp, FpOk X pins (upd H2 P (.tbl (ps ++ more))) b ∧ b < h3.objs.size := fun b hb => by
      refine ⟨⟨?_, (f2 b hb).2⟩, Nat.lt_of_lt_of_le (sz b hb) hsz⟩
      rw [upd_ne (fnP b hb)]
      exact (f2 b hb).1
    intro h' hn' hs'
    have hszh : h'.objs.size = h3.objs.size + 1 := by rw [hs'.1, Heap.size_push]
    have keep' : ∀ b o, h3.get? b = some o → h'.get? b = some o := fun b o e => hs'.extBut b o (Nat.ne_of_lt (Heap.lt_size e)) (Heap.get?_push_of_some _ e)
    have keep5 : ∀ b o, h3.get? b = some o → (h'.push { cls := .type "generator", data := .fields #[.int s2.gens.size 0, .str "<genexpr>" (tk + 1), .str (X.env.qual ++ "<genexpr>") (tk + 1 + 1)] }).get? b = some o := fun b o e => Heap.get?_push_of_some _ (keep' b o e)
    have hat : (h'.push { cls := .type "generator", data := .fields #[.int s2.gens.size 0, .str "<genexpr>" (tk + 1), .str (X.env.qual ++ "<genexpr>") (tk + 1 + 1)] }).get? h'.objs.size = some { cls := .type "generator", data := .fields #[.int s2.gens.size 0, .str "<genexpr>" (tk + 1), .str (X.env.qual ++ "<genexpr>") (tk + 1 + 1)] } := Heap.get?_push_size _ rfl
    have IY : Inv (gcx X A0 { s2 with heap := h3, toks := tk } (upd H2 P (.tbl (ps ++ more))) scope code fp) [] (wipe σ (own.map (·.2))) (upd H2 P (.tbl (ps ++ more)))
        { s2 with heap := h'.push { cls := .type "generator", data := .fields #[.int s2.gens.size 0, .str "<genexpr>" (tk + 1), .str (X.env.qual ++ "<genexpr>") (tk + 1 + 1)] }, gens := s2.gens.push (.fresh (.compStart (.GeneratorExp elt [⟨tg, iter, ifs, 0⟩] scope gpos) 0 (.ref it) .none (genEnv scope (cloFrom X.env.cells scope.names []) h3.objs.size code builtinsNs X.env))), toks := tk + 1 + 1 + 1 } :=
      gen_start (s := { s2 with heap := h3, toks := tk }) I4 ok hN fk hA0h (hA0f.trans I2.ok.frames) (hn'.push _) keep5 (I2.bare.push rfl)
    have ano : ∀ b, b < h3.objs.size → h'.objs.size ≠ b := fun b hb => by rw [hszh]; omega
    refine hQ it h'.objs.size fp tn J _ { s2 with heap := h3, toks := tk } _ code s2.gens.size _ ⟨I4, IY.pins_of fun p hp => ?_, T, ?_, fk, ?_, ?_, ?_, Array.getElem?_push_size .., hat⟩ (q _ hT4)
    · rw [List.mem_singleton.mp hp]
      refine ⟨hat, I4.hok.fresh (by show h3.objs.size ≤ h'.objs.size; omega), ?_, fun hb => ?_, fun v z => by cases z⟩
      · show h'.objs.size ≠ h3.objs.size
        omega
      · obtain ⟨_, o, ho, _⟩ := (I4.stack).mem hb
        exact ano _ (Heap.lt_size ho) rfl
    · exact T.keep _ _ _ st2 fun b hb o e => keep5 b o (keep3 b o (fnP b hb) e)
    · show h3.objs.size < h'.objs.size
      omega
    · show (h'.push _).objs.size = h'.objs.size + 1
      rw [Heap.size_push]
    · intro h hh
      exact ⟨_, _, _, hh, rfl, rfl, rfl⟩
  refine ⟨I2.nolimit, ?_⟩
  cases hf : codeAmong gpos ps.toList with
  | none =>
    refine wpAny_genexprCodeX hcode (cd.code hPs ht) (cd.tab hPs) hf fun c' h' tk hx hge hlt hco' _ htab' _ => ?_
    obtain ⟨o1, vs, f1, tf, fl, tg', inF, tx, tt, op, _, _, _, _, _, _, _, _, _, htr, _⟩ := hco'
    exact cont _ h' tk _ hx (Nat.le_trans hge (Nat.le_of_lt hlt)) htab'.2 ⟨_, rfl⟩ htr
  | some cv =>
    refine wpAny_genexprCode_hit hcode (cd.code hPs ht) hf ?_
    exact cont cv s2.heap s2.toks ps (Heap.ExtBut.refl _ _) (Nat.le_refl _) hPs ⟨#[], by simp⟩ ht
end
end GX
set_option Elab.async false
set_option linter.all false
set_option maxRecDepth 100000
set_option maxHeartbeats 4000000
namespace GX
open PySem PySem.Spec PyProof.Rows L2 GenW
theorem over_comp {A : Around} {elt : Expr} {gs : List Comprehension} {scope : Scope} {pos : Pos} {it acc : Value} {env : Env} : A.over (.compLoop (.GeneratorExp elt gs scope pos) 0 it acc env) [] = A.deeper env := by
  first
    | rfl
    | (obtain ⟨hd, d, fr, gs, u⟩ := A; simp [Around.over, Around.deeper, marksOver, frameCount, unitsOf, envsOf, guardsOf, pushEnvs, pushGuards, Code.envs, Code.env?, Code.isFrame, Code.guards, Code.isGuard, Code.weight, Code.frames, Code.isCreation, Code.isCaller, Code.cUnits])
section
variable {X : Cx} {pins : List (Addr × Obj)} {σ : L2.St} {A0 : Around} {elt tg iter : Expr} {ifs : List Expr} {scope : Scope} {gpos : Pos} {own : List (Str × Nat)} {it a : Addr} {fp : List Addr} {tn : Nat → Heap → Prop} {J : It} {H4 : Hp} {s4 s5 : Shared} {code : Value} {g : Nat} {go : Obj}
/-- behind it: the outer frame again -/
theorem Made.back (M : Made X pins σ A0 elt tg iter ifs scope gpos own it a fp tn J H4 s4 s5 code g go) {pl : List (Addr × Obj)} {σ' : L2.St} {H' : Hp} {s' : Shared} (I : Inv (gcx X A0 s4 H4 scope code fp) pl σ' H' s') : Inv X pins σ H' s' := by
  have os : s'.os = s4.os := I.os
  have un : Un (frs X.stack) fp H4 H' s4.heap s'.heap := I.base
  have hok : HOk X.prog X.w H' s'.heap := I.hok
  have bare := I.bare
  obtain ⟨h', g', d', t', o'⟩ := s'
  obtain rfl : o' = s4.os := os
  exact M.outer.call (h' := h') (g' := g') (d' := d') (t' := t') (ch := fp) un hok bare fun b hb => ⟨(M.fpk b hb).1.2.2.2.1, (M.fpk b hb).1.2.1, (M.fpk b hb).1.2.2.2.2.1, (M.fpk b hb).1.2.2.2.2.2⟩
theorem Made.stat (M : Made X pins σ A0 elt tg iter ifs scope gpos own it a fp tn J H4 s4 s5 code g go) : ∀ b ∈ fp, b ≠ (gcx X A0 s4 H4 scope code fp).env.locals ∧ b ∉ (gcx X A0 s4 H4 scope code fp).fs ∧ (b ∈ (gcx X A0 s4 H4 scope code fp).ex ∨ (gcx X A0 s4 H4 scope code fp).s_0.heap.objs.size ≤ b) ∧ ∀ x c, (gcx X A0 s4 H4 scope code fp).env.cells.lookup x = some c → c ≠ b := fun b hb =>
  ⟨(M.inner.ok.exf b hb).1, M.inner.ok.exfs b hb, .inl hb, fun x c e => (M.inner.ok.exf b hb).2 x c e⟩
/-- the consumer's objects: none, or one that is new -/
theorem Made.apart0 (M : Made X pins σ A0 elt tg iter ifs scope gpos own it a fp tn J H4 s4 s5 code g go) : Aprt (gcx X A0 s4 H4 scope code fp) [] fp a :=
  ⟨fun b hb => (by cases hb), fun b hb => (by cases hb), fun b hb => (by cases hb), fun b hb => (by cases hb), fun b hb => (by cases hb), fun hb => (by cases hb), fun hb =>
    absurd (Nat.lt_trans (M.fpk a hb).2 M.alo) (Nat.lt_irrefl _)⟩
theorem Made.apart1 (M : Made X pins σ A0 elt tg iter ifs scope gpos own it a fp tn J H4 s4 s5 code g go) {S : Addr} (hS : a < S) : Aprt (gcx X A0 s4 H4 scope code fp) [S] fp a := by
  have h1 := M.alo
  have big : ∀ b ∈ [S], s5.heap.objs.size ≤ b := fun b hb => by
    rw [List.mem_singleton.mp hb, M.asz]
    exact hS
  have sz5 : s4.heap.objs.size ≤ s5.heap.objs.size := by rw [M.asz]; omega
  refine ⟨fun b hb => Nat.le_trans sz5 (big b hb), fun b hb => ?_, fun b hb x c e z => ?_, fun b hb => M.inner.nofs (big b hb), fun b hb hb2 => ?_, fun hb => ?_, M.apart0.af⟩
  · exact Nat.ne_of_gt (Nat.lt_of_lt_of_le M.inner.lt (big b hb))
  · obtain ⟨v, q⟩ := M.inner.cell x c e
    have q1 := q.lt
    have q2 := big b hb
    rw [z] at q1
    exact absurd (Nat.lt_of_lt_of_le q1 q2) (Nat.lt_irrefl _)
  · exact absurd (Nat.lt_of_lt_of_le (M.fpk b hb2).2 (Nat.le_trans sz5 (big b hb))) (Nat.lt_irrefl _)
  · exact Nat.ne_of_lt hS (List.mem_singleton.mp hb)
/-- the fresh generator, for a consumer whose objects stand in a later state -/
theorem Made.live (M : Made X pins σ A0 elt tg iter ifs scope gpos own it a fp tn J H4 s4 s5 code g go) {C : Con} {g1 : TG} {tt : TT} {te : TE} {W : Nat → Nat → List V → Hp → Prop} {m : Nat} {s6 : Shared} {pins' : List (Addr × Obj)} (CO : C.Ok) (hB : Aprt (gcx X A0 s4 H4 scope code fp) C.B fp a)
    (co : scope.isCoroutine = false)
    (hg : PG (gcx X A0 s4 H4 scope code fp) tg g1) (ht : PTs (gcx X A0 s4 H4 scope code fp) ifs tt) (he : PE (gcx X A0 s4 H4 scope code fp) elt te) (turns : Turns J g1 tt te (own.map (·.2)) (wipe σ (own.map (·.2))) C W) (w0 : W 0 m [] H4)
    (hHB : ∀ b ∈ C.B, H4 b = none) (z : Slp C.B s5 s6) (hP : C.Pn [] pins') (hp : ∀ p ∈ pins', s6.heap.get? p.1 = some p.2) (hgens : s6.gens = s5.gens) (hl : s6.heap.NoLimit) :
    Live (gcx X A0 s4 H4 scope code fp) C A0 a go (wipe σ (own.map (·.2))) g (m + 1) s6 := by
  have ga6 : s6.heap.get? a = some go := z.keep a go hB.na M.ga
  have z' : Slp C.B s5 (s6.setGen g .running) := ⟨z.os, allBare_setGen z.bare rfl, z.keep⟩
  have I6 : Inv (gcx X A0 s4 H4 scope code fp) ((a, go) :: pins') (wipe σ (own.map (·.2))) H4 (s6.setGen g .running) := woken rfl hB M.inner hHB z' fun p hp' => ⟨(CO.pn _ _ hP p hp').1, hp p hp', (CO.pn _ _ hP p hp').2⟩
  refine ⟨M.gen _ ga6, hl, _, (by rw [hgens]; exact M.gs), ?_⟩
  refine ⟨rfl, ?_⟩
  exact seg_start over_comp rfl (fun _ _ z => z) rfl co CO hB M.stat M.turn hg ht he turns m 0 (m + 1) [] _ _ (Nat.lt_succ_self _)
    ⟨pins', H4, hP, I6, M.turn.keep _ _ _ M.tn0 fun b hb o e => z.keep b o (fun hm => hB.bf b hm hb) e, fun b hb => (M.fpk b hb).1.1, w0⟩
end
/-! ### all, any -/
def conAll (Q : VK) : Con := ⟨[], fun _ pins => pins = [], fun _ y H => ∃ c, y = .bl c ∧ (c = false → Q (.bl false) H), fun _ y => y = .bl true, fun _ H => Q (.bl true) H⟩
theorem ok_all (Q : VK) : (conAll Q).Ok := ⟨fun _ _ h p hp => (by rw [show _ = [] from h] at hp; cases hp), fun _ _ _ b hb => (by cases hb)⟩
theorem all_loop {Y : Cx} {A : Around} {a : Addr} {go : Obj} {σ0 : L2.St} {g : Nat} {Q : VK} {R : Result → Shared → Prop} (hh : A.handled = none) (hd : A.depth < recursionLimit) (hgo : ∀ h : Heap, h.get? a = some go → h.IsGen a g)
    (hR : ∀ b s' H, Inv Y [(a, go)] σ0 H s' → Q (.bl b) H → R (.ok (.ret (.bool b))) s') : ∀ (n : Nat) (s : Shared), Live Y (conAll Q) A.in1.in1 a go σ0 g n s → codeAny (model Y.prog Y.w) A (.builtin "all.loop" ⟨[.ref a], []⟩) R s := by
  intro n
  induction n with
  | zero =>
    intro s L
    refine codeAny_builtin F.entry_all_loop ?_
    rw [Around.under_plainId F.plain_all_loop _]
    show wpAny _ A.in1 (pyNext (.ref a) >>= _) _ _ s
    refine wpAny_bind (gx_next (A := A.in1) hh hd L hgo (fun ys x v pins H s₁ rv hP I kx kap => ?_) fun ys pins H s₁ hP I fi => ?_)
    · obtain ⟨c, rfl, hc⟩ := kx
      obtain rfl : v = .bool c := rv
      obtain rfl : pins = [] := hP
      refine wpAny_bind (wpAny_holding (wpAny_truthy_bool ?_))
      refine wpAny_bind (wpAny_letGo ?_)
      cases c with
      | true =>
        obtain ⟨k, hk, _⟩ := kap rfl s₁ ⟨rfl, I.bare, fun _ _ _ e => e⟩ ⟨[], rfl, fun p hp => (by cases hp)⟩ (I.pin (a, go) (List.mem_append_right _ List.mem_cons_self)).1 I.nolimit rfl
        cases hk
      | false =>
        simp only [Bool.false_eq_true, if_false]
        exact wpAny_bind (wpAny_rule (wpAny_pure (hR false s₁ H I (hc rfl))))
    · obtain rfl : pins = [] := hP
      exact wpAny_bind (wpAny_rule (wpAny_pure (hR true s₁ H I fi)))
  | succ n ih =>
    intro s L
    refine codeAny_builtin F.entry_all_loop ?_
    rw [Around.under_plainId F.plain_all_loop _]
    show wpAny _ A.in1 (pyNext (.ref a) >>= _) _ _ s
    refine wpAny_bind (gx_next (A := A.in1) hh hd L hgo (fun ys x v pins H s₁ rv hP I kx kap => ?_) fun ys pins H s₁ hP I fi => ?_)
    · obtain ⟨c, rfl, hc⟩ := kx
      obtain rfl : v = .bool c := rv
      obtain rfl : pins = [] := hP
      refine wpAny_bind (wpAny_holding (wpAny_truthy_bool ?_))
      refine wpAny_bind (wpAny_letGo ?_)
      cases c with
      | true =>
        obtain ⟨k, hk, L'⟩ := kap rfl s₁ ⟨rfl, I.bare, fun _ _ _ e => e⟩ ⟨[], rfl, fun p hp => (by cases hp)⟩ (I.pin (a, go) (List.mem_append_right _ List.mem_cons_self)).1 I.nolimit rfl
        cases hk
        simp only [if_true]
        exact wpAny_pure ⟨plainId_quiet F.plain_all_loop _, ih s₁ L'⟩
      | false =>
        simp only [Bool.false_eq_true, if_false]
        exact wpAny_bind (wpAny_rule (wpAny_pure (hR false s₁ H I (hc rfl))))
    · obtain rfl : pins = [] := hP
      exact wpAny_bind (wpAny_rule (wpAny_pure (hR true s₁ H I fi)))
/-- all(elt for tg in iter if ..) -/
def tAllG (P : Addr) (wi : TI) (g : TG) (tt : TT) (te : TE) (vs : List Nat) : TE := fun σ H Q => wi σ H fun J H1 => GxR.TabG H1 P ∧ ∀ H2, GxR.Tabbed P H1 H2 → ∃ W : Nat → Nat → List V → Hp → Prop, (∃ m, W 0 m [] H2) ∧ Turns J g tt te vs (wipe σ vs) (conAll Q) W
section
variable {X : Cx} {c P : Addr} {elt tg iter : Expr} {ifs : List Expr} {p pos gpos : Pos} {scope : Scope} {own : List (Str × Nat)} {wi : TI} {g : TG} {tt : TT} {te : TE} {k : Nat}
theorem pe_allG (hr : Room k X.A) (hgl : Gl X "all") (hm : X.mg "all" = none) (TB : GxR.TabB X.base X.mg c P) (hcode : X.env.code = .ref c) (ok : GxOk X.N X.env.scope scope own) (hN : X.N.Nodup) (hi : PI X tg iter wi)
    (hg : ∀ (s : Shared) (H : Hp) (code : Value) (fp : List Addr), PG (gcx X X.A.in1.in1 s H scope code fp) tg g) (ht : ∀ (s : Shared) (H : Hp) (code : Value) (fp : List Addr), PTs (gcx X X.A.in1.in1 s H scope code fp) ifs tt)
    (hel : ∀ (s : Shared) (H : Hp) (code : Value) (fp : List Addr), PE (gcx X X.A.in1.in1 s H scope code fp) elt te) (hs : ∀ v, genFold iter X.env v = pure v := by intro _; rfl)
    (he : starEach [.GeneratorExp elt [⟨tg, iter, ifs, 0⟩] scope gpos] X.env = (false, eval (.GeneratorExp elt [⟨tg, iter, ifs, 0⟩] scope gpos) X.env) :: starEach [] X.env := by rfl) :
    PE X (.Call (.Name "all" p) [.GeneratorExp elt [⟨tg, iter, ifs, 0⟩] scope gpos] [] pos) (tAllG P wi g tt te (own.map (·.2))) := by
  refine ⟨fun pins s σ H Q I h => ?_⟩
  refine wpAny_Call_Name_kw (ld_blt I hgl hm (show bootBuiltins "all" = some (.builtin "all") by decide +kernel) ?_)
  refine PyProof.Rows.callWith_builtin1 ?_ he (by rfl)
  rw [he]
  show wpAny _ _ (spliced ((false, eval (.GeneratorExp elt [⟨tg, iter, ifs, 0⟩] scope gpos) X.env) :: backTo pos (starEach [] X.env))) _ _ s
  refine Calls.spliced_cons (gx_make (A0 := X.A.in1.in1) (own := own) (R := fun J H2 => ∃ W : Nat → Nat → List V → Hp → Prop, (∃ m, W 0 m [] H2) ∧ Turns J g tt te (own.map (fun q : Str × Nat => q.2)) (wipe σ (own.map (fun q : Str × Nat => q.2))) (conAll Q) W) hr.hd rfl hr TB hcode ok hN hi hs I h fun it a fp tn J H4 s4 s5 code gn go M q => ?_)
  obtain ⟨W, ⟨m, w0⟩, turns⟩ := q
  refine Calls.spliced_nil ?_
  have L : Live (gcx X X.A.in1.in1 s4 H4 scope code fp) (conAll Q) X.A.in1.in1 a go (wipe σ (own.map (·.2))) gn (m + 1) s5 :=
    M.live (s6 := s5) (pins' := []) (ok_all Q) M.apart0 ok.co (hg s4 H4 code fp) (ht s4 H4 code fp) (hel s4 H4 code fp) turns w0 (fun b hb => (by cases hb)) ⟨rfl, M.inner.bare, fun _ _ _ e => e⟩ rfl (fun p hp => (by cases hp)) rfl M.inner.nolimit
  refine call_function_tree F.kind_all F.plain_all F.entry_all (F.args_all1 _) ?_
  unfold Builtin.«all»
  refine wpAny_bind (m := oneArg "all" _) (wpAny_pure ?_)
  refine wpAny_bind (wpAny_pyIter_gen (M.gen _ M.ga) ?_)
  refine wpAny_pure ⟨plainId_quiet F.plain_all_loop _, all_loop (Y := gcx X X.A.in1.in1 s4 H4 scope code fp) hr.hd hr.depth M.gen (fun b s' H' I' q' => ?_) (m + 1) s5 L⟩
  exact ⟨.bl b, H', M.back I', rfl, q'⟩
end
end GX
set_option Elab.async false
set_option linter.all false
set_option maxRecDepth 100000
set_option maxHeartbeats 4000000
namespace GX
open PySem PySem.Spec PyProof.Rows L2 GenW
/-! ### tuple -/
def conTup0 (Q : VK) : Con := ⟨[], fun _ pins => pins = [], fun ys _ _ => ys.length < sizeLine, fun _ _ => True, fun ys H => ys.length ≤ sizeLine ∧ ∀ p, H p = none → Q (.ref p) (upd H p (.tup ys))⟩
def conTup (Q : VK) (S : Addr) : Con := ⟨[S], fun ys pins => ∃ acc c, Vals ys acc.toList ∧ pins = [(S, lstObj acc c)], fun ys _ _ => ys.length < sizeLine, fun _ _ => True, fun ys H => ys.length ≤ sizeLine ∧ ∀ p, H p = none → Q (.ref p) (upd H p (.tup ys))⟩
theorem ok_tup (Q : VK) (S : Addr) : (conTup Q S).Ok := by
  refine ⟨fun ys pins ⟨acc, c, _, e⟩ p hp => ?_, fun ys pins ⟨acc, c, _, e⟩ b hb => ?_⟩
  · subst e
    rw [List.mem_singleton.mp hp]
    exact ⟨List.mem_singleton.mpr rfl, fun v z => by cases z⟩
  · subst e
    rw [List.mem_singleton.mp hb]
    exact ⟨_, List.mem_singleton.mpr rfl⟩
theorem tup_loop {Y : Cx} {A : Around} {a S : Addr} {go : Obj} {σ0 : L2.St} {g : Nat} {Q : VK} {R : Result → Shared → Prop} {res : Value} (hh : A.handled = none) (hd : A.depth < recursionLimit) (hgo : ∀ h : Heap, h.get? a = some go → h.IsGen a g) (hSa : S ≠ a) (hSc : S ≠ cStatics)
    (hR : ∀ ys acc c s' H, Vals ys acc.toList → Inv Y [(a, go), (S, lstObj acc c)] σ0 H s' → ys.length ≤ sizeLine → (∀ p, H p = none → Q (.ref p) (upd H p (.tup ys))) → R (.ok (.ret res)) s') :
    ∀ (n : Nat) (s : Shared), Live Y (conTup Q S) A.in1.in1 a go σ0 g n s → codeAny (model Y.prog Y.w) A (.builtin "list.extend.loop" ⟨[.ref S, .ref a, res], []⟩) R s := by
  intro n
  induction n with
  | zero =>
    intro s L
    refine codeAny_builtin F.entry_extend_loop ?_
    rw [Around.under_plainId F.plain_extend_loop _]
    show wpAny _ A.in1 (pyNext (.ref a) >>= _) _ _ s
    refine wpAny_bind (gx_next (A := A.in1) hh hd L hgo (fun ys x v pins H s₁ rv hP I kx kap => ?_) fun ys pins H s₁ hP I fi => ?_)
    · obtain ⟨acc, c, hv, rfl⟩ := hP
      have hS1 : s₁.heap.get? S = some (lstObj acc c) := (I.pin (S, lstObj acc c) (List.mem_append_right _ (List.mem_cons_of_mem _ List.mem_cons_self))).1
      have ga : s₁.heap.get? a = some go := (I.pin (a, go) (List.mem_append_right _ List.mem_cons_self)).1
      have keep3 : ∀ b o, b ≠ S → s₁.heap.get? b = some o → (s₁.heap.update S (Obj.mapSeq (·.push v))).get? b = some o := fun b o hbS e => (Heap.get?_update_other _ _ (Ne.symm hbS)).trans e
      obtain ⟨k, hk, _⟩ := kap trivial { s₁ with heap := s₁.heap.update S (Obj.mapSeq (·.push v)) } ⟨rfl, I.bare, fun b o hb e => keep3 b o (fun z => hb (by rw [z]; exact List.mem_singleton.mpr rfl)) e⟩
        ⟨_, ⟨acc.push v, _, by rw [Array.toList_push]; exact hv.append (.cons rv .nil), rfl⟩, fun p hp => by rw [List.mem_singleton.mp hp]; exact Heap.get?_update_self _ hS1 rfl⟩ (keep3 a go (Ne.symm hSa) ga)
        (let ⟨mc, hns, hnn⟩ := I.nolimit; ⟨mc, hns.at' fun o e => keep3 _ o (Ne.symm hSc) e, hnn⟩) rfl
      cases hk
    · obtain ⟨acc, c, hv, rfl⟩ := hP
      exact wpAny_pure (hR ys acc c s₁ H hv I fi.1 fi.2)
  | succ n ih =>
    intro s L
    refine codeAny_builtin F.entry_extend_loop ?_
    rw [Around.under_plainId F.plain_extend_loop _]
    show wpAny _ A.in1 (pyNext (.ref a) >>= _) _ _ s
    refine wpAny_bind (gx_next (A := A.in1) hh hd L hgo (fun ys x v pins H s₁ rv hP I kx kap => ?_) fun ys pins H s₁ hP I fi => ?_)
    · obtain ⟨acc, c, hv, rfl⟩ := hP
      have hS1 : s₁.heap.get? S = some (lstObj acc c) := (I.pin (S, lstObj acc c) (List.mem_append_right _ (List.mem_cons_of_mem _ List.mem_cons_self))).1
      have ga : s₁.heap.get? a = some go := (I.pin (a, go) (List.mem_append_right _ List.mem_cons_self)).1
      have keep3 : ∀ b o, b ≠ S → s₁.heap.get? b = some o → (s₁.heap.update S (Obj.mapSeq (·.push v))).get? b = some o := fun b o hbS e => (Heap.get?_update_other _ _ (Ne.symm hbS)).trans e
      have hl : acc.size < sizeLine := by
        have q1 : ys.length = acc.toList.length := hv.length
        have q2 : ys.length < sizeLine := kx
        have q3 : acc.toList.length = acc.size := Array.length_toList ..
        exact Nat.lt_of_le_of_lt (Nat.le_of_eq (q3.symm.trans q1.symm)) q2
      obtain ⟨k, hk, L'⟩ := kap trivial { s₁ with heap := s₁.heap.update S (Obj.mapSeq (·.push v)) } ⟨rfl, I.bare, fun b o hb e => keep3 b o (fun z => hb (by rw [z]; exact List.mem_singleton.mpr rfl)) e⟩
        ⟨_, ⟨acc.push v, _, by rw [Array.toList_push]; exact hv.append (.cons rv .nil), rfl⟩, fun p hp => by rw [List.mem_singleton.mp hp]; exact Heap.get?_update_self _ hS1 rfl⟩ (keep3 a go (Ne.symm hSa) ga)
        (let ⟨mc, hns, hnn⟩ := I.nolimit; ⟨mc, hns.at' fun o e => keep3 _ o (Ne.symm hSc) e, hnn⟩) rfl
      cases hk
      show wpAny _ A.in1 (updateSeq S (·.push v) >>= _) _ _ _
      refine wpAny_bind ?_
      exact wpAny_updateSeq hS1 rfl (wpAny_pure ⟨plainId_quiet F.plain_extend_loop _, ih _ L'⟩) (Nat.le_of_lt hl) (by show (acc.push v).size ≤ sizeLine + 1; rw [Array.size_push]; omega)
    · obtain ⟨acc, c, hv, rfl⟩ := hP
      exact wpAny_pure (hR ys acc c s₁ H hv I fi.1 fi.2)
section
variable {X : Cx} {pins : List (Addr × Obj)} {σ : L2.St} {A : Around} {elt tg iter : Expr} {ifs : List Expr} {scope : Scope} {gpos : Pos} {own : List (Str × Nat)} {it a : Addr} {fp : List Addr} {tn : Nat → Heap → Prop} {J : It} {H4 : Hp} {s4 s5 : Shared} {code : Value} {g : Nat} {go : Obj}
theorem collect_gx {g1 : TG} {tt : TT} {te : TE} {W : Nat → Nat → List V → Hp → Prop} {m : Nat} {Q : VK} {Q' : List Value → Shared → Prop} {E : Value → Shared → Prop} (hh : A.handled = none) (hd : A.depth < recursionLimit)
    (M : Made X pins σ A.in1.in1 elt tg iter ifs scope gpos own it a fp tn J H4 s4 s5 code g go) (co : scope.isCoroutine = false)
    (hg : PG (gcx X A.in1.in1 s4 H4 scope code fp) tg g1) (ht : PTs (gcx X A.in1.in1 s4 H4 scope code fp) ifs tt) (he : PE (gcx X A.in1.in1 s4 H4 scope code fp) elt te) (turns : Turns J g1 tt te (own.map (·.2)) (wipe σ (own.map (·.2))) (conTup0 Q) W) (w0 : W 0 m [] H4)
    (hQ : ∀ (ys : List V) (acc : Array Value) (s' : Shared) (H' : Hp), Vals ys acc.toList → Inv X pins σ H' s' → ys.length ≤ sizeLine → (∀ p, H' p = none → Q (.ref p) (upd H' p (.tup ys))) → Q' acc.toList s') :
    wpAny (model X.prog X.w) A (collect (.ref a)) Q' E s5 := by
  have hSa : s5.heap.objs.size ≠ a := by rw [M.asz]; exact Nat.succ_ne_self _
  have haS : a < s5.heap.objs.size := by rw [M.asz]; exact Nat.lt_succ_self _
  have hl5 : s5.heap.NoLimit := M.inner.nolimit
  have hcl : cStatics < s5.heap.objs.size := let ⟨_, hn, _⟩ := hl5; hn.lt
  unfold collect
  refine wpAny_bind (wpAny_runValue (codeAny_builtin F.entry_proto_collect ?_))
  rw [Around.under_plainId F.plain_proto_collect _]
  show wpAny _ A.in1 (newList [] >>= fun l => again (.builtin "list.__iadd__" ⟨[l, .ref a], []⟩)) _ _ s5
  refine wpAny_bind (wpAny_newObj_type ?_)
  refine wpAny_pure ⟨plainId_quiet F.plain_list_iadd _, codeAny_builtin F.entry_list_iadd ?_⟩
  rw [Around.under_plainId F.plain_list_iadd _]
  have k1 : ∀ b o, s5.heap.get? b = some o → (s5.heap.push { cls := .type "list", data := .seq ([] : List Value).toArray }).get? b = some o := fun b o e => Heap.get?_push_of_some _ e
  have gen1 := M.gen _ (k1 _ _ M.ga)
  show wpAny _ A.in1 (Builtin.List.listExtendWith (.ref s5.heap.objs.size) (.ref a) (.ref s5.heap.objs.size)) _ _ _
  unfold Builtin.List.listExtendWith
  refine wpAny_bind (wpAny_typeOf (Heap.IsGen.typeIs (s := { s5 with heap := _ }) gen1) ?_)
  have h1 : Builtin.List.listSameRef (.ref s5.heap.objs.size) (.ref a) = false := by simp [Builtin.List.listSameRef, hSa]
  have h2 : (Value.type "generator" == Value.type "list") = false := by decide
  have h3 : (Value.type "generator" == Value.type "tuple") = false := by decide
  simp only [h1, h2, h3, Bool.or_false, Bool.false_eq_true, if_false]
  refine wpAny_bind (wpAny_pyIter_gen (s := { s5 with heap := _ }) gen1 ?_)
  refine wpAny_bind (wpAny_holding ?_)
  unfold Builtin.List.listLengthHint
  refine wpAny_bind (wpAny_specialOf (Heap.IsGen.typeIs (s := { s5 with heap := _ }) gen1) F.gen_no_len ?_)
  show wpAny _ A.in1 (specialOf (Value.ref a) (Str.ofString "__length_hint__") >>= _) _ _ _
  refine wpAny_bind (wpAny_specialOf (Heap.IsGen.typeIs (s := { s5 with heap := _ }) gen1) F.gen_no_hint ?_)
  refine wpAny_pure ?_
  show wpAny _ A.in1 (rule "list.extend.makes-room" >>= fun _ => Builtin.List.listTouch (.ref s5.heap.objs.size) >>= fun _ =>
    again (.builtin "list.extend.loop" ⟨[.ref s5.heap.objs.size, .ref a, .ref s5.heap.objs.size], []⟩)) _ _ _
  refine wpAny_bind (wpAny_rule ?_)
  have hS1 : (s5.heap.push { cls := .type "list", data := .seq ([] : List Value).toArray }).get? s5.heap.objs.size = some { cls := .type "list", data := .seq ([] : List Value).toArray } := Heap.get?_push_size _ rfl
  refine wpAny_bind ?_
  show wpAny _ A.in1 (updateSeq s5.heap.objs.size (·.push .none) >>= fun _ => updateSeq s5.heap.objs.size (·.pop)) _ _ _
  refine wpAny_bind (wpAny_updateSeq hS1 rfl ?_)
  have hS2 := Heap.get?_update_self (Obj.mapSeq (·.push Value.none)) hS1 rfl
  refine wpAny_updateSeq hS2 rfl ?_
  have hS3 := Heap.get?_update_self (Obj.mapSeq (·.pop)) hS2 rfl
  have oth : ∀ b o, b ≠ s5.heap.objs.size → s5.heap.get? b = some o →
      (((s5.heap.push { cls := .type "list", data := .seq ([] : List Value).toArray }).update s5.heap.objs.size (Obj.mapSeq (·.push Value.none))).update s5.heap.objs.size (Obj.mapSeq (·.pop))).get? b = some o :=
    fun b o hb e => (Heap.get?_update_other _ _ (Ne.symm hb)).trans ((Heap.get?_update_other _ _ (Ne.symm hb)).trans (k1 b o e))
  have z : Slp (conTup Q s5.heap.objs.size).B s5 { s5 with heap := ((s5.heap.push { cls := .type "list", data := .seq ([] : List Value).toArray }).update s5.heap.objs.size (Obj.mapSeq (·.push Value.none))).update s5.heap.objs.size (Obj.mapSeq (·.pop)) } :=
    ⟨rfl, M.inner.bare, fun b o hb e => oth b o (fun q => hb (by rw [q]; exact List.mem_singleton.mpr rfl)) e⟩
  have L := M.live (C := conTup Q s5.heap.objs.size) (ok_tup Q _) (M.apart1 haS) co hg ht he turns w0 (fun b hb => by rw [List.mem_singleton.mp hb]; exact M.inner.hok.fresh (Nat.le_refl _)) z
    (pins' := [(s5.heap.objs.size, lstObj #[] _)]) ⟨#[], _, .nil, rfl⟩ (fun p hp => by rw [List.mem_singleton.mp hp]; exact hS3) rfl
    (let ⟨mc, hns, hnn⟩ := hl5; ⟨mc, hns.at' fun o e => oth _ o (Nat.ne_of_lt hcl) e, hnn⟩)
  refine wpAny_pure ⟨plainId_quiet F.plain_extend_loop _, tup_loop (Y := gcx X A.in1.in1 s4 H4 scope code fp) hh hd M.gen hSa (Nat.ne_of_gt hcl) (fun ys acc c s' H' hv I' hle q => ?_) (m + 1) _ L⟩
  have hS' : s'.heap.get? s5.heap.objs.size = some (lstObj acc c) := (I'.pin (s5.heap.objs.size, lstObj acc c) (List.mem_append_right _ (List.mem_cons_of_mem _ List.mem_cons_self))).1
  show wpAny _ A (load s5.heap.objs.size >>= _) _ _ s'
  refine wpAny_bind (wpAny_load hS' ?_)
  exact wpAny_pure (hQ ys acc s' H' hv (M.back I') hle q)
theorem call_tuple_gx {g1 : TG} {tt : TT} {te : TE} {W : Nat → Nat → List V → Hp → Prop} {m : Nat} {Q : VK} {E : Value → Shared → Prop} (hh : A.handled = none) (hd : A.depth < recursionLimit)
    (M : Made X pins σ A.in4 elt tg iter ifs scope gpos own it a fp tn J H4 s4 s5 code g go) (co : scope.isCoroutine = false)
    (hg : PG (gcx X A.in4 s4 H4 scope code fp) tg g1) (ht : PTs (gcx X A.in4 s4 H4 scope code fp) ifs tt) (he : PE (gcx X A.in4 s4 H4 scope code fp) elt te) (turns : Turns J g1 tt te (own.map (·.2)) (wipe σ (own.map (·.2))) (conTup0 Q) W) (w0 : W 0 m [] H4) :
    wpAny (model X.prog X.w) A (call (.type "tuple") [.ref a]) (EP X pins σ Q) E s5 := by
  have new : codeAny (model X.prog X.w) A.in1 (.call (.builtin "tuple.__new__") ⟨[.type "tuple", .ref a], []⟩) (wants (fun obj s₁ => s₁.TypeIs obj "tuple" ∧ EP X pins σ Q obj s₁) E) s5 := by
    refine codeAny_of_tree ?_
    show wpAny _ A.in1.in1 (do checkBuiltinCall "tuple.__new__" ⟨[.type "tuple", .ref a], []⟩; again (.builtin "tuple.__new__" ⟨[.type "tuple", .ref a], []⟩)) _ _ s5
    refine wpAny_bind (wpAny_of_eq (F.newCall_tuple_1 _) (wpAny_pure ⟨plainId_quiet F.plain_tuple_new _, codeAny_builtin F.entry_tuple_new ?_⟩))
    rw [Around.under_plainId F.plain_tuple_new _]
    have hsub := sub_tuple_self
    have hinit := init_tuple_lookup
    have hmh := madeHere_tuple
    have hTI : s5.TypeIs (.ref a) "generator" := Heap.IsGen.typeIs (M.gen _ M.ga)
    wp_walk using wpAny_typeOf hTI, collect_gx (A := A.in1.in1) hh hd M co hg ht he turns w0
    intro ys acc s' H' hv I' hle q
    show wpAny _ _ (Builtin.Tuple.tupleExact acc.toList.toArray >>= fun v => ret v) _ _ _
    unfold Builtin.Tuple.tupleExact
    have hlen := hv.length
    refine wpAny_bind (wpAny_newObj_type ?_ (by show acc.toList.toArray.size ≤ sizeLine; rw [List.size_toArray]; omega))
    refine wpAny_pure ?_
    have hf : H' s'.heap.objs.size = none := I'.hok.fresh (Nat.le_refl _)
    refine ⟨⟨_, Heap.get?_push_size _ rfl, rfl⟩, .ref s'.heap.objs.size, upd H' s'.heap.objs.size (.tup ys), I'.laid (t' := s'.toks) (fun b u e => Heap.get?_push_of_some _ e) (Nat.le_refl _) ?_, rfl, q _ hf⟩
    exact ⟨hle, acc.toList, hv, ⟨_, Heap.get?_push_size _ rfl, rfl, _, rfl⟩⟩
  refine callType_codes (Q₁ := fun obj s₁ => s₁.TypeIs obj "tuple" ∧ EP X pins σ Q obj s₁) F.called_tuple (F.typeCall_tuple_1 _) F.entry_object_init new fun obj s₁ h₁ => ?_
  exact ⟨h₁.1, F.args_object_init_2 obj _, object_init_meets F.called_tuple.init.lookup F.called_tuple.made (by decide) X.prog X.w A.in1 _ s₁ ⟨h₁.1, rfl, h₁.2⟩⟩
end
/-- tuple(elt for tg in iter if ..) -/
def tTupG (P : Addr) (wi : TI) (g : TG) (tt : TT) (te : TE) (vs : List Nat) : TE := fun σ H Q => wi σ H fun J H1 => GxR.TabG H1 P ∧ ∀ H2, GxR.Tabbed P H1 H2 → ∃ W : Nat → Nat → List V → Hp → Prop, (∃ m, W 0 m [] H2) ∧ Turns J g tt te vs (wipe σ vs) (conTup0 Q) W
section
variable {X : Cx} {c P : Addr} {elt tg iter : Expr} {ifs : List Expr} {p pos gpos : Pos} {scope : Scope} {own : List (Str × Nat)} {wi : TI} {g : TG} {tt : TT} {te : TE} {k : Nat}
theorem pe_tupG (hr : Room k X.A) (hgl : Gl X "tuple") (hm : X.mg "tuple" = none) (TB : GxR.TabB X.base X.mg c P) (hcode : X.env.code = .ref c) (ok : GxOk X.N X.env.scope scope own) (hN : X.N.Nodup) (hi : PI X tg iter wi)
    (hg : ∀ (s : Shared) (H : Hp) (code : Value) (fp : List Addr), PG (gcx X X.A.in4 s H scope code fp) tg g) (ht : ∀ (s : Shared) (H : Hp) (code : Value) (fp : List Addr), PTs (gcx X X.A.in4 s H scope code fp) ifs tt)
    (hel : ∀ (s : Shared) (H : Hp) (code : Value) (fp : List Addr), PE (gcx X X.A.in4 s H scope code fp) elt te) (hs : ∀ v, genFold iter X.env v = pure v := by intro _; rfl)
    (he : starEach [.GeneratorExp elt [⟨tg, iter, ifs, 0⟩] scope gpos] X.env = (false, eval (.GeneratorExp elt [⟨tg, iter, ifs, 0⟩] scope gpos) X.env) :: starEach [] X.env := by rfl) :
    PE X (.Call (.Name "tuple" p) [.GeneratorExp elt [⟨tg, iter, ifs, 0⟩] scope gpos] [] pos) (tTupG P wi g tt te (own.map (·.2))) := by
  refine ⟨fun pins s σ H Q I h => ?_⟩
  refine wpAny_Call_Name_kw (ld_blt I hgl hm (show bootBuiltins "tuple" = some (.type "tuple") by decide +kernel) ?_)
  refine PyProof.Rows.callWith_type1 ?_ he (by rfl)
  rw [he]
  show wpAny _ _ (spliced ((false, eval (.GeneratorExp elt [⟨tg, iter, ifs, 0⟩] scope gpos) X.env) :: backTo pos (starEach [] X.env))) _ _ s
  refine Calls.spliced_cons (gx_make (A0 := X.A.in4) (own := own) (R := fun J H2 => ∃ W : Nat → Nat → List V → Hp → Prop, (∃ m, W 0 m [] H2) ∧ Turns J g tt te (own.map (fun q : Str × Nat => q.2)) (wipe σ (own.map (fun q : Str × Nat => q.2))) (conTup0 Q) W) hr.hd rfl hr TB hcode ok hN hi hs I h fun it a fp tn J H4 s4 s5 code gn go M q => ?_)
  obtain ⟨W, ⟨m, w0⟩, turns⟩ := q
  refine Calls.spliced_nil ?_
  exact call_tuple_gx hr.hd hr.depth M ok.co (hg s4 H4 code fp) (ht s4 H4 code fp) (hel s4 H4 code fp) turns w0
end
/-! ### room, scopes, turns -/
theorem Room.gx2 {k : Nat} {X : Cx} (r : Room (k + 1) X.A) {s : Shared} {H : Hp} {scope : Scope} {code : Value} {fp : List Addr} : Room k (gcx X X.A.in1.in1 s H scope code fp).A :=
  ⟨r.hd, by have := r.dp; show X.A.depth + 1 + 3 * k + 5 < _; omega, by have := r.un; show X.A.units + 1 + 1 + 3 + 16 * k + 200 < _; omega⟩
theorem Room.gx4 {k : Nat} {X : Cx} (r : Room (k + 1) X.A) {s : Shared} {H : Hp} {scope : Scope} {code : Value} {fp : List Addr} : Room k (gcx X X.A.in4 s H scope code fp).A :=
  ⟨r.hd, by have := r.dp; show X.A.depth + 1 + 3 * k + 5 < _; omega, by have := r.un; show X.A.units + 1 + 1 + 1 + 1 + 3 + 16 * k + 200 < _; omega⟩
def gxC (N : List Str) (sc scope : Scope) (own : List (Str × Nat)) : Bool :=
  blkC N sc scope own && !scope.isCoroutine && scope.names.all (fun y => match y.2 with | .cell => false | _ => true) && (match scope.names.lookup (".0" : Str) with | some .local => true | _ => false)
theorem gxOk_by {N : List Str} {sc scope : Scope} {own : List (Str × Nat)} (h : gxC N sc scope own = true) : GxOk N sc scope own := by
  unfold gxC at h
  simp only [Bool.and_eq_true] at h
  obtain ⟨⟨⟨h1, h2⟩, h3⟩, h4⟩ := h
  refine ⟨blkOk_by h1, by simpa using h2, fun y hy e => ?_, ?_⟩
  · have q := List.all_eq_true.mp h3 y hy
    rw [e] at q
    cases q
  · split at h4
    · assumption
    · cases h4
/-- the turns over a walk of n: Pv by the turn, what is out, the heap -/
theorem turns_it {J : It} {n : Nat} {G : Hp → Prop} {Yd : Nat → Hp → V → Hp → Prop} (w : Walk J n G Yd) {g : TG} {tt : TT} {te : TE} {vs : List Nat} {σ0 : L2.St} {C : Con} {H : Hp} (Pv : Nat → List V → Hp → Prop) (h0 : Pv 0 [] H) (hG : ∀ i ys H, i ≤ n → Pv i ys H → G H)
    (hs : ∀ i x ys H H', i < n → Pv i ys H → Yd i H x H' → g x σ0 H' fun σ2 H2 => wipe σ2 vs = σ0 ∧ tt σ2 H2 fun b H3 =>
      if b = true then te σ2 H3 fun y H4 => C.Kx ys y H4 ∧ (C.Cn ys y → Pv (i + 1) (ys ++ [y]) H4) else Pv (i + 1) ys H3) (hd : ∀ ys H, Pv n ys H → C.Fi ys H) :
    ∃ W : Nat → Nat → List V → Hp → Prop, (∃ m, W 0 m [] H) ∧ Turns J g tt te vs σ0 C W := by
  refine ⟨fun i m ys H => m = n - i ∧ i ≤ n ∧ Pv i ys H, ⟨n, by simp, Nat.zero_le _, h0⟩, ?_⟩
  rintro i m ys H ⟨rfl, hi, p⟩
  have q := hG i ys H hi p
  by_cases hlt : i < n
  · exact .inr ⟨w.goes i H hlt q, Pv (i + 1), fun ys' H' p' => ⟨n - (i + 1), by omega, rfl, hlt, p'⟩, fun x H' y => hs i x ys H H' hlt p (w.yields i H x H' hlt q y)⟩
  · have e : i = n := by omega
    subst e
    exact .inl ⟨w.stops H q, hd ys H p⟩
end GX
set_option Elab.async false
set_option linter.all false
set_option maxRecDepth 100000
set_option maxHeartbeats 4000000
namespace GX
open PySem PySem.Spec PyProof.Rows L2
open C8 (Cal pe_c)
/-! ### a def of the text with its code object -/
structure Dfn (K : PySem.W.Frag) (mg : Str → Option Value) (x : Str) (st : Stmt) (f c : Addr) : Prop where
  ex : ∃ (oc : Value) (od : Option Addr) (kV doc pm : Value) (an : Option Addr) (ct : Value) (osl : Array (Option Value)),
    K.lookup f = some ⟨oc, od, .func (PySem.W.fnOf x x (defArgs st) (defBody st) (defScope st) .none kV doc pm an (.ref c) ct), osl⟩
  hcd : PySem.W.codeIn K (.ref c) x = true
  kp : PySem.W.keepIn K (.ref f) = true
  mgf : mg x = some (.ref f)
section
variable {P : Program} {w : World} {K : PySem.W.Frag} {mg : Str → Option Value} {base : Heap}
theorem cal {x : Str} {st : Stmt} {f c : Addr} {N ps : List Str} {k : Nat} {sp : Sp} (D : Dfn K mg x st f c)
    (hb : ∀ (kV doc pm : Value) (an : Option Addr) (cdv ct : Value) (us : List Value), us.length = ps.length → bindArgs (PySem.W.fnOf x x (defArgs st) (defBody st) (defScope st) .none kV doc pm an cdv ct) ⟨us, []⟩ = pure (ps.zip us))
    (S : FnScope N ps (defScope st)) (len : ∀ vs H Q E, sp vs H Q E → vs.length = ps.length)
    (hbody : ∀ (A : Around) (outer : List Env) (s : Shared) (H : Hp) (vs : List V) (Q : VK) (E : XK), Room k (A.deeper (envOfC x (defScope st) s.heap.objs.size f (.ref c))) → sp vs H Q E →
      ∃ t, PSs (cxOf CX0 P w K mg base N x (defScope st) f (.ref c) A outer s H E).nox (defBody st) t ∧ t { nx := fun _ H' => Q .non H', rt := Q } (start N vs) H) : Cal P w K mg base (k + 1) x sp [] := by
  obtain ⟨oc, od, kV, doc, pm, an, ct, osl, lk⟩ := D.ex
  refine ⟨f, _, ps, [], fn_of lk D.hcd S len (fun A outer s H vs Q E hr hsp => ?_), D.mgf, D.kp, .all (hb kV doc pm an (.ref c) ct), .nil⟩
  obtain ⟨t, h, q⟩ := hbody A outer s H vs Q E hr hsp
  exact ⟨t, h.nox, q⟩
end
section
variable {P : Program} {w : World} {K : PySem.W.Frag} {mg : Str → Option Value} {base : Heap}
/-- .. for the law itself -/
theorem fnok {x : Str} {st : Stmt} {f c : Addr} {N ps : List Str} {k : Nat} {sp : Sp} {oc kV doc pm ct : Value} {od an : Option Addr} {osl : Array (Option Value)}
    (lk : K.lookup f = some ⟨oc, od, .func (PySem.W.fnOf x x (defArgs st) (defBody st) (defScope st) .none kV doc pm an (.ref c) ct), osl⟩) (hcd : PySem.W.codeIn K (.ref c) x = true)
    (S : FnScope N ps (defScope st)) (len : ∀ vs H Q E, sp vs H Q E → vs.length = ps.length)
    (hbody : ∀ (A : Around) (outer : List Env) (s : Shared) (H : Hp) (vs : List V) (Q : VK) (E : XK), Room k (A.deeper (envOfC x (defScope st) s.heap.objs.size f (.ref c))) → sp vs H Q E →
      ∃ t, PSs (cxOf CX0 P w K mg base N x (defScope st) f (.ref c) A outer s H E).nox (defBody st) t ∧ t { nx := fun _ H' => Q .non H', rt := Q } (start N vs) H) :
    FnOk P w K mg base CX0 (k + 1) f (PySem.W.fnOf x x (defArgs st) (defBody st) (defScope st) .none kV doc pm an (.ref c) ct) ps sp := by
  refine fn_of lk hcd S len (fun A outer s H vs Q E hr hsp => ?_)
  obtain ⟨t, h, q⟩ := hbody A outer s H vs Q E hr hsp
  exact ⟨t, h.nox, q⟩
end
/-! ### heaps: all but X stands -/
def Keep (X : List Addr) (H H' : Hp) : Prop := ∀ b o, H b = some o → b ∉ X → H' b = some o
theorem Keep.refl {X : List Addr} {H : Hp} : Keep X H H := fun _ _ e _ => e
theorem Keep.trans {X : List Addr} {H H1 H2 : Hp} (a : Keep X H H1) (b : Keep X H1 H2) : Keep X H H2 := fun c o e n => b c o (a c o e n) n
theorem Keep.mono {X Y : List Addr} {H H' : Hp} (a : Keep X H H') (h : ∀ b ∈ X, b ∈ Y) : Keep Y H H' := fun c o e n => a c o e fun z => n (h c z)
theorem Keep.new {X : List Addr} {H : Hp} {p : Addr} {o : HO} (n : H p = none) : Keep X H (upd H p o) := fun b u e _ => by rw [upd_ne (ne_of_none e n)]; exact e
theorem Keep.put {X : List Addr} {H : Hp} {p : Addr} {o : HO} (h : p ∈ X) : Keep X H (upd H p o) := fun b u e n => by rw [upd_ne (fun z => n (by rw [z]; exact h))]; exact e
/-- the tables of the defs that hold generator expressions -/
def Tabs (Ts : List Addr) (H : Hp) : Prop := ∀ P ∈ Ts, GxR.TabG H P
theorem Tabs.nott {Ts : List Addr} {H : Hp} (t : Tabs Ts H) {b : Addr} {o : HO} (e : H b = some o) (h : ∀ ps, o ≠ .tbl ps) : b ∉ Ts := fun z => by
  obtain ⟨ps, q, _⟩ := t b z
  rw [e] at q
  exact h ps (Option.some.inj q)
theorem Tabs.none {Ts : List Addr} {H : Hp} (t : Tabs Ts H) {b : Addr} (e : H b = none) : b ∉ Ts := fun z => by
  obtain ⟨ps, q, _⟩ := t b z
  rw [e] at q
  cases q
theorem Tabs.tup {Ts : List Addr} {H : Hp} (t : Tabs Ts H) {b : Addr} {xs : List V} (e : H b = some (.tup xs)) : b ∉ Ts := t.nott e fun _ z => by cases z
theorem Tabs.lst {Ts : List Addr} {H : Hp} (t : Tabs Ts H) {b : Addr} {xs : List V} (e : H b = some (.lst xs)) : b ∉ Ts := t.nott e fun _ z => by cases z
theorem Tabs.upd {Ts : List Addr} {H : Hp} (t : Tabs Ts H) {p : Addr} {o : HO} (h : p ∉ Ts) : Tabs Ts (L2.upd H p o) := fun b hb => by
  obtain ⟨ps, q, r⟩ := t b hb
  exact ⟨ps, by rw [upd_ne (fun z => h (by rw [← z]; exact hb))]; exact q, r⟩
/-- behind a generator expression: its table may have grown -/
theorem Tabs.tabbed {Ts : List Addr} {H H' : Hp} {P : Addr} (t : Tabs Ts H) (h : GxR.Tabbed P H H') : Tabs Ts H' := fun b hb => by
  by_cases e : b = P
  · rw [e]; exact h.1
  · obtain ⟨ps, q, r⟩ := t b hb
    exact ⟨ps, by rw [h.2 b e]; exact q, r⟩
theorem Keep.tabbed {X : List Addr} {H H' : Hp} {P : Addr} (hP : P ∈ X) (h : GxR.Tabbed P H H') : Keep X H H' := fun b o e n => by rw [h.2 b (fun z => n (by rw [z]; exact hP))]; exact e
/-- what a def that reads and makes leaves: the tables may have grown -/
structure Aft (Ts : List Addr) (H H' : Hp) : Prop where
  kp : Keep Ts H H'
  tb : Tabs Ts H'
theorem Aft.trans {Ts : List Addr} {H H1 H2 : Hp} (a : Aft Ts H H1) (b : Aft Ts H1 H2) : Aft Ts H H2 := ⟨a.kp.trans b.kp, b.tb⟩
theorem Aft.refl {Ts : List Addr} {H : Hp} (t : Tabs Ts H) : Aft Ts H H := ⟨Keep.refl, t⟩
theorem Aft.new {Ts : List Addr} {H : Hp} {p : Addr} {o : HO} (t : Tabs Ts H) (n : H p = Option.none) : Aft Ts H (L2.upd H p o) := ⟨Keep.new n, t.upd (t.none n)⟩
theorem Aft.tup {Ts : List Addr} {H H' : Hp} (a : Aft Ts H H') (t : Tabs Ts H) {b : Addr} {xs : List V} (e : H b = some (.tup xs)) : H' b = some (.tup xs) := a.kp b _ e (t.tup e)
theorem Aft.lst {Ts : List Addr} {H H' : Hp} (a : Aft Ts H H') (t : Tabs Ts H) {b : Addr} {xs : List V} (e : H b = some (.lst xs)) : H' b = some (.lst xs) := a.kp b _ e (t.lst e)
/-! ### the law's end with the tables of its defs -/
def TabOf (K : PySem.W.Frag) (mg : Str → Option Value) (h : Heap) (x : Str) : Prop := ∀ (fa c P : Addr) (o : Obj) (fd : FuncData) (e : Value) (dd : Option Addr) (vs : Array Value) (sl : Array (Option Value)),
  mg x = some (.ref fa) → K.lookup fa = some o → o.data = .func fd → fd.code = .ref c → K.lookup c = some ⟨e, dd, .fields vs, sl⟩ → vs[11]? = some (.ref P) → h.get? P = some { cls := .none, data := .fields #[] }
theorem walk_defs {l : PySem.W.OpenLaw} {n k : Nat} {q : Program} {loose : List Str} {XP : (Str → Option Value) → Heap → Prop} {YP : World → Heap → Prop} {d : DefRec} {K : Params → PySem.W.Frag} {CX : World → CXT} {x : Str}
    (hn : l.most = some n) (hn2 : n ≤ sizeLine) (hdf : d.params.defaults = []) (hr : Room k callerA) (hY : ∀ (w : World) (h : Heap), YP w h → (K w.params).In h)
    (F : ∀ (w : World) (mg : Str → Option Value) (fa : Addr) (h : Heap), YP w h → (K w.params).In h → h.Ns mainGlobals mg → mg d.name = some (.ref fa) → (∀ y : Str, ((recsOf q).any fun e => e.name == y) = true → TabOf (K w.params) mg h y) → LamX.LawAtS l w (K w.params) (CX w) k n x mg fa h)
    (hCX : ∀ (w : World) (H : Hp) (s : Shared) (e : Value) (s' : Shared), CX w [] H s (fun _ _ _ => False) e s' → False) :
    PySem.W.WalkO q loose XP YP l.row.toRowW d [] (fun f vs => PySem.call f vs) := by
  refine Att.attach_callB hn hdf fun w s₀ s₁ mg mb fa o pm cd doc a vs ns G Y ho hd hcd hmg hobj hints hlen hbits hg => ?_
  have KX := hY w _ Y
  have own : ∀ y : Str, ((recsOf q).any fun e => e.name == y) = true → TabOf (K w.params) mg s₁.heap y := fun y hrec fa c P o1 fd1 e dd vs1 sl k0 k1 k2 k3 k4 k5 => by
    obtain ⟨dL, hm, hn1⟩ := List.any_eq_true.mp hrec
    have hn2 : dL.name = y := beq_iff_eq.mp hn1
    obtain ⟨a', o', fd', c', P', h1, h2, h3, h4, h5, h6⟩ := G.T.tab dL hm
    rw [hn2, k0] at h1
    cases h1
    have g1 := KX _ _ k1
    rw [g1] at h2
    cases h2
    rw [k2] at h3
    cases h3
    rw [k3] at h4
    cases h4
    obtain ⟨⟨oc, vc, e1, _, e3, e4⟩, hP⟩ := h6
    have g2 := KX _ _ k4
    rw [g2] at e1
    cases e1
    cases e3
    rw [k5] at e4
    cases e4
    exact hP
  obtain ⟨fd, cs, sp, hT, nT, C, hb, hsp, hF⟩ := F w mg fa _ Y KX G.T.g hmg own
  exact LamX.law_callTs KX G.T.g G.T.b G.T.builtins G.T.nolimit hg hT nT C G.T.bmain hobj hints (Nat.le_trans hlen hn2) hr hF hb (fun H hH hS => hsp H a ns hlen hbits hH hS) fun H e s' => hCX w H s₁ e s'
theorem codeHd_of {K : PySem.W.Frag} {h : Heap} (X : K.In h) {c P : Addr} {dd : Option Addr} {vs : Array Value} {sl : Array (Option Value)} {file : Str} {tf tg tt : Tok} {flags text : Int} {inF : Bool} (lc : K.lookup c = some ⟨.type "code", dd, .fields vs, sl⟩)
    (e : vs[11]? = some (.ref P) ∧ vs.getD 11 .none = .ref P ∧ vs.getD 18 .none = .str file tf ∧ vs.getD 7 .none = .int flags tg ∧ vs.getD 9 .none = .bool inF ∧ vs.getD 10 .none = .int text tt ∧ c ≠ P) : PySem.W.CodeHd h c P :=
  ⟨_, vs, file, tf, flags, tg, inF, text, tt, X c _ lc, rfl, rfl, e.1, e.2.1, e.2.2.1, e.2.2.2.1, e.2.2.2.2.1, e.2.2.2.2.2.1, e.2.2.2.2.2.2⟩
theorem tabB_of {base : Heap} {mg : Str → Option Value} {c P : Addr} (t : LamX.TabB base mg c P) : GxR.TabB base mg c P := ⟨t.code, t.bm, t.gP⟩
/-! ### small things -/
theorem small (n : Nat) (h : n ≤ 100000 := by decide) : n ≤ sizeLine := Nat.le_trans h (by decide)
theorem at0 {a : V} {r : List V} : atI (a :: r) 0 = some a := atI_nat (j := 0) rfl
theorem at1 {a b : V} {r : List V} : atI (a :: b :: r) 1 = some b := atI_nat (j := 1) rfl
theorem at2 {a b c : V} {r : List V} : atI (a :: b :: c :: r) 2 = some c := atI_nat (j := 2) rfl
theorem sq_keep {K : PySem.W.Frag} {H H' : Hp} {a W : Addr} {xs : List V} {Ts : List Addr} (h : SqL K H a xs) (t : Tabs Ts H) (k : Keep (W :: Ts) H H') (nW : H W = none) : SqL K H' a xs := by
  have nn : ∀ o, H a = some o → (∀ ps, o ≠ .tbl ps) → a ∉ W :: Ts := fun o e hn z => by
    rcases List.mem_cons.mp z with z | z
    · rw [z, nW] at e
      cases e
    · exact t.nott e hn z
  rcases h with (h | ⟨o, h⟩) | h
  · exact .inl (.inl (k _ _ h (nn _ h fun _ z => by cases z)))
  · exact .inl (.inr ⟨o, k _ _ h (nn _ h fun _ z => by cases z)⟩)
  · exact .inr h
end GX
set_option Elab.async false
set_option linter.all false
set_option maxRecDepth 100000
set_option maxHeartbeats 4000000
/-! Nets as data, and how they stand in the heap. -/
namespace GX
open PySem PySem.Spec PyProof.Rows L2
structure Net where
  many : Nat
  gates : List (Nat × Nat × Nat)
  outs : List Nat
def gateOk (many i : Nat) (g : Nat × Nat × Nat) : Prop := g.1 < 16 ∧ g.2.1 < many + i ∧ g.2.2 < many + i
structure Net.Ok (n : Net) : Prop where
  m1 : 1 ≤ n.many
  m8 : n.many ≤ 8
  g16 : n.gates.length ≤ 16
  gs : ∀ (i : Nat) (g : Nat × Nat × Nat), n.gates[i]? = some g → gateOk n.many i g
  o1 : 1 ≤ n.outs.length
  o8 : n.outs.length ≤ 8
  os : ∀ o ∈ n.outs, o < n.many + n.gates.length
def nV (n : Nat) : V := .int (n : Int)
def gV (g : Nat × Nat × Nat) : List V := [nV g.1, nV g.2.1, nV g.2.2]
/-- the gates at these addresses -/
def GatesAt (H : Hp) (ps : List Addr) (gs : List (Nat × Nat × Nat)) : Prop := ps.length = gs.length ∧ ∀ (i : Nat) (p : Addr) (g : Nat × Nat × Nat), ps[i]? = some p → gs[i]? = some g → H p = some (.tup (gV g))
structure NetAt (H : Hp) (a : Addr) (n : Net) (g o : Addr) (ps : List Addr) : Prop where
  top : H a = some (.tup [nV n.many, .ref g, .ref o])
  gt : H g = some (.tup (ps.map V.ref))
  gs : GatesAt H ps n.gates
  ot : H o = some (.tup (n.outs.map nV))
theorem GatesAt.nil (H : Hp) : GatesAt H [] [] := ⟨rfl, fun i p g e _ => by simp at e⟩
theorem GatesAt.mono {H H' : Hp} {ps : List Addr} {gs : List (Nat × Nat × Nat)} (x : GatesAt H ps gs) (k : ∀ b xs, H b = some (.tup xs) → H' b = some (.tup xs)) : GatesAt H' ps gs := ⟨x.1, fun i p g e1 e2 => k _ _ (x.2 i p g e1 e2)⟩
theorem NetAt.mono {H H' : Hp} {a g o : Addr} {n : Net} {ps : List Addr} (x : NetAt H a n g o ps) (k : ∀ b xs, H b = some (.tup xs) → H' b = some (.tup xs)) : NetAt H' a n g o ps := ⟨k _ _ x.top, k _ _ x.gt, x.gs.mono k, k _ _ x.ot⟩
theorem GatesAt.push {H : Hp} {ps : List Addr} {gs : List (Nat × Nat × Nat)} {p : Addr} {g : Nat × Nat × Nat} (x : GatesAt H ps gs) (h : H p = some (.tup (gV g))) : GatesAt H (ps ++ [p]) (gs ++ [g]) := by
  refine ⟨by rw [List.length_append, List.length_append, x.1]; rfl, fun i q g' e1 e2 => ?_⟩
  by_cases hi : i < ps.length
  · rw [List.getElem?_append_left hi] at e1
    rw [List.getElem?_append_left (by rw [← x.1]; exact hi)] at e2
    exact x.2 i q g' e1 e2
  · rw [List.getElem?_append_right (by omega)] at e1
    rw [List.getElem?_append_right (by rw [← x.1]; omega)] at e2
    have hz : i - ps.length = 0 := by
      obtain ⟨h1, _⟩ := List.getElem?_eq_some_iff.mp e1
      simp at h1
      omega
    rw [hz] at e1
    rw [← x.1, hz] at e2
    cases e1
    cases e2
    exact h
theorem gateOk.at {H : Hp} {ps : List Addr} {gs : List (Nat × Nat × Nat)} (x : GatesAt H ps gs) {i : Nat} {p : Addr} (e : ps[i]? = some p) : ∃ g, gs[i]? = some g ∧ H p = some (.tup (gV g)) := by
  obtain ⟨h1, _⟩ := List.getElem?_eq_some_iff.mp e
  have h2 : i < gs.length := by rw [← x.1]; exact h1
  exact ⟨gs[i], List.getElem?_eq_getElem h2, x.2 i p _ e (List.getElem?_eq_getElem h2)⟩
/-- what a tuple holds it keeps, where but X is kept and X holds none -/
theorem Keep.tups {X : List Addr} {H H' : Hp} (k : Keep X H H') (n : ∀ b ∈ X, ∀ xs, H b ≠ some (.tup xs)) : ∀ b xs, H b = some (.tup xs) → H' b = some (.tup xs) := fun b xs e => k b _ e fun z => n b z xs e
/-! ### the well -/
def Wl (H : Hp) (W : Addr) : Prop := ∃ a b c : Int, H W = some (.lst [.int a, .int b, .int c])
theorem Wl.nt {H : Hp} {W : Addr} (h : Wl H W) : ∀ b ∈ [W], ∀ xs, H b ≠ some (.tup xs) := fun b hb xs e => by
  rw [List.mem_singleton.mp hb] at e
  obtain ⟨_, _, _, q⟩ := h
  rw [e] at q
  cases q
theorem Wl.keep {X : List Addr} {H H' : Hp} {W : Addr} (h : Wl H W) (k : Keep X H H') (n : W ∉ X) : Wl H' W := by
  obtain ⟨a, b, c, e⟩ := h
  exact ⟨a, b, c, k _ _ e n⟩
theorem Wl.tab {Ts : List Addr} {H : Hp} {W : Addr} (h : Wl H W) (t : Tabs Ts H) : W ∉ Ts := by
  obtain ⟨a, b, c, e⟩ := h
  exact t.lst e
theorem Tabs.keep {Ts X : List Addr} {H H' : Hp} (t : Tabs Ts H) (k : Keep X H H') (n : ∀ b ∈ X, b ∉ Ts) : Tabs Ts H' := fun b hb => by
  obtain ⟨ps, q, r⟩ := t b hb
  exact ⟨ps, k b _ q fun z => n b z hb, r⟩
/-! ### words for the readings -/
theorem Same.keep {X : List Addr} {H H' : Hp} (s : Same H H') : Keep X H H' := fun b o e _ => s b o e
theorem Same.new {H : Hp} {p : Addr} {o : HO} (n : H p = none) : Same H (upd H p o) := fun b u e => by rw [upd_ne (ne_of_none e n)]; exact e
theorem catA {K : PySem.W.Frag} {H : Hp} {a b : Addr} {xs ys : List V} {Q : VK} (h1 : H a = some (.tup xs)) (h2 : H b = some (.tup ys)) (hz : xs.length + ys.length ≤ sizeLine) (q : ∀ r H', Same H H' → H' r = some (.tup (xs ++ ys)) → Q (.ref r) H') : rCatA K (.ref a) (.ref b) H Q := by
  refine ⟨a, b, xs, ys, rfl, rfl, SqT.of h1, SqT.of h2, hz, fun e => ?_, fun e1 e2 => ?_, fun e1 e2 p hp => ?_⟩
  · exact q b H (Same.refl _) (by rw [e]; exact h2)
  · exact q a H (Same.refl _) (by rw [e2, List.append_nil]; exact h1)
  · exact q p _ (Same.new hp) upd_same
theorem slA {K : PySem.W.Frag} {H : Hp} {a : Addr} {xs : List V} {lo hi : Option Int} {Q : VK} (h1 : H a = some (.tup xs)) (q : ∀ r H', Same H H' → H' r = some (.tup (cutV xs lo hi)) → Q (.ref r) H') : rSlA K (.ref a) lo hi H Q := by
  refine ⟨a, xs, rfl, SqT.of h1, fun e => ?_, fun e p hp => ?_⟩
  · refine q a H (Same.refl _) ?_
    unfold cutV
    rw [e.1, e.2, List.drop_zero, Nat.sub_zero, List.take_length]
    exact h1
  · exact q p _ (Same.new hp) upd_same
theorem atIf {a b : V} {k : Bool} : atI [a, b] (if k = true then 1 else 0) = some (if k = true then b else a) := by cases k <;> rfl
theorem cut_lo (xs : List V) (n : Nat) : cutV xs (some (n : Int)) none = xs.drop n := by
  unfold cutV
  rw [show HT.sIx xs.length 0 (some (n : Int)) = min n xs.length from HT.sIx_nat xs.length 0 n, HT.sIx_none]
  by_cases h : n ≤ xs.length
  · rw [Nat.min_eq_left h, List.take_of_length_le]
    rw [List.length_drop]
    exact Nat.le_refl _
  · rw [Nat.min_eq_right (by omega), List.drop_of_length_le (Nat.le_refl _), List.drop_of_length_le (by omega), List.take_nil]
theorem cut_hi (xs : List V) (n : Nat) : cutV xs none (some (n : Int)) = xs.take n := by
  unfold cutV
  rw [show HT.sIx xs.length xs.length (some (n : Int)) = min n xs.length from HT.sIx_nat xs.length xs.length n, HT.sIx_none, List.drop_zero, Nat.sub_zero]
  by_cases h : n ≤ xs.length
  · rw [Nat.min_eq_left h]
  · rw [Nat.min_eq_right (by omega), List.take_of_length_le (by omega : xs.length ≤ n), List.take_length]
/-- the well stands, all else is kept -/
structure Wk (W : Addr) (H H' : Hp) : Prop where
  wl : Wl H' W
  kp : Keep [W] H H'
theorem Wk.nxt {W : Addr} {H H1 H2 : Hp} (s : Wk W H H1) (wl : Wl H2 W) (k : Keep [W] H1 H2) : Wk W H H2 := ⟨wl, s.kp.trans k⟩
theorem Wl.same {H H' : Hp} {W : Addr} (h : Wl H W) (s : Same H H') : Wl H' W := by
  obtain ⟨a, b, c, e⟩ := h
  exact ⟨a, b, c, s _ _ e⟩
theorem Wk.same {W : Addr} {H H1 H2 : Hp} (s : Wk W H H1) (e : Same H1 H2) : Wk W H H2 := ⟨s.wl.same e, s.kp.trans (Same.keep e)⟩
theorem Wk.new {W : Addr} {H H1 : Hp} {p : Addr} {o : HO} (s : Wk W H H1) (n : H1 p = none) : Wk W H (upd H1 p o) := s.same (Same.new n)
/-- a tuple stands behind a draw -/
theorem Wl.tup {H H' : Hp} {W : Addr} (h : Wl H W) (k : Keep [W] H H') {b : Addr} {xs : List V} (e : H b = some (.tup xs)) : H' b = some (.tup xs) := k.tups h.nt b xs e
theorem Wl.gates {H H' : Hp} {W : Addr} (h : Wl H W) (k : Keep [W] H H') {ps : List Addr} {gs : List (Nat × Nat × Nat)} (x : GatesAt H ps gs) : GatesAt H' ps gs := x.mono (k.tups h.nt)
theorem Same.gates {H H' : Hp} (s : Same H H') {ps : List Addr} {gs : List (Nat × Nat × Nat)} (x : GatesAt H ps gs) : GatesAt H' ps gs := x.mono fun b xs e => s b _ e
/-- a list of our own, filled behind H: all that was stands -/
structure Own (H H' : Hp) (l : Addr) (xs : List V) : Prop where
  sm : Same H H'
  at_ : H' l = some (.lst xs)
  nw : H l = none
theorem Own.app {H H' : Hp} {l : Addr} {xs : List V} {y : V} (o : Own H H' l xs) : Own H (upd H' l (.lst (xs ++ [y]))) l (xs ++ [y]) :=
  ⟨fun b u e => by rw [upd_ne (ne_of_none e o.nw)]; exact o.sm b u e, upd_same, o.nw⟩
theorem NetAt.same {H H' : Hp} {a g o : Addr} {n : Net} {ps : List Addr} (x : NetAt H a n g o ps) (s : Same H H') : NetAt H' a n g o ps := x.mono fun b xs e => s b _ e
theorem Tabs.same {Ts : List Addr} {H H' : Hp} (t : Tabs Ts H) (s : Same H H') : Tabs Ts H' := fun b hb => by
  obtain ⟨ps, q, r⟩ := t b hb
  exact ⟨ps, s _ _ q, r⟩
theorem Aft.ofSame {Ts : List Addr} {H H' : Hp} (t : Tabs Ts H) (s : Same H H') : Aft Ts H H' := ⟨Same.keep s, Tabs.same t s⟩
theorem NetAt.aft {Ts : List Addr} {H H' : Hp} {a g o : Addr} {n : Net} {ps : List Addr} (x : NetAt H a n g o ps) (t : Tabs Ts H) (s : Aft Ts H H') : NetAt H' a n g o ps := x.mono fun b xs e => s.tup t e
/-! ### rules with the written part named (for generator expressions) -/
section
variable {X : Cx} {K : PySem.W.Frag}
theorem ix_tupK (h : X.K = K := by rfl) : IxR X (rIxT K) := by subst h; exact ix_tup
theorem ix_listK (h : X.K = K := by rfl) : IxR X (rIxL K) := by subst h; exact ix_list
theorem op_notIn_seqK (h : X.K = K := by rfl) : OpR X (compareOp .NotIn) (rIn K true) := by subst h; exact op_notIn_seq
theorem len_seqK (h : X.K = K := by rfl) : CallR X (.builtin "len") (fun xs H Q => ∃ p ys, xs = [.ref p] ∧ (SqL K H p ys ∨ SqT K H p ys) ∧ Q (.int ys.length) H) := by subst h; exact call_len_seq
theorem sl_tupAK (h : X.K = K := by rfl) : SlR X (rSlA K) := by subst h; exact sl_tupA
end
end GX
set_option Elab.async false
set_option linter.all false
set_option maxRecDepth 100000
set_option maxHeartbeats 4000000
/-! enumerate of a tuple, walked. -/
namespace GX
open PySem PySem.Spec PyProof.Rows L2
open AutoSeq1 (wpAny_loadPart')
theorem enumT_new (l : Addr) (items : Array Value) (n : Nat) (dct : Option Addr) (sl : Array (Option Value)) :
    Meets (Builtin.«enumerate.__new__» ⟨[.type "enumerate", .ref l], []⟩) (fun _ R s => s.heap.get? l = some { cls := .type "tuple", dict := dct, data := .seq items n, slots := sl } ∧
      R (.ok (.ret (.ref (s.heap.push { cls := .type "tuple_iterator", data := .fields #[.ref l, .int 0 0] }).objs.size)))
        { s with heap := (s.heap.push { cls := .type "tuple_iterator", data := .fields #[.ref l, .int 0 0] }).push { cls := .type "enumerate", data := .fields #[.none, .bool false, .ref s.heap.objs.size, rawInt 0, .none, .none] } }) :=
  .of_wp fun prog w A R s h => by
    obtain ⟨hp, g, d, tk, os⟩ := s
    obtain ⟨hl, h⟩ := h
    have hsub := sub_enumerate
    have hL : Heap.IsTuple (Shared.heap ⟨hp, g, d, tk, os⟩) l items := ⟨_, hl, rfl, n, rfl⟩
    wp_walk using wpAny_loadPart' hl
    refine wpAny_stack_any fun st => wpAny_pure ?_
    split
    · rename_i c _ _ _ _ _
      cases (c == Value.type "enumerate") <;>
      · wp_walk using wpAny_loadPart' hl, wpAny_pyIter_tuple hL
        exact ⟨_, rfl, h⟩
    · wp_walk using wpAny_loadPart' hl, wpAny_pyIter_tuple hL
      exact ⟨_, rfl, h⟩
section
variable {prog : Program} {w : World} {A : Around} {E : Value → Shared → Prop} {s : Shared}
theorem enumT_call {l : Addr} {items : Array Value} {Q : Value → Shared → Prop} (hL : s.heap.IsTuple l items)
    (h : ∀ h', IsEnum h' (s.heap.objs.size + 1) s.heap.objs.size 0 .none → h'.IsTupleIter s.heap.objs.size l 0 → (∀ b o, s.heap.get? b = some o → h'.get? b = some o) → Q (.ref (s.heap.objs.size + 1)) { s with heap := h' }) :
    wpAny (model prog w) A (call (.type "enumerate") [.ref l]) Q E s := by
  obtain ⟨⟨c, dct, dt, sl⟩, hl, hc, n, hd⟩ := hL
  replace hc : c = .type "tuple" := hc
  replace hd : dt = .seq items n := hd
  subst hc hd
  refine callType_new F.called_enumerate (by decide) (F.typeCall_enumerate_1 _) (F.newCall_enumerate_1 _) (fun obj => F.args_object_init_2 obj _) F.entry_enumerate_new (enumT_new l items n dct sl) ⟨hl, ?_⟩
  have hz : (s.heap.push { cls := .type "tuple_iterator", data := .fields #[.ref l, .int 0 0] }).objs.size = s.heap.objs.size + 1 := Heap.size_push ..
  show _ ∧ _
  rw [hz]
  have he : IsEnum ((s.heap.push { cls := .type "tuple_iterator", data := .fields #[.ref l, .int 0 0] }).push { cls := .type "enumerate", data := .fields #[.none, .bool false, .ref s.heap.objs.size, rawInt 0, .none, .none] }) (s.heap.objs.size + 1) s.heap.objs.size 0 .none := by
    have q := Heap.get?_push_size (s.heap.push { cls := .type "tuple_iterator", data := .fields #[.ref l, .int 0 0] }) (o := { cls := .type "enumerate", data := .fields #[.none, .bool false, .ref s.heap.objs.size, rawInt 0, .none, .none] }) rfl
    rw [hz] at q
    exact q
  exact ⟨⟨_, he, rfl⟩, h _ he ⟨_, Heap.get?_push_of_some _ (Heap.get?_push_size _ rfl), rfl, rfl⟩ fun b o x => Heap.get?_push_of_some _ (Heap.get?_push_of_some _ x)⟩
end
def Itet (K : PySem.W.Frag) (a : Addr) : It :=
  ⟨fun i H => ∃ (xs : List V) (x : V), SqT K H a xs ∧ xs[i]? = some x, fun i H v H' => ∃ T x, v = .ref T ∧ H T = none ∧ H' = upd H T (.tup [.int (i : Nat), x]) ∧ ∀ xs, SqT K H a xs → xs[i]? = some x, fun i H => ∃ xs : List V, SqT K H a xs ∧ xs.length = i⟩
theorem turn_enumT {P : Program} {w : World} {K : PySem.W.Frag} {elts : List Expr} {kk : Nat} {tpos : Pos} (a e it : Addr) :
    Turn P w K (.Tuple elts kk tpos) (Itet K a) [e, it] e (fun i h => (∃ old, IsEnum h e it ((i : Nat) : Int) old) ∧ h.IsTupleIter it a i ∧ e ≠ it ∧ a ≠ it ∧ a ≠ e) where
  mem := by simp
  obj := fun i h st b hb => by
    obtain ⟨⟨old, he⟩, ⟨o, ho, hc, hd⟩, _⟩ := st
    rcases (show b = e ∨ b = it by simpa using hb) with z | z
    · rw [z]; exact ⟨_, he, fun v q => nomatch q⟩
    · rw [z]; exact ⟨o, ho, fun v q => by rw [hd] at q; cases q⟩
  keep := fun i h h' st k => let ⟨⟨old, he⟩, hi, hne⟩ := st; ⟨⟨old, k e (by simp) _ he⟩, hi.at fun o q => k it (by simp) o q, hne⟩
  item := by
    intro X hP hw hK hc i pins s σ H E I hf st hg
    subst hP hw hK
    obtain ⟨⟨old, he⟩, hit, hne, hai, hae⟩ := st
    obtain ⟨xs, x, hq, hx⟩ := hg
    obtain ⟨its, rv, p, hz⟩ := I.tuple hq
    obtain ⟨u, hu, ru⟩ := rv.get hx
    have hel : e < s.heap.objs.size := Heap.lt_size he
    have hil : it < s.heap.objs.size := by obtain ⟨_, q, _⟩ := hit; exact Heap.lt_size q
    have hu' : its.toArray[i]? = some u := by simpa using hu
    refine wpAny_pyNext_enum_itemD (Draws.tuple (A := X.A.in1) (show X.A.in1.handled = none from I.ok.hd hc) it a hai its.toArray) he ⟨hit, p⟩ (Array.getElem?_eq_some_iff.mp hu').1 hne (by simp [hne, Ne.symm hae]) fun y h' tk hy ho hst hT hsz hk => ?_
    obtain rfl : u = y := Option.some.inj (hu'.symm.trans hy)
    refine ⟨_, rfl, wpAny_letOwnedTupleGo_enum (s := { s with heap := h', toks := tk + 1 }) ho fun h'' he' sb => ?_⟩
    have hT2 : h''.get? s.heap.objs.size = some { cls := .type "tuple", data := .seq #[.int i tk, u] } := (sb.2 _ (Nat.ne_of_gt hel)).trans hT
    have new : ObjOk X.prog X.w (upd H s.heap.objs.size (.tup [.int (i : Nat), x])) h'' s.heap.objs.size (.tup [.int (i : Nat), x]) :=
      ⟨by show 2 ≤ sizeLine; decide, [.int i tk, u], .cons ⟨_, rfl⟩ (.cons ru .nil), ⟨_, hT2, rfl, _, rfl⟩⟩
    have I1 : Inv X pins σ (upd H s.heap.objs.size (.tup [.int (i : Nat), x])) { s with heap := h'', toks := tk + 1 } :=
      I.turnedNew (ch := [e, it]) (fun b ob hb q => (sb.2 b (fun z => hb (by simp [z]))).trans (hk b ob (fun z => hb (by simp [z])) (fun z => hb (by simp [z])) q)) hf (Nat.le_refl _) new
    refine ⟨.ref s.heap.objs.size, _, I1, rfl, ⟨_, x, rfl, I.hok.fresh (Nat.le_refl _), rfl, fun ys hy => by rw [I.tuple_inj hy hq]; exact hx⟩, ⟨⟨u, ?_⟩, hst.1.at fun o q => (sb.2 it (Ne.symm hne)).trans q, hne, hai, hae⟩, fun b hb => ?_⟩
    · rw [show ((i + 1 : Nat) : Int) = (i : Int) + 1 by omega]
      exact he'
    · have hb' : b < s.heap.objs.size := by
        rcases (show b = e ∨ b = it by simpa using hb) with z | z
        · rw [z]; exact hel
        · rw [z]; exact hil
      rw [upd_ne (Nat.ne_of_lt hb')]
      exact (hf b hb).1
  done := by
    intro X hP hw hK hc i pins s σ H E I hf st hg
    subst hP hw hK
    obtain ⟨⟨old, he⟩, hit, hne, hai, hae⟩ := st
    obtain ⟨xs, hq, hx⟩ := hg
    obtain ⟨its, rv, p, hz⟩ := I.tuple hq
    obtain ⟨f0, f1, f2, f3, f4, f5⟩ := hf it (by simp)
    have hl : xs.length = its.length := rv.length
    have hs : its.toArray.size = i := by rw [List.size_toArray]; omega
    exact wpAny_pyNext_enum_endD (Draws.tuple (A := X.A.in1) (show X.A.in1.handled = none from I.ok.hd hc) it a hai its.toArray) he (by rw [hs]; exact ⟨hit, p⟩) fun h' eb => ⟨rfl, I.turned (t' := s.toks) (fun b o hb q => eb b o hb q) f0 f1 f3 f4 f5⟩
  self := fun A i s Q E st h => let ⟨⟨_, he⟩, _⟩ := st; wpAny_pyIter_enum he h
def iEnumT (K : PySem.W.Frag) (ta : TA) : TI := fun σ H R => ta σ H fun vs H1 => ∃ a xs, vs = [.ref a] ∧ SqT K H1 a xs ∧ R (Itet K a) H1
theorem pi_enumT {X : Cx} {e : Expr} {ta : TA} {p pos tpos : Pos} {elts : List Expr} {kk : Nat} (hg : Gl X "enumerate") (hm : X.mg "enumerate" = none) (ha : PA X [e] ta) (hs : starEach [e] X.env = [(false, eval e X.env)] := by rfl) :
    PI X (.Tuple elts kk tpos) (.Call (.Name "enumerate" p) [e] [] pos) (iEnumT X.K ta) := by
  refine ⟨fun pins s σ H R I h => ?_⟩
  refine Call_ (ld_blt I hg hm boot_enumerate (PyProof.Rows.callWith_type1 (thn (ha.run pos pins s σ H _ I h) fun us s1 ⟨vs, H1, I1, r1, q1⟩ => ?_) hs rfl))
  obtain ⟨a, xs, ex, hq, q⟩ := q1
  subst ex
  cases r1 with
  | cons r rr =>
    cases rr
    cases r
    obtain ⟨its, rv, p', hz⟩ := I1.tuple hq
    have hal : a < s1.heap.objs.size := IsTup.lt p'
    refine enumT_call (show s1.heap.IsTuple a its.toArray from p') fun h' he hit hk => wpAny_pyIter_enum he ?_
    have I2 : Inv X pins σ H1 { s1 with heap := h' } := I1.kept (t' := s1.toks) hk
    refine ⟨s1.heap.objs.size + 1, [s1.heap.objs.size + 1, s1.heap.objs.size], _, _, H1, rfl, I2, turn_enumT a (s1.heap.objs.size + 1) s1.heap.objs.size, ⟨⟨.none, he⟩, hit, Nat.succ_ne_self _, Nat.ne_of_lt hal, Nat.ne_of_lt (Nat.lt_succ_of_lt hal)⟩, fun b hb => ?_, q⟩
    have hle : s1.heap.objs.size ≤ b := by
      rcases (show b = s1.heap.objs.size + 1 ∨ b = s1.heap.objs.size by simpa using hb) with z | z
      · rw [z]; exact Nat.le_add_right _ _
      · rw [z]; exact Nat.le_refl _
    exact I1.fpOk hle (I1.hok.fresh hle)
theorem walk_enumT {K : PySem.W.Frag} {a : Addr} {xs : List V} : Walk (Itet K a) xs.length (fun H => SqT K H a xs) (YPair (fun i => some (.int (i : Nat))) (fun i => xs[i]?)) := by
  refine ⟨fun i _ hi q => ⟨xs, xs[i], q, by simp [hi]⟩, fun _ q => ⟨xs, q, rfl⟩, fun i H v H' _ q y => ?_⟩
  obtain ⟨T, x, h1, h2, h3, h4⟩ := y
  exact ⟨T, .int (i : Nat), x, h1, h2, h3, rfl, h4 xs q⟩
end GX
set_option Elab.async false
set_option linter.all false
set_option maxRecDepth 100000
set_option maxHeartbeats 4000000
/-! t[::-1] of a tuple. -/
namespace GX
open PySem PySem.Spec PyProof.Rows L2 HT
section
variable {prog : Program} {w : World} {A : Around} {E : Value → Shared → Prop} {s : Shared}
theorem adj_rev (n : Nat) : Builtin.Slice.sliceAdjust none none (-1) (n : Int) = ((n : Int) - 1, -1) := by
  unfold Builtin.Slice.sliceAdjust
  rfl
theorem plc_rev (n : Nat) : Builtin.Slice.slicePlaces ((n : Int) - 1) (-1) (-1) = n := by
  unfold Builtin.Slice.slicePlaces
  rw [if_neg (by decide), show (-(-1 : Int)) = 1 by decide, Int.ediv_one]
  split <;> omega
theorem applied_rev {sl : Addr} {vl vu vs : Value} {n : Nat} {Q : Int × Int × Nat → Shared → Prop} (hs : s.heap.IsSliceOf sl vl vu vs) (pl : IsPart vl none) (pu : IsPart vu none) (ps : IsPart vs (some (-1)))
    (h : Q ((n : Int) - 1, -1, n) s) : wpAny (model prog w) A (Builtin.Slice.sliceApplied (.ref sl) (pure (n : Int))) Q E s := by
  obtain ⟨os, hos, hcs, hds⟩ := id hs
  unfold Builtin.Slice.sliceApplied Builtin.Slice.sliceFields
  refine wpAny_bind (wpAny_bind (wpAny_field hos hds (x := vl) rfl (wpAny_bind (wpAny_field hos hds (x := vu) rfl (wpAny_bind (wpAny_field hos hds (x := vs) rfl (wpAny_pure ?_)))))))
  refine wpAny_bind (slicePart_ ps ?_)
  show wpAny _ _ (if ((-1 : Int) == 0) = true then _ else _) _ _ s
  rw [if_neg (by decide)]
  refine wpAny_bind (slicePart_ pl (wpAny_bind (slicePart_ pu (wpAny_bind (wpAny_pure ?_)))))
  show wpAny _ _ (match Builtin.Slice.sliceAdjust none none (-1) (n : Int) with | (lo, hi) => pure (lo, (-1 : Int), Builtin.Slice.slicePlaces lo hi (-1))) _ _ s
  rw [adj_rev n]
  show wpAny _ _ (pure ((n : Int) - 1, (-1 : Int), Builtin.Slice.slicePlaces ((n : Int) - 1) (-1) (-1))) _ _ s
  rw [plc_rev]
  exact wpAny_pure h
theorem fm_congr {α β : Type} {f g : α → Option β} : ∀ {l : List α}, (∀ x ∈ l, f x = g x) → l.filterMap f = l.filterMap g
  | [], _ => rfl
  | a :: r, h => by
    rw [List.filterMap_cons, List.filterMap_cons, h a List.mem_cons_self, fm_congr fun x hx => h x (List.mem_cons_of_mem _ hx)]
theorem pick_rev (xs : Array Value) : ((List.range xs.size).filterMap fun (k : Nat) => xs[((xs.size : Int) - 1 + (k : Int) * (-1)).toNat]?).toArray = xs.toList.reverse.toArray := by
  have e : ((List.range xs.size).filterMap fun (k : Nat) => xs[((xs.size : Int) - 1 + (k : Int) * (-1)).toNat]?) = (((List.range xs.size).map fun k => xs.size - 1 - k).filterMap (xs[·]?)) := by
    rw [List.filterMap_map]
    refine fm_congr fun k hk => ?_
    have hk' := List.mem_range.mp hk
    show xs[((xs.size : Int) - 1 + (k : Int) * (-1)).toNat]? = xs[xs.size - 1 - k]?
    rw [show ((xs.size : Int) - 1 + (k : Int) * (-1)).toNat = xs.size - 1 - k by omega]
  rw [e, PySem.W.krv_range, List.filterMap_reverse, PySem.W.krv_all]
theorem item_rev {t sl : Addr} {items : Array Value} {vl vu vs : Value} {Q : Value → Shared → Prop} (ht : IsTup s.heap t items) (hs : s.heap.IsSliceOf sl vl vu vs) (pl : IsPart vl none) (pu : IsPart vu none) (ps : IsPart vs (some (-1)))
    (h : Q (.ref s.heap.objs.size) { s with heap := s.heap.push { cls := .type "tuple", data := .seq items.toList.reverse.toArray } })
    (hsz : items.size ≤ sizeLine) : wpAny (model prog w) A (getItem (.ref t) (.ref sl)) Q E s := by
  have htake : sizeOk (.seq items.toList.reverse.toArray) := by
    show items.toList.reverse.toArray.size ≤ sizeLine
    rw [List.size_toArray, List.length_reverse, Array.length_toList]
    exact hsz
  obtain ⟨os, hos, hcs, hds⟩ := id hs
  have hTs : s.TypeIs (.ref sl) "slice" := ⟨os, hos, hcs⟩
  unfold getItem
  try with_reducible refine wpAny_holding ?_
  first | refine wpAny_bind (wpAny_pure ?_) | skip
  refine wpAny_bind (wpAny_sequenceKey ht.typeIs (by decide) ?_)
  refine wpAny_bind (wpAny_callSpecial?_slot (name := Str.ofString "__getitem__") ht.typeIs PyProof.Rows.slot_tuple_getitem
    (wpAny_call_entry PyProof.Rows.slot_tuple_getitem ht.typeIs entry_tuple_getitem ?_ (args_tuple_getitem _ _)))
  show wpAny _ _ (Builtin.Tuple.tupleItemsOf (.ref t) >>= _) _ _ s
  refine wpAny_bind (tupleItemsOf_ ht ?_)
  refine wpAny_bind (wpAny_typeOf hTs ?_)
  rw [if_pos (by decide)]
  refine wpAny_bind (applied_rev hs pl pu ps ?_)
  have hno : ¬ (((((items.size : Int) - 1) == 0 && (-1 : Int) == 1) && items.size == items.size) = true) := by simp
  show wpAny _ _ (if ((((items.size : Int) - 1) == 0 && (-1 : Int) == 1) && items.size == items.size) = true then _ else _) _ _ s
  rw [if_neg hno, pick_rev]
  first
    | exact wpAny_bind (m := Builtin.Tuple.tupleExact _) (wpAny_newObj_type (wpAny_pure ⟨_, rfl, wpAny_pure h⟩) htake)
    | exact wpAny_bind (m := Builtin.Tuple.tupleExact _) (wpAny_newObj_type (wpAny_bind (wpAny_pure (wpAny_pure ⟨_, rfl, wpAny_pure h⟩))) htake)
    | exact wpAny_bind (wpAny_bind (m := Builtin.Tuple.tupleExact _) (wpAny_newObj_type (wpAny_pure (wpAny_pure ⟨_, rfl, wpAny_pure h⟩)) htake))
    | exact wpAny_bind (wpAny_bind (m := Builtin.Tuple.tupleExact _) (wpAny_newObj_type (wpAny_pure ⟨_, rfl, wpAny_pure h⟩) htake))
end
def tRevT (K : PySem.W.Frag) (te : TE) : TE := fun σ H Q => te σ H fun x H1 => ∃ a xs, x = .ref a ∧ SqT K H1 a xs ∧ ∀ p, H1 p = none → Q (.ref p) (upd H1 p (.tup xs.reverse))
theorem pe_revT {X : Cx} {e : Expr} {te : TE} {k : Nat} {p1 p2 p3 pos : Pos} (he : PE X e te) : PE X (.Subscript e (.Slice none none (some (.UnaryOp .USub (.Constant (.int 1) k p1) p2)) p3) pos) (tRevT X.K te) := by
  refine ⟨fun pins s σ H Q I h => ?_⟩
  refine Subscript_ (thn (he.run pins s σ H _ I h) fun v s1 ⟨x, H1, I1, r1, q1⟩ => ?_)
  obtain ⟨a, xs, ex, hx, q⟩ := q1
  subst ex
  cases r1
  have hst : PO X (some (.UnaryOp .USub (.Constant (.int 1) k p1) p2)) (tPart (tUn (rU fun i => .int (-i)) (tC (.int 1)))) := po_some (pe_un un_neg pe_int)
  refine wpAny_Slice (thn (po_none.run pins s1 σ H1 (fun o H2 => o = none ∧ H2 = H1) I1 ⟨rfl, rfl⟩) fun vl s2 ⟨l, H2, I2, pl, el, e2⟩ => ?_)
  subst el e2
  refine thn (po_none.run pins s2 σ H2 (fun o H3 => o = none ∧ H3 = H2) I2 ⟨rfl, rfl⟩) fun vu s3 ⟨u, H3, I3, pu, eu, e3⟩ => ?_
  subst eu e3
  refine thn (hst.run pins s3 σ H3 (fun o H4 => o = some (-1) ∧ H4 = H3) I3 ⟨1, rfl, -1, rfl, rfl, rfl⟩) fun vs s4 ⟨o, H4, I4, ps, eo, e4⟩ => ?_
  subst eo e4
  have I5 : Inv X pins σ H4 { s4 with heap := s4.heap.push { cls := .type "slice", data := .fields #[vl, vu, vs] } } := I4.kept (t' := s4.toks) fun b ob q => Heap.get?_push_of_some _ q
  obtain ⟨its, r, ht, hz⟩ := I5.tuple hx
  have hlen := r.length
  show wpAny (model X.prog X.w) X.A (subscriptTail e (.Slice none none (some (.UnaryOp .USub (.Constant (.int 1) k p1) p2)) p3) (.ref a) (.ref s4.heap.objs.size)) (EP X pins σ Q) X.xe { s4 with heap := s4.heap.push { cls := .type "slice", data := .fields #[vl, vu, vs] } }
  refine tail_any (ops := [.ref a, .ref s4.heap.objs.size]) ht.typeIs (PyProof.Rows.slot_tuple_getitem.lookup) ?_ (by with_unfolding_all rfl)
  refine item_rev ht (Heap.IsSliceOf.new _ vl vu vs) pl pu ps ?_ (by rw [List.size_toArray]; omega)
  refine ⟨.ref _, _, I5.laid (t' := s4.toks) (o := .tup xs.reverse) (fun b ob q => Heap.get?_push_of_some _ q) (Nat.le_refl _) ?_, rfl, q _ (I5.hok.fresh (Nat.le_refl _))⟩
  exact ⟨by rw [List.length_reverse]; exact hz, _, r.reverse, ⟨_, Heap.get?_push_size _ rfl, rfl, _, rfl⟩⟩
end GX
set_option Elab.async false
set_option linter.all false
set_option maxRecDepth 100000
set_option maxHeartbeats 4000000
/-! A tuple times an int of one or more. -/
namespace GX
open PySem PySem.Spec PyProof.Rows L2
open AutoSeq1 (wpAny_loadPart')
end GX
set_option Elab.async false
set_option linter.all false
set_option maxRecDepth 100000
set_option maxHeartbeats 4000000
/-! set(xs) of whole numbers, xs a list or a tuple; sorted of it. -/
namespace GX
open PySem PySem.Spec PyProof.Rows L2
end GX
set_option Elab.async false
set_option linter.all false
set_option maxRecDepth 100000
set_option maxHeartbeats 4000000
/-! sorted(l), l a list of tuples of ints, of any lengths from 1 on. -/
namespace GX
open PySem PySem.Spec PyProof.Rows L2 Srt
open SrtO (Cmp SortableO lt2 Srtd Stb)
section
variable {prog : Program} {w : World} {A : Around} {E : Value → Shared → Prop} {s : Shared}
theorem lex_any {b R fin : Bool} : ∀ {xs ys : List Value} {ns ms : List Int} (i : Nat), IntsAre xs ns → IntsAre ys ms → fin = decide (ns.length < ms.length) → R = HT.lexLt ns ms → PySem.W.KatLex prog w A b fin (fun r s' => s' = s ∧ r = R) (xs.zip ys) i s
  | _, _, _, _, i, .nil, hy, hf, hR => by
    rw [List.zip_nil_left]
    refine PySem.W.kat_nil ⟨rfl, ?_⟩
    rw [hf, hR]
    cases hy with
    | nil => rfl
    | cons m u r => rfl
  | _, _, _, _, i, .cons n t r, hy, hf, hR => by
    cases hy with
    | nil =>
      rw [List.zip_nil_right]
      refine PySem.W.kat_nil ⟨rfl, ?_⟩
      rw [hf, hR]
      rfl
    | cons m u r' =>
      rw [List.zip_cons_cons]
      refine PySem.W.kat_cons (SeqAt.EqAt.int_int n t m u prog w _ _ ?_)
      rw [HT.lexLt_cons] at hR
      refine PySem.W.kat_go (fun e1 => ?_) (fun e1 => ?_)
      · have ex : n = m := by simpa using e1
        rw [if_pos ex] at hR
        refine PySem.W.kat_yes (lex_any (i + 1) r r' ?_ hR)
        rw [hf]
        exact decide_eq_decide.mpr ⟨Nat.lt_of_succ_lt_succ, Nat.succ_lt_succ⟩
      · have ex : ¬ n = m := by simpa using e1
        rw [if_neg ex] at hR
        exact PySem.W.kat_no (TS.oneLt_ints _ ⟨rfl, hR.symm⟩)
theorem tups_cmp {vs : List Value} {k : Value → List Int} (hp : ∀ v ∈ vs, TS.TupInts s.heap v (k v)) : Cmp prog w A s (tuples' true) (fun p => p.1 ∈ vs) (lt2 fun v u => HT.lexLt (k v) (k u)) := by
  intro p q hm hm'
  obtain ⟨a, xs, e, ⟨o, ho, hc, n, hd⟩, hi⟩ := hp _ hm
  obtain ⟨a', ys, e', ⟨o', ho', hc', n', hd'⟩, hi'⟩ := hp _ hm'
  show wpAny (model prog w) A (keyLt' (tuples' true) p.1 q.1) (fun r s' => s' = s ∧ r = HT.lexLt (k p.1) (k q.1)) (fun _ _ => False) s
  generalize k p.1 = ns at hi ⊢
  generalize k q.1 = ms at hi' ⊢
  rw [e, e']
  refine PySem.W.kat_lt ho hd ho' hd' (lex_any 0 hi hi' ?_ rfl)
  have z1 : xs.size = ns.length := by rw [← hi.length]; simp
  have z2 : ys.size = ms.length := by rw [← hi'.length]; simp
  rw [z1, z2]
theorem tups_firsts {h : Heap} {k : Value → List Int} : ∀ {vs : List Value}, (∀ v ∈ vs, TS.TupInts h v (k v) ∧ k v ≠ []) → ∃ fs, PySem.W.KatTups h vs fs ∧ fs.length = vs.length ∧ ∀ f ∈ fs, ∃ x t, f = Value.int x t
  | [], _ => ⟨[], PySem.W.KatTups.nil, rfl, fun f hf => absurd hf (by simp)⟩
  | v :: vs, hp => by
    obtain ⟨fs, h1, h2, h3⟩ := tups_firsts fun u hu => hp u (List.mem_cons_of_mem _ hu)
    obtain ⟨⟨a, xs, e, ⟨o, ho, hc, n, hd⟩, hi⟩, hne⟩ := hp v List.mem_cons_self
    cases hk : k v with
    | nil => exact absurd hk hne
    | cons x r =>
      rw [hk] at hi
      generalize hxs : xs.toList = l at hi
      cases hi with
      | cons n0 t0 r0 =>
        have h0 : xs[0]? = some (Value.int x t0) := by
          have : xs.toList[0]? = some (Value.int x t0) := by rw [hxs]; rfl
          simpa using this
        subst e
        refine ⟨Value.int x t0 :: fs, PySem.W.KatTups.cons ho hc hd h0 h1, by rw [List.length_cons, List.length_cons, h2], fun f hf => ?_⟩
        rcases List.mem_cons.mp hf with rfl | hf
        · exact ⟨_, _, rfl⟩
        · exact h3 f hf
theorem tups_sortable {a : Addr} {vs : List Value} {k : Value → List Int} (h0 : 0 < vs.length) (hp : ∀ v ∈ vs, TS.TupInts s.heap v (k v) ∧ k v ≠ []) (ha : ∀ o, s.heap.get? a = some o → o.cls ≠ .type "tuple") : SortableO prog w A s a vs fun v u => HT.lexLt (k v) (k u) := by
  intro h' keep
  have hp' : ∀ v ∈ vs, TS.TupInts h' v (k v) ∧ k v ≠ [] := fun v hm => ⟨(hp v hm).1.keeps fun b o e c => keep b o (fun z => by subst z; exact ha o e c) e, (hp v hm).2⟩
  obtain ⟨fs, h1, h2, h3⟩ := tups_firsts hp'
  refine ⟨tuples' true, fun Q E hq => ?_, tups_cmp fun v hv => (hp' v hv).1⟩
  refine PySem.W.kat_kind (T := .type "int") h1 (by omega) (fun f hm => ?_) (by rfl) ?_
  · obtain ⟨x, t, rfl⟩ := h3 f hm
    exact PySem.W.Looks.now
  · have e : (Value.type "int" != Value.type "tuple") = true := by first | decide +kernel | rfl | decide
    rw [e]
    exact hq
end
def rSortTup (K : PySem.W.Frag) : List V → Hp → VK → Prop := fun vs H Q => ∃ (a : Addr) (xs : List V) (k : V → List Int), vs = [V.ref a] ∧ SqL K H a xs ∧ (∀ x ∈ xs, (∃ t, x = V.ref t ∧ H t = some (.tup ((k x).map V.int))) ∧ k x ≠ []) ∧
  ∀ ys p, Srtd (fun x y => HT.lexLt (k x) (k y)) ys → ys.Perm xs → H p = none → Q (.ref p) (upd H p (.lst ys))
theorem cr_sortTup {X : Cx} : CallR X (.builtin "sorted") (rSortTup X.K) := by
  intro pins s σ H vs us Q I r h
  obtain ⟨a, xs, k, rfl, hs, hx, q⟩ := h
  obtain ⟨its, rv, hl, hz⟩ := I.list hs
  rw [Vals.ref1 r]
  obtain ⟨e1, e2⟩ := refs_back rv fun x m => by
    obtain ⟨⟨t, e, _⟩, _⟩ := hx x m
    exact ⟨t, e⟩
  have hp : ∀ v ∈ its, TS.TupInts s.heap v (k (backV v)) ∧ k (backV v) ≠ [] := fun v hv => by
    obtain ⟨t, rfl⟩ := e2 v hv
    have hm : V.ref t ∈ xs := by rw [e1]; exact List.mem_map.mpr ⟨_, hv, rfl⟩
    obtain ⟨⟨t', e, ht⟩, hne⟩ := hx _ hm
    cases e
    exact ⟨tupI_raw I (SqT.of ht), hne⟩
  refine SrtO.sorted_ord (ltv := fun v u => HT.lexLt (k (backV v)) (k (backV u))) (NtL.swo_lexL fun v => k (backV v)) hl.isList (by rw [← rv.length]; exact hz) (fun h2 h₁ a' ha kk => ?_) fun out hs hb => ?_
  · refine tups_sortable (s := { s with heap := h₁ }) (by omega) (fun v hm => ⟨(hp v hm).1.keeps fun b o e _ => (kk b o e).2, (hp v hm).2⟩) fun o e => ?_
    have e' : some o = some (seqObj "list" its.toArray 0) := e.symm.trans ha
    cases e'
    intro c
    exact absurd (Value.type.inj c) (by decide)
  · obtain ⟨ep, he'⟩ := PyProof.Rows.sortedAll_at s.heap its out.toArray
    have h3 : ∀ u ∈ out, ∃ a, u = Value.ref a := fun u hu => e2 u (hb.perm.mem_iff.mp hu)
    have hpm : (out.map backV).Perm xs := by
      rw [e1]
      exact hb.perm.map backV
    have hlen : (out.map backV).length ≤ sizeLine := by
      rw [hpm.length_eq]
      exact hz
    exact ⟨.ref _, upd H (s.heap.objs.size + 1) (.lst (out.map backV)), I.laid (t' := s.toks) (fun _ _ => PyProof.Rows.sortedAll_old) (Nat.le_succ _) ⟨hlen, out, ep, vals_back h3, he'⟩, rfl, q _ _ (SrtO.srtd_map hs) hpm (I.hok.fresh (Nat.le_succ _))⟩
end GX
set_option Elab.async false
set_option linter.all false
set_option maxRecDepth 100000
set_option maxHeartbeats 4000000
/-! sorted(l), l a list of pairs (n, tuple of ints). -/
namespace GX
open PySem PySem.Spec PyProof.Rows L2 Srt
open SrtO (Cmp SortableO lt2 Srtd Stb)
/-- v is a pair: an int, a tuple of ints -/
def PairP (h : Heap) (v : Value) (ns : List Int) : Prop := ∃ (a b : Addr) (n : Int) (t : Tok) (ks : List Int), v = .ref a ∧ ns = n :: ks ∧ IsTup h a #[.int n t, .ref b] ∧ TS.TupInts h (.ref b) ks
theorem PairP.keeps {h h' : Heap} {v : Value} {ns : List Int} (x : PairP h v ns) (k : ∀ b o, h.get? b = some o → o.cls = .type "tuple" → h'.get? b = some o) : PairP h' v ns := by
  obtain ⟨a, b, n, t, ks, e, en, ⟨o, ho, hc, hd⟩, ti⟩ := x
  exact ⟨a, b, n, t, ks, e, en, ⟨o, k _ _ ho hc, hc, hd⟩, ti.keeps k⟩
end GX
set_option Elab.async false
set_option linter.all false
set_option maxRecDepth 100000
set_option maxHeartbeats 4000000
/-! What leads from a wire down, past no stop. -/
namespace GX
open PySem PySem.Spec PyProof.Rows L2
inductive Rc (n : Net) (st : List Nat) (w j : Nat) : Nat → Prop
  | here : w ∉ st → Rc n st w j w
  | step {g p : Nat} {k : Nat × Nat × Nat} : Rc n st w j g → n.many ≤ g → j ≤ g → n.gates[g - n.many]? = some k → (p = k.2.1 ∨ p = k.2.2) → p ∉ st → Rc n st w j p
theorem place_lt {n : Net} (ok : n.Ok) {g p : Nat} {k : Nat × Nat × Nat} (hg : n.many ≤ g) (hk : n.gates[g - n.many]? = some k) (hp : p = k.2.1 ∨ p = k.2.2) : p < g := by
  obtain ⟨_, h1, h2⟩ := ok.gs _ _ hk
  rcases hp with rfl | rfl <;> omega
theorem Rc.le {n : Net} (ok : n.Ok) {st : List Nat} {w j y : Nat} (h : Rc n st w j y) : y ≤ w := by
  induction h with
  | here _ => exact Nat.le_refl _
  | step _ hg _ hk hp _ ih => exact Nat.le_trans (Nat.le_of_lt (place_lt ok hg hk hp)) ih
theorem Rc.free {n : Net} {st : List Nat} {w j y : Nat} (h : Rc n st w j y) : y ∉ st := by cases h <;> assumption
theorem Rc.mono {n : Net} {st : List Nat} {w j i y : Nat} (h : Rc n st w j y) (l : i ≤ j) : Rc n st w i y := by
  induction h with
  | here e => exact .here e
  | step _ hg hj hk hp hs ih => exact .step ih hg (Nat.le_trans l hj) hk hp hs
theorem Rc.low {n : Net} {st : List Nat} {w j y : Nat} (h : Rc n st w j y) : Rc n st w n.many y := by
  induction h with
  | here e => exact .here e
  | step _ hg hj hk hp hs ih => exact .step ih hg hg hk hp hs
theorem Rc.low_iff {n : Net} {st : List Nat} {w j y : Nat} (l : j ≤ n.many) : Rc n st w j y ↔ Rc n st w n.many y := ⟨Rc.low, fun h => h.mono l⟩
theorem Rc.down {n : Net} (ok : n.Ok) {st : List Nat} {w g y : Nat} {k : Nat × Nat × Nat} (hg : n.many ≤ g) (hk : n.gates[g - n.many]? = some k) :
    Rc n st w g y ↔ Rc n st w (g + 1) y ∨ (Rc n st w (g + 1) g ∧ (y = k.2.1 ∨ y = k.2.2) ∧ y ∉ st) := by
  refine ⟨fun h => ?_, fun h => ?_⟩
  · induction h with
    | here e => exact .inl (.here e)
    | @step g' p k' h1 hg' hj hk' hp hs ih =>
      by_cases e : g' = g
      · subst e
        have ek : k' = k := by
          rw [hk] at hk'
          exact (Option.some.inj hk').symm
        subst ek
        rcases ih with ih | ⟨_, ih, _⟩
        · exact .inr ⟨ih, hp, hs⟩
        · exact absurd (place_lt ok hg hk ih) (Nat.lt_irrefl _)
      · rcases ih with ih | ⟨_, ih, _⟩
        · exact .inl (.step ih hg' (by omega) hk' hp hs)
        · have := place_lt ok hg hk ih
          omega
  · rcases h with h | ⟨h, hp, hs⟩
    · exact h.mono (Nat.le_succ g)
    · exact .step (h.mono (Nat.le_succ g)) hg (Nat.le_refl _) hk hp hs
/-- an input, or below the last gate: nothing goes on above -/
theorem Rc.high {n : Net} (ok : n.Ok) {st : List Nat} {w y : Nat} : Rc n st w (w + 1) y ↔ y = w ∧ w ∉ st := by
  refine ⟨fun h => ?_, fun h => by rw [h.1]; exact .here h.2⟩
  cases h with
  | here e => exact ⟨rfl, e⟩
  | step h1 hg hj hk hp hs =>
    have := h1.le ok
    omega
theorem inV_n (x : Nat) (st : List Nat) : inV (nV x) (st.map nV) = decide (x ∈ st) := by
  unfold inV
  rw [List.any_map]
  induction st with
  | nil => rfl
  | cons y r ih =>
    rw [List.any_cons, ih]
    have e : ((fun y => eqV y (nV x)) ∘ nV) y = decide (x = y) := by
      show eqV (nV y) (nV x) = decide (x = y)
      unfold eqV
      by_cases h : x = y
      · subst h
        rw [decide_eq_true (rfl : x = x)]
        exact decide_eq_true rfl
      · rw [decide_eq_false h]
        refine decide_eq_false fun z => h ?_
        have z' : ((y : Nat) : Int) = (x : Int) := z
        omega
    rw [e, ← Bool.decide_or]
    congr 1
    exact propext List.mem_cons.symm
theorem flat_ns (st : List Nat) : (st.map nV).all flatV = true := by
  rw [List.all_map, List.all_eq_true]
  intro x _
  rfl
theorem ix_n {len x : Nat} (h : x < len) : ixN len (x : Int) = some x := by
  have e := atI_nat (xs := List.range len) (j := x) (v := x) (by rw [List.getElem?_range h])
  unfold atI at e
  rw [List.length_range] at e
  cases q : ixN len (x : Int) with
  | none => rw [q] at e; cases e
  | some j =>
    rw [q] at e
    have e' : (List.range len)[j]? = some x := e
    obtain ⟨h1, h2⟩ := List.getElem?_eq_some_iff.mp e'
    rw [List.getElem_range] at h2
    rw [h2]
/-- rising, unlike: told by its members -/
theorem rise_eq : ∀ {xs ys : List Nat}, xs.Pairwise (· < ·) → ys.Pairwise (· < ·) → (∀ z, z ∈ xs ↔ z ∈ ys) → xs = ys
  | [], [], _, _, _ => rfl
  | [], y :: ys, _, _, h => by cases (h y).mpr List.mem_cons_self
  | x :: xs, [], _, _, h => by cases (h x).mp List.mem_cons_self
  | x :: xs, y :: ys, hx, hy, h => by
    have hx1 := List.pairwise_cons.mp hx
    have hy1 := List.pairwise_cons.mp hy
    have e : x = y := by
      rcases List.mem_cons.mp ((h x).mp List.mem_cons_self) with e | e
      · exact e
      · rcases List.mem_cons.mp ((h y).mpr List.mem_cons_self) with e' | e'
        · exact e'.symm
        · have := hy1.1 _ e
          have := hx1.1 _ e'
          omega
    subst e
    refine congrArg _ (rise_eq hx1.2 hy1.2 fun z => ⟨fun hz => ?_, fun hz => ?_⟩)
    · rcases List.mem_cons.mp ((h z).mp (List.mem_cons_of_mem _ hz)) with e | e
      · have := hx1.1 _ hz
        omega
      · exact e
    · rcases List.mem_cons.mp ((h z).mpr (List.mem_cons_of_mem _ hz)) with e | e
      · have := hy1.1 _ hz
        omega
      · exact e
/-- the wires reached, rising -/
def Rset (n : Net) (st : List Nat) (w : Nat) (xs : List Nat) : Prop := xs.Pairwise (· < ·) ∧ ∀ y, y ∈ xs ↔ Rc n st w n.many y
/-- marks -/
def MarkOk (n : Net) (st : List Nat) (w j : Nat) (ms : List Bool) : Prop := ms.length = n.many + n.gates.length ∧ ∀ y, y < ms.length → (ms.getD y false = true ↔ Rc n st w j y)
theorem getD_set {ms : List Bool} {i y : Nat} {b : Bool} (h : i < ms.length) : (ms.set i b).getD y false = if y = i then b else ms.getD y false := by
  rw [List.getD_eq_getElem?_getD, List.getD_eq_getElem?_getD]
  by_cases e : y = i
  · subst e
    rw [if_pos rfl, List.getElem?_set_self h]
    rfl
  · rw [if_neg e, List.getElem?_set_ne (fun z => e z.symm)]
theorem mark_at {ms : List Bool} {i : Nat} (h : i < ms.length) : (ms.map V.bl)[i]? = some (.bl (ms.getD i false)) := by
  rw [List.getElem?_map, List.getD_eq_getElem?_getD, List.getElem?_eq_getElem h]
  rfl
def picked (ms : List Bool) : List Nat := (List.range ms.length).filter fun i => ms.getD i false
theorem picked_rise (ms : List Bool) : (picked ms).Pairwise (· < ·) := List.Pairwise.filter _ List.pairwise_lt_range
theorem picked_take (ms : List Bool) (i : Nat) : ((List.range (i + 1)).filter fun i => ms.getD i false) = ((List.range i).filter fun i => ms.getD i false) ++ (if ms.getD i false = true then [i] else []) := by
  rw [List.range_succ, List.filter_append]
  congr 1
  rw [List.filter_cons]
  rfl
theorem mark_set {n : Net} (ok : n.Ok) {st : List Nat} {w : Nat} {ms : List Bool} (hw : w < n.many + n.gates.length) (h : MarkOk n st w n.many ms) : Rset n st w (picked ms) := by
  refine ⟨picked_rise ms, fun y => ?_⟩
  unfold picked
  rw [List.mem_filter, List.mem_range]
  refine ⟨fun ⟨h1, h2⟩ => (h.2 y h1).mp h2, fun r => ?_⟩
  have := r.le ok
  have hl : y < ms.length := by rw [h.1]; omega
  exact ⟨hl, (h.2 y hl).mpr r⟩
theorem mark_down {n : Net} (ok : n.Ok) {st : List Nat} {w g : Nat} {k : Nat × Nat × Nat} {ms : List Bool} (hg : n.many ≤ g) (hk : n.gates[g - n.many]? = some k) (h : MarkOk n st w (g + 1) ms) (hm : ms.getD g false = true) :
    MarkOk n st w g ((ms.set k.2.1 (!decide (k.2.1 ∈ st))).set k.2.2 (!decide (k.2.2 ∈ st))) := by
  have hgl : g < ms.length := by
    rw [h.1]
    have := (List.getElem?_eq_some_iff.mp hk).1
    omega
  have p1 := place_lt ok hg hk (.inl rfl)
  have p2 := place_lt ok hg hk (.inr rfl)
  have rg := (h.2 g hgl).mp hm
  have flip : ∀ y, (y = k.2.1 ∨ y = k.2.2) → ((!decide (y ∈ st)) = true ↔ Rc n st w g y) := fun y hy => by
    rw [Rc.down ok hg hk]
    by_cases e : y ∈ st
    · rw [decide_eq_true e]
      refine ⟨fun z => (by cases z), fun z => ?_⟩
      rcases z with z | ⟨_, _, z⟩
      · exact absurd e z.free
      · exact absurd e z
    · rw [decide_eq_false e]
      exact ⟨fun _ => .inr ⟨rg, hy, e⟩, fun _ => rfl⟩
  refine ⟨by rw [List.length_set, List.length_set]; exact h.1, fun y hy => ?_⟩
  rw [List.length_set, List.length_set] at hy
  rw [getD_set (by rw [List.length_set]; omega)]
  by_cases e2 : y = k.2.2
  · rw [if_pos e2, e2]
    exact flip _ (.inr rfl)
  · rw [if_neg e2, getD_set (by omega)]
    by_cases e1 : y = k.2.1
    · rw [if_pos e1, e1]
      exact flip _ (.inl rfl)
    · rw [if_neg e1, h.2 y hy, Rc.down ok hg hk]
      refine ⟨.inl, fun z => ?_⟩
      rcases z with z | ⟨_, z, _⟩
      · exact z
      · rcases z with z | z
        · exact absurd z e1
        · exact absurd z e2
theorem mark_skip {n : Net} (ok : n.Ok) {st : List Nat} {w g : Nat} {k : Nat × Nat × Nat} {ms : List Bool} (hg : n.many ≤ g) (hk : n.gates[g - n.many]? = some k) (h : MarkOk n st w (g + 1) ms) (hm : ¬ ms.getD g false = true) :
    MarkOk n st w g ms := by
  have hgl : g < ms.length := by
    rw [h.1]
    have := (List.getElem?_eq_some_iff.mp hk).1
    omega
  refine ⟨h.1, fun y hy => ?_⟩
  rw [h.2 y hy, Rc.down ok hg hk]
  refine ⟨.inl, fun z => ?_⟩
  rcases z with z | ⟨z, _, _⟩
  · exact z
  · exact absurd ((h.2 g hgl).mpr z) hm
theorem mark_first {n : Net} (ok : n.Ok) {st : List Nat} {w : Nat} (hw : w < n.many + n.gates.length) : MarkOk n st w (w + 1) ((List.replicate (n.many + n.gates.length) false).set w (!decide (w ∈ st))) := by
  refine ⟨by rw [List.length_set, List.length_replicate], fun y hy => ?_⟩
  rw [getD_set (by rw [List.length_replicate]; exact hw), Rc.high ok]
  by_cases e : y = w
  · subst e
    rw [if_pos rfl]
    by_cases h : y ∈ st
    · rw [decide_eq_true h]
      exact ⟨fun z => (by cases z), fun z => absurd h z.2⟩
    · rw [decide_eq_false h]
      exact ⟨fun _ => ⟨rfl, h⟩, fun _ => rfl⟩
  · rw [if_neg e, List.getD_eq_getElem?_getD, List.getElem?_replicate]
    refine ⟨fun z => ?_, fun z => absurd z.1 e⟩
    split at z <;> cases z
/-- ways -/
structure Way (n : Net) (w : Nat) (xs : List Nat) : Prop where
  ne : 0 < xs.length
  lt : ∀ x ∈ xs, x < n.many + n.gates.length
  first : xs.getD 0 0 < n.many
  last : xs.getD (xs.length - 1) 0 = w
  steps : ∀ i, i + 1 < xs.length → n.many ≤ xs.getD (i + 1) 0 ∧ ∃ k, n.gates[xs.getD (i + 1) 0 - n.many]? = some k ∧ (xs.getD i 0 = k.2.1 ∨ xs.getD i 0 = k.2.2)
end GX
set_option Elab.async false
set_option linter.all false
set_option maxRecDepth 100000
set_option maxHeartbeats 4000000
/-! Lists of the wires reached; ways put together. -/
namespace GX
open PySem PySem.Spec PyProof.Rows L2
theorem nodup_len : ∀ {xs ys : List Nat}, xs.Nodup → (∀ x ∈ xs, x ∈ ys) → xs.length ≤ ys.length
  | [], _, _, _ => Nat.zero_le _
  | x :: xs, ys, h, s => by
    have h1 := List.nodup_cons.mp h
    have hx := s x List.mem_cons_self
    have ih := nodup_len (ys := ys.erase x) h1.2 fun z hz => (List.mem_erase_of_ne (fun e => h1.1 (by rw [← e]; exact hz))).mpr (s z (List.mem_cons_of_mem _ hz))
    rw [List.length_erase_of_mem hx] at ih
    have : 0 < ys.length := List.length_pos_of_mem hx
    rw [List.length_cons]
    omega
theorem nodup_lt {xs : List Nat} {m : Nat} (h : xs.Nodup) (s : ∀ x ∈ xs, x < m) : xs.length ≤ m := by
  have := nodup_len (ys := List.range m) h fun x hx => List.mem_range.mpr (s x hx)
  rwa [List.length_range] at this
theorem nodup_snoc {xs : List Nat} {x : Nat} (h : xs.Nodup) (n : x ∉ xs) : (xs ++ [x]).Nodup := by
  rw [List.nodup_append]
  refine ⟨h, by simp, fun a ha b hb => ?_⟩
  rw [List.mem_singleton.mp hb]
  exact fun e => n (by rw [← e]; exact ha)
theorem getD_pre {xs t : List Nat} {i : Nat} (h : i < xs.length) : (xs ++ t).getD i 0 = xs.getD i 0 := by
  rw [List.getD_eq_getElem?_getD, List.getD_eq_getElem?_getD, List.getElem?_append_left h]
theorem getD_mem {xs : List Nat} {i : Nat} (h : i < xs.length) : xs.getD i 0 ∈ xs := by
  rw [List.getD_eq_getElem?_getD, List.getElem?_eq_getElem h]
  exact List.getElem_mem h
theorem mem_getD {xs : List Nat} {x : Nat} (h : x ∈ xs) : ∃ i, i < xs.length ∧ xs.getD i 0 = x := by
  obtain ⟨i, hi, e⟩ := List.getElem_of_mem h
  exact ⟨i, hi, by rw [List.getD_eq_getElem?_getD, List.getElem?_eq_getElem hi]; exact e⟩
/-- found so far; the first k have been gone on from -/
structure LedOk (n : Net) (st : List Nat) (w : Nat) (xs : List Nat) (k : Nat) : Prop where
  nd : xs.Nodup
  rc : ∀ y ∈ xs, Rc n st w n.many y
  self : w ∉ st → w ∈ xs
  le : k ≤ xs.length
  done : ∀ j, j < k → n.many ≤ xs.getD j 0 → ∀ g, n.gates[xs.getD j 0 - n.many]? = some g → ∀ p, (p = g.2.1 ∨ p = g.2.2) → p ∉ st → p ∈ xs
theorem LedOk.all {n : Net} {st : List Nat} {w : Nat} {xs : List Nat} (h : LedOk n st w xs xs.length) (y : Nat) : y ∈ xs ↔ Rc n st w n.many y := by
  refine ⟨h.rc y, fun r => ?_⟩
  induction r with
  | here e => exact h.self e
  | step _ hg _ hk hp hs ih =>
    obtain ⟨i, hi, e⟩ := mem_getD ih
    exact h.done i hi (by rw [e]; exact hg) _ (by rw [e]; exact hk) _ hp hs
def isSt (n : Net) (x y : Nat) : Prop := n.many ≤ y ∧ ∃ k, n.gates[y - n.many]? = some k ∧ (x = k.2.1 ∨ x = k.2.2)
/-- from x (left out) up to w -/
structure Up (n : Net) (x w : Nat) (zs : List Nat) : Prop where
  lt : ∀ z ∈ zs, z < n.many + n.gates.length
  last : (x :: zs).getD zs.length 0 = w
  ch : ∀ i, i + 1 < (x :: zs).length → isSt n ((x :: zs).getD i 0) ((x :: zs).getD (i + 1) 0)
theorem Up.nil (n : Net) (w : Nat) : Up n w w [] := ⟨fun z hz => (by cases hz), rfl, fun i hi => (by simp at hi)⟩
theorem Up.cons {n : Net} {p x w : Nat} {zs : List Nat} (s : isSt n p x) (hx : x < n.many + n.gates.length) (u : Up n x w zs) : Up n p w (x :: zs) := by
  refine ⟨fun z hz => ?_, ?_, fun i hi => ?_⟩
  · rcases List.mem_cons.mp hz with rfl | hz
    · exact hx
    · exact u.lt z hz
  · exact u.last
  · cases i with
    | zero => exact s
    | succ i => exact u.ch i (by simpa using hi)
/-- from some wire down to w, upward -/
structure Down (n : Net) (w : Nat) (xs : List Nat) : Prop where
  ne : 0 < xs.length
  lt : ∀ x ∈ xs, x < n.many + n.gates.length
  last : xs.getD (xs.length - 1) 0 = w
  steps : ∀ i, i + 1 < xs.length → isSt n (xs.getD i 0) (xs.getD (i + 1) 0)
theorem Down.cons {n : Net} {w p : Nat} {xs : List Nat} (d : Down n w xs) (hp : p < n.many + n.gates.length) (s : isSt n p (xs.getD 0 0)) : Down n w (p :: xs) := by
  have h0 := d.ne
  refine ⟨by rw [List.length_cons]; omega, fun x hx => ?_, ?_, fun i hi => ?_⟩
  · rcases List.mem_cons.mp hx with rfl | hx
    · exact hp
    · exact d.lt x hx
  · rw [List.length_cons, show xs.length + 1 - 1 = (xs.length - 1) + 1 by omega]
    exact d.last
  · cases i with
    | zero => exact s
    | succ i => exact d.steps i (by simpa using hi)
theorem getD_post {xs t : List Nat} {i : Nat} (h : xs.length ≤ i) : (xs ++ t).getD i 0 = t.getD (i - xs.length) 0 := by
  rw [List.getD_eq_getElem?_getD, List.getD_eq_getElem?_getD, List.getElem?_append_right h]
theorem Way.join {n : Net} {x w : Nat} {ys zs : List Nat} (a : Way n x ys) (u : Up n x w zs) : Way n w (ys ++ zs) := by
  have h0 := a.ne
  refine ⟨by rw [List.length_append]; omega, fun z hz => ?_, ?_, ?_, fun i hi => ?_⟩
  · rcases List.mem_append.mp hz with hz | hz
    · exact a.lt z hz
    · exact u.lt z hz
  · rw [getD_pre h0]
    exact a.first
  · have ul := u.last
    rw [List.length_append]
    cases zs with
    | nil =>
      rw [List.append_nil, List.length_nil, Nat.add_zero]
      have : x = w := ul
      rw [← this]
      exact a.last
    | cons z r =>
      rw [getD_post (by rw [List.length_cons]; omega), List.length_cons]
      rw [show ys.length + (r.length + 1) - 1 - ys.length = r.length by omega]
      exact ul
  · rw [List.length_append] at hi
    by_cases h1 : i + 1 < ys.length
    · rw [getD_pre h1, getD_pre (by omega)]
      exact a.steps i h1
    · by_cases h2 : i + 1 = ys.length
      · have e : ys.getD i 0 = x := by
          rw [show i = ys.length - 1 by omega]
          exact a.last
        have e1 : (ys ++ zs).getD i 0 = x := by rw [getD_pre (by omega), e]
        have e2 : (ys ++ zs).getD (i + 1) 0 = zs.getD 0 0 := by rw [getD_post (by omega), h2, Nat.sub_self]
        rw [e1, e2]
        cases zs with
        | nil => simp at hi; omega
        | cons z r => exact u.ch 0 (by simp)
      · have e1 : (ys ++ zs).getD i 0 = zs.getD (i - ys.length) 0 := getD_post (by omega)
        have e2 : (ys ++ zs).getD (i + 1) 0 = zs.getD (i + 1 - ys.length) 0 := getD_post (by omega)
        rw [e1, e2]
        have := u.ch (i - ys.length + 1) (by rw [List.length_cons]; omega)
        rw [show i + 1 - ys.length = i - ys.length + 1 by omega]
        exact this
end GX
set_option Elab.async false
set_option linter.all false
set_option maxRecDepth 100000
set_option maxHeartbeats 4000000
/-! Wires that tell a gate: going back from a cut. -/
namespace GX
open PySem PySem.Spec PyProof.Rows L2
theorem Rc.sub {n : Net} {st st' : List Nat} {w j y : Nat} (h : Rc n st' w j y) (s : ∀ z ∈ st, z ∈ st') : Rc n st w j y := by
  induction h with
  | here e => exact .here fun z => e (s _ z)
  | step _ hg hj hk hp hs ih => exact .step ih hg hj hk hp fun z => hs (s _ z)
/-- no input leads past them -/
def Sep (n : Net) (w : Nat) (st : List Nat) : Prop := ∀ y, Rc n st w n.many y → n.many ≤ y
theorem Sep.more {n : Net} {w : Nat} {st st' : List Nat} (h : Sep n w st) (s : ∀ z ∈ st, z ∈ st') : Sep n w st' := fun y r => h y (r.sub s)
theorem sep_first {n : Net} {w : Nat} {st : List Nat} {k : Nat × Nat × Nat} (hw : n.many ≤ w) (hk : n.gates[w - n.many]? = some k) (h : ∀ z, (z = k.2.1 ∨ z = k.2.2) → z ∈ st) : Sep n w st := by
  have all : ∀ y, Rc n st w n.many y → y = w := fun y r => by
    induction r with
    | here _ => rfl
    | step _ _ _ hk' hp hs ih =>
      subst ih
      rw [hk] at hk'
      cases hk'
      exact absurd (h _ hp) hs
  exact fun y r => by rw [all y r]; exact hw
structure CutOk (n : Net) (gt : Nat) (ys : List Nat) : Prop where
  ne : 0 < ys.length
  lt : ∀ y ∈ ys, y < gt
  sep : Sep n gt ys
  rise : ys.Pairwise (· < ·)
end GX
set_option Elab.async false
set_option linter.all false
set_option maxRecDepth 100000
set_option maxHeartbeats 4000000
/-! Bits of numbers, as the texts write them. -/
namespace GX
open PySem PySem.Spec PyProof.Rows L2
theorem pt_truthK {X : Cx} {K : PySem.W.Frag} {a : Expr} {ta : TE} (ha : PE X a ta) (he : ∀ whole, isTrue a X.env whole = (do let v ← whole; standAt a.pos; holding [v] (truthy v))) (h : X.K = K := by rfl) : PT X a (fun σ H Q => ta σ H fun x H' => ∃ k, TruV K x H' k ∧ Q k H') := by subst h; exact pt_truth ha he
theorem natAt {l : List Nat} {i : Nat} (h : i < l.length) : (l.map nV)[i]? = some (nV (l.getD i 0)) := by
  rw [List.getElem?_map, List.getD_eq_getElem?_getD, List.getElem?_eq_getElem h]
  rfl
theorem mapV (xs : List Nat) : (xs.map fun n : Nat => (n : Int)).map V.int = xs.map nV := by
  rw [List.map_map]
  rfl
theorem dpNat (K : PySem.W.Frag) (H : Hp) : ∀ xs : List Nat, DpAll K H (xs.map nV) ((xs.map fun n : Nat => (n : Int)).map PyData.int)
  | [] => .nil
  | x :: r => .cons (.int _) (dpNat K H r)
theorem getSnoc {xs : List Nat} {x i : Nat} (h : i < xs.length) : (xs ++ [x]).getD i 0 = xs.getD i 0 := getD_pre h
theorem getLastN {xs : List Nat} {x : Nat} : (xs ++ [x]).getD xs.length 0 = x := by
  rw [List.getD_eq_getElem?_getD, List.getElem?_append_right (Nat.le_refl _), Nat.sub_self]
  rfl
/-- number >> place & 1 -/
theorem bit_of (r p : Nat) : Builtin.bitAnd (((r : Nat) : Int) / 2 ^ ((p : Nat) : Int).toNat) 1 = ((r / 2 ^ p % 2 : Nat) : Int) := by
  rw [bitAnd_m1, Int.toNat_natCast]
  norm_cast
theorem shl_of (p : Nat) : (1 : Int) * 2 ^ ((p : Nat) : Int).toNat = ((2 ^ p : Nat) : Int) := by
  rw [Int.toNat_natCast, Int.one_mul]
  norm_cast
/-! ### idle places -/
theorem small256 {n : Nat} (h : n ≤ 10000) : n < sizeLine := Nat.lt_of_le_of_lt h (by decide)
end GX
set_option Elab.async false
set_option linter.all false
set_option maxRecDepth 100000
set_option maxHeartbeats 4000000
/-! Tuples at a list of addresses. -/
namespace GX
open PySem PySem.Spec PyProof.Rows L2
def RefsAt {α : Type} (f : α → List V) (H : Hp) (ps : List Addr) (xs : List α) : Prop := ps.length = xs.length ∧ ∀ (i : Nat) (p : Addr) (x : α), ps[i]? = some p → xs[i]? = some x → H p = some (.tup (f x))
section
variable {α : Type} {f : α → List V} {H H' : Hp} {ps : List Addr} {xs : List α}
theorem RefsAt.nil (f : α → List V) (H : Hp) : RefsAt f H [] [] := ⟨rfl, fun i p g e _ => by simp at e⟩
theorem RefsAt.mono (x : RefsAt f H ps xs) (k : ∀ b zs, H b = some (.tup zs) → H' b = some (.tup zs)) : RefsAt f H' ps xs := ⟨x.1, fun i p g e1 e2 => k _ _ (x.2 i p g e1 e2)⟩
theorem RefsAt.push {q : Addr} {y : α} (x : RefsAt f H ps xs) (h : H q = some (.tup (f y))) : RefsAt f H (ps ++ [q]) (xs ++ [y]) := by
  refine ⟨by rw [List.length_append, List.length_append, x.1]; rfl, fun i r g e1 e2 => ?_⟩
  by_cases hi : i < ps.length
  · rw [List.getElem?_append_left hi] at e1
    rw [List.getElem?_append_left (by rw [← x.1]; exact hi)] at e2
    exact x.2 i r g e1 e2
  · rw [List.getElem?_append_right (by omega)] at e1
    rw [List.getElem?_append_right (by rw [← x.1]; omega)] at e2
    have hz : i - ps.length = 0 := by
      obtain ⟨h1, _⟩ := List.getElem?_eq_some_iff.mp e1
      simp at h1
      omega
    rw [hz] at e1
    rw [← x.1, hz] at e2
    cases e1
    cases e2
    exact h
theorem RefsAt.at_ (x : RefsAt f H ps xs) {i : Nat} {v : V} (e : (ps.map V.ref)[i]? = some v) : ∃ q y, v = .ref q ∧ xs[i]? = some y ∧ H q = some (.tup (f y)) := by
  rw [List.getElem?_map] at e
  cases h : ps[i]? with
  | none => rw [h] at e; cases e
  | some q =>
    rw [h] at e
    cases e
    have h2 : i < xs.length := by rw [← x.1]; exact (List.getElem?_eq_some_iff.mp h).1
    exact ⟨q, xs[i], rfl, List.getElem?_eq_getElem h2, x.2 i q _ h (List.getElem?_eq_getElem h2)⟩
theorem RefsAt.get (x : RefsAt f H ps xs) {i : Nat} {y : α} (e : xs[i]? = some y) : ∃ q, (ps.map V.ref)[i]? = some (.ref q) ∧ H q = some (.tup (f y)) := by
  have h2 : i < ps.length := by rw [x.1]; exact (List.getElem?_eq_some_iff.mp e).1
  exact ⟨ps[i], by rw [List.getElem?_map, List.getElem?_eq_getElem h2]; rfl, x.2 i _ y (List.getElem?_eq_getElem h2) e⟩
end
end GX
namespace GX
open PySem PySem.Spec PyProof.Rows L2
/-- things of any make at a list of addresses -/
def PtsAt {α : Type} (R : Hp → Addr → α → Prop) (H : Hp) (ps : List Addr) (xs : List α) : Prop := ps.length = xs.length ∧ ∀ (i : Nat) (p : Addr) (x : α), ps[i]? = some p → xs[i]? = some x → R H p x
section
variable {α : Type} {R : Hp → Addr → α → Prop} {H H' : Hp} {ps : List Addr} {xs : List α}
theorem PtsAt.nil (R : Hp → Addr → α → Prop) (H : Hp) : PtsAt R H [] [] := ⟨rfl, fun i p g e _ => by simp at e⟩
theorem PtsAt.mono (x : PtsAt R H ps xs) (k : ∀ p y, R H p y → R H' p y) : PtsAt R H' ps xs := ⟨x.1, fun i p g e1 e2 => k _ _ (x.2 i p g e1 e2)⟩
theorem PtsAt.cons {q : Addr} {y : α} (x : PtsAt R H ps xs) (h : R H q y) : PtsAt R H (q :: ps) (y :: xs) := by
  refine ⟨by rw [List.length_cons, List.length_cons, x.1], fun i r g e1 e2 => ?_⟩
  cases i with
  | zero =>
    cases e1
    cases e2
    exact h
  | succ i => exact x.2 i r g e1 e2
theorem PtsAt.push {q : Addr} {y : α} (x : PtsAt R H ps xs) (h : R H q y) : PtsAt R H (ps ++ [q]) (xs ++ [y]) := by
  refine ⟨by rw [List.length_append, List.length_append, x.1]; rfl, fun i r g e1 e2 => ?_⟩
  by_cases hi : i < ps.length
  · rw [List.getElem?_append_left hi] at e1
    rw [List.getElem?_append_left (by rw [← x.1]; exact hi)] at e2
    exact x.2 i r g e1 e2
  · rw [List.getElem?_append_right (by omega)] at e1
    rw [List.getElem?_append_right (by rw [← x.1]; omega)] at e2
    have hz : i - ps.length = 0 := by
      obtain ⟨h1, _⟩ := List.getElem?_eq_some_iff.mp e1
      simp at h1
      omega
    rw [hz] at e1
    rw [← x.1, hz] at e2
    cases e1
    cases e2
    exact h
theorem PtsAt.at_ (x : PtsAt R H ps xs) {i : Nat} {v : V} (e : (ps.map V.ref)[i]? = some v) : ∃ q y, v = .ref q ∧ xs[i]? = some y ∧ R H q y := by
  rw [List.getElem?_map] at e
  cases h : ps[i]? with
  | none => rw [h] at e; cases e
  | some q =>
    rw [h] at e
    cases e
    have h2 : i < xs.length := by rw [← x.1]; exact (List.getElem?_eq_some_iff.mp h).1
    exact ⟨q, xs[i], rfl, List.getElem?_eq_getElem h2, x.2 i q _ h (List.getElem?_eq_getElem h2)⟩
theorem PtsAt.get (x : PtsAt R H ps xs) {i : Nat} {y : α} (e : xs[i]? = some y) : ∃ q, (ps.map V.ref)[i]? = some (.ref q) ∧ R H q y := by
  have h2 : i < ps.length := by rw [x.1]; exact (List.getElem?_eq_some_iff.mp e).1
  exact ⟨ps[i], by rw [List.getElem?_map, List.getElem?_eq_getElem h2]; rfl, x.2 i _ y (List.getElem?_eq_getElem h2) e⟩
end
end GX
set_option Elab.async false
set_option linter.all false
set_option maxRecDepth 100000
set_option maxHeartbeats 4000000
namespace GX
open PySem PySem.Spec PyProof.Rows L2
/-- the well, the tables stand; all else is kept -/
structure Dk (W : Addr) (Ts : List Addr) (H H' : Hp) : Prop where
  wl : Wl H' W
  tb : Tabs Ts H'
  kp : Keep (W :: Ts) H H'
theorem Dk.aft {W : Addr} {Ts : List Addr} {H H1 H2 : Hp} (d : Dk W Ts H H1) (a : Aft Ts H1 H2) : Dk W Ts H H2 := ⟨d.wl.keep a.kp (d.wl.tab d.tb), a.tb, d.kp.trans (a.kp.mono fun b hb => List.mem_cons_of_mem _ hb)⟩
theorem Dk.same {W : Addr} {Ts : List Addr} {H H1 H2 : Hp} (d : Dk W Ts H H1) (s : Same H1 H2) : Dk W Ts H H2 := d.aft (Aft.ofSame d.tb s)
theorem Wk.tabs {W : Addr} {Ts : List Addr} {H H1 : Hp} (wl : Wl H W) (tb : Tabs Ts H) (s : Wk W H H1) : Tabs Ts H1 := tb.keep s.kp fun b hb => by rw [List.mem_singleton.mp hb]; exact wl.tab tb
theorem Dk.draw {W : Addr} {Ts : List Addr} {H H1 H2 : Hp} (d : Dk W Ts H H1) (s : Wk W H1 H2) : Dk W Ts H H2 := ⟨s.wl, s.tabs d.wl d.tb, d.kp.trans (s.kp.mono fun b hb => by rw [List.mem_singleton.mp hb]; exact List.mem_cons_self)⟩
/-- a list of our own, made behind H, is changed -/
theorem Dk.put {W : Addr} {Ts : List Addr} {H H1 : Hp} {l : Addr} {o : HO} {xs : List V} (d : Dk W Ts H H1) (nl : H l = none) (hl : H1 l = some (.lst xs)) (nW : l ≠ W) : Dk W Ts H (upd H1 l o) :=
  ⟨by obtain ⟨x, y, z, e⟩ := d.wl; exact ⟨x, y, z, by rw [upd_ne (fun z => nW z.symm)]; exact e⟩, d.tb.upd (d.tb.lst hl), fun b u e n => by rw [upd_ne (ne_of_none e nl)]; exact d.kp b u e n⟩
theorem Dk.was {W : Addr} {Ts : List Addr} {H H1 : Hp} {l : Addr} (d : Dk W Ts H H1) (n : H1 l = none) : H l = none ∧ l ≠ W := by
  have hW : l ≠ W := fun z => by
    obtain ⟨_, _, _, e⟩ := d.wl
    rw [← z, n] at e
    cases e
  refine ⟨?_, hW⟩
  cases e : H l with
  | none => rfl
  | some u =>
    have := d.kp _ _ e fun z => by
      rcases List.mem_cons.mp z with z | z
      · exact hW z
      · exact d.tb.none n z
    rw [n] at this
    cases this
theorem Wk.put' {W : Addr} {H H' : Hp} {l : Addr} {o : HO} (s : Wk W H H') (nl : H l = none) (nW : l ≠ W) : Wk W H (upd H' l o) := by
  obtain ⟨⟨a, b, c, e⟩, k⟩ := s
  exact ⟨⟨a, b, c, by rw [upd_ne (Ne.symm nW)]; exact e⟩, fun b u e hb => by rw [upd_ne (ne_of_none e nl)]; exact k b u e hb⟩
theorem Wk.was' {W : Addr} {H H' : Hp} {l : Addr} (s : Wk W H H') (n : H' l = none) : H l = none ∧ l ≠ W := by
  obtain ⟨⟨a, b, c, e⟩, k⟩ := s
  have hW : l ≠ W := fun z => by
    rw [← z, n] at e
    cases e
  refine ⟨?_, hW⟩
  cases e : H l with
  | none => rfl
  | some u =>
    have := k _ _ e fun z => hW (List.mem_singleton.mp z)
    rw [n] at this
    cases this
theorem Wk.ats {W : Addr} {H H' : Hp} {l : Addr} {o : HO} (k : Keep [W] H H') (nW : l ≠ W) (e : H l = some o) : H' l = some o := k _ _ e fun z => nW (List.mem_singleton.mp z)
def natOf (σ : L2.St) (i : Nat) : Nat := match σ[i]? with
  | some (some (V.int z)) => z.toNat
  | _ => 0
def lenOf (σ : L2.St) (H : Hp) (i : Nat) : Nat := match σ[i]? with
  | some (some (V.ref l)) => match H l with
    | some (HO.lst xs) => xs.length
    | _ => 0
  | _ => 0
end GX
set_option Elab.async false
set_option linter.all false
set_option maxRecDepth 100000
set_option maxHeartbeats 4000000
/-! list(reversed(xs)), xs a list. -/
namespace GX
open PySem PySem.Spec PyProof.Rows L2 RT
end GX
set_option Elab.async false
set_option linter.all false
set_option maxRecDepth 100000
set_option maxHeartbeats 4000000
/-! A deck: a list with a list of cells, a seed and a count. -/
namespace GX
open PySem PySem.Spec PyProof.Rows L2
structure Wd (H : Hp) (W C : Addr) : Prop where
  ex : ∃ (ns : List Int) (a b : Int), H W = some (.lst [.ref C, .int a, .int b]) ∧ H C = some (.lst (ns.map V.int)) ∧ ns.length ≤ 64
  ne : W ≠ C
theorem Wd.nt {H : Hp} {W C : Addr} (h : Wd H W C) : ∀ b ∈ [W, C], ∀ xs, H b ≠ some (.tup xs) := fun b hb xs e => by
  obtain ⟨ns, a, c, e1, e2, _⟩ := h.ex
  rcases List.mem_cons.mp hb with z | z
  · rw [z, e1] at e
    cases e
  · rw [List.mem_singleton.mp z, e2] at e
    cases e
theorem Wd.same {H H' : Hp} {W C : Addr} (h : Wd H W C) (s : Same H H') : Wd H' W C := by
  obtain ⟨⟨ns, a, c, e1, e2, l⟩, ne⟩ := h
  exact ⟨⟨ns, a, c, s _ _ e1, s _ _ e2, l⟩, ne⟩
theorem Wd.keep {X : List Addr} {H H' : Hp} {W C : Addr} (h : Wd H W C) (k : Keep X H H') (n : W ∉ X) (m : C ∉ X) : Wd H' W C := by
  obtain ⟨⟨ns, a, c, e1, e2, l⟩, ne⟩ := h
  exact ⟨⟨ns, a, c, k _ _ e1 n, k _ _ e2 m, l⟩, ne⟩
theorem Wd.tabW {Ts : List Addr} {H : Hp} {W C : Addr} (h : Wd H W C) (t : Tabs Ts H) : W ∉ Ts := by
  obtain ⟨ns, a, c, e1, e2, _⟩ := h.ex
  exact t.lst e1
theorem Wd.tabC {Ts : List Addr} {H : Hp} {W C : Addr} (h : Wd H W C) (t : Tabs Ts H) : C ∉ Ts := by
  obtain ⟨ns, a, c, e1, e2, _⟩ := h.ex
  exact t.lst e2
/-- the deck stands, all else is kept -/
structure Wk2 (W C : Addr) (H H' : Hp) : Prop where
  wl : Wd H' W C
  kp : Keep [W, C] H H'
theorem Wk2.nxt {W C : Addr} {H H1 H2 : Hp} (s : Wk2 W C H H1) (t : Wk2 W C H1 H2) : Wk2 W C H H2 := ⟨t.wl, s.kp.trans t.kp⟩
theorem Wk2.same {W C : Addr} {H H1 H2 : Hp} (s : Wk2 W C H H1) (e : Same H1 H2) : Wk2 W C H H2 := ⟨s.wl.same e, s.kp.trans (Same.keep e)⟩
theorem Wk2.new {W C : Addr} {H H1 : Hp} {p : Addr} {o : HO} (s : Wk2 W C H H1) (n : H1 p = none) : Wk2 W C H (upd H1 p o) := s.same (Same.new n)
theorem Wk2.refl {W C : Addr} {H : Hp} (h : Wd H W C) : Wk2 W C H H := ⟨h, Keep.refl⟩
theorem Wd.tup {H H' : Hp} {W C : Addr} (h : Wd H W C) (k : Wk2 W C H H') {b : Addr} {xs : List V} (e : H b = some (.tup xs)) : H' b = some (.tup xs) := k.kp.tups h.nt b xs e
theorem Wd.new {H : Hp} {W C l : Addr} (h : Wd H W C) (n : H l = none) : l ≠ W ∧ l ≠ C := by
  obtain ⟨ns, a, c, e1, e2, _⟩ := h.ex
  refine ⟨fun z => ?_, fun z => ?_⟩
  · rw [← z, n] at e1
    cases e1
  · rw [← z, n] at e2
    cases e2
theorem Wk2.at_ {W C : Addr} {H H' : Hp} {l : Addr} {o : HO} (k : Wk2 W C H H') (n : l ≠ W ∧ l ≠ C) (e : H l = some o) : H' l = some o := k.kp _ _ e fun z => by
  rcases List.mem_cons.mp z with z | z
  · exact n.1 z
  · exact n.2 (List.mem_singleton.mp z)
theorem Wk2.was {W C : Addr} {H H' : Hp} {l : Addr} (k : Wk2 W C H H') (n : H' l = none) : H l = none := by
  obtain ⟨n1, n2⟩ := k.wl.new n
  cases e : H l with
  | none => rfl
  | some u =>
    have := k.at_ ⟨n1, n2⟩ e
    rw [n] at this
    cases this
/-- a list of our own is changed -/
theorem Wk2.put {W C : Addr} {H H' : Hp} {l : Addr} {o : HO} (s : Wk2 W C H H') (nl : H l = none) (n : l ≠ W ∧ l ≠ C) : Wk2 W C H (upd H' l o) := by
  obtain ⟨⟨⟨ns, a, c, e1, e2, z⟩, ne⟩, k⟩ := s
  exact ⟨⟨⟨ns, a, c, by rw [upd_ne (Ne.symm n.1)]; exact e1, by rw [upd_ne (Ne.symm n.2)]; exact e2, z⟩, ne⟩, fun b u e hb => by rw [upd_ne (ne_of_none e nl)]; exact k b u e hb⟩
/-- the deck, the tables stand; all else is kept -/
structure Dk2 (W C : Addr) (Ts : List Addr) (H H' : Hp) : Prop where
  wl : Wd H' W C
  tb : Tabs Ts H'
  kp : Keep (W :: C :: Ts) H H'
theorem Dk2.aft {W C : Addr} {Ts : List Addr} {H H1 H2 : Hp} (d : Dk2 W C Ts H H1) (a : Aft Ts H1 H2) : Dk2 W C Ts H H2 := ⟨d.wl.keep a.kp (d.wl.tabW d.tb) (d.wl.tabC d.tb), a.tb, d.kp.trans (a.kp.mono fun b hb => List.mem_cons_of_mem _ (List.mem_cons_of_mem _ hb))⟩
theorem Dk2.same {W C : Addr} {Ts : List Addr} {H H1 H2 : Hp} (d : Dk2 W C Ts H H1) (s : Same H1 H2) : Dk2 W C Ts H H2 := d.aft (Aft.ofSame d.tb s)
theorem Wk2.tabs {W C : Addr} {Ts : List Addr} {H H1 : Hp} (wl : Wd H W C) (tb : Tabs Ts H) (s : Wk2 W C H H1) : Tabs Ts H1 := tb.keep s.kp fun b hb => by
  rcases List.mem_cons.mp hb with z | z
  · rw [z]; exact wl.tabW tb
  · rw [List.mem_singleton.mp z]; exact wl.tabC tb
theorem Dk2.draw {W C : Addr} {Ts : List Addr} {H H1 H2 : Hp} (d : Dk2 W C Ts H H1) (s : Wk2 W C H1 H2) : Dk2 W C Ts H H2 := ⟨s.wl, s.tabs d.wl d.tb, d.kp.trans (s.kp.mono fun b hb => by
  rcases List.mem_cons.mp hb with z | z
  · rw [z]; exact List.mem_cons_self
  · rw [List.mem_singleton.mp z]; exact List.mem_cons_of_mem _ List.mem_cons_self)⟩
theorem Dk2.put {W C : Addr} {Ts : List Addr} {H H1 : Hp} {l : Addr} {o : HO} {xs : List V} (d : Dk2 W C Ts H H1) (nl : H l = none) (hl : H1 l = some (.lst xs)) (n : l ≠ W ∧ l ≠ C) : Dk2 W C Ts H (upd H1 l o) :=
  ⟨by obtain ⟨⟨ns, x, y, e, e2, z⟩, ne⟩ := d.wl; exact ⟨⟨ns, x, y, by rw [upd_ne (Ne.symm n.1)]; exact e, by rw [upd_ne (Ne.symm n.2)]; exact e2, z⟩, ne⟩, d.tb.upd (d.tb.lst hl), fun b u e m => by rw [upd_ne (ne_of_none e nl)]; exact d.kp b u e m⟩
theorem Dk2.was {W C : Addr} {Ts : List Addr} {H H1 : Hp} {l : Addr} (d : Dk2 W C Ts H H1) (n : H1 l = none) : H l = none := by
  obtain ⟨n1, n2⟩ := d.wl.new n
  cases e : H l with
  | none => rfl
  | some u =>
    have := d.kp _ _ e fun z => by
      rcases List.mem_cons.mp z with z | z
      · exact n1 z
      · rcases List.mem_cons.mp z with z | z
        · exact n2 z
        · exact d.tb.none n z
    rw [n] at this
    cases this
/-- a while by a measure, its test read once -/
theorem while_at {c : TT} {tb : TS} {D : Ends} {σ : L2.St} {H : Hp} (Pv : L2.St → Hp → Prop) (μ : L2.St → Hp → Nat) (h0 : Pv σ H)
    (hs : ∀ σ H, Pv σ H → c σ H fun b H1 => if b = true then ∃ N : L2.St → Hp → Prop, (∀ σ' H', N σ' H' → ∃ m', m' < μ σ H ∧ (m' = μ σ' H' ∧ Pv σ' H')) ∧ tb { D with nx := N, ct := N, bk := D.nx } σ H1 else D.nx σ H1) : tWhile c tb D σ H := by
  refine ⟨fun m σ H => m = μ σ H ∧ Pv σ H, ⟨_, rfl, h0⟩, ?_⟩
  rintro m σ H ⟨rfl, p⟩
  exact hs σ H p
theorem whN {Pv : L2.St → Hp → Prop} {μ : L2.St → Hp → Nat} {m : Nat} : ∀ σ' H', (Pv σ' H' ∧ μ σ' H' < m) → ∃ m', m' < m ∧ (m' = μ σ' H' ∧ Pv σ' H') := fun σ' H' h => ⟨_, h.2, rfl, h.1⟩
end GX
set_option Elab.async false
set_option linter.all false
set_option maxRecDepth 100000
set_option maxHeartbeats 4000000
/-! Covers as data, and how they stand in the heap; dicts of wires. -/
namespace GX
open PySem PySem.Spec PyProof.Rows L2
theorem Same.was {H H' : Hp} {l : Addr} (s : Same H H') (n : H' l = none) : H l = none := by
  cases e : H l with
  | none => rfl
  | some u => cases ((s _ _ e).symm.trans n)
abbrev Tb := Nat × List Nat
def TbAt (H : Hp) (p : Addr) (t : Tb) : Prop := ∃ c, H p = some (.tup [nV t.1, .ref c]) ∧ H c = some (.tup (t.2.map nV))
theorem TbAt.mono {H H' : Hp} (k : ∀ b xs, H b = some (.tup xs) → H' b = some (.tup xs)) (p : Addr) (t : Tb) (x : TbAt H p t) : TbAt H' p t := by
  obtain ⟨c, h1, h2⟩ := x
  exact ⟨c, k _ _ h1, k _ _ h2⟩
structure CovAt (H : Hp) (a : Addr) (cv : List Tb) (ps : List Addr) : Prop where
  top : H a = some (.tup (ps.map V.ref))
  ts : PtsAt TbAt H ps cv
theorem CovAt.mono {H H' : Hp} {a : Addr} {cv : List Tb} {ps : List Addr} (x : CovAt H a cv ps) (k : ∀ b xs, H b = some (.tup xs) → H' b = some (.tup xs)) : CovAt H' a cv ps := ⟨k _ _ x.top, x.ts.mono (TbAt.mono k)⟩
theorem CovAt.same {H H' : Hp} {a : Addr} {cv : List Tb} {ps : List Addr} (x : CovAt H a cv ps) (s : Same H H') : CovAt H' a cv ps := x.mono fun b xs e => s _ _ e
inductive Need (n : Net) (cv : List Tb) : Nat → Prop
  | out {o : Nat} : o ∈ n.outs → n.many ≤ o → Need n cv o
  | step {t : Tb} {x : Nat} : t ∈ cv → Need n cv t.1 → x ∈ t.2 → n.many ≤ x → Need n cv x
theorem Need.more {n : Net} {cv cv' : List Tb} (s : ∀ t ∈ cv, t ∈ cv') {x : Nat} (h : Need n cv x) : Need n cv' x := by
  induction h with
  | out h1 h2 => exact .out h1 h2
  | step ht _ hx hm ih => exact .step (s _ ht) ih hx hm
structure CovOk (n : Net) (k : Nat) (cv : List Tb) : Prop where
  rise : cv.Pairwise (fun a b => a.1 < b.1)
  gt : ∀ t ∈ cv, n.many ≤ t.1 ∧ t.1 < n.many + n.gates.length
  cut : ∀ t ∈ cv, CutOk n t.1 t.2 ∧ t.2.length ≤ k
  outs : ∀ o ∈ n.outs, n.many ≤ o → ∃ t ∈ cv, t.1 = o
  clo : ∀ t ∈ cv, ∀ x ∈ t.2, n.many ≤ x → ∃ u ∈ cv, u.1 = x
theorem CovOk.len {n : Net} (ok : n.Ok) {k : Nat} {cv : List Tb} (c : CovOk n k cv) : cv.length ≤ 24 := by
  have h1 : (cv.map fun t : Tb => t.1).Nodup := by
    rw [List.nodup_iff_pairwise_ne, List.pairwise_map]
    exact c.rise.imp fun h => Nat.ne_of_lt h
  have := nodup_lt (m := n.many + n.gates.length) h1 fun y hy => by
    obtain ⟨t, ht, rfl⟩ := List.mem_map.mp hy
    exact (c.gt t ht).2
  rw [List.length_map] at this
  have := ok.m8
  have := ok.g16
  omega
/-! ### a dict whose keys are these numbers -/
def nK (x : Nat) : L2.Key := .inl (x : Int)
theorem nK_inj {x y : Nat} (h : nK x = nK y) : x = y := by
  have := Sum.inl.inj h
  omega
def KeysAt (H : Hp) (d : Addr) (S : Nat → Prop) (b : Nat) : Prop := ∃ kvs : List (L2.Key × V), H d = some (.dK kvs) ∧ kvs.length ≤ b ∧ ∀ x : Nat, (valV kvs (nK x)).isSome = true ↔ S x
theorem KeysAt.nil {H : Hp} {d : Addr} (h : H d = some (.dK [])) : KeysAt H d (fun _ => False) 0 := ⟨[], h, Nat.le_refl _, fun x => by rw [valV_nil]; exact ⟨fun z => (by cases z), fun z => z.elim⟩⟩
end GX
set_option Elab.async false
set_option linter.all false
set_option maxRecDepth 100000
set_option maxHeartbeats 4000000
/-! Least cuts, as lists and as masks. -/
namespace GX
open PySem PySem.Spec PyProof.Rows L2
/-! ### what tells -/
theorem Rc.via {n : Net} {st : List Nat} {g a y : Nat} {k : Nat × Nat × Nat} (hg : n.many ≤ g) (hk : n.gates[g - n.many]? = some k) (hp : a = k.2.1 ∨ a = k.2.2) (gs : g ∉ st) (r : Rc n st a n.many y) : Rc n st g n.many y := by
  induction r with
  | here h => exact .step (.here gs) hg hg hk hp h
  | step _ hg' hj hk' hp' hs ih => exact .step ih hg' hj hk' hp' hs
theorem Rc.split {n : Net} {st : List Nat} {g y : Nat} {k : Nat × Nat × Nat} (hk : n.gates[g - n.many]? = some k) (r : Rc n st g n.many y) : y = g ∨ Rc n st k.2.1 n.many y ∨ Rc n st k.2.2 n.many y := by
  induction r with
  | here h => exact .inl rfl
  | @step g' p k' _ hg' hj hk' hp' hs ih =>
    rcases ih with e | h | h
    · subst e
      rw [hk] at hk'
      cases hk'
      rcases hp' with rfl | rfl
      · exact .inr (.inl (.here hs))
      · exact .inr (.inr (.here hs))
    · exact .inr (.inl (.step h hg' hj hk' hp' hs))
    · exact .inr (.inr (.step h hg' hj hk' hp' hs))
theorem sep_gate {n : Net} {st : List Nat} {g : Nat} {k : Nat × Nat × Nat} (hg : n.many ≤ g) (hk : n.gates[g - n.many]? = some k) (gs : g ∉ st) : Sep n g st ↔ (Sep n k.2.1 st ∧ Sep n k.2.2 st) := by
  refine ⟨fun h => ⟨fun y r => h y (r.via hg hk (.inl rfl) gs), fun y r => h y (r.via hg hk (.inr rfl) gs)⟩, fun h y r => ?_⟩
  rcases r.split hk with e | r | r
  · rw [e]; exact hg
  · exact h.1 y r
  · exact h.2 y r
theorem sep_in {n : Net} {w : Nat} {st : List Nat} (h : w ∈ st) : Sep n w st := fun y r => by
  exfalso
  induction r with
  | here z => exact z h
  | step _ _ _ _ _ _ ih => exact ih
theorem sep_input {n : Net} {w : Nat} {st : List Nat} (h : w < n.many) : Sep n w st ↔ w ∈ st := by
  refine ⟨fun s => Classical.not_not.mp fun z => ?_, sep_in⟩
  have := s w (.here z)
  omega
theorem sep_none {n : Net} (ok : n.Ok) : ∀ b w, w ≤ b → w < n.many + n.gates.length → ¬ Sep n w []
  | b, w, hb, hw => fun s => by
    by_cases h : w < n.many
    · exact absurd ((sep_input h).mp s) List.not_mem_nil
    · obtain ⟨k, hk⟩ : ∃ k, n.gates[w - n.many]? = some k := ⟨_, List.getElem?_eq_getElem (by omega)⟩
      have lt := place_lt ok (by omega) hk (.inl rfl)
      cases b with
      | zero => omega
      | succ b => exact sep_none ok b k.2.1 (by omega) (by omega) ((sep_gate (by omega) hk List.not_mem_nil).mp s).1
theorem sep_congr {n : Net} {w : Nat} {st st' : List Nat} (h : ∀ x, x ∈ st ↔ x ∈ st') : Sep n w st ↔ Sep n w st' := ⟨fun s => s.more fun z hz => (h z).mp hz, fun s => s.more fun z hz => (h z).mpr hz⟩
/-- only wires up to w matter -/
theorem sep_low {n : Net} (ok : n.Ok) {w : Nat} {st st' : List Nat} (h : ∀ x, x ≤ w → x ∈ st → x ∈ st') (s : Sep n w st) : Sep n w st' := fun y r => by
  refine s y ?_
  induction r with
  | here z => exact .here fun z' => z (h _ (Nat.le_refl _) z')
  | step r hg hj hk hp hs ih => exact .step ih hg hj hk hp fun z' => hs (h _ ((Rc.step r hg hj hk hp hs).le ok) z')
/-! ### masks -/
def bitsOf (M : Nat) : List Nat := (List.range (Builtin.Int.intBits ((M : Nat) : Int))).filter fun x => M.testBit x
theorem mem_bits {M x : Nat} : x ∈ bitsOf M ↔ M.testBit x = true := by
  unfold bitsOf
  rw [List.mem_filter, List.mem_range]
  refine ⟨fun h => h.2, fun h => ⟨?_, h⟩⟩
  refine Nat.lt_of_not_le fun hle => ?_
  rw [intBits_le_iff, Int.natAbs_natCast] at hle
  rw [Nat.testBit_lt_two_pow hle] at h
  cases h
theorem bits_rise (M : Nat) : (bitsOf M).Pairwise (· < ·) := List.Pairwise.filter _ List.pairwise_lt_range
theorem bits_nodup (M : Nat) : (bitsOf M).Nodup := (bits_rise M).imp fun h => Nat.ne_of_lt h
theorem bits_inj {M N : Nat} (h : bitsOf M = bitsOf N) : M = N := by
  apply Nat.eq_of_testBit_eq
  intro j
  have : j ∈ bitsOf M ↔ j ∈ bitsOf N := by rw [h]
  rw [mem_bits, mem_bits] at this
  cases e : M.testBit j <;> cases e2 : N.testBit j <;> simp_all
def maskOf (c : List Nat) : Nat := c.foldr (fun x acc => 2 ^ x ||| acc) 0
theorem mask_bit (c : List Nat) (j : Nat) : (maskOf c).testBit j = decide (j ∈ c) := by
  induction c with
  | nil => exact Nat.zero_testBit j
  | cons x r ih =>
    show (2 ^ x ||| maskOf r).testBit j = _
    rw [Nat.testBit_or, ih, Nat.testBit_two_pow]
    rw [Bool.eq_iff_iff, Bool.or_eq_true, decide_eq_true_iff, decide_eq_true_iff, decide_eq_true_iff, List.mem_cons]
    exact ⟨fun h => h.imp Eq.symm id, fun h => h.imp Eq.symm id⟩
theorem bits_mask {c : List Nat} (h : c.Pairwise (· < ·)) : bitsOf (maskOf c) = c := rise_eq (bits_rise _) h fun z => by rw [mem_bits, mask_bit, decide_eq_true_iff]
def Sub (f M : Nat) : Prop := ∀ j, f.testBit j = true → M.testBit j = true
theorem Sub.refl (M : Nat) : Sub M M := fun _ h => h
theorem Sub.trans {a b c : Nat} (h : Sub a b) (g : Sub b c) : Sub a c := fun j x => g j (h j x)
theorem sub_and {f M : Nat} : f &&& M = f ↔ Sub f M := by
  refine ⟨fun h j hj => ?_, fun h => ?_⟩
  · rw [← h, Nat.testBit_and, Bool.and_eq_true] at hj
    exact hj.2
  · apply Nat.eq_of_testBit_eq
    intro j
    rw [Nat.testBit_and]
    cases e : f.testBit j with
    | false => rfl
    | true => rw [h j e]; rfl
theorem Sub.le {f M : Nat} (h : Sub f M) : f ≤ M := by
  rw [← sub_and.mpr h]
  exact Nat.and_le_right
theorem Sub.anti {f M : Nat} (h : Sub f M) (g : Sub M f) : f = M := Nat.le_antisymm h.le g.le
theorem sub_zero {M : Nat} : Sub 0 M := fun j h => by rw [Nat.zero_testBit] at h; cases h
def pop (M : Nat) : Nat := (bitsOf M).length
theorem pop_sub {f M : Nat} (h : Sub f M) : pop f ≤ pop M := nodup_len (bits_nodup f) fun x hx => mem_bits.mpr (h x (mem_bits.mp hx))
theorem sub_or_left (f s : Nat) : Sub f (f ||| s) := fun j h => by rw [Nat.testBit_or, h]; rfl
theorem sub_or_right (f s : Nat) : Sub s (f ||| s) := fun j h => by rw [Nat.testBit_or, h, Bool.or_true]
theorem or_sub {f s M : Nat} (h : Sub f M) (g : Sub s M) : Sub (f ||| s) M := fun j hj => by
  rw [Nat.testBit_or, Bool.or_eq_true] at hj
  exact hj.elim (h j) (g j)
def Tm (n : Net) (w M : Nat) : Prop := Sep n w (bitsOf M)
theorem Tm.more {n : Net} {w M N : Nat} (h : Tm n w M) (s : Sub M N) : Tm n w N := Sep.more h fun z hz => mem_bits.mpr (s z (mem_bits.mp hz))
structure MinT (n : Net) (w M : Nat) : Prop where
  tl : Tm n w M
  min : ∀ f, Sub f M → Tm n w f → f = M
theorem min_ex {n : Net} {w : Nat} : ∀ b M, M ≤ b → Tm n w M → ∃ f, Sub f M ∧ MinT n w f
  | b, M, hb, h => by
    by_cases hm : ∀ f, Sub f M → Tm n w f → f = M
    · exact ⟨M, Sub.refl M, h, hm⟩
    · obtain ⟨f, hf⟩ := Classical.not_forall.mp hm
      obtain ⟨h1, h2⟩ := Classical.not_imp.mp hf
      obtain ⟨h3, h4⟩ := Classical.not_imp.mp h2
      have := h1.le
      cases b with
      | zero => omega
      | succ b =>
        obtain ⟨e, e1, e2⟩ := min_ex b f (by omega) h3
        exact ⟨e, e1.trans h1, e2⟩
theorem tm_zero {n : Net} (ok : n.Ok) {w : Nat} (hw : w < n.many + n.gates.length) : ¬ Tm n w 0 := by
  have : bitsOf 0 = [] := List.eq_nil_iff_forall_not_mem.mpr fun x hx => by
    have := mem_bits.mp hx
    rw [Nat.zero_testBit] at this
    cases this
  unfold Tm
  rw [this]
  exact sep_none ok w w (Nat.le_refl _) hw
/-- no greater wires -/
theorem MinT.low {n : Net} (ok : n.Ok) {w M : Nat} (h : MinT n w M) : ∀ x, M.testBit x = true → x ≤ w := fun x hx => by
  have e : M % 2 ^ (w + 1) = M := h.min _ (fun j hj => by
      rw [Nat.testBit_mod_two_pow, Bool.and_eq_true] at hj
      exact hj.2) (sep_low ok (fun y hy hm => mem_bits.mpr (by
        rw [Nat.testBit_mod_two_pow, decide_eq_true (by omega), Bool.true_and]
        exact mem_bits.mp hm)) h.tl)
  rw [← e, Nat.testBit_mod_two_pow, Bool.and_eq_true] at hx
  have := of_decide_eq_true hx.1
  omega
theorem bit_self (w : Nat) : (2 ^ w).testBit w = true := by rw [Nat.testBit_two_pow]; exact decide_eq_true rfl
theorem tm_self {n : Net} {w M : Nat} (h : M.testBit w = true) : Tm n w M := sep_in (mem_bits.mpr h)
theorem sub_pow {f w : Nat} (h : Sub f (2 ^ w)) : f = 0 ∨ f = 2 ^ w := by
  by_cases e : f.testBit w = true
  · right
    exact h.anti fun j hj => by
      rw [Nat.testBit_two_pow] at hj
      rw [← of_decide_eq_true hj]
      exact e
  · left
    apply Nat.eq_of_testBit_eq
    intro j
    rw [Nat.zero_testBit]
    cases e2 : f.testBit j with
    | false => rfl
    | true =>
      have := h j e2
      rw [Nat.testBit_two_pow] at this
      rw [of_decide_eq_true this] at e
      exact absurd e2 e
theorem min_pow {n : Net} (ok : n.Ok) {w : Nat} (hw : w < n.many + n.gates.length) : MinT n w (2 ^ w) := by
  refine ⟨tm_self (bit_self w), fun f hf ht => ?_⟩
  rcases sub_pow hf with e | e
  · rw [e] at ht
    exact absurd ht (tm_zero ok hw)
  · exact e
theorem min_has {n : Net} {w M : Nat} (h : MinT n w M) (e : M.testBit w = true) : M = 2 ^ w := by
  refine (h.min (2 ^ w) (fun j hj => ?_) (tm_self (bit_self w))).symm
  rw [Nat.testBit_two_pow] at hj
  rw [← of_decide_eq_true hj]
  exact e
theorem pop_pow (w : Nat) : pop (2 ^ w) = 1 := by
  have : bitsOf (2 ^ w) = [w] := rise_eq (bits_rise _) (List.pairwise_singleton _ _) fun z => by
    rw [mem_bits, Nat.testBit_two_pow, decide_eq_true_iff, List.mem_singleton]
    exact eq_comm
  unfold pop
  rw [this]
  rfl
/-- the masks of a wire -/
def ML (n : Net) (k w : Nat) (ms : List Nat) : Prop := ∀ M, M ∈ ms ↔ (MinT n w M ∧ pop M ≤ k ∧ M.testBit w = false)
theorem ML.input {n : Net} {k w : Nat} (h : w < n.many) : ML n k w [] := fun M => ⟨fun z => (by cases z), fun z => by
  have := mem_bits.mp ((sep_input h).mp z.1.tl)
  rw [z.2.2] at this
  cases this⟩
theorem ML.full {n : Net} (ok : n.Ok) {k w : Nat} {ms : List Nat} (hw : w < n.many + n.gates.length) (hk : 1 ≤ k) (h : ML n k w ms) (M : Nat) : M ∈ ms ++ [2 ^ w] ↔ (MinT n w M ∧ pop M ≤ k) := by
  rw [List.mem_append, List.mem_singleton, h]
  constructor
  · rintro (z | rfl)
    · exact ⟨z.1, z.2.1⟩
    · exact ⟨min_pow ok hw, by rw [pop_pow]; exact hk⟩
  · rintro ⟨h1, h2⟩
    cases e : M.testBit w with
    | false => exact .inl ⟨h1, h2, rfl⟩
    | true => exact .inr (min_has h1 e)
/-- what is found for a gate -/
def Found (k : Nat) (fs ss F : List Nat) : Prop := ∀ M, M ∈ F ↔ ∃ f ∈ fs, ∃ s ∈ ss, M = f ||| s ∧ pop M ≤ k
def hasPart (F : List Nat) (M : Nat) : Bool := F.any fun p => decide (0 < p ∧ p ≠ M ∧ p &&& M = p)
theorem hasPart_iff {F : List Nat} {M : Nat} : hasPart F M = true ↔ ∃ p ∈ F, 0 < p ∧ p ≠ M ∧ Sub p M := by
  unfold hasPart
  rw [List.any_eq_true]
  constructor
  · rintro ⟨p, hp, h⟩
    obtain ⟨h1, h2, h3⟩ := of_decide_eq_true h
    exact ⟨p, hp, h1, h2, sub_and.mp h3⟩
  · rintro ⟨p, hp, h1, h2, h3⟩
    exact ⟨p, hp, decide_eq_true ⟨h1, h2, sub_and.mpr h3⟩⟩
theorem gate_found {n : Net} (ok : n.Ok) {k g : Nat} {kk : Nat × Nat × Nat} {fs ss F : List Nat} (hg : n.many ≤ g) (hw : g < n.many + n.gates.length) (hkk : n.gates[g - n.many]? = some kk)
    (hf : ∀ M, M ∈ fs ↔ (MinT n kk.2.1 M ∧ pop M ≤ k)) (hs : ∀ M, M ∈ ss ↔ (MinT n kk.2.2 M ∧ pop M ≤ k)) (hF : Found k fs ss F) : ML n k g (F.filter fun M => !hasPart F M) := by
  have l1 := place_lt ok hg hkk (.inl rfl)
  have l2 := place_lt ok hg hkk (.inr rfl)
  have nog : ∀ M ∈ F, M.testBit g = false := fun M hM => by
    obtain ⟨f, h1, s, h2, rfl, _⟩ := (hF M).mp hM
    rw [Nat.testBit_or]
    cases e1 : f.testBit g with
    | true =>
      have := ((hf f).mp h1).1.low ok g e1
      omega
    | false =>
      cases e2 : s.testBit g with
      | true =>
        have := ((hs s).mp h2).1.low ok g e2
        omega
      | false => rfl
  have tell : ∀ M ∈ F, Tm n g M := fun M hM => by
    have hn : g ∉ bitsOf M := fun z => by
      have := mem_bits.mp z
      rw [nog M hM] at this
      cases this
    obtain ⟨f, h1, s, h2, rfl, _⟩ := (hF M).mp hM
    exact (sep_gate hg hkk hn).mpr ⟨((hf f).mp h1).1.tl.more (sub_or_left f s), ((hs s).mp h2).1.tl.more (sub_or_right f s)⟩
  have below : ∀ M, Tm n g M → M.testBit g = false → pop M ≤ k → ∃ M' ∈ F, Sub M' M := fun M ht hb hp => by
    have hn : g ∉ bitsOf M := fun z => by
      have := mem_bits.mp z
      rw [hb] at this
      cases this
    obtain ⟨t1, t2⟩ := (sep_gate hg hkk hn).mp ht
    obtain ⟨f, f1, f2⟩ := min_ex M M (Nat.le_refl _) t1
    obtain ⟨s, s1, s2⟩ := min_ex M M (Nat.le_refl _) t2
    have hsub := or_sub f1 s1
    exact ⟨f ||| s, (hF _).mpr ⟨f, (hf f).mpr ⟨f2, Nat.le_trans (pop_sub f1) hp⟩, s, (hs s).mpr ⟨s2, Nat.le_trans (pop_sub s1) hp⟩, rfl, Nat.le_trans (pop_sub hsub) hp⟩, hsub⟩
  have popF : ∀ M ∈ F, pop M ≤ k := fun M hM => by
    obtain ⟨_, _, _, _, _, h⟩ := (hF M).mp hM
    exact h
  intro M
  rw [List.mem_filter]
  constructor
  · rintro ⟨hM, hp⟩
    refine ⟨⟨tell M hM, fun f hf ht => Classical.not_not.mp fun ne => ?_⟩, popF M hM, nog M hM⟩
    have fb : f.testBit g = false := by
      cases e : f.testBit g with
      | false => rfl
      | true =>
        have := hf g e
        rw [nog M hM] at this
        cases this
    obtain ⟨M', h1, h2⟩ := below f ht fb (Nat.le_trans (pop_sub hf) (popF M hM))
    have hpart : hasPart F M = true := hasPart_iff.mpr ⟨M', h1, Nat.pos_of_ne_zero fun z => tm_zero ok hw (by rw [← z]; exact tell M' h1), fun z => ne (hf.anti (by rw [← z]; exact h2)), h2.trans hf⟩
    rw [hpart] at hp
    cases hp
  · rintro ⟨hm, hp, hb⟩
    obtain ⟨M', h1, h2⟩ := below M hm.tl hb hp
    have e : M' = M := hm.min M' h2 (tell M' h1)
    rw [e] at h1
    refine ⟨h1, ?_⟩
    cases hh : hasPart F M with
    | false => rfl
    | true =>
      obtain ⟨p, p1, p2, p3, p4⟩ := hasPart_iff.mp hh
      exact absurd (hm.min p p4 (tell p p1)) p3
/-! ### cuts as lists -/
structure LC (n : Net) (k g : Nat) (c : List Nat) : Prop where
  rise : c.Pairwise (· < ·)
  lt : ∀ x ∈ c, x < g
  sep : Sep n g c
  len : c.length ≤ k
  least : ∀ x ∈ c, ¬ Sep n g (c.filter fun y => decide (y ≠ x))
theorem lc_bits {n : Net} (ok : n.Ok) {k g M : Nat} (h : MinT n g M ∧ pop M ≤ k ∧ M.testBit g = false) : LC n k g (bitsOf M) := by
  obtain ⟨h1, h2, h3⟩ := h
  refine ⟨bits_rise M, fun x hx => ?_, h1.tl, h2, fun x hx hs => ?_⟩
  · have e := mem_bits.mp hx
    have := h1.low ok x e
    refine Nat.lt_of_le_of_ne this fun z => ?_
    rw [z, h3] at e
    cases e
  · have hr : ((bitsOf M).filter fun y => decide (y ≠ x)).Pairwise (· < ·) := (bits_rise M).filter _
    have ht : Tm n g (maskOf ((bitsOf M).filter fun y => decide (y ≠ x))) := by
      unfold Tm
      rw [bits_mask hr]
      exact hs
    have e := h1.min _ (fun j hj => by
      rw [mask_bit, decide_eq_true_iff] at hj
      exact mem_bits.mp (List.mem_filter.mp hj).1) ht
    have := mem_bits.mp hx
    rw [← e, mask_bit, decide_eq_true_iff] at this
    exact of_decide_eq_true (List.mem_filter.mp this).2 rfl
theorem bits_lc {n : Net} {k g : Nat} {c : List Nat} (h : LC n k g c) : MinT n g (maskOf c) ∧ pop (maskOf c) ≤ k ∧ (maskOf c).testBit g = false := by
  refine ⟨⟨by unfold Tm; rw [bits_mask h.rise]; exact h.sep, fun f hf ht => ?_⟩, by unfold pop; rw [bits_mask h.rise]; exact h.len, ?_⟩
  · refine Classical.not_not.mp fun ne => ?_
    obtain ⟨x, hx1, hx2⟩ : ∃ x, x ∈ c ∧ f.testBit x = false := by
      refine Classical.not_not.mp fun z => ne (hf.anti fun j hj => ?_)
      rw [mask_bit, decide_eq_true_iff] at hj
      cases e : f.testBit j with
      | true => rfl
      | false => exact absurd ⟨j, hj, e⟩ z
    refine h.least x hx1 (Sep.more ht fun z hz => List.mem_filter.mpr ⟨?_, decide_eq_true fun e => ?_⟩)
    · have := hf z (mem_bits.mp hz)
      rw [mask_bit, decide_eq_true_iff] at this
      exact this
    · have := mem_bits.mp hz
      rw [e, hx2] at this
      cases this
  · rw [mask_bit]
    exact decide_eq_false fun z => absurd (h.lt g z) (Nat.lt_irrefl _)
/-- the cuts of a gate, in order -/
abbrev lexN (a b : List Nat) : Bool := HT.lexLt (a.map fun n : Nat => (n : Int)) (b.map fun n : Nat => (n : Int))
structure CutsAre (n : Net) (k g : Nat) (cs : List (List Nat)) : Prop where
  mem : ∀ c, c ∈ cs ↔ LC n k g c
  nd : cs.Nodup
  srt : cs.Pairwise fun a b => lexN b a = false
theorem lex_tri : ∀ a b : List Nat, lexN a b = false → lexN b a = false → a = b
  | [], [], _, _ => rfl
  | [], y :: b, h, _ => by cases h
  | x :: a, [], _, h => by cases h
  | x :: a, y :: b, h1, h2 => by
    have h1' : (if ((x : Nat) : Int) = ((y : Nat) : Int) then lexN a b else decide (((x : Nat) : Int) < ((y : Nat) : Int))) = false := h1
    have h2' : (if ((y : Nat) : Int) = ((x : Nat) : Int) then lexN b a else decide (((y : Nat) : Int) < ((x : Nat) : Int))) = false := h2
    by_cases e : x = y
    · subst e
      rw [if_pos rfl] at h1' h2'
      rw [lex_tri a b h1' h2']
    · rw [if_neg (by omega)] at h1' h2'
      have := of_decide_eq_false h1'
      have := of_decide_eq_false h2'
      omega
theorem lex_uniq : ∀ {l m : List (List Nat)}, l.Nodup → m.Nodup → l.Pairwise (fun a b => lexN b a = false) → m.Pairwise (fun a b => lexN b a = false) → (∀ c, c ∈ l ↔ c ∈ m) → l = m
  | [], m, _, _, _, _, h => (List.eq_nil_iff_forall_not_mem.mpr fun x hx => by cases (h x).mpr hx).symm
  | x :: l, [], _, _, _, _, h => by cases (h x).mp List.mem_cons_self
  | x :: l, y :: m, n1, n2, s1, s2, h => by
    obtain ⟨a1, a2⟩ := List.pairwise_cons.mp s1
    obtain ⟨b1, b2⟩ := List.pairwise_cons.mp s2
    obtain ⟨c1, c2⟩ := List.nodup_cons.mp n1
    obtain ⟨d1, d2⟩ := List.nodup_cons.mp n2
    have e : x = y := by
      refine Classical.not_not.mp fun ne => ne ?_
      have hx := (List.mem_cons.mp ((h x).mp List.mem_cons_self)).resolve_left ne
      have hy := (List.mem_cons.mp ((h y).mpr List.mem_cons_self)).resolve_left (Ne.symm ne)
      exact lex_tri x y (b1 x hx) (a1 y hy)
    subst e
    rw [lex_uniq c2 d2 a2 b2 fun c => ?_]
    refine ⟨fun hc => ?_, fun hc => ?_⟩
    · exact (List.mem_cons.mp ((h c).mp (List.mem_cons_of_mem _ hc))).resolve_left fun z => c1 (by rw [← z]; exact hc)
    · exact (List.mem_cons.mp ((h c).mpr (List.mem_cons_of_mem _ hc))).resolve_left fun z => d1 (by rw [← z]; exact hc)
theorem CutsAre.uniq {n : Net} {k g : Nat} {cs ds : List (List Nat)} (h : CutsAre n k g cs) (d : CutsAre n k g ds) : cs = ds := lex_uniq h.nd d.nd h.srt d.srt fun c => (h.mem c).trans (d.mem c).symm
theorem cuts_of_masks {n : Net} (ok : n.Ok) {k g : Nat} {ms : List Nat} (h : ML n k g ms) (nd : ms.Nodup) {cs : List (List Nat)} (pm : cs.Perm (ms.map bitsOf)) (srt : cs.Pairwise fun a b => lexN b a = false) : CutsAre n k g cs := by
  refine ⟨fun c => ?_, ?_, srt⟩
  · rw [pm.mem_iff, List.mem_map]
    constructor
    · rintro ⟨M, hM, rfl⟩
      exact lc_bits ok ((h M).mp hM)
    · intro hc
      exact ⟨maskOf c, (h _).mpr (bits_lc hc), bits_mask hc.rise⟩
  · refine pm.nodup_iff.mpr ?_
    rw [List.nodup_iff_pairwise_ne, List.pairwise_map]
    exact (List.nodup_iff_pairwise_ne.mp nd).imp fun h e => h (bits_inj e)
/-! ### taking bits away -/
theorem clow_bit : ∀ b x, x ≤ b → x ≠ 0 → ∃ l, x.testBit l = true ∧ ∀ j, (x &&& (x - 1)).testBit j = (x.testBit j && decide (j ≠ l))
  | 0, x, hb, h0 => absurd (Nat.le_zero.mp hb) h0
  | b + 1, x, hb, h0 => by
    by_cases e : x % 2 = 1
    · refine ⟨0, by rw [Nat.testBit_zero]; exact decide_eq_true e, fun j => ?_⟩
      cases j with
      | zero => rw [Nat.testBit_and, Nat.testBit_zero, Nat.testBit_zero, decide_eq_false (p := (x - 1) % 2 = 1) (by omega), Bool.and_false, decide_eq_false (p := 0 ≠ 0) (fun z => z rfl), Bool.and_false]
      | succ j => rw [Nat.testBit_and, Nat.testBit_add_one, Nat.testBit_add_one, show (x - 1) / 2 = x / 2 by omega, Bool.and_self, decide_eq_true (by omega), Bool.and_true]
    · obtain ⟨l, h1, h2⟩ := clow_bit b (x / 2) (by omega) (by omega)
      refine ⟨l + 1, by rw [Nat.testBit_add_one]; exact h1, fun j => ?_⟩
      cases j with
      | zero => rw [Nat.testBit_and, Nat.testBit_zero, decide_eq_false e, Bool.false_and, Bool.false_and]
      | succ j =>
        rw [Nat.testBit_and, Nat.testBit_add_one, Nat.testBit_add_one, show (x - 1) / 2 = x / 2 - 1 by omega, ← Nat.testBit_and, h2 j]
        congr 1
        exact decide_eq_decide.mpr (by omega)
theorem pop_clow {x : Nat} (h : x ≠ 0) : pop (x &&& (x - 1)) + 1 = pop x := by
  obtain ⟨l, h1, h2⟩ := clow_bit x x (Nat.le_refl _) h
  have hb : ∀ j, j ∈ bitsOf (x &&& (x - 1)) ↔ (j ∈ bitsOf x ∧ j ≠ l) := fun j => by rw [mem_bits, h2, Bool.and_eq_true, decide_eq_true_iff, mem_bits]
  have pm : (l :: bitsOf (x &&& (x - 1))).Perm (bitsOf x) := by
    refine (List.perm_ext_iff_of_nodup (List.nodup_cons.mpr ⟨fun z => ((hb l).mp z).2 rfl, bits_nodup _⟩) (bits_nodup _)).mpr fun j => ?_
    rw [List.mem_cons, hb]
    constructor
    · rintro (rfl | h)
      · exact mem_bits.mpr h1
      · exact h.1
    · intro h
      by_cases e : j = l
      · exact .inl e
      · exact .inr ⟨h, e⟩
  exact pm.length_eq
theorem pop_zero_iff {x : Nat} : pop x = 0 ↔ x = 0 := by
  constructor
  · intro h
    refine Classical.not_not.mp fun z => ?_
    have := pop_clow z
    omega
  · rintro rfl
    have : bitsOf 0 = [] := List.eq_nil_iff_forall_not_mem.mpr fun x hx => by
      have := mem_bits.mp hx
      rw [Nat.zero_testBit] at this
      cases this
    unfold pop
    rw [this]
    rfl
def clows : Nat → Nat → Nat
  | 0, x => x
  | i + 1, x => let y := clows i x; y &&& (y - 1)
theorem clows_pop (x : Nat) : ∀ i, pop (clows i x) = pop x - i
  | 0 => rfl
  | i + 1 => by
    show pop (clows i x &&& (clows i x - 1)) = _
    have ih := clows_pop x i
    by_cases e : clows i x = 0
    · rw [e] at ih ⊢
      have z := pop_zero_iff.mpr (rfl : (0 : Nat) = 0)
      rw [Nat.zero_and]
      omega
    · have := pop_clow e
      omega
theorem fits_iff (x k : Nat) : clows k x = 0 ↔ pop x ≤ k := by
  rw [← pop_zero_iff, clows_pop]
  omega
/-- the next part below -/
theorem next_part : ∀ b p m q, p ≤ b → 0 < p → Sub p m → Sub q m → q < p → q ≤ (p - 1) &&& m
  | 0, p, m, q, hb, h0, _, _, _ => absurd (Nat.le_zero.mp hb) (Nat.ne_of_gt h0)
  | b + 1, p, m, q, hb, h0, hp, hq, hlt => by
    have half : ∀ {x y : Nat}, Sub x y → Sub (x / 2) (y / 2) := fun {x y} h j hj => by
      rw [← Nat.testBit_add_one] at hj ⊢
      exact h _ hj
    have low : ∀ {x y : Nat}, Sub x y → x % 2 ≤ y % 2 := fun {x y} h => by
      have := h 0
      rw [Nat.testBit_zero, Nat.testBit_zero, decide_eq_true_iff, decide_eq_true_iff] at this
      omega
    have hand : ∀ x y : Nat, x &&& y = 2 * (x / 2 &&& y / 2) + (x % 2) * (y % 2) := fun x y => by
      apply Nat.eq_of_testBit_eq
      intro j
      have hm : x % 2 * (y % 2) = 0 ∨ x % 2 * (y % 2) = 1 := by
        rcases Nat.mod_two_eq_zero_or_one x with h | h <;> rcases Nat.mod_two_eq_zero_or_one y with h' | h' <;> rw [h, h'] <;> simp
      cases j with
      | zero =>
        rw [Nat.testBit_and, Nat.testBit_zero, Nat.testBit_zero, Nat.testBit_zero, show (2 * (x / 2 &&& y / 2) + x % 2 * (y % 2)) % 2 = x % 2 * (y % 2) by omega]
        rcases Nat.mod_two_eq_zero_or_one x with h | h <;> rcases Nat.mod_two_eq_zero_or_one y with h' | h' <;> rw [h, h'] <;> rfl
      | succ j => rw [Nat.testBit_and, Nat.testBit_add_one, Nat.testBit_add_one, Nat.testBit_add_one, show (2 * (x / 2 &&& y / 2) + x % 2 * (y % 2)) / 2 = (x / 2 &&& y / 2) by omega, Nat.testBit_and]
    rw [hand]
    by_cases e : p % 2 = 1
    · have h1 := sub_and.mpr (half hp)
      rw [show (p - 1) / 2 = p / 2 by omega, h1]
      have := low hq
      have := low hp
      omega
    · have ih := next_part b (p / 2) (m / 2) (q / 2) (by omega) (by omega) (half hp) (half hq)
      rw [show (p - 1) / 2 = p / 2 - 1 by omega, show (p - 1) % 2 = 1 by omega, Nat.one_mul]
      have h3 := low hq
      by_cases e2 : q / 2 < p / 2
      · have := ih e2
        omega
      · omega
end GX
set_option Elab.async false
set_option linter.all false
set_option maxRecDepth 100000
set_option maxHeartbeats 4000000
/-! t.index(x), t a tuple of whole numbers from 0 on. -/
namespace GX
open PySem PySem.Spec PyProof.Rows L2
end GX
set_option Elab.async false
set_option linter.all false
set_option maxRecDepth 100000
set_option maxHeartbeats 4000000
/-! Tuples held as just made (frozen), so that their methods can be called; and let go again. -/
namespace GX
open PySem PySem.Spec PyProof.Rows L2
/-- a tuple that is known to hold no dict -/
def FzT (H : Hp) (p : Addr) (xs : List V) : Prop := ∃ o : Obj, H p = some (.frz o (.tup xs)) ∧ o.cls = .type "tuple" ∧ o.dict = none
theorem FzT.mono {H H' : Hp} {p : Addr} {xs : List V} (h : FzT H p xs) (k : ∀ u, H p = some u → H' p = some u) : FzT H' p xs := by
  obtain ⟨o, h1, h2⟩ := h
  exact ⟨o, k _ h1, h2⟩
end GX
set_option Elab.async false
set_option linter.all false
set_option maxRecDepth 100000
set_option maxHeartbeats 4000000
/-! Tuples that are held frozen from their making: displays, sums, and dict() of them. -/
namespace GX
open PySem PySem.Spec PyProof.Rows L2
/-- what stands now stood not ahead, if it is none there -/
def Was (H H' : Hp) : Prop := ∀ b, H' b = none → H b = none
theorem Was.refl {H : Hp} : Was H H := fun _ e => e
theorem Was.trans {H H1 H2 : Hp} (a : Was H H1) (b : Was H1 H2) : Was H H2 := fun c e => a c (b c e)
theorem FzT.same {H H' : Hp} {p : Addr} {xs : List V} (h : FzT H p xs) (s : Same H H') : FzT H' p xs := h.mono fun u e => s _ _ e
end GX
set_option Elab.async false
set_option linter.all false
set_option maxRecDepth 100000
set_option maxHeartbeats 4000000
/-! Things of any make, as they stand in the heap, and what is a net of them. -/
namespace GX
open PySem PySem.Spec PyProof.Rows L2
theorem pg_tupK {X : Cx} {K : PySem.W.Frag} {es : List Expr} {k : Nat} {t : TGs} {n : Nat} {pos : _} (h : X.K = K) (hc : X.calm = true) (hh : PGs X es t) (hn : (assignEach es X.env).length = n := by rfl) (hst : (assignEach es X.env).findIdx? (·.1) = none := by rfl) : PG X (.Tuple es k pos) (gTup K n t) := by subst h; exact pg_tup hc hh hn hst
inductive Th where
  | non | bl (b : Bool) | int (i : Int) | str (x : Str) | oth (l : Bool) | tup (ts : List Th)
mutual
inductive Rep (H : Hp) : V → Th → Prop
  | non : Rep H .non .non
  | bl (b : Bool) : Rep H (.bl b) (.bl b)
  | int (i : Int) : Rep H (.int i) (.int i)
  | str (x : Str) : Rep H (.str x) (.str x)
  | lst {a : Addr} {xs : List V} (e : H a = some (.lst xs)) : Rep H (.ref a) (.oth true)
  | dic {a : Addr} {kvs : List (Key × V)} (e : H a = some (.dK kvs)) : Rep H (.ref a) (.oth false)
  | tup {a : Addr} {vs : List V} {ts : List Th} (e : H a = some (.tup vs)) (r : RepAll H vs ts) : Rep H (.ref a) (.tup ts)
inductive RepAll (H : Hp) : List V → List Th → Prop
  | nil : RepAll H [] []
  | cons {v : V} {vs : List V} {t : Th} {ts : List Th} : Rep H v t → RepAll H vs ts → RepAll H (v :: vs) (t :: ts)
end
/-- lists, dicts and tuples stand -/
def KeepT (H H' : Hp) : Prop := ∀ b o, H b = some o → (∀ ps, o ≠ .tbl ps) → H' b = some o
mutual
theorem Rep.mono {H H' : Hp} (k : KeepT H H') : ∀ {v : V} {t : Th}, Rep H v t → Rep H' v t
  | _, _, .non => .non
  | _, _, .bl b => .bl b
  | _, _, .int i => .int i
  | _, _, .str x => .str x
  | _, _, .lst e => .lst (k _ _ e fun _ z => by cases z)
  | _, _, .dic e => .dic (k _ _ e fun _ z => by cases z)
  | _, _, .tup e r => .tup (k _ _ e fun _ z => by cases z) (r.mono k)
theorem RepAll.mono {H H' : Hp} (k : KeepT H H') : ∀ {vs : List V} {ts : List Th}, RepAll H vs ts → RepAll H' vs ts
  | _, _, .nil => .nil
  | _, _, .cons a b => .cons (a.mono k) (b.mono k)
end
theorem KeepT.same {H H' : Hp} (s : Same H H') : KeepT H H' := fun b o e _ => s b o e
theorem KeepT.aft {Ts : List Addr} {H H' : Hp} (t : Tabs Ts H) (a : Aft Ts H H') : KeepT H H' := fun b o e n => a.kp b o e (t.nott e n)
theorem RepAll.length {H : Hp} : ∀ {vs : List V} {ts : List Th}, RepAll H vs ts → vs.length = ts.length
  | _, _, .nil => rfl
  | _, _, .cons _ b => by rw [List.length_cons, List.length_cons, b.length]
theorem RepAll.get {H : Hp} : ∀ {vs : List V} {ts : List Th} {i : Nat} {v : V}, RepAll H vs ts → vs[i]? = some v → ∃ t, ts[i]? = some t ∧ Rep H v t
  | _, _, _, _, .nil, h => by simp at h
  | _, _, 0, _, .cons a _, h => by cases h; exact ⟨_, rfl, a⟩
  | _, _, i + 1, _, .cons _ b, h => RepAll.get (i := i) b h
theorem RepAll.append {H : Hp} : ∀ {vs ws : List V} {ts us : List Th}, RepAll H vs ts → RepAll H ws us → RepAll H (vs ++ ws) (ts ++ us)
  | _, _, _, _, .nil, s => s
  | _, _, _, _, .cons a b, s => .cons a (b.append s)
theorem RepAll.drop {H : Hp} : ∀ {vs : List V} {ts : List Th} (n : Nat), RepAll H vs ts → RepAll H (vs.drop n) (ts.drop n)
  | _, _, 0, r => r
  | _, _, _ + 1, .nil => .nil
  | _, _, n + 1, .cons _ b => b.drop n
theorem RepAll.take {H : Hp} : ∀ {vs : List V} {ts : List Th} (n : Nat), RepAll H vs ts → RepAll H (vs.take n) (ts.take n)
  | _, _, 0, _ => .nil
  | _, _, _ + 1, .nil => .nil
  | _, _, n + 1, .cons a b => .cons a (b.take n)
theorem RepAll.reverse {H : Hp} : ∀ {vs : List V} {ts : List Th}, RepAll H vs ts → RepAll H vs.reverse ts.reverse
  | _, _, .nil => .nil
  | _, _, .cons a b => by
    rw [List.reverse_cons, List.reverse_cons]
    exact b.reverse.append (.cons a .nil)
def tyN : Th → String
  | .non => "NoneType"
  | .bl _ => "bool"
  | .int _ => "int"
  | .str _ => "str"
  | .oth true => "list"
  | .oth false => "dict"
  | .tup _ => "tuple"
theorem tyx {K : PySem.W.Frag} {H : Hp} {v : V} {t : Th} (r : Rep H v t) : TyX K H v (.type (tyN t)) := by
  cases r with
  | non => exact .base .non
  | bl b => exact .base (.bl b)
  | int i => exact .base (.int i)
  | str x => exact .base (.str x)
  | lst e => exact .base (.lst e)
  | dic e => exact .base (.dK e)
  | tup e _ => exact .base (.tup e)
def Th.kInt : Th → Bool
  | .bl _ => true
  | .int _ => true
  | _ => false
def Th.kBool : Th → Bool
  | .bl _ => true
  | _ => false
def Th.kTup : Th → Bool
  | .tup _ => true
  | _ => false
theorem kInt_ok : ∀ t : Th, kitB (tyN t) "int" = some t.kInt
  | .non => by decide +kernel
  | .bl _ => by show kitB "bool" "int" = some true; decide +kernel
  | .int _ => by show kitB "int" "int" = some true; decide +kernel
  | .str _ => by show kitB "str" "int" = some false; decide +kernel
  | .oth true => by show kitB "list" "int" = some false; decide +kernel
  | .oth false => by show kitB "dict" "int" = some false; decide +kernel
  | .tup _ => by show kitB "tuple" "int" = some false; decide +kernel
theorem kBool_ok : ∀ t : Th, kitB (tyN t) "bool" = some t.kBool
  | .non => by decide +kernel
  | .bl _ => by show kitB "bool" "bool" = some true; decide +kernel
  | .int _ => by show kitB "int" "bool" = some false; decide +kernel
  | .str _ => by show kitB "str" "bool" = some false; decide +kernel
  | .oth true => by show kitB "list" "bool" = some false; decide +kernel
  | .oth false => by show kitB "dict" "bool" = some false; decide +kernel
  | .tup _ => by show kitB "tuple" "bool" = some false; decide +kernel
theorem kTup_ok : ∀ t : Th, kitB (tyN t) "tuple" = some t.kTup
  | .non => by decide +kernel
  | .bl _ => by show kitB "bool" "tuple" = some false; decide +kernel
  | .int _ => by show kitB "int" "tuple" = some false; decide +kernel
  | .str _ => by show kitB "str" "tuple" = some false; decide +kernel
  | .oth true => by show kitB "list" "tuple" = some false; decide +kernel
  | .oth false => by show kitB "dict" "tuple" = some false; decide +kernel
  | .tup _ => by show kitB "tuple" "tuple" = some true; decide +kernel
/-! ### what is a net -/
def Th.whole : Th → Bool
  | .int _ => true
  | _ => false
def Th.isB (b : Int) : Th → Bool
  | .int i => decide (0 ≤ i) && decide (i < b)
  | _ => false
def Th.many : Th → Bool
  | .int i => decide (1 ≤ i) && decide (i ≤ 8)
  | _ => false
def Th.gate (w : Int) : Th → Bool
  | .tup [k, a, b] => k.isB 16 && a.isB w && b.isB w
  | _ => false
def gatesFrom (w : Int) : List Th → Bool
  | [] => true
  | t :: r => t.gate w && gatesFrom (w + 1) r
def Th.gates (m : Int) : Th → Bool
  | .tup ts => decide (ts.length ≤ 16) && gatesFrom m ts
  | _ => false
def Th.outs (c : Int) : Th → Bool
  | .tup ts => decide (1 ≤ ts.length) && decide (ts.length ≤ 8) && ts.all (Th.isB c)
  | _ => false
def Th.val : Th → Int
  | .int i => i
  | _ => 0
def Th.len : Th → Nat
  | .tup ts => ts.length
  | _ => 0
def Th.net : Th → Bool
  | .tup [m, g, o] => m.many && g.gates m.val && o.outs (m.val + g.len)
  | _ => false
theorem gatesFrom_split (w : Int) : ∀ (ts : List Th) (i : Nat), gatesFrom w ts = (gatesFrom w (ts.take i) && gatesFrom (w + min i ts.length) (ts.drop i))
  | [], i => by simp [gatesFrom]
  | t :: r, 0 => by simp [gatesFrom]
  | t :: r, i + 1 => by
    show (t.gate w && gatesFrom (w + 1) r) = ((t.gate w && gatesFrom (w + 1) (r.take i)) && gatesFrom (w + ((min (i + 1) (r.length + 1) : Nat) : Int)) (r.drop i))
    rw [gatesFrom_split (w + 1) r i, Bool.and_assoc, show (w + 1 + ((min i r.length : Nat) : Int)) = w + ((min (i + 1) (r.length + 1) : Nat) : Int) by omega]
theorem gatesFrom_snoc {w : Int} {ts : List Th} {i : Nat} {t : Th} (h : ts[i]? = some t) : gatesFrom w (ts.take (i + 1)) = (gatesFrom w (ts.take i) && t.gate (w + i)) := by
  obtain ⟨hl, _⟩ := List.getElem?_eq_some_iff.mp h
  rw [gatesFrom_split w (ts.take (i + 1)) i, List.take_take, Nat.min_eq_left (Nat.le_succ i)]
  congr 1
  rw [List.take_add_one, h, List.drop_append_of_le_length (by rw [List.length_take]; omega), List.drop_of_length_le (by rw [List.length_take]; omega), Option.toList_some, List.nil_append]
  show (t.gate _ && gatesFrom _ []) = _
  rw [show gatesFrom (w + ((min i (ts.take i ++ [t]).length : Nat) : Int) + 1) [] = true from rfl, Bool.and_true, List.length_append, List.length_take]
  congr 1
  simp only [List.length_cons, List.length_nil]
  omega
theorem gatesFrom_bad {w : Int} {ts : List Th} {i : Nat} {t : Th} (h : ts[i]? = some t) (hf : t.gate (w + i) = false) : gatesFrom w ts = false := by
  rw [gatesFrom_split w ts (i + 1), gatesFrom_snoc h, hf, Bool.and_false, Bool.false_and]
end GX
set_option Elab.async false
set_option linter.all false
set_option maxRecDepth 100000
set_option maxHeartbeats 4000000
/-! Things of whole numbers and tuples alone, no longer than n, no deeper than d. -/
namespace GX
open PySem PySem.Spec PyProof.Rows L2
def Th.pl (n : Nat) : Nat → Th → Bool
  | 0, _ => false
  | _ + 1, .int _ => true
  | d + 1, .tup ts => decide (ts.length ≤ n) && ts.all (Th.pl n d)
  | _ + 1, _ => false
/-- tuples stand -/
def KeepU (H H' : Hp) : Prop := ∀ b xs, H b = some (.tup xs) → H' b = some (.tup xs)
theorem KeepU.trans {H H1 H2 : Hp} (a : KeepU H H1) (b : KeepU H1 H2) : KeepU H H2 := fun c xs e => b c xs (a c xs e)
theorem KeepU.same {H H' : Hp} (s : Same H H') : KeepU H H' := fun b xs e => s b _ e
theorem pl_monoAll {H H' : Hp} {n d : Nat} (ih : ∀ v t, Th.pl n d t = true → Rep H v t → Rep H' v t) : ∀ {vs : List V} {ts : List Th}, ts.all (Th.pl n d) = true → RepAll H vs ts → RepAll H' vs ts
  | _, _, _, .nil => .nil
  | _, _, p, .cons a b => by
    rw [List.all_cons, Bool.and_eq_true] at p
    exact .cons (ih _ _ p.1 a) (pl_monoAll ih p.2 b)
theorem pl_mono {H H' : Hp} {n : Nat} (k : KeepU H H') : ∀ (d : Nat) (v : V) (t : Th), Th.pl n d t = true → Rep H v t → Rep H' v t
  | 0, _, _, p, _ => by cases p
  | d + 1, v, t, p, r => by
    cases r with
    | int i => exact .int i
    | @tup a vs ts e ra =>
      have p' : (decide (ts.length ≤ n) && ts.all (Th.pl n d)) = true := p
      rw [Bool.and_eq_true] at p'
      exact .tup (k _ _ e) (pl_monoAll (pl_mono k d) p'.2 ra)
    | _ => cases p
theorem pl_le {n m : Nat} (h : n ≤ m) : ∀ (d : Nat) (t : Th), Th.pl n d t = true → Th.pl m d t = true
  | 0, _, p => by cases p
  | d + 1, t, p => by
    cases t with
    | int i => rfl
    | tup ts =>
      have p' : (decide (ts.length ≤ n) && ts.all (Th.pl n d)) = true := p
      rw [Bool.and_eq_true] at p'
      show (decide (ts.length ≤ m) && ts.all (Th.pl m d)) = true
      rw [Bool.and_eq_true]
      refine ⟨decide_eq_true (Nat.le_trans (of_decide_eq_true p'.1) h), ?_⟩
      rw [List.all_eq_true]
      intro x hx
      exact pl_le h d x (List.all_eq_true.mp p'.2 x hx)
    | _ => cases p
theorem pl_dpAll {K : PySem.W.Frag} {H : Hp} {n d : Nat} (ih : ∀ v t, Th.pl n d t = true → Rep H v t → ∃ x, Dp K H v x ∧ x.canLay0 = true ∧ x.depth ≤ d) :
    ∀ {vs : List V} {ts : List Th}, ts.all (Th.pl n d) = true → RepAll H vs ts → ∃ xs, DpAll K H vs xs ∧ PyData.canLayAll0 xs = true ∧ PyData.depthAll xs ≤ d ∧ xs.length = vs.length
  | _, _, _, .nil => ⟨[], .nil, rfl, Nat.zero_le _, rfl⟩
  | _, _, p, .cons a b => by
    rw [List.all_cons, Bool.and_eq_true] at p
    obtain ⟨x, h1, h2, h3⟩ := ih _ _ p.1 a
    obtain ⟨xs, g1, g2, g3, g4⟩ := pl_dpAll ih p.2 b
    refine ⟨x :: xs, .cons h1 g1, ?_, ?_, by rw [List.length_cons, List.length_cons, g4]⟩
    · show (x.canLay0 && PyData.canLayAll0 xs) = true
      rw [h2, g2]
      rfl
    · show max x.depth (PyData.depthAll xs) ≤ d
      omega
theorem pl_dp {K : PySem.W.Frag} {H : Hp} {n : Nat} : ∀ (d : Nat) (v : V) (t : Th), Th.pl n d t = true → Rep H v t → ∃ x, Dp K H v x ∧ x.canLay0 = true ∧ x.depth ≤ d
  | 0, v, t, p, r => by cases p
  | d + 1, v, t, p, r => by
    cases r with
    | int i => exact ⟨.int i, .int i, rfl, Nat.zero_le _⟩
    | @tup a vs ts e ra =>
      have p' : (decide (ts.length ≤ n) && ts.all (Th.pl n d)) = true := p
      rw [Bool.and_eq_true] at p'
      obtain ⟨xs, g1, g2, g3, _⟩ := pl_dpAll (pl_dp d) p'.2 ra
      exact ⟨.tuple xs, .tup (SqT.of e) g1, g2, Nat.succ_le_succ g3⟩
    | _ => cases p
/-- things of the values: whole numbers and tuples -/
def Pl (n d : Nat) (H : Hp) (v : V) : Prop := ∃ t, Rep H v t ∧ Th.pl n d t = true
def PlAll (n d : Nat) (H : Hp) (vs : List V) : Prop := ∃ ts, RepAll H vs ts ∧ ts.all (Th.pl n d) = true
theorem Pl.mono {n d : Nat} {H H' : Hp} {v : V} (h : Pl n d H v) (k : KeepU H H') : Pl n d H' v := let ⟨t, r, p⟩ := h; ⟨t, pl_mono k d v t p r, p⟩
theorem PlAll.mono {n d : Nat} {H H' : Hp} {vs : List V} (h : PlAll n d H vs) (k : KeepU H H') : PlAll n d H' vs := let ⟨ts, r, p⟩ := h; ⟨ts, pl_monoAll (pl_mono k d) p r, p⟩
theorem all_sub {α : Type} {f : α → Bool} {xs ys : List α} (h : xs.all f = true) (s : ∀ x ∈ ys, x ∈ xs) : ys.all f = true := by
  rw [List.all_eq_true] at h ⊢
  exact fun x hx => h x (s x hx)
theorem PlAll.drop {n d : Nat} {H : Hp} {vs : List V} (i : Nat) (h : PlAll n d H vs) : PlAll n d H (vs.drop i) := let ⟨ts, r, p⟩ := h; ⟨ts.drop i, r.drop i, all_sub p fun _ hx => List.mem_of_mem_drop hx⟩
theorem PlAll.take {n d : Nat} {H : Hp} {vs : List V} (i : Nat) (h : PlAll n d H vs) : PlAll n d H (vs.take i) := let ⟨ts, r, p⟩ := h; ⟨ts.take i, r.take i, all_sub p fun _ hx => List.mem_of_mem_take hx⟩
theorem PlAll.cut {n d : Nat} {H : Hp} {vs : List V} (lo hi : Option Int) (h : PlAll n d H vs) : PlAll n d H (cutV vs lo hi) := by
  unfold cutV
  exact (h.drop _).take _
theorem PlAll.reverse {n d : Nat} {H : Hp} {vs : List V} (h : PlAll n d H vs) : PlAll n d H vs.reverse := let ⟨ts, r, p⟩ := h; ⟨ts.reverse, r.reverse, all_sub p fun _ hx => List.mem_reverse.mp hx⟩
theorem PlAll.append {n d : Nat} {H : Hp} {vs ws : List V} (h : PlAll n d H vs) (g : PlAll n d H ws) : PlAll n d H (vs ++ ws) := let ⟨ts, r, p⟩ := h; let ⟨us, s, q⟩ := g; ⟨ts ++ us, r.append s, by rw [List.all_append, p, q]; rfl⟩
theorem PlAll.get {n d : Nat} {H : Hp} {vs : List V} {i : Nat} {v : V} (h : PlAll n d H vs) (e : vs[i]? = some v) : Pl n d H v := by
  obtain ⟨ts, r, p⟩ := h
  obtain ⟨t, ht, rt⟩ := r.get e
  exact ⟨t, rt, List.all_eq_true.mp p t (List.mem_of_getElem? ht)⟩
theorem PlAll.le {n m d : Nat} {H : Hp} {vs : List V} (h : PlAll n d H vs) (l : n ≤ m) : PlAll m d H vs := let ⟨ts, r, p⟩ := h; ⟨ts, r, by
  rw [List.all_eq_true] at p ⊢
  exact fun x hx => pl_le l d x (p x hx)⟩
theorem Pl.tup {n d : Nat} {H : Hp} {a : Addr} {vs : List V} (e : H a = some (.tup vs)) (hl : vs.length ≤ n) (h : PlAll n d H vs) : Pl n (d + 1) H (.ref a) := by
  obtain ⟨ts, r, p⟩ := h
  refine ⟨.tup ts, .tup e r, ?_⟩
  show (decide (ts.length ≤ n) && ts.all (Th.pl n d)) = true
  rw [p, Bool.and_true]
  exact decide_eq_true (by rw [← r.length]; exact hl)
theorem Pl.int {n d : Nat} {H : Hp} (i : Int) : Pl n (d + 1) H (.int i) := ⟨.int i, .int i, rfl⟩
theorem PlAll.dp {K : PySem.W.Frag} {n d : Nat} {H : Hp} {vs : List V} (h : PlAll n d H vs) : ∃ xs, DpAll K H vs xs ∧ PyData.canLayAll0 xs = true ∧ PyData.depthAll xs ≤ d ∧ xs.length = vs.length := let ⟨_, r, p⟩ := h; pl_dpAll (pl_dp d) p r
/-- t == () and l == [] -/
theorem shaped_tup {xs : List PyData} {d : Nat} (h1 : PyData.canLayAll0 xs = true) (h2 : PyData.depthAll xs ≤ d) (h3 : d < 64) : SeqAt.shaped (.tuple xs) = true := by
  show (PyData.canLayAll0 xs && decide (PyData.depthAll xs + 1 ≤ 64)) = true
  rw [h1, decide_eq_true (by omega)]
  rfl
end GX
set_option Elab.async false
set_option linter.all false
set_option maxRecDepth 100000
set_option maxHeartbeats 4000000
/-! Dicts whose keys are wires; dicts of covers. -/
namespace GX
open PySem PySem.Spec PyProof.Rows L2
/-- a dict with True for each of these -/
def kvF (F : List Nat) : List (L2.Key × V) := F.map fun x : Nat => (nK x, V.bl true)
theorem kvF_len (F : List Nat) : (kvF F).length = F.length := List.length_map _
theorem kvF_some (F : List Nat) (x : Nat) : (valV (kvF F) (nK x)).isSome = decide (x ∈ F) := by
  rw [← valV_any]
  unfold kvF
  rw [List.any_map, Bool.eq_iff_iff, List.any_eq_true, decide_eq_true_iff]
  constructor
  · rintro ⟨y, hy, e⟩
    have e' : nK y = nK x := of_decide_eq_true e
    rw [← nK_inj e']
    exact hy
  · intro h
    exact ⟨x, h, decide_eq_true rfl⟩
theorem kvF_put {F : List Nat} {x : Nat} (h : x ∉ F) : putK (kvF F) (nK x) (.bl true) = kvF (F ++ [x]) := by
  have : valV (kvF F) (nK x) = none := by
    have := kvF_some F x
    rw [decide_eq_false h] at this
    cases e : valV (kvF F) (nK x) with
    | none => rfl
    | some v => rw [e] at this; cases this
  rw [putK_new _ this]
  unfold kvF
  rw [List.map_append]
  rfl
/-- a cover as data -/
def covD (cv : List Tb) : List PyData := cv.map fun t : Tb => .tuple [.int ((t.1 : Nat) : Int), .tuple ((t.2.map fun n : Nat => (n : Int)).map PyData.int)]
theorem canInts : ∀ xs : List Int, PyData.canLayAll0 (xs.map PyData.int) = true ∧ PyData.depthAll (xs.map PyData.int) = 0
  | [] => ⟨rfl, rfl⟩
  | x :: r => by
    obtain ⟨h1, h2⟩ := canInts r
    refine ⟨?_, ?_⟩
    · show ((PyData.int x).canLay0 && PyData.canLayAll0 (r.map PyData.int)) = true
      rw [h1]
      rfl
    · show max (PyData.int x).depth (PyData.depthAll (r.map PyData.int)) = 0
      rw [h2]
      rfl
theorem dpCovAll {K : PySem.W.Frag} {H : Hp} : ∀ {qs : List Addr} {cv : List Tb}, PtsAt TbAt H qs cv → DpAll K H (qs.map V.ref) (covD cv)
  | [], cv, x => by
    have : cv = [] := List.length_eq_zero_iff.mp x.1.symm
    subst this
    exact .nil
  | p :: r, [], x => by cases x.1
  | p :: r, t :: cv, x => by
    obtain ⟨c, h1, h2⟩ := x.2 0 p t rfl rfl
    exact .cons (.tup (SqT.of h1) (.cons (.int _) (.cons (.tup (SqT.of h2) (dpNat K _ _)) .nil))) (dpCovAll (K := K) (H := H) (qs := r) (cv := cv) ⟨by simpa using x.1, fun i p' t' e1 e2 => x.2 (i + 1) p' t' (by simpa using e1) (by simpa using e2)⟩)
theorem CovAt.dp {K : PySem.W.Frag} {H : Hp} {a : Addr} {cv : List Tb} {qs : List Addr} (x : CovAt H a cv qs) : Dp K H (.ref a) (.tuple (covD cv)) := .tup (SqT.of x.top) (dpCovAll x.ts)
end GX
set_option Elab.async false
set_option linter.all false
set_option maxRecDepth 100000
set_option maxHeartbeats 4000000
/-! Masks as whole numbers. -/
namespace GX
open PySem PySem.Spec PyProof.Rows L2
theorem ip_and {X : Cx} : PIp X .BitAnd (ipI fun i j => Builtin.bitAnd i j) := by
  intro pins s σ H x y v u Q I r1 r2 h
  obtain ⟨i, j, e1, e2, q⟩ := h
  subst e1; subst e2
  obtain ⟨t, rfl⟩ := r1
  obtain ⟨t', rfl⟩ := r2
  exact iand_int ⟨.int _, H, I.tok _, ⟨_, rfl⟩, q⟩
theorem and_of (a b : Nat) : Builtin.bitAnd ((a : Nat) : Int) ((b : Nat) : Int) = ((a &&& b : Nat) : Int) := by
  rw [bitAnd_pp (Int.natCast_nonneg a) (Int.natCast_nonneg b), Int.toNat_natCast, Int.toNat_natCast]
theorem or_of (a b : Nat) : Builtin.bitOr ((a : Nat) : Int) ((b : Nat) : Int) = ((a ||| b : Nat) : Int) := by
  rw [bitOr_nn (Int.natCast_nonneg a) (Int.natCast_nonneg b), Int.toNat_natCast, Int.toNat_natCast]
theorem and_low (a : Nat) : Builtin.bitAnd ((a : Nat) : Int) (((a : Nat) : Int) - 1) = ((a &&& (a - 1) : Nat) : Int) := by
  cases a with
  | zero => rfl
  | succ a =>
    rw [show (((a + 1 : Nat) : Nat) : Int) - 1 = ((a : Nat) : Int) by omega, and_of]
    rfl
theorem and_next {p M : Nat} (h : 0 < p) : Builtin.bitAnd (((p : Nat) : Int) - 1) ((M : Nat) : Int) = (((p - 1) &&& M : Nat) : Int) := by
  rw [show ((p : Nat) : Int) - 1 = ((p - 1 : Nat) : Int) by omega, and_of]
theorem kvF_again {F : List Nat} {x : Nat} (h : x ∈ F) : putK (kvF F) (nK x) (.bl true) = kvF F := by
  have ha : ((kvF F).any fun kv => decide (kv.1 = nK x)) = true := by
    rw [List.any_eq_true]
    exact ⟨(nK x, .bl true), List.mem_map.mpr ⟨x, h, rfl⟩, decide_eq_true rfl⟩
  unfold putK
  rw [if_pos ha]
  conv => rhs; rw [← List.map_id (kvF F)]
  refine List.map_congr_left fun kv hkv => ?_
  obtain ⟨y, _, rfl⟩ := List.mem_map.mp hkv
  by_cases e : nK y = nK x
  · rw [if_pos e]; rfl
  · rw [if_neg e]; rfl
/-- what is found so far -/
def FoundW (k : Nat) (fs ss : List Nat) (i j : Nat) (F : List Nat) : Prop := ∀ M, M ∈ F ↔ ((∃ f ∈ fs.take i, ∃ s ∈ ss, M = f ||| s ∧ pop M ≤ k) ∨ ∃ s ∈ ss.take j, M = fs.getD i 0 ||| s ∧ pop M ≤ k)
theorem FoundW.zero (k : Nat) (fs ss : List Nat) : FoundW k fs ss 0 0 [] := fun M => ⟨fun h => (by cases h), fun h => by
  rcases h with ⟨f, hf, _⟩ | ⟨s, hs, _⟩
  · cases hf
  · cases hs⟩
theorem mem_take_succ {l : List Nat} {i : Nat} (h : i < l.length) (x : Nat) : x ∈ l.take (i + 1) ↔ (x ∈ l.take i ∨ x = l.getD i 0) := by
  rw [List.take_add_one, List.getElem?_eq_getElem h, Option.toList_some, List.mem_append, List.mem_singleton, List.getD_eq_getElem?_getD, List.getElem?_eq_getElem h]
  rfl
theorem FoundW.row {k : Nat} {fs ss : List Nat} {i : Nat} {F : List Nat} (hi : i < fs.length) (h : FoundW k fs ss i ss.length F) : FoundW k fs ss (i + 1) 0 F := fun M => by
  rw [h M, List.take_length]
  constructor
  · rintro (⟨f, hf, r⟩ | r)
    · exact .inl ⟨f, (mem_take_succ hi f).mpr (.inl hf), r⟩
    · exact .inl ⟨_, (mem_take_succ hi _).mpr (.inr rfl), r⟩
  · rintro (⟨f, hf, r⟩ | ⟨s, hs, _⟩)
    · rcases (mem_take_succ hi f).mp hf with hf | rfl
      · exact .inl ⟨f, hf, r⟩
      · exact .inr r
    · cases hs
theorem FoundW.no {k : Nat} {fs ss : List Nat} {i j : Nat} {F : List Nat} (hj : j < ss.length) (h : FoundW k fs ss i j F) (np : ¬ pop (fs.getD i 0 ||| ss.getD j 0) ≤ k) : FoundW k fs ss i (j + 1) F := fun M => by
  rw [h M]
  constructor
  · rintro (r | ⟨s, hs, r⟩)
    · exact .inl r
    · exact .inr ⟨s, (mem_take_succ hj s).mpr (.inl hs), r⟩
  · rintro (r | ⟨s, hs, rfl, r2⟩)
    · exact .inl r
    · rcases (mem_take_succ hj s).mp hs with hs | rfl
      · exact .inr ⟨s, hs, rfl, r2⟩
      · exact absurd r2 np
theorem FoundW.yes {k : Nat} {fs ss : List Nat} {i j : Nat} {F F' : List Nat} (hj : j < ss.length) (h : FoundW k fs ss i j F) (np : pop (fs.getD i 0 ||| ss.getD j 0) ≤ k) (hF : ∀ M, M ∈ F' ↔ (M ∈ F ∨ M = fs.getD i 0 ||| ss.getD j 0)) : FoundW k fs ss i (j + 1) F' := fun M => by
  rw [hF M, h M]
  constructor
  · rintro ((r | ⟨s, hs, r⟩) | rfl)
    · exact .inl r
    · exact .inr ⟨s, (mem_take_succ hj s).mpr (.inl hs), r⟩
    · exact .inr ⟨_, (mem_take_succ hj _).mpr (.inr rfl), rfl, np⟩
  · rintro (r | ⟨s, hs, rfl, r2⟩)
    · exact .inl (.inl r)
    · rcases (mem_take_succ hj s).mp hs with hs | rfl
      · exact .inl (.inr ⟨s, hs, rfl, r2⟩)
      · exact .inr rfl
theorem FoundW.all {k : Nat} {fs ss F : List Nat} (h : FoundW k fs ss fs.length 0 F) : Found k fs ss F := fun M => by
  rw [h M, List.take_length]
  constructor
  · rintro (r | ⟨s, hs, _⟩)
    · exact r
    · cases hs
  · exact fun r => .inl r
theorem or_lt23 {a b : Nat} (h : a < 2 ^ 23) (g : b < 2 ^ 23) : a ||| b < 2 ^ 23 := Nat.or_lt_two_pow h g
theorem nodup_lt23 {F : List Nat} (nd : F.Nodup) (h : ∀ M ∈ F, M < 2 ^ 23) : F.length < sizeLine := by
  have := nd.length_le_of_subset (l₂ := List.range (2 ^ 23)) fun x hx => List.mem_range.mpr (h x hx)
  rw [List.length_range] at this
  exact Nat.lt_of_le_of_lt this (by decide)
end GX
namespace GX
open PySem PySem.Spec PyProof.Rows L2
theorem bits_small {M : Nat} (h : M < 2 ^ 23) : Builtin.Int.intBits ((M : Nat) : Int) ≤ 10000 := by
  refine Nat.le_trans (m := 23) ?_ (by decide)
  rw [intBits_le_iff, Int.natAbs_natCast]
  exact h
end GX
namespace GX
open PySem PySem.Spec PyProof.Rows L2
theorem putK_le (kvs : List (L2.Key × V)) (k : L2.Key) (v : V) : (putK kvs k v).length ≤ kvs.length + 1 := by
  unfold putK
  by_cases h : (kvs.any fun kv => decide (kv.1 = k)) = true
  · rw [if_pos h, List.length_map]
    omega
  · rw [if_neg h, List.length_append]
    exact Nat.le_refl _
theorem mem_take_lt {ws : List Nat} (r : ws.Pairwise (· < ·)) {i y : Nat} (hi : i < ws.length) (hy : y ∈ ws) (h : y < ws.getD i 0) : y ∈ ws.take i := by
  obtain ⟨j, hj, rfl⟩ := List.mem_iff_getElem.mp hy
  have e : ws.getD i 0 = ws[i] := by rw [List.getD_eq_getElem?_getD, List.getElem?_eq_getElem hi]; rfl
  rw [e] at h
  refine List.mem_take_iff_getElem.mpr ⟨j, ?_, rfl⟩
  by_cases hji : j < i
  · omega
  · by_cases he : i = j
    · subst he
      omega
    · have := List.pairwise_iff_getElem.mp r i j hi hj (by omega)
      omega
theorem not_mem_take {ws : List Nat} (r : ws.Pairwise (· < ·)) {i y : Nat} (hi : i < ws.length) (hy : y ∈ ws.take i) : y < ws.getD i 0 := by
  obtain ⟨j, hj, rfl⟩ := List.mem_take_iff_getElem.mp hy
  have e : ws.getD i 0 = ws[i] := by rw [List.getD_eq_getElem?_getD, List.getElem?_eq_getElem hi]; rfl
  rw [e]
  exact List.pairwise_iff_getElem.mp r j i (by omega) hi (by omega)
/-- the cuts of a wire, as they lie in the dict -/
def CutsIn (n : Net) (k : Nat) (H : Hp) (kvs : List (L2.Key × V)) (x : Nat) : Prop := ∃ (p : Addr) (ms : List Nat), valV kvs (nK x) = some (.ref p) ∧ H p = some (.lst (ms.map nV)) ∧ ML n k x ms ∧ ms.Nodup
theorem CutsIn.mono {n : Net} {k x : Nat} {H H' : Hp} {kvs : List (L2.Key × V)} (h : CutsIn n k H kvs x) (m : ∀ b zs, H b = some (.lst zs) → H' b = some (.lst zs)) : CutsIn n k H' kvs x := by
  obtain ⟨p, ms, h1, h2, h3⟩ := h
  exact ⟨p, ms, h1, m _ _ h2, h3⟩
theorem CutsIn.put {n : Net} {k x y : Nat} {H : Hp} {kvs : List (L2.Key × V)} {v : V} (h : CutsIn n k H kvs x) (ne : x ≠ y) : CutsIn n k H (putK kvs (nK y) v) x := by
  obtain ⟨p, ms, h1, h2, h3⟩ := h
  exact ⟨p, ms, by rw [valV_put, if_neg (fun e => ne (nK_inj e))]; exact h1, h2, h3⟩
theorem ML.lt23 {n : Net} (ok : n.Ok) {k w M : Nat} {ms : List Nat} (hw : w < n.many + n.gates.length) (h : ML n k w ms) (hM : M ∈ ms) : 0 < M ∧ M < 2 ^ 23 := by
  obtain ⟨h1, h2, h3⟩ := (h M).mp hM
  have m8 := ok.m8
  have g16 := ok.g16
  refine ⟨Nat.pos_of_ne_zero fun z => tm_zero ok hw (by rw [← z]; exact h1.tl), ?_⟩
  refine Nat.lt_pow_two_of_testBit M fun j hj => ?_
  cases e : M.testBit j with
  | false => rfl
  | true =>
    have := h1.low ok j e
    have e2 : j = w := by omega
    rw [e2, h3] at e
    cases e
theorem pow_lt23 {x : Nat} (h : x < 23) : 0 < 2 ^ x ∧ 2 ^ x < 2 ^ 23 := ⟨Nat.two_pow_pos x, Nat.pow_lt_pow_right (by decide) h⟩
end GX
namespace GX
open PySem PySem.Spec PyProof.Rows L2
/-- with two wires a gate is told: so it has a least cut -/
theorem ML.some_ {n : Net} (ok : n.Ok) {k g : Nat} {kk : Nat × Nat × Nat} {ms : List Nat} (hk : 2 ≤ k) (hg : n.many ≤ g) (hkk : n.gates[g - n.many]? = some kk) (h : ML n k g ms) : ms ≠ [] := by
  have l1 := place_lt ok hg hkk (.inl rfl)
  have l2 := place_lt ok hg hkk (.inr rfl)
  have bit : ∀ j, (2 ^ kk.2.1 ||| 2 ^ kk.2.2).testBit j = true ↔ (j = kk.2.1 ∨ j = kk.2.2) := fun j => by
    rw [Nat.testBit_or, Nat.testBit_two_pow, Nat.testBit_two_pow, Bool.or_eq_true, decide_eq_true_iff, decide_eq_true_iff]
    omega
  have ht : Tm n g (2 ^ kk.2.1 ||| 2 ^ kk.2.2) := sep_first hg hkk fun z hz => mem_bits.mpr ((bit z).mpr hz)
  obtain ⟨f, f1, f2⟩ := min_ex _ _ (Nat.le_refl _) ht
  have hp : pop (2 ^ kk.2.1 ||| 2 ^ kk.2.2) ≤ 2 := by
    have := (bits_nodup (2 ^ kk.2.1 ||| 2 ^ kk.2.2)).length_le_of_subset (l₂ := [kk.2.1, kk.2.2]) fun x hx => by
      rcases (bit x).mp (mem_bits.mp hx) with e | e
      · rw [e]; exact List.mem_cons_self
      · rw [e]; exact List.mem_cons_of_mem _ List.mem_cons_self
    exact this
  have hm : f ∈ ms := (h f).mpr ⟨f2, Nat.le_trans (pop_sub f1) (by omega), by
    cases e : f.testBit g with
    | false => rfl
    | true =>
      rcases (bit g).mp (f1 g e) with e | e <;> omega⟩
  exact fun z => by
    rw [z] at hm
    cases hm
end GX
set_option Elab.async false
set_option linter.all false
set_option maxRecDepth 100000
set_option maxHeartbeats 4000000
/-! Slices of tuples and tuples put together, whatever object they are. -/
namespace GX
open PySem PySem.Spec PyProof.Rows L2
theorem slA_any {K : PySem.W.Frag} {x : V} {lo hi : Option Int} {H : Hp} {Q : VK} {a : Addr} {xs ys : List V} (ex : x = .ref a) (hs : H a = some (.tup xs)) (hc : cutV xs lo hi = ys) (h : ∀ p H', Same H H' → H' p = some (.tup ys) → Q (.ref p) H') : rSlA K x lo hi H Q := by
  refine ⟨a, xs, ex, SqT.of hs, fun c => h a H (Same.refl _) ?_, fun _ p np => h p _ (Same.new np) (by rw [hc]; exact upd_same)⟩
  have : cutV xs lo hi = xs := by
    unfold cutV
    rw [c.1, c.2, Nat.sub_zero, List.drop_zero, List.take_length]
  rw [← hc, this]
  exact hs
theorem catA_any {K : PySem.W.Frag} {x y : V} {H : Hp} {Q : VK} {a b : Addr} {xs ys : List V} (ex : x = .ref a) (ey : y = .ref b) (hx : H a = some (.tup xs)) (hy : H b = some (.tup ys)) (hl : xs.length + ys.length ≤ sizeLine) (h : ∀ p H', Same H H' → H' p = some (.tup (xs ++ ys)) → Q (.ref p) H') : rCatA K x y H Q := by
  refine ⟨a, b, xs, ys, ex, ey, SqT.of hx, SqT.of hy, hl, fun e => h b H (Same.refl _) (by rw [e, List.nil_append]; exact hy), fun _ e => h a H (Same.refl _) (by rw [e, List.append_nil]; exact hx), fun _ _ p np => h p _ (Same.new np) upd_same⟩
end GX
set_option Elab.async false
set_option linter.all false
set_option maxRecDepth 100000
set_option maxHeartbeats 4000000
/-! A net that stands in the heap, as a thing. -/
namespace GX
open PySem PySem.Spec PyProof.Rows L2
def thN (n : Nat) : Th := .int (n : Int)
def thG (g : Nat × Nat × Nat) : Th := .tup [thN g.1, thN g.2.1, thN g.2.2]
def thNet (n : Net) : Th := .tup [thN n.many, .tup (n.gates.map thG), .tup (n.outs.map thN)]
theorem rep_ns {H : Hp} : ∀ (os : List Nat), RepAll H (os.map nV) (os.map thN)
  | [] => .nil
  | o :: r => .cons (.int _) (rep_ns r)
theorem GatesAt.tail {H : Hp} {p : Addr} {ps : List Addr} {g : Nat × Nat × Nat} {gs : List (Nat × Nat × Nat)} (x : GatesAt H (p :: ps) (g :: gs)) : GatesAt H ps gs :=
  ⟨by have := x.1; simpa using this, fun i p g e1 e2 => x.2 (i + 1) p g e1 e2⟩
theorem rep_gs {H : Hp} : ∀ (ps : List Addr) (gs : List (Nat × Nat × Nat)), GatesAt H ps gs → RepAll H (ps.map V.ref) (gs.map thG)
  | [], [], _ => .nil
  | [], _ :: _, x => by have := x.1; simp at this
  | _ :: _, [], x => by have := x.1; simp at this
  | p :: ps, g :: gs, x => .cons (.tup (x.2 0 p g rfl rfl) (.cons (.int _) (.cons (.int _) (.cons (.int _) .nil)))) (rep_gs ps gs x.tail)
theorem NetAt.rep {H : Hp} {a g o : Addr} {n : Net} {ps : List Addr} (N : NetAt H a n g o ps) : Rep H (.ref a) (thNet n) :=
  .tup N.top (.cons (.int _) (.cons (.tup N.gt (rep_gs _ _ N.gs)) (.cons (.tup N.ot (rep_ns _)) .nil)))
theorem isB_n {k : Nat} {b : Int} (h : (k : Int) < b) : Th.isB b (thN k) = true := by
  show (decide ((0 : Int) ≤ (k : Int)) && decide ((k : Int) < b)) = true
  rw [decide_eq_true (by omega), decide_eq_true h]
  rfl
theorem gates_ok : ∀ (gs : List (Nat × Nat × Nat)) (w : Nat), (∀ (i : Nat) (g : Nat × Nat × Nat), gs[i]? = some g → gateOk w i g) → gatesFrom (w : Int) (gs.map thG) = true
  | [], _, _ => rfl
  | g :: r, w, h => by
    show ((thG g).gate (w : Int) && gatesFrom ((w : Int) + 1) (r.map thG)) = true
    obtain ⟨h1, h2, h3⟩ := h 0 g rfl
    have e : (thG g).gate (w : Int) = true := by
      show (Th.isB 16 (thN g.1) && Th.isB (w : Int) (thN g.2.1) && Th.isB (w : Int) (thN g.2.2)) = true
      rw [isB_n (by omega), isB_n (by omega), isB_n (by omega)]
      rfl
    rw [e, Bool.true_and, show ((w : Int) + 1) = ((w + 1 : Nat) : Int) by omega]
    refine gates_ok r (w + 1) fun i g' e => ?_
    obtain ⟨g1, g2, g3⟩ := h (i + 1) g' e
    exact ⟨g1, by omega, by omega⟩
theorem Net.Ok.net {n : Net} (ok : n.Ok) : (thNet n).net = true := by
  show ((thN n.many).many && (Th.tup (n.gates.map thG)).gates (n.many : Int) && (Th.tup (n.outs.map thN)).outs ((n.many : Int) + (((n.gates.map thG).length : Nat) : Int))) = true
  have m1 := ok.m1
  have m8 := ok.m8
  have e1 : (thN n.many).many = true := by
    show (decide ((1 : Int) ≤ (n.many : Int)) && decide ((n.many : Int) ≤ 8)) = true
    rw [decide_eq_true (by omega), decide_eq_true (by omega)]
    rfl
  have e2 : (Th.tup (n.gates.map thG)).gates (n.many : Int) = true := by
    show (decide ((n.gates.map thG).length ≤ 16) && gatesFrom (n.many : Int) (n.gates.map thG)) = true
    rw [gates_ok n.gates n.many ok.gs, decide_eq_true (by rw [List.length_map]; exact ok.g16)]
    rfl
  have e3 : (Th.tup (n.outs.map thN)).outs ((n.many : Int) + (((n.gates.map thG).length : Nat) : Int)) = true := by
    show (decide (1 ≤ (n.outs.map thN).length) && decide ((n.outs.map thN).length ≤ 8) && (n.outs.map thN).all (Th.isB ((n.many : Int) + (((n.gates.map thG).length : Nat) : Int)))) = true
    rw [List.length_map, List.length_map, decide_eq_true ok.o1, decide_eq_true ok.o8, Bool.true_and, Bool.true_and, List.all_eq_true]
    intro x hx
    obtain ⟨o, ho, rfl⟩ := List.mem_map.mp hx
    have := ok.os o ho
    exact isB_n (by omega)
  rw [e1, e2, e3]
  rfl
theorem all_pl {α : Type} {n d : Nat} {f : α → Th} {xs : List α} (h : ∀ x ∈ xs, Th.pl n d (f x) = true) : (xs.map f).all (Th.pl n d) = true := by
  rw [List.all_eq_true]
  intro x hx
  obtain ⟨y, hy, rfl⟩ := List.mem_map.mp hx
  exact h y hy
theorem Net.Ok.pl {n : Net} (ok : n.Ok) : Th.pl 16 4 (thNet n) = true := by
  have e1 : Th.pl 16 3 (.tup (n.gates.map thG)) = true := by
    show (decide ((n.gates.map thG).length ≤ 16) && (n.gates.map thG).all (Th.pl 16 2)) = true
    rw [decide_eq_true (by rw [List.length_map]; exact ok.g16), all_pl fun _ _ => rfl]
    rfl
  have e2 : Th.pl 16 3 (.tup (n.outs.map thN)) = true := by
    show (decide ((n.outs.map thN).length ≤ 16) && (n.outs.map thN).all (Th.pl 16 2)) = true
    rw [decide_eq_true (by rw [List.length_map]; have := ok.o8; omega), all_pl fun _ _ => rfl]
    rfl
  show (decide (3 ≤ 16) && (true && (Th.pl 16 3 (.tup (n.gates.map thG)) && (Th.pl 16 3 (.tup (n.outs.map thN)) && true)))) = true
  rw [e1, e2]
  rfl
end GX
set_option Elab.async false
set_option linter.all false
set_option maxRecDepth 100000
set_option maxHeartbeats 4000000
/-! The worth of a wire where some wires are held. -/
namespace GX
open PySem PySem.Spec PyProof.Rows L2
def gw (k a b : Nat) : Nat := k / 2 ^ (a + 2 * b) % 2
theorem gw_lt (k a b : Nat) : gw k a b < 2 := Nat.mod_lt _ (by decide)
/-- where a wire stands -/
def ixOf (x : Nat) : List Nat → Nat
  | [] => 0
  | y :: r => if y = x then 0 else ixOf x r + 1
def bitIn (ws : List Nat) (r x : Nat) : Nat := r / 2 ^ ixOf x ws % 2
/-- what a wire has, by those ahead -/
def valOf (n : Net) (ws : List Nat) (r : Nat) (acc : List Nat) (x : Nat) : Nat :=
  if x ∈ ws then bitIn ws r x else if x < n.many then 0 else match n.gates[x - n.many]? with
    | some k => gw k.1 (acc.getD k.2.1 0) (acc.getD k.2.2 0)
    | none => 0
def evl (n : Net) (ws : List Nat) (r : Nat) : Nat → List Nat
  | 0 => []
  | m + 1 => evl n ws r m ++ [valOf n ws r (evl n ws r m) m]
def ev (n : Net) (ws : List Nat) (r x : Nat) : Nat := valOf n ws r (evl n ws r x) x
/-- a content -/
def contOf (n : Net) (ws : List Nat) (w : Nat) : List Nat := (List.range (2 ^ ws.length)).map fun r => ev n ws r w
end GX
set_option Elab.async false
set_option linter.all false
set_option maxRecDepth 100000
set_option maxHeartbeats 4000000
/-! Contents with a place more, or one less. -/
namespace GX
open PySem PySem.Spec PyProof.Rows L2
def del (p n : Nat) : Nat := n / (2 * 2 ^ p) * 2 ^ p + n % 2 ^ p
def ins (p r : Nat) : Nat := r / 2 ^ p * (2 * 2 ^ p) + r % 2 ^ p
/-- with a place more -/
def wd (xs : List Nat) (p : Nat) : List Nat := (List.range (2 * xs.length)).map fun n => xs.getD (del p n) 0
end GX
set_option Elab.async false
set_option linter.all false
set_option maxRecDepth 100000
set_option maxHeartbeats 4000000
/-! Lists of tuples of whole numbers, sorted. -/
namespace GX
open PySem PySem.Spec PyProof.Rows L2
def natV : V → Nat
  | .int i => i.toNat
  | _ => 0
/-- the whole numbers of a tuple -/
def tupN (H : Hp) : V → List Nat
  | .ref t => match H t with
    | some (.tup xs) => xs.map natV
    | _ => []
  | _ => []
theorem tupN_at {H : Hp} {t : Addr} {c : List Nat} (h : H t = some (.tup (c.map nV))) : tupN H (.ref t) = c := by
  show (match H t with | some (HO.tup xs) => xs.map natV | _ => []) = c
  rw [h]
  show (c.map nV).map natV = c
  rw [List.map_map]
  conv => rhs; rw [← List.map_id c]
  refine List.map_congr_left fun x _ => ?_
  show ((x : Nat) : Int).toNat = x
  exact Int.toNat_natCast x
abbrev TupsAt (H : Hp) (qs : List Addr) (cs : List (List Nat)) : Prop := RefsAt (fun c : List Nat => c.map nV) H qs cs
theorem TupsAt.map {H : Hp} : ∀ {qs : List Addr} {cs : List (List Nat)}, TupsAt H qs cs → (qs.map V.ref).map (tupN H) = cs
  | [], cs, h => (List.length_eq_zero_iff.mp h.1.symm).symm
  | q :: qs, [], h => by cases h.1
  | q :: qs, c :: cs, h => by
    have h1 := h.2 0 q c rfl rfl
    have h2 : TupsAt H qs cs := ⟨Nat.succ.inj h.1, fun i p x e1 e2 => h.2 (i + 1) p x e1 e2⟩
    show tupN H (.ref q) :: _ = _
    rw [tupN_at h1, TupsAt.map h2]
theorem TupsAt.all {H : Hp} {qs : List Addr} {cs : List (List Nat)} (h : TupsAt H qs cs) {x : V} (hx : x ∈ qs.map V.ref) : ∃ t c, x = .ref t ∧ c ∈ cs ∧ H t = some (.tup (c.map nV)) := by
  obtain ⟨i, hi, e⟩ := List.mem_iff_getElem.mp hx
  obtain ⟨t, c, e1, e2, e3⟩ := h.at_ (i := i) (v := x) (by rw [List.getElem?_eq_getElem hi, e])
  exact ⟨t, c, e1, List.mem_of_getElem? e2, e3⟩
/-- sorted: the tuples again -/
theorem tups_sorted {H : Hp} {qs : List Addr} {cs : List (List Nat)} (h : TupsAt H qs cs) {ys : List V} (srt : SrtO.Srtd (fun x y => HT.lexLt ((tupN H x).map fun n : Nat => (n : Int)) ((tupN H y).map fun n : Nat => (n : Int))) ys) (pm : ys.Perm (qs.map V.ref)) :
    ∃ (rs : List Addr) (ds : List (List Nat)), ys = rs.map V.ref ∧ TupsAt H rs ds ∧ ds.Perm cs ∧ ds.Pairwise fun a b => lexN b a = false := by
  have hall : ∀ y ∈ ys, ∃ t c, y = .ref t ∧ c ∈ cs ∧ H t = some (.tup (c.map nV)) := fun y hy => h.all (pm.mem_iff.mp hy)
  have mk : ∀ zs : List V, (∀ y ∈ zs, ∃ t c, y = .ref t ∧ c ∈ cs ∧ H t = some (.tup (c.map nV))) → ∃ rs : List Addr, zs = rs.map V.ref ∧ TupsAt H rs (zs.map (tupN H)) := by
    intro zs
    induction zs with
    | nil => exact fun _ => ⟨[], rfl, RefsAt.nil _ _⟩
    | cons y zs ih =>
      intro hz
      obtain ⟨t, c, rfl, _, ht⟩ := hz y List.mem_cons_self
      obtain ⟨rs, e, hr⟩ := ih fun y hy => hz y (List.mem_cons_of_mem _ hy)
      refine ⟨t :: rs, by rw [e]; rfl, ⟨congrArg Nat.succ hr.1, fun i p x e1 e2 => ?_⟩⟩
      cases i with
      | zero =>
        cases e1
        have e2' : some (tupN H (.ref t)) = some x := e2
        rw [tupN_at ht] at e2'
        cases e2'
        exact ht
      | succ i => exact hr.2 i p x e1 e2
  obtain ⟨rs, e, hr⟩ := mk ys hall
  refine ⟨rs, ys.map (tupN H), e, hr, ?_, ?_⟩
  · have := pm.map (tupN H)
    rw [TupsAt.map h] at this
    exact this
  · exact List.pairwise_map.mpr srt
end GX
set_option Elab.async false
set_option linter.all false
set_option maxRecDepth 100000
set_option maxHeartbeats 4000000
/-! All sets of some wires; the least that tell among them. -/
namespace GX
open PySem PySem.Spec PyProof.Rows L2
end GX
namespace GX
open PySem PySem.Spec PyProof.Rows L2
end GX
namespace GX
open PySem PySem.Spec PyProof.Rows L2
def tupsD (cs : List (List Nat)) : List PyData := cs.map fun c : List Nat => .tuple ((c.map fun n : Nat => (n : Int)).map PyData.int)
theorem tupsD_can : ∀ cs : List (List Nat), PyData.canLayAll0 (tupsD cs) = true ∧ PyData.depthAll (tupsD cs) ≤ 1
  | [] => ⟨rfl, Nat.zero_le _⟩
  | c :: r => by
    obtain ⟨h1, h2⟩ := tupsD_can r
    obtain ⟨g1, g2⟩ := canInts (c.map fun n : Nat => (n : Int))
    refine ⟨?_, ?_⟩
    · show (PyData.canLayAll0 ((c.map fun n : Nat => (n : Int)).map PyData.int) && PyData.canLayAll0 (tupsD r)) = true
      rw [g1, h1]
      rfl
    · show max (PyData.depthAll ((c.map fun n : Nat => (n : Int)).map PyData.int) + 1) (PyData.depthAll (tupsD r)) ≤ 1
      rw [g2]
      omega
theorem tupsD_shaped (cs : List (List Nat)) : SeqAt.shaped (.tuple (tupsD cs)) = true := shaped_tup (tupsD_can cs).1 (tupsD_can cs).2 (by decide)
theorem tupsD_eq (cs : List (List Nat)) : PyData.eqv (.tuple (tupsD cs)) (.tuple (tupsD cs)) = true := SeqAt.eqv_refl _ (SeqAt.canLay_of_shaped (tupsD_shaped cs))
theorem dpTups {K : PySem.W.Frag} {H : Hp} : ∀ {qs : List Addr} {cs : List (List Nat)}, TupsAt H qs cs → DpAll K H (qs.map V.ref) (tupsD cs)
  | [], cs, x => by
    have : cs = [] := List.length_eq_zero_iff.mp x.1.symm
    subst this
    exact .nil
  | p :: r, [], x => by cases x.1
  | p :: r, c :: cs, x => by
    have h1 := x.2 0 p c rfl rfl
    exact .cons (.tup (SqT.of h1) (dpNat K _ _)) (dpTups (K := K) (H := H) (qs := r) (cs := cs) ⟨by simpa using x.1, fun i p' t' e1 e2 => x.2 (i + 1) p' t' (by simpa using e1) (by simpa using e2)⟩)
end GX
namespace GX
open PySem PySem.Spec PyProof.Rows L2
/-- a least cut lies within each that tells -/
theorem lc_within {n : Net} (ok : n.Ok) {k g : Nat} {xs : List Nat} (ris : xs.Pairwise (· < ·)) (lt : ∀ x ∈ xs, x < g) (sep : Sep n g xs) (hl : xs.length ≤ k) : ∃ c, LC n k g c ∧ ∀ x ∈ c, x ∈ xs := by
  have hb := bits_mask ris
  have ht : Tm n g (maskOf xs) := by
    unfold Tm
    rw [hb]
    exact sep
  obtain ⟨f, f1, f2⟩ := min_ex (maskOf xs) (maskOf xs) (Nat.le_refl _) ht
  have hp : pop f ≤ k := Nat.le_trans (pop_sub f1) (by unfold pop; rw [hb]; exact hl)
  have fg : f.testBit g = false := by
    cases e : f.testBit g with
    | false => rfl
    | true =>
      have h1 := f1 g e
      rw [mask_bit, decide_eq_true_iff] at h1
      exact absurd (lt g h1) (Nat.lt_irrefl _)
  refine ⟨bitsOf f, lc_bits ok ⟨f2, hp, fg⟩, fun x hx => ?_⟩
  have h1 := f1 x (mem_bits.mp hx)
  rwa [mask_bit, decide_eq_true_iff] at h1
end GX
namespace GX
open PySem PySem.Spec PyProof.Rows L2
end GX
set_option Elab.async false
set_option linter.all false
/-! Comprehensions within comprehensions. -/
namespace GX
open PySem PySem.Spec PyProof.Rows L2
theorem pi_tupK {X : Cx} {tg l : Expr} {tl : TE} {K : PySem.W.Frag} (hl : PE X l tl) (h : X.K = K := by rfl) : PI X tg l (iTup K tl) := by subst h; exact pi_tup hl
theorem cr_maxK {X : Cx} {K : PySem.W.Frag} (hc : X.calm = true) (h : X.K = K := by rfl) : CallR X (.builtin "max") (rMax K) := by subst h; exact cr_max hc
end GX
set_option Elab.async false
set_option linter.all false
set_option maxRecDepth 100000
set_option maxHeartbeats 4000000
namespace GX
open PySem PySem.Spec PyProof.Rows L2
end GX
set_option Elab.async false
set_option linter.all false
set_option maxRecDepth 100000
set_option maxHeartbeats 4000000
/-! Depths in covers; lean covers. -/
namespace GX
open PySem PySem.Spec PyProof.Rows L2
def maxL : List Nat → Nat
  | [] => 0
  | x :: r => max x (maxL r)
theorem le_maxL {xs : List Nat} {x : Nat} (h : x ∈ xs) : x ≤ maxL xs := by
  induction xs with
  | nil => cases h
  | cons y r ih =>
    unfold maxL
    rcases List.mem_cons.mp h with h | h
    · omega
    · have := ih h
      omega
theorem maxL_mem {xs : List Nat} (h : 0 < xs.length) : maxL xs ∈ xs := by
  induction xs with
  | nil => cases h
  | cons y r ih =>
    unfold maxL
    cases r with
    | nil =>
      show max y 0 ∈ _
      rw [Nat.max_eq_left (Nat.zero_le _)]
      exact List.mem_cons_self
    | cons z t =>
      have := ih (Nat.succ_pos _)
      by_cases e : maxL (z :: t) ≤ y
      · rw [Nat.max_eq_left e]
        exact List.mem_cons_self
      · rw [Nat.max_eq_right (by omega)]
        exact List.mem_cons_of_mem _ this
theorem max_eq {xs : List Nat} {m : Int} (hm : m ∈ xs.map fun n : Nat => (n : Int)) (hb : ∀ y ∈ xs.map (fun n : Nat => (n : Int)), y ≤ m) : V.int m = nV (maxL xs) := by
  obtain ⟨x, hx, rfl⟩ := List.mem_map.mp hm
  have h1 := le_maxL hx
  have h2 := hb _ (List.mem_map.mpr ⟨_, maxL_mem (List.length_pos_of_mem hx), rfl⟩)
  show V.int _ = V.int _
  congr 1
  have h2' : ((maxL xs : Nat) : Int) ≤ ((x : Nat) : Int) := h2
  omega
theorem maxL_congr {ws : List Nat} {f g : Nat → Nat} (h : ∀ x ∈ ws, f x = g x) : maxL (ws.map f) = maxL (ws.map g) := by rw [List.map_congr_left h]
/-- depths, table by table -/
def dStep (f : Nat → Nat) (t : Tb) : Nat → Nat := fun x => if x = t.1 then 1 + maxL (t.2.map f) else f x
def dMap (cv : List Tb) : Nat → Nat := cv.foldl dStep (fun _ => 0)
theorem dMap_snoc (cv : List Tb) (t : Tb) : dMap (cv ++ [t]) = dStep (dMap cv) t := by
  unfold dMap
  rw [List.foldl_append]
  rfl
/-- tables rising, their wires lesser -/
structure Ris (cv : List Tb) : Prop where
  rise : cv.Pairwise (fun a b => a.1 < b.1)
  lt : ∀ t ∈ cv, ∀ x ∈ t.2, x < t.1
theorem Ris.init {cv : List Tb} {t : Tb} (h : Ris (cv ++ [t])) : Ris cv ∧ (∀ u ∈ cv, u.1 < t.1) ∧ ∀ x ∈ t.2, x < t.1 := by
  obtain ⟨h1, _, h3⟩ := List.pairwise_append.mp h.rise
  exact ⟨⟨h1, fun u hu => h.lt u (List.mem_append.mpr (.inl hu))⟩, fun u hu => h3 u hu t List.mem_cons_self, h.lt t (List.mem_append.mpr (.inr List.mem_cons_self))⟩
theorem rev_ind {P : List Tb → Prop} (h0 : P []) (h1 : ∀ cv t, P cv → P (cv ++ [t])) : ∀ cv, P cv := fun cv => by
  rw [← List.reverse_reverse cv]
  induction cv.reverse with
  | nil => exact h0
  | cons t r ih =>
    rw [List.reverse_cons]
    exact h1 _ _ ih
theorem dMap_out {cv : List Tb} : ∀ x, (∀ t ∈ cv, t.1 ≠ x) → dMap cv x = 0 := by
  refine rev_ind (P := fun cv => ∀ x, (∀ t ∈ cv, t.1 ≠ x) → dMap cv x = 0) (fun x _ => rfl) (fun cv t ih x h => ?_) cv
  rw [dMap_snoc]
  unfold dStep
  rw [if_neg (fun e => h t (List.mem_append.mpr (.inr List.mem_cons_self)) e.symm)]
  exact ih x fun u hu => h u (List.mem_append.mpr (.inl hu))
theorem dMap_in {cv : List Tb} : Ris cv → ∀ t ∈ cv, dMap cv t.1 = 1 + maxL (t.2.map (dMap cv)) := by
  refine rev_ind (P := fun cv => Ris cv → ∀ t ∈ cv, dMap cv t.1 = 1 + maxL (t.2.map (dMap cv))) (fun _ t ht => by cases ht) (fun cv t ih h u hu => ?_) cv
  obtain ⟨r, h1, h2⟩ := h.init
  rw [dMap_snoc]
  rcases List.mem_append.mp hu with hu | hu
  · have lt := h1 u hu
    have e : ∀ x ∈ u.2, dStep (dMap cv) t x = dMap cv x := fun x hx => by
      have := r.lt u hu x hx
      unfold dStep
      rw [if_neg (by omega)]
    rw [maxL_congr e]
    unfold dStep
    rw [if_neg (by omega)]
    exact ih r u hu
  · rw [List.mem_singleton.mp hu]
    have e : ∀ x ∈ t.2, dStep (dMap cv) t x = dMap cv x := fun x hx => by
      have := h2 x hx
      unfold dStep
      rw [if_neg (by omega)]
    rw [maxL_congr e]
    unfold dStep
    rw [if_pos rfl]
theorem CovOk.ris {n : Net} {k : Nat} {cv : List Tb} (c : CovOk n k cv) : Ris cv := ⟨c.rise, fun t ht x hx => (c.cut t ht).1.lt x hx⟩
theorem Need.tab {n : Net} {k : Nat} {cv : List Tb} (c : CovOk n k cv) {x : Nat} (h : Need n cv x) : ∃ t ∈ cv, t.1 = x := by
  cases h with
  | out h1 h2 => exact c.outs _ h1 h2
  | step ht _ hx hm => exact c.clo _ ht _ hx hm
end GX
namespace GX
open PySem PySem.Spec PyProof.Rows L2
end GX
set_option Elab.async false
set_option linter.all false
set_option maxRecDepth 100000
set_option maxHeartbeats 4000000
/-! min(xs, key=lambda x: ..) where the lambda may call and capture names. -/
namespace GX
open PySem PySem.Spec PyProof.Rows L2
section
variable {X : Cx} {pins : List (Addr × Obj)} {σ : L2.St} {H : Hp} {s : Shared}
/-- what is at ch changes, which nobody tracks -/
theorem inv_raw {ch : List Addr} {h' : Heap} {t' : Nat} (I : Inv X pins σ H s) (hch : ∀ b ∈ ch, FpOk X pins H b) (k : ∀ b o, b ∉ ch → s.heap.get? b = some o → h'.get? b = some o) : Inv X pins σ H { s with heap := h', toks := t' } := by
  have nt : ∀ b u, H b = some u → b ∉ ch := fun b u q hb => by rw [(hch b hb).1] at q; cases q
  refine I.step (g' := s.gens) (t' := t') (d' := s.drawn) (ch := ch) (fun b hb => ⟨(hch b hb).2.2.2.1, (hch b hb).2.1, (hch b hb).2.2.2.2.1, (hch b hb).2.2.2.2.2⟩)
      (fun b ob _ _ hc q _ => k b ob hc q) (fun b ob _ _ hc q _ => ⟨ob.slots, k b ob hc q⟩) (fun _ _ _ _ n => n) (fun b ob hc q => ⟨ob, k b ob hc q⟩)
      (fun _ _ q => q) (fun _ _ _ q => q) (fun b ps q => ⟨#[], by rw [q]; simp⟩) (fun m hm => ?_) (fun b u q => ?_) I.bare
  · obtain ⟨ob, es, ep, ho, r⟩ := hm
    exact ⟨ob, es, ep, k _ ob (fun hb => (hch _ hb).2.1 rfl) ho, r⟩
  · refine (I.hok b u q).stay (fun c v hc y => k c v ?_ y) (fun _ y => y) fun _ _ y => y
    rcases hc with y | y
    · rw [y]; exact nt b u q
    · exact nt c _ y
/-- what stays true of a place when pins are added that are elsewhere -/
theorem FpOk.add {b : Addr} {p : Addr × Obj} (h : FpOk X pins H b) (n : p.1 ≠ b) : FpOk X (p :: pins) H b :=
  ⟨h.1, h.2.1, h.2.2.1, h.2.2.2.1, h.2.2.2.2.1, fun q hq => (List.mem_append.mp hq).elim (fun z => h.2.2.2.2.2 q (List.mem_append_left _ z)) fun z => (List.mem_cons.mp z).elim (fun e => by rw [e]; exact n) fun z => h.2.2.2.2.2 q (List.mem_append_right _ z)⟩
theorem FpOk.heap {b : Addr} {H' : Hp} (h : FpOk X pins H b) (n : H' b = none) : FpOk X pins H' b := ⟨n, h.2⟩
theorem FpOk.tail {b : Addr} {p : Addr × Obj} (h : FpOk X (p :: pins) H b) : FpOk X pins H b :=
  ⟨h.1, h.2.1, h.2.2.1, h.2.2.2.1, h.2.2.2.2.1, fun q hq => h.2.2.2.2.2 q ((List.mem_append.mp hq).elim (fun z => List.mem_append_left _ z) fun z => List.mem_append_right _ (List.mem_cons_of_mem _ z))⟩
theorem Inv.pin1 {b : Addr} {o : Obj} (I : Inv X pins σ H s) (h : FpOk X pins H b) (e : s.heap.get? b = some o) (d : ∀ v, o.data ≠ .cell v) : Inv X ((b, o) :: pins) σ H s :=
  I.pins_of fun p hp => (List.mem_cons.mp hp).elim (fun z => by rw [z]; exact ⟨e, h.1, h.2.1, h.2.2.1, d⟩) fun z => I.pin p (List.mem_append_right _ z)
theorem Inv.unpin1 {p : Addr × Obj} (I : Inv X (p :: pins) σ H s) : Inv X pins σ H s := I.pins_of fun q hq => I.pin q (List.mem_append_right _ (List.mem_cons_of_mem _ hq))
theorem iter_ne {h : Heap} {l a : Addr} {its : Array Value} {i : Nat} (hl : h.IsList l its) (hi : h.IsListIter a l i) : l ≠ a := fun z => by
  obtain ⟨o, ho, hc, _⟩ := hl
  obtain ⟨o2, ho2, hc2, _⟩ := hi
  rw [z, ho2] at ho
  cases ho
  rw [hc2] at hc
  injection hc with hc
  exact absurd hc (by decide)
/-- a list or a tuple walked by an iterator of its own -/
structure SeqK (X : Cx) (pins : List (Addr × Obj)) (σ : L2.St) (l : Addr) (xs : List V) (Sq : Hp → Prop) (It : Heap → Addr → Nat → Prop) : Prop where
  obj : ∀ {h : Heap} {a : Addr} {i : Nat}, It h a i → ∃ o, h.get? a = some o ∧ (∀ v, o.data ≠ .cell v) ∧ ∀ h' : Heap, h'.get? a = some o → It h' a i
  start : ∀ (s : Shared) (H : Hp) (Q E : Value → Shared → Prop), Inv X pins σ H s → Sq H → (∀ o, It (s.heap.push o) s.heap.objs.size 0 → Q (.ref s.heap.objs.size) { s with heap := s.heap.push o }) → wpAny (model X.prog X.w) X.A.in1 (pyIter (.ref l)) Q E s
  item : ∀ (s : Shared) (H : Hp) (a : Addr) (j : Nat) (x : V) (Q : Option Value → Shared → Prop) (E : Value → Shared → Prop), X.A.handled = none → Inv X pins σ H s → Sq H → It s.heap a j → xs[j]? = some x →
    (∀ v h' tk', RelV x v → It h' a (j + 1) → (∀ b o, b ∉ [a] → s.heap.get? b = some o → h'.get? b = some o) → Q (some v) { s with heap := h', toks := tk' }) → wpAny (model X.prog X.w) X.A.in1 (pyNext (.ref a)) Q E s
  done : ∀ (s : Shared) (H : Hp) (a : Addr) (Q : Option Value → Shared → Prop) (E : Value → Shared → Prop), X.A.handled = none → Inv X pins σ H s → Sq H → It s.heap a xs.length →
    (∀ h' tk', (∀ b o, b ∉ [a] → s.heap.get? b = some o → h'.get? b = some o) → Q none { s with heap := h', toks := tk' }) → wpAny (model X.prog X.w) X.A.in1 (pyNext (.ref a)) Q E s
theorem seqL {l : Addr} {xs : List V} : SeqK X pins σ l xs (fun H => SqL X.K H l xs) (fun h a i => h.IsListIter a l i) where
  obj := fun ⟨o, e, hc, hd⟩ => ⟨o, e, fun v z => (by rw [hd] at z; cases z), fun h' e' => ⟨o, e', hc, hd⟩⟩
  start := fun s H Q E I hs q => by
    obtain ⟨its, rv, hl, hz⟩ := I.list hs
    exact wpAny_pyIter_list hl.isList (q _ ⟨_, Heap.get?_push_size _ rfl, rfl, rfl⟩)
  item := fun s H a j x Q E hh I hs hit hx q => by
    obtain ⟨its, rv, hl, hz⟩ := I.list hs
    have hlen : its.toArray.size = xs.length := by rw [List.size_toArray]; exact rv.length.symm
    refine (Walks.list (prog := X.prog) (w := X.w) (A := X.A.in1) hh a l (iter_ne hl.isList hit) its.toArray).item j _ _ _ (by rw [hlen]; exact (List.getElem?_eq_some_iff.mp hx).1) ⟨hit, hl.isList⟩ fun v h' tk' hP hst' hk' => ?_
    obtain ⟨v', hv', rx⟩ := rv.get hx
    obtain rfl : v' = v := by
      have e : its.toArray[j]? = some v := hP
      rw [List.getElem?_toArray, hv'] at e
      exact Option.some.inj e
    exact q v' h' tk' rx hst'.1 hk'
  done := fun s H a Q E hh I hs hit q => by
    obtain ⟨its, rv, hl, hz⟩ := I.list hs
    have hlen : its.toArray.size = xs.length := by rw [List.size_toArray]; exact rv.length.symm
    exact (Walks.list (prog := X.prog) (w := X.w) (A := X.A.in1) hh a l (iter_ne hl.isList hit) its.toArray).done _ _ _ ⟨by rw [hlen]; exact hit, hl.isList⟩ q
/-! ### the loop of min -/
/-- a function value called with one value -/
def KeyR (X : Cx) (pl : List (Addr × Obj)) (q : Value) (σ : L2.St) (kt : V → Hp → VK → Prop) : Prop :=
  ∀ (pins : List (Addr × Obj)) (s : Shared) (H : Hp) (x : V) (u : Value) (Q : VK), (∀ p ∈ pl, p ∈ pins) → Inv X pins σ H s → RelV x u → kt x H Q → wpAny (model X.prog X.w) X.A.in1 (call q [u]) (EP X pins σ Q) (fun _ _ => False) s
def LtR (X : Cx) (σ : L2.St) (lt : R2) : Prop :=
  ∀ (pins : List (Addr × Obj)) (s : Shared) (H : Hp) (x y : V) (u v : Value) (Q : VK), Inv X pins σ H s → RelV x u → RelV y v → lt x y H Q → wpAny (model X.prog X.w) X.A.in1 (richCompare .Lt u v) (EP X pins σ Q) (fun _ _ => False) s
/-- the walk: what is known behind j items, the best one, its key -/
structure MinW (kt : V → Hp → VK → Prop) (lt : R2) (Sq : Hp → Prop) (xs : List V) (Q : VK) (W : Nat → V → V → Hp → Prop) : Prop where
  at_ : ∀ j b k H, W j b k H → Sq H
  step : ∀ j b k H x, W j b k H → xs[j]? = some x → kt x H fun k' H1 => lt k' k H1 fun r H2 => ∃ c, r = .bl c ∧ W (j + 1) (if c then x else b) (if c then k' else k) H2
  done : ∀ b k H, W xs.length b k H → Q b H
theorem min_loop {pl : List (Addr × Obj)} {q : Value} {kt : V → Hp → VK → Prop} {lt : R2} {l IA SA : Addr} {xs : List V} {Sq : Hp → Prop} {It : Heap → Addr → Nat → Prop} {Q : VK} {W : Nat → V → V → Hp → Prop} (SK : SeqK X pins σ l xs Sq It) (hh : X.A.handled = none) (hq : KeyR X pl q σ kt) (hlt : LtR X σ lt) (M : MinW kt lt Sq xs Q W) (hpl : ∀ p ∈ pl, p ∈ pins)
    (hSI : SA ≠ IA) (hqn : (∃ f, q = .ref f) ∨ ∃ id, q = .builtin id) :
    ∀ (r j : Nat) (s : Shared) (H : Hp) (b k : V) (ub uk : Value) (c : Nat), xs.length - j = r → j ≤ xs.length → Inv X pins σ H s → FpOk X pins H IA → FpOk X pins H SA → s.heap.get? SA = some (seqObj "list" #[ub, uk] c) → It s.heap IA j → RelV b ub → RelV k uk → W j b k H →
      codeAny (model X.prog X.w) X.A (.builtin "min.loop" ⟨[.ref IA, q, .ref SA], []⟩) (fun r s' => ∃ v, r = .ok (.ret v) ∧ EP X pins σ Q v s') s := by
  have hname : (toString "min" ++ toString ".loop" : String) = "min.loop" := by decide
  rcases hqn with ⟨f, rfl⟩ | ⟨id, rfl⟩
  all_goals
    intro r
    induction r with
    | zero =>
      intro j s H b k ub uk c hr hj I fI fS gS hit rb rk w
      obtain rfl : j = xs.length := by omega
      refine codeAny_builtin PySem.F.entry_min_loop ?_
      rw [Around.under_plainId PySem.F.plain_min_loop _]
      show wpAny _ X.A.in1 (seqItems? (.ref SA) >>= _) _ _ _
      refine wpAny_bind (wpAny_seqItems gS rfl ?_)
      show wpAny _ X.A.in1 (tryCatch (pyNext (.ref IA)) _ >>= _) _ _ _
      refine wpAny_bind (wpAny_tryCatch (SK.done s H IA _ _ hh I (M.at_ _ _ _ _ w) hit fun h' tk' hk' => ?_))
      have gS' := hk' SA _ (by simpa using hSI) gS
      have k2 : ∀ b o, b ∉ [IA, SA] → s.heap.get? b = some o → (h'.update SA (Obj.mapSeq fun _ => (#[] : Array Value))).get? b = some o := fun b o hb e =>
        (Heap.get?_update_other _ _ (fun z => hb (by rw [z]; simp))).trans (hk' b o (fun z => hb (by rw [List.mem_singleton.mp z]; simp)) e)
      show wpAny _ X.A.in1 (updateSeq SA (fun _ => #[]) >>= _) _ _ _
      refine wpAny_bind ?_
      refine wpAny_updateSeq gS' rfl (wpAny_bind (wpAny_letGo (wpAny_pure ?_)))
      exact ⟨_, rfl, b, H, inv_raw (s := s) (t' := tk') I (ch := [IA, SA]) (fun b hb => by
        rcases List.mem_cons.mp hb with z | z
        · rw [z]; exact fI
        · rw [List.mem_singleton.mp z]; exact fS) k2, rb, M.done _ _ _ w⟩
    | succ r ih =>
      intro j s H b k ub uk c hr hj I fI fS gS hit rb rk w
      have hlt' : j < xs.length := by omega
      refine codeAny_builtin PySem.F.entry_min_loop ?_
      rw [Around.under_plainId PySem.F.plain_min_loop _]
      show wpAny _ X.A.in1 (seqItems? (.ref SA) >>= _) _ _ _
      refine wpAny_bind (wpAny_seqItems gS rfl ?_)
      show wpAny _ X.A.in1 (tryCatch (pyNext (.ref IA)) _ >>= _) _ _ _
      obtain ⟨x, hx⟩ : ∃ x, xs[j]? = some x := ⟨_, List.getElem?_eq_getElem hlt'⟩
      refine wpAny_bind (wpAny_tryCatch (SK.item s H IA j x _ _ hh I (M.at_ _ _ _ _ w) hit hx fun v' h' tk' rx hst' hk' => ?_))
      obtain ⟨oI', hoI', nI, hoc⟩ := SK.obj hst'
      have gS1 := hk' SA _ (by simpa using hSI) gS
      have I1 : Inv X pins σ H { s with heap := h', toks := tk' } := inv_raw I (ch := [IA]) (fun b hb => by rw [List.mem_singleton.mp hb]; exact fI) fun b o hb e => hk' b o hb e
      have I2 := Inv.pin1 I1 fI hoI' nI
      have I3 := Inv.pin1 I2 (FpOk.add fS hSI.symm) gS1 (fun v z => by cases z)
      show wpAny _ X.A.in1 (tryCatch (holding [v'] (call _ [v'])) _ >>= _) _ _ _
      refine wpAny_bind (wpAny_tryCatch (wpAny_holding (wpAny_mono (hq _ _ _ x v' _ (fun p hp => List.mem_cons_of_mem _ (List.mem_cons_of_mem _ (hpl p hp))) I3 rx (M.step j b k H x w hx)) (fun u s2 ⟨k', H2, I4, rk', q2⟩ => ?_) fun _ _ hF => hF.elim)))
      show wpAny _ X.A.in1 (tryCatch (holding [v', u] (richCompare .Lt u uk >>= _)) _ >>= _) _ _ _
      refine wpAny_bind (wpAny_tryCatch (wpAny_holding (wpAny_bind (wpAny_mono (hlt _ _ _ k' k u uk _ I4 rk' rk q2) (fun bv s3 ⟨rv', H3, I5, rr, q3⟩ => ?_) fun _ _ hF => hF.elim))))
      obtain ⟨cb, rfl, w'⟩ := q3
      obtain rfl : bv = .bool cb := rr
      refine wpAny_bind (wpAny_holding (wpAny_truthy_bool ?_))
      refine wpAny_bind (wpAny_letGo (wpAny_pure ?_))
      have pS := I5.pin (SA, seqObj "list" #[ub, uk] c) (List.mem_append_right _ List.mem_cons_self)
      have pI := I5.pin (IA, oI') (List.mem_append_right _ (List.mem_cons_of_mem _ List.mem_cons_self))
      have I6 := Inv.unpin1 (Inv.unpin1 I5)
      have fI6 : FpOk X pins H3 IA := FpOk.heap fI pI.2.1
      have fS6 : FpOk X pins H3 SA := FpOk.heap fS pS.2.1
      have hit3 : It s3.heap IA (j + 1) := hoc _ pI.1
      cases cb with
      | true =>
        obtain ⟨c2, hc2⟩ : ∃ c2, (s3.heap.update SA (Obj.mapSeq fun _ => #[v', u])).get? SA = some (seqObj "list" #[v', u] c2) := ⟨_, get?_update_seq pS.1 fun _ => #[v', u]⟩
        simp only [if_true] at w' ⊢
        have k3 : ∀ b o, b ∉ [SA] → s3.heap.get? b = some o → (s3.heap.update SA (Obj.mapSeq fun _ => #[v', u])).get? b = some o := fun b o hb e =>
          (Heap.get?_update_other _ _ (fun z => hb (by rw [z]; simp))).trans e
        refine wpAny_bind ?_
        refine wpAny_updateSeq pS.1 rfl (wpAny_bind (wpAny_letGo ?_))
        rw [hname]
        refine wpAny_pure ⟨plainId_quiet PySem.F.plain_min_loop _, ih (j + 1) _ H3 x k' v' u c2 (by omega) hlt' (inv_raw I6 (ch := [SA]) (fun b hb => by rw [List.mem_singleton.mp hb]; exact fS6) k3) fI6 fS6 hc2 (hoc _ (k3 _ _ (fun z => hSI (List.mem_singleton.mp z).symm) pI.1)) rx rk' w'⟩
      | false =>
        simp only [Bool.false_eq_true, if_false] at w' ⊢
        refine wpAny_bind (wpAny_letGo ?_)
        rw [hname]
        exact wpAny_pure ⟨plainId_quiet PySem.F.plain_min_loop _, ih (j + 1) _ H3 b k ub uk c (by omega) hlt' I6 fI6 fS6 pS.1 hit3 rb rk w'⟩
theorem min_run {E : Value → Shared → Prop} {pl : List (Addr × Obj)} {q : Value} {kt : V → Hp → VK → Prop} {lt : R2} {l : Addr} {xs : List V} {Sq : Hp → Prop} {It : Heap → Addr → Nat → Prop} {Q : VK} {W : Nat → V → V → Hp → Prop} {x0 : V} (SK : SeqK X pins σ l xs Sq It) (hh : X.A.handled = none) (hq : KeyR X pl q σ kt) (hlt : LtR X σ lt) (M : MinW kt lt Sq xs Q W) (hpl : ∀ p ∈ pl, p ∈ pins)
    (hqn : (∃ f, q = .ref f) ∨ ∃ id, q = .builtin id) (I : Inv X pins σ H s) (hs : Sq H) (hx : xs[0]? = some x0) (first : kt x0 H fun k H1 => W 1 x0 k H1) :
    wpAny (model X.prog X.w) X.A (call (.builtin "min") [.ref l] [(Str.ofString "key", q)]) (EP X pins σ Q) E s := by
  have hname : (toString "min" ++ toString ".loop" : String) = "min.loop" := by decide
  have hne : 0 < xs.length := (List.getElem?_eq_some_iff.mp hx).1
  refine kmk_tree PySem.F.kind_min PySem.F.plain_min PySem.F.entry_min (kmk_min_key _ _) ?_
  rcases hqn with ⟨f, rfl⟩ | ⟨id, rfl⟩
  all_goals
    show wpAny _ X.A.in1 (Builtin.Builtins.bindParams "min" ["key", "default"] 0 ⟨[], [(Str.ofString "key", _)]⟩ >>= _) _ _ s
    refine wpAny_bind (wpAny_of_eq (show Builtin.Builtins.bindParams "min" ["key", "default"] 0 ⟨[], [(Str.ofString "key", _)]⟩ = pure [some _, none] from rfl) ?_)
    refine wpAny_bind (wpAny_pure ?_)
    refine wpAny_bind (SK.start s H _ _ I hs fun oi hit0 => ?_)
    refine wpAny_bind (wpAny_newList ?_ (Nat.zero_le _))
    rw [hname]
    have hS : (s.heap.push oi).objs.size = s.heap.objs.size + 1 := size_push' ..
    have hSI : (s.heap.push oi).objs.size ≠ s.heap.objs.size := by rw [hS]; exact Nat.ne_of_gt (Nat.lt_succ_self _)
    refine wpAny_pure ⟨plainId_quiet PySem.F.plain_min_loop _, ?_⟩
    obtain ⟨o0, ho0, _, hk0⟩ := SK.obj hit0
    have hit : It ((s.heap.push oi).push (seqObj "list" #[] 0)) s.heap.objs.size 0 := hk0 _ (Heap.get?_push_of_some _ ho0)
    have gS : ((s.heap.push oi).push (seqObj "list" #[] 0)).get? (s.heap.push oi).objs.size = some (seqObj "list" #[] 0) := Heap.get?_push_size _ rfl
    have I0 : Inv X pins σ H { s with heap := (s.heap.push oi).push (seqObj "list" #[] 0), toks := s.toks } := I.kept (t' := s.toks) fun b o e => Heap.get?_push_of_some _ (Heap.get?_push_of_some _ e)
    have fI : FpOk X pins H s.heap.objs.size := I.fpOk (Nat.le_refl _) (I.hok.fresh (Nat.le_refl _))
    have fS : FpOk X pins H (s.heap.push oi).objs.size := I.fpOk (by rw [hS]; omega) (I.hok.fresh (by rw [hS]; omega))
    clear ho0 hk0 hit0 hS
    generalize (s.heap.push oi).objs.size = SA at hSI gS fS ⊢
    have I00 : Inv X pins σ H { s with heap := (s.heap.push oi).push (seqObj "list" #[] 0) } := I0
    generalize (s.heap.push oi).push (seqObj "list" #[] 0) = h0 at hit gS I00 ⊢
    clear I0
    generalize s.heap.objs.size = IA at hSI hit fI ⊢
    refine codeAny_builtin PySem.F.entry_min_loop ?_
    rw [Around.under_plainId PySem.F.plain_min_loop _]
    show wpAny _ X.A.in1 (seqItems? (.ref SA) >>= _) _ _ _
    refine wpAny_bind (wpAny_seqItems gS rfl ?_)
    show wpAny _ X.A.in1 (tryCatch (pyNext (.ref IA)) _ >>= _) _ _ _
    refine wpAny_bind (wpAny_tryCatch (SK.item { s with heap := h0 } H IA 0 x0 _ _ hh I00 hs hit hx fun v' h' tk' rx hst' hk' => ?_))
    obtain ⟨oI', hoI', nI, hoc⟩ := SK.obj hst'
    have gS1 := hk' SA _ (by simpa using hSI) gS
    have I1 : Inv X pins σ H { s with heap := h', toks := tk' } := inv_raw (s := { s with heap := h0 }) (t' := tk') I00 (ch := [IA]) (fun b hb => by rw [List.mem_singleton.mp hb]; exact fI) fun b o hb e => hk' b o hb e
    have I2 := Inv.pin1 I1 fI hoI' nI
    have I3 := Inv.pin1 I2 (FpOk.add fS hSI.symm) gS1 (fun v z => by cases z)
    show wpAny _ X.A.in1 (tryCatch (holding [v'] (call _ [v'])) _ >>= _) _ _ _
    refine wpAny_bind (wpAny_tryCatch (wpAny_holding (wpAny_mono (hq _ _ _ x0 v' _ (fun p hp => List.mem_cons_of_mem _ (List.mem_cons_of_mem _ (hpl p hp))) I3 rx first) (fun u s2 ⟨k', H2, I4, rk', w1⟩ => ?_) fun _ _ hF => hF.elim)))
    have pS := I4.pin (SA, seqObj "list" #[] 0) (List.mem_append_right _ List.mem_cons_self)
    have pI := I4.pin (IA, oI') (List.mem_append_right _ (List.mem_cons_of_mem _ List.mem_cons_self))
    have I6 := Inv.unpin1 (Inv.unpin1 I4)
    have fI6 : FpOk X pins H2 IA := FpOk.heap fI pI.2.1
    have fS6 : FpOk X pins H2 SA := FpOk.heap fS pS.2.1
    obtain ⟨c2, hc2⟩ : ∃ c2, (s2.heap.update SA (Obj.mapSeq fun _ => #[v', u])).get? SA = some (seqObj "list" #[v', u] c2) := ⟨_, get?_update_seq pS.1 fun _ => #[v', u]⟩
    have k3 : ∀ b o, b ∉ [SA] → s2.heap.get? b = some o → (s2.heap.update SA (Obj.mapSeq fun _ => #[v', u])).get? b = some o := fun b o hb e =>
      (Heap.get?_update_other _ _ (fun z => hb (by rw [z]; simp))).trans e
    show wpAny _ X.A.in1 (updateSeq SA (fun _ => #[v', u]) >>= _) _ _ _
    refine wpAny_bind ?_
    refine wpAny_updateSeq pS.1 rfl ?_
    rw [hname]
    refine wpAny_pure ⟨plainId_quiet PySem.F.plain_min_loop _, codeAny_mono (min_loop SK hh hq hlt M hpl hSI (by first | exact .inl ⟨_, rfl⟩ | exact .inr ⟨_, rfl⟩) _ 1 _ H2 x0 k' v' u c2 rfl hne (inv_raw I6 (ch := [SA]) (fun b hb => by rw [List.mem_singleton.mp hb]; exact fS6) k3) fI6 fS6 hc2 (hoc _ (k3 _ _ (fun z => hSI (List.mem_singleton.mp z).symm) pI.1)) rx rk' w1) fun r s' ⟨v, e, h⟩ => ?_⟩
    subst e
    exact h
end
/-! ### the lambda: its names, its frame -/
/-! ### in a built-in -/
abbrev in1X (X : Cx) : Cx := { X with A := X.A.in1, xe := fun _ _ => False }
section
variable {X : Cx} {pins : List (Addr × Obj)} {σ : L2.St} {H : Hp} {s : Shared}
theorem inv_in1 (I : Inv X pins σ H s) : Inv (in1X X) pins σ H s :=
  ⟨⟨I.ok.mod, I.ok.kind, I.ok.glob, I.ok.blt, I.ok.above, I.ok.inj, I.ok.has, I.ok.cab, I.ok.hd, I.ok.frames, I.ok.stk, I.ok.exf, I.ok.bs, I.ok.bsz, I.ok.noex, I.ok.exfs, I.ok.funs, I.ok.frf⟩, I.os, I.bare, I.base, I.loc, I.cell, I.free, I.freeC, I.pin, I.hok, I.len⟩
theorem of_in1 (I : Inv (in1X X) pins σ H s) : Inv X pins σ H s :=
  ⟨⟨I.ok.mod, I.ok.kind, I.ok.glob, I.ok.blt, I.ok.above, I.ok.inj, I.ok.has, I.ok.cab, I.ok.hd, I.ok.frames, I.ok.stk, I.ok.exf, I.ok.bs, I.ok.bsz, I.ok.noex, I.ok.exfs, I.ok.funs, I.ok.frf⟩, I.os, I.bare, I.base, I.loc, I.cell, I.free, I.freeC, I.pin, I.hok, I.len⟩
theorem ltR_of {lt : R2} (h : OpR (in1X X) (compareOp .Lt) lt) : ∀ σ, LtR X σ lt := fun σ pins s H x y u v Q I rx ry q =>
  wpAny_mono (h pins s σ H x y u v Q (inv_in1 I) rx ry q) (fun w s' ⟨z, H', I', r, q'⟩ => ⟨z, H', of_in1 I', r, q'⟩) fun _ _ z => z
theorem keyR_of {q : Value} {r : List V → Hp → VK → Prop} (h : CallR (in1X X) q r) : ∀ σ, KeyR X [] q σ (fun x H Q => r [x] H Q) := fun σ pins s H x u Q _ I rx q' =>
  wpAny_mono (h pins s σ H [x] [u] Q (inv_in1 I) (.cons rx .nil) q') (fun w s' ⟨z, H', I', r, q'⟩ => ⟨z, H', of_in1 I', r, q'⟩) fun _ _ z => z
/-! ### min(xs, key=..) -/
/-- at_: what a walk needs of the heap at each turn -/
def rMinK (Sq : Hp → Addr → List V → Prop) (kt : V → Hp → VK → Prop) (lt : R2) (at_ : Hp → Prop) (l : Addr) (xs : List V) (H : Hp) (Q : VK) : Prop :=
  ∃ (x0 : V) (W : Nat → V → V → Hp → Prop), xs[0]? = some x0 ∧ kt x0 H (fun k H1 => W 1 x0 k H1) ∧ (∀ j b k H, W j b k H → Sq H l xs ∧ at_ H) ∧
    (∀ j b k H x, W j b k H → xs[j]? = some x → kt x H fun k' H1 => lt k' k H1 fun r H2 => ∃ c, r = .bl c ∧ W (j + 1) (if c then x else b) (if c then k' else k) H2) ∧ ∀ b k H, W xs.length b k H → Q b H
/-- min(xs, key=f), f a built-in's name -/
def tMinB (Sq : Hp → Addr → List V → Prop) (ta : TE) (r : List V → Hp → VK → Prop) (lt : R2) : TE := fun σ H Q => tCons ta tNil σ H fun vs H1 => ∃ (l : Addr) (xs : List V), vs = [.ref l] ∧ Sq H1 l xs ∧ rMinK Sq (fun x H Q => r [x] H Q) lt (fun _ => True) l xs H1 Q
theorem pe_minB {Sq : Hp → Addr → List V → Prop} {It : Addr → Heap → Addr → Nat → Prop} {e : Expr} {id : String} {fn : Str} {kpos p1 p2 pos : Pos} {ta : TE} {r : List V → Hp → VK → Prop} {lt : R2} (SK : ∀ (pins : List (Addr × Obj)) (σ : L2.St) (l : Addr) (xs : List V), SeqK X pins σ l xs (fun H => Sq H l xs) (It l))
    (hh : X.A.handled = none) (hgl : Gl X "min") (hm : X.mg "min" = none) (hgf : Gl X fn) (hmf : X.mg fn = none) (hvf : bootBuiltins fn = some (.builtin id)) (hc : CallR (in1X X) (.builtin id) r) (hlt : ∀ σ, LtR X σ lt) (ha : PA X [e] (tCons ta tNil)) (hn : fn ≠ "__name__" := by decide) (hdb : (fn == ("__debug__" : Str)) = false := by decide)
    (he : backTo pos (starEach [e] X.env) = (false, eval e X.env) :: backTo pos (starEach [] X.env) := by rfl) (hpl : (backTo pos (starEach [e] X.env)).any (·.1) = false := by rfl) :
    PE X (.Call (.Name "min" p1) [e] [⟨some (Str.ofString "key"), .Name fn p2, kpos⟩] pos) (tMinB Sq ta r lt) := by
  refine ⟨fun pins s σ H Q I h => ?_⟩
  refine wpAny_Call_Name_kw (ld_blt I hgl hm (show bootBuiltins "min" = some (.builtin "min") by decide +kernel) ?_)
  refine PyProof.Rows.callWith_kw (thn (ha.run pos pins s σ H _ I h) fun us s1 ⟨vs, H1, I1, r1, q1⟩ => ?_) he hpl
  obtain ⟨l, xs, rfl, hs, x0, W, hx0, first, wat, step, fin⟩ := q1
  obtain rfl := Vals.ref1 r1
  show wpAny _ _ (evalAll [(do let v ← eval (.Name fn p2) X.env; standAt pos; pure v)]) _ _ s1
  refine wpAny_evalAll_cons (wpAny_bind ?_)
  refine ld_blt I1 hgf hmf hvf ?_ hn hdb
  refine wpAny_bind (wpAny_standAt (wpAny_pure (wpAny_evalAll_nil ?_)))
  exact min_run (W := fun j b k H => W j b k H) (E := X.xe) (pl := []) (SK _ σ l xs) hh (keyR_of hc σ) (hlt σ) ⟨fun j b k H w => (wat j b k H w).1, fun j b k H x w hx => step j b k H x w hx, fin⟩ (fun p hp => by cases hp) (.inr ⟨id, rfl⟩) I1 hs hx0 first
/-- min of a list by a built-in -/
theorem pe_minBL {K : PySem.W.Frag} {e : Expr} {id : String} {fn : Str} {kpos p1 p2 pos : Pos} {ta : TE} {r : List V → Hp → VK → Prop} {lt : R2} (hK : X.K = K)
    (hh : X.A.handled = none) (hgl : Gl X "min") (hm : X.mg "min" = none) (hgf : Gl X fn) (hmf : X.mg fn = none) (hvf : bootBuiltins fn = some (.builtin id)) (hc : CallR (in1X X) (.builtin id) r) (hlt : ∀ σ, LtR X σ lt) (ha : PA X [e] (tCons ta tNil)) (hn : fn ≠ "__name__" := by decide) (hdb : (fn == ("__debug__" : Str)) = false := by decide)
    (he : backTo pos (starEach [e] X.env) = (false, eval e X.env) :: backTo pos (starEach [] X.env) := by rfl) (hpl : (backTo pos (starEach [e] X.env)).any (·.1) = false := by rfl) :
    PE X (.Call (.Name "min" p1) [e] [⟨some (Str.ofString "key"), .Name fn p2, kpos⟩] pos) (tMinB (SqL K) ta r lt) := by
  subst hK
  exact pe_minB (It := fun l h a i => h.IsListIter a l i) (fun _ _ _ _ => seqL) hh hgl hm hgf hmf hvf hc hlt ha hn hdb he hpl
end
/-! ### tables of lambdas beside those of generator expressions -/
/-- all but the tables stays; the tables of Ts and the lambda's at P are tables -/
structure AftL (Ts : List Addr) (P : Addr) (q : Str) (H H' : Hp) : Prop where
  kp : Keep (P :: Ts) H H'
  tb : Tabs Ts H'
  tl : LamX.TabS H' P q
section
variable {Ts : List Addr} {P : Addr} {q : Str} {H H1 H2 : Hp}
theorem AftL.trans (a : AftL Ts P q H H1) (b : AftL Ts P q H1 H2) : AftL Ts P q H H2 := ⟨a.kp.trans b.kp, b.tb, b.tl⟩
theorem AftL.refl (t : Tabs Ts H) (l : LamX.TabS H P q) : AftL Ts P q H H := ⟨Keep.refl, t, l⟩
theorem tabS_keep {X : List Addr} (l : LamX.TabS H P q) (k : Keep X H H1) (hP : P ∉ X) (hX : ∀ b ∈ X, (∃ ps, H b = some (.tbl ps)) ∨ H b = none ∨ ∃ xs, H b = some (.lst xs)) : LamX.TabS H1 P q := by
  obtain ⟨ps, h1, h2, h3⟩ := l
  refine ⟨ps, k _ _ h1 hP, h2, fun pos cv hc => ?_⟩
  obtain ⟨c, e1, e2⟩ := h3 pos cv hc
  refine ⟨c, e1, k _ _ e2 fun hc => ?_⟩
  rcases hX c hc with ⟨ps', z⟩ | z | ⟨xs, z⟩
  · rw [e2] at z
    exact LamX.codeO_ne ps' (Option.some.inj z)
  · rw [e2] at z
    cases z
  · rw [e2] at z
    unfold LamX.CodeO at z
    cases z
theorem AftL.of (a : Aft Ts H H1) (t : Tabs Ts H) (l : LamX.TabS H P q) (hP : P ∉ Ts) : AftL Ts P q H H1 :=
  ⟨a.kp.mono fun b hb => List.mem_cons_of_mem _ hb, a.tb, tabS_keep l a.kp hP fun b hb => .inl (by obtain ⟨ps, h, _⟩ := t b hb; exact ⟨ps, h⟩)⟩
theorem AftL.same (s : Same H H1) (t : Tabs Ts H) (l : LamX.TabS H P q) : AftL Ts P q H H1 :=
  ⟨fun b o e _ => s b o e, fun b hb => by
    obtain ⟨ps, h, r⟩ := t b hb
    exact ⟨ps, s _ _ h, r⟩, l.ext fun b o e => s b o e⟩
theorem AftL.at_ (a : AftL Ts P q H H1) (t : Tabs Ts H) (l : LamX.TabS H P q) {b : Addr} {o : HO} (e : H b = some o) (hn : ∀ ps, o ≠ .tbl ps) : H1 b = some o := a.kp b o e fun z => by
  rcases List.mem_cons.mp z with z | z
  · obtain ⟨ps, h, _⟩ := l
    rw [← z, e] at h
    exact hn ps (Option.some.inj h)
  · exact t.nott e hn z
theorem AftL.tup (a : AftL Ts P q H H1) (t : Tabs Ts H) (l : LamX.TabS H P q) {b : Addr} {xs : List V} (e : H b = some (.tup xs)) : H1 b = some (.tup xs) := a.at_ t l e fun _ z => by cases z
theorem AftL.lst (a : AftL Ts P q H H1) (t : Tabs Ts H) (l : LamX.TabS H P q) {b : Addr} {xs : List V} (e : H b = some (.lst xs)) : H1 b = some (.lst xs) := a.at_ t l e fun _ z => by cases z
end
end GX
set_option Elab.async false
set_option linter.all false
set_option maxRecDepth 100000
set_option maxHeartbeats 4000000
/-! `<` of tuples of two ints and a tuple of ints. -/
namespace GX
open PySem PySem.Spec PyProof.Rows L2 PySem.SeqAt
/-- a key: two ints and a tuple of ints, told as one list -/
def KeyAt (K : PySem.W.Frag) (H : Hp) (v : V) (ks : List Int) : Prop := ∃ (a c : Addr) (d l : Int) (ns : List Int), v = .ref a ∧ ks = d :: l :: ns ∧ SqT K H a [.int d, .int l, .ref c] ∧ SqT K H c (ns.map V.int)
theorem sqT_same {K : PySem.W.Frag} {H H' : Hp} {a : Addr} {xs : List V} (s : Same H H') (h : SqT K H a xs) : SqT K H' a xs := by
  rcases h with (h | ⟨o, h⟩) | h
  · exact .inl (.inl (s _ _ h))
  · exact .inl (.inr ⟨o, s _ _ h⟩)
  · exact .inr h
theorem KeyAt.same {K : PySem.W.Frag} {H H' : Hp} {v : V} {ks : List Int} (s : Same H H') (h : KeyAt K H v ks) : KeyAt K H' v ks := by
  obtain ⟨ka, kc, d, l, ns, e1, e2, a1, a2⟩ := h
  exact ⟨ka, kc, d, l, ns, e1, e2, sqT_same s a1, sqT_same s a2⟩
end GX
set_option Elab.async false
set_option linter.all false
set_option maxRecDepth 100000
set_option maxHeartbeats 4000000
/-! The choice of a gate: the least deep, then the shortest, then the first. -/
namespace GX
open PySem PySem.Spec PyProof.Rows L2
/-- the key of a cut by the depths ds -/
def keyN (ds c : List Nat) : List Nat := (1 + maxL (c.map fun x => ds.getD x 0)) :: c.length :: c
theorem keyN_inj {ds c c' : List Nat} (h : keyN ds c = keyN ds c') : c = c' := by injection (List.cons.inj h).2
structure Best (ds : List Nat) (cs : List (List Nat)) (c : List Nat) : Prop where
  mem : c ∈ cs
  low : ∀ c' ∈ cs, lexN (keyN ds c') (keyN ds c) = false
theorem Best.uniq {ds : List Nat} {cs : List (List Nat)} {c c' : List Nat} (h : Best ds cs c) (h' : Best ds cs c') : c = c' := keyN_inj (lex_tri _ _ (h'.low _ h.mem) (h.low _ h'.mem))
theorem Best.congr {ds : List Nat} {cs cs' : List (List Nat)} {c : List Nat} (h : Best ds cs c) (m : ∀ c, c ∈ cs ↔ c ∈ cs') : Best ds cs' c := ⟨(m c).mp h.mem, fun c' hc => h.low c' ((m c').mpr hc)⟩
end GX
set_option Elab.async false
set_option linter.all false
set_option maxRecDepth 100000
set_option maxHeartbeats 4000000
/-! min(xs), xs a list of triples (int, int, tuple of ints). -/
namespace GX
open PySem PySem.Spec PyProof.Rows L2
end GX
set_option Elab.async false
set_option linter.all false
set_option maxRecDepth 100000
set_option maxHeartbeats 4000000
/-! Cuts put together as tuples. -/
namespace GX
open PySem PySem.Spec PyProof.Rows L2
/-! ### a dict whose keys are tuples of numbers -/
/-! ### masks of rising lists -/
/-! ### least ones, those of few wires first -/
def SubL (c d : List Nat) : Prop := ∀ x ∈ c, x ∈ d
def Minl (F : List (List Nat)) (c : List Nat) : Prop := ∀ c' ∈ F, SubL c' c → c' = c
/-- what is kept so far: all least ones below a size, and the first few of it -/
structure KeptL (F : List (List Nat)) (s : Nat) (rows : List (List Nat)) (R : List (List Nat)) : Prop where
  nd : R.Nodup
  mem : ∀ c, c ∈ R ↔ ((c ∈ F ∧ c.length < s ∨ c ∈ rows) ∧ Minl F c)
theorem KeptL.yes {F : List (List Nat)} {s : Nat} {rows R : List (List Nat)} (h : KeptL F s rows R) {c : List Nat} (hs : c.length = s) (hr : c ∉ rows) (hm : Minl F c) : KeptL F s (rows ++ [c]) (R ++ [c]) := by
  refine ⟨?_, fun d => ?_⟩
  · refine List.nodup_append.mpr ⟨h.nd, List.nodup_cons.mpr ⟨fun z => (by cases z), List.nodup_nil⟩, fun a ha b hb e => ?_⟩
    rw [List.mem_singleton.mp hb] at e
    rw [e] at ha
    rcases ((h.mem c).mp ha).1 with z | z
    · omega
    · exact hr z
  · rw [List.mem_append, h.mem, List.mem_append, List.mem_singleton]
    constructor
    · rintro (⟨h1, h2⟩ | rfl)
      · exact ⟨h1.imp id .inl, h2⟩
      · exact ⟨.inr (.inr rfl), hm⟩
    · rintro ⟨h1 | h1 | rfl, h2⟩
      · exact .inl ⟨.inl h1, h2⟩
      · exact .inl ⟨.inr h1, h2⟩
      · exact .inr rfl
theorem KeptL.no {F : List (List Nat)} {s : Nat} {rows R : List (List Nat)} (h : KeptL F s rows R) {c : List Nat} (hm : ¬ Minl F c) : KeptL F s (rows ++ [c]) R := by
  refine ⟨h.nd, fun d => ?_⟩
  rw [h.mem, List.mem_append, List.mem_singleton]
  constructor
  · rintro ⟨h1, h2⟩
    exact ⟨h1.imp id .inl, h2⟩
  · rintro ⟨h1 | h1 | rfl, h2⟩
    · exact ⟨.inl h1, h2⟩
    · exact ⟨.inr h1, h2⟩
    · exact absurd h2 hm
theorem KeptL.next {F : List (List Nat)} {s : Nat} {R : List (List Nat)} (h : KeptL F s (F.filter fun c => decide (c.length = s)) R) : KeptL F (s + 1) [] R := by
  refine ⟨h.nd, fun c => ?_⟩
  rw [h.mem]
  refine and_congr_left fun _ => ?_
  rw [List.mem_filter, decide_eq_true_iff]
  constructor
  · rintro (⟨h1, h2⟩ | ⟨h1, h2⟩)
    · exact .inl ⟨h1, by omega⟩
    · exact .inl ⟨h1, by omega⟩
  · rintro (⟨h1, h2⟩ | h1)
    · by_cases e : c.length = s
      · exact .inr ⟨h1, e⟩
      · exact .inl ⟨h1, by omega⟩
    · cases h1
/-! ### cuts of wires as masks -/
end GX
set_option Elab.async false
set_option linter.all false
set_option maxRecDepth 100000
set_option maxHeartbeats 4000000
/-! All rising rows; what tells by what is held. -/
namespace GX
open PySem PySem.Spec PyProof.Rows L2
end GX
set_option Elab.async false
set_option linter.all false
set_option maxRecDepth 100000
set_option maxHeartbeats 4000000
/-! len of a set of whole numbers. -/
namespace GX
open PySem PySem.Spec PyProof.Rows L2
end GX
set_option Elab.async false
set_option linter.all false
set_option maxRecDepth 100000
set_option maxHeartbeats 4000000
/-! Likenesses: steps, pairs, what is shown. -/
namespace GX
open PySem PySem.Spec PyProof.Rows L2
abbrev IP := Int × Int
def pV (x : IP) : List V := [.int x.1, .int x.2]
structure Stp where
  a : Int
  b : Int
  ps : List IP
def PsAt (H : Hp) (p : Addr) (xs : List IP) : Prop := ∃ qs : List Addr, H p = some (.tup (qs.map V.ref)) ∧ RefsAt pV H qs xs
def StAt (H : Hp) (p : Addr) (s : Stp) : Prop := ∃ q, H p = some (.tup [.int s.a, .int s.b, .ref q]) ∧ PsAt H q s.ps
def LkAt (H : Hp) (p : Addr) (ss : List Stp) : Prop := ∃ qs : List Addr, H p = some (.tup (qs.map V.ref)) ∧ PtsAt StAt H qs ss
def Tups (H H' : Hp) : Prop := ∀ b xs, H b = some (.tup xs) → H' b = some (.tup xs)
theorem Tups.refl (H : Hp) : Tups H H := fun _ _ e => e
theorem Tups.trans {H1 H2 H3 : Hp} (a : Tups H1 H2) (b : Tups H2 H3) : Tups H1 H3 := fun _ _ e => b _ _ (a _ _ e)
theorem Tups.same {H H' : Hp} (s : Same H H') : Tups H H' := fun _ _ e => s _ _ e
theorem PsAt.mono {H H' : Hp} {p : Addr} {xs : List IP} (k : Tups H H') (x : PsAt H p xs) : PsAt H' p xs := by
  obtain ⟨qs, h1, h2⟩ := x
  exact ⟨qs, k _ _ h1, h2.mono k⟩
theorem StAt.mono {H H' : Hp} (k : Tups H H') (p : Addr) (s : Stp) (x : StAt H p s) : StAt H' p s := by
  obtain ⟨q, h1, h2⟩ := x
  exact ⟨q, k _ _ h1, h2.mono k⟩
theorem LkAt.mono {H H' : Hp} {p : Addr} {ss : List Stp} (k : Tups H H') (x : LkAt H p ss) : LkAt H' p ss := by
  obtain ⟨qs, h1, h2⟩ := x
  exact ⟨qs, k _ _ h1, h2.mono (StAt.mono k)⟩
/-! ### what is asked -/
def IsPr (n m : Net) (x : IP) : Prop := (0 ≤ x.1 ∧ x.1 < ((n.many + n.gates.length : Nat) : Int)) ∧ (0 ≤ x.2 ∧ x.2 < ((m.many + m.gates.length : Nat) : Int))
def SameI (n : Net) (x : IP) : Prop := x.1 = x.2 ∧ x.1 < ((n.many : Nat) : Int)
def Shn (n : Net) (S : List IP) (x : IP) : Prop := SameI n x ∨ x ∈ S
def fsts (xs : List IP) : List Nat := xs.map fun x => x.1.toNat
def snds (xs : List IP) : List Nat := xs.map fun x => x.2.toNat
structure PrsOk (n m : Net) (xs : List IP) : Prop where
  l1 : 1 ≤ xs.length
  l8 : xs.length ≤ 8
  each : ∀ x ∈ xs, IsPr n m x
  rise : (fsts xs).Pairwise (· < ·)
  nod : (snds xs).Nodup
structure StpOk (n m : Net) (S : List IP) (s : Stp) : Prop where
  pr : IsPr n m (s.a, s.b)
  ps : PrsOk n m s.ps
  shn : ∀ x ∈ s.ps, Shn n S x
  tl1 : Sep n s.a.toNat (fsts s.ps)
  tl2 : Sep m s.b.toNat (snds s.ps)
  ct : contOf n (fsts s.ps) s.a.toNat = contOf m (snds s.ps) s.b.toNat
def outPs (n m : Net) : List IP := (n.outs.zip m.outs).map fun x => (((x.1 : Nat) : Int), ((x.2 : Nat) : Int))
def key (s : Stp) : IP := (s.a, s.b)
def Hlds (n m : Net) : List IP → List Stp → Prop
  | S, [] => ∀ x ∈ outPs n m, Shn n S x
  | S, s :: r => StpOk n m S s ∧ Hlds n m (S ++ [key s]) r
theorem Hlds.at_ {n m : Net} {S : List IP} {ss : List Stp} {i : Nat} {s : Stp} (e : ss[i]? = some s) : Hlds n m S (ss.drop i) ↔ (StpOk n m S s ∧ Hlds n m (S ++ [key s]) (ss.drop (i + 1))) := by
  have hi := (List.getElem?_eq_some_iff.mp e).1
  have hs : ss[i] = s := (List.getElem?_eq_some_iff.mp e).2
  rw [List.drop_eq_getElem_cons hi, hs]
  exact Iff.rfl
theorem Shn.congr {n : Net} {S S' : List IP} (h : ∀ x, x ∈ S ↔ x ∈ S') (x : IP) : Shn n S x ↔ Shn n S' x := by
  unfold Shn
  rw [h]
/-! ### whole numbers -/
/-! ### rising pairs -/
/-! ### pairs in a list -/
/-! ### the dict of what is shown -/
def pK (x : IP) : List L2.Key := [.inl x.1, .inl x.2]
theorem pK_inj {x y : IP} (h : pK x = pK y) : x = y := by
  obtain ⟨h1, h2⟩ := List.cons.inj h
  obtain ⟨h3, _⟩ := List.cons.inj h2
  exact Prod.ext (Sum.inl.inj h1) (Sum.inl.inj h3)
structure ShD (H : Hp) (d : Addr) (S : List IP) (kvs : List (List L2.Key × V)) : Prop where
  at_ : H d = some (.dT kvs)
  len : kvs.length ≤ S.length
  iff : ∀ x, (valV kvs (pK x)).isSome = true ↔ x ∈ S
theorem ShD.put {H : Hp} {d : Addr} {S : List IP} {kvs : List (List L2.Key × V)} {x : IP} (h : ShD H d S kvs) : ShD (upd H d (.dT (putK kvs (pK x) (.bl true)))) d (S ++ [x]) (putK kvs (pK x) (.bl true)) := by
  refine ⟨upd_same, ?_, fun y => ?_⟩
  · have := length_putK kvs (pK x) (.bl true)
    have := h.len
    rw [List.length_append]
    show _ ≤ _ + 1
    omega
  · rw [valV_put, List.mem_append, List.mem_singleton]
    by_cases e : y = x
    · rw [if_pos (by rw [e])]
      exact ⟨fun _ => .inr e, fun _ => rfl⟩
    · rw [if_neg (fun z => e (pK_inj z)), h.iff]
      exact ⟨.inl, fun z => z.resolve_right e⟩
end GX
set_option Elab.async false
set_option linter.all false
set_option maxRecDepth 100000
set_option maxHeartbeats 4000000
namespace GX
open PySem PySem.Spec PyProof.Rows L2
theorem Aft.dT {Ts : List Addr} {H H' : Hp} (a : Aft Ts H H') (t : Tabs Ts H) {b : Addr} {kvs : List (List L2.Key × V)} (e : H b = some (.dT kvs)) : H' b = some (.dT kvs) := a.kp b _ e (t.nott e fun _ z => by cases z)
theorem ShD.aft {Ts : List Addr} {H H' : Hp} {d : Addr} {S : List IP} {kvs : List (List L2.Key × V)} (h : ShD H d S kvs) (a : Aft Ts H H') (t : Tabs Ts H) : ShD H' d S kvs := ⟨a.dT t h.at_, h.len, h.iff⟩
theorem ShD.same {H H' : Hp} {d : Addr} {S : List IP} {kvs : List (List L2.Key × V)} (h : ShD H d S kvs) (s : Same H H') : ShD H' d S kvs := ⟨s _ _ h.at_, h.len, h.iff⟩
theorem Aft.tups {Ts : List Addr} {H H' : Hp} (a : Aft Ts H H') (t : Tabs Ts H) : Tups H H' := fun _ _ e => a.tup t e
theorem PrsOk.nd {n m : Net} {xs : List IP} (h : PrsOk n m xs) : (fsts xs).Nodup := h.rise.imp fun z => Nat.ne_of_lt z
end GX
set_option Elab.async false
set_option linter.all false
set_option maxRecDepth 100000
set_option maxHeartbeats 4000000
/-! min(xs), xs a list of tuples of ints. -/
namespace GX
open PySem PySem.Spec PyProof.Rows L2
end GX
set_option Elab.async false
set_option linter.all false
set_option maxRecDepth 100000
set_option maxHeartbeats 4000000
/-! max(xs, default=None), min(xs, default=None) of a list of ints. -/
namespace GX
open PySem PySem.Spec PyProof.Rows L2
def besV : Option (Nat × Value) → Array Value
  | none => #[]
  | some (_, v) => #[v, v]
theorem args_maxD (a d : Value) : argsOk "max" ⟨[a], [(Str.ofString "default", d)]⟩ := by unfold argsOk; kernel_rfl
section
variable {prog : Program} {w : World} {A : Around} {R : Result → Shared → Prop} {I : Addr} {fp wr : List Addr} {n : Nat} {P : Nat → Value → Prop} {St : Nat → Heap → Prop}
theorem maxD_loop (W : Walks prog w A.in1 I fp wr n P St) (num : Nat → Int) (hcmp : CmpOf prog w A.in1 .Gt P fun i j => decide (num i > num j)) (S : Addr) (hSf : S ∉ fp) (d : Value) :
    ∀ (k i : Nat) (s : Shared) (o : Option (Nat × Value)) (c : Nat), n - i = k → i ≤ n → St i s.heap → (∀ b v, o = some (b, v) → P b v ∧ b < i ∧ ∀ j, j < i → num j ≤ num b) → (o = none → i = 0) →
    s.heap.get? S = some { cls := .type "list", dict := none, data := .seq (besV o) c, slots := #[] } →
    (∀ h' tk, n = 0 → (∀ b o, b ∉ wr → b ≠ S → s.heap.get? b = some o → h'.get? b = some o) → R (.ok (.ret d)) { s with heap := h', toks := tk }) →
    (∀ b v h' tk, P b v → b < n → (∀ j, j < n → num j ≤ num b) → (∀ b o, b ∉ wr → b ≠ S → s.heap.get? b = some o → h'.get? b = some o) → R (.ok (.ret v)) { s with heap := h', toks := tk }) →
    codeAny (model prog w) A (.builtin "max.loop" ⟨[.ref I, .none, .ref S], [(Str.ofString "default", d)]⟩) R s := by
  have hSw : S ∉ wr := fun h => hSf (W.sub _ h)
  have hname : (toString "max" ++ toString ".loop" : String) = "max.loop" := by decide
  intro k
  induction k with
  | zero =>
    intro i s o c hk hi hst hb ho hS q0 q1
    have hin : i = n := by omega
    subst hin
    refine codeAny_builtin PySem.F.entry_max_loop ?_
    rw [Around.under_plainId PySem.F.plain_max_loop _]
    show wpAny _ A.in1 (seqItems? (.ref S) >>= _) _ _ s
    refine wpAny_bind (wpAny_seqItems hS rfl ?_)
    show wpAny _ A.in1 (tryCatch (pyNext (.ref I)) _ >>= _) _ _ s
    refine wpAny_bind (wpAny_tryCatch (W.done s _ _ hst fun h' tk hk' => ?_))
    have hS' := hk' S _ hSw hS
    cases o with
    | none =>
      refine wpAny_bind (wpAny_rule ?_)
      exact wpAny_pure (q0 h' tk (ho rfl) fun b o hbw _ e => hk' b o hbw e)
    | some bv =>
      obtain ⟨b, v⟩ := bv
      obtain ⟨p1, p2, p3⟩ := hb b v rfl
      have hS' : h'.get? S = some { cls := .type "list", dict := none, data := .seq #[v, v] c, slots := #[] } := hS'
      show wpAny _ A.in1 (updateSeq S (fun _ => #[]) >>= _) _ _ _
      refine wpAny_bind ?_
      refine wpAny_updateSeq hS' rfl (wpAny_bind (wpAny_letGo (wpAny_pure ?_)))
      exact q1 b v _ tk p1 p2 p3 fun b o hbw hbS e => (Heap.get?_update_other _ _ (Ne.symm hbS)).trans (hk' b o hbw e)
  | succ k ih =>
    intro i s o c hk hi hst hb ho hS q0 q1
    have hlt : i < n := by omega
    refine codeAny_builtin PySem.F.entry_max_loop ?_
    rw [Around.under_plainId PySem.F.plain_max_loop _]
    show wpAny _ A.in1 (seqItems? (.ref S) >>= _) _ _ s
    refine wpAny_bind (wpAny_seqItems hS rfl ?_)
    show wpAny _ A.in1 (tryCatch (pyNext (.ref I)) _ >>= _) _ _ s
    refine wpAny_bind (wpAny_tryCatch (W.item i s _ _ hlt hst fun v h' tk hP hst' hk' => ?_))
    have hS' := hk' S _ hSw hS
    have upS : ∀ (f : Array Value → Array Value) b o', b ∉ wr → b ≠ S → s.heap.get? b = some o' → (h'.update S (Obj.mapSeq f)).get? b = some o' := fun f b o' hbw hbS e => (Heap.get?_update_other _ _ (Ne.symm hbS)).trans (hk' b o' hbw e)
    have frS : ∀ f : Array Value → Array Value, St (i + 1) (h'.update S (Obj.mapSeq f)) := fun f => W.frame _ _ _ hst' fun b hbf o' e => (Heap.get?_update_other _ _ (fun h : S = b => hSf (by rw [h]; exact hbf))).trans e
    cases o with
    | none =>
      obtain rfl := ho rfl
      show wpAny _ A.in1 (updateSeq S (fun _ => #[v, v]) >>= _) _ _ _
      refine wpAny_bind ?_
      refine wpAny_updateSeq hS' rfl ?_
      rw [hname]
      refine wpAny_pure ⟨plainId_quiet PySem.F.plain_max_loop _, ih 1 _ (some (0, v)) _ (by omega) hlt (frS _) (fun b u e => ?_) (fun z => by cases z) (Heap.get?_update_self _ hS' rfl) (fun h'' tk'' z _ => absurd z (by omega)) fun b u h'' tk'' p1 p2 p3 hk'' => q1 b u h'' tk'' p1 p2 p3 fun b o' hbw hbS e => hk'' b o' hbw hbS (upS _ b o' hbw hbS e)⟩
      cases e
      refine ⟨hP, Nat.zero_lt_one, fun j hj => ?_⟩
      obtain rfl : j = 0 := by omega
      exact Int.le_refl _
    | some bv =>
      obtain ⟨b, vb⟩ := bv
      obtain ⟨p1, p2, p3⟩ := hb b vb rfl
      have hS' : h'.get? S = some { cls := .type "list", dict := none, data := .seq #[vb, vb] c, slots := #[] } := hS'
      show wpAny _ A.in1 (tryCatch (holding [v, v] (richCompare .Gt v vb >>= _)) _ >>= _) _ _ _
      refine wpAny_bind (wpAny_tryCatch (wpAny_holding (wpAny_bind (hcmp i b v vb _ _ _ hP p1 ?_))))
      refine wpAny_bind (wpAny_holding (wpAny_truthy_bool ?_))
      refine wpAny_bind (wpAny_letGo (wpAny_pure ?_))
      by_cases hg : num i > num b
      · rw [if_pos (show (fun i j => decide (num i > num j)) i b = true from decide_eq_true hg)]
        refine wpAny_bind ?_
        refine wpAny_updateSeq hS' rfl (wpAny_bind (wpAny_letGo ?_))
        rw [hname]
        refine wpAny_pure ⟨plainId_quiet PySem.F.plain_max_loop _, ih (i + 1) _ (some (i, v)) _ (by omega) hlt (frS _) (fun b u e => ?_) (fun z => by cases z) (Heap.get?_update_self _ hS' rfl) (fun h'' tk'' z _ => absurd z (by omega)) fun b u h'' tk'' p1 p2 p3 hk'' => q1 b u h'' tk'' p1 p2 p3 fun b o' hbw hbS e => hk'' b o' hbw hbS (upS _ b o' hbw hbS e)⟩
        cases e
        refine ⟨hP, Nat.lt_succ_self _, fun j hj => ?_⟩
        rcases Nat.lt_succ_iff_lt_or_eq.mp hj with h | h
        · have := p3 j h
          omega
        · rw [h]
          exact Int.le_refl _
      · rw [if_neg (show ¬ (fun i j => decide (num i > num j)) i b = true from fun z => hg (of_decide_eq_true z))]
        refine wpAny_bind (wpAny_letGo ?_)
        rw [hname]
        refine wpAny_pure ⟨plainId_quiet PySem.F.plain_max_loop _, ih (i + 1) _ (some (b, vb)) c (by omega) hlt hst' (fun b' u e => ?_) (fun z => by cases z) hS' (fun h'' tk'' z _ => absurd z (by omega)) fun b u h'' tk'' p1 p2 p3 hk'' => q1 b u h'' tk'' p1 p2 p3 fun b o' hbw hbS e => hk'' b o' hbw hbS (hk' b o' hbw e)⟩
        cases e
        refine ⟨p1, by omega, fun j hj => ?_⟩
        rcases Nat.lt_succ_iff_lt_or_eq.mp hj with h | h
        · exact p3 j h
        · rw [h]
          omega
end
section
variable {prog : Program} {w : World} {A : Around} {E : Value → Shared → Prop} {s : Shared} {l : Addr} {its : List Value} {ns : List Int} {Q : Value → Shared → Prop}
theorem maxD_raw (hh : A.handled = none) (hl : s.heap.IsList l its.toArray) (hi : IntsAre its ns) (d : Value)
    (h0 : ∀ h' tk, ns = [] → (∀ b o, s.heap.get? b = some o → h'.get? b = some o) → Q d { s with heap := h', toks := tk })
    (h : ∀ h' tk M t', (∀ b o, s.heap.get? b = some o → h'.get? b = some o) → M ∈ ns → (∀ a, a ∈ ns → a ≤ M) → Q (.int M t') { s with heap := h', toks := tk }) : wpAny (model prog w) A (call (.builtin "max") [.ref l] [(Str.ofString "default", d)]) Q E s := by
  obtain ⟨xs, e⟩ := hi.allInts.items
  have hn : numsOf (intItems xs).toList = ns := by rw [← e]; exact hi.numsOf
  rw [nums_intItems] at hn
  subst hn
  rw [e] at hl
  have hname : (toString "max" ++ toString ".loop" : String) = "max.loop" := by decide
  refine kmk_tree PySem.F.kind_max PySem.F.plain_max PySem.F.entry_max (args_maxD _ _) ?_
  show wpAny _ A.in1 (Builtin.Builtins.bindParams "max" ["key", "default"] 0 ⟨[], [(Str.ofString "default", d)]⟩ >>= _) _ _ s
  refine wpAny_bind (wpAny_of_eq (show Builtin.Builtins.bindParams "max" ["key", "default"] 0 ⟨[], [(Str.ofString "default", d)]⟩ = pure [none, some d] from rfl) ?_)
  refine wpAny_bind (wpAny_pure ?_)
  refine wpAny_bind (PySem.iter_intList hl fun s₂ e2 st hfp hlI => ?_)
  refine wpAny_bind (wpAny_newObj_type ?_)
  subst e2
  have W := Walks.list (prog := prog) (w := w) (A := A.in1) hh _ l hlI (intItems xs)
  rw [hname]
  have old : ∀ {h' : Heap} {hp : Heap} {I : Addr}, I = s.heap.objs.size → (∀ b o, b ∉ [I] → b ≠ hp.objs.size → (hp.push { cls := .type "list", data := .seq #[] }).get? b = some o → h'.get? b = some o) → (∀ b o, s.heap.get? b = some o → hp.get? b = some o) → ∀ b o, s.heap.get? b = some o → h'.get? b = some o := fun hI hk hp b o e => by
    refine hk b o (fun z => ?_) (fun z => ?_) (Heap.get?_push_of_some _ (hp b o e))
    · rw [List.mem_singleton.mp z, hI] at e
      exact absurd (Heap.lt_size e) (Nat.lt_irrefl _)
    · have := Heap.lt_size (hp b o e)
      rw [z] at this
      exact absurd this (Nat.lt_irrefl _)
  refine wpAny_pure ⟨plainId_quiet PySem.F.plain_max_loop _, maxD_loop W (numAt xs) (CmpOf.ints_gt (numAt xs) (fun _ _ => intItems_at)) _ (fun hm => Nat.lt_irrefl _ (hfp _ hm)) d _ 0 _ none _ rfl (Nat.zero_le _) (W.frame _ _ _ st fun b _ o e => Heap.get?_push_of_some _ e) (fun b v z => by cases z) (fun _ => rfl) (Heap.get?_push_size _ rfl) (fun h' tk hz hk => ?_) (fun b v h' tk hv hbn hle hk => ?_)⟩
  · refine h0 h' tk ?_ (old rfl hk fun b o e => Heap.get?_push_of_some _ e)
    have : xs.size = 0 := by simpa [intItems] using hz
    rw [Array.eq_empty_of_size_eq_zero this]
    rfl
  · obtain ⟨t, rfl⟩ := intItems_at hv
    have hbn : b < xs.size := by simpa [intItems] using hbn
    refine h h' tk _ t (old rfl hk fun b o e => Heap.get?_push_of_some _ e) ?_ fun a ha => ?_
    · rw [numAt_eq]; exact PySem.getD_mem (by rw [List.length_map, Array.length_toList]; omega)
    · obtain ⟨j, hj, rfl⟩ := PySem.mem_getD ha
      rw [List.length_map, Array.length_toList] at hj
      rw [← numAt_eq]; exact hle j (by simpa [intItems] using hj)
end
section
variable {X : Cx}
/-- max(xs, default=None) of a list of ints -/
def rmaxD (K : PySem.W.Frag) : List V → Hp → VK → Prop := fun vs H Q => ∃ (a : Addr) (ns : List Int), vs = [V.ref a] ∧ SqL K H a (ns.map V.int) ∧ (ns = [] → Q .non H) ∧ ∀ m, m ∈ ns → (∀ y, y ∈ ns → y ≤ m) → Q (.int m) H
theorem pe_maxD {K : PySem.W.Frag} {e : Expr} {kpos p1 cp pos : Pos} {ck : Nat} {ta : TE} (hh : X.A.handled = none) (hgl : Gl X "max") (hm : X.mg "max" = none) (ha : PA X [e] (tCons ta tNil)) (hK : X.K = K := by rfl)
    (he : backTo pos (starEach [e] X.env) = (false, eval e X.env) :: backTo pos (starEach [] X.env) := by rfl) (hpl : (backTo pos (starEach [e] X.env)).any (·.1) = false := by rfl) :
    PE X (.Call (.Name "max" p1) [e] [⟨some (Str.ofString "default"), .Constant .none ck cp, kpos⟩] pos) (tCB (rmaxD K) (tCons ta tNil)) := by
  subst hK
  refine ⟨fun pins s σ H Q I h => ?_⟩
  refine wpAny_Call_Name_kw (ld_blt I hgl hm (show bootBuiltins "max" = some (.builtin "max") by decide +kernel) ?_)
  refine PyProof.Rows.callWith_kw (thn (ha.run pos pins s σ H _ I h) fun us s1 ⟨vs, H1, I1, r1, q1⟩ => ?_) he hpl
  obtain ⟨l, ns, rfl, hs, q0, q1⟩ := q1
  obtain rfl := Vals.ref1 r1
  obtain ⟨its, rv, hl, _⟩ := I1.list hs
  show wpAny _ _ (evalAll [(do let v ← eval (.Constant .none ck cp) X.env; standAt pos; pure v)]) _ _ s1
  refine wpAny_evalAll_cons (wpAny_bind ?_)
  refine wpAny_of_eq (show eval (.Constant .none ck cp) X.env = pure .none from rfl) ?_
  refine wpAny_bind (wpAny_standAt (wpAny_pure (wpAny_evalAll_nil ?_)))
  exact maxD_raw hh hl.isList rv.ints .none (fun h' tk e hk => ⟨.non, H1, I1.kept hk, rfl, q0 e⟩) fun h' tk m t' hk h1 h2 => ⟨.int _, H1, I1.kept hk, ⟨_, rfl⟩, q1 m h1 h2⟩
end
end GX
set_option Elab.async false
set_option linter.all false
set_option maxRecDepth 100000
set_option maxHeartbeats 4000000
/-! A tuple of things of any make, held against a tuple of one text. -/
namespace GX
open PySem PySem.Spec PyProof.Rows L2
open PySem.SeqAt (EqAt)
end GX
set_option Elab.async false
set_option linter.all false
set_option maxRecDepth 100000
set_option maxHeartbeats 4000000
/-! Anything held against a tuple with one text. -/
namespace GX
open PySem PySem.Spec PyProof.Rows L2
end GX
set_option Elab.async false
set_option linter.all false
set_option maxRecDepth 100000
set_option maxHeartbeats 4000000
/-! Things, and likenesses among them. -/
namespace GX
open PySem PySem.Spec PyProof.Rows L2
/-- tuples stand; lists stay lists, dicts dicts -/
def KeepR (H H' : Hp) : Prop := ∀ b, (∀ vs, H b = some (.tup vs) → H' b = some (.tup vs)) ∧ (∀ xs, H b = some (.lst xs) → ∃ ys, H' b = some (.lst ys)) ∧ (∀ k, H b = some (.dK k) → ∃ k', H' b = some (.dK k'))
mutual
theorem Rep.keepR {H H' : Hp} (k : KeepR H H') : ∀ {v : V} {t : Th}, Rep H v t → Rep H' v t
  | _, _, .non => .non
  | _, _, .bl b => .bl b
  | _, _, .int i => .int i
  | _, _, .str x => .str x
  | _, _, .lst (a := a) e => .lst ((k a).2.1 _ e).choose_spec
  | _, _, .dic (a := a) e => .dic ((k a).2.2 _ e).choose_spec
  | _, _, .tup (a := a) e r => .tup ((k a).1 _ e) (r.keepR k)
theorem RepAll.keepR {H H' : Hp} (k : KeepR H H') : ∀ {vs : List V} {ts : List Th}, RepAll H vs ts → RepAll H' vs ts
  | _, _, .nil => .nil
  | _, _, .cons a b => .cons (a.keepR k) (b.keepR k)
end
theorem KeepR.refl (H : Hp) : KeepR H H := fun b => ⟨fun _ e => e, fun _ e => ⟨_, e⟩, fun _ e => ⟨_, e⟩⟩
theorem KeepR.trans {H1 H2 H3 : Hp} (a : KeepR H1 H2) (c : KeepR H2 H3) : KeepR H1 H3 := fun b => ⟨fun _ e => (c b).1 _ ((a b).1 _ e), fun _ e => by
  obtain ⟨_, e'⟩ := (a b).2.1 _ e
  exact (c b).2.1 _ e', fun _ e => by
  obtain ⟨_, e'⟩ := (a b).2.2 _ e
  exact (c b).2.2 _ e'⟩
theorem KeepR.same {H H' : Hp} (s : Same H H') : KeepR H H' := fun b => ⟨fun _ e => s _ _ e, fun _ e => ⟨_, s _ _ e⟩, fun _ e => ⟨_, s _ _ e⟩⟩
theorem KeepR.aft {Ts : List Addr} {H H' : Hp} (t : Tabs Ts H) (a : Aft Ts H H') : KeepR H H' := fun b => ⟨fun _ e => a.kp b _ e (t.nott e fun _ z => by cases z), fun _ e => ⟨_, a.kp b _ e (t.nott e fun _ z => by cases z)⟩, fun _ e => ⟨_, a.kp b _ e (t.nott e fun _ z => by cases z)⟩⟩
theorem KeepR.put {H : Hp} {l : Addr} {xs ys : List V} (h : H l = some (.lst xs)) : KeepR H (upd H l (.lst ys)) := fun b => by
  by_cases e : b = l
  · subst e
    exact ⟨fun _ z => (by rw [h] at z; cases z), fun _ _ => ⟨_, upd_same⟩, fun _ z => (by rw [h] at z; cases z)⟩
  · exact ⟨fun _ z => (by rw [upd_ne e]; exact z), fun _ z => ⟨_, by rw [upd_ne e]; exact z⟩, fun _ z => ⟨_, by rw [upd_ne e]; exact z⟩⟩
/-! ### pairs, steps -/
end GX
set_option Elab.async false
set_option linter.all false
set_option maxRecDepth 100000
set_option maxHeartbeats 4000000
/-! x = {k: v for ..}: a dict comprehension given to a name. -/
namespace GX
open PySem PySem.Spec PyProof.Rows L2
end GX
set_option Elab.async false
set_option linter.all false
set_option maxRecDepth 100000
set_option maxHeartbeats 4000000
/-! Own exceptions: defs that may raise (CalX), a caught exception that stays known behind its try (ps_tryK), isinstance and fields of it. -/
namespace GX
open PySem PySem.Spec PyProof.Rows L2
open C8 (Cal)
/-! ### defs that may raise -/
structure CalX (P : Program) (w : World) (K : PySem.W.Frag) (mg : Str → Option Value) (base : Heap) (k : Nat) (x : Str) (sp : Sp) : Prop where
  ex : ∃ f : Addr, mg x = some (.ref f) ∧ PySem.W.keepIn K (.ref f) = true ∧ ∀ (A : Around) (outer : List Env) (s : Shared) (H : Hp) (us : List Value) (vs : List V) (Q : VK) (E : XK),
    Room k A → Env0 P w K mg base A outer s H → Vals vs us → sp vs H Q E → codeAny (model P w) A (.call (.ref f) ⟨us, []⟩) (CR (L2.CX P w) outer P w H s Q E) s
section
variable {P : Program} {w : World} {K : PySem.W.Frag} {mg : Str → Option Value} {base : Heap} {k j : Nat} {x : Str} {sp sp' : Sp}
theorem env0_kin {A : Around} {outer : List Env} {s : Shared} {H : Hp} (e : Env0 P w K mg base A outer s H) : K.In s.heap := fun a o q => (e.bs a o (e.mod.kin a o q)).1
theorem CalX.mono (c : CalX P w K mg base j x sp) (h : j ≤ k) : CalX P w K mg base k x sp := by
  obtain ⟨f, h1, h2, r⟩ := c.ex
  exact ⟨f, h1, h2, fun A o s H us vs Q E hr => r A o s H us vs Q E (hr.mono h)⟩
theorem CalX.imp (c : CalX P w K mg base k x sp) (h : ∀ vs H Q E, sp' vs H Q E → sp vs H Q E) : CalX P w K mg base k x sp' := by
  obtain ⟨f, h1, h2, r⟩ := c.ex
  exact ⟨f, h1, h2, fun A o s H us vs Q E hr e0 hv hs => r A o s H us vs Q E hr e0 hv (h _ _ _ _ hs)⟩
theorem fnok_x {CX : CXT} {f : Addr} {fd : FuncData} {ps : List Str} (F : FnOk P w K mg base CX k f fd ps sp) (hm : mg x = some (.ref f)) (kp : PySem.W.keepIn K (.ref f) = true) (b : Binds K fd ps [])
    (hCX : ∀ o H s E e s', CX o H s E e s' → L2.CX P w o H s E e s') : CalX P w K mg base k x sp := by
  refine ⟨f, hm, kp, fun A o s H us vs Q E hr e0 hv hs => ?_⟩
  have hl : us.length = ps.length := by rw [← hv.length]; exact F.len _ _ _ _ hs
  have bb := b s us (env0_kin e0) (by rw [List.append_nil]; exact hl)
  rw [List.append_nil] at bb
  refine codeAny_mono (F.run A o s H ⟨us, []⟩ us vs Q E hr e0 bb hv hs) fun r s' hq => ?_
  cases r with
  | error e => exact hCX _ _ _ _ _ _ hq
  | ok fl => cases fl <;> exact hq
/-- what raises nothing -/
theorem CalX.of (c : Cal P w K mg base k x sp []) : CalX P w K mg base k x sp := by
  obtain ⟨f, fd, ps, ds, F, hm, kp, b, d⟩ := c.ex
  cases d
  exact fnok_x F hm kp b fun _ _ _ _ _ _ z => z.elim
/-- the promise of a def that may raise, by its body -/
theorem calX {st : Stmt} {f c : Addr} {N ps : List Str} (D : Dfn K mg x st f c)
    (hb : ∀ (kV doc pm : Value) (an : Option Addr) (cdv ct : Value) (us : List Value), us.length = ps.length → bindArgs (PySem.W.fnOf x x (defArgs st) (defBody st) (defScope st) .none kV doc pm an cdv ct) ⟨us, []⟩ = pure (ps.zip us))
    (S : FnScope N ps (defScope st)) (len : ∀ vs H Q E, sp vs H Q E → vs.length = ps.length)
    (hbody : ∀ (A : Around) (outer : List Env) (s : Shared) (H : Hp) (vs : List V) (Q : VK) (E : XK), Room k (A.deeper (envOfC x (defScope st) s.heap.objs.size f (.ref c))) → sp vs H Q E →
      Takes (cxOf (L2.CX P w) P w K mg base N x (defScope st) f (.ref c) A outer s H E) (fun cls d _ H => E cls d H) →
      ∃ t, PSs (cxOf (L2.CX P w) P w K mg base N x (defScope st) f (.ref c) A outer s H E) (defBody st) t ∧ t { nx := fun _ H' => Q .non H', rt := Q } (start N vs) H) : CalX P w K mg base (k + 1) x sp := by
  obtain ⟨oc, od, kV, doc, pm, an, ct, osl, lk⟩ := D.ex
  refine fnok_x (fn_of lk D.hcd S len (fun A outer s H vs Q E hr hsp => ?_)) D.mgf D.kp (.all (hb kV doc pm an (.ref c) ct)) fun _ _ _ _ _ _ z => z
  exact hbody A outer s H vs Q E hr hsp (takes_of rfl rfl rfl rfl)
end
section
variable {X : Cx} {W : WX} {k j : Nat} {x : Str} {sp : Sp} {p pos : Pos} {e : Expr} {es : List Expr} {t : TA}
/-- f(..) where what it raises is taken -/
theorem pe_cX (c : CalX X.prog X.w X.K X.mg X.base k x sp) (tk : Takes X W) (hr : Room j X.A) (hk : k ≤ j) (hg : Gl X x) (ha : PA X (e :: es) t)
    (hdb : (x == ("__debug__" : Str)) = false := by decide) (he : starEach (e :: es) X.env = (false, eval e X.env) :: starEach es X.env := by rfl) (hpl : (backTo pos (starEach es X.env)).any (·.1) = false := by rfl) :
    PE X (.Call (.Name x p) (e :: es) [] pos) (tCallS sp (WE W) t) := by
  obtain ⟨f, hm, kp, r⟩ := c.ex
  refine ⟨fun pins s σ H Q I h => wpAny_Call_Name_kw (ld_glob I hg hm ?_ hdb)⟩
  refine PySem.W.callWith_K (h₀ := X.base) I.ok.mod.kin kp (thn (ha.run pos pins s σ H _ I h) fun us s1 hh => ?_) he hpl
  obtain ⟨vs, H1, I1, rv, q⟩ := hh
  refine ⟨I1.kIn, wpAny_call (codeAny_mono (r X.A X.stack s1 H1 us vs Q _ (hr.mono hk) I1.env0 rv q) fun rs s' hq => ?_)⟩
  cases rs with
  | error e => exact passAt tk σ _ _ _ _ _ I1 hq
  | ok fl =>
    cases fl with
    | ret u => exact I1.after hq
    | next => exact False.elim hq
    | brk => exact False.elim hq
    | cont => exact False.elim hq
end
/-- a statement that raises nothing -/
theorem psNox {X : Cx} {st : Stmt} {t : TS} (h : PS X.nox st t) : PS X st t := ⟨fun pins s σ H D I q => wpAny_mono (h.run pins s σ H D (I.wish _) q) (fun _ _ z => z.unwish) fun _ _ z => False.elim z⟩
/-- nothing is let out -/
theorem takes0 {X : Cx} : Takes X (fun _ _ _ _ => False) := fun u s' h => by
  obtain ⟨_, _, _, _, _, _, _, _, _, _, _, _, _, _, _, _, q⟩ := h
  exact q.elim
/-! ### own exception classes -/
/-- what must be known of the class x, at C, so that it is named in a clause, asked by isinstance, its instances asked -/
structure ExcT (K : PySem.W.Frag) (mg : Str → Option Value) (x : Str) (C : Addr) : Prop where
  g : mg x = some (.ref C)
  k : PySem.W.keepIn K (.ref C) = true
  t : PySem.W.typeIn K (.ref C) = some (.type "type")
  i : PySem.W.isClsIn K C = true
  e : ExcC K C
/-- .. and made by a text -/
structure ExcM (K : PySem.W.Frag) (mg : Str → Option Value) (x : Str) (C : Addr) : Prop extends ExcT K mg x C where
  x : PySem.W.excIn K C [.type "ValueError", .type "Exception", .type "BaseException", .type "object"] "ValueError.__new__" = true
theorem ExcT.raises {X : Cx} {x : Str} {C : Addr} (c : ExcT X.K X.mg x C) : Raises X (.ref C) := raises_own c.e.hs c.t
/-! ### a caught exception that stays known -/
/-! ### isinstance, fields -/
end GX
set_option Elab.async false
set_option linter.all false
set_option maxRecDepth 100000
set_option maxHeartbeats 4000000
/-! An own exception class whose __init__ says super().__init__(text), then stores a field. -/
namespace GX
open PySem PySem.Spec PySem.W PyProof.Rows L2
section
variable {X : Cx} {pins : List (Addr × Obj)} {σ : L2.St} {H : Hp} {s : Shared}
/-- ValueError.__init__ bound to an instance, called -/
theorem call_mw {A : Around} {E Q : Value → Shared → Prop} {a C u : Addr} {rest : List Value} (T : OexC X.K C) (I : L2.Inv X pins σ H s) (ha : H a = some (exo a C none)) (hu : s.heap.get? u = some (kxs_mw "ValueError.__init__" a)) (hl : rest.length ≤ sizeLine) (q : ∀ s', L2.Inv X pins σ H s' → Q .none s') :
    wpAny (model X.prog X.w) A (call (.ref u) rest) Q E s := by
  obtain ⟨t1, he⟩ := exo_at I.hok ha
  obtain ⟨nm, qn, N, bs, bm, sn, sub, ab, col, dd, k0, k1, k2, k3, k5, lk, hb⟩ := T.cls
  have hC := I.kIn C _ lk
  obtain ⟨h, g, d, tk, os⟩ := s
  refine wpAny_call (codeAny_of_tree ?_)
  show wpAny _ _ (callAny (.ref u) ⟨rest, []⟩) _ _ _
  unfold callAny
  refine wpAny_bind (wpAny_load hu ?_)
  refine KFB.if_so (by show (Value.type "method-wrapper" == Value.type "method" || Value.type "method-wrapper" == Value.type "builtin_function_or_method" || Value.type "method-wrapper" == Value.type "method-wrapper") = true; decide +kernel) ?_
  refine KFB.if_so (by show (Value.type "method-wrapper" != Value.type "method") = true; decide +kernel) ?_
  refine wpAny_bind ?_
  refine ESX.check_bound F.excBase_ValueError hC he rfl ?_
  refine wpAny_pure ⟨plainId_quiet F.excBase_ValueError.toExcCallFacts.init.plain _, ?_⟩
  refine codeAny_builtin F.excBase_ValueError.toExcCallFacts.initEntry ?_
  refine exc_init_tree (e := a) (t0 := t1) (cls := .ref C) (dv := none) (c2 := .none) (c3 := .none) (b4 := .bool false) he hl fun h' k1 k2 k3 => ?_
  have J := I.write (x := a) (e := a) (h' := h') (o := exo a C none) (t' := tk) (by rw [ha]; trivial) (.inl rfl) (fun b v hb e => k1 b v hb e) ⟨_, k2⟩ (exo_ok k2)
  have eH : L2.upd H a (exo a C none) = H := by
    funext b
    by_cases z : b = a
    · rw [z, upd_same, ha]
    · rw [upd_ne z]
  rw [eH] at J
  exact q _ J
end
end GX
set_option Elab.async false
set_option linter.all false
set_option maxRecDepth 100000
set_option maxHeartbeats 4000000
/-! super().__init__(text) in an __init__ of an own exception. -/
namespace GX
open PySem PySem.Spec PySem.W PyProof.Rows L2
/-- what is known of an own exception's __init__ that calls super's: its object, its cell, its code -/
structure SupF (P : Program) (K : PySem.W.Frag) (mg : Str → Option Value) (C f c cl : Addr) (fd : FuncData) (fld : Str) : Prop where
  lk : ∃ oc od osl, K.lookup f = some ⟨oc, od, .func fd, osl⟩
  cell : ∃ oc od osl, K.lookup cl = some ⟨oc, od, .cell (some (.ref C)), osl⟩
  code : fd.code = .ref c
  rec_ : ∃ oc od vs osl t1 file t2, K.lookup c = some ⟨oc, od, .fields vs, osl⟩ ∧ vs[1]? = some (.str fd.qualname t1) ∧ vs[2]? = some (.str file t2) ∧ (P.main.file == file) = true
  main : (P.main.scope.names.lookup ("super" : Str)).isSome = false
  clos : fd.closure = [(("__class__" : Str), cl)]
  glob : fd.globals = mainGlobals
  blt : fd.builtins = builtinsNs
  kind : fd.scope.kind = .function
  co : fd.scope.isCoroutine = false
  gen : fd.scope.isGenerator = false
  names : fd.scope.names = ([(("self" : Str), NameKind.local), (fld, NameKind.local), (("__class__" : Str), NameKind.free), (("super" : Str), NameKind.globalImplicit)] : List (Str × NameKind))
  par : ∃ ar, (fd.params.posonlyargs ++ fd.params.args).head? = some ar ∧ ar.arg = "self"
  T : OexC K C
  sup : ks_superIn K C C "__init__" = some (some (.builtin "ValueError.__init__"))
  sub : subIn K (.ref C) (.type "ValueError") = some true
  self : mroIn K C (.ref C) = some true
  fnd : findIn K (.ref C) fld = some none
  opq : nsIn K cStatics "thirdparty.any" = some none
  ns : mg "super" = none
  fne : ("self" : Str) ≠ fld ∧ ("__class__" : Str) ≠ fld ∧ ("super" : Str) ≠ fld
  dbg : (fld == ("__debug__" : Str)) = false
  cdi : (fld == ("__classdict__" : Str)) = false
/-- the context of its body -/
def supX (P : Program) (w : World) (K : PySem.W.Frag) (mg : Str → Option Value) (base : Heap) (A : Around) (outer : List Env) (s : Shared) (H : Hp) (fd : FuncData) (f : Addr) (fld : Str) : Cx :=
  { prog := P, w := w, K := K, mg := mg, base := base, A := A.deeper (callEnv fd s.heap.objs.size f), N := ["self", fld], s_0 := s, H_0 := H, env := callEnv fd s.heap.objs.size f, outer := outer, stack := callEnv fd s.heap.objs.size f :: outer, ex := [], fn := fun _ => false, calm := true, pn := [], xe := fun _ _ => False }
section
variable {P : Program} {w : World} {K : PySem.W.Frag} {mg : Str → Option Value} {base : Heap} {C f c cl : Addr} {fd : FuncData} {fld : Str}
theorem SupF.look (S : SupF P K mg C f c cl fd fld) : fd.scope.names.lookup ("self" : Str) = some .local ∧ fd.scope.names.lookup fld = some .local ∧ fd.scope.names.lookup ("__class__" : Str) = some .free ∧ fd.scope.names.lookup ("super" : Str) = some .globalImplicit := by
  obtain ⟨h1, h2, h3⟩ := S.fne
  rw [S.names]
  have b : ∀ x : Str, (x == x) = true := fun x => beq_self_eq_true x
  have n : ∀ {x y : Str}, x ≠ y → (x == y) = false := fun h => by simpa using h
  refine ⟨?_, ?_, ?_, ?_⟩
  · rw [List.lookup_cons, b]
  · rw [List.lookup_cons, n (Ne.symm h1), List.lookup_cons, b]
  · rw [List.lookup_cons, show (("__class__" : Str) == "self") = false by decide +kernel, List.lookup_cons, n h2, List.lookup_cons, b]
  · rw [List.lookup_cons, show (("super" : Str) == "self") = false by decide +kernel, List.lookup_cons, n h3, List.lookup_cons, show (("super" : Str) == "__class__") = false by decide +kernel, List.lookup_cons, b]
theorem SupF.free (S : SupF P K mg C f c cl fd fld) {x : Str} (h : fd.scope.names.lookup x = some .cell ∨ fd.scope.names.lookup x = some .free) : x = "__class__" := by
  rw [S.names] at h
  rcases h with h | h
  all_goals
    have := PySem.mem_of_lookup h
    simp only [List.mem_cons, Prod.mk.injEq, List.not_mem_nil, or_false] at this
    rcases this with ⟨_, z⟩ | ⟨_, z⟩ | ⟨e, z⟩ | ⟨_, z⟩
    all_goals first | exact e | cases z
theorem sup_inv {A : Around} {outer : List Env} {s : Shared} {H : Hp} {a : Addr} {v : V} {u : Value} {h1 : Heap} {tk : Nat} (S : SupF P K mg C f c cl fd fld) (e : Env0 P w K mg base A outer s H) (hh : A.handled = none) (rv : RelV v u)
    (hns : h1.Ns s.heap.objs.size fun y => [(("self" : Str), Value.ref a), (fld, u)].reverse.lookup y) (kp : ∀ b o, s.heap.get? b = some o → h1.get? b = some o) :
    L2.Inv (supX P w K mg base A outer s H fd f fld) [] [some (.ref a), some v] H { s with heap := h1, toks := tk } := by
  obtain ⟨l0, l1, l2, l3⟩ := S.look
  obtain ⟨oc, od, osl, hcl⟩ := S.cell
  have hclb := e.bs cl _ (e.mod.kin cl _ hcl)
  have cells : (supX P w K mg base A outer s H fd f fld).env.cells = [(("__class__" : Str), cl)] := S.clos
  have one : ∀ {x : Str} {b : Addr}, (supX P w K mg base A outer s H fd f fld).env.cells.lookup x = some b → x = "__class__" ∧ b = cl := fun {x b} h => by
    rw [cells] at h
    have := PySem.mem_of_lookup h
    rw [List.mem_singleton] at this
    cases this
    exact ⟨rfl, rfl⟩
  have noA : ∀ b : Addr, b ∉ (supX P w K mg base A outer s H fd f fld).ex := fun b z => absurd (show b ∈ ([] : List Addr) from z) (by simp)
  refine ⟨⟨e.mod, S.kind, S.glob, S.blt, Nat.le_refl _, fun x y b h1 h2 => ((one h1).1).trans ((one h2).1).symm, fun x hx => ?_, fun x b z _ => ?_, fun _ => hh, Around.frames_deeper e.frames, .inr ⟨rfl, rfl⟩, fun b z => absurd z (noA b), e.bs, e.bsz, fun b _ _ => noA b, fun b z => absurd z (noA b), e.funs, e.frf⟩,
    rfl, e.bare, Un.kept kp, ⟨_, hns, fun i x v' h1 h2 h3 => ?_⟩, fun x b h => ?_, e.hok.fresh (Nat.le_refl _), fun x b h => ?_, fun q hq => absurd (show q ∈ ([] : List (Addr × Obj)) ++ [] from hq) (by simp), e.hok.kept kp, rfl⟩
  · refine ⟨cl, ?_⟩
    rw [S.free hx, cells, List.lookup_cons, beq_self_eq_true]
  · have z : false = true := z
    cases z
  · have h1 : [("self" : Str), fld][i]? = some x := h1
    match i, h1, h2 with
    | 0, h1, h2 =>
      cases h1
      cases h2
      refine ⟨.ref a, rfl, .inl ⟨l0, ?_⟩⟩
      show List.lookup ("self" : Str) [(fld, u), (("self" : Str), Value.ref a)] = _
      rw [List.lookup_cons, show (("self" : Str) == fld) = false by simpa using S.fne.1, List.lookup_cons, beq_self_eq_true]
    | 1, h1, h2 =>
      cases h1
      cases h2
      refine ⟨u, rv, .inl ⟨l1, ?_⟩⟩
      show List.lookup fld [(fld, u), (("self" : Str), Value.ref a)] = _
      rw [List.lookup_cons, beq_self_eq_true]
    | i + 2, h1, h2 => simp at h2
  · obtain ⟨rfl, rfl⟩ := one h
    exact ⟨_, _, kp _ _ hclb.1, rfl⟩
  · obtain ⟨rfl, rfl⟩ := one h
    exact hclb.2
theorem wpAt_of {α : Type} {M : Model} {A : Around} {cd : Code} {t : Sem α} {Q : α → Shared → Prop} {E : Value → Shared → Prop} {s : Shared} (h : wpAny M A t Q E s) : PySem.wpAt M A cd t Q E s := fun Γ p _ hi => h Γ p hi
/-- what is stored of the instance -/
def spSup (C : Addr) (fld : Str) : Sp := fun vs H Q _ => ∃ (a : Addr) (i : Int), vs = [.ref a, .int i] ∧ H a = some (exo a C none) ∧ i.natAbs.log2 < 1920 ∧ (Str.ofString (toString i)).length ≤ 1000 ∧ ∀ d, H d = none → d ≠ a → Q .non (L2.upd (L2.upd H d (exd d [(fld, .int i)])) a (exo a C (some d)))
theorem sup_run {es : List Expr} {pj p0 p1 p2 p3 p4 p5 p6 p7 p8 : Pos} {k : Nat} (S : SupF P K mg C f c cl fd fld)
    (hbody : fd.body = .stmts [.Expr (.Call (.Attribute (.Call (.Name "super" p0) [] [] p1) "__init__" p2) [.JoinedStr es pj] [] p3) p4, .Assign [.Attribute (.Name "self" p5) fld p6] (.Name fld p7) p8])
    (hev : ∃ pl : Addr → Sem Bool, ∀ L : Addr, eval (.Call (.Attribute (.Call (.Name "super" p0) [] [] p1) "__init__" p2) [.JoinedStr es pj] [] p3) (callEnv fd L f) = do
      let ov ← attributeBase (.Call (.Name "super" p0) [] [] p1) "__init__" (callEnv fd L f) (eval (.Call (.Name "super" p0) [] [] p1) (callEnv fd L f))
      standAt p2.atName
      let __x ← holding [ov] (getMethod ov "__init__" (pl L))
      match __x with
        | (f0, first) => callWith p3 f0 first (backTo p3 (starEach [.JoinedStr es pj] (callEnv fd L f))) [])
    (harg : ∀ X : Cx, X.N = [("self" : Str), fld] → Vis X.env.scope fld → ∃ ta, PA X [.JoinedStr es pj] ta ∧ ∀ σ H (Q : List V → Hp → Prop) (i : Int), σ[1]? = some (some (V.int i)) → i.natAbs.log2 < 1920 → (Str.ofString (toString i)).length ≤ 1000 → (∀ z : Str, Q [V.str z] H) → ta σ H Q) :
    FnOk P w K mg base L2.CX0 (k + 1) f fd ["self", fld] (spSup C fld) := by
  obtain ⟨pl, hev⟩ := hev
  obtain ⟨l0, l1, l2, l3⟩ := S.look
  obtain ⟨oc, od, osl, lk⟩ := S.lk
  obtain ⟨occ, odc, vs, oscl, t1, file, t2, lkc, hv1, hv2, hfile⟩ := S.rec_
  obtain ⟨ocl, odl, oscl2, lkl⟩ := S.cell
  refine ⟨fun vs H Q E h => ?_, fun A outer s H args us vs' Q E hr e hb rv hsp => ?_⟩
  · obtain ⟨a, i, rfl, _⟩ := h
    rfl
  · obtain ⟨a, i, rfl, ha, hi, hil, q⟩ := hsp
    match us, rv with
    | [u0, u1], .cons r0 (.cons r1 .nil) =>
    obtain rfl : u0 = .ref a := r0
    have at_ : ∀ b o, K.lookup b = some o → s.heap.get? b = some o := fun b o h => (e.bs b o (e.mod.kin b o h)).1
    have hf := at_ f _ lk
    have hc := at_ c _ lkc
    refine ks_codeAny_call_defAt (by have := hr.dp; omega) hf rfl (e.mod.nolimit.keeps fun b o h => (e.bs b o h).1) ⟨c, _, vs, t1, S.code, hc, rfl, hv1⟩ hbody hb (fun y hy => ?_) (fun y hy => ?_) (fun h0 hns kp => ?_) S.co S.gen S.kind
    · rw [S.names] at hy
      simp only [List.mem_cons, List.not_mem_nil, or_false] at hy
      rcases hy with rfl | rfl | rfl | rfl <;> (intro z; cases z)
    · have hy : y ∈ [(("self" : Str), Value.ref a), (fld, u1)] := hy
      simp only [List.mem_cons, List.not_mem_nil, or_false] at hy
      rcases hy with rfl | rfl
      · exact l0
      · exact l1
    have J0 := sup_inv (tk := s.toks + ([("self" : Str), fld].zip [Value.ref a, u1]).length) (h1 := h0) S e hr.hd r1 hns kp
    obtain ⟨mb, hmb, hmb2⟩ := e.mod.blt
    have bk : ∀ b o, base.get? b = some o → h0.get? b = some o := fun b o h => kp b o (e.bs b o h).1
    have kin0 : K.In h0 := fun b o h => kp b o (at_ b o h)
    obtain ⟨nm, qn, NN, bs, bm, sn, sub, ab, col, dd, k0, k1, k2, k3, k5, lkC, hbm⟩ := S.T.cls
    have hC0 := kin0 C _ lkC
    have hac : a ≠ C := fun z => by
      have := (e.bs C _ (e.mod.kin C _ lkC)).2
      rw [← z, ha] at this
      cases this
    obtain ⟨tx, hx⟩ := exo_at e.hok ha
    have hx0 := kp a _ hx
    obtain ⟨ar, har, hself⟩ := S.par
    obtain ⟨hs, gs, ds, ts, os⟩ := s
    refine ks_wpAt_execs_cons (ks_wpAt_Expr_any (hi := by show interactive (callEnv fd hs.objs.size f) = false; unfold interactive; simp [callEnv, newEnv, S.kind]) (ks_wpAt_MethodCall (pl := pl _) (he := hev _) (ks_wpAt_super_base l3 l2 (by decide +kernel) rfl (kp f _ hf) rfl har S.code (kp c _ hc) rfl hv2 hfile S.main ?_)))
    refine ks_loadName_global S.kind l3 (Calls.loadGlobal_builtin (mg := mg) (mb := mb) (by show h0.Ns fd.globals mg; rw [S.glob]; exact e.mod.glob.keeps bk) S.ns (by show h0.Ns fd.builtins mb; rw [S.blt]; exact hmb.keeps bk) ((hmb2 _ (by decide +kernel)).trans (show bootBuiltins "super" = some (.type "super") by decide +kernel)) ⟨rfl, ?_⟩)
    refine wpAny_loadName_free S.kind l2 (c := cl) (v := .ref C) (by show List.lookup _ fd.closure = _; rw [S.clos, List.lookup_cons, beq_self_eq_true]) ⟨_, kp cl _ (at_ cl _ lkl), rfl⟩ ?_
    rw [hself]
    refine wpAny_loadName_local S.kind l0 hns (v := .ref a) (by
      show List.lookup ("self" : Str) [(fld, u1), (("self" : Str), Value.ref a)] = _
      rw [List.lookup_cons, show (("self" : Str) == fld) = false by simpa using S.fne.1, List.lookup_cons, beq_self_eq_true]) ?_
    refine ks_wpAny_isType_cls hC0 rfl ⟨rfl, ?_⟩
    refine ks_wpAny_call_super hC0 rfl hx0 rfl (fun _ z => by cases z) (looks_mroIn kin0 S.self) (fun h' hso hk' => ?_)
    have kin1 : K.In h' := fun b o h => hk' b o (kin0 b o h)
    have hx1 := hk' a _ hx0
    obtain ⟨cd, hcd, hal⟩ := Option.bind_eq_some_iff.mp S.sup
    have hopq : Looks (model P w) h' (opaqueClassAbove (.ref C)) none := looks_opaque kin1 S.opq
    have hmro : Looks (model P w) h' (mroOf (.ref C)) cd.mro := fun A' Q' E' s' hk q' => wpAny_bind (looks_clsIn kin1 hcd A' _ E' s' hk (wpAny_pure q'))
    have hins : Looks (model P w) h' (isInstance (.ref a) (.type "ValueError")) true := fun A' Q' E' s' hk q' => by
      obtain ⟨h2, g2, d2, t2', o2⟩ := s'
      exact wpAny_bind (wpAny_bind (wpAny_loadPart' (hk a _ hx1) (wpAny_pure (looks_subIn kin1 S.sub A' Q' E' _ hk q'))))
    refine kxs_getMethod kxs_ValueError hso hopq hmro rfl kin1 hal hins hac (by decide +kernel) ?_
    have uno : h'.get? h'.objs.size = none := by
      cases hz : h'.get? h'.objs.size with
      | none => rfl
      | some o => exact absurd (Heap.lt_size hz) (Nat.lt_irrefl _)
    have J1 := J0.kept (h' := h') (t' := ts + ([("self" : Str), fld].zip [Value.ref a, u1]).length) hk'
    have fp := J1.fpOk (Nat.le_refl _) (J1.hok.fresh (Nat.le_refl _))
    have J2 := J1.kept (h' := h'.push (kxs_mw "ValueError.__init__" a)) (t' := ts + ([("self" : Str), fld].zip [Value.ref a, u1]).length + 1) fun b o h => Heap.get?_push_of_some _ h
    have hu : (h'.push (kxs_mw "ValueError.__init__" a)).get? h'.objs.size = some (kxs_mw "ValueError.__init__" a) := Heap.get?_push_size _ rfl
    have J3 := Inv.pin1 J2 fp hu (fun v z => by cases z)
    obtain ⟨ta, hpa, hta⟩ := harg (supX P w K mg base A outer ⟨hs, gs, ds, ts, os⟩ H fd f fld) rfl (.inl l1)
    refine kxs_callWith1 (h₀ := h') (L := h'.objs.size + 1) (news := [(h'.objs.size, kxs_mw "ValueError.__init__" a)]) (fun p hp => by
      rw [List.mem_singleton.mp hp]
      exact ⟨hu, Nat.ne_of_lt (Nat.lt_succ_self _), uno⟩) List.mem_cons_self ?_
    refine wpAny_mono (hpa.run p3 _ _ _ H (fun vs H1 => (∃ z, vs = [V.str z]) ∧ H1 = H) J3 (hta _ H _ i rfl hi hil fun z => ⟨⟨z, rfl⟩, rfl⟩)) (fun us' s4 hq => ?_) fun _ _ z => z.elim
    obtain ⟨vs4, H4, J4, rv4, ⟨z, rfl⟩, rfl⟩ := hq
    have hp4 := (J4.pin (h'.objs.size, kxs_mw "ValueError.__init__" a) (List.mem_append_right _ List.mem_cons_self)).1
    refine ⟨hp4, ?_⟩
    refine call_mw S.T J4 ha hp4 (by rw [← rv4.length]; exact small 1) fun s5 J5 => ?_
    refine ks_wpAt_execs_cons (wpAt_of (wpAny_mono ((ps_ost (X := supX P w K mg base A outer ⟨hs, gs, ds, ts, os⟩ H4 fd f fld) (pe_var (i := 0) rfl (.inl l0)) (pe_var (i := 1) rfl (.inl l1) S.dbg S.cdi)).run _ _ _ H4 { nx := fun _ H' => Q .non H', rt := fun _ _ => False } J5 ⟨V.int i, rfl, .ref a, rfl, a, C, rfl, S.T, S.fnd, .inl ⟨ha, fun dx h1 h2 => q dx h1 h2⟩⟩) (fun fl s6 hfl => ?_) fun _ _ z => z.elim))
    cases fl with
    | next =>
      obtain ⟨σ6, H6, J6, q6⟩ := hfl
      refine wpAt_of (wpAny_pure ?_)
      exact ⟨.non, H6, J6.os, J6.bare, J6.base, J6.hok, rfl, q6⟩
    | brk =>
      obtain ⟨_, _, _, z⟩ := hfl
      exact z.elim
    | cont =>
      obtain ⟨_, _, _, z⟩ := hfl
      exact z.elim
    | ret u =>
      obtain ⟨_, _, _, _, _, z⟩ := hfl
      exact z.elim
/-- a text of two parts, the second one a number -/
theorem js2 {X : Cx} {fld s0 : Str} {j : Nat} {q0 q1 q2 pj : Pos} (hs : s0.length ≤ 1000) (hN : X.N = [("self" : Str), fld]) (hv : Vis X.env.scope fld) (d1 : (fld == ("__debug__" : Str)) = false) (d2 : (fld == ("__classdict__" : Str)) = false) :
    ∃ ta, PA X [.JoinedStr [.Constant (.str s0) j q0, .FormattedValue (.Name fld q1) (-1) none q2] pj] ta ∧ ∀ σ H (Q : List V → Hp → Prop) (i : Int), σ[1]? = some (some (V.int i)) → i.natAbs.log2 < 1920 → (Str.ofString (toString i)).length ≤ 1000 → (∀ z : Str, Q [V.str z] H) → ta σ H Q := by
  refine ⟨_, pa_cons (pe_joined (.cons pe_str (.cons (pe_fmt (pe_var (i := 1) (by rw [hN]; rfl) hv d1 d2)) .nil))) pa_nil, fun σ H Q i h1 h2 h3 q => ?_⟩
  refine ⟨s0, rfl, ?_, V.int i, h1, .inr ⟨i, rfl, h2, _, rfl, ?_, q _⟩⟩
  · rw [Str.length_append]
    exact Nat.le_trans (show (Str.empty).length + s0.length ≤ 2000 by show 0 + s0.length ≤ 2000; omega) (by decide)
  · rw [Str.length_append, Str.length_append]
    exact Nat.le_trans (show (Str.empty).length + s0.length + (Str.ofString (toString i)).length ≤ 3000 by show 0 + s0.length + _ ≤ 3000; omega) (by decide)
end
/-- an own exception made with a number, which it bears as a field -/
structure SupI (P : Program) (w : World) (K : PySem.W.Frag) (mg : Str → Option Value) (base : Heap) (x : Str) (C : Addr) (fld : Str) (k : Nat) : Prop where
  T : OexC K C
  ex : ∃ fI fd, findIn K (.ref C) "__init__" = some (some (.ref fI)) ∧ typeIn K (.ref fI) = some (.type "function") ∧ FnOk P w K mg base L2.CX0 k fI fd ["self", fld] (spSup C fld) ∧ Binds K fd ["self", fld] []
  g : mg x = some (.ref C)
theorem pmk_sup {X : Cx} {x fld : Str} {C : Addr} {k j : Nat} {e : Expr} {ta : TA} {p pos : Pos} (I : SupI X.prog X.w X.K X.mg X.base x C fld k) (hr : Room j X.A) (hk : k + 1 ≤ j) (hg : Gl X x) (ha : PA X [e] ta) (hd : (x == ("__debug__" : Str)) = false := by decide +kernel)
    (hs : starEach [e] X.env = (false, eval e X.env) :: starEach [] X.env := by rfl) :
    PMk X (.Call (.Name x p) [e] [] pos) (tMkO C (spSup C fld) [] ta) := by
  obtain ⟨fI, fd, h1, h2, F, B⟩ := I.ex
  exact pmk_oex I.T h1 h2 F (hr.mono hk) B .nil (fun _ _ _ _ _ _ _ z => z.elim) hg I.g ha hd hs rfl
/-- what is read of it -/
theorem sup_read {C : Addr} {fld : Str} {i : Int} {H1 : Hp} {Q : XK} (h1 : i.natAbs.log2 < 1920) (h2 : (Str.ofString (toString i)).length ≤ 1000) (q : ∀ d, H1 d = none → Q (.ref C) (some d) (L2.upd H1 d (.xd [(fld, .int i)]))) :
    [V.int i].length ≤ 1000 ∧ ∀ a, H1 a = none → spSup C fld (.ref a :: ([V.int i] ++ [])) (L2.upd H1 a (exo a C none)) (fun v H2 => v = .non ∧ ∃ d fs, H2 a = some (exo a C (some d)) ∧ H2 d = some (exd d fs) ∧ H1 d = none ∧ Q (.ref C) (some d) (L2.upd (L2.del H2 a) d (.xd fs))) (fun _ _ _ => False) := by
  refine ⟨by show 1 ≤ 1000; decide, fun a na => ⟨a, i, rfl, upd_same, h1, h2, fun d hd hda => ⟨rfl, d, [(fld, .int i)], upd_same, ?_, ?_, ?_⟩⟩⟩
  · rw [upd_ne hda, upd_same]
  · rw [upd_ne hda] at hd
    exact hd
  · rw [upd_ne hda] at hd
    have e : L2.upd (L2.del (L2.upd (L2.upd (L2.upd H1 a (exo a C none)) d (exd d [(fld, V.int i)])) a (exo a C (some d))) a) d (.xd [(fld, V.int i)]) = L2.upd H1 d (.xd [(fld, V.int i)]) := by
      funext b
      by_cases z : b = d
      · rw [z, upd_same, upd_same]
      · rw [upd_ne z, upd_ne z]
        unfold L2.del
        by_cases y : b = a
        · rw [if_pos y, y, na]
        · rw [if_neg y, upd_ne y, upd_ne z, upd_ne y]
    rw [e]
    exact q d hd
end GX
set_option Elab.async false
set_option linter.all false
set_option maxRecDepth 100000
set_option maxHeartbeats 4000000
/-! Methods of classes of the program. -/
namespace GX
open PySem PySem.Spec PyProof.Rows L2
open C8 (Met Mak)
/-- the j-th statement of a class -/
def mthS : Stmt → Nat → Stmt
  | .ClassDef _ _ _ b _ _ _ _ _ _ _, j => b.getD j (.Pass ⟨0, 0, 0, 0⟩)
  | s, _ => s
end GX
set_option Elab.async false
set_option linter.all false
set_option maxRecDepth 100000
set_option maxHeartbeats 4000000
/-! Layouts as data, and how they stand in the heap. -/
namespace GX
open PySem PySem.Spec PyProof.Rows L2
structure Lay where
  many : Nat
  tabs : List (List Nat × List Nat)
  outs : List Nat
structure tabOk (w : Nat) (t : List Nat × List Nat) : Prop where
  p1 : 1 ≤ t.1.length
  p4 : t.1.length ≤ 4
  lt : ∀ x ∈ t.1, x < w
  rise : t.1.Pairwise (· < ·)
  len : t.2.length = 2 ^ t.1.length
  bit : ∀ x ∈ t.2, x < 2
structure Lay.Ok (l : Lay) : Prop where
  m1 : 1 ≤ l.many
  m8 : l.many ≤ 8
  t16 : l.tabs.length ≤ 16
  ts : ∀ (i : Nat) (t : List Nat × List Nat), l.tabs[i]? = some t → tabOk (l.many + i) t
  o1 : 1 ≤ l.outs.length
  o8 : l.outs.length ≤ 8
  os : ∀ o ∈ l.outs, o < l.many + l.tabs.length
/-- a table in the heap -/
def TabAt (H : Hp) (p : Addr) (t : List Nat × List Nat) : Prop := ∃ a b, H p = some (.tup [.ref a, .ref b]) ∧ H a = some (.tup (t.1.map nV)) ∧ H b = some (.tup (t.2.map nV))
theorem TabAt.mono {H H' : Hp} {p : Addr} {t : List Nat × List Nat} (x : TabAt H p t) (k : ∀ b xs, H b = some (.tup xs) → H' b = some (.tup xs)) : TabAt H' p t := by
  obtain ⟨a, b, h1, h2, h3⟩ := x
  exact ⟨a, b, k _ _ h1, k _ _ h2, k _ _ h3⟩
def TabsAt (H : Hp) (ps : List Addr) (ts : List (List Nat × List Nat)) : Prop := ps.length = ts.length ∧ ∀ (i : Nat) (p : Addr) (t : List Nat × List Nat), ps[i]? = some p → ts[i]? = some t → TabAt H p t
theorem TabsAt.nil (H : Hp) : TabsAt H [] [] := ⟨rfl, fun i p g e _ => by simp at e⟩
theorem TabsAt.mono {H H' : Hp} {ps : List Addr} {ts : List (List Nat × List Nat)} (x : TabsAt H ps ts) (k : ∀ b xs, H b = some (.tup xs) → H' b = some (.tup xs)) : TabsAt H' ps ts := ⟨x.1, fun i p g e1 e2 => (x.2 i p g e1 e2).mono k⟩
theorem TabsAt.push {H : Hp} {ps : List Addr} {ts : List (List Nat × List Nat)} {q : Addr} {y : List Nat × List Nat} (x : TabsAt H ps ts) (h : TabAt H q y) : TabsAt H (ps ++ [q]) (ts ++ [y]) := by
  refine ⟨by rw [List.length_append, List.length_append, x.1]; rfl, fun i r g e1 e2 => ?_⟩
  by_cases hi : i < ps.length
  · rw [List.getElem?_append_left hi] at e1
    rw [List.getElem?_append_left (by rw [← x.1]; exact hi)] at e2
    exact x.2 i r g e1 e2
  · rw [List.getElem?_append_right (by omega)] at e1
    rw [List.getElem?_append_right (by rw [← x.1]; omega)] at e2
    have hz : i - ps.length = 0 := by
      obtain ⟨h1, _⟩ := List.getElem?_eq_some_iff.mp e1
      simp at h1
      omega
    rw [hz] at e1
    rw [← x.1, hz] at e2
    cases e1
    cases e2
    exact h
theorem TabsAt.at_ {H : Hp} {ps : List Addr} {ts : List (List Nat × List Nat)} (x : TabsAt H ps ts) {i : Nat} {v : V} (e : (ps.map V.ref)[i]? = some v) : ∃ q y, v = .ref q ∧ ts[i]? = some y ∧ TabAt H q y := by
  rw [List.getElem?_map] at e
  cases h : ps[i]? with
  | none => rw [h] at e; cases e
  | some q =>
    rw [h] at e
    cases e
    have h2 : i < ts.length := by rw [← x.1]; exact (List.getElem?_eq_some_iff.mp h).1
    exact ⟨q, ts[i], rfl, List.getElem?_eq_getElem h2, x.2 i q _ h (List.getElem?_eq_getElem h2)⟩
structure LayAt (H : Hp) (a : Addr) (l : Lay) (g o : Addr) (ps : List Addr) : Prop where
  top : H a = some (.tup [nV l.many, .ref g, .ref o])
  gt : H g = some (.tup (ps.map V.ref))
  ts : TabsAt H ps l.tabs
  ot : H o = some (.tup (l.outs.map nV))
theorem LayAt.mono {H H' : Hp} {a g o : Addr} {l : Lay} {ps : List Addr} (x : LayAt H a l g o ps) (k : ∀ b xs, H b = some (.tup xs) → H' b = some (.tup xs)) : LayAt H' a l g o ps := ⟨k _ _ x.top, k _ _ x.gt, x.ts.mono k, k _ _ x.ot⟩
/-- the number that the worths of some wires make -/
def idxOf (told : List Nat) : List Nat → Nat
  | [] => 0
  | w :: r => told.getD w 0 + 2 * idxOf told r
end GX
set_option Elab.async false
set_option linter.all false
set_option maxRecDepth 100000
set_option maxHeartbeats 4000000
/-! Contents at rows. -/
namespace GX
open PySem PySem.Spec PyProof.Rows L2
end GX
set_option Elab.async false
set_option linter.all false
set_option maxRecDepth 100000
set_option maxHeartbeats 4000000
/-! Contents by wires in another order, and by a wire more. -/
namespace GX
open PySem PySem.Spec PyProof.Rows L2
end GX
set_option Elab.async false
set_option linter.all false
set_option maxRecDepth 100000
set_option maxHeartbeats 4000000
/-! Rows and worths; nets joined. -/
namespace GX
open PySem PySem.Spec PyProof.Rows L2
def wstep (acc : List Nat) (g : Nat × Nat × Nat) : List Nat := acc ++ [gw g.1 (acc.getD g.2.1 0) (acc.getD g.2.2 0)]
def wOf (gs : List (Nat × Nat × Nat)) (row : List Nat) : List Nat := gs.foldl wstep row
theorem wOf_take {gs : List (Nat × Nat × Nat)} {row : List Nat} {i : Nat} {g : Nat × Nat × Nat} (h : gs[i]? = some g) : wOf (gs.take (i + 1)) row = wstep (wOf (gs.take i) row) g := by
  unfold wOf
  rw [List.take_add_one, h, Option.toList_some, List.foldl_append]
  rfl
theorem wOf_len (row : List Nat) : ∀ gs : List (Nat × Nat × Nat), (wOf gs row).length = row.length + gs.length := by
  intro gs
  induction gs generalizing row with
  | nil => rfl
  | cons g r ih =>
    show (wOf r (wstep row g)).length = _
    rw [ih]
    unfold wstep
    rw [List.length_append, List.length_cons, List.length_cons, List.length_nil]
    omega
theorem wOf_lt {row : List Nat} (hr : ∀ x ∈ row, x < 2) : ∀ gs : List (Nat × Nat × Nat), ∀ x ∈ wOf gs row, x < 2 := by
  intro gs
  induction gs generalizing row with
  | nil => exact hr
  | cons g r ih =>
    refine ih fun x hx => ?_
    rcases List.mem_append.mp hx with hx | hx
    · exact hr x hx
    · rw [List.mem_singleton.mp hx]
      exact gw_lt _ _ _
end GX
set_option Elab.async false
set_option linter.all false
/-! A gate of a net. -/
namespace GX
open PySem PySem.Spec PyProof.Rows L2
end GX
set_option Elab.async false
set_option linter.all false
/-! A statement by what stands behind it. -/
namespace GX
open PySem PySem.Spec PyProof.Rows L2
theorem seq_cutG {t u : TS} {D : Ends} {σ : L2.St} {H : Hp} {i : Nat} {x : V} (Iv : L2.St → Hp → Prop) (h1 : ∀ B : L2.St → Hp → Prop, (∀ σ' H', Iv σ' H' → B σ' H') → t { D with nx := B } (σ.set i (some x)) H) (h2 : ∀ σ' H', Iv σ' H' → u D σ' H') : gName i x σ H (tSeq t u D) := h1 (u D) h2
end GX
set_option Elab.async false
set_option linter.all false
set_option maxRecDepth 100000
set_option maxHeartbeats 4000000
/-! Gates that stand in several tables, counted. -/
namespace GX
open PySem PySem.Spec PyProof.Rows L2
def InT (n : Net) (t : Tb) (x : Nat) : Prop := n.many ≤ x ∧ Rc n t.2 t.1 n.many x
noncomputable def inT (n : Net) (t : Tb) (x : Nat) : Bool := @decide (InT n t x) (Classical.propDecidable _)
/-- a dict of counts -/
structure CntAt (kvs : List (L2.Key × V)) (c : Nat → Nat) (b : Nat) : Prop where
  keys : ∃ F : List Nat, kvs.map (fun kv : L2.Key × V => kv.1) = F.map nK ∧ F.Nodup ∧ ∀ x ∈ F, x < b
  val : ∀ x, valV kvs (nK x) = if c x = 0 then none else some (nV (c x))
theorem CntAt.nil (b : Nat) : CntAt [] (fun _ => 0) b := ⟨⟨[], rfl, List.nodup_nil, fun x hx => by (cases hx)⟩, fun x => by rw [if_pos rfl]; rfl⟩
theorem CntAt.congr {kvs : List (L2.Key × V)} {c c' : Nat → Nat} {b : Nat} (h : CntAt kvs c b) (e : ∀ x, c x = c' x) : CntAt kvs c' b := ⟨h.keys, fun x => by rw [h.val, e]⟩
theorem CntAt.mem {kvs : List (L2.Key × V)} {c : Nat → Nat} {b : Nat} (h : CntAt kvs c b) {F : List Nat} (hF : kvs.map (fun kv : L2.Key × V => kv.1) = F.map nK) (x : Nat) : x ∈ F ↔ c x ≠ 0 := by
  have h1 : (kvs.any fun kv => decide (kv.1 = nK x)) = decide (x ∈ F) := by
    rw [Bool.eq_iff_iff, List.any_eq_true, decide_eq_true_iff]
    constructor
    · rintro ⟨kv, hk, e⟩
      have : kv.1 ∈ F.map nK := by rw [← hF]; exact List.mem_map.mpr ⟨kv, hk, rfl⟩
      obtain ⟨y, hy, e2⟩ := List.mem_map.mp this
      have e' : kv.1 = nK x := of_decide_eq_true e
      rw [e'] at e2
      rw [← nK_inj e2]
      exact hy
    · intro hx
      have : nK x ∈ kvs.map (fun kv : L2.Key × V => kv.1) := by rw [hF]; exact List.mem_map.mpr ⟨x, hx, rfl⟩
      obtain ⟨kv, hk, e⟩ := List.mem_map.mp this
      exact ⟨kv, hk, decide_eq_true e⟩
  rw [valV_any, h.val] at h1
  by_cases e : c x = 0
  · rw [if_pos e] at h1
    have : ¬ x ∈ F := of_decide_eq_false h1.symm
    exact ⟨fun z => absurd z this, fun z => absurd e z⟩
  · rw [if_neg e] at h1
    exact ⟨fun _ => e, fun _ => of_decide_eq_true h1.symm⟩
theorem CntAt.len {kvs : List (L2.Key × V)} {c : Nat → Nat} {b : Nat} (h : CntAt kvs c b) : kvs.length ≤ b := by
  obtain ⟨F, h1, h2, h3⟩ := h.keys
  have := nodup_lt h2 h3
  rw [← List.length_map (as := kvs) (fun kv : L2.Key × V => kv.1), h1, List.length_map]
  exact this
theorem CntAt.put {kvs : List (L2.Key × V)} {c : Nat → Nat} {b x : Nat} (h : CntAt kvs c b) (hx : x < b) : CntAt (putK kvs (nK x) (nV (c x + 1))) (fun y => c y + (if y = x then 1 else 0)) b := by
  refine ⟨?_, fun y => ?_⟩
  · obtain ⟨F, h1, h2, h3⟩ := h.keys
    by_cases e : x ∈ F
    · refine ⟨F, ?_, h2, h3⟩
      unfold putK
      rw [if_pos, List.map_map, ← h1]
      · apply List.map_congr_left
        intro kv _
        show (if kv.1 = nK x then (kv.1, nV (c x + 1)) else kv).1 = kv.1
        split <;> rfl
      · rw [valV_any, h.val, if_neg ((h.mem h1 x).mp e)]
        rfl
    · refine ⟨F ++ [x], ?_, nodup_snoc h2 e, fun y hy => ?_⟩
      · rw [putK_new, List.map_append, List.map_append, h1]
        · rfl
        · rw [h.val, if_pos (Classical.not_not.mp fun z => e ((h.mem h1 x).mpr z))]
      · rcases List.mem_append.mp hy with hy | hy
        · exact h3 y hy
        · rw [List.mem_singleton.mp hy]
          exact hx
  · rw [valV_put]
    by_cases e : y = x
    · subst e
      rw [if_pos rfl]
      show some (nV (c y + 1)) = if c y + (if y = y then 1 else 0) = 0 then none else some (nV (c y + (if y = y then 1 else 0)))
      rw [if_pos (rfl : y = y), if_neg (by omega)]
    · rw [if_neg (fun z => e (nK_inj z)), h.val]
      show _ = if c y + (if y = x then 1 else 0) = 0 then none else some (nV (c y + (if y = x then 1 else 0)))
      rw [if_neg e, Nat.add_zero]
theorem CntAt.get {kvs : List (L2.Key × V)} {c : Nat → Nat} {b : Nat} (h : CntAt kvs c b) (x : Nat) : (valV kvs (nK x)).getD (.int 0) = nV (c x) := by
  rw [h.val]
  by_cases e : c x = 0
  · rw [if_pos e, e]
    rfl
  · rw [if_neg e]
    rfl
/-- sorted ints that are numbers -/
theorem sorted_nat {F : List Nat} {ys : List Int} (nd : F.Nodup) (pm : ys.Perm (F.map fun x : Nat => (x : Int))) (pw : ys.Pairwise (· ≤ ·)) : ∃ xs : List Nat, ys = xs.map (fun x : Nat => (x : Int)) ∧ xs.Perm F ∧ xs.Pairwise (· < ·) := by
  have ex : ys = (ys.map Int.toNat).map (fun x : Nat => (x : Int)) := by
    rw [List.map_map]
    conv => lhs; rw [← List.map_id ys]
    refine List.map_congr_left fun y hy => ?_
    obtain ⟨z, _, rfl⟩ := List.mem_map.mp (pm.mem_iff.mp hy)
    rfl
  have p2 : (ys.map Int.toNat).Perm F := by
    have := pm.map Int.toNat
    rw [List.map_map] at this
    have e : F.map (Int.toNat ∘ fun x : Nat => (x : Int)) = F := by
      conv => rhs; rw [← List.map_id F]
      exact List.map_congr_left fun z _ => rfl
    rwa [e] at this
  refine ⟨ys.map Int.toNat, ex, p2, ?_⟩
  have nd2 : (ys.map Int.toNat).Nodup := p2.nodup_iff.mpr nd
  generalize ys.map Int.toNat = xs at ex nd2
  subst ex
  rw [List.pairwise_map] at pw
  refine pw.imp₂ (S := fun a b => a ≠ b) (fun {a b} h1 h2 => ?_) nd2
  omega
end GX
set_option Elab.async false
set_option linter.all false
set_option maxRecDepth 100000
set_option maxHeartbeats 4000000
namespace K87
open PySem PySem.Spec PyProof.Rows L2 GX
open C8 (Cal pe_c pe_gc)
-- @exc NoDepth init=least
-- @sub NoDepth NoDepth true
-- @exc TooMany made
-- @alt cut_masks tup par=N,t[i],i vars=masks:DL,wire:i
def topS (i : Nat) : Stmt := PySem.Challenge.pw_tablecover_k87_whole_numbered_otherwise.main.body.getD i (.Pass ⟨0, 0, 0, 0⟩)
abbrev s_wires_of : Stmt := topS 1
theorem sc_wires_of : FnScope ["mask", "wire"] ["mask"] (defScope s_wires_of) := ⟨rfl, rfl, rfl, by decide +kernel, rfl, by decide +kernel, by decide +kernel⟩
abbrev s_fits : Stmt := topS 2
theorem sc_fits : FnScope ["mask", "k", "turn"] ["mask", "k"] (defScope s_fits) := ⟨rfl, rfl, rfl, by decide +kernel, rfl, by decide +kernel, by decide +kernel⟩
abbrev s_has_part : Stmt := topS 3
theorem sc_has_part : FnScope ["masks", "mask", "part"] ["masks", "mask"] (defScope s_has_part) := ⟨rfl, rfl, rfl, by decide +kernel, rfl, by decide +kernel, by decide +kernel⟩
abbrev s_is_whole : Stmt := topS 9
theorem sc_is_whole : FnScope ["thing"] ["thing"] (defScope s_is_whole) := ⟨rfl, rfl, rfl, by decide +kernel, rfl, by decide +kernel, by decide +kernel⟩
abbrev s_is_below : Stmt := topS 10
theorem sc_is_below : FnScope ["thing", "bound"] ["thing", "bound"] (defScope s_is_below) := ⟨rfl, rfl, rfl, by decide +kernel, rfl, by decide +kernel, by decide +kernel⟩
abbrev s_is_many : Stmt := topS 11
theorem sc_is_many : FnScope ["thing"] ["thing"] (defScope s_is_many) := ⟨rfl, rfl, rfl, by decide +kernel, rfl, by decide +kernel, by decide +kernel⟩
abbrev s_is_gate : Stmt := topS 12
theorem sc_is_gate : FnScope ["thing", "wire", "kind", "one", "other"] ["thing", "wire"] (defScope s_is_gate) := ⟨rfl, rfl, rfl, by decide +kernel, rfl, by decide +kernel, by decide +kernel⟩
abbrev s_are_gates : Stmt := topS 13
theorem sc_are_gates : FnScope ["thing", "many", "at", "gate"] ["thing", "many"] (defScope s_are_gates) := ⟨rfl, rfl, rfl, by decide +kernel, rfl, by decide +kernel, by decide +kernel⟩
abbrev s_are_outs : Stmt := topS 14
theorem sc_are_outs : FnScope ["thing", "count", "out"] ["thing", "count"] (defScope s_are_outs) := ⟨rfl, rfl, rfl, by decide +kernel, rfl, by decide +kernel, by decide +kernel⟩
abbrev s_is_net : Stmt := topS 15
theorem sc_is_net : FnScope ["thing", "many", "gates", "outs"] ["thing"] (defScope s_is_net) := ⟨rfl, rfl, rfl, by decide +kernel, rfl, by decide +kernel, by decide +kernel⟩
abbrev s_wires_in : Stmt := topS 16
theorem sc_wires_in : FnScope ["net"] ["net"] (defScope s_wires_in) := ⟨rfl, rfl, rfl, by decide +kernel, rfl, by decide +kernel, by decide +kernel⟩
abbrev s_gate_worth : Stmt := topS 17
theorem sc_gate_worth : FnScope ["kind", "first", "second"] ["kind", "first", "second"] (defScope s_gate_worth) := ⟨rfl, rfl, rfl, by decide +kernel, rfl, by decide +kernel, by decide +kernel⟩
abbrev s_worths : Stmt := topS 18
theorem sc_worths : FnScope ["net", "row", "told", "kind", "one", "other"] ["net", "row"] (defScope s_worths) := ⟨rfl, rfl, rfl, by decide +kernel, rfl, by decide +kernel, by decide +kernel⟩
abbrev s_outs_at : Stmt := topS 19
theorem sc_outs_at : FnScope ["net", "row", "told", "out"] ["net", "row"] (defScope s_outs_at) := ⟨rfl, rfl, rfl, by decide +kernel, rfl, by decide +kernel, by decide +kernel⟩
abbrev s_places : Stmt := topS 21
theorem sc_places : FnScope ["net", "gate", "kind", "one", "other"] ["net", "gate"] (defScope s_places) := ⟨rfl, rfl, rfl, by decide +kernel, rfl, by decide +kernel, by decide +kernel⟩
abbrev s_reached : Stmt := topS 22
theorem sc_reached : FnScope ["net", "wire", "stops", "marks", "gate", "place", "at", "mark"] ["net", "wire", "stops"] (defScope s_reached) := ⟨rfl, rfl, rfl, by decide +kernel, rfl, by decide +kernel, by decide +kernel⟩
abbrev s_cone : Stmt := topS 23
theorem sc_cone : FnScope ["net", "wire"] ["net", "wire"] (defScope s_cone) := ⟨rfl, rfl, rfl, by decide +kernel, rfl, by decide +kernel, by decide +kernel⟩
abbrev s_gate_masks : Stmt := topS 25
theorem sc_gate_masks : FnScope ["firsts", "seconds", "k", "found", "first", "second", "mask"] ["firsts", "seconds", "k"] (defScope s_gate_masks) := ⟨rfl, rfl, rfl, by decide +kernel, rfl, by decide +kernel, by decide +kernel⟩
abbrev s_cut_masks : Stmt := topS 26
theorem sc_cut_masks : FnScope ["net", "wires", "k", "masks", "wire", "one", "other"] ["net", "wires", "k"] (defScope s_cut_masks) := ⟨rfl, rfl, rfl, by decide +kernel, rfl, by decide +kernel, by decide +kernel⟩
abbrev s_told_cuts : Stmt := topS 27
theorem sc_told_cuts : FnScope ["masks", "mask"] ["masks"] (defScope s_told_cuts) := ⟨rfl, rfl, rfl, by decide +kernel, rfl, by decide +kernel, by decide +kernel⟩
abbrev s_cuts_of : Stmt := topS 28
theorem sc_cuts_of : FnScope ["net", "gate", "k"] ["net", "gate", "k"] (defScope s_cuts_of) := ⟨rfl, rfl, rfl, by decide +kernel, rfl, by decide +kernel, by decide +kernel⟩
abbrev s_all_cuts : Stmt := topS 29
theorem sc_all_cuts : FnScope ["net", "k", "wires", "masks", "gate", "one", "other", "wire"] ["net", "k"] (defScope s_all_cuts) := ⟨rfl, rfl, rfl, by decide +kernel, rfl, by decide +kernel, by decide +kernel⟩
abbrev s_one_deeper : Stmt := topS 31
theorem sc_one_deeper : FnScope ["told", "wires", "wire"] ["told", "wires"] (defScope s_one_deeper) := ⟨rfl, rfl, rfl, by decide +kernel, rfl, by decide +kernel, by decide +kernel⟩
abbrev s_depths_by : Stmt := topS 32
theorem sc_depths_by : FnScope ["net", "cuts", "told", "gate", "cut"] ["net", "cuts"] (defScope s_depths_by) := ⟨rfl, rfl, rfl, by decide +kernel, rfl, by decide +kernel, by decide +kernel⟩
abbrev s_depths : Stmt := topS 33
theorem sc_depths : FnScope ["net", "k"] ["net", "k"] (defScope s_depths) := ⟨rfl, rfl, rfl, by decide +kernel, rfl, by decide +kernel, by decide +kernel⟩
abbrev s_with_deepest : Stmt := topS 39
theorem sc_with_deepest : FnScope ["cuts", "told", "wire", "cut"] ["cuts", "told"] (defScope s_with_deepest) := ⟨rfl, rfl, rfl, by decide +kernel, rfl, by decide +kernel, by decide +kernel⟩
abbrev s_cut_choices : Stmt := topS 40
theorem sc_cut_choices : FnScope ["net", "k", "cuts", "told", "own"] ["net", "k"] (defScope s_cut_choices) := ⟨rfl, rfl, rfl, by decide +kernel, rfl, by decide +kernel, by decide +kernel⟩
abbrev s_first_needs : Stmt := topS 41
theorem sc_first_needs : FnScope ["net", "depth", "out"] ["net", "depth"] (defScope s_first_needs) := ⟨rfl, rfl, rfl, by decide +kernel, rfl, by decide +kernel, by decide +kernel⟩
abbrev s_next_gate : Stmt := topS 42
theorem sc_next_gate : FnScope ["needs", "bound", "gate"] ["needs", "bound"] (defScope s_next_gate) := ⟨rfl, rfl, rfl, by decide +kernel, rfl, by decide +kernel, by decide +kernel⟩
abbrev s_fitting_cuts : Stmt := topS 43
theorem sc_fitting_cuts : FnScope ["choices", "gate", "needs", "cut", "deepest"] ["choices", "gate", "needs"] (defScope s_fitting_cuts) := ⟨rfl, rfl, rfl, by decide +kernel, rfl, by decide +kernel, by decide +kernel⟩
abbrev s_needs_with : Stmt := topS 44
theorem sc_needs_with : FnScope ["net", "needs", "gate", "cut", "by", "told", "wire"] ["net", "needs", "gate", "cut"] (defScope s_needs_with) := ⟨rfl, rfl, rfl, by decide +kernel, rfl, by decide +kernel, by decide +kernel⟩
abbrev s_fewest_tables : Stmt := topS 47
theorem sc_fewest_tables : FnScope ["net", "choices", "needs", "bound", "gate", "trials", "cut", "behind"] ["net", "choices", "needs", "bound"] (defScope s_fewest_tables) := ⟨rfl, rfl, rfl, by decide +kernel, rfl, by decide +kernel, by decide +kernel⟩
abbrev s_count_paper : Stmt := topS 48
theorem sc_count_paper : FnScope ["net", "choices", "needs", "bound", "count", "gate", "cuts", "papers", "cut"] ["net", "choices", "needs", "bound", "count"] (defScope s_count_paper) := ⟨rfl, rfl, rfl, by decide +kernel, rfl, by decide +kernel, by decide +kernel⟩
abbrev s_fewest : Stmt := topS 49
theorem sc_fewest : FnScope ["net", "k", "depth", "told", "least", "out", "choices", "needs", "tables"] ["net", "k", "depth"] (defScope s_fewest) := ⟨rfl, rfl, rfl, by decide +kernel, rfl, by decide +kernel, by decide +kernel⟩
abbrev s__law_well : Stmt := topS 51
theorem sc__law_well : FnScope ["_law_script", "_law_k", "_law_cell"] ["_law_script", "_law_k"] (defScope s__law_well) := ⟨rfl, rfl, rfl, by decide +kernel, rfl, by decide +kernel, by decide +kernel⟩
abbrev s__law_take : Stmt := topS 52
theorem sc__law_take : FnScope ["_law_well_here", "_law_many", "_law_digit", "_law_number"] ["_law_well_here", "_law_many"] (defScope s__law_take) := ⟨rfl, rfl, rfl, by decide +kernel, rfl, by decide +kernel, by decide +kernel⟩
abbrev s__law_place : Stmt := topS 53
theorem sc__law_place : FnScope ["_law_well_here", "_law_wire", "_law_way", "_law_near"] ["_law_well_here", "_law_wire", "_law_way"] (defScope s__law_place) := ⟨rfl, rfl, rfl, by decide +kernel, rfl, by decide +kernel, by decide +kernel⟩
abbrev s__law_net : Stmt := topS 54
theorem sc__law_net : FnScope ["_law_well_here", "_law_most", "_law_many_gates", "_law_way", "_law_many", "_law_count", "_law_gates", "_law_wire", "_law_alike_here", "_law_one", "_law_other", "_law_wires", "_law_manner", "_law_bound", "_law_outs", "_law_k", "_law_far", "_law_near", "_law_at"] ["_law_well_here", "_law_most", "_law_many_gates"] (defScope s__law_net) := ⟨rfl, rfl, rfl, by decide +kernel, rfl, by decide +kernel, by decide +kernel⟩
abbrev s__law_order : Stmt := topS 55
theorem sc__law_order : FnScope ["_law_well_here", "_law_net_here", "_law_left", "_law_order_here", "_law_gates", "_law_free", "_law_gate", "_law_wire"] ["_law_well_here", "_law_net_here"] (defScope s__law_order) := ⟨rfl, rfl, rfl, by decide +kernel, rfl, by decide +kernel, by decide +kernel⟩
abbrev s__law_turned : Stmt := topS 56
theorem sc__law_turned : FnScope ["_law_well_here", "_law_net_here", "_law_order_here", "_law_made", "_law_wire", "_law_kind", "_law_one", "_law_other", "_law_gate"] ["_law_well_here", "_law_net_here", "_law_order_here"] (defScope s__law_turned) := ⟨rfl, rfl, rfl, by decide +kernel, rfl, by decide +kernel, by decide +kernel⟩
abbrev s__law_called : Stmt := topS 57
theorem sc__law_called : FnScope ["_law_cuts", "_law_order_here", "_law_wire", "_law_cut"] ["_law_cuts", "_law_order_here"] (defScope s__law_called) := ⟨rfl, rfl, rfl, by decide +kernel, rfl, by decide +kernel, by decide +kernel⟩
abbrev s__law_alike : Stmt := topS 58
theorem sc__law_alike : FnScope ["_law_net_here", "_law_other", "_law_order_here", "_law_k", "_law_deep", "_law_there", "_law_wire", "_law_spot", "_law_due", "_law_least", "_law_depth"] ["_law_net_here", "_law_other", "_law_order_here", "_law_k"] (defScope s__law_alike) := ⟨rfl, rfl, rfl, by decide +kernel, rfl, by decide +kernel, by decide +kernel⟩
abbrev s__law_rows_alike : Stmt := topS 59
theorem sc__law_rows_alike : FnScope ["_law_well_here", "_law_net_here", "_law_other", "_law_order_here", "_law_turn", "_law_row", "_law_place_here", "_law_turned_here"] ["_law_well_here", "_law_net_here", "_law_other", "_law_order_here"] (defScope s__law_rows_alike) := ⟨rfl, rfl, rfl, by decide +kernel, rfl, by decide +kernel, by decide +kernel⟩
abbrev s_law : Stmt := topS 60
theorem sc_law : FnScope ["_law_script", "_law_k", "_law_well_here", "_law_wide", "_law_net_here", "_law_order_here", "_law_other"] ["_law_script"] (defScope s_law) := ⟨rfl, rfl, rfl, by decide +kernel, rfl, by decide +kernel, by decide +kernel⟩
abbrev s_NoDepth___init__ : Stmt := mthS (topS 36) 0
theorem supi_NoDepth {P : Program} {w : World} {K : PySem.W.Frag} {mg : Str → Option Value} {base : Heap} {C f c cl : Addr} {kV dc pm ct : Value} {an : Option Addr} (S : SupF P K mg C f c cl { PySem.W.fnOf "__init__" "NoDepth.__init__" (defArgs s_NoDepth___init__) (defBody s_NoDepth___init__) (defScope s_NoDepth___init__) .none kV dc pm an (.ref c) ct with closure := [(("__class__" : Str), cl)] } "least") :
    FnOk P w K mg base L2.CX0 1 f { PySem.W.fnOf "__init__" "NoDepth.__init__" (defArgs s_NoDepth___init__) (defBody s_NoDepth___init__) (defScope s_NoDepth___init__) .none kV dc pm an (.ref c) ct with closure := [(("__class__" : Str), cl)] } ["self", "least"] (spSup C "least") := by
  apply sup_run S
  · rfl
  · exact ⟨_, fun _ => rfl⟩
  · exact fun X hN hv => js2 (by decide) hN hv (by decide +kernel) (by decide +kernel)
structure Txt (mg : Str → Option Value) : Prop where
  b_all : mg "all" = none
  b_bool : mg "bool" = none
  b_dict : mg "dict" = none
  b_enumerate : mg "enumerate" = none
  b_int : mg "int" = none
  b_isinstance : mg "isinstance" = none
  b_len : mg "len" = none
  b_list : mg "list" = none
  b_max : mg "max" = none
  b_min : mg "min" = none
  b_range : mg "range" = none
  b_sorted : mg "sorted" = none
  b_super : mg "super" = none
  b_tuple : mg "tuple" = none
  g_KINDS : ∃ u, mg "KINDS" = some u ∧ RelV (.int 16) u
  g_MOST_GATES : ∃ u, mg "MOST_GATES" = some u ∧ RelV (.int 16) u
  g_MOST_GATES_TRIED : ∃ u, mg "MOST_GATES_TRIED" = some u ∧ RelV (.int 6) u
  g_MOST_INPUTS : ∃ u, mg "MOST_INPUTS" = some u ∧ RelV (.int 8) u
  g_MOST_OUTS : ∃ u, mg "MOST_OUTS" = some u ∧ RelV (.int 8) u
section
variable {P : Program} {w : World} {K : PySem.W.Frag} {mg : Str → Option Value} {base : Heap}
/-! ### the draws -/
def spTake : Sp := fun vs H Q _ => ∃ (W : Addr) (m : Int), vs = [.ref W, .int m] ∧ Wl H W ∧ 0 < m ∧ m < 1073741824 ∧ ∀ d H', 0 ≤ d → d < m → Wl H' W → Keep [W] H H' → Q (.int d) H'
theorem ok_take {f c : Addr} (D : Dfn K mg "_law_take" s__law_take f c) : Cal P w K mg base 1 "_law_take" spTake [] := by
  refine cal D (fun _ _ _ _ _ _ us hl => match us, hl with | [_, _], _ => rfl) sc__law_take (fun vs H Q E h => ?_) (fun A outer s H vs Q E hr h => ?_)
  · obtain ⟨W, m, rfl, _⟩ := h
    rfl
  · obtain ⟨W, m, rfl, ⟨a, b, c, hW⟩, hm0, hm1, q⟩ := h
    refine ⟨_, (pss_cons (ps_if (pt_cmpR op_gt (pe_ix ix_list (pv 0) pe_int (fun _ _ => rfl)) pe_int (nomark _)) (pss_cons (ps_set (i := 2) sc__law_take.nd rfl (by first | exact Or.inl rfl | exact Or.inr rfl) (pe_op op_mod (pe_ix ix_list (pv 0) pe_int (fun _ _ => rfl)) (pv 1)))
      (pss_cons (ps_asg (pe_op op_fdiv (pe_ix ix_list (pv 0) pe_int (fun _ _ => rfl)) (pv 1)) (pg_sub (pv 0) pe_int set_list))
      (pss_one (ps_ret (pv 2))))) pss_nil)
      (pss_cons (ps_asg (pe_op op_add (pe_ix ix_list (pv 0) pe_int (fun _ _ => rfl)) pe_int) (pg_sub (pv 0) pe_int set_list))
      (pss_cons (ps_set (i := 3) sc__law_take.nd rfl (by first | exact Or.inl rfl | exact Or.inr rfl) (pe_op op_mod (pe_op op_mul (pe_op op_add (pe_ix ix_list (pv 0) pe_int (fun _ _ => rfl)) (pe_op op_mul pe_int (pe_ix ix_list (pv 0) pe_int (fun _ _ => rfl)))) pe_int) pe_int))
      (pss_cons (ps_set (i := 3) sc__law_take.nd rfl (by first | exact Or.inl rfl | exact Or.inr rfl) (pe_op op_mod (pe_op op_mul (pv 3) (pe_op op_add (pv 3) pe_int)) pe_int))
      (pss_one (ps_ret (pe_op op_mod (pe_op op_fdiv (pe_op op_mul (pe_op op_mod (pe_op op_add (pe_op op_mul (pv 3) (pv 3)) (pe_op op_mul pe_int (pe_ix ix_list (pv 0) pe_int (fun _ _ => rfl)))) pe_int) pe_int) pe_int) (pv 1)))))))), ?_⟩
    refine ⟨_, rfl, W, _, 0, _, rfl, rfl, SqL.of hW, at0, _, _, rfl, rfl, _, rfl, ite2 (fun g => ?_) (fun g => ?_)⟩
    · refine ⟨_, rfl, W, _, 0, _, rfl, rfl, SqL.of hW, at0, _, rfl, _, _, rfl, rfl, hm0, ?_⟩
      refine ⟨_, rfl, W, _, 0, _, rfl, rfl, SqL.of hW, at0, _, rfl, _, _, rfl, rfl, ⟨hm0, hm1⟩, _, rfl, W, _, 0, 0, rfl, rfl, hW, rfl, ?_⟩
      refine ⟨_, rfl, ?_⟩
      exact q _ _ (Int.emod_nonneg _ (by omega)) (Int.emod_lt_of_pos _ hm0) ⟨_, _, _, upd_same⟩ (Keep.put (List.mem_singleton.mpr rfl))
    · refine ⟨_, rfl, W, _, 2, _, rfl, rfl, SqL.of hW, at2, _, _, rfl, rfl, _, rfl, W, _, 2, 2, rfl, rfl, hW, rfl, ?_⟩
      have hW2 : (upd H W (.lst [.int a, .int b, .int (c + 1)])) W = some (.lst [.int a, .int b, .int (c + 1)]) := upd_same
      refine ⟨_, rfl, W, _, 1, _, rfl, rfl, SqL.of hW2, at1, _, rfl, W, _, 2, _, rfl, rfl, SqL.of hW2, at2, _, _, rfl, rfl, .inl (by omega), _, _, rfl, rfl, _, _, rfl, rfl, .inr (by omega), _, _, rfl, rfl, (by show (0 : Int) < 2147483647; decide), ?_⟩
      have b1 := Int.emod_nonneg ((b + 7919 * (c + 1)) * 48271) (show (2147483647 : Int) ≠ 0 by decide)
      have b2 := Int.emod_lt_of_pos ((b + 7919 * (c + 1)) * 48271) (show (0 : Int) < 2147483647 by decide)
      generalize ((b + 7919 * (c + 1)) * 48271) % 2147483647 = n1 at b1 b2 ⊢
      refine ⟨_, rfl, _, rfl, _, _, rfl, rfl, _, _, rfl, rfl, .inl (by omega), _, _, rfl, rfl, (by show (0 : Int) < 2147483629; decide), ?_⟩
      have b3 := Int.emod_nonneg (n1 * (n1 + 69621)) (show (2147483629 : Int) ≠ 0 by decide)
      have b4 := Int.emod_lt_of_pos (n1 * (n1 + 69621)) (show (0 : Int) < 2147483629 by decide)
      generalize (n1 * (n1 + 69621)) % 2147483629 = n2 at b3 b4 ⊢
      refine ⟨_, rfl, _, rfl, _, _, rfl, rfl, .inl (by omega), _, rfl, W, _, 2, _, rfl, rfl, SqL.of hW2, at2, _, _, rfl, rfl, .inl (by omega), _, _, rfl, rfl, _, _, rfl, rfl, (by show (0 : Int) < 2147483587; decide), _, _, rfl, rfl, .inr (by omega), _, _, rfl, rfl, ⟨by decide, by decide⟩, _, rfl, _, _, rfl, rfl, hm0, ?_⟩
      exact q _ _ (Int.emod_nonneg _ (by omega)) (Int.emod_lt_of_pos _ hm0) ⟨_, _, _, upd_same⟩ (Keep.put (List.mem_singleton.mpr rfl))
def spWell (K : PySem.W.Frag) : Sp := fun vs H Q _ => ∃ (a : Addr) (ns : List Int) (k : Nat), vs = [.ref a, .int k] ∧ SqL K H a (ns.map V.int) ∧ ∀ p H', H p = none → Wl H' p → Keep [] H H' → Q (.ref p) H'
theorem ok_well {f c : Addr} (D : Dfn K mg "_law_well" s__law_well f c) (T : Txt mg) : Cal P w K mg base 1 "_law_well" (spWell K) [] := by
  refine cal D (fun _ _ _ _ _ _ us hl => match us, hl with | [_, _], _ => rfl) sc__law_well (fun vs H Q E h => ?_) (fun A outer s H vs Q E hr h => ?_)
  · obtain ⟨a, ns, k, rfl, _⟩ := h
    rfl
  · obtain ⟨a, ns, k, rfl, hS, q⟩ := h
    refine ⟨_, (pss_cons (ps_set (i := 2) sc__law_well.nd rfl (by first | exact Or.inl rfl | exact Or.inr rfl) pe_int)
      (pss_cons (ps_if (pt_cmpR op_lt (pv 1) (pe_callB call_len_seq (by rfl) T.b_len (by decide +kernel) (pa_cons (pv 0) pa_nil)) (nomark _)) (pss_one (ps_set (i := 2) sc__law_well.nd rfl (by first | exact Or.inl rfl | exact Or.inr rfl) (pe_ix ix_list (pv 0) (pv 1) (fun _ _ => rfl)))) pss_nil)
      (pss_one (ps_ret (pe_lst (pa_cons (pe_op op_mul (pv 2) (pe_callTy call_int1 (by rfl) T.b_int (by decide +kernel) (pa_cons (pe_cmpR op_ge (pv 2) (pe_op op_pow pe_int pe_int) (nomark _)) pa_nil))) (pa_cons (pe_op op_add (pe_op op_mod (pv 2) pe_int) (pe_op op_mul pe_int (pv 1))) (pa_cons pe_int pa_nil)))))))), ?_⟩
    refine ⟨_, rfl, _, rfl, a, _, rfl, .inl hS, _, _, rfl, rfl, _, rfl, ite2 (fun g => ?_) (fun g => ?_)⟩
    · have hk : k < ns.length := by
        have := of_decide_eq_true g
        rw [List.length_map] at this
        omega
      have hx : (ns.map V.int)[k]? = some (.int ns[k]) := by rw [List.getElem?_map, List.getElem?_eq_getElem hk]; rfl
      refine ⟨_, rfl, _, rfl, a, _, _, _, rfl, rfl, hS, atI_nat hx, ?_⟩
      refine ⟨_, rfl, _, rfl, _, _, rfl, rfl, ⟨by decide, by decide, by decide⟩, _, _, rfl, rfl, .inr ⟨_, rfl, _, _, rfl, rfl, .inr (by split <;> decide), _, rfl, _, _, rfl, rfl, (by show (0 : Int) < 2147483647; decide), _, rfl, _, _, rfl, rfl, .inl (by omega), _, _, rfl, rfl, small 3, fun p hp => ?_⟩⟩
      exact q p _ hp ⟨_, _, _, upd_same⟩ (Keep.new hp)
    · refine ⟨_, rfl, _, rfl, _, _, rfl, rfl, ⟨by decide, by decide, by decide⟩, _, _, rfl, rfl, .inr ⟨_, rfl, _, _, rfl, rfl, .inr (by split <;> decide), _, rfl, _, _, rfl, rfl, (by show (0 : Int) < 2147483647; decide), _, rfl, _, _, rfl, rfl, .inl (by omega), _, _, rfl, rfl, small 3, fun p hp => ?_⟩⟩
      exact q p _ hp ⟨_, _, _, upd_same⟩ (Keep.new hp)
end
section
variable {P : Program} {w : World} {K : PySem.W.Frag} {mg : Str → Option Value} {base : Heap}
def spPlace : Sp := fun vs H Q _ => ∃ (W : Addr) (wire way : Int), vs = [.ref W, .int wire, .int way] ∧ Wl H W ∧ 1 ≤ wire ∧ wire < 1000 ∧ ∀ d H', 0 ≤ d → d < wire → Wl H' W → Keep [W] H H' → Q (.int d) H'
theorem ok_place {f c : Addr} (D : Dfn K mg "_law_place" s__law_place f c) (T : Txt mg) (c__law_take : Cal P w K mg base 1 "_law_take" spTake []) : Cal P w K mg base 2 "_law_place" spPlace [] := by
  refine cal D (fun _ _ _ _ _ _ us hl => match us, hl with | [_, _, _], _ => rfl) sc__law_place (fun vs H Q E h => ?_) (fun A outer s H vs Q E hr h => ?_)
  · obtain ⟨W, wire, way, rfl, _⟩ := h
    rfl
  · obtain ⟨W, wire, way, rfl, hW, h1, h2, q⟩ := h
    refine ⟨_, (pss_cons (ps_set (i := 3) sc__law_place.nd rfl (by first | exact Or.inl rfl | exact Or.inr rfl) (pe_c c__law_take hr (by decide) (by rfl) (pa_cons (pv 0) (pa_cons pe_int pa_nil))))
      (pss_cons (ps_if (PW.pt (pw_or (pt_cmpR op_eq (pv 2) pe_int (nomark _)) (pw_or1 (pt_cmpR op_eq (pe_c c__law_take hr (by decide) (by rfl) (pa_cons (pv 0) (pa_cons pe_int pa_nil))) pe_int (nomark _))))) (pss_one (ps_ret (pe_callB (call_max2 rfl) (by rfl) T.b_max (by decide +kernel) (pa_cons pe_int (pa_cons (pe_op op_sub (pe_op op_sub (pv 1) pe_int) (pv 3)) pa_nil))))) pss_nil)
      (pss_one (ps_ret (pe_c c__law_take hr (by decide) (by rfl) (pa_cons (pv 0) (pa_cons (pv 1) pa_nil))))))), ?_⟩
    refine ⟨_, rfl, W, 3, rfl, hW, by decide, by decide, fun d H1 d0 d3 w1 k1 => ?_⟩
    have last : ∀ H2, Wl H2 W → Keep [W] H H2 → Q (.int (if 0 < wire - 1 - d then wire - 1 - d else 0)) H2 := fun H2 w2 k2 => by
      refine q _ _ ?_ ?_ w2 k2 <;> split <;> omega
    refine ⟨_, rfl, rfl, _, rfl, ite2 (fun g => ?_) (fun g => ?_)⟩
    · refine ⟨_, rfl, _, _, rfl, rfl, _, rfl, _, _, rfl, rfl, _, _, rfl, ?_⟩
      exact last _ w1 k1
    · refine ⟨_, rfl, W, 2, rfl, w1, by decide, by decide, fun e H2 e0 e2 w2 k2 => ?_⟩
      refine ⟨rfl, _, rfl, ite2 (fun g => ?_) (fun g => ?_)⟩
      · refine ⟨_, rfl, _, _, rfl, rfl, _, rfl, _, _, rfl, rfl, _, _, rfl, ?_⟩
        exact last _ w2 (k1.trans k2)
      · refine ⟨_, rfl, _, rfl, W, wire, rfl, w2, by omega, by omega, fun z H3 z0 z1 w3 k3 => ?_⟩
        exact q _ _ z0 z1 w3 ((k1.trans k2).trans k3)
/-! ### a net drawn -/
def spNet : Sp := fun vs H Q _ => ∃ (W : Addr) (most mg : Nat), vs = [.ref W, nV most, nV mg] ∧ Wl H W ∧ 1 ≤ most ∧ most ≤ 8 ∧ mg ≤ 16 ∧ ∀ a n g o ps H', n.Ok → n.many ≤ most → n.gates.length ≤ mg → NetAt H' a n g o ps → Wk W H H' → Q (.ref a) H'
theorem ok_net {f c : Addr} (D : Dfn K mg "_law_net" s__law_net f c) (T : Txt mg) (c__law_take : Cal P w K mg base 1 "_law_take" spTake []) (c__law_place : Cal P w K mg base 2 "_law_place" spPlace []) : Cal P w K mg base 3 "_law_net" spNet [] := by
  refine cal D (fun _ _ _ _ _ _ us hl => match us, hl with | [_, _, _], _ => rfl) sc__law_net (fun vs H Q E h => ?_) (fun A outer s H vs Q E hr h => ?_)
  · obtain ⟨W, most, mg, rfl, _⟩ := h
    rfl
  · obtain ⟨W, most, gm, rfl, hW, h1, h8, hg, q⟩ := h
    refine ⟨_, (pss_cons (ps_set (i := 3) sc__law_net.nd rfl (by first | exact Or.inl rfl | exact Or.inr rfl) (pe_c c__law_take hr (by decide) (by rfl) (pa_cons (pv 0) (pa_cons pe_int pa_nil))))
      (pss_cons (ps_set (i := 4) sc__law_net.nd rfl (by first | exact Or.inl rfl | exact Or.inr rfl) (pe_op op_add pe_int (pe_c c__law_take hr (by decide) (by rfl) (pa_cons (pv 0) (pa_cons (pv 1) pa_nil)))))
      (pss_cons (ps_set (i := 5) sc__law_net.nd rfl (by first | exact Or.inl rfl | exact Or.inr rfl) (pe_ix ix_list (pe_lst (pa_cons (pe_c c__law_take hr (by decide) (by rfl) (pa_cons (pv 0) (pa_cons (pe_op op_add (pv 2) pe_int) pa_nil))) (pa_cons (pv 2) pa_nil))) (pe_callTy call_int1 (by rfl) T.b_int (by decide +kernel) (pa_cons (pe_cmpR op_eq (pv 3) pe_int (nomark _)) pa_nil)) (fun _ _ => rfl)))
      (pss_cons (ps_set (i := 6) sc__law_net.nd rfl (by first | exact Or.inl rfl | exact Or.inr rfl) (pe_tup pa_nil))
      (pss_cons (ps_for PassesOwn.never rfl (pi_range2 (by rfl) T.b_range (pa_cons (pv 4) (pa_cons (pe_op op_add (pv 4) (pv 5)) pa_nil))) (pg_name (i := 7) sc__law_net.nd rfl (by first | exact Or.inl rfl | exact Or.inr rfl))
        (pss_cons (ps_set (i := 8) sc__law_net.nd rfl (by first | exact Or.inl rfl | exact Or.inr rfl) (pe_cmpR op_eq (pe_c c__law_take hr (by decide) (by rfl) (pa_cons (pv 0) (pa_cons pe_int pa_nil))) pe_int (nomark _)))
      (pss_cons (ps_set (i := 9) sc__law_net.nd rfl (by first | exact Or.inl rfl | exact Or.inr rfl) (pe_ix ix_list (pe_lst (pa_cons (pe_c c__law_place hr (by decide) (by rfl) (pa_cons (pv 0) (pa_cons (pv 7) (pa_cons (pv 3) pa_nil)))) (pa_cons (pe_op op_sub (pv 7) pe_int) pa_nil))) (pe_callTy call_int1 (by rfl) T.b_int (by decide +kernel) (pa_cons (pe_cmpR op_eq (pv 3) pe_int (nomark _)) pa_nil)) (fun _ _ => rfl)))
      (pss_cons (ps_set (i := 10) sc__law_net.nd rfl (by first | exact Or.inl rfl | exact Or.inr rfl) (pe_ix ix_list (pe_lst (pa_cons (pe_c c__law_place hr (by decide) (by rfl) (pa_cons (pv 0) (pa_cons (pv 7) (pa_cons (pv 3) pa_nil)))) (pa_cons (pv 9) pa_nil))) (pe_callTy call_int1 (by rfl) T.b_int (by decide +kernel) (pa_cons (pv 8) pa_nil)) (fun _ _ => rfl)))
      (pss_one (ps_set (i := 6) sc__law_net.nd rfl (by first | exact Or.inl rfl | exact Or.inr rfl) (pe_op op_catA (pv 6) (pe_tup (pa_cons (pe_tup (pa_cons (pe_c c__law_take hr (by decide) (by rfl) (pa_cons (pv 0) (pa_cons pe_int pa_nil))) (pa_cons (pv 9) (pa_cons (pv 10) pa_nil)))) pa_nil)))))))))
      (pss_cons (ps_set (i := 11) sc__law_net.nd rfl (by first | exact Or.inl rfl | exact Or.inr rfl) (pe_op op_add (pv 4) (pv 5)))
      (pss_cons (ps_set (i := 12) sc__law_net.nd rfl (by first | exact Or.inl rfl | exact Or.inr rfl) (pe_c c__law_take hr (by decide) (by rfl) (pa_cons (pv 0) (pa_cons pe_int pa_nil))))
      (pss_cons (ps_set (i := 13) sc__law_net.nd rfl (by first | exact Or.inl rfl | exact Or.inr rfl) (pe_ix ix_list (pe_lst (pa_cons (pv 11) (pa_cons (pv 4) pa_nil))) (pe_callTy call_int1 (by rfl) T.b_int (by decide +kernel) (pa_cons (pe_cmpR op_eq (pv 12) pe_int (nomark _)) pa_nil)) (fun _ _ => rfl)))
      (pss_cons (ps_set (i := 14) sc__law_net.nd rfl (by first | exact Or.inl rfl | exact Or.inr rfl) (pe_tup (pa_cons (pe_ix ix_list (pe_lst (pa_cons (pe_op op_sub (pv 11) pe_int) (pa_cons (pe_c c__law_take hr (by decide) (by rfl) (pa_cons (pv 0) (pa_cons (pv 13) pa_nil))) pa_nil))) (pe_callTy call_int1 (by rfl) T.b_int (by decide +kernel) (pa_cons (pe_cmpR op_gt (pv 12) pe_int (nomark _)) pa_nil)) (fun _ _ => rfl)) pa_nil)))
      (pss_cons (ps_for PassesOwn.never rfl (pi_range1 (by rfl) T.b_range (pa_cons (pe_ix ix_list (pe_lst (pa_cons (pe_c c__law_take hr (by decide) (by rfl) (pa_cons (pv 0) (pa_cons pe_int pa_nil))) (pa_cons pe_int pa_nil))) (pe_callTy call_int1 (by rfl) T.b_int (by decide +kernel) (pa_cons (pe_cmpR op_eq (pv 3) pe_int (nomark _)) pa_nil)) (fun _ _ => rfl)) pa_nil)) (pg_name (i := 15) sc__law_net.nd rfl (by first | exact Or.inl rfl | exact Or.inr rfl))
        (pss_cons (ps_set (i := 16) sc__law_net.nd rfl (by first | exact Or.inl rfl | exact Or.inr rfl) (pe_or (pe_cmpR op_eq (pe_c c__law_take hr (by decide) (by rfl) (pa_cons (pv 0) (pa_cons pe_int pa_nil))) pe_int (nomark _)) (pe_one (pe_cmpR op_gt (pv 12) pe_int (nomark _)))))
      (pss_cons (ps_set (i := 17) sc__law_net.nd rfl (by first | exact Or.inl rfl | exact Or.inr rfl) (pe_callB (call_max2 rfl) (by rfl) T.b_max (by decide +kernel) (pa_cons pe_int (pa_cons (pe_op op_sub (pe_op op_sub (pv 11) pe_int) (pe_c c__law_take hr (by decide) (by rfl) (pa_cons (pv 0) (pa_cons pe_int pa_nil)))) pa_nil))))
      (pss_one (ps_set (i := 14) sc__law_net.nd rfl (by first | exact Or.inl rfl | exact Or.inr rfl) (pe_op op_catA (pv 14) (pe_tup (pa_cons (pe_ix ix_list (pe_lst (pa_cons (pv 17) (pa_cons (pe_c c__law_take hr (by decide) (by rfl) (pa_cons (pv 0) (pa_cons (pv 13) pa_nil))) pa_nil))) (pe_callTy call_int1 (by rfl) T.b_int (by decide +kernel) (pa_cons (pv 16) pa_nil)) (fun _ _ => rfl)) pa_nil))))))))
      (pss_cons (ps_set (i := 18) sc__law_net.nd rfl (by first | exact Or.inl rfl | exact Or.inr rfl) (pe_c c__law_take hr (by decide) (by rfl) (pa_cons (pv 0) (pa_cons (pe_callB call_len_seq (by rfl) T.b_len (by decide +kernel) (pa_cons (pv 14) pa_nil)) pa_nil))))
      (pss_one (ps_ret (pe_tup (pa_cons (pv 4) (pa_cons (pv 6) (pa_cons (pe_op op_catA (pe_slice sl_tupA (pv 14) (po_some (pv 18)) po_none) (pe_slice sl_tupA (pv 14) po_none (po_some (pv 18)))) pa_nil))))))))))))))))), ?_⟩
    -- way, many
    refine ⟨_, rfl, W, 4, rfl, hW, by decide, by decide, fun way H1 _ _ w1 k1 => ?_⟩
    have s1 : Wk W H H1 := ⟨w1, k1⟩
    refine ⟨_, rfl, _, rfl, W, most, rfl, w1, by omega, by omega, fun m0 H2 m1 m2 w2 k2 => ⟨_, _, rfl, rfl, ?_⟩⟩
    have s2 := s1.nxt w2 k2
    -- count
    refine ⟨_, rfl, _, rfl, _, _, rfl, rfl, W, gm + 1, rfl, w2, by omega, by omega, fun c0 H3 c1 c2 w3 k3 => ⟨_, rfl, small 2, fun l3 n3 => ?_⟩⟩
    have s3 := (s2.nxt w3 k3).new (o := .lst [.int c0, nV gm]) n3
    obtain ⟨count, ec, hc0, hc1⟩ : ∃ count : Int, (if decide (V.int way = V.int 2) = true then nV gm else V.int c0) = V.int count ∧ 0 ≤ count ∧ count ≤ gm := by
      split
      · exact ⟨gm, rfl, by omega, by omega⟩
      · exact ⟨c0, rfl, by omega, by omega⟩
    refine ⟨_, rfl, rfl, .inr ⟨_, rfl, l3, _, _, .int count, rfl, rfl, SqL.of upd_same, (by rw [atIf]; exact congrArg some ec), ?_⟩⟩
    -- gates = ()
    refine ⟨small 0, fun g0 ng0 => ?_⟩
    have s4 := s3.new (o := .tup []) ng0
    refine ⟨_, rfl, _, rfl, _, rfl, _, _, rfl, rfl, _, _, rfl, ⟨by omega, by omega, by omega, by omega⟩, ?_⟩
    refine for_range (lo := 1 + m0) (n := (1 + m0 + count - (1 + m0)).toNat) (fun i σ H' => ∃ ga ps gs x7 x8 x9 x10, σ = [some (.ref W), some (nV most), some (nV gm), some (.int way), some (.int (1 + m0)), some (.int count), some (.ref ga), x7, x8, x9, x10, none, none, none, none, none, none, none, none] ∧ Wk W H H' ∧
      H' ga = some (.tup (ps.map V.ref)) ∧ GatesAt H' ps gs ∧ gs.length = i ∧ ∀ (j : Nat) (g : Nat × Nat × Nat), gs[j]? = some g → gateOk (1 + m0).toNat j g) ⟨g0, [], [], none, none, none, none, rfl, s4, upd_same, GatesAt.nil _, rfl, fun j g e => by simp at e⟩ ?_ ?_
    · rintro i σ H5 hi ⟨ga, ps, gs, x7, x8, x9, x10, rfl, s5, hga, hgs, hlen, hok⟩
      have hi' : i < 16 := by omega
      -- alike
      refine ⟨_, rfl, W, 12, rfl, s5.wl, by decide, by decide, fun d1 H6 _ _ w6 k6 => ⟨rfl, ?_⟩⟩
      have s6 := s5.nxt w6 k6
      have hga6 := s5.wl.tup k6 hga
      have hgs6 := s5.wl.gates k6 hgs
      -- one
      refine ⟨_, rfl, _, rfl, _, rfl, W, _, way, rfl, w6, by omega, by omega, fun o1 H7 o10 o11 w7 k7 => ⟨_, rfl, _, _, rfl, rfl, small 2, fun l7 n7 => ?_⟩⟩
      have s7 := s6.nxt w7 k7
      have s7' := s7.new (o := .lst [.int o1, .int (1 + m0 + i - 1)]) n7
      have hga7 := Same.new (o := .lst [.int o1, .int (1 + m0 + i - 1)]) n7 _ _ (w6.tup k7 hga6)
      have hgs7 := Same.gates (Same.new (o := .lst [.int o1, .int (1 + m0 + i - 1)]) n7) (w6.gates k7 hgs6)
      obtain ⟨one, eo, ho0, ho1⟩ : ∃ one : Int, (if decide (V.int way = V.int 2) = true then V.int (1 + m0 + i - 1) else V.int o1) = V.int one ∧ 0 ≤ one ∧ one < 1 + m0 + i := by
        split
        · exact ⟨_, rfl, by omega, by omega⟩
        · exact ⟨_, rfl, o10, o11⟩
      refine ⟨_, rfl, rfl, .inr ⟨_, rfl, l7, _, _, .int one, rfl, rfl, SqL.of upd_same, (by rw [atIf]; exact congrArg some eo), ?_⟩⟩
      -- other
      refine ⟨_, rfl, _, rfl, _, rfl, W, _, way, rfl, s7'.wl, by omega, by omega, fun o2 H8 o20 o21 w8 k8 => ⟨_, rfl, small 2, fun l8 n8 => ?_⟩⟩
      have s8 := (s7'.nxt w8 k8).new (o := .lst [.int o2, .int one]) n8
      have hga8 := Same.new (o := .lst [.int o2, .int one]) n8 _ _ (s7'.wl.tup k8 hga7)
      have hgs8 := Same.gates (Same.new (o := .lst [.int o2, .int one]) n8) (s7'.wl.gates k8 hgs7)
      obtain ⟨other, eo2, hr0, hr1⟩ : ∃ other : Int, (if decide (V.int d1 = V.int 0) = true then V.int one else V.int o2) = V.int other ∧ 0 ≤ other ∧ other < 1 + m0 + i := by
        split
        · exact ⟨_, rfl, by omega, by omega⟩
        · exact ⟨_, rfl, o20, o21⟩
      refine ⟨_, rfl, .inr ⟨_, rfl, l8, _, _, .int other, rfl, rfl, SqL.of upd_same, (by rw [atIf]; exact congrArg some eo2), ?_⟩⟩
      -- gates + ((take, one, other),)
      refine ⟨_, rfl, _, rfl, W, 16, rfl, s8.wl, by decide, by decide, fun kd H9 k0 k1 w9 k9 => ⟨_, rfl, _, rfl, small 3, fun g9 n9 => ⟨small 1, fun t9 m9 => ?_⟩⟩⟩
      have s9 := ((s8.nxt w9 k9).new (o := .tup [.int kd, .int one, .int other]) n9).new (o := .tup [.ref g9]) m9
      have e9 := Same.new (o := .tup [.int kd, .int one, .int other]) n9
      have f9 := Same.new (o := .tup [.ref g9]) m9
      have hga9 := f9 _ _ (e9 _ _ (s8.wl.tup k9 hga8))
      have hgs9 := Same.gates f9 (Same.gates e9 (s8.wl.gates k9 hgs8))
      refine catA hga9 upd_same (by rw [List.length_map, hgs9.1, hlen]; show i + 1 ≤ sizeLine; exact small _ (by omega)) fun r H10 sm hr' => ?_
      refine ⟨r, ps ++ [g9], gs ++ [(kd.toNat, one.toNat, other.toNat)], _, _, _, _, rfl, s9.same sm, by rw [List.map_append]; exact hr', (Same.gates sm hgs9).push ?_, by rw [List.length_append, hlen]; rfl, fun j g e => ?_⟩
      · have : (gV (kd.toNat, one.toNat, other.toNat)) = [.int kd, .int one, .int other] := by
          show [V.int (kd.toNat : Int), V.int (one.toNat : Int), V.int (other.toNat : Int)] = _
          rw [Int.toNat_of_nonneg k0, Int.toNat_of_nonneg ho0, Int.toNat_of_nonneg hr0]
        rw [this]
        exact sm _ _ (f9 _ _ upd_same)
      · by_cases hj : j < gs.length
        · rw [List.getElem?_append_left hj] at e
          exact hok j g e
        · rw [List.getElem?_append_right (by omega)] at e
          have hz : j - gs.length = 0 := by
            obtain ⟨h1, _⟩ := List.getElem?_eq_some_iff.mp e
            simp at h1
            omega
          rw [hz] at e
          cases e
          refine ⟨?_, ?_, ?_⟩ <;> (show _ < _; simp only []; omega)
    · rintro σ H5 ⟨ga, ps, gs, x7, x8, x9, x10, rfl, s5, hga, hgs, hlen, hok⟩
      have e0 : (1 + m0 + count - (1 + m0)).toNat = count.toNat := by omega
      rw [e0] at hlen
      -- wires, manner, bound
      refine ⟨_, rfl, _, rfl, _, _, rfl, rfl, ?_⟩
      refine ⟨_, rfl, W, 8, rfl, s5.wl, by decide, by decide, fun manner H6 _ _ w6 k6 => ?_⟩
      have s6 := s5.nxt w6 k6
      have hga6 := s5.wl.tup k6 hga
      have hgs6 := s5.wl.gates k6 hgs
      refine ⟨_, rfl, _, rfl, small 2, fun l7 n7 => ?_⟩
      have e7 := Same.new (o := .lst [.int (1 + m0 + count), .int (1 + m0)]) n7
      have s7 := s6.same e7
      have hga7 := e7 _ _ hga6
      have hgs7 := Same.gates e7 hgs6
      obtain ⟨bound, eb, hb1, hb2⟩ : ∃ bound : Int, (if decide (V.int manner = V.int 7) = true then V.int (1 + m0) else V.int (1 + m0 + count)) = V.int bound ∧ 1 ≤ bound ∧ bound ≤ 1 + m0 + count := by
        split
        · exact ⟨_, rfl, by omega, by omega⟩
        · exact ⟨_, rfl, by omega, by omega⟩
      refine ⟨_, rfl, rfl, .inr ⟨_, rfl, l7, _, _, .int bound, rfl, rfl, SqL.of upd_same, (by rw [atIf]; exact congrArg some eb), ?_⟩⟩
      -- outs
      refine ⟨_, rfl, _, _, rfl, rfl, _, rfl, _, rfl, W, bound, rfl, s7.wl, by omega, by omega, fun d8 H8 d80 d81 w8 k8 => ⟨small 2, fun l8 n8 => ?_⟩⟩
      have e8 := Same.new (o := .lst [.int (1 + m0 + count - 1), .int d8]) n8
      have s8 := (s7.nxt w8 k8).same e8
      have hga8 := e8 _ _ (s7.wl.tup k8 hga7)
      have hgs8 := Same.gates e8 (s7.wl.gates k8 hgs7)
      obtain ⟨out0, eo, ho0, ho1⟩ : ∃ out0 : Int, (if decide (manner > 3) = true then V.int d8 else V.int (1 + m0 + count - 1)) = V.int out0 ∧ 0 ≤ out0 ∧ out0 < 1 + m0 + count := by
        split
        · exact ⟨_, rfl, by omega, by omega⟩
        · exact ⟨_, rfl, by omega, by omega⟩
      refine ⟨_, rfl, _, _, rfl, rfl, .inr ⟨_, rfl, l8, _, _, .int out0, rfl, rfl, SqL.of upd_same, (by rw [atIf]; exact congrArg some eo), small 1, fun t9 n9 => ?_⟩⟩
      have e9 := Same.new (o := .tup [.int out0]) n9
      have s9 := s8.same e9
      have hga9 := e9 _ _ hga8
      have hgs9 := Same.gates e9 hgs8
      -- range(..)
      refine ⟨_, rfl, W, 8, rfl, s9.wl, by decide, by decide, fun d10 H10 d100 d101 w10 k10 => ⟨small 2, fun l10 n10 => ?_⟩⟩
      have e10 := Same.new (o := .lst [.int d10, .int 0]) n10
      have s10 := (s9.nxt w10 k10).same e10
      have hga10 := e10 _ _ (s9.wl.tup k10 hga9)
      have hgs10 := Same.gates e10 (s9.wl.gates k10 hgs9)
      have hot10 := e10 _ _ (s9.wl.tup k10 (upd_same (H := upd H8 l8 (.lst [.int (1 + m0 + count - 1), .int d8])) (a := t9) (o := .tup [.int out0])))
      obtain ⟨more, emo, hmo0, hmo1⟩ : ∃ more : Int, (if decide (V.int way = V.int 3) = true then V.int 0 else V.int d10) = V.int more ∧ 0 ≤ more ∧ more < 8 := by
        split
        · exact ⟨_, rfl, by omega, by omega⟩
        · exact ⟨_, rfl, by omega, by omega⟩
      refine ⟨_, rfl, rfl, .inr ⟨_, rfl, l10, _, _, .int more, rfl, rfl, SqL.of upd_same, (by rw [atIf]; exact congrArg some emo), more, rfl, by omega, by omega, ?_⟩⟩
      refine for_range (lo := 0) (n := more.toNat) (fun i σ H' => ∃ oa os x15 x16 x17, σ = [some (.ref W), some (nV most), some (nV gm), some (.int way), some (.int (1 + m0)), some (.int count), some (.ref ga), x7, x8, x9, x10, some (.int (1 + m0 + count)), some (.int manner), some (.int bound), some (.ref oa), x15, x16, x17, none] ∧ Wk W H H' ∧
        H' ga = some (.tup (ps.map V.ref)) ∧ GatesAt H' ps gs ∧ H' oa = some (.tup (os.map nV)) ∧ os.length = i + 1 ∧ ∀ o ∈ os, ((o : Nat) : Int) < 1 + m0 + count) ⟨t9, [out0.toNat], none, none, none, rfl, s10, hga10, hgs10, ?_, rfl, ?_⟩ ?_ ?_
      · rw [hot10]
        show some (HO.tup [V.int out0]) = some (HO.tup [V.int (out0.toNat : Int)])
        rw [Int.toNat_of_nonneg ho0]
      · intro o ho
        rw [List.mem_singleton.mp ho]
        omega
      · rintro i σ H11 hi ⟨oa, os, x15, x16, x17, rfl, s11, hga11, hgs11, hoa, hol, hos⟩
        refine ⟨_, rfl, W, 3, rfl, s11.wl, by decide, by decide, fun d12 H12 _ _ w12 k12 => ⟨rfl, _, rfl, ite2 (fun g => ?_) (fun g => ⟨_, rfl, _, _, rfl, rfl, ?_⟩)⟩⟩
        all_goals
          have s12 := s11.nxt w12 k12
          have hga12 := s11.wl.tup k12 hga11
          have hgs12 := s11.wl.gates k12 hgs11
          have hoa12 := s11.wl.tup k12 hoa
          refine ⟨_, rfl, _, _, rfl, rfl, _, rfl, W, 4, rfl, w12, by decide, by decide, fun d13 H13 d130 d131 w13 k13 => ⟨_, _, rfl, rfl, _, _, rfl, ?_⟩⟩
          have s13 := s12.nxt w13 k13
          have hga13 := w12.tup k13 hga12
          have hgs13 := w12.gates k13 hgs12
          have hoa13 := w12.tup k13 hoa12
          refine ⟨_, rfl, _, rfl, _, rfl, _, rfl, W, bound, rfl, w13, by omega, by omega, fun d14 H14 d140 d141 w14 k14 => ⟨small 2, fun l14 n14 => ?_⟩⟩
          have e14 := Same.new (o := .lst [.int (if 1 + m0 + count - 1 - d13 > 0 then 1 + m0 + count - 1 - d13 else 0), .int d14]) n14
          have s14 := (s13.nxt w14 k14).same e14
          have hga14 := e14 _ _ (w13.tup k14 hga13)
          have hgs14 := Same.gates e14 (w13.gates k14 hgs13)
          have hoa14 := e14 _ _ (w13.tup k14 hoa13)
        · obtain ⟨o, eoo, hoo0, hoo1⟩ : ∃ o : Int, (if true = true then V.int d14 else V.int (if 1 + m0 + count - 1 - d13 > 0 then 1 + m0 + count - 1 - d13 else 0)) = V.int o ∧ 0 ≤ o ∧ o < 1 + m0 + count := by
            split
            · exact ⟨_, rfl, by omega, by omega⟩
            · exact ⟨_, rfl, by split <;> omega, by split <;> omega⟩
          refine ⟨_, rfl, .inr ⟨_, rfl, l14, _, _, .int o, rfl, rfl, SqL.of upd_same, (by rw [atIf]; exact congrArg some eoo), small 1, fun t15 n15 => ?_⟩⟩
          have e15 := Same.new (o := .tup [.int o]) n15
          refine catA (e15 _ _ hoa14) upd_same (by rw [List.length_map, hol]; show i + 1 + 1 ≤ sizeLine; exact small _ (by omega)) fun r H16 sm hr' => ?_
          refine ⟨r, os ++ [o.toNat], _, _, _, rfl, (s14.same e15).same sm, sm _ _ (e15 _ _ hga14), Same.gates sm (Same.gates e15 hgs14), ?_, by rw [List.length_append, hol]; rfl, ?_⟩
          · rw [hr', List.map_append]
            show some (HO.tup (_ ++ [V.int o])) = some (HO.tup (_ ++ [V.int (o.toNat : Int)]))
            rw [Int.toNat_of_nonneg hoo0]
          · intro z hz
            rcases List.mem_append.mp hz with hz | hz
            · exact hos z hz
            · rw [List.mem_singleton.mp hz]
              omega
        · obtain ⟨o, eoo, hoo0, hoo1⟩ : ∃ o : Int, (if decide (manner > 3) = true then V.int d14 else V.int (if 1 + m0 + count - 1 - d13 > 0 then 1 + m0 + count - 1 - d13 else 0)) = V.int o ∧ 0 ≤ o ∧ o < 1 + m0 + count := by
            split
            · exact ⟨_, rfl, by omega, by omega⟩
            · exact ⟨_, rfl, by split <;> omega, by split <;> omega⟩
          refine ⟨_, rfl, .inr ⟨_, rfl, l14, _, _, .int o, rfl, rfl, SqL.of upd_same, (by rw [atIf]; exact congrArg some eoo), small 1, fun t15 n15 => ?_⟩⟩
          have e15 := Same.new (o := .tup [.int o]) n15
          refine catA (e15 _ _ hoa14) upd_same (by rw [List.length_map, hol]; show i + 1 + 1 ≤ sizeLine; exact small _ (by omega)) fun r H16 sm hr' => ?_
          refine ⟨r, os ++ [o.toNat], _, _, _, rfl, (s14.same e15).same sm, sm _ _ (e15 _ _ hga14), Same.gates sm (Same.gates e15 hgs14), ?_, by rw [List.length_append, hol]; rfl, ?_⟩
          · rw [hr', List.map_append]
            show some (HO.tup (_ ++ [V.int o])) = some (HO.tup (_ ++ [V.int (o.toNat : Int)]))
            rw [Int.toNat_of_nonneg hoo0]
          · intro z hz
            rcases List.mem_append.mp hz with hz | hz
            · exact hos z hz
            · rw [List.mem_singleton.mp hz]
              omega
      · rintro σ H11 ⟨oa, os, x15, x16, x17, rfl, s11, hga11, hgs11, hoa, hol, hos⟩
        refine ⟨_, rfl, _, rfl, oa, _, rfl, .inr (SqT.of hoa), W, _, rfl, s11.wl, by rw [List.length_map, hol]; omega, by rw [List.length_map, hol]; omega, fun at0' H12 a0 a1 w12 k12 => ?_⟩
        have s12 := s11.nxt w12 k12
        obtain ⟨at1', rfl⟩ := Int.eq_ofNat_of_zero_le a0
        have hga12 := s11.wl.tup k12 hga11
        have hgs12 := s11.wl.gates k12 hgs11
        have hoa12 := s11.wl.tup k12 hoa
        refine ⟨_, rfl, _, rfl, _, rfl, _, rfl, _, rfl, ?_⟩
        unfold tNoPart
        refine slA (lo := some (at1' : Int)) (hi := none) hoa12 fun r1 H13 sm1 h13 => ?_
        refine ⟨_, rfl, _, rfl, _, rfl, ?_⟩
        refine slA (lo := none) (hi := some (at1' : Int)) (sm1 _ _ hoa12) fun r2 H14 sm2 h14 => ?_
        rw [cut_lo, ← List.map_drop] at h13
        rw [cut_hi, ← List.map_take] at h14
        refine catA (sm2 _ _ h13) h14 (by rw [List.length_map, List.length_map, List.length_drop, List.length_take, hol]; exact small _ (by omega)) fun r3 H15 sm3 h15 => ?_
        refine ⟨small 3, fun a na => ?_⟩
        have e16 := Same.new (o := .tup [.int (1 + m0), .ref ga, .ref r3]) na
        refine q a ⟨(1 + m0).toNat, gs, os.drop at1' ++ os.take at1'⟩ ga r3 ps _ ⟨?_, ?_, ?_, ?_, ?_, ?_, ?_⟩ ?_ ?_ ⟨?_, ?_, ?_, ?_⟩ ((((s12.same sm1).same sm2).same sm3).same e16)
        · show 1 ≤ (1 + m0).toNat; omega
        · show (1 + m0).toNat ≤ 8; omega
        · show gs.length ≤ 16; omega
        · exact hok
        · show 1 ≤ (os.drop at1' ++ os.take at1').length
          rw [List.length_append, List.length_drop, List.length_take, hol]; omega
        · show (os.drop at1' ++ os.take at1').length ≤ 8
          rw [List.length_append, List.length_drop, List.length_take, hol]; omega
        · intro z hz
          have hz' : z ∈ os := (List.mem_append.mp hz).elim List.mem_of_mem_drop List.mem_of_mem_take
          have := hos z hz'
          show z < (1 + m0).toNat + gs.length
          omega
        · show (1 + m0).toNat ≤ most; omega
        · show gs.length ≤ gm; omega
        · show upd H15 a _ a = some (.tup [V.int ((1 + m0).toNat : Int), .ref ga, .ref r3])
          rw [upd_same, Int.toNat_of_nonneg (by omega)]
        · exact e16 _ _ (sm3 _ _ (sm2 _ _ (sm1 _ _ hga12)))
        · exact Same.gates e16 (Same.gates sm3 (Same.gates sm2 (Same.gates sm1 hgs12)))
        · show upd H15 a _ r3 = _
          rw [List.map_append]
          exact e16 _ _ h15
end
end K87
set_option Elab.async false
set_option linter.all false
set_option maxRecDepth 100000
set_option maxHeartbeats 4000000
/-! Each wire has its least cuts, as a list in order. -/
namespace GX
open PySem PySem.Spec PyProof.Rows L2
theorem lex_cons (x y : Nat) (a b : List Nat) : lexN (x :: a) (y :: b) = if x = y then lexN a b else decide (x < y) := by
  show (if ((x : Nat) : Int) = ((y : Nat) : Int) then lexN a b else decide (((x : Nat) : Int) < ((y : Nat) : Int))) = _
  by_cases e : x = y
  · rw [if_pos (by omega), if_pos e]
  · rw [if_neg (by omega), if_neg e]
    by_cases h : x < y
    · rw [decide_eq_true h, decide_eq_true (by omega)]
    · rw [decide_eq_false h, decide_eq_false (by omega)]
theorem lex_anti : ∀ a b : List Nat, lexN a b = true → lexN b a = false
  | [], [], h => by cases h
  | [], y :: b, _ => rfl
  | x :: a, [], h => by cases h
  | x :: a, y :: b, h => by
    rw [lex_cons] at h ⊢
    by_cases e : x = y
    · rw [if_pos e] at h
      rw [if_pos e.symm]
      exact lex_anti a b h
    · rw [if_neg e] at h
      rw [if_neg fun z => e z.symm]
      have := of_decide_eq_true h
      exact decide_eq_false (by omega)
theorem lex_trans : ∀ a b c : List Nat, lexN b a = false → lexN c b = false → lexN c a = false
  | _, _, [], _, h => by
    rename_i a b _
    cases b with
    | nil => cases a with
      | nil => rfl
      | cons x a => rename_i h1; exact h1
    | cons y b => cases h
  | [], b, z :: c, _, _ => rfl
  | x :: a, [], z :: c, h, _ => by cases h
  | x :: a, y :: b, z :: c, h1, h2 => by
    rw [lex_cons] at h1 h2 ⊢
    by_cases e1 : y = x
    · rw [if_pos e1] at h1
      by_cases e2 : z = y
      · rw [if_pos e2] at h2
        rw [if_pos (e2.trans e1)]
        exact lex_trans a b c h1 h2
      · rw [if_neg e2] at h2
        rw [if_neg (by omega)]
        have := of_decide_eq_false h2
        exact decide_eq_false (by omega)
    · rw [if_neg e1] at h1
      have g1 := of_decide_eq_false h1
      by_cases e2 : z = y
      · rw [if_neg (by omega)]
        exact decide_eq_false (by omega)
      · rw [if_neg e2] at h2
        have := of_decide_eq_false h2
        rw [if_neg (by omega)]
        exact decide_eq_false (by omega)
/-- put in order -/
theorem lex_ins (c : List Nat) : ∀ l : List (List Nat), l.Pairwise (fun a b => lexN b a = false) → ∃ m : List (List Nat), m.Perm (c :: l) ∧ m.Pairwise fun a b => lexN b a = false
  | [], _ => ⟨[c], .refl _, List.pairwise_singleton _ _⟩
  | d :: l, h => by
    obtain ⟨h1, h2⟩ := List.pairwise_cons.mp h
    cases e : lexN d c with
    | false =>
      refine ⟨c :: d :: l, .refl _, List.pairwise_cons.mpr ⟨fun x hx => ?_, h⟩⟩
      rcases List.mem_cons.mp hx with hx | hx
      · rw [hx]; exact e
      · exact lex_trans c d x e (h1 x hx)
    | true =>
      obtain ⟨m, m1, m2⟩ := lex_ins c l h2
      refine ⟨d :: m, (m1.cons d).trans (.swap c d l), List.pairwise_cons.mpr ⟨fun x hx => ?_, m2⟩⟩
      rcases List.mem_cons.mp (m1.mem_iff.mp hx) with hx | hx
      · rw [hx]; exact lex_anti d c e
      · exact h1 x hx
theorem lex_sorted : ∀ l : List (List Nat), ∃ m : List (List Nat), m.Perm l ∧ m.Pairwise fun a b => lexN b a = false
  | [] => ⟨[], .refl _, .nil⟩
  | c :: l => by
    obtain ⟨m, m1, m2⟩ := lex_sorted l
    obtain ⟨q, q1, q2⟩ := lex_ins c m m2
    exact ⟨q, q1.trans (m1.cons c), q2⟩
theorem cuts_ex {n : Net} (ok : n.Ok) (k g : Nat) : ∃ cs, CutsAre n k g cs := by
  have ⟨ms, h, nd⟩ : ∃ ms : List Nat, ML n k g ms ∧ ms.Nodup := by
    refine ⟨(List.range (2 ^ g)).filter fun M => @decide (MinT n g M ∧ pop M ≤ k ∧ M.testBit g = false) (Classical.propDecidable _), fun M => ?_, List.Pairwise.filter _ List.nodup_range⟩
    rw [List.mem_filter, List.mem_range]
    constructor
    · rintro ⟨_, h⟩
      exact @of_decide_eq_true _ (Classical.propDecidable _) h
    · intro h
      refine ⟨Nat.lt_pow_two_of_testBit M fun i hi => ?_, @decide_eq_true _ (Classical.propDecidable _) h⟩
      cases e : M.testBit i with
      | false => rfl
      | true =>
        have := h.1.low ok i e
        have : i = g := by omega
        rw [this, h.2.2] at e
        cases e
  obtain ⟨cs, pm, srt⟩ := lex_sorted (ms.map bitsOf)
  exact ⟨cs, cuts_of_masks ok h nd pm srt⟩
noncomputable def cofX (n : Net) (k x : Nat) : List (List Nat) := open Classical in if h : ∃ cs, CutsAre n k x cs then h.choose else []
theorem cofX_ok {n : Net} (ok : n.Ok) (k x : Nat) : CutsAre n k x (cofX n k x) := by
  unfold cofX
  rw [dif_pos (cuts_ex ok k x)]
  exact (cuts_ex ok k x).choose_spec
end GX
set_option Elab.async false
set_option linter.all false
set_option maxRecDepth 100000
set_option maxHeartbeats 4000000
/-! A net with its wires numbered otherwise. -/
namespace GX
open PySem PySem.Spec PyProof.Rows L2
/-- the kind when both places are exchanged -/
def swK (k : Nat) : Nat := k / 8 * 8 + k / 2 % 2 * 4 + k / 4 % 2 * 2 + k % 2
theorem swK_tw {k : Nat} (h : k < 16) : swK (swK k) = k ∧ swK k < 16 := by
  have : ∀ k : Fin 16, swK (swK k.1) = k.1 ∧ swK k.1 < 16 := by decide
  exact this ⟨k, h⟩
structure Ren (n n' : Net) (p q : Nat → Nat) : Prop where
  many : n'.many = n.many
  gl : n'.gates.length = n.gates.length
  pl : ∀ w, w < n.many + n.gates.length → p w < n.many + n.gates.length ∧ q (p w) = w
  ql : ∀ w, w < n.many + n.gates.length → q w < n.many + n.gates.length ∧ p (q w) = w
  pin : ∀ w, w < n.many + n.gates.length → (p w < n.many ↔ w < n.many)
  gate : ∀ g kk, n.many ≤ g → n.gates[g - n.many]? = some kk → ∃ kk', n'.gates[p g - n.many]? = some kk' ∧ ((kk'.2.1 = p kk.2.1 ∧ kk'.2.2 = p kk.2.2 ∧ kk'.1 = kk.1) ∨ (kk'.2.1 = p kk.2.2 ∧ kk'.2.2 = p kk.2.1 ∧ kk'.1 = swK kk.1))
  outs : n'.outs = n.outs.map p
theorem Ren.inj {n n' : Net} {p q : Nat → Nat} (R : Ren n n' p q) {x y : Nat} (hx : x < n.many + n.gates.length) (hy : y < n.many + n.gates.length) (e : p x = p y) : x = y := by
  rw [← (R.pl x hx).2, ← (R.pl y hy).2, e]
theorem gate_ex {n : Net} {g : Nat} (h : g < n.many + n.gates.length) (hm : n.many ≤ g) : ∃ kk, n.gates[g - n.many]? = some kk := ⟨_, List.getElem?_eq_getElem (by omega)⟩
theorem Ren.symm {n n' : Net} {p q : Nat → Nat} (ok : n.Ok) (R : Ren n n' p q) : Ren n' n q p := by
  have eW : n'.many + n'.gates.length = n.many + n.gates.length := by rw [R.many, R.gl]
  have qin : ∀ w, w < n.many + n.gates.length → (q w < n.many ↔ w < n.many) := fun w hw => by
    have h := R.ql w hw
    have := R.pin (q w) h.1
    rw [h.2] at this
    exact this.symm
  refine ⟨R.many.symm, R.gl.symm, fun w hw => ?_, fun w hw => ?_, fun w hw => ?_, fun g kk hg hk => ?_, ?_⟩
  · rw [eW] at hw ⊢
    exact R.ql w hw
  · rw [eW] at hw ⊢
    exact R.pl w hw
  · rw [eW] at hw
    rw [R.many]
    exact qin w hw
  · have hl := (List.getElem?_eq_some_iff.mp hk).1
    rw [R.many] at hg hk hl
    rw [R.gl] at hl
    have gW : g < n.many + n.gates.length := by omega
    obtain ⟨h1, h2⟩ := R.ql g gW
    have hqm : n.many ≤ q g := Nat.le_of_not_lt fun z => absurd ((qin g gW).mp z) (by omega)
    obtain ⟨k0, hk0⟩ := gate_ex h1 hqm
    obtain ⟨k1, e1, e2⟩ := R.gate (q g) k0 hqm hk0
    rw [h2, hk] at e1
    cases e1
    obtain ⟨o1, o2, o3⟩ := ok.gs _ _ hk0
    have l1 : k0.2.1 < n.many + n.gates.length := by omega
    have l2 : k0.2.2 < n.many + n.gates.length := by omega
    rw [R.many]
    refine ⟨k0, hk0, ?_⟩
    rcases e2 with ⟨a, b, c⟩ | ⟨a, b, c⟩
    · exact .inl ⟨by rw [a, (R.pl _ l1).2], by rw [b, (R.pl _ l2).2], c.symm⟩
    · exact .inr ⟨by rw [b, (R.pl _ l1).2], by rw [a, (R.pl _ l2).2], by rw [c, (swK_tw (by omega)).1]⟩
  · rw [R.outs, List.map_map]
    refine ((List.map_congr_left fun x hx => ?_).trans (List.map_id _)).symm
    exact (R.pl x (ok.os x hx)).2
theorem sep_ren {n n' : Net} {p q : Nat → Nat} (ok : n.Ok) (R : Ren n n' p q) {st : List Nat} (hs : ∀ x ∈ st, x < n.many + n.gates.length) : ∀ w, w < n.many + n.gates.length → (Sep n w st ↔ Sep n' (p w) (st.map p)) := by
  intro w
  induction w using Nat.strongRecOn with
  | _ w ih =>
    intro hw
    by_cases z : w ∈ st
    · exact ⟨fun _ => sep_in (List.mem_map.mpr ⟨w, z, rfl⟩), fun _ => sep_in z⟩
    have z' : p w ∉ st.map p := fun h => by
      obtain ⟨x, hx, e⟩ := List.mem_map.mp h
      exact z (R.inj (hs x hx) hw e ▸ hx)
    by_cases hm : w < n.many
    · rw [sep_input hm, sep_input (by rw [R.many]; exact (R.pin w hw).mpr hm)]
      exact ⟨fun h => absurd h z, fun h => absurd h z'⟩
    · obtain ⟨kk, hk⟩ := gate_ex hw (Nat.le_of_not_lt hm)
      obtain ⟨kk', hk', e⟩ := R.gate w kk (Nat.le_of_not_lt hm) hk
      have l1 := place_lt ok (Nat.le_of_not_lt hm) hk (.inl rfl)
      have l2 := place_lt ok (Nat.le_of_not_lt hm) hk (.inr rfl)
      have hpm : n'.many ≤ p w := by
        rw [R.many]
        exact Nat.le_of_not_lt fun h => hm ((R.pin w hw).mp h)
      rw [sep_gate (Nat.le_of_not_lt hm) hk z, sep_gate hpm (by rw [R.many]; exact hk') z', ih _ l1 (by omega), ih _ l2 (by omega)]
      rcases e with ⟨a, b, _⟩ | ⟨a, b, _⟩
      · rw [a, b]
      · rw [a, b]
        exact And.comm
/-- wires called otherwise, rising -/
def imgN (p : Nat → Nat) (c : List Nat) : List Nat := bitsOf (maskOf (c.map p))
theorem mem_img {p : Nat → Nat} {c : List Nat} {x : Nat} : x ∈ imgN p c ↔ ∃ y ∈ c, p y = x := by
  unfold imgN
  rw [mem_bits, mask_bit, decide_eq_true_iff, List.mem_map]
theorem img_rise (p : Nat → Nat) (c : List Nat) : (imgN p c).Pairwise (· < ·) := bits_rise _
theorem img_len (p : Nat → Nat) (c : List Nat) : (imgN p c).length ≤ c.length := by
  have := nodup_len (xs := imgN p c) (ys := c.map p) ((img_rise p c).imp fun h => Nat.ne_of_lt h) fun x hx => by
    obtain ⟨y, hy, e⟩ := mem_img.mp hx
    exact List.mem_map.mpr ⟨y, hy, e⟩
  rwa [List.length_map] at this
theorem lc_ren {n n' : Net} {p q : Nat → Nat} (ok : n.Ok) (ok' : n'.Ok) (R : Ren n n' p q) {k g : Nat} {c : List Nat} (hg : g < n.many + n.gates.length) (h : LC n k g c) : LC n' k (p g) (imgN p c) := by
  have hc : ∀ x ∈ c, x < n.many + n.gates.length := fun x hx => Nat.lt_trans (h.lt x hx) hg
  have least : ∀ x ∈ imgN p c, ¬ Sep n' (p g) ((imgN p c).filter fun y => decide (y ≠ x)) := fun x hx hs => by
    obtain ⟨y, hy, rfl⟩ := mem_img.mp hx
    refine h.least y hy ?_
    have hf : ∀ z ∈ c.filter (fun z => decide (z ≠ y)), z < n.many + n.gates.length := fun z hz => hc z (List.mem_filter.mp hz).1
    refine (sep_ren ok R hf g hg).mpr ((sep_congr fun z => ?_).mp hs)
    rw [List.mem_filter, decide_eq_true_iff, mem_img, List.mem_map]
    constructor
    · rintro ⟨⟨u, hu, rfl⟩, h2⟩
      exact ⟨u, List.mem_filter.mpr ⟨hu, decide_eq_true fun e => h2 (by rw [e])⟩, rfl⟩
    · rintro ⟨u, hu, rfl⟩
      obtain ⟨h1, h2⟩ := List.mem_filter.mp hu
      exact ⟨⟨u, h1, rfl⟩, fun e => of_decide_eq_true h2 (R.inj (hc u h1) (hc y hy) e)⟩
  have sep : Sep n' (p g) (imgN p c) := (sep_congr fun z => by rw [mem_img, List.mem_map]).mpr ((sep_ren ok R hc g hg).mp h.sep)
  refine ⟨img_rise p c, fun x hx => ?_, sep, Nat.le_trans (img_len p c) h.len, least⟩
  have le : x ≤ p g := Nat.le_of_not_lt fun z => least x hx (sep_low ok' (fun y hy hm => List.mem_filter.mpr ⟨hm, decide_eq_true (by omega)⟩) sep)
  obtain ⟨y, hy, rfl⟩ := mem_img.mp hx
  exact Nat.lt_of_le_of_ne le fun e => absurd (R.inj (hc y hy) hg e) (Nat.ne_of_lt (h.lt y hy))
theorem img_back {n n' : Net} {p q : Nat → Nat} (R : Ren n n' p q) {c : List Nat} (hr : c.Pairwise (· < ·)) (hc : ∀ x ∈ c, x < n.many + n.gates.length) : imgN q (imgN p c) = c := rise_eq (img_rise _ _) hr fun x => by
  rw [mem_img]
  constructor
  · rintro ⟨y, hy, rfl⟩
    obtain ⟨z, hz, rfl⟩ := mem_img.mp hy
    rw [(R.pl z (hc z hz)).2]
    exact hz
  · intro hx
    exact ⟨p x, mem_img.mpr ⟨x, hx, rfl⟩, (R.pl x (hc x hx)).2⟩
/-- the cuts are the same, called otherwise -/
theorem cuts_ren {n n' : Net} {p q : Nat → Nat} (ok : n.Ok) (ok' : n'.Ok) (R : Ren n n' p q) {k g : Nat} {cs cs' ds : List (List Nat)} (hg : g < n.many + n.gates.length) (h : CutsAre n k g cs) (h' : CutsAre n' k (p g) cs') (pm : ds.Perm (cs.map (imgN p))) (srt : ds.Pairwise fun a b => lexN b a = false) : ds = cs' := by
  have inj : ∀ a ∈ cs, ∀ b ∈ cs, imgN p a = imgN p b → a = b := fun a ha b hb e => by
    have la := (h.mem a).mp ha
    have lb := (h.mem b).mp hb
    rw [← img_back R la.rise fun x hx => Nat.lt_trans (la.lt x hx) hg, ← img_back R lb.rise fun x hx => Nat.lt_trans (lb.lt x hx) hg, e]
  refine lex_uniq ?_ h'.nd srt h'.srt fun c => ?_
  · refine pm.nodup_iff.mpr ?_
    rw [List.nodup_iff_pairwise_ne, List.pairwise_map]
    refine List.Pairwise.imp_of_mem (fun ha hb ne e => ne (inj _ ha _ hb e)) (List.nodup_iff_pairwise_ne.mp h.nd)
  · rw [pm.mem_iff, List.mem_map, h'.mem]
    constructor
    · rintro ⟨a, ha, rfl⟩
      exact lc_ren ok ok' R hg ((h.mem a).mp ha)
    · intro hc
      have S := R.symm ok
      have eW : n'.many + n'.gates.length = n.many + n.gates.length := by rw [R.many, R.gl]
      have hpg : p g < n'.many + n'.gates.length := by rw [eW]; exact (R.pl g hg).1
      have hl := lc_ren ok' ok S hpg hc
      rw [(R.pl g hg).2] at hl
      exact ⟨imgN q c, (h.mem _).mpr hl, img_back S hc.rise fun x hx => Nat.lt_trans (hc.lt x hx) hpg⟩
end GX
set_option Elab.async false
set_option linter.all false
set_option maxRecDepth 100000
set_option maxHeartbeats 4000000
/-! Tables without their idle places. -/
namespace GX
open PySem PySem.Spec PyProof.Rows L2
/-! ### how the program goes: from the last one down -/
/-! ### layouts as data -/
def tabD (t : List Nat × List Nat) : PyData := .tuple [.tuple ((t.1.map fun n : Nat => (n : Int)).map PyData.int), .tuple ((t.2.map fun n : Nat => (n : Int)).map PyData.int)]
def layD (l : Lay) : List PyData := [.int ((l.many : Nat) : Int), .tuple (l.tabs.map tabD), .tuple ((l.outs.map fun n : Nat => (n : Int)).map PyData.int)]
theorem tabsD_dp {K : PySem.W.Frag} {H : Hp} : ∀ {ps : List Addr} {ts : List (List Nat × List Nat)}, TabsAt H ps ts → DpAll K H (ps.map V.ref) (ts.map tabD)
  | [], ts, x => by
    have : ts = [] := List.length_eq_zero_iff.mp x.1.symm
    subst this
    exact .nil
  | p :: r, [], x => by cases x.1
  | p :: r, t :: ts, x => by
    obtain ⟨a, b, h0, h1, h2⟩ := x.2 0 p t rfl rfl
    exact .cons (.tup (SqT.of h0) (.cons (.tup (SqT.of h1) (dpNat K _ _)) (.cons (.tup (SqT.of h2) (dpNat K _ _)) .nil))) (tabsD_dp (K := K) (H := H) (ps := r) (ts := ts) ⟨by simpa using x.1, fun i p' t' e1 e2 => x.2 (i + 1) p' t' (by simpa using e1) (by simpa using e2)⟩)
theorem LayAt.dp {K : PySem.W.Frag} {H : Hp} {a g o : Addr} {l : Lay} {ps : List Addr} (x : LayAt H a l g o ps) : Dp K H (.ref a) (.tuple (layD l)) := .tup (SqT.of x.top) (.cons (.int _) (.cons (.tup (SqT.of x.gt) (tabsD_dp x.ts)) (.cons (.tup (SqT.of x.ot) (dpNat K _ _)) .nil)))
theorem LayAt.same {H H' : Hp} {a g o : Addr} {l : Lay} {ps : List Addr} (x : LayAt H a l g o ps) (s : Same H H') : LayAt H' a l g o ps := x.mono fun b xs e => s _ _ e
theorem LayAt.aft {Ts : List Addr} {H H' : Hp} {a g o : Addr} {l : Lay} {ps : List Addr} (x : LayAt H a l g o ps) (t : Tabs Ts H) (s : Aft Ts H H') : LayAt H' a l g o ps := x.mono fun b xs e => s.tup t e
end GX
set_option Elab.async false
set_option linter.all false
set_option maxRecDepth 100000
set_option maxHeartbeats 4000000
/-! Covers laid. -/
namespace GX
open PySem PySem.Spec PyProof.Rows L2
theorem wOf_pre {gs : List (Nat × Nat × Nat)} {row : List Nat} : ∀ i j x, i ≤ j → x < row.length + i → i ≤ gs.length → j ≤ gs.length → (wOf (gs.take j) row).getD x 0 = (wOf (gs.take i) row).getD x 0 := by
  intro i j x hij
  induction hij with
  | refl => intros; rfl
  | @step m hm ih =>
    intro hx hi hj
    have e : gs[m]? = some gs[m] := List.getElem?_eq_getElem (by omega)
    rw [wOf_take e]
    unfold wstep
    have hm' : i ≤ m := hm
    rw [getD_pre (by rw [wOf_len, List.length_take]; omega)]
    exact ih hx hi (by omega)
theorem wOf_gate {n : Net} (ok : n.Ok) {row : List Nat} (hl : row.length = n.many) {x : Nat} {k : Nat × Nat × Nat} (hm : n.many ≤ x) (hk : n.gates[x - n.many]? = some k) : (wOf n.gates row).getD x 0 = gw k.1 ((wOf n.gates row).getD k.2.1 0) ((wOf n.gates row).getD k.2.2 0) := by
  have hi : x - n.many < n.gates.length := (List.getElem?_eq_some_iff.mp hk).1
  have p1 := place_lt ok hm hk (.inl rfl)
  have p2 := place_lt ok hm hk (.inr rfl)
  have e0 : wOf n.gates row = wOf (n.gates.take n.gates.length) row := by rw [List.take_length]
  rw [e0, wOf_pre (x - n.many + 1) n.gates.length x (by omega) (by omega) (by omega) (Nat.le_refl _), wOf_pre (x - n.many) n.gates.length k.2.1 (by omega) (by omega) (by omega) (Nat.le_refl _), wOf_pre (x - n.many) n.gates.length k.2.2 (by omega) (by omega) (by omega) (Nat.le_refl _), wOf_take hk]
  unfold wstep
  rw [getD_post (by rw [wOf_len, List.length_take]; omega), wOf_len, List.length_take, Nat.min_eq_left (by omega), hl, show x - (n.many + (x - n.many)) = 0 by omega]
  rfl
theorem wOf_row {gs : List (Nat × Nat × Nat)} {row : List Nat} {x : Nat} (h : x < row.length) : (wOf gs row).getD x 0 = row.getD x 0 := by
  have e0 : wOf gs row = wOf (gs.take gs.length) row := by rw [List.take_length]
  rw [e0, wOf_pre 0 gs.length x (Nat.zero_le _) h (Nat.zero_le _) (Nat.le_refl _)]
  rfl
end GX
set_option Elab.async false
set_option linter.all false
set_option maxRecDepth 100000
set_option maxHeartbeats 4000000
/-! Worths in a net numbered otherwise; the net made by an order of the wires. -/
namespace GX
open PySem PySem.Spec PyProof.Rows L2
theorem gw_swap {k a b : Nat} (hk : k < 16) (ha : a < 2) (hb : b < 2) : gw (swK k) b a = gw k a b := by
  have : ∀ (k : Fin 16) (a b : Fin 2), gw (swK k.1) b.1 a.1 = gw k.1 a.1 b.1 := by decide
  exact this ⟨k, hk⟩ ⟨a, ha⟩ ⟨b, hb⟩
theorem w_ren {n n' : Net} {p q : Nat → Nat} (ok : n.Ok) (ok' : n'.Ok) (R : Ren n n' p q) {row row' : List Nat} (rl : row.length = n.many) (rb : ∀ x ∈ row, x < 2) (rl' : row'.length = n.many) (hr : ∀ i, i < n.many → row'.getD i 0 = row.getD (q i) 0) : ∀ w, w < n.many + n.gates.length → (wOf n'.gates row').getD (p w) 0 = (wOf n.gates row).getD w 0 := by
  have lt2 : ∀ x, (wOf n.gates row).getD x 0 < 2 := fun x => by
    rw [List.getD_eq_getElem?_getD]
    cases e : (wOf n.gates row)[x]? with
    | none => exact Nat.two_pos
    | some v => exact wOf_lt rb n.gates v (List.mem_of_getElem? e)
  intro w
  induction w using Nat.strongRecOn with
  | _ w ih =>
    intro hw
    by_cases hm : w < n.many
    · have hp := (R.pin w hw).mpr hm
      rw [wOf_row (row := row) (by rw [rl]; exact hm), wOf_row (row := row') (by rw [rl']; exact hp), hr _ hp, (R.pl w hw).2]
    · have hm := Nat.le_of_not_lt hm
      obtain ⟨kk, hk⟩ := gate_ex hw hm
      obtain ⟨kk', hk', e⟩ := R.gate w kk hm hk
      have l1 := place_lt ok hm hk (.inl rfl)
      have l2 := place_lt ok hm hk (.inr rfl)
      have hpm : n'.many ≤ p w := by
        rw [R.many]
        exact Nat.le_of_not_lt fun h => absurd ((R.pin w hw).mp h) (by omega)
      rw [wOf_gate ok rl hm hk, wOf_gate ok' (by rw [rl', R.many]) hpm (by rw [R.many]; exact hk')]
      have i1 := ih _ l1 (by omega)
      have i2 := ih _ l2 (by omega)
      rcases e with ⟨a, b, c⟩ | ⟨a, b, c⟩
      · rw [a, b, c, i1, i2]
      · rw [a, b, c, i1, i2]
        exact gw_swap (ok.gs _ _ hk).1 (lt2 _) (lt2 _)
theorem full_mem {xs ys : List Nat} (nx : xs.Nodup) (h : ∀ x ∈ xs, x ∈ ys) (l : ys.length ≤ xs.length) {y : Nat} (hy : y ∈ ys) : y ∈ xs := by
  refine Classical.not_not.mp fun z => ?_
  have := (List.nodup_cons.mpr ⟨z, nx⟩).length_le_of_subset (l₂ := ys) fun x hx => by
    rcases List.mem_cons.mp hx with hx | hx
    · rw [hx]; exact hy
    · exact h x hx
  rw [List.length_cons] at this
  omega
/-- an order of all wires of a net: inputs, then gates, each behind its places -/
structure OrdOk (n : Net) (od : List Nat) : Prop where
  nd : od.Nodup
  len : od.length = n.many + n.gates.length
  lt : ∀ x ∈ od, x < n.many + n.gates.length
  ins : ∀ i, i < n.many → od.getD i 0 < n.many
  pl : ∀ i kk, n.many ≤ i → i < od.length → n.gates[od.getD i 0 - n.many]? = some kk → (kk.2.1 ∈ od.take i ∧ kk.2.2 ∈ od.take i)
theorem OrdOk.all {n : Net} {od : List Nat} (h : OrdOk n od) {x : Nat} (hx : x < n.many + n.gates.length) : x ∈ od := by
  exact full_mem h.nd (ys := List.range (n.many + n.gates.length)) (fun y hy => List.mem_range.mpr (h.lt y hy)) (by rw [List.length_range, h.len]; exact Nat.le_refl _) (List.mem_range.mpr hx)
theorem OrdOk.gates {n : Net} {od : List Nat} (h : OrdOk n od) {i : Nat} (h1 : n.many ≤ i) (h2 : i < od.length) : n.many ≤ od.getD i 0 := by
  refine Nat.le_of_not_lt fun z => ?_
  have hlen := h.len
  have hx : od.getD i 0 ∈ od.take n.many := full_mem (h.nd.sublist (List.take_sublist n.many od)) (ys := List.range n.many) (fun y hy => by
    obtain ⟨j, hj, e⟩ := List.getElem_of_mem hy
    rw [List.length_take] at hj
    have := h.ins j (by omega)
    rw [List.getElem_take] at e
    rw [List.getD_eq_getElem?_getD, List.getElem?_eq_getElem (by omega)] at this
    rw [← e]
    exact List.mem_range.mpr this) (by rw [List.length_range, List.length_take]; omega) (List.mem_range.mpr z)
  obtain ⟨j, hj, e⟩ := List.getElem_of_mem hx
  rw [List.length_take] at hj
  rw [List.getElem_take, List.getD_eq_getElem?_getD, List.getElem?_eq_getElem h2] at e
  have := (List.getElem_inj (h₀ := by omega) (h₁ := h2) h.nd).mp e
  omega
/-- a gate called otherwise -/
def reG (od : List Nat) (kk : Nat × Nat × Nat) (sw : Bool) : Nat × Nat × Nat := if sw then (swK kk.1, od.idxOf kk.2.2, od.idxOf kk.2.1) else (kk.1, od.idxOf kk.2.1, od.idxOf kk.2.2)
structure TurnOk (n : Net) (od : List Nat) (n' : Net) : Prop where
  many : n'.many = n.many
  gl : n'.gates.length = n.gates.length
  gt : ∀ i, i < n.gates.length → ∃ kk sw, n.gates[od.getD (n.many + i) 0 - n.many]? = some kk ∧ n'.gates[i]? = some (reG od kk sw)
  outs : n'.outs = n.outs.map fun x => od.idxOf x
theorem turn_ok {n n' : Net} {od : List Nat} (ok : n.Ok) (h : OrdOk n od) (t : TurnOk n od n') : n'.Ok ∧ Ren n n' (fun x => od.idxOf x) (fun i => od.getD i 0) := by
  have hlen := h.len
  have pl : ∀ w, w < n.many + n.gates.length → od.idxOf w < n.many + n.gates.length ∧ od.getD (od.idxOf w) 0 = w := fun w hw => by
    have hl := List.idxOf_lt_length_of_mem (h.all hw)
    refine ⟨by omega, ?_⟩
    rw [List.getD_eq_getElem?_getD, List.getElem?_eq_getElem hl]
    exact List.getElem_idxOf hl
  have ql : ∀ w, w < n.many + n.gates.length → od.getD w 0 < n.many + n.gates.length ∧ od.idxOf (od.getD w 0) = w := fun w hw => by
    have e : od.getD w 0 = od[w]'(by omega) := by rw [List.getD_eq_getElem?_getD, List.getElem?_eq_getElem (by omega)]; rfl
    rw [e]
    exact ⟨h.lt _ (List.getElem_mem _), h.nd.idxOf_getElem w (by omega)⟩
  have low : ∀ i x, x ∈ od.take i → od.idxOf x < i := fun i x hx => by
    obtain ⟨j, hj, e⟩ := List.getElem_of_mem hx
    rw [List.length_take] at hj
    rw [List.getElem_take] at e
    rw [← e, h.nd.idxOf_getElem j (by omega)]
    omega
  have R : Ren n n' (fun x => od.idxOf x) (fun i => od.getD i 0) := by
    refine ⟨t.many, t.gl, pl, ql, fun w hw => ?_, fun g kk hg hk => ?_, t.outs⟩
    · obtain ⟨h1, h2⟩ := pl w hw
      constructor
      · intro z
        have := h.ins _ z
        rw [h2] at this
        exact this
      · intro z
        refine Nat.lt_of_not_le fun y => ?_
        have := h.gates y (by omega)
        rw [h2] at this
        omega
    · have hgl : g < n.many + n.gates.length := by
        have := (List.getElem?_eq_some_iff.mp hk).1
        omega
      obtain ⟨h1, h2⟩ := pl g hgl
      have hm : n.many ≤ od.idxOf g := Nat.le_of_not_lt fun z => by
        have := h.ins _ z
        rw [h2] at this
        omega
      obtain ⟨k0, sw, e1, e2⟩ := t.gt (od.idxOf g - n.many) (by omega)
      rw [show n.many + (od.idxOf g - n.many) = od.idxOf g by omega, h2, hk] at e1
      cases e1
      refine ⟨_, e2, ?_⟩
      unfold reG
      cases sw with
      | true => exact .inr ⟨rfl, rfl, rfl⟩
      | false => exact .inl ⟨rfl, rfl, rfl⟩
  refine ⟨⟨by rw [t.many]; exact ok.m1, by rw [t.many]; exact ok.m8, by rw [t.gl]; exact ok.g16, fun i g hg => ?_, by rw [t.outs, List.length_map]; exact ok.o1, by rw [t.outs, List.length_map]; exact ok.o8, fun o ho => ?_⟩, R⟩
  · have hi := (List.getElem?_eq_some_iff.mp hg).1
    rw [t.gl] at hi
    obtain ⟨kk, sw, e1, e2⟩ := t.gt i hi
    rw [hg] at e2
    cases e2
    obtain ⟨p1, p2⟩ := h.pl (n.many + i) kk (by omega) (by omega) e1
    have i1 := low _ _ p1
    have i2 := low _ _ p2
    obtain ⟨o1, _, _⟩ := ok.gs _ _ e1
    rw [t.many]
    unfold reG
    cases sw with
    | true => exact ⟨(swK_tw o1).2, i2, i1⟩
    | false => exact ⟨o1, i1, i2⟩
  · rw [t.outs] at ho
    obtain ⟨x, hx, rfl⟩ := List.mem_map.mp ho
    rw [t.many, t.gl]
    exact (pl x (ok.os x hx)).1
end GX
set_option Elab.async false
set_option linter.all false
set_option maxRecDepth 100000
set_option maxHeartbeats 4000000
/-! A list or a tuple of anything, held against an empty one. -/
namespace GX
open PySem PySem.Spec PyProof.Rows L2
def rEq0 (K : PySem.W.Frag) : R2 := fun x y H Q => ∃ (a b : Addr) (xs : List V), x = .ref a ∧ y = .ref b ∧ ((SqT K H a xs ∧ SqT K H b []) ∨ (SqL K H a xs ∧ SqL K H b [])) ∧ Q (.bl (decide (xs.length = 0))) H
def rNe0 (K : PySem.W.Frag) : R2 := fun x y H Q => ∃ (a b : Addr) (xs : List V), x = .ref a ∧ y = .ref b ∧ ((SqT K H a xs ∧ SqT K H b []) ∨ (SqL K H a xs ∧ SqL K H b [])) ∧ Q (.bl (!decide (xs.length = 0))) H
theorem vals_nil {its : List Value} (h : Vals [] its) : its = [] := by cases h; rfl
theorem op_eq0 {X : Cx} (hu : X.A.units < cLine) : OpR X (compareOp .Eq) (rEq0 X.K) := by
  intro pins s σ H x y v u Q I rx ry h
  obtain ⟨a, b, xs, rfl, rfl, hh, q⟩ := h
  cases rx
  cases ry
  rcases hh with ⟨ha, hb⟩ | ⟨ha, hb⟩
  · obtain ⟨its, r, ⟨o, e, c, n, d⟩, _⟩ := I.tuple ha
    obtain ⟨its2, r2, ⟨o2, e2, c2, n2, d2⟩, _⟩ := I.tuple hb
    obtain rfl := vals_nil r2
    have hl : its.length = xs.length := r.length.symm
    refine PySem.SeqAt.eq_tupleAt (items := its.toArray) (items2 := #[]) (e := fun _ => true) ⟨o, e, c, n, d⟩ ⟨o2, e2, c2, n2, d2⟩ hu (fun j h1 h2 => by simp at h2) ⟨.bl (decide (xs.length = 0)), H, I, ?_, q⟩
    show Value.bool _ = Value.bool _
    congr 1
    cases xs with
    | nil => simp [hl]
    | cons _ _ => simp [hl]
  · obtain ⟨its, r, ⟨o, n, e, c, d0, d⟩, _⟩ := I.list ha
    obtain ⟨its2, r2, ⟨o2, n2, e2, c2, d02, d2⟩, _⟩ := I.list hb
    obtain rfl := vals_nil r2
    have hl : its.length = xs.length := r.length.symm
    by_cases h0 : xs.length = 0
    · refine PySem.SeqAt.eq_listAt (items := its.toArray) (items2 := #[]) (e := fun _ => true) ⟨o, e, c, n, d⟩ ⟨o2, e2, c2, n2, d2⟩ (by simp [hl, h0]) hu (fun j h1 h2 => by simp at h2) ⟨.bl (decide (xs.length = 0)), H, I, ?_, q⟩
      show Value.bool _ = Value.bool _
      simp [h0]
    · refine PySem.SeqAt.eq_list_lengthsAt (items := its.toArray) (items2 := #[]) ⟨o, e, c, n, d⟩ ⟨o2, e2, c2, n2, d2⟩ (by simp [hl, h0]) hu ⟨.bl (decide (xs.length = 0)), H, I, ?_, q⟩
      show Value.bool _ = Value.bool _
      simp [h0]
theorem op_ne0 {X : Cx} (hu : X.A.units < cLine) : OpR X (compareOp .NotEq) (rNe0 X.K) := by
  intro pins s σ H x y v u Q I rx ry h
  obtain ⟨a, b, xs, rfl, rfl, hh, q⟩ := h
  cases rx
  cases ry
  rcases hh with ⟨ha, hb⟩ | ⟨ha, hb⟩
  · obtain ⟨its, r, ⟨o, e, c, n, d⟩, _⟩ := I.tuple ha
    obtain ⟨its2, r2, ⟨o2, e2, c2, n2, d2⟩, _⟩ := I.tuple hb
    obtain rfl := vals_nil r2
    have hl : its.length = xs.length := r.length.symm
    refine PySem.SeqAt.RcNeAt.tuples (items := its.toArray) (items2 := #[]) (e := fun _ => true) ⟨o, e, c, n, d⟩ ⟨o2, e2, c2, n2, d2⟩ hu (fun j h1 h2 => by simp at h2) X.prog X.w _ _ ⟨.bl (!decide (xs.length = 0)), H, I, ?_, q⟩
    show Value.bool _ = Value.bool _
    congr 1
    cases xs with
    | nil => simp [hl]
    | cons _ _ => simp [hl]
  · obtain ⟨its, r, ⟨o, n, e, c, d0, d⟩, _⟩ := I.list ha
    obtain ⟨its2, r2, ⟨o2, n2, e2, c2, d02, d2⟩, _⟩ := I.list hb
    obtain rfl := vals_nil r2
    have hl : its.length = xs.length := r.length.symm
    by_cases h0 : xs.length = 0
    · refine PySem.SeqAt.RcNeAt.lists (items := its.toArray) (items2 := #[]) (e := fun _ => true) ⟨o, e, c, n, d⟩ ⟨o2, e2, c2, n2, d2⟩ (by simp [hl, h0]) hu (fun j h1 h2 => by simp at h2) X.prog X.w _ _ ⟨.bl (!decide (xs.length = 0)), H, I, ?_, q⟩
      show Value.bool _ = Value.bool _
      simp [h0]
    · refine PySem.SeqAt.RcNeAt.lists_lengths (items := its.toArray) (items2 := #[]) ⟨o, e, c, n, d⟩ ⟨o2, e2, c2, n2, d2⟩ (by simp [hl, h0]) hu X.prog X.w _ _ ⟨.bl (!decide (xs.length = 0)), H, I, ?_, q⟩
      show Value.bool _ = Value.bool _
      simp [h0]
theorem op_eq0K {X : Cx} {K : PySem.W.Frag} (hu : X.A.units < cLine) (h : X.K = K := by rfl) : OpR X (compareOp .Eq) (rEq0 K) := by subst h; exact op_eq0 hu
end GX
set_option Elab.async false
set_option linter.all false
set_option maxRecDepth 100000
set_option maxHeartbeats 4000000
namespace K87
open PySem PySem.Spec PyProof.Rows L2 GX
open C8 (Cal pe_c pe_gc Met Mak)
-- @exc NoDepth init=least
-- @sub NoDepth NoDepth true
-- @exc TooMany made
-- @alt cut_masks tup par=N,t[i],i vars=masks:DL,wire:i
section
variable {P : Program} {w : World} {K : PySem.W.Frag} {mg : Str → Option Value} {base : Heap} {Ts : List Addr}
theorem rg_from (a b : Nat) : rgV ((a : Nat) : Int) (((a : Nat) : Int) + ((b : Nat) : Int)) = ((List.range b).map fun i => a + i).map nV := by
  unfold rgV
  rw [show (((a : Nat) : Int) + ((b : Nat) : Int) - ((a : Nat) : Int)).toNat = b by omega, List.map_map]
  refine List.map_congr_left fun i _ => ?_
  exact congrArg V.int (show ((a : Nat) : Int) + ((i : Nat) : Int) = ((a + i : Nat) : Int) by omega)
theorem rg_zero (b : Nat) : rgV 0 ((b : Nat) : Int) = (List.range b).map nV := by
  have := rg_from 0 b
  rw [show (((0 : Nat) : Int) + ((b : Nat) : Int)) = ((b : Nat) : Int) by omega] at this
  refine this.trans ?_
  congr 1
  refine (List.map_congr_left fun i _ => ?_).trans (List.map_id _)
  show 0 + i = i
  omega
theorem mem_erIdx {l : List Nat} (nd : l.Nodup) {i x : Nat} (hi : l[i]? = some x) : (l.eraseIdx i).Nodup ∧ (∀ y, y ∈ l.eraseIdx i ↔ (y ∈ l ∧ y ≠ x)) ∧ (l.eraseIdx i).length + 1 = l.length := by
  have hl := (List.getElem?_eq_some_iff.mp hi).1
  have hx := (List.getElem?_eq_some_iff.mp hi).2
  refine ⟨nd.sublist (List.eraseIdx_sublist _ _), fun y => ?_, by rw [List.length_eraseIdx_of_lt hl]; omega⟩
  rw [List.mem_eraseIdx_iff_getElem]
  constructor
  · rintro ⟨j, hj, ne, rfl⟩
    exact ⟨List.getElem_mem _, fun e => ne ((List.getElem_inj nd).mp (e.trans hx.symm))⟩
  · rintro ⟨h1, h2⟩
    obtain ⟨j, hj, e⟩ := List.getElem_of_mem h1
    exact ⟨j, hj, fun z => h2 (by rw [← e, ← hx]; congr 1), e⟩
theorem er_map : ∀ (l : List Nat) (i : Nat), (l.map nV).eraseIdx i = (l.eraseIdx i).map nV
  | [], _ => rfl
  | _ :: _, 0 => rfl
  | n :: r, i + 1 => by
    show nV n :: (r.map nV).eraseIdx i = nV n :: (r.eraseIdx i).map nV
    rw [er_map r i]
theorem er_cast (x : Nat) : ∀ l : List Nat, (l.map fun n : Nat => (n : Int)).erase ((x : Nat) : Int) = (l.erase x).map fun n : Nat => (n : Int)
  | [] => rfl
  | y :: r => by
    rw [List.map_cons]
    by_cases h : y = x
    · subst h
      rw [List.erase_cons_head, List.erase_cons_head]
    · rw [List.erase_cons_tail (by rw [beq_iff_eq]; omega), List.erase_cons_tail (by rw [beq_iff_eq]; exact h), List.map_cons, er_cast x r]
/-- an order begun: the inputs, then some gates -/
structure PreO (n : Net) (od : List Nat) : Prop where
  nd : od.Nodup
  lo : n.many ≤ od.length
  lt : ∀ x ∈ od, x < n.many + n.gates.length
  ins : ∀ i, i < n.many → od.getD i 0 < n.many
  pl : ∀ i kk, n.many ≤ i → i < od.length → n.gates[od.getD i 0 - n.many]? = some kk → (kk.2.1 ∈ od.take i ∧ kk.2.2 ∈ od.take i)
theorem PreO.push {n : Net} {od : List Nat} (h : PreO n od) {x : Nat} {k0 : Nat × Nat × Nat} (hx : x < n.many + n.gates.length) (hn : x ∉ od) (hk : n.gates[x - n.many]? = some k0) (h1 : k0.2.1 ∈ od) (h2 : k0.2.2 ∈ od) : PreO n (od ++ [x]) := by
  have low : ∀ i, i < od.length → (od ++ [x]).getD i 0 = od.getD i 0 := fun i hi => by
    rw [List.getD_eq_getElem?_getD, List.getD_eq_getElem?_getD, List.getElem?_append_left hi]
  refine ⟨List.nodup_append.mpr ⟨h.nd, List.nodup_cons.mpr ⟨by simp, List.nodup_nil⟩, fun a ha b hb e => by
    rw [List.mem_singleton.mp hb] at e
    exact hn (e ▸ ha)⟩, by rw [List.length_append]; exact Nat.le_trans h.lo (Nat.le_add_right _ _), fun y hy => ?_, fun i hi => ?_, fun i kk hi hl hkk => ?_⟩
  · rcases List.mem_append.mp hy with hy | hy
    · exact h.lt y hy
    · rw [List.mem_singleton.mp hy]; exact hx
  · rw [low i (Nat.lt_of_lt_of_le hi h.lo)]
    exact h.ins i hi
  · rw [List.length_append] at hl
    have hl : i < od.length + 1 := hl
    rcases Nat.lt_or_ge i od.length with z | z
    · rw [low i z] at hkk
      rw [List.take_append_of_le_length (Nat.le_of_lt z)]
      exact h.pl i kk hi z hkk
    · obtain rfl : i = od.length := by omega
      rw [List.getD_eq_getElem?_getD, List.getElem?_append_right (Nat.le_refl _), Nat.sub_self] at hkk
      have hkk : n.gates[x - n.many]? = some kk := hkk
      rw [hk] at hkk
      cases hkk
      rw [List.take_append_of_le_length (Nat.le_refl _), List.take_length]
      exact ⟨h1, h2⟩
def freeF (n : Net) (os : List Nat) (x : Nat) : Bool := match n.gates[x - n.many]? with
  | some kk => decide (kk.2.1 ∈ os) && decide (kk.2.2 ∈ os)
  | none => false
def spOrd : Sp := fun vs H Q _ => ∃ (W a : Addr) (n : Net) (g o : Addr) (ps : List Addr), vs = [.ref W, .ref a] ∧ Wl H W ∧ NetAt H a n g o ps ∧ n.Ok ∧
  ∀ l od H', Wk W H H' → H' l = some (.lst (od.map nV)) → OrdOk n od → H l = none → Q (.ref l) H'
theorem ok_ord {f c : Addr} (D : Dfn K mg "_law_order" s__law_order f c) (T : Txt mg) (c__law_take : Cal P w K mg base 1 "_law_take" spTake []) : Cal P w K mg base 2 "_law_order" spOrd [] := by
  refine cal D (fun _ _ _ _ _ _ us hl => match us, hl with | [_, _], _ => rfl) sc__law_order (fun vs H Q E h => ?_) (fun A outer s H vs Q E hr h => ?_)
  · obtain ⟨W, a, n, g, o, ps, rfl, _⟩ := h
    rfl
  · obtain ⟨W, a, n, g, o, ps, rfl, hW, N, ok, q⟩ := h
    have m1 := ok.m1
    have m8 := ok.m8
    have g16 := ok.g16
    refine ⟨_, (pss_cons (ps_set (i := 2) sc__law_order.nd rfl (by first | exact Or.inl rfl | exact Or.inr rfl) (pe_listRg rfl (by rfl) T.b_list (prg_1 (by rfl) T.b_range (pe_ix ix_tup (pv 1) pe_int (fun _ _ => rfl)))))
      (pss_cons (ps_set (i := 3) sc__law_order.nd rfl (by first | exact Or.inl rfl | exact Or.inr rfl) (pe_lst pa_nil))
      (pss_cons (ps_while PassesOwn.never (pt_cmpR (op_ne0 hr.units0) (pv 2) (pe_lst pa_nil) (nomark _)) (pss_one (ps_expr (pe_bm PySem.F.plainAttrs_list PySem.F.slot_list_append PySem.F.type_list_append mt_append (pv 3) (pa_cons (pe_bm PySem.F.plainAttrs_list PySem.F.slot_list_pop PySem.F.type_list_pop mt_popAt (pv 2) (pa_cons (pe_c c__law_take hr (by decide) (by rfl) (pa_cons (pv 0) (pa_cons (pe_callB call_len_seq (by rfl) T.b_len (by decide +kernel) (pa_cons (pv 2) pa_nil)) pa_nil))) pa_nil)) pa_nil)))))
      (pss_cons (ps_set (i := 4) sc__law_order.nd rfl (by first | exact Or.inl rfl | exact Or.inr rfl) (pe_listRg rfl (by rfl) T.b_list (prg_2 (by rfl) T.b_range (pe_ix ix_tup (pv 1) pe_int (fun _ _ => rfl)) (pe_op op_add (pe_ix ix_tup (pv 1) pe_int (fun _ _ => rfl)) (pe_callB call_len_seq (by rfl) T.b_len (by decide +kernel) (pa_cons (pe_ix ix_tup (pv 1) pe_int (fun _ _ => rfl)) pa_nil))))))
      (pss_cons (ps_while PassesOwn.never (pt_cmpR (op_ne0 hr.units0) (pv 4) (pe_lst pa_nil) (nomark _)) (pss_cons (ps_setLc (i := 5) (own := [("_law_gate", 6)]) (g := gName 6)  rfl sc__law_order.nd rfl rfl (sw_true rfl rfl rfl (by decide +kernel)) (pi_list (pv 4)) (blkOk_by (own := [("_law_gate", 6)]) (N := ["_law_well_here", "_law_net_here", "_law_left", "_law_order_here", "_law_gates", "_law_free", "_law_gate", "_law_wire"]) (sc := defScope s__law_order) (by decide +kernel)) (fun _ _ _ _ _ => (pg_name (i := 6) sc__law_order.nd rfl (by first | exact Or.inl rfl | exact Or.inr rfl))) (fun _ _ _ _ _ => (pts_one (pt_cmpR (op_eq0K (K := K) hr.units0) (pe_lc (own := [("_law_wire", 7)]) (g := gName 7)  rfl sc__law_order.nd (pi_tupK (K := K) (pe_slice (sl_tupAK (K := K)) (pe_ix (ix_tupK (K := K)) (pe_ix (ix_tupK (K := K)) (pv 1) pe_int (fun _ _ => rfl)) (pe_op op_sub (pv 6) (pe_ix (ix_tupK (K := K)) (pv 1) pe_int (fun _ _ => rfl))) (fun _ _ => rfl)) (po_some pe_int) po_none)) (blkOk_by (own := [("_law_wire", 7)]) (by rfl)) (fun _ _ _ _ _ => (pg_name (i := 7) sc__law_order.nd rfl (by first | exact Or.inl rfl | exact Or.inr rfl))) (fun _ _ _ _ _ => (pts_one (pt_cmpR (op_notIn_seqK (K := K)) (pv 7) (pv 3) (by rfl)))) (fun _ _ _ _ _ => (pv 7))) (pe_lst pa_nil) (nomark _)))) (fun _ _ _ _ _ => (pv 6)))
      (pss_cons (ps_set (i := 6) sc__law_order.nd rfl (by first | exact Or.inl rfl | exact Or.inr rfl) (pe_ix ix_list (pv 5) (pe_c c__law_take hr (by decide) (by rfl) (pa_cons (pv 0) (pa_cons (pe_callB call_len_seq (by rfl) T.b_len (by decide +kernel) (pa_cons (pv 5) pa_nil)) pa_nil))) (fun _ _ => rfl)))
      (pss_cons (ps_expr (pe_remX rfl takes0 (pv 4) (pv 6)))
      (pss_one (ps_expr (pe_bm PySem.F.plainAttrs_list PySem.F.slot_list_append PySem.F.type_list_append mt_append (pv 3) (pa_cons (pv 6) pa_nil))))))))
      (pss_one (ps_ret (pv 3)))))))), ?_⟩
    clear hr
    refine ⟨_, rfl, a, _, 0, _, rfl, rfl, SqT.of N.top, at0, _, rfl, RgOk.of_le (by omega) (by omega) (by omega) (by omega), fun L nL => ?_⟩
    rw [rg_zero]
    have s1 := Same.new (o := .lst ((List.range n.many).map nV)) nL
    have hL1 : upd H L (.lst ((List.range n.many).map nV)) L = some (.lst ((List.range n.many).map nV)) := upd_same
    generalize upd H L (.lst ((List.range n.many).map nV)) = H1 at s1 hL1 ⊢
    refine ⟨small 0, fun O nO => ?_⟩
    have s2 := s1.trans (Same.new (o := .lst []) nO)
    have hL2 := (Same.new (o := .lst []) nO) _ _ hL1
    have hO2 : upd H1 O (.lst []) O = some (.lst []) := upd_same
    have nO0 : H O = none := Same.was s1 nO
    have LO : L ≠ O := fun z => by rw [← z, hL1] at nO; cases nO
    generalize upd H1 O (.lst []) = H2 at s2 hL2 hO2 ⊢
    have Woff : ∀ {b : Addr}, H b = none → b ≠ W := fun h z => by
      obtain ⟨_, _, _, e⟩ := hW
      rw [← z, h] at e
      cases e
    refine while_at (fun σ H' => ∃ (ls os : List Nat) (x4 x5 x6 x7 : Option V), σ = [some (.ref W), some (.ref a), some (.ref L), some (.ref O), x4, x5, x6, x7] ∧ Wk W H H' ∧ H' L = some (.lst (ls.map nV)) ∧ H' O = some (.lst (os.map nV)) ∧ ls.Nodup ∧ os.Nodup ∧ (∀ x ∈ ls, x < n.many ∧ x ∉ os) ∧ (∀ x ∈ os, x < n.many) ∧ ls.length + os.length = n.many) (fun σ H' => lenOf σ H' 2) ⟨List.range n.many, [], _, _, _, _, rfl, ⟨hW.same s2, Same.keep s2⟩, hL2, hO2, List.nodup_range, List.nodup_nil, fun x hx => ⟨List.mem_range.mp hx, List.not_mem_nil⟩, fun x hx => (by cases hx), by rw [List.length_range]; rfl⟩ ?_
    rintro σ H3 ⟨ls, os, x4, x5, x6, x7, rfl, k3, hL3, hO3, nl, no, lm, om, len⟩
    have emu : lenOf [some (.ref W), some (.ref a), some (.ref L), some (.ref O), x4, x5, x6, x7] H3 2 = ls.length := by
      show (match H3 L with | some (HO.lst xs) => xs.length | _ => 0) = _
      rw [hL3]
      exact List.length_map _
    rw [emu]
    refine ⟨_, rfl, small 0, fun z nz => ?_⟩
    have k4 := k3.same (Same.new (o := .lst []) nz)
    have hL4 := (Same.new (o := .lst []) nz) _ _ hL3
    have hO4 := (Same.new (o := .lst []) nz) _ _ hO3
    refine ⟨L, z, _, rfl, rfl, .inr ⟨SqL.of hL4, SqL.of upd_same⟩, _, rfl, ?_⟩
    generalize upd H3 z (.lst []) = H4 at k4 hL4 hO4 ⊢
    have el : (!decide ((ls.map nV).length = 0)) = !decide (ls.length = 0) := by rw [List.length_map]
    rw [el]
    refine ite2 (fun h => ?_) (fun h => ?_)
    · have lp : 0 < ls.length := Nat.pos_of_ne_zero fun z => by rw [decide_eq_true z] at h; cases h
      refine ⟨_, whN, ?_⟩
      refine ⟨_, rfl, .inl ⟨rfl, _, SqL.of hO4⟩, ?_⟩
      refine ⟨_, rfl, .inl ⟨rfl, _, SqL.of hL4⟩, ?_⟩
      refine ⟨_, rfl, _, rfl, L, _, rfl, .inl (SqL.of hL4), W, _, rfl, k4.wl, ?_, ?_, fun d H5 d0 d1 w5 k5 => ?_⟩
      · rw [List.length_map]; omega
      · rw [List.length_map]; omega
      have hL5 := k5 _ _ hL4 fun z => Woff nL (List.mem_singleton.mp z)
      have hO5 := k5 _ _ hO4 fun z => Woff nO0 (List.mem_singleton.mp z)
      have k05 := k4.nxt w5 k5
      rw [List.length_map] at d1
      obtain ⟨x, hx⟩ : ∃ x, ls[d.toNat]? = some x := ⟨_, List.getElem?_eq_getElem (by omega)⟩
      have hxm := List.mem_of_getElem? hx
      obtain ⟨e1, e2, e3⟩ := mem_erIdx nl hx
      refine ⟨L, ls.map nV, d, d.toNat, nV x, rfl, rfl, hL5, by omega, by omega, by rw [List.length_map]; exact seqIndex_of d0 d1, by rw [List.getElem?_map, hx]; rfl, ?_⟩
      have eE : (ls.map nV).eraseIdx d.toNat = (ls.eraseIdx d.toNat).map nV := er_map ls d.toNat
      rw [eE]
      have k06 := k05.put' (o := .lst ((ls.eraseIdx d.toNat).map nV)) nL (Woff nL)
      have hL6 : upd H5 L (.lst ((ls.eraseIdx d.toNat).map nV)) L = some (.lst ((ls.eraseIdx d.toNat).map nV)) := upd_same
      have hO6 : upd H5 L (.lst ((ls.eraseIdx d.toNat).map nV)) O = some (.lst (os.map nV)) := by rw [upd_ne LO.symm]; exact hO5
      generalize upd H5 L (.lst ((ls.eraseIdx d.toNat).map nV)) = H6 at k06 hL6 hO6 ⊢
      refine ⟨O, _, nV x, rfl, rfl, hO6, by rw [List.length_map]; exact small256 (by omega), ?_⟩
      refine ⟨⟨ls.eraseIdx d.toNat, os ++ [x], _, _, _, _, rfl, k06.put' nO0 (Woff nO0), by rw [upd_ne LO]; exact hL6, by rw [upd_same, List.map_append]; rfl, e1, ?_, fun y hy => ?_, fun y hy => ?_, by rw [List.length_append]; show _ + (os.length + 1) = _; omega⟩, ?_⟩
      · exact List.nodup_append.mpr ⟨no, List.nodup_cons.mpr ⟨by simp, List.nodup_nil⟩, fun a ha b hb e => by
          rw [List.mem_singleton.mp hb] at e
          exact (lm x hxm).2 (e ▸ ha)⟩
      · obtain ⟨y1, y2⟩ := (e2 y).mp hy
        exact ⟨(lm y y1).1, fun z => (List.mem_append.mp z).elim (lm y y1).2 fun z => y2 (List.mem_singleton.mp z)⟩
      · rcases List.mem_append.mp hy with hy | hy
        · exact om y hy
        · rw [List.mem_singleton.mp hy]; exact (lm x hxm).1
      · show (match upd H6 O (.lst (os.map nV ++ [nV x])) L with | some (HO.lst xs) => xs.length | _ => 0) < _
        rw [upd_ne LO, hL6]
        show ((ls.eraseIdx d.toNat).map nV).length < ls.length
        rw [List.length_map]
        omega
    have l0 : ls = [] := List.length_eq_zero_iff.mp (Classical.not_not.mp fun z => h (by rw [decide_eq_false z]; rfl))
    subst l0
    have ol : os.length = n.many := by have : 0 + os.length = n.many := len; omega
    have N4 := N.mono fun b xs e => hW.tup k4.kp e
    have W24 : n.many + n.gates.length ≤ 24 := by omega
    have gl : (ps.map V.ref).length = n.gates.length := by rw [List.length_map]; exact N.gs.1
    refine ⟨_, rfl, a, _, 0, _, rfl, rfl, SqT.of N4.top, at0, _, rfl, a, _, 0, _, rfl, rfl, SqT.of N4.top, at0, _, rfl, a, _, 1, _, rfl, rfl, SqT.of N4.top, at1, g, _, rfl, .inr (SqT.of N4.gt), _, _, rfl, rfl, _, _, rfl, rfl, RgOk.of_le (by omega) (by rw [gl]; omega) (by omega) (by rw [gl]; omega), fun G nG => ?_⟩
    rw [gl, rg_from]
    have s5 := Same.new (o := .lst (((List.range n.gates.length).map fun i => n.many + i).map nV)) nG
    have k5 := k4.same s5
    have hG5 : upd H4 G (.lst (((List.range n.gates.length).map fun i => n.many + i).map nV)) G = some (.lst (((List.range n.gates.length).map fun i => n.many + i).map nV)) := upd_same
    have hO5 := s5 _ _ hO4
    have GO : G ≠ O := fun z => by rw [z, hO4] at nG; cases nG
    obtain ⟨nG0, GW⟩ := k4.was' nG
    have gmem : ∀ x, x ∈ (List.range n.gates.length).map (fun i => n.many + i) ↔ (n.many ≤ x ∧ x < n.many + n.gates.length) := fun x => by
      rw [List.mem_map]
      constructor
      · rintro ⟨i, hi, rfl⟩
        have := List.mem_range.mp hi
        omega
      · rintro ⟨h1, h2⟩
        exact ⟨x - n.many, List.mem_range.mpr (by omega), by omega⟩
    have gnd : ((List.range n.gates.length).map fun i => n.many + i).Nodup := by
      rw [List.nodup_iff_pairwise_ne, List.pairwise_map]
      exact (List.pairwise_lt_range).imp fun h e => by omega
    have pre0 : PreO n os := ⟨no, by omega, fun x hx => by have := om x hx; omega, fun i hi => om _ (getD_mem (by omega)), fun i kk hi hl _ => by omega⟩
    have in0 : ∀ x, x < n.many → x ∈ os := fun x hx => full_mem no (ys := List.range n.many) (fun y hy => List.mem_range.mpr (om y hy)) (by rw [List.length_range]; omega) (List.mem_range.mpr hx)
    generalize upd H4 G (.lst (((List.range n.gates.length).map fun i => n.many + i).map nV)) = H5 at k5 hG5 hO5 ⊢
    refine while_at (fun σ H' => ∃ (gs os : List Nat) (x5 x6 x7 : Option V), σ = [some (.ref W), some (.ref a), some (.ref L), some (.ref O), some (.ref G), x5, x6, x7] ∧ Wk W H H' ∧ H' G = some (.lst (gs.map nV)) ∧ H' O = some (.lst (os.map nV)) ∧ gs.Nodup ∧ PreO n os ∧ (∀ x ∈ gs, n.many ≤ x ∧ x < n.many + n.gates.length ∧ x ∉ os) ∧ (∀ x, x < n.many + n.gates.length → (x ∈ os ∨ x ∈ gs)) ∧ gs.length + os.length = n.many + n.gates.length) (fun σ H' => lenOf σ H' 4) ⟨(List.range n.gates.length).map fun i => n.many + i, os, _, _, _, rfl, k5, hG5, hO5, gnd, pre0, fun x hx => ⟨((gmem x).mp hx).1, ((gmem x).mp hx).2, fun z => by have := om x z; have := ((gmem x).mp hx).1; omega⟩, fun x hx => ?_, by rw [List.length_map, List.length_range]; omega⟩ ?_
    · by_cases z : x < n.many
      · exact .inl (in0 x z)
      · exact .inr ((gmem x).mpr ⟨by omega, hx⟩)
    clear hL4 hO4 k4 emu el h hO5 hG5 k5 no lm om len ol pre0 in0 N4 s5
    rintro σ H3 ⟨gs, od, x5, x6, x7, rfl, k3, hG3, hO3, ng, pre, gm, all, len⟩
    have emu : lenOf [some (.ref W), some (.ref a), some (.ref L), some (.ref O), some (.ref G), x5, x6, x7] H3 4 = gs.length := by
      show (match H3 G with | some (HO.lst xs) => xs.length | _ => 0) = _
      rw [hG3]
      exact List.length_map _
    rw [emu]
    refine ⟨_, rfl, small 0, fun z nz => ?_⟩
    have k4 := k3.same (Same.new (o := .lst []) nz)
    have hG4 := (Same.new (o := .lst []) nz) _ _ hG3
    have hO4 := (Same.new (o := .lst []) nz) _ _ hO3
    refine ⟨G, z, _, rfl, rfl, .inr ⟨SqL.of hG4, SqL.of upd_same⟩, _, rfl, ?_⟩
    generalize upd H3 z (.lst []) = H4 at k4 hG4 hO4 ⊢
    have N4 := N.mono fun b xs e => hW.tup k4.kp e
    have el : (!decide ((gs.map nV).length = 0)) = !decide (gs.length = 0) := by rw [List.length_map]
    rw [el]
    refine ite2 (fun h => ?_) (fun h => ?_)
    · have gp : 0 < gs.length := Nat.pos_of_ne_zero fun z => by rw [decide_eq_true z] at h; cases h
      refine ⟨_, whN, ?_⟩
      refine ⟨_, rfl, G, rfl, ⟨_, SqL.of hG4⟩, fun M nM => ?_⟩
      refine lc_list (K := K) (a := G) (xs := gs.map nV) (fun i H' => Own H4 H' M (((gs.take i).filter (freeF n od)).map nV)) ⟨Same.new nM, upd_same, nM⟩ (fun i H' _ o' => SqL.of (o'.sm _ _ hG4)) ?_ ?_
      · rintro i x H6 hx o6
        have hi : i < gs.length := by
          have := (List.getElem?_eq_some_iff.mp hx).1
          rwa [List.length_map] at this
        rw [natAt hi] at hx
        cases hx
        have egi : gs.getD i 0 = gs[i] := by rw [List.getD_eq_getElem?_getD, List.getElem?_eq_getElem hi]; rfl
        have hgm := gm _ (getD_mem hi)
        obtain ⟨kk, hkk⟩ := gate_ex hgm.2.1 hgm.1
        have hil : gs.getD i 0 - n.many < ps.length := by rw [N.gs.1]; exact (List.getElem?_eq_some_iff.mp hkk).1
        have N6 := N4.same o6.sm
        have hp := N6.gs.2 _ _ _ (List.getElem?_eq_getElem hil) hkk
        have e1 : (ps.map V.ref)[gs.getD i 0 - n.many]? = some (.ref ps[gs.getD i 0 - n.many]) := by rw [List.getElem?_map, List.getElem?_eq_getElem hil]; rfl
        refine ⟨rfl, ?_⟩
        refine ⟨_, rfl, a, _, 1, _, rfl, rfl, SqT.of N6.top, at1, _, rfl, _, rfl, a, _, 0, _, rfl, rfl, SqT.of N6.top, at0, _, _, rfl, rfl, g, _, _, _, rfl, rfl, SqT.of N6.gt, (by rw [show (((gs.getD i 0 : Nat) : Int) - ((n.many : Nat) : Int)) = ((gs.getD i 0 - n.many : Nat) : Int) by omega]; exact atI_nat e1), ?_⟩
        refine ⟨_, rfl, ?_⟩
        unfold tNoPart
        refine slA_any rfl hp (ys := [kk.2.1, kk.2.2].map nV) (by rfl) fun p H7 s7 hp7 => ?_
        have hO7 := s7 _ _ (o6.sm _ _ hO4)
        refine ⟨p, rfl, ⟨_, SqT.of hp7⟩, fun D nD => ?_⟩
        refine lc_tup (K := K) (a := p) (xs := [kk.2.1, kk.2.2].map nV) (fun j H' => Own H7 H' D ((([kk.2.1, kk.2.2].take j).filter fun x => decide (x ∉ od)).map nV)) ⟨Same.new nD, upd_same, nD⟩ (fun _ H' _ o' => SqT.of (o'.sm _ _ hp7)) ?_ ?_
        · rintro j x H8 hx o8
          have hj : j < [kk.2.1, kk.2.2].length := by
            have := (List.getElem?_eq_some_iff.mp hx).1
            rwa [List.length_map] at this
          rw [natAt hj] at hx
          cases hx
          refine ⟨rfl, ?_⟩
          refine ⟨_, rfl, _, rfl, O, _, rfl, .inl (SqL.of (o8.sm _ _ hO7)), rfl, flat_ns od, _, rfl, ?_⟩
          have egj : [kk.2.1, kk.2.2].getD j 0 = [kk.2.1, kk.2.2][j] := by rw [List.getD_eq_getElem?_getD, List.getElem?_eq_getElem hj]; rfl
          rw [if_pos rfl, inV_n]
          by_cases z : [kk.2.1, kk.2.2].getD j 0 ∈ od
          · rw [decide_eq_true z]
            show Own H7 H8 D _
            rw [List.take_add_one, List.getElem?_eq_getElem hj, Option.toList_some, List.filter_append, List.filter_cons, if_neg (by rw [← egj, decide_eq_true_iff]; exact fun h => h z), List.filter_nil, List.append_nil]
            exact o8
          · rw [decide_eq_false z]
            refine ⟨_, rfl, _, o8.at_, ?_, ?_⟩
            · rw [List.length_map]
              have := List.length_filter_le (fun x => decide (x ∉ od)) ([kk.2.1, kk.2.2].take j)
              rw [List.length_take] at this
              have h2 : [kk.2.1, kk.2.2].length = 2 := rfl
              exact small256 (by omega)
            · rw [List.take_add_one, List.getElem?_eq_getElem hj, Option.toList_some, List.filter_append, List.filter_cons, if_pos (by rw [← egj, decide_eq_true_iff]; exact z), List.filter_nil, List.map_append, ← egj]
              exact o8.app
        rintro H8 o8
        rw [List.length_map, List.take_length] at o8
        refine ⟨small 0, fun z nz => ?_⟩
        have s9 := Same.new (o := .lst []) nz
        refine ⟨D, z, _, rfl, rfl, .inr ⟨SqL.of (s9 _ _ o8.at_), SqL.of upd_same⟩, _, rfl, ?_⟩
        have s69 := (s7.trans o8.sm).trans s9
        generalize upd H8 z (.lst []) = H9 at s69 ⊢
        have o9 : Own H4 H9 M (((gs.take i).filter (freeF n od)).map nV) := ⟨o6.sm.trans s69, s69 _ _ o6.at_, o6.nw⟩
        have ef : decide (((([kk.2.1, kk.2.2].filter fun x => decide (x ∉ od)).map nV)).length = 0) = freeF n od gs[i] := by
          rw [List.length_map, ← egi]
          unfold freeF
          rw [hkk]
          show _ = (decide (kk.2.1 ∈ od) && decide (kk.2.2 ∈ od))
          by_cases z1 : kk.2.1 ∈ od
          · by_cases z2 : kk.2.2 ∈ od
            · simp [z1, z2]
            · simp [z1, z2]
          · by_cases z2 : kk.2.2 ∈ od
            · simp [z1, z2]
            · simp [z1, z2]
        rw [ef]
        cases hf : freeF n od gs[i] with
        | true =>
          refine ⟨_, rfl, _, o9.at_, ?_, ?_⟩
          · rw [List.length_map]
            have := List.length_filter_le (freeF n od) (gs.take i)
            rw [List.length_take] at this
            exact small256 (by omega)
          · rw [List.take_add_one, List.getElem?_eq_getElem hi, Option.toList_some, List.filter_append, List.filter_cons, if_pos hf, List.filter_nil, List.map_append, ← egi]
            exact o9.app
        | false =>
          show Own H4 H9 M _
          rw [List.take_add_one, List.getElem?_eq_getElem hi, Option.toList_some, List.filter_append, List.filter_cons, if_neg (by rw [hf]; exact Bool.false_ne_true), List.filter_nil, List.append_nil]
          exact o9
      rintro H6 o6
      rw [List.length_map, List.take_length] at o6
      have frm : ∀ x, x ∈ gs.filter (freeF n od) ↔ (x ∈ gs ∧ freeF n od x = true) := fun x => List.mem_filter
      have fpos : 0 < (gs.filter (freeF n od)).length := by
        have ne : gs ≠ [] := fun z => by rw [z] at gp; cases gp
        obtain ⟨x, hx, hmin⟩ : ∃ x ∈ gs, ∀ y ∈ gs, x ≤ y := by
          cases e : gs.min? with
          | none => exact absurd (List.min?_eq_none_iff.mp e) ne
          | some m => exact ⟨m, List.min?_eq_some_iff.mp e⟩
        obtain ⟨h1, h2, _⟩ := gm x hx
        obtain ⟨kk, hkk⟩ := gate_ex h2 h1
        have pin : ∀ y, y < x → y ∈ od := fun y hy => (all y (by omega)).resolve_right fun z => by have := hmin y z; omega
        refine List.length_pos_of_mem ((frm x).mpr ⟨hx, ?_⟩)
        unfold freeF
        rw [hkk]
        show (decide (kk.2.1 ∈ od) && decide (kk.2.2 ∈ od)) = true
        rw [decide_eq_true (pin _ (place_lt ok h1 hkk (.inl rfl))), decide_eq_true (pin _ (place_lt ok h1 hkk (.inr rfl)))]
        rfl
      have fl := List.length_filter_le (freeF n od) gs
      generalize gs.filter (freeF n od) = fr at o6 frm fpos fl
      have k6 := k4.same o6.sm
      refine ⟨_, rfl, _, rfl, _, rfl, M, _, rfl, .inl (SqL.of o6.at_), W, _, rfl, k6.wl, by rw [List.length_map]; omega, by rw [List.length_map]; omega, fun d H7 d0 d1 w7 k7 => ?_⟩
      rw [List.length_map] at d1
      obtain ⟨nM0, MW⟩ := k4.was' nM
      have hM7 := Wk.ats k7 MW o6.at_
      have hG7 := Wk.ats k7 GW (o6.sm _ _ hG4)
      have hO7 := Wk.ats k7 (Woff nO0) (o6.sm _ _ hO4)
      have k07 := k6.nxt w7 k7
      obtain ⟨x, hx⟩ : ∃ x, fr[d.toNat]? = some x := ⟨_, List.getElem?_eq_getElem (by omega)⟩
      have hxm := (frm x).mp (List.mem_of_getElem? hx)
      refine ⟨M, _, d, nV x, rfl, rfl, SqL.of hM7, ?_, ?_⟩
      · rw [← Int.toNat_of_nonneg d0]
        refine atI_nat ?_
        rw [List.getElem?_map, hx]
        rfl
      refine ⟨_, rfl, .inl ⟨rfl, _, SqL.of hG7⟩, ?_⟩
      refine ⟨_, rfl, G, gs.map (fun n : Nat => (n : Int)), (x : Int), rfl, rfl, by rw [mapV]; exact hG7, fun _ => ?_, fun h => absurd (List.mem_map.mpr ⟨x, hxm.1, rfl⟩) h⟩
      rw [er_cast, mapV]
      have k08 := k07.put' (o := .lst ((gs.erase x).map nV)) nG0 GW
      have hG8 : upd H7 G (.lst ((gs.erase x).map nV)) G = some (.lst ((gs.erase x).map nV)) := upd_same
      have hO8 : upd H7 G (.lst ((gs.erase x).map nV)) O = some (.lst (od.map nV)) := by rw [upd_ne GO.symm]; exact hO7
      generalize upd H7 G (.lst ((gs.erase x).map nV)) = H8 at k08 hG8 hO8 ⊢
      obtain ⟨x1, x2, x3⟩ := gm x hxm.1
      obtain ⟨kk, hkk⟩ := gate_ex x2 x1
      have hfr := hxm.2
      unfold freeF at hfr
      rw [hkk] at hfr
      have hfr : (decide (kk.2.1 ∈ od) && decide (kk.2.2 ∈ od)) = true := hfr
      rw [Bool.and_eq_true, decide_eq_true_iff, decide_eq_true_iff] at hfr
      have elen := List.length_erase_of_mem hxm.1
      refine ⟨_, rfl, .inl ⟨rfl, _, SqL.of hO8⟩, ?_⟩
      refine ⟨_, rfl, O, _, nV x, rfl, rfl, hO8, by rw [List.length_map]; exact small256 (by omega), ?_⟩
      refine ⟨⟨gs.erase x, od ++ [x], _, _, _, rfl, k08.put' nO0 (Woff nO0), by rw [upd_ne GO]; exact hG8, by rw [upd_same, List.map_append]; rfl, ng.sublist List.erase_sublist, pre.push x2 x3 hkk hfr.1 hfr.2, fun y hy => ?_, fun y hy => ?_, by rw [List.length_append]; show _ + (od.length + 1) = _; omega⟩, ?_⟩
      · obtain ⟨y1, y2⟩ := (List.Nodup.mem_erase_iff ng).mp hy
        obtain ⟨z1, z2, z3⟩ := gm y y2
        exact ⟨z1, z2, fun z => (List.mem_append.mp z).elim z3 fun z => y1 (List.mem_singleton.mp z)⟩
      · by_cases e : y = x
        · exact .inl (List.mem_append_right _ (List.mem_singleton.mpr e))
        · rcases all y hy with h | h
          · exact .inl (List.mem_append_left _ h)
          · exact .inr ((List.Nodup.mem_erase_iff ng).mpr ⟨e, h⟩)
      · show (match upd H8 O (.lst (od.map nV ++ [nV x])) G with | some (HO.lst xs) => xs.length | _ => 0) < _
        rw [upd_ne GO, hG8]
        show ((gs.erase x).map nV).length < gs.length
        rw [List.length_map]
        omega
    · have l0 : gs.length = 0 := Classical.not_not.mp fun z => h (by rw [decide_eq_false z]; rfl)
      exact ⟨_, rfl, q O od H4 k4 hO4 ⟨pre.nd, by omega, pre.lt, pre.ins, pre.pl⟩ nO0⟩
end
end K87
set_option Elab.async false
set_option linter.all false
set_option maxRecDepth 100000
set_option maxHeartbeats 2000000
/-! x in range(a, b), x a whole number -/
namespace PySem
open Sem (wp)
end PySem
namespace L2
open PySem PySem.Spec PyProof.Rows
end L2
namespace GX
open PySem PySem.Spec PyProof.Rows L2
theorem pe_bmK {X : Cx} {K : PySem.W.Frag} {o e : Expr} {es : List Expr} {to : TE} {t : TA} {name : Str} {apos cpos : Pos} {T id : String} {r : V → List V → Hp → VK → Prop} (pa : PlainAttrs T) (slot : Slot T name id) (hty : typeOf (.builtin id) = pure (.type "method_descriptor")) (hm : MtR X id r) (ho : PE X o to) (ha : PA X (e :: es) t)
    (h : X.K = K := by rfl) (hbase : attributeBase o name X.env (eval o X.env) = eval o X.env := by rfl)
    (hfew : ((backTo cpos (starEach (e :: es) X.env)).all (fun x => !x.1) && (backToKw cpos (keywordEach [] X.env)).all (fun x => x.1.isSome)
      && decide ((e :: es).length + ([] : List Keyword).length + (if ([] : List Keyword).isEmpty then 0 else 1) < 30)) = true := by rfl)
    (hline : (apos.endLine == cpos.line) = true := by rfl) (hs : starEach (e :: es) X.env = (false, eval e X.env) :: starEach es X.env := by rfl) (hplain : (backTo cpos (starEach es X.env)).any (·.1) = false := by rfl) :
    PE X (.Call (.Attribute o name apos) (e :: es) [] cpos) (tBM K T r to t) := by
  subst h
  exact pe_bm pa slot hty hm ho ha hbase hfew hline hs hplain
theorem mt_indexK {X : Cx} {K : PySem.W.Frag} (h : X.K = K := by rfl) : MtR X "list.index" (rIndex K) := by subst h; exact mt_index
end GX
set_option Elab.async false
set_option linter.all false
set_option maxRecDepth 100000
set_option maxHeartbeats 4000000
namespace K87
open PySem PySem.Spec PyProof.Rows L2 GX
open C8 (Cal pe_c pe_gc Met Mak)
-- @exc NoDepth init=least
-- @sub NoDepth NoDepth true
-- @exc TooMany made
-- @alt cut_masks tup par=N,t[i],i vars=masks:DL,wire:i
section
variable {P : Program} {w : World} {K : PySem.W.Frag} {mg : Str → Option Value} {base : Heap} {Ts : List Addr}
theorem idx_le : ∀ (od : List Nat) (m : Nat) (h : m < od.length), od.idxOf od[m] ≤ m
  | y :: r, 0, _ => by
    show List.idxOf y (y :: r) ≤ 0
    rw [List.idxOf_cons_self]
    exact Nat.le_refl _
  | y :: r, m + 1, h => by
    show List.idxOf (r[m]'(Nat.lt_of_succ_lt_succ h)) (y :: r) ≤ m + 1
    by_cases e : y = r[m]'(Nat.lt_of_succ_lt_succ h)
    · rw [e, List.idxOf_cons_self]
      exact Nat.zero_le _
    · rw [List.idxOf_cons, show (y == r[m]'(Nat.lt_of_succ_lt_succ h)) = false from beq_eq_false_iff_ne.mpr e, cond_false]
      exact Nat.succ_le_succ (idx_le r m (Nat.lt_of_succ_lt_succ h))
theorem ix_nat {od : List Nat} {x : Nat} (hx : x ∈ od) : (od.map nV)[od.idxOf x]? = some (nV x) ∧ eqV (nV x) (nV x) = true ∧ ∀ (m : Nat) (z' : V), m < od.idxOf x → (od.map nV)[m]? = some z' → eqV z' (nV x) = false := by
  have hi := List.idxOf_lt_length_of_mem hx
  refine ⟨by rw [List.getElem?_map, List.getElem?_eq_getElem hi, List.getElem_idxOf hi]; rfl, ?_, fun m z' hm hz => ?_⟩
  · show (((x : Nat) : Int) == ((x : Nat) : Int)) = true
    rw [beq_iff_eq]
  · have hl : m < od.length := by omega
    rw [List.getElem?_map, List.getElem?_eq_getElem hl] at hz
    cases hz
    show (((od[m] : Nat) : Int) == ((x : Nat) : Int)) = false
    rw [beq_eq_false_iff_ne]
    intro e
    have e : od[m] = x := by omega
    have : od.idxOf x ≤ m := by
      rw [← e]
      exact idx_le od m hl
    omega
def spTurnd : Sp := fun vs H Q _ => ∃ (W a l : Addr) (n : Net) (g o : Addr) (ps : List Addr) (od : List Nat), vs = [.ref W, .ref a, .ref l] ∧ Wl H W ∧ NetAt H a n g o ps ∧ n.Ok ∧ H l = some (.lst (od.map nV)) ∧ OrdOk n od ∧ l ≠ W ∧
  ∀ a' n' g' o' ps' H', Wk W H H' → NetAt H' a' n' g' o' ps' → TurnOk n od n' → Q (.ref a') H'
theorem ok_turnd {f c : Addr} (D : Dfn K mg "_law_turned" s__law_turned f c) (T : Txt mg) (c__law_take : Cal P w K mg base 1 "_law_take" spTake []) : Cal P w K mg base 2 "_law_turned" spTurnd [] := by
  refine cal D (fun _ _ _ _ _ _ us hl => match us, hl with | [_, _, _], _ => rfl) sc__law_turned (fun vs H Q E h => ?_) (fun A outer s H vs Q E hr h => ?_)
  · obtain ⟨W, a, l, n, g, o, ps, od, rfl, _⟩ := h
    rfl
  · obtain ⟨W, a, l, n, g, o, ps, od, rfl, hW, N, ok, hl, ord, lW, q⟩ := h
    have m1 := ok.m1
    have m8 := ok.m8
    have g16 := ok.g16
    have ol := ord.len
    refine ⟨_, (pss_cons (ps_set (i := 3) sc__law_turned.nd rfl (by first | exact Or.inl rfl | exact Or.inr rfl) (pe_tup pa_nil))
      (pss_cons (ps_for PassesOwn.never rfl (pi_list (pe_slice sl_list (pv 2) (po_some (pe_ix ix_tup (pv 1) pe_int (fun _ _ => rfl))) po_none)) (pg_name (i := 4) sc__law_turned.nd rfl (by first | exact Or.inl rfl | exact Or.inr rfl))
        (pss_cons (ps_asg (pe_ix ix_tup (pe_ix ix_tup (pv 1) pe_int (fun _ _ => rfl)) (pe_op op_sub (pv 4) (pe_ix ix_tup (pv 1) pe_int (fun _ _ => rfl))) (fun _ _ => rfl)) (pg_tup rfl (pgs_cons (pg_name (i := 5) sc__law_turned.nd rfl (by first | exact Or.inl rfl | exact Or.inr rfl)) (pgs_cons (pg_name (i := 6) sc__law_turned.nd rfl (by first | exact Or.inl rfl | exact Or.inr rfl)) (pgs_cons (pg_name (i := 7) sc__law_turned.nd rfl (by first | exact Or.inl rfl | exact Or.inr rfl)) pgs_nil)))))
      (pss_cons (ps_set (i := 8) sc__law_turned.nd rfl (by first | exact Or.inl rfl | exact Or.inr rfl) (pe_tup (pa_cons (pv 5) (pa_cons (pe_bm PySem.F.plainAttrs_list PySem.F.slot_list_index PySem.F.type_list_index mt_index (pv 2) (pa_cons (pv 6) pa_nil)) (pa_cons (pe_bm PySem.F.plainAttrs_list PySem.F.slot_list_index PySem.F.type_list_index mt_index (pv 2) (pa_cons (pv 7) pa_nil)) pa_nil)))))
      (pss_cons (ps_if (pt_cmpR op_eq (pe_c c__law_take hr (by decide) (by rfl) (pa_cons (pv 0) (pa_cons pe_int pa_nil))) pe_int (nomark _)) (pss_one (ps_set (i := 8) sc__law_turned.nd rfl (by first | exact Or.inl rfl | exact Or.inr rfl) (pe_tup (pa_cons (pe_op op_add (pe_op op_add (pe_op op_add (pe_op op_mul (pe_op op_fdiv (pv 5) pe_int) pe_int) (pe_op op_mul (pe_op op_mod (pe_op op_fdiv (pv 5) pe_int) pe_int) pe_int)) (pe_op op_mul (pe_op op_mod (pe_op op_fdiv (pv 5) pe_int) pe_int) pe_int)) (pe_op op_mod (pv 5) pe_int)) (pa_cons (pe_ix ix_tup (pv 8) pe_int (fun _ _ => rfl)) (pa_cons (pe_ix ix_tup (pv 8) pe_int (fun _ _ => rfl)) pa_nil)))))) pss_nil)
      (pss_one (ps_set (i := 3) sc__law_turned.nd rfl (by first | exact Or.inl rfl | exact Or.inr rfl) (pe_op op_catA (pv 3) (pe_tup (pa_cons (pv 8) pa_nil)))))))))
      (pss_one (ps_ret (pe_tup (pa_cons (pe_ix ix_tup (pv 1) pe_int (fun _ _ => rfl)) (pa_cons (pv 3) (pa_cons (pe_callTy call_tuple_of (by rfl) T.b_tuple (by decide +kernel) (pa_cons (pe_lc (own := [("_law_wire", 4)]) (g := gName 4) (tt := tYes) rfl sc__law_turned.nd (pi_tup (pe_ix ix_tup (pv 1) pe_int (fun _ _ => rfl))) (blkOk_by (own := [("_law_wire", 4)]) (N := ["_law_well_here", "_law_net_here", "_law_order_here", "_law_made", "_law_wire", "_law_kind", "_law_one", "_law_other", "_law_gate"]) (sc := defScope s__law_turned) (by decide +kernel)) (fun _ _ _ _ _ => (pg_name (i := 4) sc__law_turned.nd rfl (by first | exact Or.inl rfl | exact Or.inr rfl))) (fun _ _ _ _ _ => pts_nil) (fun _ _ _ _ _ => (pe_bmK (K := K) PySem.F.plainAttrs_list PySem.F.slot_list_index PySem.F.type_list_index (mt_indexK (K := K)) (pv 2) (pa_cons (pv 4) pa_nil)))) pa_nil)) pa_nil)))))))), ?_⟩
    clear hr
    refine ⟨small 0, fun p0 np0 => ?_⟩
    have s1 := Same.new (o := .tup []) np0
    have hp1 : upd H p0 (.tup []) p0 = some (.tup []) := upd_same
    have k1 : Wk W H (upd H p0 (.tup [])) := ⟨hW.same s1, Same.keep s1⟩
    generalize upd H p0 (.tup []) = H1 at s1 hp1 k1 ⊢
    have N1 := N.same s1
    refine ⟨_, rfl, _, rfl, a, _, 0, _, rfl, rfl, SqT.of N1.top, at0, ?_⟩
    refine ⟨_, rfl, ?_⟩
    unfold tNoPart
    have hl1 := s1 _ _ hl
    refine ⟨l, od.map nV, rfl, SqL.of hl1, fun M nM => ?_⟩
    rw [show cutV (od.map nV) (some ((n.many : Nat) : Int)) none = (od.drop n.many).map nV by rw [cut_lo, List.map_drop]]
    have s2 := Same.new (o := .lst ((od.drop n.many).map nV)) nM
    have k2 := k1.same s2
    have hM2 : upd H1 M (.lst ((od.drop n.many).map nV)) M = some (.lst ((od.drop n.many).map nV)) := upd_same
    have hp2 := s2 _ _ hp1
    have hl2 := s2 _ _ hl1
    obtain ⟨nM0, MW⟩ := k1.was' nM
    generalize upd H1 M (.lst ((od.drop n.many).map nV)) = H2 at k2 hM2 hp2 hl2 ⊢
    refine ⟨M, rfl, ⟨_, SqL.of hM2⟩, ?_⟩
    refine for_list (K := K) (a := M) (xs := (od.drop n.many).map nV) (fun i σ H' => ∃ (x4 x5 x6 x7 x8 : Option V) (ga : Addr) (qs : List Addr) (gs : List (Nat × Nat × Nat)), σ = [some (.ref W), some (.ref a), some (.ref l), some (.ref ga), x4, x5, x6, x7, x8] ∧ Wk W H H' ∧ H' M = some (.lst ((od.drop n.many).map nV)) ∧ H' l = some (.lst (od.map nV)) ∧ H' ga = some (.tup (qs.map V.ref)) ∧ GatesAt H' qs gs ∧ gs.length = i ∧ ∀ j, j < i → ∃ kk sw, n.gates[od.getD (n.many + j) 0 - n.many]? = some kk ∧ gs[j]? = some (reG od kk sw)) ⟨_, _, _, _, _, p0, [], [], rfl, k2, hM2, hl2, hp2, GatesAt.nil _, rfl, fun j hj => absurd hj (Nat.not_lt_zero _)⟩ ?_ ?_ ?_
    · rintro i σ H' _ ⟨_, _, _, _, _, _, _, _, _, _, h, _⟩
      exact SqL.of h
    · rintro i x σ H3 hx ⟨x4, x5, x6, x7, x8, ga, qs, gs, rfl, k3, hM3, hl3, hga, hgs, gl, gt⟩
      have hi : i < (od.drop n.many).length := by
        have := (List.getElem?_eq_some_iff.mp hx).1
        rwa [List.length_map] at this
      rw [natAt hi] at hx
      cases hx
      rw [List.length_drop] at hi
      have ed : (od.drop n.many).getD i 0 = od.getD (n.many + i) 0 := by rw [List.getD_eq_getElem?_getD, List.getElem?_drop, List.getD_eq_getElem?_getD]
      rw [ed]
      generalize hx : od.getD (n.many + i) 0 = x
      have xm := ord.gates (i := n.many + i) (by omega) (by omega)
      have xl := ord.lt (od.getD (n.many + i) 0) (getD_mem (by omega))
      rw [hx] at xm xl
      obtain ⟨kk, hkk⟩ := gate_ex xl xm
      have l1 := place_lt ok xm hkk (.inl rfl)
      have l2 := place_lt ok xm hkk (.inr rfl)
      have N3 := N.mono fun b xs e => hW.tup k3.kp e
      have hil : x - n.many < ps.length := by rw [N.gs.1]; exact (List.getElem?_eq_some_iff.mp hkk).1
      have hp := N3.gs.2 _ _ _ (List.getElem?_eq_getElem hil) hkk
      have e1 : (ps.map V.ref)[x - n.many]? = some (.ref ps[x - n.many]) := by rw [List.getElem?_map, List.getElem?_eq_getElem hil]; rfl
      refine ⟨_, rfl, a, _, 1, _, rfl, rfl, SqT.of N3.top, at1, _, rfl, _, rfl, a, _, 0, _, rfl, rfl, SqT.of N3.top, at0, _, _, rfl, rfl, g, _, _, _, rfl, rfl, SqT.of N3.gt, (by rw [show (((x : Nat) : Int) - ((n.many : Nat) : Int)) = ((x - n.many : Nat) : Int) by omega]; exact atI_nat e1), ?_⟩
      refine ⟨_, _, rfl, SqT.of hp, rfl, _, _, rfl, _, _, rfl, _, _, rfl, rfl, ?_⟩
      refine ⟨_, rfl, _, rfl, .inl ⟨rfl, _, SqL.of hl3⟩, _, rfl, ?_⟩
      obtain ⟨i1, i2, i3⟩ := ix_nat (ord.all (x := kk.2.1) (by omega))
      refine ⟨l, _, _, _, _, rfl, rfl, SqL.of hl3, rfl, flat_ns od, i1, i2, i3, ?_⟩
      clear i1 i2 i3
      refine ⟨_, rfl, .inl ⟨rfl, _, SqL.of hl3⟩, _, rfl, ?_⟩
      obtain ⟨i1, i2, i3⟩ := ix_nat (ord.all (x := kk.2.2) (by omega))
      refine ⟨l, _, _, _, _, rfl, rfl, SqL.of hl3, rfl, flat_ns od, i1, i2, i3, ?_⟩
      clear i1 i2 i3
      refine ⟨small 3, fun q1 nq1 => ?_⟩
      have e4 := Same.new (o := .tup [nV kk.1, V.int ((od.idxOf kk.2.1 : Nat) : Int), V.int ((od.idxOf kk.2.2 : Nat) : Int)]) nq1
      have k4 := k3.same e4
      have hq4 : upd H3 q1 (.tup [nV kk.1, V.int ((od.idxOf kk.2.1 : Nat) : Int), V.int ((od.idxOf kk.2.2 : Nat) : Int)]) q1 = some (.tup (gV (reG od kk false))) := upd_same
      have hM4 := e4 _ _ hM3
      have hl4 := e4 _ _ hl3
      have hga4 := e4 _ _ hga
      have hgs4 := Same.gates e4 hgs
      generalize upd H3 q1 (.tup [nV kk.1, V.int ((od.idxOf kk.2.1 : Nat) : Int), V.int ((od.idxOf kk.2.2 : Nat) : Int)]) = H4 at k4 hq4 hM4 hl4 hga4 hgs4 ⊢
      with_reducible refine seq_cutG (fun σ H' => ∃ (sw : Bool) (q : Addr), σ = [some (.ref W), some (.ref a), some (.ref l), some (.ref ga), some (nV x), some (nV kk.1), some (nV kk.2.1), some (nV kk.2.2), some (.ref q)] ∧ Wk W H4 H' ∧ H' q = some (.tup (gV (reG od kk sw)))) (fun B hB => ?_) ?_
      · have D8 : (0 : Int) < 8 ∧ (8 : Int) < 1073741824 := by decide
        have D2 : (0 : Int) < 2 ∧ (2 : Int) < 1073741824 := by decide
        have D4 : (0 : Int) < 4 ∧ (4 : Int) < 1073741824 := by decide
        refine ⟨_, rfl, W, 2, rfl, k4.wl, by decide, by decide, fun d H5 d0 d1 w5 k5 => ⟨rfl, _, rfl, ite2 (fun h => ?_) (fun h => ?_)⟩⟩
        · have hq5 := k4.wl.tup k5 hq4
          refine ⟨_, rfl, _, _, rfl, rfl, D8, _, _, rfl, rfl, .inr ⟨by decide, by decide⟩, _, rfl, _, _, rfl, rfl, D2, _, _, rfl, rfl, D2.1, _, _, rfl, rfl, .inr ⟨by decide, by decide⟩, _, _, rfl, rfl, _, rfl, _, _, rfl, rfl, D4, _, _, rfl, rfl, D2.1, _, _, rfl, rfl, .inr ⟨by decide, by decide⟩, _, _, rfl, rfl, _, rfl, _, _, rfl, rfl, D2.1, _, _, rfl, rfl, ?_⟩
          refine ⟨_, rfl, q1, _, 2, _, rfl, rfl, SqT.of hq5, at2, _, rfl, q1, _, 1, _, rfl, rfl, SqT.of hq5, at1, small 3, fun q2 nq2 => ?_⟩
          refine hB _ _ ⟨true, q2, rfl, ⟨w5.same (Same.new nq2), k5.trans (Same.keep (Same.new nq2))⟩, ?_⟩
          rw [upd_same]
          have ek : (((kk.1 : Nat) : Int) / 8 * 8 + ((kk.1 : Nat) : Int) / 2 % 2 * 4 + ((kk.1 : Nat) : Int) / 4 % 2 * 2 + ((kk.1 : Nat) : Int) % 2) = ((swK kk.1 : Nat) : Int) := by
            unfold swK
            omega
          show some (HO.tup [V.int _, nV (od.idxOf kk.2.2), nV (od.idxOf kk.2.1)]) = some (HO.tup [V.int ((swK kk.1 : Nat) : Int), nV (od.idxOf kk.2.2), nV (od.idxOf kk.2.1)])
          rw [ek]
        · exact hB _ _ ⟨false, q1, rfl, ⟨w5, k5⟩, k4.wl.tup k5 hq4⟩
      rintro σ H5 ⟨sw, q2, rfl, k45, hq5⟩
      have k5 := k4.nxt k45.wl k45.kp
      have hM5 := Wk.ats k45.kp MW hM4
      have hl5 := Wk.ats k45.kp lW hl4
      have hga5 := k4.wl.tup k45.kp hga4
      have hgs5 := k4.wl.gates k45.kp hgs4
      refine ⟨_, rfl, _, rfl, small 1, fun q3 nq3 => ?_⟩
      have e6 := Same.new (o := .tup [.ref q2]) nq3
      refine catA_any rfl rfl (e6 _ _ hga5) upd_same (by rw [List.length_map, hgs5.1, gl]; show i + 1 ≤ sizeLine; exact small _ (by omega)) fun r H7 s7 hr => ?_
      have e57 := e6.trans s7
      refine ⟨_, _, _, _, _, r, qs ++ [q2], gs ++ [reG od kk sw], rfl, k5.same e57, e57 _ _ hM5, e57 _ _ hl5, by rw [List.map_append]; exact hr, (Same.gates e57 hgs5).push (e57 _ _ hq5), by rw [List.length_append, gl]; rfl, fun j hj => ?_⟩
      rcases Nat.lt_or_ge j i with h | h
      · obtain ⟨k0, s0, h1, h2⟩ := gt j h
        exact ⟨k0, s0, h1, by rw [List.getElem?_append_left (by omega)]; exact h2⟩
      · obtain rfl : j = i := by omega
        exact ⟨kk, sw, by rw [hx]; exact hkk, by rw [List.getElem?_append_right (by omega), gl, Nat.sub_self]; rfl⟩
    · rintro σ H3 ⟨x4, x5, x6, x7, x8, ga, qs, gs, rfl, k3, hM3, hl3, hga, hgs, gl, gt⟩
      have el : ((od.drop n.many).map nV).length = n.gates.length := by rw [List.length_map, List.length_drop]; omega
      rw [el] at gl gt
      have N3 := N.mono fun b xs e => hW.tup k3.kp e
      refine ⟨_, rfl, a, _, 0, _, rfl, rfl, SqT.of N3.top, at0, _, rfl, _, rfl, a, _, 2, _, rfl, rfl, SqT.of N3.top, at2, o, rfl, ⟨_, SqT.of N3.ot⟩, fun M2 nM2 => ?_⟩
      refine lc_tup (K := K) (a := o) (xs := n.outs.map nV) (fun j H' => Own H3 H' M2 (((n.outs.take j).map fun x => od.idxOf x).map nV)) ⟨Same.new nM2, upd_same, nM2⟩ (fun _ H' _ o' => SqT.of (o'.sm _ _ N3.ot)) ?_ ?_
      · rintro j x H4 hx o4
        have hj : j < n.outs.length := by
          have := (List.getElem?_eq_some_iff.mp hx).1
          rwa [List.length_map] at this
        rw [natAt hj] at hx
        cases hx
        have egj : n.outs.getD j 0 = n.outs[j] := by rw [List.getD_eq_getElem?_getD, List.getElem?_eq_getElem hj]; rfl
        have hl4 := o4.sm _ _ hl3
        refine ⟨rfl, ?_⟩
        unfold tYes
        refine iteT ?_
        refine ⟨_, rfl, .inl ⟨rfl, _, SqL.of hl4⟩, _, rfl, ?_⟩
        obtain ⟨i1, i2, i3⟩ := ix_nat (ord.all (x := n.outs.getD j 0) (ok.os _ (getD_mem hj)))
        refine ⟨l, _, _, _, _, rfl, rfl, SqL.of hl4, rfl, flat_ns od, i1, i2, i3, ?_⟩
        have o8 := ok.o8
        refine ⟨_, o4.at_, by rw [List.length_map, List.length_map, List.length_take]; exact small256 (by omega), ?_⟩
        rw [List.take_add_one, List.getElem?_eq_getElem hj, Option.toList_some, List.map_append, List.map_append, ← egj]
        exact o4.app
      rintro H4 o4
      rw [List.length_map, List.take_length] at o4
      refine ⟨M2, _, rfl, .inl ⟨SqL.of o4.at_, fun tp ntp => ⟨small 3, fun np nnp => ?_⟩⟩⟩
      have s5 := Same.new (o := .tup ((n.outs.map fun x => od.idxOf x).map nV)) ntp
      have htp := (Same.new (o := .tup [nV n.many, .ref ga, .ref tp]) nnp) _ _ (upd_same (H := H4) (a := tp) (o := .tup ((n.outs.map fun x => od.idxOf x).map nV)))
      have s6 := (o4.sm.trans s5).trans (Same.new (o := .tup [nV n.many, .ref ga, .ref tp]) nnp)
      exact q np ⟨n.many, gs, n.outs.map fun x => od.idxOf x⟩ ga tp qs _ (k3.same s6) ⟨upd_same, s6 _ _ hga, Same.gates s6 hgs, htp⟩ ⟨rfl, gl, gt, rfl⟩
end
end K87
set_option Elab.async false
set_option linter.all false
set_option maxRecDepth 100000
set_option maxHeartbeats 4000000
/-! sorted(t), t a tuple of ints. -/
namespace GX
open PySem PySem.Spec PyProof PyProof.Rows L2 Srt
open SrtO (swo_int ints_sortable ints_out list_sort_ord)
end GX
set_option Elab.async false
set_option linter.all false
/-! sorted() of a list of ints, within a comprehension. -/
namespace GX
open PySem PySem.Spec PyProof.Rows L2
theorem cr_sortedIK {X : Cx} {K : PySem.W.Frag} (h : X.K = K := by rfl) : CallR X (.builtin "sorted") (rSortedI K) := by subst h; exact cr_sortedI
theorem call_tuple_ofK {X : Cx} {K : PySem.W.Frag} (h : X.K = K := by rfl) : CallR X (.type "tuple") (fun xs H Q => ∃ p ys, xs = [V.ref p] ∧ ((SqL K H p ys ∧ ∀ (l : Addr), H l = none → Q (V.ref l) (upd H l (HO.tup ys))) ∨ SqT K H p ys ∧ Q (V.ref p) H)) := by subst h; exact call_tuple_of
end GX
set_option Elab.async false
set_option linter.all false
set_option maxRecDepth 100000
set_option maxHeartbeats 4000000
namespace K87
open PySem PySem.Spec PyProof.Rows L2 GX
open C8 (Cal pe_c pe_gc Met Mak)
-- @exc NoDepth init=least
-- @sub NoDepth NoDepth true
-- @exc TooMany made
-- @alt cut_masks tup par=N,t[i],i vars=masks:DL,wire:i
section
variable {P : Program} {w : World} {K : PySem.W.Frag} {mg : Str → Option Value} {base : Heap} {Ts : List Addr}
theorem tyesC {σ : L2.St} {H : Hp} {A B : Hp → Prop} (h : A H) : tYes σ H fun b H3 => if b = true then A H3 else B H3 := by
  unfold tYes
  exact iteT h
theorem img_sorted {od c : List Nat} (hc : c.Pairwise (· < ·) ∧ ∀ x ∈ c, x ∈ od) {ys : List Int} (pm : ys.Perm ((c.map fun x => od.idxOf x).map fun n : Nat => (n : Int))) (srt : ys.Pairwise (· ≤ ·)) : ys = (imgN (fun x => od.idxOf x) c).map fun n : Nat => (n : Int) := by
  have nd : (c.map fun x => od.idxOf x).Nodup := by
    rw [List.nodup_iff_pairwise_ne, List.pairwise_map]
    refine List.Pairwise.imp_of_mem (fun {a b} ha hb lt e => ?_) hc.1
    have h1 := List.getElem_idxOf (List.idxOf_lt_length_of_mem (hc.2 a ha))
    have h2 := List.getElem_idxOf (List.idxOf_lt_length_of_mem (hc.2 b hb))
    have : od[od.idxOf a]'(List.idxOf_lt_length_of_mem (hc.2 a ha)) = od[od.idxOf b]'(List.idxOf_lt_length_of_mem (hc.2 b hb)) := by congr 1
    rw [h1, h2] at this
    omega
  obtain ⟨xs, rfl, xpm, xs'⟩ := sorted_nat nd pm srt
  congr 1
  refine rise_eq xs' (img_rise _ _) fun z => ?_
  rw [xpm.mem_iff, List.mem_map, mem_img]
def spCald : Sp := fun vs H Q _ => ∃ (a l : Addr) (qs : List Addr) (cs : List (List Nat)) (od : List Nat), vs = [.ref a, .ref l] ∧ H a = some (.tup (qs.map V.ref)) ∧ TupsAt H qs cs ∧ H l = some (.lst (od.map nV)) ∧ (∀ c ∈ cs, 0 < c.length ∧ c.Pairwise (· < ·) ∧ ∀ x ∈ c, x ∈ od) ∧ od.Nodup ∧ cs.length < sizeLine ∧ od.length < 60 ∧
  ∀ r rs ds H', Same H H' → H' r = some (.tup (rs.map V.ref)) → TupsAt H' rs ds → ds.Perm (cs.map (imgN fun x => od.idxOf x)) → ds.Pairwise (fun a b => lexN b a = false) → Q (.ref r) H'
theorem ok_cald {f c : Addr} (D : Dfn K mg "_law_called" s__law_called f c) (T : Txt mg) : Cal P w K mg base 1 "_law_called" spCald [] := by
  refine cal D (fun _ _ _ _ _ _ us hl => match us, hl with | [_, _], _ => rfl) sc__law_called (fun vs H Q E h => ?_) (fun A outer s H vs Q E hr h => ?_)
  · obtain ⟨a, l, qs, cs, od, rfl, _⟩ := h
    rfl
  · obtain ⟨a, l, qs, cs, od, rfl, ha, tq, hl, hc, nd, cl, ol, q⟩ := h
    refine ⟨_, (pss_one (ps_ret (pe_callTy call_tuple_of (by rfl) T.b_tuple (by decide +kernel) (pa_cons (pe_callB cr_sortTup (by rfl) T.b_sorted (by decide +kernel) (pa_cons (pe_lc (own := [("_law_cut", 3)]) (g := gName 3) (tt := tYes) rfl sc__law_called.nd (pi_tup (pv 0)) (blkOk_by (own := [("_law_cut", 3)]) (N := ["_law_cuts", "_law_order_here", "_law_wire", "_law_cut"]) (sc := defScope s__law_called) (by decide +kernel)) (fun _ _ _ _ _ => (pg_name (i := 3) sc__law_called.nd rfl (by first | exact Or.inl rfl | exact Or.inr rfl))) (fun _ _ _ _ _ => pts_nil) (fun _ _ _ _ _ => (pe_callTy (call_tuple_ofK (K := K)) (by rfl) T.b_tuple (by decide +kernel) (pa_cons (pe_callB (cr_sortedIK (K := K)) (by rfl) T.b_sorted (by decide +kernel) (pa_cons (pe_lc (own := [("_law_wire", 2)]) (g := gName 2) (tt := tYes) rfl sc__law_called.nd (pi_tupK (K := K) (pv 3)) (blkOk_by (own := [("_law_wire", 2)]) (by rfl)) (fun _ _ _ _ _ => (pg_name (i := 2) sc__law_called.nd rfl (by first | exact Or.inl rfl | exact Or.inr rfl))) (fun _ _ _ _ _ => pts_nil) (fun _ _ _ _ _ => (pe_bmK (K := K) PySem.F.plainAttrs_list PySem.F.slot_list_index PySem.F.type_list_index (mt_indexK (K := K)) (pv 1) (pa_cons (pv 2) pa_nil)))) pa_nil)) pa_nil)))) pa_nil)) pa_nil)))), ?_⟩
    clear hr
    refine ⟨_, rfl, a, rfl, ⟨_, SqT.of ha⟩, fun M nM => ?_⟩
    refine lc_tup (K := K) (a := a) (xs := qs.map V.ref) (fun i H' => ∃ us : List Addr, Own H H' M (us.map V.ref) ∧ TupsAt H' us ((cs.take i).map (imgN fun x => od.idxOf x))) ⟨[], ⟨Same.new nM, upd_same, nM⟩, RefsAt.nil _ _⟩ (fun i H' _ ⟨_, o', _⟩ => SqT.of (o'.sm _ _ ha)) ?_ ?_
    · rintro i x H1 hx ⟨us, o1, t1⟩
      obtain ⟨t, ct, rfl, hct, ht⟩ := tq.at_ hx
      obtain ⟨c0, cr, co⟩ := hc ct (List.mem_of_getElem? hct)
      have hil : i < cs.length := (List.getElem?_eq_some_iff.mp hct).1
      refine ⟨rfl, ?_⟩
      refine tyesC ?_
      refine ⟨_, rfl, t, rfl, ⟨_, SqT.of (o1.sm _ _ ht)⟩, fun M2 nM2 => ?_⟩
      refine lc_tup (K := K) (a := t) (xs := ct.map nV) (fun j H' => Own H1 H' M2 (((ct.take j).map fun x => od.idxOf x).map nV)) ⟨Same.new nM2, upd_same, nM2⟩ (fun _ H' _ o' => SqT.of (o'.sm _ _ (o1.sm _ _ ht))) ?_ ?_
      · rintro j x H4 hx o4
        have hj : j < ct.length := by
          have := (List.getElem?_eq_some_iff.mp hx).1
          rwa [List.length_map] at this
        rw [natAt hj] at hx
        cases hx
        have egj : ct.getD j 0 = ct[j] := by rw [List.getD_eq_getElem?_getD, List.getElem?_eq_getElem hj]; rfl
        have hl4 := o4.sm _ _ (o1.sm _ _ hl)
        refine ⟨rfl, ?_⟩
        unfold tYes
        refine iteT ?_
        refine ⟨_, rfl, .inl ⟨rfl, _, SqL.of hl4⟩, _, rfl, ?_⟩
        obtain ⟨i1, i2, i3⟩ := ix_nat (co _ (getD_mem hj))
        refine ⟨l, _, _, _, _, rfl, rfl, SqL.of hl4, rfl, flat_ns od, i1, i2, i3, ?_⟩
        have ctl := nodup_len (xs := ct) (ys := od) (cr.imp fun h => Nat.ne_of_lt h) co
        refine ⟨_, o4.at_, by rw [List.length_map, List.length_map, List.length_take]; exact small256 (by omega), ?_⟩
        rw [List.take_add_one, List.getElem?_eq_getElem hj, Option.toList_some, List.map_append, List.map_append, ← egj]
        exact o4.app
      rintro H4 o4
      rw [List.length_map, List.take_length] at o4
      refine ⟨M2, (ct.map fun x => od.idxOf x).map (fun n : Nat => (n : Int)), rfl, by rw [mapV]; exact SqL.of o4.at_, fun ys p pm srt np => ?_⟩
      rw [img_sorted ⟨cr, co⟩ pm srt, mapV]
      have s5 := Same.new (o := .lst ((imgN (fun x => od.idxOf x) ct).map nV)) np
      have hp5 : upd H4 p (.lst ((imgN (fun x => od.idxOf x) ct).map nV)) p = some (.lst ((imgN (fun x => od.idxOf x) ct).map nV)) := upd_same
      generalize upd H4 p (.lst ((imgN (fun x => od.idxOf x) ct).map nV)) = H5 at s5 hp5 ⊢
      refine ⟨p, _, rfl, .inl ⟨SqL.of hp5, fun tp ntp => ?_⟩⟩
      have s15 := (o4.sm.trans s5).trans (Same.new (o := .tup ((imgN (fun x => od.idxOf x) ct).map nV)) ntp)
      have htp : upd H5 tp (.tup ((imgN (fun x => od.idxOf x) ct).map nV)) tp = some (.tup ((imgN (fun x => od.idxOf x) ct).map nV)) := upd_same
      generalize upd H5 tp (.tup ((imgN (fun x => od.idxOf x) ct).map nV)) = H6 at s15 htp ⊢
      have hM6 := s15 _ _ o1.at_
      refine ⟨_, hM6, by rw [List.length_map, t1.1, List.length_map, List.length_take]; exact Nat.lt_of_le_of_lt (Nat.min_le_right _ _) cl, us ++ [tp], ?_, ?_⟩
      · rw [List.map_append]
        exact Own.app ⟨o1.sm.trans s15, hM6, nM⟩
      · rw [List.take_add_one, hct, Option.toList_some, List.map_append]
        have up : ∀ b xs, H6 b = some (.tup xs) → upd H6 M (.lst (us.map V.ref ++ [V.ref tp])) b = some (.tup xs) := fun b xs e => by
          rw [upd_ne (fun z => by rw [z, hM6] at e; cases e)]
          exact e
        exact (t1.mono fun b xs e => up _ _ (s15 _ _ e)).push (y := imgN (fun x => od.idxOf x) ct) (up _ _ htp)
    · rintro H1 ⟨us, o1, t1⟩
      rw [List.length_map, tq.1, List.take_length] at t1
      refine ⟨M, us.map V.ref, fun x => (tupN H1 x).map fun n : Nat => (n : Int), rfl, SqL.of o1.at_, fun x hx => ?_, fun ys p srt pm np => ?_⟩
      · obtain ⟨t, c, rfl, hcm, ht⟩ := t1.all hx
        show (∃ t_1, V.ref t = V.ref t_1 ∧ H1 t_1 = some (.tup (((tupN H1 (.ref t)).map fun n : Nat => (n : Int)).map V.int))) ∧ (tupN H1 (.ref t)).map (fun n : Nat => (n : Int)) ≠ []
        rw [tupN_at ht]
        refine ⟨⟨t, rfl, by rw [mapV]; exact ht⟩, fun z => ?_⟩
        obtain ⟨c', hc', rfl⟩ := List.mem_map.mp hcm
        have := List.map_eq_nil_iff.mp z
        obtain ⟨y, hy⟩ := List.exists_mem_of_length_pos (hc c' hc').1
        have := (mem_img (p := fun x => od.idxOf x) (c := c')).mpr ⟨y, hy, rfl⟩
        simp_all
      obtain ⟨rs, ds, rfl, tR, dpm, dsrt⟩ := tups_sorted t1 srt pm
      have s2 := Same.new (o := .lst (rs.map V.ref)) np
      refine ⟨p, _, rfl, .inl ⟨SqL.of upd_same, fun tp ntp => ?_⟩⟩
      have s3 := (o1.sm.trans s2).trans (Same.new (o := .tup (rs.map V.ref)) ntp)
      exact q tp rs ds _ s3 upd_same (tR.mono fun b xs e => (Same.new ntp) _ _ (s2 _ _ e)) dpm dsrt
end
end K87
set_option Elab.async false
set_option linter.all false
set_option maxRecDepth 100000
set_option maxHeartbeats 4000000
/-! Needs: gates and the depths they have to keep, as dicts. -/
namespace GX
open PySem PySem.Spec PyProof.Rows L2
abbrev Nd := List (Nat × Int)
def kvI (ns : Nd) : List (L2.Key × V) := ns.map fun e => (nK e.1, V.int e.2)
def ndGet : Nd → Nat → Option Int
  | [], _ => none
  | e :: r, w => if e.1 = w then some e.2 else ndGet r w
def ndPut : Nd → Nat → Int → Nd
  | [], w, d => [(w, d)]
  | e :: r, w, d => if e.1 = w then (e.1, d) :: r else e :: ndPut r w d
def NdOk (ns : Nd) : Prop := (ns.map (·.1)).Nodup
theorem kvI_len (ns : Nd) : (kvI ns).length = ns.length := List.length_map _
theorem kvI_val : ∀ (ns : Nd) (w : Nat), valV (kvI ns) (nK w) = (ndGet ns w).map V.int
  | [], _ => rfl
  | e :: r, w => by
    unfold ndGet
    by_cases h : e.1 = w
    · rw [if_pos h]
      exact valV_pos (p := (nK e.1, V.int e.2)) (r := kvI r) (by rw [h])
    · rw [if_neg h, ← kvI_val r w]
      exact valV_neg (p := (nK e.1, V.int e.2)) (r := kvI r) fun z => h (nK_inj z)
theorem ndPut_keys : ∀ (ns : Nd) (w : Nat) (d : Int), (ndPut ns w d).map (·.1) = if w ∈ ns.map (·.1) then ns.map (·.1) else ns.map (·.1) ++ [w]
  | [], w, d => by rw [if_neg (by simp)]; rfl
  | e :: r, w, d => by
    unfold ndPut
    by_cases h : e.1 = w
    · rw [if_pos h, if_pos (by rw [← h]; exact List.mem_cons_self)]
      rfl
    · rw [if_neg h]
      show e.1 :: (ndPut r w d).map (·.1) = _
      rw [ndPut_keys r w d]
      show _ = if w ∈ e.1 :: r.map (·.1) then e.1 :: r.map (·.1) else e.1 :: r.map (·.1) ++ [w]
      by_cases h2 : w ∈ r.map (·.1)
      · rw [if_pos h2, if_pos (List.mem_cons_of_mem _ h2)]
      · rw [if_neg h2, if_neg fun z => by
          rcases List.mem_cons.mp z with z | z
          · exact h z.symm
          · exact h2 z]
        rfl
theorem NdOk.put {ns : Nd} (h : NdOk ns) (w : Nat) (d : Int) : NdOk (ndPut ns w d) := by
  unfold NdOk
  rw [ndPut_keys]
  split
  · exact h
  · rename_i hw
    refine List.nodup_append.mpr ⟨h, List.nodup_cons.mpr ⟨by simp, List.nodup_nil⟩, fun a ha b hb e => ?_⟩
    rw [List.mem_singleton.mp hb] at e
    exact hw (e ▸ ha)
theorem ndGet_put : ∀ (ns : Nd) (w : Nat) (d : Int) (x : Nat), ndGet (ndPut ns w d) x = if x = w then some d else ndGet ns x
  | [], w, d, x => by
    unfold ndPut
    show (if w = x then some d else none) = _
    by_cases h : x = w
    · rw [if_pos h, if_pos h.symm]
    · rw [if_neg h, if_neg fun z => h z.symm]
      rfl
  | e :: r, w, d, x => by
    unfold ndPut
    by_cases h : e.1 = w
    · rw [if_pos h]
      show (if e.1 = x then some d else ndGet r x) = if x = w then some d else if e.1 = x then some e.2 else ndGet r x
      by_cases hx : x = w
      · rw [if_pos hx, if_pos (h.trans hx.symm)]
      · rw [if_neg hx, if_neg (fun z => hx (z.symm.trans h)), if_neg (fun z => hx (z.symm.trans h))]
    · rw [if_neg h]
      show (if e.1 = x then some e.2 else ndGet (ndPut r w d) x) = if x = w then some d else if e.1 = x then some e.2 else ndGet r x
      rw [ndGet_put r w d x]
      by_cases hx : e.1 = x
      · rw [if_pos hx, if_pos hx, if_neg fun z => h (hx.trans z)]
      · rw [if_neg hx, if_neg hx]
theorem ndGet_none {ns : Nd} {w : Nat} : ndGet ns w = none ↔ w ∉ ns.map (·.1) := by
  induction ns with
  | nil => exact ⟨fun _ z => (by cases z), fun _ => rfl⟩
  | cons e r ih =>
    unfold ndGet
    by_cases h : e.1 = w
    · rw [if_pos h]
      exact ⟨fun z => (by cases z), fun z => absurd (show w ∈ (e :: r).map (·.1) from h ▸ List.mem_cons_self) z⟩
    · rw [if_neg h, ih]
      exact ⟨fun z y => by
        rcases List.mem_cons.mp y with y | y
        · exact h y.symm
        · exact z y, fun z y => z (List.mem_cons_of_mem _ y)⟩
theorem ndGet_some {ns : Nd} {w : Nat} (h : w ∈ ns.map (·.1)) : ∃ d, ndGet ns w = some d := by
  cases e : ndGet ns w with
  | none => exact absurd h (ndGet_none.mp e)
  | some d => exact ⟨d, rfl⟩
theorem ndGet_mem {ns : Nd} {w : Nat} {d : Int} (h : ndGet ns w = some d) : w ∈ ns.map (·.1) := Classical.not_not.mp fun z => by
  rw [ndGet_none.mpr z] at h
  cases h
theorem kvI_put {ns : Nd} (ok : NdOk ns) (w : Nat) (d : Int) : putK (kvI ns) (nK w) (.int d) = kvI (ndPut ns w d) := by
  induction ns with
  | nil => rfl
  | cons e r ih =>
    have okr : NdOk r := (List.nodup_cons.mp ok).2
    have hn : e.1 ∉ r.map (·.1) := (List.nodup_cons.mp ok).1
    have ih := ih okr
    unfold putK at ih ⊢
    unfold ndPut
    by_cases h : e.1 = w
    · rw [if_pos h, if_pos]
      · show (if nK e.1 = nK w then (nK e.1, V.int d) else (nK e.1, V.int e.2)) :: _ = (nK e.1, V.int d) :: kvI r
        rw [if_pos (show nK e.1 = nK w by rw [h])]
        congr 1
        refine (List.map_congr_left fun kv hkv => ?_).trans (List.map_id _)
        rw [if_neg fun z => ?_]
        · rfl
        · obtain ⟨x, hx, rfl⟩ := List.mem_map.mp hkv
          rw [h, ← nK_inj (show nK x.1 = nK w from z)] at hn
          exact hn (List.mem_map.mpr ⟨x, hx, rfl⟩)
      · show (decide (nK e.1 = nK w) || _) = true
        rw [decide_eq_true (by rw [h])]
        rfl
    · rw [if_neg h]
      have hk : ¬ nK e.1 = nK w := fun z => h (nK_inj z)
      have ha : ((kvI (e :: r)).any fun kv => decide (kv.1 = nK w)) = (kvI r).any fun kv => decide (kv.1 = nK w) := by
        show (decide (nK e.1 = nK w) || _) = _
        rw [decide_eq_false hk]
        rfl
      rw [ha]
      show (if _ then (if nK e.1 = nK w then _ else (nK e.1, V.int e.2)) :: List.map _ (kvI r) else (nK e.1, V.int e.2) :: kvI r ++ _) = (nK e.1, V.int e.2) :: kvI (ndPut r w d)
      rw [if_neg hk, ← ih]
      split <;> rfl
/-- what the outs need -/
def firstN (n : Net) (d : Int) : Nd := (n.outs.filter fun o => decide (n.many ≤ o)).foldl (fun acc o => ndPut acc o d) []
/-- the greatest gate below -/
def nextG (ns : Nd) (b : Nat) : Option Nat := ((ns.map (·.1)).filter fun g => decide (g < b)).max?
/-- cuts that keep a depth -/
def fitC (ds : List Nat) (cs : List (List Nat)) (d : Int) : List (List Nat) := cs.filter fun c => decide (((maxL (c.map fun x => ds.getD x 0) : Nat) : Int) < d)
def minI (i j : Int) : Int := if j < i then j else i
/-- the needs when a gate is led so -/
def thenN (many : Nat) (ns : Nd) (g : Nat) (c : List Nat) : Nd := c.foldl (fun acc w => if many ≤ w then ndPut acc w (minI ((ndGet ns g).getD 0 - 1) ((ndGet acc w).getD ((ndGet ns g).getD 0 - 1))) else acc) ns
theorem NdOk.fold {α : Type} {f : Nd → α → Nd} (hf : ∀ acc x, NdOk acc → NdOk (f acc x)) : ∀ {l : List α} {ns : Nd}, NdOk ns → NdOk (l.foldl f ns)
  | [], _, h => h
  | x :: l, ns, h => NdOk.fold hf (l := l) (hf ns x h)
theorem firstN_ok (n : Net) (d : Int) : NdOk (firstN n d) := NdOk.fold (fun acc x h => h.put _ _) List.nodup_nil
theorem thenN_step {many : Nat} {by_ : Int} {acc : Nd} {w : Nat} (h : NdOk acc) : NdOk (if many ≤ w then ndPut acc w (minI by_ ((ndGet acc w).getD by_)) else acc) := by
  split
  · exact h.put _ _
  · exact h
theorem thenN_ok {many : Nat} {ns : Nd} {g : Nat} {c : List Nat} (h : NdOk ns) : NdOk (thenN many ns g c) := NdOk.fold (fun acc x h => thenN_step h) h
theorem nextG_some {ns : Nd} {b g : Nat} (h : nextG ns b = some g) : g ∈ ns.map (·.1) ∧ g < b ∧ ∀ x ∈ ns.map (·.1), x < b → x ≤ g := by
  obtain ⟨h1, h2⟩ := List.max?_eq_some_iff.mp h
  obtain ⟨h3, h4⟩ := List.mem_filter.mp h1
  exact ⟨h3, of_decide_eq_true h4, fun x hx hb => h2 x (List.mem_filter.mpr ⟨hx, decide_eq_true hb⟩)⟩
theorem nextG_none {ns : Nd} {b : Nat} : nextG ns b = none ↔ ((ns.map (·.1)).filter fun g => decide (g < b)) = [] := List.max?_eq_none_iff
theorem nextG_eq {ns : Nd} {b g : Nat} (h1 : g ∈ (ns.map (·.1)).filter fun g => decide (g < b)) (h2 : ∀ x ∈ (ns.map (·.1)).filter fun g => decide (g < b), x ≤ g) : nextG ns b = some g := List.max?_eq_some_iff.mpr ⟨h1, h2⟩
end GX
set_option Elab.async false
set_option linter.all false
set_option maxRecDepth 100000
set_option maxHeartbeats 4000000
namespace K87
open PySem PySem.Spec PyProof.Rows L2 GX
open C8 (Cal pe_c pe_gc Met Mak)
-- @exc NoDepth init=least
-- @sub NoDepth NoDepth true
-- @exc TooMany made
-- @alt cut_masks tup par=N,t[i],i vars=masks:DL,wire:i
section
variable {P : Program} {w : World} {K : PySem.W.Frag} {mg : Str → Option Value} {base : Heap} {Ts : List Addr}
def spWires : Sp := fun vs H Q _ => ∃ (a : Addr) (n : Net) (g o : Addr) (ps : List Addr), vs = [.ref a] ∧ NetAt H a n g o ps ∧ Q (nV (n.many + n.gates.length)) H
theorem ok_wires {f c : Addr} (D : Dfn K mg "wires_in" s_wires_in f c) (T : Txt mg) : Cal P w K mg base 1 "wires_in" spWires [] := by
  refine cal D (fun _ _ _ _ _ _ us hl => match us, hl with | [_], _ => rfl) sc_wires_in (fun vs H Q E h => ?_) (fun A outer s H vs Q E hr h => ?_)
  · obtain ⟨a, n, g, o, ps, rfl, _⟩ := h
    rfl
  · obtain ⟨a, n, g, o, ps, rfl, N, q⟩ := h
    refine ⟨_, (pss_one (ps_ret (pe_op op_add (pe_ix ix_tup (pv 0) pe_int (fun _ _ => rfl)) (pe_callB call_len_seq (by rfl) T.b_len (by decide +kernel) (pa_cons (pe_ix ix_tup (pv 0) pe_int (fun _ _ => rfl)) pa_nil))))), ?_⟩
    refine ⟨_, rfl, a, _, 0, _, rfl, rfl, SqT.of N.top, at0, _, rfl, a, _, 1, _, rfl, rfl, SqT.of N.top, at1, g, _, rfl, .inr (SqT.of N.gt), _, _, rfl, rfl, ?_⟩
    have e : (V.int ((n.many : Int) + ((ps.map V.ref).length : Int))) = nV (n.many + n.gates.length) := by
      rw [List.length_map, N.gs.1]
      rfl
    show Q (V.int ((n.many : Int) + ((ps.map V.ref).length : Int))) H
    rw [e]
    exact q
def spPlaces : Sp := fun vs H Q _ => ∃ (a : Addr) (n : Net) (g o : Addr) (ps : List Addr) (x : Nat) (k : Nat × Nat × Nat), vs = [.ref a, nV x] ∧ NetAt H a n g o ps ∧ n.many ≤ x ∧ n.gates[x - n.many]? = some k ∧ ∀ p, H p = none → Q (.ref p) (upd H p (.tup [nV k.2.1, nV k.2.2]))
theorem ok_places {f c : Addr} (D : Dfn K mg "places" s_places f c) : Cal P w K mg base 1 "places" spPlaces [] := by
  refine cal D (fun _ _ _ _ _ _ us hl => match us, hl with | [_, _], _ => rfl) sc_places (fun vs H Q E h => ?_) (fun A outer s H vs Q E hr h => ?_)
  · obtain ⟨a, n, g, o, ps, x, k, rfl, _⟩ := h
    rfl
  · obtain ⟨a, n, g, o, ps, x, k, rfl, N, hx, hk, q⟩ := h
    refine ⟨_, (pss_cons (ps_asg (pe_ix ix_tup (pe_ix ix_tup (pv 0) pe_int (fun _ _ => rfl)) (pe_op op_sub (pv 1) (pe_ix ix_tup (pv 0) pe_int (fun _ _ => rfl))) (fun _ _ => rfl)) (pg_tup rfl (pgs_cons (pg_name (i := 2) sc_places.nd rfl (by first | exact Or.inl rfl | exact Or.inr rfl)) (pgs_cons (pg_name (i := 3) sc_places.nd rfl (by first | exact Or.inl rfl | exact Or.inr rfl)) (pgs_cons (pg_name (i := 4) sc_places.nd rfl (by first | exact Or.inl rfl | exact Or.inr rfl)) pgs_nil)))))
      (pss_one (ps_ret (pe_tup (pa_cons (pv 3) (pa_cons (pv 4) pa_nil)))))), ?_⟩
    have hil : x - n.many < ps.length := by rw [N.gs.1]; exact (List.getElem?_eq_some_iff.mp hk).1
    have hp := N.gs.2 _ _ _ (List.getElem?_eq_getElem hil) hk
    have e1 : (ps.map V.ref)[x - n.many]? = some (.ref ps[x - n.many]) := by rw [List.getElem?_map, List.getElem?_eq_getElem hil]; rfl
    refine ⟨_, rfl, a, _, 1, _, rfl, rfl, SqT.of N.top, at1, _, rfl, _, rfl, a, _, 0, _, rfl, rfl, SqT.of N.top, at0, _, _, rfl, rfl, g, _, _, _, rfl, rfl, SqT.of N.gt, (by rw [show (((x : Nat) : Int) - ((n.many : Nat) : Int)) = ((x - n.many : Nat) : Int) by omega]; exact atI_nat e1), ?_⟩
    refine ⟨_, _, rfl, SqT.of hp, rfl, _, _, rfl, _, _, rfl, _, _, rfl, rfl, ?_⟩
    exact ⟨_, rfl, _, rfl, small 2, fun p np => q p np⟩
end
section
variable {P : Program} {w : World} {K : PySem.W.Frag} {mg : Str → Option Value} {base : Heap} {Ts : List Addr}
theorem Own.same {H H1 H2 : Hp} {l : Addr} {xs : List V} (o : Own H H1 l xs) (s : Same H1 H2) : Own H H2 l xs := ⟨o.sm.trans s, s _ _ o.at_, o.nw⟩
theorem Own.put {H H' : Hp} {l : Addr} {xs ys : List V} (o : Own H H' l xs) : Own H (upd H' l (.lst ys)) l ys := ⟨fun b u e => by rw [upd_ne (ne_of_none e o.nw)]; exact o.sm b u e, upd_same, o.nw⟩
theorem map_set (ms : List Bool) (i : Nat) (b : Bool) : (ms.map V.bl).set i (.bl b) = (ms.set i b).map V.bl := List.map_set.symm
def spReached (Ts : List Addr) : Sp := fun vs H Q _ => ∃ (a : Addr) (n : Net) (g o : Addr) (ps : List Addr) (wr : Nat) (sa : Addr) (st : List Nat), vs = [.ref a, nV wr, .ref sa] ∧ NetAt H a n g o ps ∧ n.Ok ∧ wr < n.many + n.gates.length ∧ H sa = some (.tup (st.map nV)) ∧ Tabs Ts H ∧ ∀ p H' xs, Aft Ts H H' → H' p = some (.tup (xs.map nV)) → Rset n st wr xs → Q (.ref p) H'
theorem ok_reached {f c PR : Addr} (D : Dfn K mg "reached" s_reached f c) (T : Txt mg) (c_wires_in : Cal P w K mg base 1 "wires_in" spWires []) (c_places : Cal P w K mg base 1 "places" spPlaces []) (TB_reached : GxR.TabB base mg c PR) (hP : PR ∈ Ts) : Cal P w K mg base 2 "reached" (spReached Ts) [] := by
  refine cal D (fun _ _ _ _ _ _ us hl => match us, hl with | [_, _, _], _ => rfl) sc_reached (fun vs H Q E h => ?_) (fun A outer s H vs Q E hr h => ?_)
  · obtain ⟨a, n, g, o, ps, wr, sa, st, rfl, _⟩ := h
    rfl
  · obtain ⟨a, n, g, o, ps, wr, sa, st, rfl, N, ok, hw, hs, tb, q⟩ := h
    have m8 := ok.m8
    have g16 := ok.g16
    refine ⟨_, (pss_cons (ps_set (i := 3) sc_reached.nd rfl (by first | exact Or.inl rfl | exact Or.inr rfl) (pe_op op_rep (pe_lst (pa_cons pe_bl pa_nil)) (pe_c c_wires_in hr (by decide) (by rfl) (pa_cons (pv 0) pa_nil))))
      (pss_cons (ps_asg (pe_cmpR op_notIn_seq (pv 1) (pv 2) (by rfl)) (pg_sub (pv 3) (pv 1) set_list))
      (pss_cons (ps_for PassesOwn.never rfl (pi_range3 (by rfl) T.b_range (pa_cons (pv 1) (pa_cons (pe_op op_sub (pe_ix ix_tup (pv 0) pe_int (fun _ _ => rfl)) pe_int) (pa_cons (pe_un un_neg pe_int) pa_nil)))) (pg_name (i := 4) sc_reached.nd rfl (by first | exact Or.inl rfl | exact Or.inr rfl))
        (pss_one (ps_if (pt_val (pe_ix ix_list (pv 3) (pv 4) (fun _ _ => rfl))) (pss_one (ps_for PassesOwn.never rfl (pi_tup (pe_c c_places hr (by decide) (by rfl) (pa_cons (pv 0) (pa_cons (pv 4) pa_nil)))) (pg_name (i := 5) sc_reached.nd rfl (by first | exact Or.inl rfl | exact Or.inr rfl))
        (pss_one (ps_asg (pe_cmpR op_notIn_seq (pv 5) (pv 2) (by rfl)) (pg_sub (pv 3) (pv 5) set_list))))) pss_nil)))
      (pss_one (ps_ret (pe_tupG (own := [("at", 6), ("mark", 7)]) hr (by rfl) T.b_tuple TB_reached rfl (gxOk_by (N := ["net", "wire", "stops", "marks", "gate", "place", "at", "mark"]) (sc := defScope s_reached) (own := [("at", 6), ("mark", 7)]) (by decide +kernel)) sc_reached.nd (pi_enum (by rfl) T.b_enumerate (pa_cons (pv 3) pa_nil)) (fun _ _ _ _ => (pg_tupK (K := K) (n := 2) rfl rfl (pgs_cons (pg_name (i := 6) sc_reached.nd rfl (by first | exact Or.inl rfl | exact Or.inr rfl)) (pgs_cons (pg_name (i := 7) sc_reached.nd rfl (by first | exact Or.inl rfl | exact Or.inr rfl)) pgs_nil)))) (fun _ _ _ _ => (pts_one (pt_val (pv 7)))) (fun _ _ _ _ => (pv 6)))))))), ?_⟩
    refine ⟨small 1, fun z nz => ?_⟩
    have e1 := Same.new (o := .lst [.bl false]) nz
    refine ⟨_, rfl, a, n, g, o, ps, rfl, N.same e1, z, _, _, rfl, rfl, upd_same, by omega, by omega, ?_, fun l nl => ?_⟩
    · show 1 * (((n.many + n.gates.length : Nat)) : Int).toNat ≤ sizeLine
      rw [Int.toNat_natCast]
      exact small _ (by omega)
    have ef : (List.replicate (((n.many + n.gates.length : Nat)) : Int).toNat [V.bl false]).flatten = (List.replicate (n.many + n.gates.length) false).map V.bl := by
      rw [Int.toNat_natCast, List.map_replicate, List.flatten_replicate_singleton]
    rw [ef]
    have nlH : H l = none := by
      cases e : H l with
      | none => rfl
      | some u =>
        rw [e1 _ _ e] at nl
        cases nl
    have o2 : Own H _ l ((List.replicate (n.many + n.gates.length) false).map V.bl) := ⟨e1.trans (Same.new nl), upd_same, nlH⟩
    generalize upd (upd H z (.lst [.bl false])) l (.lst ((List.replicate (n.many + n.gates.length) false).map V.bl)) = H2 at o2 ⊢
    refine ⟨_, rfl, _, rfl, sa, _, rfl, .inr (SqT.of (o2.sm _ _ hs)), rfl, flat_ns st, ?_⟩
    refine ⟨_, rfl, _, rfl, l, _, _, _, rfl, rfl, o2.at_, ix_n (by rw [List.length_map, List.length_replicate]; exact hw), ?_⟩
    have ev : (if true = true then !inV (nV wr) (st.map nV) else inV (nV wr) (st.map nV)) = !decide (wr ∈ st) := by rw [if_pos rfl, inV_n]
    rw [ev, map_set]
    have o3 : Own H _ l (((List.replicate (n.many + n.gates.length) false).set wr (!decide (wr ∈ st))).map V.bl) := Own.put o2
    have mk := mark_first ok (st := st) hw
    generalize (List.replicate (n.many + n.gates.length) false).set wr (!decide (wr ∈ st)) = ms0 at o3 mk ⊢
    generalize upd H2 l (.lst (ms0.map V.bl)) = H3 at o3 ⊢
    have N3 := N.same o3.sm
    refine ⟨_, rfl, _, rfl, a, _, 0, _, rfl, rfl, SqT.of N3.top, at0, _, _, rfl, rfl, _, rfl, (wr : Int), (n.many : Int) - 1, -1, _, rfl, RgC.neg (by omega) (by omega) (by omega) (by omega), ?_⟩
    refine for_rangeC (lo := (wr : Int)) (c := -1) (n := ((wr : Int) - ((n.many : Int) - 1)).toNat) (fun i σ H' => ∃ ms x4 x5, σ = [some (.ref a), some (nV wr), some (.ref sa), some (.ref l), x4, x5, none, none] ∧ Own H H' l (ms.map V.bl) ∧ MarkOk n st wr (wr + 1 - i) ms) ⟨ms0, none, none, rfl, o3, mk⟩ ?_ ?_
    · rintro i σ H4 hi ⟨ms, x4, x5, rfl, o4, mk4⟩
      obtain ⟨gt, hgt⟩ : ∃ gt : Nat, wr = gt + i := ⟨wr - i, by omega⟩
      have hgm : n.many ≤ gt := by omega
      have eg : (wr : Int) + ((i : Nat) : Int) * (-1) = (gt : Int) := by omega
      have hkl : gt - n.many < n.gates.length := by omega
      obtain ⟨k, hk⟩ : ∃ k, n.gates[gt - n.many]? = some k := ⟨_, List.getElem?_eq_getElem hkl⟩
      have mk5 : MarkOk n st wr (gt + 1) ms := by
        rw [show gt + 1 = wr + 1 - i by omega]
        exact mk4
      have hml : ms.length = n.many + n.gates.length := mk5.1
      have N4 := N.same o4.sm
      rw [eg]
      refine ⟨_, rfl, _, rfl, l, _, _, _, rfl, rfl, SqL.of o4.at_, atI_nat (mark_at (by omega)), _, rfl, ite2 (fun hm => ?_) (fun hm => ?_)⟩
      · refine ⟨_, rfl, _, rfl, a, n, g, o, ps, gt, k, rfl, N4, hgm, hk, fun p np => ⟨p, rfl, ⟨_, SqT.of upd_same⟩, ?_⟩⟩
        have e5 := Same.new (o := .tup [nV k.2.1, nV k.2.2]) np
        have o5 := Own.same o4 e5
        have hp5 : upd H4 p (.tup [nV k.2.1, nV k.2.2]) p = some (.tup [nV k.2.1, nV k.2.2]) := upd_same
        have npl : p ≠ l := fun z => by
          rw [z, o4.at_] at np
          cases np
        generalize upd H4 p (.tup [nV k.2.1, nV k.2.2]) = H5 at e5 o5 hp5 ⊢
        have p1 := place_lt ok hgm hk (.inl rfl)
        have p2 := place_lt ok hgm hk (.inr rfl)
        refine for_tup (K := K) (a := p) (xs := [nV k.2.1, nV k.2.2]) (fun j σ H' => ∃ ms' x5, σ = [some (.ref a), some (nV wr), some (.ref sa), some (.ref l), some (nV gt), x5, none, none] ∧ Own H H' l (ms'.map V.bl) ∧ H' p = some (.tup [nV k.2.1, nV k.2.2]) ∧
          (j = 0 → ms' = ms) ∧ (j = 1 → ms' = ms.set k.2.1 (!decide (k.2.1 ∈ st))) ∧ (j = 2 → ms' = (ms.set k.2.1 (!decide (k.2.1 ∈ st))).set k.2.2 (!decide (k.2.2 ∈ st)))) ⟨ms, x5, rfl, o5, hp5, fun _ => rfl, fun z => (by cases z), fun z => (by cases z)⟩ ?_ ?_ ?_
        · rintro j σ H6 _ ⟨_, _, _, _, h, _⟩
          exact SqT.of h
        · rintro j x σ H6 hx ⟨ms', y5, rfl, o6, hp6, j0, j1, j2⟩
          have hj : j < 2 := (List.getElem?_eq_some_iff.mp hx).1
          have h01 : j = 0 ∨ j = 1 := by omega
          obtain ⟨pl, e, hl, hms, hh⟩ : ∃ pl : Nat, x = nV pl ∧ pl < gt ∧ ms'.length = ms.length ∧ ((j + 1 = 0 → ms'.set pl (!decide (pl ∈ st)) = ms) ∧ (j + 1 = 1 → ms'.set pl (!decide (pl ∈ st)) = ms.set k.2.1 (!decide (k.2.1 ∈ st))) ∧ (j + 1 = 2 → ms'.set pl (!decide (pl ∈ st)) = (ms.set k.2.1 (!decide (k.2.1 ∈ st))).set k.2.2 (!decide (k.2.2 ∈ st)))) := by
            rcases h01 with rfl | rfl
            · have e0 := j0 rfl
              exact ⟨k.2.1, (Option.some.inj hx).symm, p1, by rw [e0], fun z => (by cases z), fun _ => by rw [e0], fun z => (by cases z)⟩
            · have e1 := j1 rfl
              exact ⟨k.2.2, (Option.some.inj hx).symm, p2, by rw [e1, List.length_set], fun z => (by cases z), fun z => (by cases z), fun _ => by rw [e1]⟩
          subst e
          refine ⟨_, rfl, _, rfl, sa, _, rfl, .inr (SqT.of (o6.sm _ _ hs)), rfl, flat_ns st, ?_⟩
          refine ⟨_, rfl, _, rfl, l, _, _, _, rfl, rfl, o6.at_, ix_n (by rw [List.length_map, hms]; omega), ?_⟩
          have ev : (if true = true then !inV (nV pl) (st.map nV) else inV (nV pl) (st.map nV)) = !decide (pl ∈ st) := by rw [if_pos rfl, inV_n]
          rw [ev, map_set]
          refine ⟨ms'.set pl (!decide (pl ∈ st)), some (nV pl), rfl, Own.put o6, ?_, hh⟩
          rw [upd_ne npl]
          exact hp6
        · rintro σ H6 ⟨ms', y5, rfl, o6, hp6, _, _, j2⟩
          have e2 := j2 rfl
          refine ⟨ms', some (nV gt), y5, rfl, o6, ?_⟩
          rw [show wr + 1 - (i + 1) = gt by omega, e2]
          exact mark_down ok hgm hk mk5 hm
      · refine ⟨ms, some (nV gt), x5, rfl, o4, ?_⟩
        rw [show wr + 1 - (i + 1) = gt by omega]
        exact mark_skip ok hgm hk mk5 hm
    · rintro σ H4 ⟨ms, x4, x5, rfl, o4, mk4⟩
      have mk5 : MarkOk n st wr n.many ms := ⟨mk4.1, fun y hy => (mk4.2 y hy).trans (Rc.low_iff (by omega))⟩
      have hset := mark_set ok hw mk5
      have hml : ms.length = n.many + n.gates.length := mk5.1
      have a4 := Aft.ofSame tb o4.sm
      refine ⟨_, rfl, l, _, rfl, SqL.of o4.at_, a4.tb PR hP, fun H5 ht => ?_⟩
      have a5 : Aft Ts H4 H5 := ⟨Keep.tabbed hP ht, a4.tb.tabbed ht⟩
      refine turns_it (walk_enum (xs := ms.map V.bl)) (fun i ys H' => ys = ((List.range i).filter fun i => ms.getD i false).map nV ∧ Aft Ts H4 H') ⟨rfl, a5⟩ (fun i ys H' _ hp => SqL.of (hp.2.lst a4.tb o4.at_)) ?_ ?_
      · rintro i x ys H6 H7 hi ⟨rfl, a6⟩ ⟨T', v1, v2, rfl, nT, rfl, e1, e2⟩
        cases e1
        rw [List.length_map] at hi
        have e2' : (ms.map V.bl)[i]? = some v2 := e2
        rw [mark_at hi] at e2'
        cases e2'
        have a7 := a6.trans (Aft.new (o := .tup [.int (i : Nat), .bl (ms.getD i false)]) a6.tb nT)
        refine ⟨T', _, rfl, SqT.of upd_same, rfl, _, _, rfl, _, _, rfl, rfl, rfl, ?_⟩
        refine ⟨_, rfl, _, rfl, ite2 (fun hm => ?_) (fun hm => ?_)⟩
        · refine ⟨_, rfl, ?_, fun _ => ⟨?_, a7⟩⟩
          · show (List.map nV _).length < sizeLine
            rw [List.length_map]
            exact Nat.lt_of_le_of_lt (List.length_filter_le _ _) (by rw [List.length_range]; exact small1000 (by omega))
          · rw [picked_take, if_pos hm, List.map_append]
            rfl
        · refine ⟨?_, a7⟩
          rw [picked_take, if_neg hm, List.append_nil]
      · rintro ys H6 ⟨rfl, a6⟩
        rw [List.length_map]
        refine ⟨?_, fun p hp => ?_⟩
        · rw [List.length_map]
          exact Nat.le_trans (List.length_filter_le _ _) (by rw [List.length_range]; exact small _ (by omega))
        · exact q p _ _ ((a4.trans a6).trans (Aft.new a6.tb hp)) upd_same hset
end
section
variable {P : Program} {w : World} {K : PySem.W.Frag} {mg : Str → Option Value} {base : Heap} {Ts : List Addr}
def spCone (Ts : List Addr) : Sp := fun vs H Q _ => ∃ (a : Addr) (n : Net) (g o : Addr) (ps : List Addr) (wr : Nat), vs = [.ref a, nV wr] ∧ NetAt H a n g o ps ∧ n.Ok ∧ wr < n.many + n.gates.length ∧ Tabs Ts H ∧ ∀ p H' xs, Aft Ts H H' → H' p = some (.tup (xs.map nV)) → Rset n [] wr xs → Q (.ref p) H'
theorem ok_cone {f c : Addr} (D : Dfn K mg "cone" s_cone f c) (c_reached : Cal P w K mg base 2 "reached" (spReached Ts) []) : Cal P w K mg base 3 "cone" (spCone Ts) [] := by
  refine cal D (fun _ _ _ _ _ _ us hl => match us, hl with | [_, _], _ => rfl) sc_cone (fun vs H Q E h => ?_) (fun A outer s H vs Q E hr h => ?_)
  · obtain ⟨a, n, g, o, ps, wr, rfl, _⟩ := h
    rfl
  · obtain ⟨a, n, g, o, ps, wr, rfl, N, ok, hw, tb, q⟩ := h
    refine ⟨_, (pss_one (ps_ret (pe_c c_reached hr (by decide) (by rfl) (pa_cons (pv 0) (pa_cons (pv 1) (pa_cons (pe_tup pa_nil) pa_nil)))))), ?_⟩
    refine ⟨_, rfl, _, rfl, small 0, fun sa ns => ?_⟩
    have e1 := Same.new (o := .tup []) ns
    exact ⟨a, n, g, o, ps, wr, sa, [], rfl, N.same e1, ok, hw, upd_same, Tabs.same tb e1, fun p H' xs a' hp hr => q p H' xs ((Aft.ofSame tb e1).trans a') hp hr⟩
end
section
variable {P : Program} {w : World} {K : PySem.W.Frag} {mg : Str → Option Value} {base : Heap} {Ts : List Addr}
def spWiresOf (Ts : List Addr) : Sp := fun vs H Q _ => ∃ M : Nat, vs = [nV M] ∧ M < 2 ^ 23 ∧ Tabs Ts H ∧ ∀ p H', Aft Ts H H' → H' p = some (.tup ((bitsOf M).map nV)) → Q (.ref p) H'
theorem bits_step (M i : Nat) : (List.range (i + 1)).filter (fun x => M.testBit x) = (List.range i).filter (fun x => M.testBit x) ++ (if M.testBit i = true then [i] else []) := by
  rw [List.range_succ, List.filter_append, List.filter_cons]
  rfl
theorem ok_wiresof {f c PG : Addr} (D : Dfn K mg "wires_of" s_wires_of f c) (T : Txt mg) (TB_wires_of : GxR.TabB base mg c PG) (hP : PG ∈ Ts) : Cal P w K mg base 1 "wires_of" (spWiresOf Ts) [] := by
  refine cal D (fun _ _ _ _ _ _ us hl => match us, hl with | [_], _ => rfl) sc_wires_of (fun vs H Q E h => ?_) (fun A outer s H vs Q E hr h => ?_)
  · obtain ⟨M, rfl, _⟩ := h
    rfl
  · obtain ⟨M, rfl, hM, tb, q⟩ := h
    refine ⟨_, (pss_one (ps_ret (pe_tupG (own := [("wire", 1)]) hr (by rfl) T.b_tuple TB_wires_of rfl (gxOk_by (N := ["mask", "wire"]) (sc := defScope s_wires_of) (own := [("wire", 1)]) (by decide +kernel)) sc_wires_of.nd (pi_range1 (by rfl) T.b_range (pa_cons (pe_bits (pv 0)) pa_nil)) (fun _ _ _ _ => (pg_name (i := 1) sc_wires_of.nd rfl (by first | exact Or.inl rfl | exact Or.inr rfl))) (fun _ _ _ _ => (pts_one (pt_truthK (K := K) (pe_op op_and (pe_op op_shr (pv 0) (pv 1)) pe_int) (by intro _; rfl)))) (fun _ _ _ _ => (pv 1))))), ?_⟩
    have hb : Builtin.Int.intBits ((M : Nat) : Int) ≤ 10000 := bits_small hM
    refine ⟨_, rfl, _, rfl, _, rfl, by omega, by omega, tb PG hP, fun H2 ht => ?_⟩
    have a2 : Aft Ts H H2 := ⟨Keep.tabbed hP ht, tb.tabbed ht⟩
    refine turns_it (walk_range (lo := 0) (n := ((Builtin.Int.intBits ((M : Nat) : Int) : Nat) : Int).toNat)) (fun i ys H' => ys = ((List.range i).filter fun x => M.testBit x).map nV ∧ Aft Ts H H') ⟨rfl, a2⟩ (fun i ys H' _ _ => trivial) ?_ ?_
    · rintro i x ys H3 H4 hi ⟨rfl, a3⟩ ⟨rfl, rfl⟩
      rw [Int.toNat_natCast] at hi
      refine ⟨rfl, _, rfl, _, rfl, _, _, rfl, rfl, by omega, _, _, rfl, rfl, ?_⟩
      dsimp -proj only
      rw [Int.zero_add, bit_of]
      refine ⟨_, rfl, ?_⟩
      have ev : ((((M / 2 ^ i % 2 : Nat) : Int) != 0)) = M.testBit i := by
        rw [Nat.testBit_eq_decide_div_mod_eq]
        by_cases h : M / 2 ^ i % 2 = 1
        · rw [h]
          rfl
        · rw [decide_eq_false h, show M / 2 ^ i % 2 = 0 by omega]
          rfl
      rw [ev]
      refine ite2 (fun h0 => ?_) (fun h0 => ?_)
      · refine ⟨_, rfl, ?_, fun _ => ⟨?_, a3⟩⟩
        · show (List.map nV _).length < sizeLine
          rw [List.length_map]
          exact Nat.lt_of_le_of_lt (List.length_filter_le _ _) (by rw [List.length_range]; exact small256 (by omega))
        · rw [bits_step, if_pos h0, List.map_append]
          rfl
      · refine ⟨?_, a3⟩
        rw [bits_step, if_neg h0, List.append_nil]
    · rintro ys H3 ⟨rfl, a3⟩
      rw [Int.toNat_natCast]
      refine ⟨?_, fun r hr => ?_⟩
      · rw [List.length_map]
        exact Nat.le_trans (List.length_filter_le _ _) (by rw [List.length_range]; exact Nat.le_of_lt (small256 hb))
      · exact q r _ (a3.trans (Aft.new a3.tb hr)) upd_same
def spFits : Sp := fun vs H Q _ => ∃ M k : Nat, vs = [nV M, nV k] ∧ k ≤ 1000 ∧ Q (.bl (decide (pop M ≤ k))) H
theorem ok_fits {f c : Addr} (D : Dfn K mg "fits" s_fits f c) (T : Txt mg) : Cal P w K mg base 1 "fits" spFits [] := by
  refine cal D (fun _ _ _ _ _ _ us hl => match us, hl with | [_, _], _ => rfl) sc_fits (fun vs H Q E h => ?_) (fun A outer s H vs Q E hr h => ?_)
  · obtain ⟨M, k, rfl, _⟩ := h
    rfl
  · obtain ⟨M, k, rfl, hk, q⟩ := h
    refine ⟨_, (pss_cons (ps_for PassesOwn.never rfl (pi_range1 (by rfl) T.b_range (pa_cons (pv 1) pa_nil)) (pg_name (i := 2) sc_fits.nd rfl (by first | exact Or.inl rfl | exact Or.inr rfl))
        (pss_one (ps_aug (i := 0) sc_fits.nd rfl (by first | exact Or.inl rfl | exact Or.inr rfl) (pe_op op_sub (pv 0) pe_int) ip_and)))
      (pss_one (ps_ret (pe_cmpR op_eq (pv 0) pe_int (nomark _))))), ?_⟩
    refine ⟨_, rfl, _, rfl, by omega, by omega, ?_⟩
    refine for_range (lo := 0) (n := ((k : Nat) : Int).toNat) (fun i σ H' => ∃ x2 : Option V, σ = [some (nV (clows i M)), some (nV k), x2] ∧ H' = H) ⟨none, rfl, rfl⟩ ?_ ?_
    · rintro i σ H' _ ⟨x2, rfl, rfl⟩
      refine ⟨_, rfl, _, rfl, _, _, rfl, rfl, _, _, rfl, rfl, ?_⟩
      refine ⟨some (V.int (0 + ((i : Nat) : Int))), ?_, rfl⟩
      show [some (V.int (Builtin.bitAnd ((clows i M : Nat) : Int) (((clows i M : Nat) : Int) - 1))), _, _] = _
      rw [and_low]
      rfl
    · rintro σ H' ⟨x2, rfl, rfl⟩
      rw [Int.toNat_natCast]
      refine ⟨_, rfl, rfl, ?_⟩
      have e : decide (nV (clows k M) = V.int 0) = decide (pop M ≤ k) := by
        refine decide_eq_decide.mpr ⟨fun z => (fits_iff M k).mp ?_, fun z => by rw [(fits_iff M k).mpr z]; rfl⟩
        have z' := V.int.inj z
        omega
      show Q (.bl (decide (nV (clows k M) = V.int 0))) H'
      rw [e]
      exact q
def spHasPart : Sp := fun vs H Q _ => ∃ (d : Addr) (F : List Nat) (M : Nat), vs = [.ref d, nV M] ∧ Rd H d (.dK (kvF F)) ∧ 0 < M ∧ Q (.bl (hasPart F M)) H
theorem ok_haspart {f c : Addr} (D : Dfn K mg "has_part" s_has_part f c) (T : Txt mg) : Cal P w K mg base 1 "has_part" spHasPart [] := by
  refine cal D (fun _ _ _ _ _ _ us hl => match us, hl with | [_, _], _ => rfl) sc_has_part (fun vs H Q E h => ?_) (fun A outer s H vs Q E hr h => ?_)
  · obtain ⟨d, F, M, rfl, _⟩ := h
    rfl
  · obtain ⟨d, F, M, rfl, hd, hM, q⟩ := h
    refine ⟨_, (pss_cons (ps_set (i := 2) sc_has_part.nd rfl (by first | exact Or.inl rfl | exact Or.inr rfl) (pe_op op_and (pe_op op_sub (pv 1) pe_int) (pv 1)))
      (pss_cons (ps_while PassesOwn.never (pt_cmpR op_gt (pv 2) pe_int (nomark _)) (pss_cons (ps_if (pt_cmp (pc_din (Nat.lt_of_le_of_lt (Nat.add_le_add_left (by decide) _) hr.units) (pv 2) (pv 0))) (pss_one (ps_ret pe_bl)) pss_nil)
      (pss_one (ps_set (i := 2) sc_has_part.nd rfl (by first | exact Or.inl rfl | exact Or.inr rfl) (pe_op op_and (pe_op op_sub (pv 2) pe_int) (pv 1))))))
      (pss_one (ps_ret pe_bl)))), ?_⟩
    refine ⟨_, rfl, _, _, rfl, rfl, _, rfl, _, _, rfl, rfl, ?_⟩
    dsimp -proj only
    rw [and_next hM]
    have sub1 : ∀ {p : Nat}, Sub ((p - 1) &&& M) M := fun {p} j hj => by
      rw [Nat.testBit_and] at hj
      exact (Bool.and_eq_true_iff.mp hj).2
    refine while_at (fun σ H' => ∃ p : Nat, σ = [some (.ref d), some (nV M), some (nV p)] ∧ H' = H ∧ Sub p M ∧ p < M ∧ ∀ q ∈ F, 0 < q → q ≠ M → Sub q M → q ≤ p) (fun σ _ => natOf σ 2) ⟨_, rfl, rfl, sub1, Nat.lt_of_le_of_lt Nat.and_le_left (by omega), fun q _ h0 ne sq => next_part M M M q (Nat.le_refl _) hM (Sub.refl M) sq (Nat.lt_of_le_of_ne sq.le ne)⟩ ?_
    rintro σ H' ⟨p, rfl, rfl, hp, hpM, hq⟩
    refine ⟨_, rfl, _, _, rfl, rfl, _, rfl, ite2 (fun h0 => ?_) (fun h0 => ?_)⟩
    · have p0 : 0 < p := by
        have := of_decide_eq_true h0
        omega
      refine ⟨_, whN, ?_⟩
      have dg : DGet H' d (nV p) (valV (kvF F) (nK p)) := .inl ⟨kvF F, nK p, hd, rfl, rfl⟩
      refine ⟨_, rfl, _, rfl, d, _, rfl, dg, _, rfl, ?_⟩
      rw [kvF_some]
      refine ite2 (fun hin => ?_) (fun hin => ?_)
      · have e : hasPart F M = true := hasPart_iff.mpr ⟨p, of_decide_eq_true hin, p0, Nat.ne_of_lt hpM, hp⟩
        rw [e] at q
        exact q
      · refine ⟨_, rfl, _, _, rfl, rfl, _, rfl, _, _, rfl, rfl, ?_⟩
        dsimp -proj only
        rw [and_next p0]
        have lt : (p - 1) &&& M < p := Nat.lt_of_le_of_lt Nat.and_le_left (by omega)
        refine ⟨⟨_, rfl, rfl, sub1, by omega, fun q hqF h0 ne sq => ?_⟩, ?_⟩
        · have le := hq q hqF h0 ne sq
          have ne2 : q ≠ p := fun z => hin (decide_eq_true (by rw [← z]; exact hqF))
          exact next_part p p M q (Nat.le_refl _) p0 hp sq (by omega)
        · exact lt
    · have p0 : p = 0 := by
        refine Classical.not_not.mp fun z => h0 (decide_eq_true ?_)
        show ((p : Nat) : Int) > 0
        omega
      have e : hasPart F M = false := by
        cases e : hasPart F M with
        | false => rfl
        | true =>
          obtain ⟨q', h1, h2, h3, h4⟩ := hasPart_iff.mp e
          have := hq q' h1 h2 h3 h4
          omega
      rw [e] at q
      exact q
def spGateMasks : Sp := fun vs H Q _ => ∃ (la lb : Addr) (fs ss : List Nat) (k : Nat), vs = [.ref la, .ref lb, nV k] ∧ H la = some (.lst (fs.map nV)) ∧ H lb = some (.lst (ss.map nV)) ∧ (∀ f ∈ fs, 0 < f ∧ f < 2 ^ 23) ∧ (∀ f ∈ ss, f < 2 ^ 23) ∧ k ≤ 1000 ∧
  ∀ p H' (F : List Nat), Same H H' → H p = none → H' p = some (.lst ((F.filter fun M => !hasPart F M).map nV)) → F.Nodup → (∀ M ∈ F, M < 2 ^ 23) → Found k fs ss F → Q (.ref p) H'
theorem ok_gatemasks {f c : Addr} (D : Dfn K mg "gate_masks" s_gate_masks f c) (T : Txt mg) (c_fits : Cal P w K mg base 1 "fits" spFits []) (c_has_part : Cal P w K mg base 1 "has_part" spHasPart []) : Cal P w K mg base 2 "gate_masks" spGateMasks [] := by
  refine cal D (fun _ _ _ _ _ _ us hl => match us, hl with | [_, _, _], _ => rfl) sc_gate_masks (fun vs H Q E h => ?_) (fun A outer s H vs Q E hr h => ?_)
  · obtain ⟨la, lb, fs, ss, k, rfl, _⟩ := h
    rfl
  · obtain ⟨la, lb, fs, ss, k, rfl, hla, hlb, hfs, hss, hk, q⟩ := h
    refine ⟨_, (pss_cons (ps_set (i := 3) sc_gate_masks.nd rfl (by first | exact Or.inl rfl | exact Or.inr rfl) pe_dnewK)
      (pss_cons (ps_for PassesOwn.never rfl (pi_list (pv 0)) (pg_name (i := 4) sc_gate_masks.nd rfl (by first | exact Or.inl rfl | exact Or.inr rfl))
        (pss_one (ps_for PassesOwn.never rfl (pi_list (pv 1)) (pg_name (i := 5) sc_gate_masks.nd rfl (by first | exact Or.inl rfl | exact Or.inr rfl))
        (pss_one (ps_if (pt_val (pe_c c_fits hr (by decide) (by rfl) (pa_cons (pe_op op_or (pv 4) (pv 5)) (pa_cons (pv 2) pa_nil)))) (pss_one (ps_dput (Nat.lt_of_le_of_lt (Nat.add_le_add_left (by decide) _) hr.units) (pv 3) (pe_op op_or (pv 4) (pv 5)) pe_bl (by rfl))) pss_nil)))))
      (pss_one (ps_ret (pe_lock (pe_lc (own := [("mask", 6)]) (g := gName 6)  rfl sc_gate_masks.nd (pi_keys (pv 3)) (blkOk_by (own := [("mask", 6)]) (N := ["firsts", "seconds", "k", "found", "first", "second", "mask"]) (sc := defScope s_gate_masks) (by decide +kernel)) (fun _ _ _ _ _ => (pg_name (i := 6) sc_gate_masks.nd rfl (by first | exact Or.inl rfl | exact Or.inr rfl))) (fun _ _ _ _ _ => (pts_one (pt_not (pt_val (pe_c c_has_part hr (by decide) (by rfl) (pa_cons (pv 3) (pa_cons (pv 6) pa_nil))))))) (fun _ _ _ _ _ => (pv 6)))))))), ?_⟩
    refine fun d nd => ?_
    have s1 := Same.new (o := .dK []) nd
    have putA : ∀ {Hx : Hp} {u : HO}, Same H Hx → Same H (upd Hx d u) := fun {Hx u} x b o e => by rw [upd_ne (ne_of_none e nd)]; exact x b o e
    have hd1 : upd H d (.dK []) d = some (.dK (kvF [])) := upd_same
    generalize upd H d (.dK []) = H1 at s1 hd1 ⊢
    refine ⟨_, rfl, la, rfl, ⟨_, SqL.of (s1 _ _ hla)⟩, ?_⟩
    refine for_list (K := K) (a := la) (xs := fs.map nV) (fun i σ H' => ∃ (x4 x5 x6 : Option V) (F : List Nat), σ = [some (.ref la), some (.ref lb), some (nV k), some (.ref d), x4, x5, x6] ∧ Same H H' ∧ H' d = some (.dK (kvF F)) ∧ F.Nodup ∧ (∀ M ∈ F, 0 < M ∧ M < 2 ^ 23) ∧ FoundW k fs ss i 0 F) ⟨none, none, none, [], rfl, s1, hd1, List.nodup_nil, fun M hM => (by cases hM), FoundW.zero _ _ _⟩ ?_ ?_ ?_
    · rintro i σ H' _ ⟨_, _, _, _, _, s', _⟩
      exact SqL.of (s' _ _ hla)
    · rintro i x σ H2 hx ⟨x4, x5, x6, F, rfl, s2, hd2, nF, lF, fw⟩
      have hi : i < fs.length := by
        have := (List.getElem?_eq_some_iff.mp hx).1
        rwa [List.length_map] at this
      rw [natAt hi] at hx
      cases hx
      obtain ⟨f0, f23⟩ := hfs _ (getD_mem hi)
      refine ⟨_, rfl, lb, rfl, ⟨_, SqL.of (s2 _ _ hlb)⟩, ?_⟩
      refine for_list (K := K) (a := lb) (xs := ss.map nV) (fun j σ H' => ∃ (x5 x6 : Option V) (F : List Nat), σ = [some (.ref la), some (.ref lb), some (nV k), some (.ref d), some (nV (fs.getD i 0)), x5, x6] ∧ Same H H' ∧ H' d = some (.dK (kvF F)) ∧ F.Nodup ∧ (∀ M ∈ F, 0 < M ∧ M < 2 ^ 23) ∧ FoundW k fs ss i j F) ⟨_, _, F, rfl, s2, hd2, nF, lF, fw⟩ ?_ ?_ ?_
      · rintro j σ H' _ ⟨_, _, _, _, s', _⟩
        exact SqL.of (s' _ _ hlb)
      · rintro j x σ H3 hx ⟨x5, x6, F, rfl, s3, hd3, nF, lF, fw⟩
        have hj : j < ss.length := by
          have := (List.getElem?_eq_some_iff.mp hx).1
          rwa [List.length_map] at this
        rw [natAt hj] at hx
        cases hx
        have s23 := hss _ (getD_mem hj)
        have o23 := or_lt23 f23 s23
        have o0 : 0 < fs.getD i 0 ||| ss.getD j 0 := Nat.lt_of_lt_of_le f0 (sub_or_left _ _).le
        refine ⟨_, rfl, _, rfl, _, _, rfl, rfl, _, rfl, fs.getD i 0 ||| ss.getD j 0, k, (by show [V.int (Builtin.bitOr _ _), _] = _; rw [or_of]; rfl), hk, _, rfl, ite2 (fun hp => ?_) (fun hp => ?_)⟩
        · have hp' := of_decide_eq_true hp
          refine ⟨_, rfl, _, rfl, _, rfl, _, _, rfl, rfl, ?_⟩
          dsimp -proj only
          rw [or_of]
          generalize hM : fs.getD i 0 ||| ss.getD j 0 = M at o23 o0 hp' ⊢
          refine ⟨d, _, rfl, DPut.k (k := nK M) hd3 (by rw [kvF_len]; exact nodup_lt23 nF fun M h => (lF M h).2), ?_⟩
          by_cases e : M ∈ F
          · rw [kvF_again e]
            exact ⟨_, _, F, rfl, putA s3, upd_same, nF, lF, fw.yes hj (by rw [hM]; exact hp') fun M' => by
              rw [hM]
              exact ⟨.inl, fun z => z.elim id fun z => by rw [z]; exact e⟩⟩
          · rw [kvF_put e]
            refine ⟨_, _, F ++ [M], rfl, putA s3, upd_same, nodup_snoc nF e, fun M' h => ?_, fw.yes hj (by rw [hM]; exact hp') fun M' => by rw [hM, List.mem_append, List.mem_singleton]⟩
            rcases List.mem_append.mp h with h | h
            · exact lF M' h
            · rw [List.mem_singleton.mp h]
              exact ⟨o0, o23⟩
        · exact ⟨_, _, F, rfl, s3, hd3, nF, lF, fw.no hj fun z => hp (decide_eq_true z)⟩
      · rintro σ H3 ⟨x5, x6, F, rfl, s3, hd3, nF, lF, fw⟩
        rw [List.length_map] at fw
        exact ⟨_, _, _, F, rfl, s3, hd3, nF, lF, fw.row hi⟩
    · rintro σ H2 ⟨x4, x5, x6, F, rfl, s2, hd2, nF, lF, fw⟩
      rw [List.length_map] at fw
      have fl := nodup_lt23 nF fun M h => (lF M h).2
      refine ⟨d, .dK (kvF F), hd2, trivial, fun od => ⟨_, rfl, d, od, rfl, .inl ⟨kvF F, upd_same, fun S nS => ?_⟩⟩⟩
      have hdl : upd H2 d (.frz od (.dK (kvF F))) d = some (.frz od (.dK (kvF F))) := upd_same
      have sl : Same H (upd H2 d (.frz od (.dK (kvF F)))) := putA s2
      generalize upd H2 d (.frz od (.dK (kvF F))) = Hl at nS hdl sl ⊢
      refine lc_it (walk_keys (kvs := kvF F)) (fun i H' => Own Hl H' S (((F.take i).filter fun M => !hasPart F M).map nV)) ⟨Same.new nS, upd_same, nS⟩ (fun i H' _ o' => o'.sm _ _ hdl) ?_ ?_
      · rintro i x H3 H4 hi o3 ⟨rfl, kk, v, hkv, rfl⟩
        rw [kvF_len] at hi
        have ek : kk = nK (F.getD i 0) := by
          unfold kvF at hkv
          rw [List.getElem?_map, List.getElem?_eq_getElem hi] at hkv
          rw [List.getD_eq_getElem?_getD, List.getElem?_eq_getElem hi]
          have := Option.some.inj hkv
          exact (congrArg Prod.fst this).symm
        subst ek
        have hm := getD_mem hi
        have ef : (F.take (i + 1)).filter (fun M => !hasPart F M) = (F.take i).filter (fun M => !hasPart F M) ++ (if (!hasPart F (F.getD i 0)) = true then [F.getD i 0] else []) := by
          rw [List.take_add_one, List.filter_append, List.getD_eq_getElem?_getD, List.getElem?_eq_getElem hi, Option.toList_some, List.filter_cons]
          rfl
        generalize F.getD i 0 = z at hm ef ⊢
        refine ⟨rfl, _, rfl, _, rfl, d, F, z, rfl, .inr ⟨od, o3.sm _ _ hdl⟩, (lF z hm).1, _, rfl, ite2 (fun hg => ?_) (fun hg => ?_)⟩
        · refine ⟨_, rfl, _, o3.at_, ?_, ?_⟩
          · rw [List.length_map]
            exact Nat.lt_of_le_of_lt (List.length_filter_le _ _) (by rw [List.length_take]; omega)
          · rw [ef, if_pos hg, List.map_append]
            exact o3.app
        · show Own Hl H4 S _
          rw [ef, if_neg hg, List.append_nil]
          exact o3
      · rintro H3 o3
        rw [kvF_len, List.take_length] at o3
        refine ⟨o3.sm _ _ hdl, ?_⟩
        have Sd : S ≠ d := fun z => by rw [z, hdl] at nS; cases nS
        have s4 : Same H (upd H3 d (.dK (kvF F))) := putA (sl.trans o3.sm)
        have S0 : H S = none := Classical.not_not.mp fun z => by
          obtain ⟨u, hu⟩ := Option.ne_none_iff_exists'.mp z
          rw [sl _ _ hu] at nS
          cases nS
        exact q S _ F s4 S0 (by rw [upd_ne Sd]; exact o3.at_) nF (fun M h => (lF M h).2) fw.all
end
section
variable {P : Program} {w : World} {K : PySem.W.Frag} {mg : Str → Option Value} {base : Heap} {Ts : List Addr}
structure WsOk (n : Net) (ws : List Nat) : Prop where
  ris : ws.Pairwise (· < ·)
  lt : ∀ x ∈ ws, x < n.many + n.gates.length
  clo : ∀ x ∈ ws, ∀ k, n.many ≤ x → n.gates[x - n.many]? = some k → k.2.1 ∈ ws ∧ k.2.2 ∈ ws
def spCutMasks : Sp := fun vs H Q _ => ∃ (a wa : Addr) (n : Net) (g o : Addr) (ps : List Addr) (ws : List Nat) (k : Nat), vs = [.ref a, .ref wa, nV k] ∧ NetAt H a n g o ps ∧ n.Ok ∧ H wa = some (.lst (ws.map nV)) ∧ WsOk n ws ∧ 1 ≤ k ∧ k ≤ 1000 ∧
  ∀ d H' kvs, Same H H' → H' d = some (.dK kvs) → (∀ x ∈ ws, CutsIn n k H' kvs x) → Q (.ref d) H'
theorem ok_cutmasks {f c : Addr} (D : Dfn K mg "cut_masks" s_cut_masks f c) (T : Txt mg) (c_places : Cal P w K mg base 1 "places" spPlaces []) (c_gate_masks : Cal P w K mg base 2 "gate_masks" spGateMasks []) : Cal P w K mg base 3 "cut_masks" spCutMasks [] := by
  refine cal D (fun _ _ _ _ _ _ us hl => match us, hl with | [_, _, _], _ => rfl) sc_cut_masks (fun vs H Q E h => ?_) (fun A outer s H vs Q E hr h => ?_)
  · obtain ⟨a, wa, n, g, o, ps, ws, k, rfl, _⟩ := h
    rfl
  · obtain ⟨a, wa, n, g, o, ps, ws, k, rfl, N, ok, hwa, wok, hk1, hk, q⟩ := h
    have m8 := ok.m8
    have g16 := ok.g16
    refine ⟨_, (pss_cons (ps_set (i := 3) sc_cut_masks.nd rfl (by first | exact Or.inl rfl | exact Or.inr rfl) pe_dnewK)
      (pss_cons (ps_for PassesOwn.never rfl (pi_list (pv 1)) (pg_name (i := 4) sc_cut_masks.nd rfl (by first | exact Or.inl rfl | exact Or.inr rfl))
        (pss_cons (ps_dput (Nat.lt_of_le_of_lt (Nat.add_le_add_left (by decide) _) hr.units) (pv 3) (pv 4) (pe_lst pa_nil) (by rfl))
      (pss_one (ps_if (pt_cmpR op_ge (pv 4) (pe_ix ix_tup (pv 0) pe_int (fun _ _ => rfl)) (nomark _)) (pss_cons (ps_asg (pe_c c_places hr (by decide) (by rfl) (pa_cons (pv 0) (pa_cons (pv 4) pa_nil))) (pg_tup rfl (pgs_cons (pg_name (i := 5) sc_cut_masks.nd rfl (by first | exact Or.inl rfl | exact Or.inr rfl)) (pgs_cons (pg_name (i := 6) sc_cut_masks.nd rfl (by first | exact Or.inl rfl | exact Or.inr rfl)) pgs_nil))))
      (pss_one (ps_dput (Nat.lt_of_le_of_lt (Nat.add_le_add_left (by decide) _) hr.units) (pv 3) (pv 4) (pe_c c_gate_masks hr (by decide) (by rfl) (pa_cons (pe_op op_cat (pe_dget (Nat.lt_of_le_of_lt (Nat.add_le_add_left (by decide) _) hr.units) (pv 3) (pv 5) (fun _ _ => rfl)) (pe_lst (pa_cons (pe_op op_shl pe_int (pv 5)) pa_nil))) (pa_cons (pe_op op_cat (pe_dget (Nat.lt_of_le_of_lt (Nat.add_le_add_left (by decide) _) hr.units) (pv 3) (pv 6) (fun _ _ => rfl)) (pe_lst (pa_cons (pe_op op_shl pe_int (pv 6)) pa_nil))) (pa_cons (pv 2) pa_nil)))) (by rfl)))) pss_nil))))
      (pss_one (ps_ret (pv 3))))), ?_⟩
    refine fun d nd => ?_
    have s1 := Same.new (o := .dK []) nd
    have putA : ∀ {Hx : Hp} {u : HO}, Same H Hx → Same H (upd Hx d u) := fun {Hx u} x b o e => by rw [upd_ne (ne_of_none e nd)]; exact x b o e
    have putL : ∀ {Hx : Hp} {u : HO} {kvs : List (L2.Key × V)}, Hx d = some (.dK kvs) → ∀ b zs, Hx b = some (.lst zs) → upd Hx d u b = some (.lst zs) := fun {Hx u kvs} hd b zs e => by
      rw [upd_ne (fun z => by rw [z, hd] at e; cases e)]
      exact e
    have hd1 : upd H d (.dK []) d = some (.dK []) := upd_same
    generalize upd H d (.dK []) = H1 at s1 hd1 ⊢
    have wl : ws.length ≤ 24 := by
      have nd : ws.Nodup := wok.ris.imp fun h => Nat.ne_of_lt h
      have := nd.length_le_of_subset (l₂ := List.range (n.many + n.gates.length)) fun x hx => List.mem_range.mpr (wok.lt x hx)
      rw [List.length_range] at this
      omega
    refine ⟨_, rfl, wa, rfl, ⟨_, SqL.of (s1 _ _ hwa)⟩, ?_⟩
    refine for_list (K := K) (a := wa) (xs := ws.map nV) (fun i σ H' => ∃ (x4 x5 x6 : Option V) (kvs : List (L2.Key × V)), σ = [some (.ref a), some (.ref wa), some (nV k), some (.ref d), x4, x5, x6] ∧ Same H H' ∧ H' d = some (.dK kvs) ∧ kvs.length ≤ 2 * i ∧ ∀ x ∈ ws.take i, CutsIn n k H' kvs x) ⟨none, none, none, [], rfl, s1, hd1, Nat.le_refl _, fun x hx => (by cases hx)⟩ ?_ ?_ ?_
    · rintro i σ H' _ ⟨_, _, _, _, _, s', _⟩
      exact SqL.of (s' _ _ hwa)
    · rintro i x σ H2 hx ⟨x4, x5, x6, kvs, rfl, s2, hd2, kl, ci⟩
      have hi : i < ws.length := by
        have := (List.getElem?_eq_some_iff.mp hx).1
        rwa [List.length_map] at this
      rw [natAt hi] at hx
      cases hx
      have hx := getD_mem hi
      have xlt := wok.lt _ hx
      have tk := mem_take_succ hi
      have inT : ∀ y ∈ ws, y < ws.getD i 0 → y ∈ ws.take i := fun y hy h => mem_take_lt wok.ris hi hy h
      have ne : ∀ y ∈ ws.take i, y ≠ ws.getD i 0 := fun y hy => Nat.ne_of_lt (not_mem_take wok.ris hi hy)
      have clo := wok.clo _ hx
      generalize ws.getD i 0 = x at hx xlt tk inT ne clo ⊢
      refine ⟨small 0, fun L nL => ⟨_, rfl, _, rfl, d, _, rfl, DPut.k (k := nK x) (Same.new nL _ _ hd2) (small256 (by omega)), ?_⟩⟩
      have hdL : upd H2 L (.lst []) d = some (.dK kvs) := Same.new nL _ _ hd2
      have s3 : Same H (upd (upd H2 L (.lst [])) d (.dK (putK kvs (nK x) (.ref L)))) := putA (s2.trans (Same.new nL))
      have hd3 : upd (upd H2 L (.lst [])) d (.dK (putK kvs (nK x) (.ref L))) d = some (.dK (putK kvs (nK x) (.ref L))) := upd_same
      have hL3 : upd (upd H2 L (.lst [])) d (.dK (putK kvs (nK x) (.ref L))) L = some (.lst []) := putL hdL _ _ upd_same
      have ci3 : ∀ y ∈ ws.take i, CutsIn n k (upd (upd H2 L (.lst [])) d (.dK (putK kvs (nK x) (.ref L)))) (putK kvs (nK x) (.ref L)) y := fun y hy => ((ci y hy).mono fun b zs e => putL hdL _ _ (Same.new nL _ _ e)).put (ne y hy)
      generalize upd (upd H2 L (.lst [])) d (.dK (putK kvs (nK x) (.ref L))) = H3 at s3 hd3 hL3 ci3 ⊢
      have kl3 := putK_le kvs (nK x) (.ref L)
      have val3 : valV (putK kvs (nK x) (.ref L)) (nK x) = some (.ref L) := by rw [valV_put, if_pos rfl]
      generalize putK kvs (nK x) (.ref L) = kv3 at hd3 ci3 kl3 val3 ⊢
      have N3 := N.same s3
      refine ⟨_, rfl, _, rfl, a, _, 0, _, rfl, rfl, SqT.of N3.top, at0, _, _, rfl, rfl, _, rfl, ite2 (fun hg => ?_) (fun hg => ?_)⟩
      · have hg' : n.many ≤ x := by
          have := of_decide_eq_true hg
          omega
        obtain ⟨kk, hkk⟩ : ∃ kk, n.gates[x - n.many]? = some kk := ⟨_, List.getElem?_eq_getElem (by omega)⟩
        obtain ⟨c1, c2⟩ := clo kk hg' hkk
        have l1 := place_lt ok hg' hkk (.inl rfl)
        have l2 := place_lt ok hg' hkk (.inr rfl)
        obtain ⟨p1, ms1, v1, h1, ml1, nd1⟩ := ci3 _ (inT _ c1 l1)
        obtain ⟨p2, ms2, v2, h2, ml2, nd2⟩ := ci3 _ (inT _ c2 l2)
        have lt1 := wok.lt _ c1
        have lt2 := wok.lt _ c2
        have f1 := ml1.full ok lt1 hk1
        have f2 := ml2.full ok lt2 hk1
        have b1 : ∀ M ∈ ms1, 0 < M ∧ M < 2 ^ 23 := fun M h => ml1.lt23 ok lt1 h
        have b2 : ∀ M ∈ ms2, 0 < M ∧ M < 2 ^ 23 := fun M h => ml2.lt23 ok lt2 h
        have lm1 := nodup_lt23 nd1 fun M h => (b1 M h).2
        have lm2 := nodup_lt23 nd2 fun M h => (b2 M h).2
        have w1 := pow_lt23 (x := kk.2.1) (by omega)
        have w2 := pow_lt23 (x := kk.2.2) (by omega)
        refine ⟨_, rfl, _, rfl, a, n, g, o, ps, x, kk, rfl, N3, hg', hkk, fun t nt => ?_⟩
        have s4 := s3.trans (Same.new (o := .tup [nV kk.2.1, nV kk.2.2]) nt)
        have ht4 : upd H3 t (.tup [nV kk.2.1, nV kk.2.2]) t = some (.tup [nV kk.2.1, nV kk.2.2]) := upd_same
        have st := Same.new (o := .tup [nV kk.2.1, nV kk.2.2]) nt
        generalize upd H3 t (.tup [nV kk.2.1, nV kk.2.2]) = H4 at s4 ht4 st ⊢
        have hd4 := st _ _ hd3
        refine ⟨t, _, rfl, SqT.of ht4, rfl, _, _, rfl, _, _, rfl, rfl, ?_⟩
        have dg1 : DGet H4 d (nV kk.2.1) (some (.ref p1)) := .inl ⟨kv3, nK kk.2.1, .inl hd4, rfl, v1.symm⟩
        refine ⟨_, rfl, _, rfl, d, _, rfl, dg1, _, rfl, _, _, rfl, rfl, ⟨by omega, by omega, by decide⟩, ?_⟩
        dsimp -proj only
        rw [shl_of]
        refine ⟨small 1, fun L1 nL1 => ⟨p1, L1, _, _, rfl, rfl, Same.new nL1 _ _ (st _ _ h1), upd_same, by rw [List.length_map]; exact lm1, fun R1 nR1 => ?_⟩⟩
        have s5 := (Same.new (o := .lst [V.int ((2 ^ kk.2.1 : Nat) : Int)]) nL1).trans (Same.new (o := .lst (ms1.map nV ++ [V.int ((2 ^ kk.2.1 : Nat) : Int)])) nR1)
        have hR1 : upd (upd H4 L1 (.lst [V.int ((2 ^ kk.2.1 : Nat) : Int)])) R1 (.lst (ms1.map nV ++ [V.int ((2 ^ kk.2.1 : Nat) : Int)])) R1 = some (.lst ((ms1 ++ [2 ^ kk.2.1]).map nV)) := by
          rw [upd_same, List.map_append]
          rfl
        generalize upd (upd H4 L1 (.lst [V.int ((2 ^ kk.2.1 : Nat) : Int)])) R1 (.lst (ms1.map nV ++ [V.int ((2 ^ kk.2.1 : Nat) : Int)])) = H5 at s5 hR1 ⊢
        have hd5 := s5 _ _ hd4
        have dg2 : DGet H5 d (nV kk.2.2) (some (.ref p2)) := .inl ⟨kv3, nK kk.2.2, .inl hd5, rfl, v2.symm⟩
        refine ⟨_, rfl, _, rfl, d, _, rfl, dg2, _, rfl, _, _, rfl, rfl, ⟨by omega, by omega, by decide⟩, ?_⟩
        dsimp -proj only
        rw [shl_of]
        refine ⟨small 1, fun L2 nL2 => ⟨p2, L2, _, _, rfl, rfl, Same.new nL2 _ _ (s5 _ _ (st _ _ h2)), upd_same, by rw [List.length_map]; exact lm2, fun R2 nR2 => ?_⟩⟩
        have s6 := (Same.new (o := .lst [V.int ((2 ^ kk.2.2 : Nat) : Int)]) nL2).trans (Same.new (o := .lst (ms2.map nV ++ [V.int ((2 ^ kk.2.2 : Nat) : Int)])) nR2)
        have hR2 : upd (upd H5 L2 (.lst [V.int ((2 ^ kk.2.2 : Nat) : Int)])) R2 (.lst (ms2.map nV ++ [V.int ((2 ^ kk.2.2 : Nat) : Int)])) R2 = some (.lst ((ms2 ++ [2 ^ kk.2.2]).map nV)) := by
          rw [upd_same, List.map_append]
          rfl
        generalize upd (upd H5 L2 (.lst [V.int ((2 ^ kk.2.2 : Nat) : Int)])) R2 (.lst (ms2.map nV ++ [V.int ((2 ^ kk.2.2 : Nat) : Int)])) = H6 at s6 hR2 ⊢
        have hd6 := s6 _ _ hd5
        refine ⟨_, rfl, R1, R2, _, _, k, rfl, s6 _ _ hR1, hR2, fun M hM => ?_, fun M hM => ?_, hk, fun p H7 F s7 np hp nF lF fd => ?_⟩
        · rcases List.mem_append.mp hM with h | h
          · exact b1 M h
          · rw [List.mem_singleton.mp h]
            exact w1
        · rcases List.mem_append.mp hM with h | h
          · exact (b2 M h).2
          · rw [List.mem_singleton.mp h]
            exact w2.2
        have ml := gate_found ok hg' xlt hkk f1 f2 fd
        have hd7 := s7 _ _ hd6
        have s47 := (st.trans (s5.trans s6)).trans s7
        refine ⟨_, rfl, _, rfl, d, _, rfl, DPut.k (k := nK x) hd7 (small256 (by omega)), ?_⟩
        have kl7 := putK_le kv3 (nK x) (.ref p)
        refine ⟨_, _, _, putK kv3 (nK x) (.ref p), rfl, putA (s3.trans s47), upd_same, by omega, fun y hy => ?_⟩
        rcases (tk y).mp hy with hy | rfl
        · exact ((ci3 y hy).mono fun b zs e => putL hd7 _ _ (s47 _ _ e)).put (ne y hy)
        · exact ⟨p, _, by rw [valV_put, if_pos rfl], putL hd7 _ _ hp, ml, nF.filter _⟩
      · have hx0 : x < n.many := by
          refine Nat.lt_of_not_le fun z => hg (decide_eq_true ?_)
          show ((x : Nat) : Int) ≥ ((n.many : Nat) : Int)
          omega
        refine ⟨_, _, _, kv3, rfl, s3, hd3, by omega, fun y hy => ?_⟩
        rcases (tk y).mp hy with hy | rfl
        · exact ci3 y hy
        · exact ⟨L, [], val3, hL3, ML.input hx0, List.nodup_nil⟩
    · rintro σ H2 ⟨x4, x5, x6, kvs, rfl, s2, hd2, kl, ci⟩
      rw [List.length_map, List.take_length] at ci
      exact ⟨_, rfl, q d H2 kvs s2 hd2 ci⟩
end
section
variable {P : Program} {w : World} {K : PySem.W.Frag} {mg : Str → Option Value} {base : Heap} {Ts : List Addr}
def spCutMasksT : Sp := fun vs H Q _ => ∃ (a wa : Addr) (n : Net) (g o : Addr) (ps : List Addr) (ws : List Nat) (k : Nat), vs = [.ref a, .ref wa, nV k] ∧ NetAt H a n g o ps ∧ n.Ok ∧ H wa = some (.tup (ws.map nV)) ∧ WsOk n ws ∧ 1 ≤ k ∧ k ≤ 1000 ∧
  ∀ d H' kvs, Same H H' → H' d = some (.dK kvs) → (∀ x ∈ ws, CutsIn n k H' kvs x) → Q (.ref d) H'
theorem ok_cutmasksT {f c : Addr} (D : Dfn K mg "cut_masks" s_cut_masks f c) (T : Txt mg) (c_places : Cal P w K mg base 1 "places" spPlaces []) (c_gate_masks : Cal P w K mg base 2 "gate_masks" spGateMasks []) : Cal P w K mg base 3 "cut_masks" spCutMasksT [] := by
  refine cal D (fun _ _ _ _ _ _ us hl => match us, hl with | [_, _, _], _ => rfl) sc_cut_masks (fun vs H Q E h => ?_) (fun A outer s H vs Q E hr h => ?_)
  · obtain ⟨a, wa, n, g, o, ps, ws, k, rfl, _⟩ := h
    rfl
  · obtain ⟨a, wa, n, g, o, ps, ws, k, rfl, N, ok, hwa, wok, hk1, hk, q⟩ := h
    have m8 := ok.m8
    have g16 := ok.g16
    refine ⟨_, (pss_cons (ps_set (i := 3) sc_cut_masks.nd rfl (by first | exact Or.inl rfl | exact Or.inr rfl) pe_dnewK)
      (pss_cons (ps_for PassesOwn.never rfl (pi_tup (pv 1)) (pg_name (i := 4) sc_cut_masks.nd rfl (by first | exact Or.inl rfl | exact Or.inr rfl))
        (pss_cons (ps_dput (Nat.lt_of_le_of_lt (Nat.add_le_add_left (by decide) _) hr.units) (pv 3) (pv 4) (pe_lst pa_nil) (by rfl))
      (pss_one (ps_if (pt_cmpR op_ge (pv 4) (pe_ix ix_tup (pv 0) pe_int (fun _ _ => rfl)) (nomark _)) (pss_cons (ps_asg (pe_c c_places hr (by decide) (by rfl) (pa_cons (pv 0) (pa_cons (pv 4) pa_nil))) (pg_tup rfl (pgs_cons (pg_name (i := 5) sc_cut_masks.nd rfl (by first | exact Or.inl rfl | exact Or.inr rfl)) (pgs_cons (pg_name (i := 6) sc_cut_masks.nd rfl (by first | exact Or.inl rfl | exact Or.inr rfl)) pgs_nil))))
      (pss_one (ps_dput (Nat.lt_of_le_of_lt (Nat.add_le_add_left (by decide) _) hr.units) (pv 3) (pv 4) (pe_c c_gate_masks hr (by decide) (by rfl) (pa_cons (pe_op op_cat (pe_dget (Nat.lt_of_le_of_lt (Nat.add_le_add_left (by decide) _) hr.units) (pv 3) (pv 5) (fun _ _ => rfl)) (pe_lst (pa_cons (pe_op op_shl pe_int (pv 5)) pa_nil))) (pa_cons (pe_op op_cat (pe_dget (Nat.lt_of_le_of_lt (Nat.add_le_add_left (by decide) _) hr.units) (pv 3) (pv 6) (fun _ _ => rfl)) (pe_lst (pa_cons (pe_op op_shl pe_int (pv 6)) pa_nil))) (pa_cons (pv 2) pa_nil)))) (by rfl)))) pss_nil))))
      (pss_one (ps_ret (pv 3))))), ?_⟩
    refine fun d nd => ?_
    have s1 := Same.new (o := .dK []) nd
    have putA : ∀ {Hx : Hp} {u : HO}, Same H Hx → Same H (upd Hx d u) := fun {Hx u} x b o e => by rw [upd_ne (ne_of_none e nd)]; exact x b o e
    have putL : ∀ {Hx : Hp} {u : HO} {kvs : List (L2.Key × V)}, Hx d = some (.dK kvs) → ∀ b zs, Hx b = some (.lst zs) → upd Hx d u b = some (.lst zs) := fun {Hx u kvs} hd b zs e => by
      rw [upd_ne (fun z => by rw [z, hd] at e; cases e)]
      exact e
    have hd1 : upd H d (.dK []) d = some (.dK []) := upd_same
    generalize upd H d (.dK []) = H1 at s1 hd1 ⊢
    have wl : ws.length ≤ 24 := by
      have nd : ws.Nodup := wok.ris.imp fun h => Nat.ne_of_lt h
      have := nd.length_le_of_subset (l₂ := List.range (n.many + n.gates.length)) fun x hx => List.mem_range.mpr (wok.lt x hx)
      rw [List.length_range] at this
      omega
    refine ⟨_, rfl, wa, rfl, ⟨_, SqT.of (s1 _ _ hwa)⟩, ?_⟩
    refine for_tup (K := K) (a := wa) (xs := ws.map nV) (fun i σ H' => ∃ (x4 x5 x6 : Option V) (kvs : List (L2.Key × V)), σ = [some (.ref a), some (.ref wa), some (nV k), some (.ref d), x4, x5, x6] ∧ Same H H' ∧ H' d = some (.dK kvs) ∧ kvs.length ≤ 2 * i ∧ ∀ x ∈ ws.take i, CutsIn n k H' kvs x) ⟨none, none, none, [], rfl, s1, hd1, Nat.le_refl _, fun x hx => (by cases hx)⟩ ?_ ?_ ?_
    · rintro i σ H' _ ⟨_, _, _, _, _, s', _⟩
      exact SqT.of (s' _ _ hwa)
    · rintro i x σ H2 hx ⟨x4, x5, x6, kvs, rfl, s2, hd2, kl, ci⟩
      have hi : i < ws.length := by
        have := (List.getElem?_eq_some_iff.mp hx).1
        rwa [List.length_map] at this
      rw [natAt hi] at hx
      cases hx
      have hx := getD_mem hi
      have xlt := wok.lt _ hx
      have tk := mem_take_succ hi
      have inT : ∀ y ∈ ws, y < ws.getD i 0 → y ∈ ws.take i := fun y hy h => mem_take_lt wok.ris hi hy h
      have ne : ∀ y ∈ ws.take i, y ≠ ws.getD i 0 := fun y hy => Nat.ne_of_lt (not_mem_take wok.ris hi hy)
      have clo := wok.clo _ hx
      generalize ws.getD i 0 = x at hx xlt tk inT ne clo ⊢
      refine ⟨small 0, fun L nL => ⟨_, rfl, _, rfl, d, _, rfl, DPut.k (k := nK x) (Same.new nL _ _ hd2) (small256 (by omega)), ?_⟩⟩
      have hdL : upd H2 L (.lst []) d = some (.dK kvs) := Same.new nL _ _ hd2
      have s3 : Same H (upd (upd H2 L (.lst [])) d (.dK (putK kvs (nK x) (.ref L)))) := putA (s2.trans (Same.new nL))
      have hd3 : upd (upd H2 L (.lst [])) d (.dK (putK kvs (nK x) (.ref L))) d = some (.dK (putK kvs (nK x) (.ref L))) := upd_same
      have hL3 : upd (upd H2 L (.lst [])) d (.dK (putK kvs (nK x) (.ref L))) L = some (.lst []) := putL hdL _ _ upd_same
      have ci3 : ∀ y ∈ ws.take i, CutsIn n k (upd (upd H2 L (.lst [])) d (.dK (putK kvs (nK x) (.ref L)))) (putK kvs (nK x) (.ref L)) y := fun y hy => ((ci y hy).mono fun b zs e => putL hdL _ _ (Same.new nL _ _ e)).put (ne y hy)
      generalize upd (upd H2 L (.lst [])) d (.dK (putK kvs (nK x) (.ref L))) = H3 at s3 hd3 hL3 ci3 ⊢
      have kl3 := putK_le kvs (nK x) (.ref L)
      have val3 : valV (putK kvs (nK x) (.ref L)) (nK x) = some (.ref L) := by rw [valV_put, if_pos rfl]
      generalize putK kvs (nK x) (.ref L) = kv3 at hd3 ci3 kl3 val3 ⊢
      have N3 := N.same s3
      refine ⟨_, rfl, _, rfl, a, _, 0, _, rfl, rfl, SqT.of N3.top, at0, _, _, rfl, rfl, _, rfl, ite2 (fun hg => ?_) (fun hg => ?_)⟩
      · have hg' : n.many ≤ x := by
          have := of_decide_eq_true hg
          omega
        obtain ⟨kk, hkk⟩ : ∃ kk, n.gates[x - n.many]? = some kk := ⟨_, List.getElem?_eq_getElem (by omega)⟩
        obtain ⟨c1, c2⟩ := clo kk hg' hkk
        have l1 := place_lt ok hg' hkk (.inl rfl)
        have l2 := place_lt ok hg' hkk (.inr rfl)
        obtain ⟨p1, ms1, v1, h1, ml1, nd1⟩ := ci3 _ (inT _ c1 l1)
        obtain ⟨p2, ms2, v2, h2, ml2, nd2⟩ := ci3 _ (inT _ c2 l2)
        have lt1 := wok.lt _ c1
        have lt2 := wok.lt _ c2
        have f1 := ml1.full ok lt1 hk1
        have f2 := ml2.full ok lt2 hk1
        have b1 : ∀ M ∈ ms1, 0 < M ∧ M < 2 ^ 23 := fun M h => ml1.lt23 ok lt1 h
        have b2 : ∀ M ∈ ms2, 0 < M ∧ M < 2 ^ 23 := fun M h => ml2.lt23 ok lt2 h
        have lm1 := nodup_lt23 nd1 fun M h => (b1 M h).2
        have lm2 := nodup_lt23 nd2 fun M h => (b2 M h).2
        have w1 := pow_lt23 (x := kk.2.1) (by omega)
        have w2 := pow_lt23 (x := kk.2.2) (by omega)
        refine ⟨_, rfl, _, rfl, a, n, g, o, ps, x, kk, rfl, N3, hg', hkk, fun t nt => ?_⟩
        have s4 := s3.trans (Same.new (o := .tup [nV kk.2.1, nV kk.2.2]) nt)
        have ht4 : upd H3 t (.tup [nV kk.2.1, nV kk.2.2]) t = some (.tup [nV kk.2.1, nV kk.2.2]) := upd_same
        have st := Same.new (o := .tup [nV kk.2.1, nV kk.2.2]) nt
        generalize upd H3 t (.tup [nV kk.2.1, nV kk.2.2]) = H4 at s4 ht4 st ⊢
        have hd4 := st _ _ hd3
        refine ⟨t, _, rfl, SqT.of ht4, rfl, _, _, rfl, _, _, rfl, rfl, ?_⟩
        have dg1 : DGet H4 d (nV kk.2.1) (some (.ref p1)) := .inl ⟨kv3, nK kk.2.1, .inl hd4, rfl, v1.symm⟩
        refine ⟨_, rfl, _, rfl, d, _, rfl, dg1, _, rfl, _, _, rfl, rfl, ⟨by omega, by omega, by decide⟩, ?_⟩
        dsimp -proj only
        rw [shl_of]
        refine ⟨small 1, fun L1 nL1 => ⟨p1, L1, _, _, rfl, rfl, Same.new nL1 _ _ (st _ _ h1), upd_same, by rw [List.length_map]; exact lm1, fun R1 nR1 => ?_⟩⟩
        have s5 := (Same.new (o := .lst [V.int ((2 ^ kk.2.1 : Nat) : Int)]) nL1).trans (Same.new (o := .lst (ms1.map nV ++ [V.int ((2 ^ kk.2.1 : Nat) : Int)])) nR1)
        have hR1 : upd (upd H4 L1 (.lst [V.int ((2 ^ kk.2.1 : Nat) : Int)])) R1 (.lst (ms1.map nV ++ [V.int ((2 ^ kk.2.1 : Nat) : Int)])) R1 = some (.lst ((ms1 ++ [2 ^ kk.2.1]).map nV)) := by
          rw [upd_same, List.map_append]
          rfl
        generalize upd (upd H4 L1 (.lst [V.int ((2 ^ kk.2.1 : Nat) : Int)])) R1 (.lst (ms1.map nV ++ [V.int ((2 ^ kk.2.1 : Nat) : Int)])) = H5 at s5 hR1 ⊢
        have hd5 := s5 _ _ hd4
        have dg2 : DGet H5 d (nV kk.2.2) (some (.ref p2)) := .inl ⟨kv3, nK kk.2.2, .inl hd5, rfl, v2.symm⟩
        refine ⟨_, rfl, _, rfl, d, _, rfl, dg2, _, rfl, _, _, rfl, rfl, ⟨by omega, by omega, by decide⟩, ?_⟩
        dsimp -proj only
        rw [shl_of]
        refine ⟨small 1, fun L2 nL2 => ⟨p2, L2, _, _, rfl, rfl, Same.new nL2 _ _ (s5 _ _ (st _ _ h2)), upd_same, by rw [List.length_map]; exact lm2, fun R2 nR2 => ?_⟩⟩
        have s6 := (Same.new (o := .lst [V.int ((2 ^ kk.2.2 : Nat) : Int)]) nL2).trans (Same.new (o := .lst (ms2.map nV ++ [V.int ((2 ^ kk.2.2 : Nat) : Int)])) nR2)
        have hR2 : upd (upd H5 L2 (.lst [V.int ((2 ^ kk.2.2 : Nat) : Int)])) R2 (.lst (ms2.map nV ++ [V.int ((2 ^ kk.2.2 : Nat) : Int)])) R2 = some (.lst ((ms2 ++ [2 ^ kk.2.2]).map nV)) := by
          rw [upd_same, List.map_append]
          rfl
        generalize upd (upd H5 L2 (.lst [V.int ((2 ^ kk.2.2 : Nat) : Int)])) R2 (.lst (ms2.map nV ++ [V.int ((2 ^ kk.2.2 : Nat) : Int)])) = H6 at s6 hR2 ⊢
        have hd6 := s6 _ _ hd5
        refine ⟨_, rfl, R1, R2, _, _, k, rfl, s6 _ _ hR1, hR2, fun M hM => ?_, fun M hM => ?_, hk, fun p H7 F s7 np hp nF lF fd => ?_⟩
        · rcases List.mem_append.mp hM with h | h
          · exact b1 M h
          · rw [List.mem_singleton.mp h]
            exact w1
        · rcases List.mem_append.mp hM with h | h
          · exact (b2 M h).2
          · rw [List.mem_singleton.mp h]
            exact w2.2
        have ml := gate_found ok hg' xlt hkk f1 f2 fd
        have hd7 := s7 _ _ hd6
        have s47 := (st.trans (s5.trans s6)).trans s7
        refine ⟨_, rfl, _, rfl, d, _, rfl, DPut.k (k := nK x) hd7 (small256 (by omega)), ?_⟩
        have kl7 := putK_le kv3 (nK x) (.ref p)
        refine ⟨_, _, _, putK kv3 (nK x) (.ref p), rfl, putA (s3.trans s47), upd_same, by omega, fun y hy => ?_⟩
        rcases (tk y).mp hy with hy | rfl
        · exact ((ci3 y hy).mono fun b zs e => putL hd7 _ _ (s47 _ _ e)).put (ne y hy)
        · exact ⟨p, _, by rw [valV_put, if_pos rfl], putL hd7 _ _ hp, ml, nF.filter _⟩
      · have hx0 : x < n.many := by
          refine Nat.lt_of_not_le fun z => hg (decide_eq_true ?_)
          show ((x : Nat) : Int) ≥ ((n.many : Nat) : Int)
          omega
        refine ⟨_, _, _, kv3, rfl, s3, hd3, by omega, fun y hy => ?_⟩
        rcases (tk y).mp hy with hy | rfl
        · exact ci3 y hy
        · exact ⟨L, [], val3, hL3, ML.input hx0, List.nodup_nil⟩
    · rintro σ H2 ⟨x4, x5, x6, kvs, rfl, s2, hd2, kl, ci⟩
      rw [List.length_map, List.take_length] at ci
      exact ⟨_, rfl, q d H2 kvs s2 hd2 ci⟩
end
section
variable {P : Program} {w : World} {K : PySem.W.Frag} {mg : Str → Option Value} {base : Heap} {Ts : List Addr}
def spTold (Ts : List Addr) : Sp := fun vs H Q _ => ∃ (la : Addr) (ms : List Nat), vs = [.ref la] ∧ H la = some (.lst (ms.map nV)) ∧ ms.length < sizeLine ∧ (∀ M ∈ ms, 0 < M ∧ M < 2 ^ 23) ∧ Tabs Ts H ∧
  ∀ p H' (rs : List Addr) (cs : List (List Nat)), Aft Ts H H' → H' p = some (.tup (rs.map V.ref)) → TupsAt H' rs cs → cs.Perm (ms.map bitsOf) → (cs.Pairwise fun a b => lexN b a = false) → Q (.ref p) H'
theorem ok_told {f c : Addr} (D : Dfn K mg "told_cuts" s_told_cuts f c) (T : Txt mg) (c_wires_of : Cal P w K mg base 1 "wires_of" (spWiresOf Ts) []) : Cal P w K mg base 2 "told_cuts" (spTold Ts) [] := by
  refine cal D (fun _ _ _ _ _ _ us hl => match us, hl with | [_], _ => rfl) sc_told_cuts (fun vs H Q E h => ?_) (fun A outer s H vs Q E hr h => ?_)
  · obtain ⟨la, ms, rfl, _⟩ := h
    rfl
  · obtain ⟨la, ms, rfl, hla, hl, hb, tb, q⟩ := h
    refine ⟨_, (pss_one (ps_ret (pe_callTy call_tuple_of (by rfl) T.b_tuple (by decide +kernel) (pa_cons (pe_callB cr_sortTup (by rfl) T.b_sorted (by decide +kernel) (pa_cons (pe_lc (own := [("mask", 1)]) (g := gName 1) (tt := tYes) rfl sc_told_cuts.nd (pi_list (pv 0)) (blkOk_by (own := [("mask", 1)]) (N := ["masks", "mask"]) (sc := defScope s_told_cuts) (by decide +kernel)) (fun _ _ _ _ _ => (pg_name (i := 1) sc_told_cuts.nd rfl (by first | exact Or.inl rfl | exact Or.inr rfl))) (fun _ _ _ _ _ => pts_nil) (fun _ _ _ _ _ => (pe_c c_wires_of hr (by decide) (by rfl) (pa_cons (pv 1) pa_nil)))) pa_nil)) pa_nil)))), ?_⟩
    refine ⟨_, rfl, la, rfl, ⟨_, SqL.of hla⟩, fun M nM => ?_⟩
    have laM : la ≠ M := fun z => by rw [z, nM] at hla; cases hla
    refine lc_list (K := K) (a := la) (xs := ms.map nV) (fun i H' => ∃ ts : List Addr, H' M = some (.lst (ts.map V.ref)) ∧ Aft Ts H H' ∧ RefsAt (fun x => (bitsOf x).map nV) H' ts (ms.take i)) ⟨[], upd_same, Aft.new tb nM, RefsAt.nil _ _⟩ (fun _ H' _ h => h.elim fun ts h => SqL.of (h.2.1.lst tb hla)) ?_ ?_
    · rintro i x H4 hx ⟨ts, hM4, a4, R4⟩
      have hi : i < ms.length := by
        have := (List.getElem?_eq_some_iff.mp hx).1
        rwa [List.length_map] at this
      rw [natAt hi] at hx
      cases hx
      refine ⟨rfl, ?_⟩
      unfold tYes
      refine iteT ?_
      refine ⟨_, rfl, ms.getD i 0, rfl, (hb _ (getD_mem hi)).2, a4.tb, fun cp H5 a5 hcp => ?_⟩
      have hM5 := a5.lst a4.tb hM4
      have R5 := (R4.mono fun b zs e => a5.tup a4.tb e).push (y := ms.getD i 0) hcp
      have tl : ts.length ≤ i := by
        rw [R4.1, List.length_take]
        omega
      refine ⟨_, hM5, by rw [List.length_map]; omega, ts ++ [cp], by rw [upd_same, List.map_append]; rfl, ?_, ?_⟩
      · exact ⟨fun b u e nb => by rw [upd_ne (ne_of_none e nM)]; exact (a4.trans a5).kp b u e nb, a5.tb.upd (tb.none nM)⟩
      · have ew : ms.getD i 0 = ms[i] := by rw [List.getD_eq_getElem?_getD, List.getElem?_eq_getElem hi]; rfl
        rw [List.take_add_one, List.getElem?_eq_getElem hi, Option.toList_some, ← ew]
        exact R5.mono fun b zs e => by
          rw [upd_ne (fun z => by rw [z, hM5] at e; cases e)]
          exact e
    · rintro H4 ⟨ts, hM4, a4, R4⟩
      rw [List.length_map, List.take_length] at R4
      have R4' : TupsAt H4 ts (ms.map bitsOf) := ⟨by rw [List.length_map]; exact R4.1, fun i p x e1 e2 => by
        rw [List.getElem?_map] at e2
        cases e : ms[i]? with
        | none => rw [e] at e2; cases e2
        | some y =>
          rw [e] at e2
          cases e2
          exact R4.2 i p y e1 e⟩
      refine ⟨M, ts.map V.ref, fun x => (tupN H4 x).map (fun n : Nat => (n : Int)), rfl, SqL.of hM4, fun x hx => ?_, fun ys p srt pm np => ?_⟩
      · obtain ⟨t, c', rfl, hc, ht⟩ := R4'.all hx
        dsimp only
        rw [tupN_at ht]
        refine ⟨⟨t, rfl, by rw [mapV]; exact ht⟩, fun z => ?_⟩
        obtain ⟨M', hM', rfl⟩ := List.mem_map.mp hc
        have z' := List.map_eq_nil_iff.mp z
        have : pop M' = 0 := by
          unfold pop
          rw [z']
          rfl
        have := pop_zero_iff.mp this
        have := (hb M' hM').1
        omega
      · obtain ⟨rs, ds, rfl, hr', pd, sd⟩ := tups_sorted R4' srt pm
        refine ⟨p, _, rfl, .inl ⟨SqL.of upd_same, fun r nr => ?_⟩⟩
        have a5 := Aft.new (o := .lst (rs.map V.ref)) a4.tb np
        have a6 := Aft.new (o := .tup (rs.map V.ref)) a5.tb nr
        exact q r _ rs ds ((a4.trans a5).trans a6) upd_same (hr'.mono fun b zs e => a6.tup a5.tb (a5.tup a4.tb e)) pd sd
end
section
variable {P : Program} {w : World} {K : PySem.W.Frag} {mg : Str → Option Value} {base : Heap} {Ts : List Addr}
theorem ws_cone {n : Net} (ok : n.Ok) {g : Nat} {xs : List Nat} (hg : g < n.many + n.gates.length) (h : Rset n [] g xs) : WsOk n xs := by
  refine ⟨h.1, fun x hx => ?_, fun x hx k hm hk => ?_⟩
  · have := ((h.2 x).mp hx).le ok
    omega
  · have r := (h.2 x).mp hx
    exact ⟨(h.2 _).mpr (.step r hm hm hk (.inl rfl) (fun z => by cases z)), (h.2 _).mpr (.step r hm hm hk (.inr rfl) (fun z => by cases z))⟩
def spCutsOf (Ts : List Addr) : Sp := fun vs H Q _ => ∃ (a : Addr) (n : Net) (g o : Addr) (ps : List Addr) (gt k : Nat), vs = [.ref a, nV gt, nV k] ∧ NetAt H a n g o ps ∧ n.Ok ∧ gt < n.many + n.gates.length ∧ 1 ≤ k ∧ k ≤ 1000 ∧ Tabs Ts H ∧
  ∀ p H' (rs : List Addr) (cs : List (List Nat)), Aft Ts H H' → H' p = some (.tup (rs.map V.ref)) → TupsAt H' rs cs → CutsAre n k gt cs → cs.length < sizeLine → Q (.ref p) H'
theorem ok_cutsof {f c : Addr} (D : Dfn K mg "cuts_of" s_cuts_of f c) (T : Txt mg) (c_told_cuts : Cal P w K mg base 2 "told_cuts" (spTold Ts) []) (c_cut_masks : Cal P w K mg base 3 "cut_masks" spCutMasksT []) (c_cone : Cal P w K mg base 3 "cone" (spCone Ts) []) : Cal P w K mg base 4 "cuts_of" (spCutsOf Ts) [] := by
  refine cal D (fun _ _ _ _ _ _ us hl => match us, hl with | [_, _, _], _ => rfl) sc_cuts_of (fun vs H Q E h => ?_) (fun A outer s H vs Q E hr h => ?_)
  · obtain ⟨a, n, g, o, ps, gt, k, rfl, _⟩ := h
    rfl
  · obtain ⟨a, n, g, o, ps, gt, k, rfl, N, ok, hgt, hk1, hk, tb, q⟩ := h
    refine ⟨_, (pss_one (ps_ret (pe_c c_told_cuts hr (by decide) (by rfl) (pa_cons (pe_dget (Nat.lt_of_le_of_lt (Nat.add_le_add_left (by decide) _) hr.units) (pe_c c_cut_masks hr (by decide) (by rfl) (pa_cons (pv 0) (pa_cons (pe_c c_cone hr (by decide) (by rfl) (pa_cons (pv 0) (pa_cons (pv 1) pa_nil))) (pa_cons (pv 2) pa_nil)))) (pv 1) (fun _ _ => rfl)) pa_nil)))), ?_⟩
    refine ⟨_, rfl, _, rfl, _, rfl, a, n, g, o, ps, gt, rfl, N, ok, hgt, tb, fun wa H1 xs a1 hwa rs => ?_⟩
    have wok := ws_cone ok hgt rs
    have hin : gt ∈ xs := (rs.2 gt).mpr (.here fun z => by cases z)
    refine ⟨_, rfl, a, wa, n, g, o, ps, xs, k, rfl, N.aft tb a1, ok, hwa, wok, hk1, hk, fun d H2 kvs s2 hd ci => ?_⟩
    obtain ⟨p, ms, v, hp, ml, nd⟩ := ci gt hin
    have b := fun M (h : M ∈ ms) => ml.lt23 ok hgt h
    have dg : DGet H2 d (nV gt) (some (.ref p)) := .inl ⟨kvs, nK gt, .inl hd, rfl, v.symm⟩
    have a2 := Aft.ofSame a1.tb s2
    refine ⟨_, rfl, d, _, rfl, dg, p, ms, rfl, hp, nodup_lt23 nd fun M h => (b M h).2, b, a2.tb, fun r H3 rs cs a3 hr ht pm srt => ?_⟩
    exact q r H3 rs cs ((a1.trans a2).trans a3) hr ht (cuts_of_masks ok ml nd pm srt) (by rw [pm.length_eq, List.length_map]; exact nodup_lt23 nd fun M h => (b M h).2)
end
section
variable {P : Program} {w : World} {K : PySem.W.Frag} {mg : Str → Option Value} {base : Heap} {Ts : List Addr}
/-- the cuts of a wire, told -/
def CutsTold (n : Net) (k : Nat) (H : Hp) (q : Addr) (x : Nat) : Prop := ∃ (rs : List Addr) (cs : List (List Nat)), H q = some (.tup (rs.map V.ref)) ∧ TupsAt H rs cs ∧ CutsAre n k x cs ∧ cs.length < sizeLine
theorem CutsTold.mono {n : Net} {k : Nat} {H H' : Hp} {q : Addr} {x : Nat} (h : CutsTold n k H q x) (m : ∀ b xs, H b = some (.tup xs) → H' b = some (.tup xs)) : CutsTold n k H' q x := by
  obtain ⟨rs, cs, h1, h2, h3⟩ := h
  exact ⟨rs, cs, m _ _ h1, h2.mono m, h3⟩
def spAllCuts (Ts : List Addr) : Sp := fun vs H Q _ => ∃ (a : Addr) (n : Net) (g o : Addr) (ps : List Addr) (k : Nat), vs = [.ref a, nV k] ∧ NetAt H a n g o ps ∧ n.Ok ∧ 2 ≤ k ∧ k ≤ 1000 ∧ Tabs Ts H ∧
  ∀ p H' (qs : List Addr), Aft Ts H H' → H' p = some (.tup (qs.map V.ref)) → PtsAt (CutsTold n k) H' qs (List.range (n.many + n.gates.length)) → Q (.ref p) H'
theorem ok_allcuts {f c PA' : Addr} (D : Dfn K mg "all_cuts" s_all_cuts f c) (T : Txt mg) (c_wires_in : Cal P w K mg base 1 "wires_in" spWires []) (c_cut_masks : Cal P w K mg base 3 "cut_masks" spCutMasks []) (c_places : Cal P w K mg base 1 "places" spPlaces []) (c_told_cuts : Cal P w K mg base 2 "told_cuts" (spTold Ts) []) (TB_all_cuts : GxR.TabB base mg c PA') (hP : PA' ∈ Ts) : Cal P w K mg base 4 "all_cuts" (spAllCuts Ts) [] := by
  refine cal D (fun _ _ _ _ _ _ us hl => match us, hl with | [_, _], _ => rfl) sc_all_cuts (fun vs H Q E h => ?_) (fun A outer s H vs Q E hr h => ?_)
  · obtain ⟨a, n, g, o, ps, k, rfl, _⟩ := h
    rfl
  · obtain ⟨a, n, g, o, ps, k, rfl, N, ok, hk2, hk, tb, q⟩ := h
    have m8 := ok.m8
    have g16 := ok.g16
    refine ⟨_, (pss_cons (ps_set (i := 2) sc_all_cuts.nd rfl (by first | exact Or.inl rfl | exact Or.inr rfl) (pe_listRg rfl (by rfl) T.b_list (prg_1 (by rfl) T.b_range (pe_c c_wires_in hr (by decide) (by rfl) (pa_cons (pv 0) pa_nil)))))
      (pss_cons (ps_set (i := 3) sc_all_cuts.nd rfl (by first | exact Or.inl rfl | exact Or.inr rfl) (pe_c c_cut_masks hr (by decide) (by rfl) (pa_cons (pv 0) (pa_cons (pv 2) (pa_cons (pv 1) pa_nil)))))
      (pss_cons (ps_for PassesOwn.never rfl (pi_list (pe_slice sl_list (pv 2) (po_some (pe_ix ix_tup (pv 0) pe_int (fun _ _ => rfl))) po_none)) (pg_name (i := 4) sc_all_cuts.nd rfl (by first | exact Or.inl rfl | exact Or.inr rfl))
        (pss_one (ps_if (pt_cmpR op_eq (pe_callB call_len_seq (by rfl) T.b_len (by decide +kernel) (pa_cons (pe_dget (Nat.lt_of_le_of_lt (Nat.add_le_add_left (by decide) _) hr.units) (pv 3) (pv 4) (fun _ _ => rfl)) pa_nil)) pe_int (nomark _)) (pss_cons (ps_asg (pe_c c_places hr (by decide) (by rfl) (pa_cons (pv 0) (pa_cons (pv 4) pa_nil))) (pg_tup rfl (pgs_cons (pg_name (i := 5) sc_all_cuts.nd rfl (by first | exact Or.inl rfl | exact Or.inr rfl)) (pgs_cons (pg_name (i := 6) sc_all_cuts.nd rfl (by first | exact Or.inl rfl | exact Or.inr rfl)) pgs_nil))))
      (pss_one (ps_dput (Nat.lt_of_le_of_lt (Nat.add_le_add_left (by decide) _) hr.units) (pv 3) (pv 4) (pe_lst (pa_cons (pe_op op_or (pe_op op_shl pe_int (pv 5)) (pe_op op_shl pe_int (pv 6))) pa_nil)) (by rfl)))) pss_nil)))
      (pss_one (ps_ret (pe_tupG (own := [("wire", 7)]) hr (by rfl) T.b_tuple TB_all_cuts rfl (gxOk_by (N := ["net", "k", "wires", "masks", "gate", "one", "other", "wire"]) (sc := defScope s_all_cuts) (own := [("wire", 7)]) (by decide +kernel)) sc_all_cuts.nd (pi_list (pv 2)) (fun _ _ _ _ => (pg_name (i := 7) sc_all_cuts.nd rfl (by first | exact Or.inl rfl | exact Or.inr rfl))) (fun _ _ _ _ => pts_nil) (fun _ _ _ _ => (pe_c c_told_cuts (GX.Room.gx4 hr) (by decide) (by rfl) (pa_cons (pe_dget (Nat.lt_of_le_of_lt (Nat.add_le_add_left (by decide) _) (GX.Room.gx4 hr).units) (pv 3) (pv 7) (fun _ _ => rfl)) pa_nil))))))))), ?_⟩
    refine ⟨_, rfl, a, n, g, o, ps, rfl, N, _, rfl, RgOk.of_le (by decide) (by show ((n.many + n.gates.length : Nat) : Int) ≤ 16777216; omega) (by decide) (by show (0 : Int) ≤ ((n.many + n.gates.length : Nat) : Int); omega), fun rp nrp => ?_⟩
    have et : rgV 0 ((n.many + n.gates.length : Nat) : Int) = (List.range (n.many + n.gates.length)).map nV := by
      unfold rgV
      rw [Int.sub_zero, Int.toNat_natCast]
      refine List.map_congr_left fun i _ => ?_
      rw [Int.zero_add]
      rfl
    have s1 := Same.new (o := .lst (rgV 0 ((n.many + n.gates.length : Nat) : Int))) nrp
    have hrp : upd H rp (.lst (rgV 0 ((n.many + n.gates.length : Nat) : Int))) rp = some (.lst ((List.range (n.many + n.gates.length)).map nV)) := by rw [upd_same, et]
    generalize upd H rp (.lst (rgV 0 ((n.many + n.gates.length : Nat) : Int))) = H1 at s1 hrp ⊢
    have wok : WsOk n (List.range (n.many + n.gates.length)) := ⟨List.pairwise_lt_range, fun x hx => List.mem_range.mp hx, fun x hx kk hm hkk => by
      have l1 := place_lt ok hm hkk (.inl rfl)
      have l2 := place_lt ok hm hkk (.inr rfl)
      have := List.mem_range.mp hx
      exact ⟨List.mem_range.mpr (by omega), List.mem_range.mpr (by omega)⟩⟩
    refine ⟨_, rfl, _, rfl, _, rfl, a, rp, n, g, o, ps, _, k, rfl, N.same s1, ok, hrp, wok, by omega, hk, fun d H2 kvs s2 hd ci => ?_⟩
    have N2 := (N.same s1).same s2
    have hrp2 := s2 _ _ hrp
    have tb2 := tb.same (s1.trans s2)
    refine ⟨_, rfl, _, rfl, a, _, 0, _, rfl, rfl, SqT.of N2.top, at0, _, rfl, ?_⟩
    unfold tNoPart
    refine ⟨rp, _, rfl, SqL.of hrp2, fun S nS => ?_⟩
    rw [cut_lo, ← List.map_drop]
    have s3 := Same.new (o := .lst (((List.range (n.many + n.gates.length)).drop n.many).map nV)) nS
    have hS3 : upd H2 S (.lst (((List.range (n.many + n.gates.length)).drop n.many).map nV)) S = some (.lst (((List.range (n.many + n.gates.length)).drop n.many).map nV)) := upd_same
    have hd3 := s3 _ _ hd
    have hrp3 := s3 _ _ hrp2
    have tb3 := tb2.same s3
    have ci3 : ∀ x ∈ List.range (n.many + n.gates.length), CutsIn n k (upd H2 S (.lst (((List.range (n.many + n.gates.length)).drop n.many).map nV))) kvs x := fun x hx => (ci x hx).mono fun b zs e => s3 _ _ e
    have a03 : Aft Ts H (upd H2 S (.lst (((List.range (n.many + n.gates.length)).drop n.many).map nV))) := Aft.ofSame tb ((s1.trans s2).trans s3)
    generalize upd H2 S (.lst (((List.range (n.many + n.gates.length)).drop n.many).map nV)) = H3 at s3 hS3 hd3 hrp3 tb3 ci3 a03 ⊢
    refine ⟨S, rfl, ⟨_, SqL.of hS3⟩, ?_⟩
    refine for_list (K := K) (a := S) (xs := ((List.range (n.many + n.gates.length)).drop n.many).map nV) (fun i σ H' => ∃ (x4 x5 x6 x7 : Option V), σ = [some (.ref a), some (nV k), some (.ref rp), some (.ref d), x4, x5, x6, x7] ∧ H' = H3) ⟨_, _, _, _, rfl, rfl⟩ ?_ ?_ ?_
    · rintro i σ H' _ ⟨_, _, _, _, _, rfl⟩
      exact SqL.of hS3
    · rintro i x σ H' hx ⟨x4, x5, x6, x7, rfl, rfl⟩
      have hi : i < ((List.range (n.many + n.gates.length)).drop n.many).length := by
        have := (List.getElem?_eq_some_iff.mp hx).1
        rwa [List.length_map] at this
      rw [natAt hi] at hx
      cases hx
      have hm := getD_mem hi
      have hxe : n.many ≤ ((List.range (n.many + n.gates.length)).drop n.many).getD i 0 ∧ ((List.range (n.many + n.gates.length)).drop n.many).getD i 0 < n.many + n.gates.length := by
        rw [List.length_drop, List.length_range] at hi
        rw [List.getD_eq_getElem?_getD, List.getElem?_drop, List.getElem?_range (by omega)]
        show n.many ≤ n.many + i ∧ n.many + i < _
        omega
      generalize ((List.range (n.many + n.gates.length)).drop n.many).getD i 0 = x at hm hxe ⊢
      obtain ⟨p, ms, v, hp, ml, nd⟩ := ci3 x (List.mem_range.mpr hxe.2)
      have ne := ml.some_ ok hk2 hxe.1 (List.getElem?_eq_getElem (show x - n.many < n.gates.length by omega))
      have dg : DGet H' d (nV x) (some (.ref p)) := .inl ⟨kvs, nK x, .inl hd3, rfl, v.symm⟩
      refine ⟨_, rfl, _, rfl, d, _, rfl, dg, p, _, rfl, .inl (SqL.of hp), rfl, _, rfl, ?_⟩
      rw [decide_eq_false (fun z => ne (List.length_eq_zero_iff.mp (by have := V.int.inj z; rw [List.length_map] at this; omega)))]
      refine iteF ?_
      exact ⟨_, _, _, _, rfl, rfl⟩
    · rintro σ H' ⟨x4, x5, x6, x7, rfl, rfl⟩
      refine ⟨_, rfl, rp, rfl, ⟨_, SqL.of hrp3⟩, tb3 PA' hP, fun H4 ht => ?_⟩
      have a4 : Aft Ts H' H4 := ⟨Keep.tabbed hP ht, tb3.tabbed ht⟩
      have a04 := a4
      refine turns_it (walk_list (xs := (List.range (n.many + n.gates.length)).map nV)) (fun i ys H5 => ∃ qs : List Addr, ys = qs.map V.ref ∧ Aft Ts H' H5 ∧ PtsAt (CutsTold n k) H5 qs ((List.range (n.many + n.gates.length)).take i)) ⟨[], rfl, a4, PtsAt.nil _ _⟩ (fun i ys H5 _ h => h.elim fun qs h => SqL.of (h.2.1.lst tb3 hrp3)) ?_ ?_
      · rintro i x ys H5 H6 hi ⟨qs, rfl, a5, P5⟩ ⟨rfl, hx⟩
        rw [List.length_map] at hi
        rw [natAt hi] at hx
        cases hx
        have hxm := getD_mem hi
        have ex : (List.range (n.many + n.gates.length)).getD i 0 = (List.range (n.many + n.gates.length))[i] := by rw [List.getD_eq_getElem?_getD, List.getElem?_eq_getElem hi]; rfl
        have ql : qs.length ≤ 24 := by
          rw [P5.1, List.length_take, List.length_range]
          omega
        obtain ⟨p, ms, v, hp, ml, nd⟩ := ci3 _ hxm
        have xlt := List.mem_range.mp hxm
        have bnd := fun M (h : M ∈ ms) => ml.lt23 ok xlt h
        have hd5 : Rd H6 d (.dK kvs) := .inl (a5.kp _ _ hd3 (tb3.nott hd3 fun _ z => by cases z))
        have dg : DGet H6 d (nV ((List.range (n.many + n.gates.length)).getD i 0)) (some (.ref p)) := .inl ⟨kvs, nK _, hd5, rfl, v.symm⟩
        refine ⟨rfl, ?_⟩
        unfold tYes
        refine iteT ?_
        refine ⟨_, rfl, _, rfl, d, _, rfl, dg, p, ms, rfl, a5.lst tb3 hp, nodup_lt23 nd fun M h => (bnd M h).2, bnd, a5.tb, fun r H7 rs cs a7 hr7 ht7 pm srt => ⟨?_, fun _ => ⟨qs ++ [r], by rw [List.map_append]; rfl, a5.trans a7, ?_⟩⟩⟩
        · show (List.map V.ref qs).length < sizeLine
          rw [List.length_map]
          exact small256 (by omega)
        · rw [List.take_add_one, List.getElem?_eq_getElem hi, Option.toList_some, ← ex]
          exact (P5.mono fun p x h => CutsTold.mono h fun b zs e => a7.tup a5.tb e).push ⟨rs, cs, hr7, ht7, cuts_of_masks ok ml nd pm srt, by rw [pm.length_eq, List.length_map]; exact nodup_lt23 nd fun M h => (bnd M h).2⟩
      · rintro ys H5 ⟨qs, rfl, a5, P5⟩
        rw [List.length_map, List.take_length] at P5
        refine ⟨?_, fun p np => ?_⟩
        · rw [List.length_map, P5.1, List.length_range]
          exact small _ (by omega)
        · have a6 := Aft.new (o := .tup (qs.map V.ref)) a5.tb np
          exact q p _ qs ((a03.trans a5).trans a6) upd_same (P5.mono fun p x h => CutsTold.mono h fun b zs e => a6.tup a5.tb e)
end
end K87
set_option Elab.async false
set_option linter.all false
set_option maxRecDepth 100000
set_option maxHeartbeats 4000000
namespace K87
open PySem PySem.Spec PyProof.Rows L2 GX
open C8 (Cal pe_c pe_gc Met Mak)
-- @exc NoDepth init=least
-- @sub NoDepth NoDepth true
-- @exc TooMany made
-- @alt cut_masks tup par=N,t[i],i vars=masks:DL,wire:i
section
variable {P : Program} {w : World} {K : PySem.W.Frag} {mg : Str → Option Value} {base : Heap} {Ts : List Addr}
def spOneDeepL : Sp := fun vs H Q _ => ∃ (l ca : Addr) (ds ws : List Nat), vs = [.ref l, .ref ca] ∧ H l = some (.lst (ds.map nV)) ∧ H ca = some (.tup (ws.map nV)) ∧ 0 < ws.length ∧ ws.length ≤ 1000 ∧ (∀ x ∈ ws, x < ds.length) ∧ ∀ H', Same H H' → Q (nV (1 + maxL (ws.map fun x => ds.getD x 0))) H'
theorem ok_onedeepL {f c : Addr} (D : Dfn K mg "one_deeper" s_one_deeper f c) (T : Txt mg) : Cal P w K mg base 1 "one_deeper" spOneDeepL [] := by
  refine cal D (fun _ _ _ _ _ _ us hl => match us, hl with | [_, _], _ => rfl) sc_one_deeper (fun vs H Q E h => ?_) (fun A outer s H vs Q E hr h => ?_)
  · obtain ⟨l, ca, ds, ws, rfl, _⟩ := h
    rfl
  · obtain ⟨l, ca, ds, ws, rfl, hl, hca, w0, w24, hv, q⟩ := h
    refine ⟨_, (pss_one (ps_ret (pe_op op_add pe_int (pe_callB (cr_max rfl) (by rfl) T.b_max (by decide +kernel) (pa_cons (pe_lc (own := [("wire", 2)]) (g := gName 2) (tt := tYes) rfl sc_one_deeper.nd (pi_tup (pv 1)) (blkOk_by (own := [("wire", 2)]) (N := ["told", "wires", "wire"]) (sc := defScope s_one_deeper) (by decide +kernel)) (fun _ _ _ _ _ => (pg_name (i := 2) sc_one_deeper.nd rfl (by first | exact Or.inl rfl | exact Or.inr rfl))) (fun _ _ _ _ _ => pts_nil) (fun _ _ _ _ _ => (pe_ix (ix_listK (K := K)) (pv 0) (pv 2) (fun _ _ => rfl)))) pa_nil))))), ?_⟩
    refine ⟨_, rfl, ca, rfl, ⟨_, SqT.of hca⟩, fun M nM => ?_⟩
    refine lc_tup (K := K) (a := ca) (xs := ws.map nV) (fun i H' => Own H H' M (((ws.take i).map fun x => ds.getD x 0).map nV)) ⟨Same.new nM, upd_same, nM⟩ (fun k H' _ o' => SqT.of (o'.sm _ _ hca)) ?_ ?_
    · rintro i x H2 hx o2
      have hi : i < ws.length := by
        have := (List.getElem?_eq_some_iff.mp hx).1
        rwa [List.length_map] at this
      rw [natAt hi] at hx
      cases hx
      refine ⟨rfl, ?_⟩
      unfold tYes
      refine iteT ?_
      refine ⟨_, rfl, _, rfl, l, _, _, _, rfl, rfl, SqL.of (o2.sm _ _ hl), atI_nat (natAt (hv _ (getD_mem hi))), _, o2.at_, by rw [List.length_map, List.length_map, List.length_take]; exact small256 (by omega), ?_⟩
      have : ws.getD i 0 = ws[i] := by rw [List.getD_eq_getElem?_getD, List.getElem?_eq_getElem hi]; rfl
      rw [List.take_add_one, List.getElem?_eq_getElem hi, Option.toList_some, List.map_append, List.map_append, this]
      exact o2.app
    · rintro H2 o2
      rw [List.length_map, List.take_length] at o2
      refine ⟨M, (ws.map fun x => ds.getD x 0).map (fun n : Nat => (n : Int)), rfl, (by rw [mapV]; exact SqL.of o2.at_), by rw [List.length_map, List.length_map]; exact w0, fun m hm hb => ⟨_, _, rfl, rfl, ?_⟩⟩
      have e := max_eq hm hb
      have e2 : V.int (1 + m) = nV (1 + maxL (ws.map fun x => ds.getD x 0)) := by
        have := V.int.inj e
        rw [this]
        rfl
      dsimp -proj only
      rw [e2]
      exact q H2 o2.sm
/-- depths, so far -/
structure DepsTo (n : Net) (k : Nat) (ds : List Nat) : Prop where
  low : ∀ x, x < n.many → x < ds.length → ds.getD x 0 = 0
  at_ : ∀ g, n.many ≤ g → g < ds.length → (∃ c, LC n k g c ∧ ds.getD g 0 = 1 + maxL (c.map fun x => ds.getD x 0)) ∧ ∀ c, LC n k g c → ds.getD g 0 ≤ 1 + maxL (c.map fun x => ds.getD x 0)
theorem maxL_sub {c xs : List Nat} {f : Nat → Nat} (h : ∀ x ∈ c, x ∈ xs) : maxL (c.map f) ≤ maxL (xs.map f) := by
  by_cases e : 0 < (c.map f).length
  · obtain ⟨x, hx, ex⟩ := List.mem_map.mp (maxL_mem e)
    rw [← ex]
    exact le_maxL (List.mem_map.mpr ⟨x, h x hx, rfl⟩)
  · have e0 : c.map f = [] := List.length_eq_zero_iff.mp (by omega)
    rw [e0]
    exact Nat.zero_le _
/-- no set that tells is less deep -/
theorem DepsTo.tell {n : Net} (ok : n.Ok) {k : Nat} {ds : List Nat} (d : DepsTo n k ds) {g : Nat} (hg : n.many ≤ g) (hl : g < ds.length) {xs : List Nat} (ris : xs.Pairwise (· < ·)) (lt : ∀ x ∈ xs, x < g) (sep : Sep n g xs) (hk : xs.length ≤ k) : ds.getD g 0 ≤ 1 + maxL (xs.map fun x => ds.getD x 0) := by
  obtain ⟨c, lc, sub⟩ := lc_within ok ris lt sep hk
  exact Nat.le_trans ((d.at_ g hg hl).2 c lc) (Nat.add_le_add_left (maxL_sub sub) 1)
theorem lc_any {n : Net} (ok : n.Ok) {k g : Nat} {kk : Nat × Nat × Nat} (hk : 2 ≤ k) (hg : n.many ≤ g) (hkk : n.gates[g - n.many]? = some kk) : ∃ c, LC n k g c := by
  have l1 := place_lt ok hg hkk (.inl rfl)
  have l2 := place_lt ok hg hkk (.inr rfl)
  have bit : ∀ j, (2 ^ kk.2.1 ||| 2 ^ kk.2.2).testBit j = true ↔ (j = kk.2.1 ∨ j = kk.2.2) := fun j => by
    rw [Nat.testBit_or, Nat.testBit_two_pow, Nat.testBit_two_pow, Bool.or_eq_true, decide_eq_true_iff, decide_eq_true_iff]
    omega
  have hp : (bitsOf (2 ^ kk.2.1 ||| 2 ^ kk.2.2)).length ≤ 2 := by
    have := (bits_nodup (2 ^ kk.2.1 ||| 2 ^ kk.2.2)).length_le_of_subset (l₂ := [kk.2.1, kk.2.2]) fun x hx => by
      rcases (bit x).mp (mem_bits.mp hx) with e | e
      · rw [e]; exact List.mem_cons_self
      · rw [e]; exact List.mem_cons_of_mem _ List.mem_cons_self
    exact this
  obtain ⟨c, h, _⟩ := lc_within ok (k := k) (g := g) (bits_rise (2 ^ kk.2.1 ||| 2 ^ kk.2.2)) (fun x hx => by rcases (bit x).mp (mem_bits.mp hx) with e | e <;> omega) (sep_first hg hkk fun z hz => mem_bits.mpr ((bit z).mpr hz)) (by omega)
  exact ⟨c, h⟩
def spDepthsBy : Sp := fun vs H Q _ => ∃ (a p : Addr) (n : Net) (g o : Addr) (ps qs : List Addr) (k : Nat), vs = [.ref a, .ref p] ∧ NetAt H a n g o ps ∧ n.Ok ∧ 2 ≤ k ∧ k ≤ 1000 ∧ H p = some (.tup (qs.map V.ref)) ∧ PtsAt (CutsTold n k) H qs (List.range (n.many + n.gates.length)) ∧
  ∀ r H' (ds : List Nat), Same H H' → H' r = some (.tup (ds.map nV)) → ds.length = n.many + n.gates.length → DepsTo n k ds → Q (.ref r) H'
theorem ok_depthsby {f c : Addr} (D : Dfn K mg "depths_by" s_depths_by f c) (T : Txt mg) (c_one_deeper : Cal P w K mg base 1 "one_deeper" spOneDeepL []) : Cal P w K mg base 2 "depths_by" spDepthsBy [] := by
  refine cal D (fun _ _ _ _ _ _ us hl => match us, hl with | [_, _], _ => rfl) sc_depths_by (fun vs H Q E h => ?_) (fun A outer s H vs Q E hr h => ?_)
  · obtain ⟨a, p, n, g, o, ps, qs, k, rfl, _⟩ := h
    rfl
  · obtain ⟨a, p, n, g, o, ps, qs, k, rfl, N, ok, hk2, hk, hp, PQ, q⟩ := h
    have m8 := ok.m8
    have g16 := ok.g16
    refine ⟨_, (pss_cons (ps_set (i := 2) sc_depths_by.nd rfl (by first | exact Or.inl rfl | exact Or.inr rfl) (pe_op op_rep (pe_lst (pa_cons pe_int pa_nil)) (pe_ix ix_tup (pv 0) pe_int (fun _ _ => rfl))))
      (pss_cons (ps_for PassesOwn.never rfl (pi_range2 (by rfl) T.b_range (pa_cons (pe_ix ix_tup (pv 0) pe_int (fun _ _ => rfl)) (pa_cons (pe_callB call_len_seq (by rfl) T.b_len (by decide +kernel) (pa_cons (pv 1) pa_nil)) pa_nil))) (pg_name (i := 3) sc_depths_by.nd rfl (by first | exact Or.inl rfl | exact Or.inr rfl))
        (pss_one (ps_expr (pe_bm PySem.F.plainAttrs_list PySem.F.slot_list_append PySem.F.type_list_append mt_append (pv 2) (pa_cons (pe_callB (cr_min rfl) (by rfl) T.b_min (by decide +kernel) (pa_cons (pe_lc (own := [("cut", 4)]) (g := gName 4) (tt := tYes) rfl sc_depths_by.nd (pi_tup (pe_ix ix_tup (pv 1) (pv 3) (fun _ _ => rfl))) (blkOk_by (own := [("cut", 4)]) (N := ["net", "cuts", "told", "gate", "cut"]) (sc := defScope s_depths_by) (by decide +kernel)) (fun _ _ _ _ _ => (pg_name (i := 4) sc_depths_by.nd rfl (by first | exact Or.inl rfl | exact Or.inr rfl))) (fun _ _ _ _ _ => pts_nil) (fun _ _ _ _ _ => (pe_c c_one_deeper hr (by decide) (by rfl) (pa_cons (pv 2) (pa_cons (pv 4) pa_nil))))) pa_nil)) pa_nil)))))
      (pss_one (ps_ret (pe_callTy call_tuple_of (by rfl) T.b_tuple (by decide +kernel) (pa_cons (pv 2) pa_nil)))))), ?_⟩
    refine ⟨small 1, fun z nz => ?_⟩
    have e1 := Same.new (o := .lst [.int 0]) nz
    refine ⟨_, rfl, a, _, 0, _, rfl, rfl, SqT.of (N.same e1).top, at0, z, _, _, rfl, rfl, upd_same, by omega, by omega, ?_, fun l nl => ?_⟩
    · show 1 * (((n.many : Nat)) : Int).toNat ≤ sizeLine
      rw [Int.toNat_natCast]
      exact small _ (by omega)
    have ef : (List.replicate (((n.many : Nat)) : Int).toNat [V.int 0]).flatten = (List.replicate n.many 0).map nV := by
      rw [Int.toNat_natCast, List.map_replicate, List.flatten_replicate_singleton]
      rfl
    rw [ef]
    have nlH : H l = none := by
      cases e : H l with
      | none => rfl
      | some u =>
        have := e1 _ _ e
        rw [nl] at this
        cases this
    have o1 : Own H (upd (upd H z (.lst [.int 0])) l (.lst ((List.replicate n.many 0).map nV))) l ((List.replicate n.many 0).map nV) := ⟨e1.trans (Same.new nl), upd_same, nlH⟩
    generalize upd (upd H z (.lst [.int 0])) l (.lst ((List.replicate n.many 0).map nV)) = H1 at o1 ⊢
    have N1 := N.same o1.sm
    have hp1 := o1.sm _ _ hp
    have ql : qs.length = n.many + n.gates.length := by rw [PQ.1, List.length_range]
    refine ⟨_, rfl, a, _, 0, _, rfl, rfl, SqT.of N1.top, at0, _, rfl, p, _, rfl, .inr (SqT.of hp1), _, _, rfl, ⟨by omega, by omega, by omega, by rw [List.length_map]; omega⟩, ?_⟩
    refine for_range (lo := ((n.many : Nat) : Int)) (n := ((((qs.map V.ref).length : Nat) : Int) - ((n.many : Nat) : Int)).toNat) (fun j σ H' => ∃ (x3 x4 : Option V) (ds : List Nat), σ = [some (.ref a), some (.ref p), some (.ref l), x3, x4] ∧ Own H H' l (ds.map nV) ∧ ds.length = n.many + j ∧ DepsTo n k ds) ⟨none, none, List.replicate n.many 0, rfl, o1, by rw [List.length_replicate]; rfl, ⟨fun x hx _ => by rw [List.getD_eq_getElem?_getD, List.getElem?_replicate, if_pos hx]; rfl, fun g' h1 h2 => by rw [List.length_replicate] at h2; omega⟩⟩ ?_ ?_
    · rintro j σ H2 hj ⟨x3, x4, ds, rfl, o2, dl, dt⟩
      rw [List.length_map, ql] at hj
      have hgl : n.many + j < (List.range (n.many + n.gates.length)).length := by rw [List.length_range]; omega
      obtain ⟨qg, eq, hq⟩ := PQ.get (i := n.many + j) (y := n.many + j) (by rw [List.getElem?_range (by omega)])
      obtain ⟨rs, cs, h1, h2, ca, cl⟩ := CutsTold.mono hq fun b xs e => o2.sm b _ e
      have hp2 := o2.sm _ _ hp
      have csne : 0 < cs.length := by
        obtain ⟨c0, h0⟩ := lc_any ok hk2 (Nat.le_add_right n.many j) (List.getElem?_eq_getElem (show n.many + j - n.many < n.gates.length by omega))
        exact List.length_pos_of_mem ((ca.mem c0).mpr h0)
      have cok : ∀ c ∈ cs, 0 < c.length ∧ c.length ≤ k ∧ ∀ x ∈ c, x < ds.length := fun c hc => by
        have h := (ca.mem c).mp hc
        refine ⟨Nat.pos_of_ne_zero fun z => ?_, h.len, fun x hx => by rw [dl]; exact h.lt x hx⟩
        have hs := h.sep
        rw [List.length_eq_zero_iff.mp z] at hs
        exact sep_none ok _ _ (Nat.le_refl _) (by omega) hs
      refine ⟨_, rfl, .inl ⟨rfl, _, SqL.of o2.at_⟩, _, rfl, _, rfl, p, _, ((n.many + j : Nat) : Int), _, rfl, rfl, SqT.of hp2, atI_nat eq, qg, rfl, ⟨_, SqT.of h1⟩, fun M nM => ?_⟩
      refine lc_tup (K := K) (a := qg) (xs := rs.map V.ref) (fun i H' => Own H2 H' M (((cs.take i).map fun c => 1 + maxL (c.map fun x => ds.getD x 0)).map nV)) ⟨Same.new nM, upd_same, nM⟩ (fun _ H' _ o' => SqT.of (o'.sm _ _ h1)) ?_ ?_
      · rintro i v H3 hv o3
        have hi : i < cs.length := by
          have := (List.getElem?_eq_some_iff.mp hv).1
          rwa [List.length_map, h2.1] at this
        obtain ⟨tq, c', rfl, hc, hat⟩ := h2.at_ hv
        obtain ⟨k1, k2, k3⟩ := cok c' (List.mem_of_getElem? hc)
        refine ⟨rfl, ?_⟩
        unfold tYes
        refine iteT ?_
        refine ⟨_, rfl, _, rfl, l, tq, ds, c', rfl, o3.sm _ _ o2.at_, o3.sm _ _ hat, k1, by omega, k3, fun H4 s4 => ?_⟩
        have o4 : Own H2 H4 M (((cs.take i).map fun c => 1 + maxL (c.map fun x => ds.getD x 0)).map nV) := ⟨o3.sm.trans s4, s4 _ _ o3.at_, o3.nw⟩
        refine ⟨_, o4.at_, by rw [List.length_map, List.length_map, List.length_take]; omega, ?_⟩
        rw [List.take_add_one, hc, Option.toList_some, List.map_append, List.map_append]
        exact o4.app
      · rintro H3 o3
        rw [List.length_map, h2.1, List.take_length] at o3
        refine ⟨M, (cs.map fun c => 1 + maxL (c.map fun x => ds.getD x 0)).map (fun n : Nat => (n : Int)), rfl, (by rw [mapV]; exact SqL.of o3.at_), by rw [List.length_map, List.length_map]; exact csne, fun m hm hb => ?_⟩
        obtain ⟨mn, hmn, rfl⟩ := List.mem_map.mp hm
        have hb' : ∀ y ∈ (cs.map fun c => 1 + maxL (c.map fun x => ds.getD x 0)), mn ≤ y := fun y hy => by
          have := hb _ (List.mem_map.mpr ⟨y, hy, rfl⟩)
          omega
        have oo : Own H H3 l (ds.map nV) := ⟨o2.sm.trans o3.sm, o3.sm _ _ o2.at_, o2.nw⟩
        refine ⟨l, _, _, rfl, rfl, oo.at_, by rw [List.length_map]; exact small256 (by omega), _, _, ds ++ [mn], rfl, by rw [List.map_append]; exact oo.app, by rw [List.length_append, dl]; rfl, ?_⟩
        have gs : ∀ x, x < ds.length → (ds ++ [mn]).getD x 0 = ds.getD x 0 := fun x hx => getSnoc hx
        have gl : (ds ++ [mn]).getD (n.many + j) 0 = mn := by
          rw [← dl]
          exact getLastN
        have cong : ∀ g' c, g' ≤ ds.length → LC n k g' c → maxL (c.map fun x => (ds ++ [mn]).getD x 0) = maxL (c.map fun x => ds.getD x 0) := fun g' c hg' lc => maxL_congr fun x hx => gs x (by have := lc.lt x hx; omega)
        refine ⟨fun x hx hx2 => ?_, fun g' hg1 hg2 => ?_⟩
        · rw [gs x (by omega)]
          exact dt.low x hx (by omega)
        · rw [List.length_append] at hg2
          have hg2' : g' < ds.length + 1 := hg2
          by_cases e : g' < ds.length
          · obtain ⟨⟨c, hc, e1⟩, e2⟩ := dt.at_ g' hg1 e
            rw [gs g' e]
            refine ⟨⟨c, hc, by rw [cong g' c (by omega) hc]; exact e1⟩, fun c hc => by rw [cong g' c (by omega) hc]; exact e2 c hc⟩
          · have eg : g' = n.many + j := by omega
            subst eg
            rw [gl]
            refine ⟨?_, fun c hc => by rw [cong _ c (by omega) hc]; exact hb' _ (List.mem_map.mpr ⟨c, (ca.mem c).mpr hc, rfl⟩)⟩
            obtain ⟨c, hc, e1⟩ := List.mem_map.mp hmn
            have lc := (ca.mem c).mp hc
            exact ⟨c, lc, by rw [cong _ c (by omega) lc]; exact e1.symm⟩
    · rintro σ H2 ⟨x3, x4, ds, rfl, o2, dl, dt⟩
      rw [List.length_map, ql, show (((n.many + n.gates.length : Nat) : Int) - ((n.many : Nat) : Int)).toNat = n.gates.length by omega] at dl
      refine ⟨_, rfl, l, _, rfl, .inl ⟨SqL.of o2.at_, fun r nr => ?_⟩⟩
      exact q r _ ds (o2.sm.trans (Same.new nr)) upd_same dl dt
def spDepths (Ts : List Addr) : Sp := fun vs H Q _ => ∃ (a : Addr) (n : Net) (g o : Addr) (ps : List Addr) (k : Nat), vs = [.ref a, nV k] ∧ NetAt H a n g o ps ∧ n.Ok ∧ 2 ≤ k ∧ k ≤ 1000 ∧ Tabs Ts H ∧
  ∀ r H' (ds : List Nat), Aft Ts H H' → H' r = some (.tup (ds.map nV)) → ds.length = n.many + n.gates.length → DepsTo n k ds → Q (.ref r) H'
theorem ok_depths {f c : Addr} (D : Dfn K mg "depths" s_depths f c) (T : Txt mg) (c_all_cuts : Cal P w K mg base 4 "all_cuts" (spAllCuts Ts) []) (c_depths_by : Cal P w K mg base 2 "depths_by" spDepthsBy []) : Cal P w K mg base 5 "depths" (spDepths Ts) [] := by
  refine cal D (fun _ _ _ _ _ _ us hl => match us, hl with | [_, _], _ => rfl) sc_depths (fun vs H Q E h => ?_) (fun A outer s H vs Q E hr h => ?_)
  · obtain ⟨a, n, g, o, ps, k, rfl, _⟩ := h
    rfl
  · obtain ⟨a, n, g, o, ps, k, rfl, N, ok, hk2, hk, tb, q⟩ := h
    refine ⟨_, (pss_one (ps_ret (pe_c c_depths_by hr (by decide) (by rfl) (pa_cons (pv 0) (pa_cons (pe_c c_all_cuts hr (by decide) (by rfl) (pa_cons (pv 0) (pa_cons (pv 1) pa_nil))) pa_nil))))), ?_⟩
    refine ⟨_, rfl, _, rfl, _, rfl, a, n, g, o, ps, k, rfl, N, ok, hk2, hk, tb, fun p H1 qs a1 hp PQ => ?_⟩
    exact ⟨a, p, n, g, o, ps, qs, k, rfl, N.aft tb a1, ok, hk2, hk, hp, PQ, fun r H2 ds s2 hr dl dt => q r H2 ds (a1.trans (Aft.ofSame a1.tb s2)) hr dl dt⟩
end
theorem deps_uniq {n : Net} (ok : n.Ok) {k : Nat} {ds es : List Nat} (d : DepsTo n k ds) (e : DepsTo n k es) (dl : ds.length = n.many + n.gates.length) (el : es.length = n.many + n.gates.length) : ds = es := by
  have key : ∀ b x, x ≤ b → x < n.many + n.gates.length → ds.getD x 0 = es.getD x 0 := fun b => by
    induction b with
    | zero =>
      intro x hx _
      have := ok.m1
      rw [d.low x (by omega) (by omega), e.low x (by omega) (by omega)]
    | succ b ih =>
      intro x hx hx2
      by_cases hm : x < n.many
      · rw [d.low x hm (by omega), e.low x hm (by omega)]
      · obtain ⟨⟨c, lc, e1⟩, e2⟩ := d.at_ x (by omega) (by omega)
        obtain ⟨⟨c', lc', f1⟩, f2⟩ := e.at_ x (by omega) (by omega)
        have h1 := e2 c' lc'
        have h2 := f2 c lc
        have g1 : maxL (c'.map fun x => ds.getD x 0) = maxL (c'.map fun x => es.getD x 0) := maxL_congr fun y hy => ih y (by have := lc'.lt y hy; omega) (by have := lc'.lt y hy; omega)
        have g2 : maxL (c.map fun x => ds.getD x 0) = maxL (c.map fun x => es.getD x 0) := maxL_congr fun y hy => ih y (by have := lc.lt y hy; omega) (by have := lc.lt y hy; omega)
        rw [g1, ← f1] at h1
        rw [← g2, ← e1] at h2
        omega
  refine List.ext_getElem (by rw [dl, el]) fun i h1 h2 => ?_
  have := key i i (Nat.le_refl _) (by omega)
  rwa [List.getD_eq_getElem?_getD, List.getElem?_eq_getElem h1, List.getD_eq_getElem?_getD, List.getElem?_eq_getElem h2] at this
end K87
set_option Elab.async false
set_option linter.all false
set_option maxRecDepth 100000
set_option maxHeartbeats 4000000
namespace K87
open PySem PySem.Spec PyProof.Rows L2 GX
open C8 (Cal pe_c pe_gc Met Mak)
-- @exc NoDepth init=least
-- @sub NoDepth NoDepth true
-- @exc TooMany made
-- @alt cut_masks tup par=N,t[i],i vars=masks:DL,wire:i
section
variable {P : Program} {w : World} {K : PySem.W.Frag} {mg : Str → Option Value} {base : Heap} {Ts : List Addr}
/-- a cut and the greatest depth in it -/
def CutDp (ds : List Nat) (H : Hp) (q : Addr) (c : List Nat) : Prop := ∃ ca, H q = some (.tup [.ref ca, nV (maxL (c.map fun x => ds.getD x 0))]) ∧ H ca = some (.tup (c.map nV))
theorem CutDp.mono {ds : List Nat} {H H' : Hp} {q : Addr} {c : List Nat} (h : CutDp ds H q c) (m : ∀ b xs, H b = some (.tup xs) → H' b = some (.tup xs)) : CutDp ds H' q c := by
  obtain ⟨ca, h1, h2⟩ := h
  exact ⟨ca, m _ _ h1, m _ _ h2⟩
theorem tyes {σ : L2.St} {H : Hp} {A B : Hp → Prop} (h : A H) : tYes σ H fun b H3 => if b = true then A H3 else B H3 := by
  unfold tYes
  exact iteT h
def spWithDeep (Ts : List Addr) : Sp := fun vs H Q _ => ∃ (q la : Addr) (rs : List Addr) (cs : List (List Nat)) (ds : List Nat), vs = [.ref q, .ref la] ∧ H q = some (.tup (rs.map V.ref)) ∧ TupsAt H rs cs ∧ H la = some (.tup (ds.map nV)) ∧ cs.length < sizeLine ∧ (∀ c ∈ cs, 0 < c.length ∧ c.length ≤ 1000 ∧ ∀ x ∈ c, x < ds.length) ∧ Tabs Ts H ∧
  ∀ p H' us, Aft Ts H H' → H' p = some (.tup (us.map V.ref)) → PtsAt (CutDp ds) H' us cs → Q (.ref p) H'
theorem ok_withdeep {f c PW : Addr} (D : Dfn K mg "with_deepest" s_with_deepest f c) (T : Txt mg) (TB_with_deepest : GxR.TabB base mg c PW) (hP : PW ∈ Ts) : Cal P w K mg base 3 "with_deepest" (spWithDeep Ts) [] := by
  refine cal D (fun _ _ _ _ _ _ us hl => match us, hl with | [_, _], _ => rfl) sc_with_deepest (fun vs H Q E h => ?_) (fun A outer s H vs Q E hr h => ?_)
  · obtain ⟨q, la, rs, cs, ds, rfl, _⟩ := h
    rfl
  · obtain ⟨q, la, rs, cs, ds, rfl, hq, tq, hla, cl, cb, tb, fin⟩ := h
    refine ⟨_, (pss_one (ps_ret (pe_tupG (own := [("cut", 3)]) hr (by rfl) T.b_tuple TB_with_deepest rfl (gxOk_by (N := ["cuts", "told", "wire", "cut"]) (sc := defScope s_with_deepest) (own := [("cut", 3)]) (by decide +kernel)) sc_with_deepest.nd (pi_tup (pv 0)) (fun _ _ _ _ => (pg_name (i := 3) sc_with_deepest.nd rfl (by first | exact Or.inl rfl | exact Or.inr rfl))) (fun _ _ _ _ => pts_nil) (fun _ _ _ _ => (pe_tup (pa_cons (pv 3) (pa_cons (pe_callB (cr_maxK (K := K) rfl) (by rfl) T.b_max (by decide +kernel) (pa_cons (pe_lc (own := [("wire", 2)]) (g := gName 2) (tt := tYes) rfl sc_with_deepest.nd (pi_tupK (K := K) (pv 3)) (blkOk_by (own := [("wire", 2)]) (by rfl)) (fun _ _ _ _ _ => (pg_name (i := 2) sc_with_deepest.nd rfl (by first | exact Or.inl rfl | exact Or.inr rfl))) (fun _ _ _ _ _ => pts_nil) (fun _ _ _ _ _ => (pe_ix (ix_tupK (K := K)) (pv 1) (pv 2) (fun _ _ => rfl)))) pa_nil)) pa_nil))))))), ?_⟩
    refine ⟨_, rfl, q, rfl, ⟨_, SqT.of hq⟩, tb PW hP, fun H2 ht => ?_⟩
    have a2 : Aft Ts H H2 := ⟨Keep.tabbed hP ht, tb.tabbed ht⟩
    refine turns_it (walk_tup (xs := rs.map V.ref)) (fun i ys H' => ∃ us : List Addr, ys = us.map V.ref ∧ Aft Ts H H' ∧ PtsAt (CutDp ds) H' us (cs.take i)) ⟨[], rfl, a2, PtsAt.nil _ _⟩ (fun i ys H5 _ h => h.elim fun us h => SqT.of (h.2.1.tup tb hq)) ?_ ?_
    · rintro i x ys H3 H4 hi ⟨us, rfl, a3, P3⟩ ⟨rfl, hx⟩
      obtain ⟨t, c, rfl, hc, htc⟩ := tq.at_ hx
      have hci : i < cs.length := (List.getElem?_eq_some_iff.mp hc).1
      obtain ⟨c0, c1000, cds⟩ := cb c (List.mem_of_getElem? hc)
      have ht3 := a3.tup tb htc
      have hla3 := a3.tup tb hla
      refine ⟨rfl, tyes ?_⟩
      refine ⟨_, rfl, _, rfl, t, rfl, ⟨_, SqT.of ht3⟩, fun M nM => ?_⟩
      refine lc_tup (K := K) (a := t) (xs := c.map nV) (fun i H' => Own H4 H' M (((c.take i).map fun x => ds.getD x 0).map nV)) ⟨Same.new nM, upd_same, nM⟩ (fun k H' _ o' => SqT.of (o'.sm _ _ ht3)) ?_ ?_
      · rintro j x H2 hx o2
        have hj : j < c.length := by
          have := (List.getElem?_eq_some_iff.mp hx).1
          rwa [List.length_map] at this
        rw [natAt hj] at hx
        cases hx
        refine ⟨rfl, ?_⟩
        unfold tYes
        refine iteT ?_
        refine ⟨_, rfl, _, rfl, la, _, _, _, rfl, rfl, SqT.of (o2.sm _ _ hla3), atI_nat (natAt (cds _ (getD_mem hj))), _, o2.at_, by rw [List.length_map, List.length_map, List.length_take]; exact small256 (by omega), ?_⟩
        have : c.getD j 0 = c[j] := by rw [List.getD_eq_getElem?_getD, List.getElem?_eq_getElem hj]; rfl
        rw [List.take_add_one, List.getElem?_eq_getElem hj, Option.toList_some, List.map_append, List.map_append, this]
        exact o2.app
      · rintro H5 o5
        rw [List.length_map, List.take_length] at o5
        refine ⟨M, (c.map fun x => ds.getD x 0).map (fun n : Nat => (n : Int)), rfl, (by rw [mapV]; exact SqL.of o5.at_), by rw [List.length_map, List.length_map]; exact c0, fun m hm hb => ⟨small 2, fun p np => ?_⟩⟩
        have e : V.int m = nV (maxL (c.map fun x => ds.getD x 0)) := max_eq hm hb
        dsimp -proj only
        rw [e]
        have s6 := o5.sm.trans (Same.new (o := .tup [.ref t, nV (maxL (c.map fun x => ds.getD x 0))]) np)
        have a6 := a3.trans (Aft.ofSame a3.tb s6)
        have ul : us.length = i := by rw [P3.1, List.length_take]; omega
        refine ⟨?_, fun _ => ⟨us ++ [p], by rw [List.map_append]; rfl, a6, ?_⟩⟩
        · show (us.map V.ref).length < sizeLine
          rw [List.length_map, ul]
          omega
        · rw [List.take_add_one, hc, Option.toList_some]
          exact (P3.mono fun p x h => CutDp.mono h fun b zs e => s6 b _ e).push ⟨t, upd_same, s6 _ _ ht3⟩
    · rintro ys H5 ⟨us, rfl, a5, P5⟩
      have el : (rs.map V.ref).length = cs.length := by rw [List.length_map]; exact tq.1
      rw [el, List.take_length] at P5
      refine ⟨?_, fun p np => ?_⟩
      · rw [List.length_map, P5.1]
        exact Nat.le_of_lt cl
      · have a6 := Aft.new (o := .tup (us.map V.ref)) a5.tb np
        exact fin p _ us (a5.trans a6) upd_same (P5.mono fun p x h => CutDp.mono h fun b zs e => a6.tup a5.tb e)
def spFirstN : Sp := fun vs H Q _ => ∃ (a : Addr) (n : Net) (g o : Addr) (ps : List Addr) (d : Int), vs = [.ref a, .int d] ∧ NetAt H a n g o ps ∧ n.Ok ∧ ∀ p H', Same H H' → H' p = some (.dK (kvI (firstN n d))) → H p = none → Q (.ref p) H'
theorem ok_firstn {f c : Addr} (D : Dfn K mg "first_needs" s_first_needs f c) (T : Txt mg) : Cal P w K mg base 1 "first_needs" spFirstN [] := by
  refine cal D (fun _ _ _ _ _ _ us hl => match us, hl with | [_, _], _ => rfl) sc_first_needs (fun vs H Q E h => ?_) (fun A outer s H vs Q E hr h => ?_)
  · obtain ⟨a, n, g, o, ps, d, rfl, _⟩ := h
    rfl
  · obtain ⟨a, n, g, o, ps, d, rfl, N, ok, q⟩ := h
    have o8 := ok.o8
    refine ⟨_, (pss_one (ps_ret (pe_dc (own := [("out", 2)]) (g := gName 2)  rfl sc_first_needs.nd (pi_tup (pe_ix ix_tup (pv 0) pe_int (fun _ _ => rfl))) (blkOk_by (own := [("out", 2)]) (N := ["net", "depth", "out"]) (sc := defScope s_first_needs) (by decide +kernel)) (fun _ _ _ _ _ => (pg_name (i := 2) sc_first_needs.nd rfl (by first | exact Or.inl rfl | exact Or.inr rfl))) (fun _ _ _ _ _ => (pts_one (pt_cmpR op_ge (pv 2) (pe_ix (ix_tupK (K := K)) (pv 0) pe_int (fun _ _ => rfl)) (nomark _)))) (fun _ _ _ _ _ => (pv 2)) (fun _ _ _ _ _ => (pv 1))))), ?_⟩
    refine ⟨_, rfl, a, _, 2, _, rfl, rfl, SqT.of N.top, at2, o, rfl, ⟨_, SqT.of N.ot⟩, fun p np => ?_⟩
    refine dc_tup (K := K) (a := o) (xs := n.outs.map nV) (fun i H' => ∃ ns : Nd, Same H H' ∧ H' p = some (.dK (kvI ns)) ∧ NdOk ns ∧ ns.length ≤ i ∧ ns = ((n.outs.take i).filter fun o => decide (n.many ≤ o)).foldl (fun acc o => ndPut acc o d) []) ⟨[], Same.new np, upd_same, List.nodup_nil, Nat.le_refl _, rfl⟩ (fun i H' _ ⟨_, sm, _⟩ => SqT.of (sm _ _ N.ot)) ?_ ?_
    · rintro i x H1 hx ⟨ns, sm, hp1, nok, nl, en⟩
      have hi : i < n.outs.length := by
        have := (List.getElem?_eq_some_iff.mp hx).1
        rwa [List.length_map] at this
      rw [natAt hi] at hx
      cases hx
      have eo : n.outs.getD i 0 = n.outs[i] := by rw [List.getD_eq_getElem?_getD, List.getElem?_eq_getElem hi]; rfl
      refine ⟨rfl, ?_⟩
      refine ⟨_, rfl, _, rfl, a, _, 0, _, rfl, rfl, SqT.of (sm _ _ N.top), at0, _, _, rfl, rfl, _, rfl, ite2 (fun h => ?_) (fun h => ?_)⟩
      · have h' : n.many ≤ n.outs[i] := by
          have := of_decide_eq_true h
          rw [eo] at this
          omega
        refine ⟨_, rfl, _, rfl, kvI ns, nK (n.outs.getD i 0), rfl, hp1, by rw [kvI_len]; exact small256 (by omega), ndPut ns (n.outs.getD i 0) d, fun b u e => ?_, by rw [upd_same, kvI_put nok], nok.put _ _, ?_, ?_⟩
        · rw [upd_ne (ne_of_none e np)]
          exact sm b u e
        · have : (ndPut ns (n.outs.getD i 0) d).length = ((ndPut ns (n.outs.getD i 0) d).map (·.1)).length := (List.length_map _).symm
          rw [this, ndPut_keys]
          split
          · rw [List.length_map]; omega
          · rw [List.length_append, List.length_map]; exact Nat.succ_le_succ nl
        · rw [List.take_add_one, List.getElem?_eq_getElem hi, Option.toList_some, List.filter_append, List.foldl_append, ← en, List.filter_cons, if_pos (decide_eq_true h'), eo]
          rfl
      · have h' : ¬ n.many ≤ n.outs[i] := fun z => h (decide_eq_true (by rw [eo]; omega))
        refine ⟨ns, sm, hp1, nok, by omega, ?_⟩
        rw [List.take_add_one, List.getElem?_eq_getElem hi, Option.toList_some, List.filter_append, List.filter_cons, if_neg (by rw [decide_eq_true_iff]; exact h'), List.filter_nil, List.append_nil]
        exact en
    · rintro H1 ⟨ns, sm, hp1, nok, nl, en⟩
      rw [List.length_map, List.take_length] at en
      rw [en] at hp1
      exact q p H1 sm hp1 np
def optV : Option Nat → V
  | none => .non
  | some g => nV g
def spNextG : Sp := fun vs H Q _ => ∃ (d : Addr) (ns : Nd) (b : Nat), vs = [.ref d, nV b] ∧ H d = some (.dK (kvI ns)) ∧ ns.length ≤ 1000 ∧ ∀ H', Same H H' → Q (optV (nextG ns b)) H'
theorem ok_nextg {f c : Addr} (D : Dfn K mg "next_gate" s_next_gate f c) (T : Txt mg) : Cal P w K mg base 1 "next_gate" spNextG [] := by
  refine cal D (fun _ _ _ _ _ _ us hl => match us, hl with | [_, _], _ => rfl) sc_next_gate (fun vs H Q E h => ?_) (fun A outer s H vs Q E hr h => ?_)
  · obtain ⟨d, ns, b, rfl, _⟩ := h
    rfl
  · obtain ⟨d, ns, b, rfl, hd, nl, q⟩ := h
    refine ⟨_, (pss_one (ps_ret (pe_maxD (K := K) hr.hd (by rfl) T.b_max (pa_cons (pe_lock (pe_lc (own := [("gate", 2)]) (g := gName 2)  rfl sc_next_gate.nd (pi_keys (pv 0)) (blkOk_by (own := [("gate", 2)]) (N := ["needs", "bound", "gate"]) (sc := defScope s_next_gate) (by decide +kernel)) (fun _ _ _ _ _ => (pg_name (i := 2) sc_next_gate.nd rfl (by first | exact Or.inl rfl | exact Or.inr rfl))) (fun _ _ _ _ _ => (pts_one (pt_cmpR op_lt (pv 2) (pv 1) (nomark _)))) (fun _ _ _ _ _ => (pv 2)))) pa_nil)))), ?_⟩
    refine ⟨d, .dK (kvI ns), hd, trivial, fun od => ⟨_, rfl, d, od, rfl, .inl ⟨kvI ns, upd_same, fun S nS => ?_⟩⟩⟩
    have hdl : upd H d (.frz od (.dK (kvI ns))) d = some (.frz od (.dK (kvI ns))) := upd_same
    have nS0 : H S = none := by
      by_cases z : S = d
      · rw [z, hdl] at nS; cases nS
      · rw [upd_ne z] at nS; exact nS
    have ol : ∀ b u, b ≠ d → H b = some u → upd H d (.frz od (.dK (kvI ns))) b = some u := fun b u hb e => by rw [upd_ne hb]; exact e
    generalize upd H d (.frz od (.dK (kvI ns))) = Hl at nS hdl ol ⊢
    refine lc_it (walk_keys (kvs := kvI ns)) (fun i H' => Own Hl H' S ((((ns.map (·.1)).take i).filter fun g => decide (g < b)).map nV)) ⟨Same.new nS, upd_same, nS⟩ (fun i H' _ o' => o'.sm _ _ hdl) ?_ ?_
    · rintro i x H3 H4 hi o3 ⟨rfl, kk, v, hkv, rfl⟩
      rw [kvI_len] at hi
      have ek : kk = nK ((ns.map (·.1)).getD i 0) := by
        unfold kvI at hkv
        rw [List.getElem?_map, List.getElem?_eq_getElem hi] at hkv
        rw [List.getD_eq_getElem?_getD, List.getElem?_map, List.getElem?_eq_getElem hi]
        cases hkv
        rfl
      subst ek
      have hi' : i < (ns.map (·.1)).length := by rw [List.length_map]; exact hi
      have ee : (ns.map (·.1)).getD i 0 = (ns.map (·.1))[i] := by rw [List.getD_eq_getElem?_getD, List.getElem?_eq_getElem hi']; rfl
      refine ⟨rfl, ?_⟩
      refine ⟨_, rfl, _, rfl, _, _, rfl, rfl, _, rfl, ite2 (fun h => ?_) (fun h => ?_)⟩
      · have h' : (ns.map (·.1))[i] < b := by
          have := of_decide_eq_true h
          rw [ee] at this
          omega
        refine ⟨_, rfl, _, o3.at_, ?_, ?_⟩
        · rw [List.length_map]
          have := List.length_filter_le (fun g => decide (g < b)) ((ns.map (·.1)).take i)
          rw [List.length_take] at this
          exact small256 (by omega)
        · rw [List.take_add_one, List.getElem?_eq_getElem hi', Option.toList_some, List.filter_append, List.filter_cons, if_pos (decide_eq_true h'), List.filter_nil, List.map_append, ← ee]
          exact o3.app
      · have h' : ¬ (ns.map (·.1))[i] < b := fun z => h (decide_eq_true (by rw [ee]; omega))
        show Own Hl H4 S _
        rw [List.take_add_one, List.getElem?_eq_getElem hi', Option.toList_some, List.filter_append, List.filter_cons, if_neg (by rw [decide_eq_true_iff]; exact h'), List.filter_nil, List.append_nil]
        exact o3
    · rintro H4 o4
      rw [kvI_len, ← List.length_map (f := fun e : Nat × Int => e.1), List.take_length] at o4
      refine ⟨o4.sm _ _ hdl, ?_⟩
      have dS : S ≠ d := fun z => by rw [z, hdl] at nS; cases nS
      have s5 : Same H (upd H4 d (.dK (kvI ns))) := fun b u e => by
        by_cases z : b = d
        · rw [z, hd] at e
          rw [z, upd_same]
          exact e
        · rw [upd_ne z]
          exact o4.sm _ _ (ol b u z e)
      have hS5 : upd H4 d (.dK (kvI ns)) S = some (.lst (((ns.map (·.1)).filter fun g => decide (g < b)).map nV)) := by rw [upd_ne dS]; exact o4.at_
      refine ⟨S, ((ns.map (·.1)).filter fun g => decide (g < b)).map (fun n : Nat => (n : Int)), rfl, by rw [mapV]; exact SqL.of hS5, fun e => ?_, fun m hm hb => ?_⟩
      · have := nextG_none.mpr (List.map_eq_nil_iff.mp e)
        rw [← show optV (nextG ns b) = V.non by rw [this]; rfl]
        exact q _ s5
      · obtain ⟨g, hg, rfl⟩ := List.mem_map.mp hm
        have := nextG_eq hg fun x hx => by
          have := hb (x : Int) (List.mem_map.mpr ⟨x, hx, rfl⟩)
          omega
        rw [← show optV (nextG ns b) = V.int (g : Int) by rw [this]; rfl]
        exact q _ s5
end
section
variable {P : Program} {w : World} {K : PySem.W.Frag} {mg : Str → Option Value} {base : Heap} {Ts : List Addr}
/-- the choices of a wire, told -/
def ChTold (n : Net) (k : Nat) (ds : List Nat) (H : Hp) (q : Addr) (x : Nat) : Prop := ∃ (rs : List Addr) (cs : List (List Nat)), H q = some (.tup (rs.map V.ref)) ∧ PtsAt (CutDp ds) H rs cs ∧ CutsAre n k x cs ∧ cs.length < sizeLine
theorem ChTold.mono {n : Net} {k : Nat} {ds : List Nat} {H H' : Hp} {q : Addr} {x : Nat} (h : ChTold n k ds H q x) (m : ∀ b xs, H b = some (.tup xs) → H' b = some (.tup xs)) : ChTold n k ds H' q x := by
  obtain ⟨rs, cs, h1, h2, h3⟩ := h
  exact ⟨rs, cs, m _ _ h1, h2.mono fun p x h => CutDp.mono h m, h3⟩
/-- all choices -/
structure ChAt (n : Net) (k : Nat) (ds : List Nat) (H : Hp) (p : Addr) (qs : List Addr) : Prop where
  top : H p = some (.tup (qs.map V.ref))
  pts : PtsAt (ChTold n k ds) H qs (List.range (n.many + n.gates.length))
theorem ChAt.mono {n : Net} {k : Nat} {ds : List Nat} {H H' : Hp} {p : Addr} {qs : List Addr} (h : ChAt n k ds H p qs) (m : ∀ b xs, H b = some (.tup xs) → H' b = some (.tup xs)) : ChAt n k ds H' p qs := ⟨m _ _ h.top, h.pts.mono fun p x h => ChTold.mono h m⟩
theorem getD_some {ns : Nd} {g : Nat} {d : Int} (h : ndGet ns g = some d) : some (V.int d) = valV (kvI ns) (nK g) := by rw [kvI_val, h]; rfl
def spFit : Sp := fun vs H Q _ => ∃ (cp d : Addr) (n : Net) (k : Nat) (ds : List Nat) (qs : List Addr) (g : Nat) (ns : Nd) (nd : Int), vs = [.ref cp, nV g, .ref d] ∧ ChAt n k ds H cp qs ∧ g < n.many + n.gates.length ∧ H d = some (.dK (kvI ns)) ∧ ndGet ns g = some nd ∧
  ∀ M H' us cs, CutsAre n k g cs → Same H H' → H M = none → H' M = some (.lst (us.map V.ref)) → TupsAt H' us (fitC ds cs nd) → cs.length < sizeLine → Q (.ref M) H'
theorem ok_fit {f c : Addr} (D : Dfn K mg "fitting_cuts" s_fitting_cuts f c) (T : Txt mg) : Cal P w K mg base 1 "fitting_cuts" spFit [] := by
  refine cal D (fun _ _ _ _ _ _ us hl => match us, hl with | [_, _, _], _ => rfl) sc_fitting_cuts (fun vs H Q E h => ?_) (fun A outer s H vs Q E hr h => ?_)
  · obtain ⟨cp, d, n, k, ds, qs, g, ns, nd, rfl, _⟩ := h
    rfl
  · obtain ⟨cp, d, n, k, ds, qs, g, ns, nd, rfl, C, hg, hd, hnd, q⟩ := h
    obtain ⟨qa, hqa, rs, cs, h1, h2, h3, h4⟩ := C.pts.get (List.getElem?_range hg)
    refine ⟨_, (pss_one (ps_ret (pe_lc (own := [("cut", 3), ("deepest", 4)])   rfl sc_fitting_cuts.nd (pi_tup (pe_ix ix_tup (pv 0) (pv 1) (fun _ _ => rfl))) (blkOk_by (own := [("cut", 3), ("deepest", 4)]) (N := ["choices", "gate", "needs", "cut", "deepest"]) (sc := defScope s_fitting_cuts) (by decide +kernel)) (fun _ _ _ _ _ => (pg_tupK (K := K) (n := 2) rfl rfl (pgs_cons (pg_name (i := 3) sc_fitting_cuts.nd rfl (by first | exact Or.inl rfl | exact Or.inr rfl)) (pgs_cons (pg_name (i := 4) sc_fitting_cuts.nd rfl (by first | exact Or.inl rfl | exact Or.inr rfl)) pgs_nil)))) (fun _ _ _ _ _ => (pts_one (pt_cmpR op_lt (pv 4) (pe_dget (Nat.lt_of_le_of_lt (Nat.add_le_add_left (by decide) _) hr.units) (pv 2) (pv 1) (fun _ _ => rfl)) (nomark _)))) (fun _ _ _ _ _ => (pv 3))))), ?_⟩
    refine ⟨_, rfl, _, rfl, cp, _, _, _, rfl, rfl, SqT.of C.top, atI_nat hqa, qa, rfl, ⟨_, SqT.of h1⟩, fun M nM => ?_⟩
    refine lc_tup (K := K) (a := qa) (xs := rs.map V.ref) (fun i H' => ∃ us : List Addr, Own H H' M (us.map V.ref) ∧ TupsAt H' us (fitC ds (cs.take i) nd)) ⟨[], ⟨Same.new nM, upd_same, nM⟩, RefsAt.nil _ _⟩ (fun i H' _ ⟨_, o', _⟩ => SqT.of (o'.sm _ _ h1)) ?_ ?_
    · rintro i x H1 hx ⟨us, o1, t1⟩
      obtain ⟨t, ct, rfl, hc, ca, ht, hca⟩ := h2.at_ hx
      have hci : i < cs.length := (List.getElem?_eq_some_iff.mp hc).1
      have el : (us.map V.ref).length ≤ i := by
        rw [List.length_map, t1.1]
        have := List.length_filter_le (fun c => decide (((maxL (c.map fun x => ds.getD x 0) : Nat) : Int) < nd)) (cs.take i)
        rw [List.length_take] at this
        show (List.filter _ _).length ≤ i
        omega
      refine ⟨t, _, rfl, SqT.of (o1.sm _ _ ht), rfl, _, _, rfl, _, _, rfl, rfl, rfl, ?_⟩
      refine ⟨_, rfl, _, rfl, _, rfl, d, _, rfl, .inl ⟨kvI ns, nK g, .inl (o1.sm _ _ hd), rfl, getD_some hnd⟩, _, _, rfl, rfl, _, rfl, ite2 (fun h => ?_) (fun h => ?_)⟩
      · refine ⟨_, rfl, _, o1.at_, by omega, us ++ [ca], ?_, ?_⟩
        · rw [List.map_append]
          exact o1.app
        · unfold fitC
          rw [List.take_add_one, hc, Option.toList_some, List.filter_append, List.filter_cons, if_pos h]
          exact (t1.mono fun p x h => (Own.app (y := .ref ca) o1).sm |> fun _ => by rw [upd_ne (fun z => by rw [z, o1.at_] at h; cases h)]; exact h).push (by rw [upd_ne (fun z => by have := o1.sm _ _ hca; rw [z, o1.at_] at this; cases this)]; exact o1.sm _ _ hca)
      · refine ⟨us, o1, ?_⟩
        unfold fitC
        rw [List.take_add_one, hc, Option.toList_some, List.filter_append, List.filter_cons, if_neg h, List.filter_nil, List.append_nil]
        exact t1
    · rintro H1 ⟨us, o1, t1⟩
      have el : (rs.map V.ref).length = cs.length := by rw [List.length_map]; exact h2.1
      rw [el, List.take_length] at t1
      exact q M H1 us cs h3 o1.sm nM o1.at_ t1 h4
def spNeedsWith : Sp := fun vs H Q _ => ∃ (a d ca : Addr) (n : Net) (g o : Addr) (ps : List Addr) (ns : Nd) (gt : Nat) (nd : Int) (c : List Nat), vs = [.ref a, .ref d, nV gt, .ref ca] ∧ NetAt H a n g o ps ∧ H d = some (.dK (kvI ns)) ∧ NdOk ns ∧ ndGet ns gt = some nd ∧ H ca = some (.tup (c.map nV)) ∧ ns.length + c.length ≤ 1000 ∧
  ∀ p H', Same H H' → H p = none → H' p = some (.dK (kvI (thenN n.many ns gt c))) → Q (.ref p) H'
theorem ok_needswith {f c : Addr} (D : Dfn K mg "needs_with" s_needs_with f c) (T : Txt mg) : Cal P w K mg base 1 "needs_with" spNeedsWith [] := by
  refine cal D (fun _ _ _ _ _ _ us hl => match us, hl with | [_, _, _, _], _ => rfl) sc_needs_with (fun vs H Q E h => ?_) (fun A outer s H vs Q E hr h => ?_)
  · obtain ⟨a, d, ca, n, g, o, ps, ns, gt, nd, c, rfl, _⟩ := h
    rfl
  · obtain ⟨a, d, ca, n, g, o, ps, ns, gt, nd, c, rfl, N, hd, nok, hnd, hca, hl, q⟩ := h
    refine ⟨_, (pss_cons (ps_set (i := 4) sc_needs_with.nd rfl (by first | exact Or.inl rfl | exact Or.inr rfl) (pe_op op_sub (pe_dget (Nat.lt_of_le_of_lt (Nat.add_le_add_left (by decide) _) hr.units) (pv 1) (pv 2) (fun _ _ => rfl)) pe_int))
      (pss_cons (ps_set (i := 5) sc_needs_with.nd rfl (by first | exact Or.inl rfl | exact Or.inr rfl) (pe_callTy call_dictD (by rfl) T.b_dict (by decide +kernel) (pa_cons (pv 1) pa_nil)))
      (pss_cons (ps_for PassesOwn.never rfl (pi_tup (pv 3)) (pg_name (i := 6) sc_needs_with.nd rfl (by first | exact Or.inl rfl | exact Or.inr rfl))
        (pss_one (ps_if (pt_cmpR op_ge (pv 6) (pe_ix ix_tup (pv 0) pe_int (fun _ _ => rfl)) (nomark _)) (pss_one (ps_dput (Nat.lt_of_le_of_lt (Nat.add_le_add_left (by decide) _) hr.units) (pv 5) (pv 6) (pe_callB (call_min2 rfl) (by rfl) T.b_min (by decide +kernel) (pa_cons (pv 4) (pa_cons (pe_dget2 (Nat.lt_of_le_of_lt (Nat.add_le_add_left (by decide) _) hr.units) (pv 5) (pv 6) (pv 4) ⟨rfl, rfl, rfl, rfl⟩) pa_nil))) (by rfl))) pss_nil)))
      (pss_one (ps_ret (pv 5)))))), ?_⟩
    refine ⟨_, rfl, _, rfl, d, _, rfl, .inl ⟨kvI ns, nK gt, .inl hd, rfl, getD_some hnd⟩, _, _, rfl, rfl, ?_⟩
    refine ⟨_, rfl, d, kvI ns, rfl, .inl hd, fun p np => ?_⟩
    have s1 := Same.new (o := .dK (kvI ns)) np
    have hp1 : upd H p (.dK (kvI ns)) p = some (.dK (kvI ns)) := upd_same
    generalize upd H p (.dK (kvI ns)) = H1 at s1 hp1 ⊢
    refine ⟨_, rfl, ca, rfl, ⟨_, SqT.of (s1 _ _ hca)⟩, ?_⟩
    refine for_tup (K := K) (a := ca) (xs := c.map nV) (fun i σ H' => ∃ (x6 : Option V) (ms : Nd), σ = [some (.ref a), some (.ref d), some (nV gt), some (.ref ca), some (.int (nd - 1)), some (.ref p), x6] ∧ Same H H' ∧ H' p = some (.dK (kvI ms)) ∧ NdOk ms ∧ ms.length ≤ ns.length + i ∧ ms = (c.take i).foldl (fun acc w => if n.many ≤ w then ndPut acc w (minI (nd - 1) ((ndGet acc w).getD (nd - 1))) else acc) ns) ⟨_, ns, rfl, s1, hp1, nok, Nat.le_refl _, rfl⟩ ?_ ?_ ?_
    · rintro i σ H2 _ ⟨_, _, rfl, s2, _⟩
      exact SqT.of (s2 _ _ hca)
    · rintro i x σ H2 hx ⟨x6, ms, rfl, s2, hp2, mok, ml, em⟩
      have hi : i < c.length := by
        have := (List.getElem?_eq_some_iff.mp hx).1
        rwa [List.length_map] at this
      rw [natAt hi] at hx
      cases hx
      have ec : c.getD i 0 = c[i] := by rw [List.getD_eq_getElem?_getD, List.getElem?_eq_getElem hi]; rfl
      rw [ec]
      have et : ∀ r : Nd, (r = if n.many ≤ c[i] then ndPut ms c[i] (minI (nd - 1) ((ndGet ms c[i]).getD (nd - 1))) else ms) → r = (c.take (i + 1)).foldl (fun acc w => if n.many ≤ w then ndPut acc w (minI (nd - 1) ((ndGet acc w).getD (nd - 1))) else acc) ns := fun r e => by
        rw [List.take_add_one, List.getElem?_eq_getElem hi, Option.toList_some, List.foldl_append, ← em]
        exact e
      refine ⟨_, rfl, _, rfl, a, _, 0, _, rfl, rfl, SqT.of (s2 _ _ N.top), at0, _, _, rfl, rfl, _, rfl, ite2 (fun h => ?_) (fun h => ?_)⟩
      · have h' : n.many ≤ c[i] := by
          have := of_decide_eq_true h
          omega
        refine ⟨_, rfl, _, rfl, p, rfl, .inl ⟨_, .inl hp2⟩, _, rfl, _, rfl, (ndGet ms c[i]).map V.int, .inl ⟨kvI ms, nK c[i], .inl hp2, rfl, (kvI_val ms c[i]).symm⟩, ?_⟩
        have eg : ((ndGet ms c[i]).map V.int).getD (V.int (nd - 1)) = V.int ((ndGet ms c[i]).getD (nd - 1)) := by cases ndGet ms c[i] <;> rfl
        rw [eg]
        refine ⟨_, _, rfl, _, rfl, _, rfl, p, _, rfl, .inl ⟨kvI ms, nK c[i], hp2, rfl, by rw [kvI_len]; exact small256 (by omega), rfl⟩, ?_⟩
        refine ⟨_, ndPut ms c[i] (minI (nd - 1) ((ndGet ms c[i]).getD (nd - 1))), rfl, fun b u e => ?_, ?_, mok.put _ _, ?_, et _ (by rw [if_pos h'])⟩
        · rw [upd_ne (ne_of_none e np)]
          exact s2 b u e
        · rw [upd_same, ← kvI_put mok]
          rfl
        · have : (ndPut ms c[i] (minI (nd - 1) ((ndGet ms c[i]).getD (nd - 1)))).length = ((ndPut ms c[i] (minI (nd - 1) ((ndGet ms c[i]).getD (nd - 1)))).map (·.1)).length := (List.length_map _).symm
          rw [this, ndPut_keys]
          split
          · rw [List.length_map]; omega
          · rw [List.length_append, List.length_map, List.length_singleton]; omega
      · have h' : ¬ n.many ≤ c[i] := fun z => h (decide_eq_true (by omega))
        exact ⟨_, ms, rfl, s2, hp2, mok, by omega, et _ (by rw [if_neg h'])⟩
    · rintro σ H2 ⟨x6, ms, rfl, s2, hp2, mok, ml, em⟩
      rw [List.length_map, List.take_length] at em
      refine ⟨_, rfl, q p H2 s2 np ?_⟩
      rw [hp2, em]
      unfold thenN
      rw [hnd]
      rfl
end
end K87
set_option Elab.async false
set_option linter.all false
set_option maxRecDepth 100000
set_option maxHeartbeats 4000000
/-! zip of a tuple and a list, walked. -/
namespace GX
open PySem PySem.Spec PyProof.Rows L2
end GX
set_option Elab.async false
set_option linter.all false
set_option maxRecDepth 100000
set_option maxHeartbeats 4000000
/-! zip of a list and a tuple, walked. -/
namespace GX
open PySem PySem.Spec PyProof.Rows L2
end GX
set_option Elab.async false
set_option linter.all false
set_option maxRecDepth 100000
set_option maxHeartbeats 4000000
namespace K87
open PySem PySem.Spec PyProof.Rows L2 GX
open C8 (Cal pe_c pe_gc Met Mak)
-- @exc NoDepth init=least
-- @sub NoDepth NoDepth true
-- @exc TooMany made
-- @alt cut_masks tup par=N,t[i],i vars=masks:DL,wire:i
section
variable {P : Program} {w : World} {K : PySem.W.Frag} {mg : Str → Option Value} {base : Heap} {Ts : List Addr}
/-- gates of the net -/
def NdIn (n : Net) (ns : Nd) : Prop := ∀ x ∈ ns.map (·.1), n.many ≤ x ∧ x < n.many + n.gates.length
theorem NdIn.put {n : Net} {ns : Nd} (h : NdIn n ns) {w : Nat} (h1 : n.many ≤ w) (h2 : w < n.many + n.gates.length) (d : Int) : NdIn n (ndPut ns w d) := fun x hx => by
  rw [ndPut_keys] at hx
  split at hx
  · exact h x hx
  · rcases List.mem_append.mp hx with hx | hx
    · exact h x hx
    · rw [List.mem_singleton.mp hx]
      exact ⟨h1, h2⟩
theorem nd_fold {α : Type} {p : Nd → Prop} {f : Nd → α → Nd} : ∀ {l : List α} {ns : Nd}, (∀ acc x, x ∈ l → p acc → p (f acc x)) → p ns → p (l.foldl f ns)
  | [], _, _, h => h
  | x :: l, ns, hf, h => nd_fold (l := l) (fun acc y hy => hf acc y (List.mem_cons_of_mem _ hy)) (hf ns x List.mem_cons_self h)
theorem thenN_in {n : Net} {ns : Nd} {g : Nat} {c : List Nat} (h : NdIn n ns) (hc : ∀ x ∈ c, x < n.many + n.gates.length) : NdIn n (thenN n.many ns g c) := nd_fold (p := NdIn n) (fun acc x hx h => by
  split
  · rename_i h1
    exact h.put h1 (hc x hx) _
  · exact h) h
theorem firstN_in {n : Net} (ok : n.Ok) (d : Int) : NdIn n (firstN n d) := nd_fold (p := NdIn n) (fun acc x hx h => by
  obtain ⟨h1, h2⟩ := List.mem_filter.mp hx
  exact h.put (of_decide_eq_true h2) (ok.os x h1) _) (fun x hx => by cases hx)
theorem nd_len {n : Net} (ok : n.Ok) {ns : Nd} (h1 : NdOk ns) (h2 : NdIn n ns) : ns.length ≤ 24 := by
  have := ok.m8
  have := ok.g16
  have := List.Nodup.length_le_of_subset h1 (l₂ := List.range 24) fun x hx => List.mem_range.mpr (by have := h2 x hx; omega)
  rw [List.length_range, List.length_map] at this
  exact this
def spChoices (Ts : List Addr) : Sp := fun vs H Q _ => ∃ (a : Addr) (n : Net) (g o : Addr) (ps : List Addr) (k : Nat), vs = [.ref a, nV k] ∧ NetAt H a n g o ps ∧ n.Ok ∧ 2 ≤ k ∧ k ≤ 900 ∧ Tabs Ts H ∧
  ∀ p H' (qs : List Addr) (ds : List Nat), Aft Ts H H' → ds.length = n.many + n.gates.length → DepsTo n k ds → ChAt n k ds H' p qs → Q (.ref p) H'
theorem ok_choices {f c PW : Addr} (D : Dfn K mg "cut_choices" s_cut_choices f c) (T : Txt mg) (c_all_cuts : Cal P w K mg base 4 "all_cuts" (spAllCuts Ts) []) (c_depths_by : Cal P w K mg base 2 "depths_by" spDepthsBy []) (c_with_deepest : Cal P w K mg base 3 "with_deepest" (spWithDeep Ts) []) (TB_cut_choices : GxR.TabB base mg c PW) (hP : PW ∈ Ts) : Cal P w K mg base 5 "cut_choices" (spChoices Ts) [] := by
  refine cal D (fun _ _ _ _ _ _ us hl => match us, hl with | [_, _], _ => rfl) sc_cut_choices (fun vs H Q E h => ?_) (fun A outer s H vs Q E hr h => ?_)
  · obtain ⟨a, n, g, o, ps, k, rfl, _⟩ := h
    rfl
  · obtain ⟨a, n, g, o, ps, k, rfl, N, ok, hk2, hk, tb, q⟩ := h
    have m8 := ok.m8
    have g16 := ok.g16
    refine ⟨_, (pss_cons (ps_set (i := 2) sc_cut_choices.nd rfl (by first | exact Or.inl rfl | exact Or.inr rfl) (pe_c c_all_cuts hr (by decide) (by rfl) (pa_cons (pv 0) (pa_cons (pv 1) pa_nil))))
      (pss_cons (ps_set (i := 3) sc_cut_choices.nd rfl (by first | exact Or.inl rfl | exact Or.inr rfl) (pe_c c_depths_by hr (by decide) (by rfl) (pa_cons (pv 0) (pa_cons (pv 2) pa_nil))))
      (pss_one (ps_ret (pe_tupG (own := [("own", 4)]) hr (by rfl) T.b_tuple TB_cut_choices rfl (gxOk_by (N := ["net", "k", "cuts", "told", "own"]) (sc := defScope s_cut_choices) (own := [("own", 4)]) (by decide +kernel)) sc_cut_choices.nd (pi_tup (pv 2)) (fun _ _ _ _ => (pg_name (i := 4) sc_cut_choices.nd rfl (by first | exact Or.inl rfl | exact Or.inr rfl))) (fun _ _ _ _ => pts_nil) (fun _ _ _ _ => (pe_c c_with_deepest (GX.Room.gx4 hr) (by decide) (by rfl) (pa_cons (pv 4) (pa_cons (pv 3) pa_nil))))))))), ?_⟩
    refine ⟨_, rfl, _, rfl, a, n, g, o, ps, k, rfl, N, ok, hk2, by omega, tb, fun p H1 qs a1 hp PQ => ?_⟩
    refine ⟨_, rfl, _, rfl, a, p, n, g, o, ps, qs, k, rfl, N.aft tb a1, ok, hk2, by omega, hp, PQ, fun r H2 ds s2 hr2 dl dt => ?_⟩
    have a12 := a1.trans (Aft.ofSame a1.tb s2)
    have hp2 := s2 _ _ hp
    have PQ2 := PQ.mono fun p x h => CutsTold.mono h fun b zs e => s2 b _ e
    refine ⟨_, rfl, p, rfl, ⟨_, SqT.of hp2⟩, a12.tb PW hP, fun H3 ht => ?_⟩
    have a23 : Aft Ts H2 H3 := ⟨Keep.tabbed hP ht, a12.tb.tabbed ht⟩
    refine turns_it (walk_tup (xs := qs.map V.ref)) (fun i ys H' => ∃ us : List Addr, ys = us.map V.ref ∧ Aft Ts H2 H' ∧ PtsAt (ChTold n k ds) H' us ((List.range (n.many + n.gates.length)).take i)) ⟨[], rfl, a23, PtsAt.nil _ _⟩ (fun i ys H5 _ h => h.elim fun us h => SqT.of (h.2.1.tup a12.tb hp2)) ?_ ?_
    · rintro i x ys H4 H5 hi ⟨us, rfl, a4, P4⟩ ⟨rfl, hx⟩
      obtain ⟨qa, y, rfl, hy, rs, cs, h1, h2, h3, h4⟩ := PQ2.at_ hx
      have hyr := List.mem_range.mp (List.mem_of_getElem? hy)
      have ul : us.length ≤ 24 := by
        rw [P4.1, List.length_take, List.length_range]
        omega
      have hb : ∀ c ∈ cs, 0 < c.length ∧ c.length ≤ 1000 ∧ ∀ x ∈ c, x < ds.length := fun c hc => by
        have h := (h3.mem c).mp hc
        have hl := h.len
        refine ⟨Nat.pos_of_ne_zero fun z => ?_, by omega, fun x hx => by have := h.lt x hx; omega⟩
        have hs := h.sep
        rw [List.length_eq_zero_iff.mp z] at hs
        exact sep_none ok _ _ (Nat.le_refl _) hyr hs
      have tu := fun b xs (e : H2 b = some (.tup xs)) => a4.tup a12.tb e
      refine ⟨rfl, ?_⟩
      unfold tYes
      refine iteT ?_
      refine ⟨_, rfl, _, rfl, qa, r, rs, cs, ds, rfl, tu _ _ h1, h2.mono tu, tu _ _ hr2, h4, hb, a4.tb, fun r2 H6 us2 a6 hr6 P6 => ⟨?_, fun _ => ⟨us ++ [r2], by rw [List.map_append]; rfl, a4.trans a6, ?_⟩⟩⟩
      · show (List.map V.ref us).length < sizeLine
        rw [List.length_map]
        exact small256 (by omega)
      · rw [List.take_add_one, hy, Option.toList_some]
        exact (P4.mono fun p x h => ChTold.mono h fun b zs e => a6.tup a4.tb e).push ⟨us2, cs, hr6, P6, h3, h4⟩
    · rintro ys H4 ⟨us, rfl, a4, P4⟩
      have el : (qs.map V.ref).length = (List.range (n.many + n.gates.length)).length := by rw [List.length_map]; exact PQ2.1
      rw [el, List.take_length] at P4
      refine ⟨?_, fun p2 np => ?_⟩
      · rw [List.length_map, P4.1, List.length_range]
        exact small _ (by omega)
      · have a5 := Aft.new (o := .tup (us.map V.ref)) a4.tb np
        exact q p2 _ us ds ((a12.trans a4).trans a5) dl dt ⟨upd_same, P4.mono fun p x h => ChTold.mono h fun b zs e => a5.tup a4.tb e⟩
end
end K87
set_option Elab.async false
set_option linter.all false
set_option maxRecDepth 100000
set_option maxHeartbeats 4000000
/-! Data with lists or dicts as it stands in the heap, and its text by repr. -/
namespace GX
open PySem PySem.Spec PyProof.Rows L2
def keyD : Key → PyData
  | .inl i => .int i
  | .inr x => .str x
mutual
/-- l: lists may stand in it, else dicts may -/
inductive Rp (l : Bool) (H : Hp) : V → PyData → Prop
  | non : Rp l H .non .none
  | bl (b : Bool) : Rp l H (.bl b) (.bool b)
  | int (i : Int) : Rp l H (.int i) (.int i)
  | str (x : Str) : Rp l H (.str x) (.str x)
  | lst {a : Addr} {xs : List V} {ds : List PyData} (hl : l = true) (e : H a = some (.lst xs)) (r : RpAll l H xs ds) : Rp l H (.ref a) (.list ds)
  | tup {a : Addr} {xs : List V} {ds : List PyData} (e : H a = some (.tup xs)) (r : RpAll l H xs ds) : Rp l H (.ref a) (.tuple ds)
  | dic {a : Addr} {kvs : List (Key × V)} {ps : List (PyData × PyData)} (hl : l = false) (e : H a = some (.dK kvs)) (r : RpKv l H kvs ps) : Rp l H (.ref a) (.dict ps)
inductive RpAll (l : Bool) (H : Hp) : List V → List PyData → Prop
  | nil : RpAll l H [] []
  | cons {v : V} {vs : List V} {d : PyData} {ds : List PyData} : Rp l H v d → RpAll l H vs ds → RpAll l H (v :: vs) (d :: ds)
inductive RpKv (l : Bool) (H : Hp) : List (Key × V) → List (PyData × PyData) → Prop
  | nil : RpKv l H [] []
  | cons {k : Key} {v : V} {kvs : List (Key × V)} {d : PyData} {ps : List (PyData × PyData)} : Rp l H v d → RpKv l H kvs ps → RpKv l H ((k, v) :: kvs) ((keyD k, d) :: ps)
end
mutual
theorem Rp.mono {l : Bool} {H H' : Hp} (k : KeepT H H') : ∀ {v : V} {d : PyData}, Rp l H v d → Rp l H' v d
  | _, _, .non => .non
  | _, _, .bl b => .bl b
  | _, _, .int i => .int i
  | _, _, .str x => .str x
  | _, _, .lst hl e r => .lst hl (k _ _ e fun _ z => by cases z) (r.mono k)
  | _, _, .tup e r => .tup (k _ _ e fun _ z => by cases z) (r.mono k)
  | _, _, .dic hl e r => .dic hl (k _ _ e fun _ z => by cases z) (r.mono k)
theorem RpAll.mono {l : Bool} {H H' : Hp} (k : KeepT H H') : ∀ {vs : List V} {ds : List PyData}, RpAll l H vs ds → RpAll l H' vs ds
  | _, _, .nil => .nil
  | _, _, .cons a b => .cons (a.mono k) (b.mono k)
theorem RpKv.mono {l : Bool} {H H' : Hp} (k : KeepT H H') : ∀ {kvs : List (Key × V)} {ps : List (PyData × PyData)}, RpKv l H kvs ps → RpKv l H' kvs ps
  | _, _, .nil => .nil
  | _, _, .cons a b => .cons (a.mono k) (b.mono k)
end
/-- the thing that such data is -/
def thD : PyData → Th
  | .none => .non
  | .bool b => .bl b
  | .int i => .int i
  | .str x => .str x
  | .list _ => .oth true
  | .dict _ => .oth false
  | .tuple ds => .tup (thDs ds)
where thDs : List PyData → List Th
  | [] => []
  | d :: r => thD d :: thDs r
mutual
theorem Rp.rep {l : Bool} {H : Hp} : ∀ {v : V} {d : PyData}, Rp l H v d → Rep H v (thD d)
  | _, _, .non => by rw [thD]; exact .non
  | _, _, .bl b => by rw [thD]; exact .bl b
  | _, _, .int i => by rw [thD]; exact .int i
  | _, _, .str x => by rw [thD]; exact .str x
  | _, _, .lst _ e _ => by rw [thD]; exact .lst e
  | _, _, .tup e r => by rw [thD]; exact .tup e r.rep
  | _, _, .dic _ e _ => by rw [thD]; exact .dic e
theorem RpAll.rep {l : Bool} {H : Hp} : ∀ {vs : List V} {ds : List PyData}, RpAll l H vs ds → RepAll H vs (thD.thDs ds)
  | _, _, .nil => by rw [thD.thDs]; exact .nil
  | _, _, .cons a b => by rw [thD.thDs]; exact .cons a.rep b.rep
end
/-! ### what the model reads -/
end GX
set_option Elab.async false
set_option linter.all false
set_option maxRecDepth 100000
set_option maxHeartbeats 4000000
/-! Promises of defs that ask repr: they hold where no repr is under way. -/
namespace GX
open PySem PySem.Spec PyProof.Rows L2
open C8 (Cal pe_c)
/-! ### the law's end for such a law -/
section
variable {P : Program} {w : World} {K : PySem.W.Frag} {mg mb : Str → Option Value} {k : Nat} {fa a : Addr} {cs : List (Addr × Addr)} {fd : FuncData} {x : Str} {sp : Sp} {s : Shared} {vs : List Value} {ns : List Int}
def tabObj : Obj := { cls := .none, data := .fields #[] }
def scrObj (vs : List Value) : Obj := { cls := .type "list", data := .seq vs.toArray }
/-- what is tracked when the law begins: the tables, and the script where it is no part of the written -/
def begin' (Ts : List Addr) (K : PySem.W.Frag) (a : Addr) (vs : List Value) (ns : List Int) : Hp := fun b =>
  if b ∈ Ts then some (.tbl #[]) else if b = a ∧ K.lookup a = none then some (.frz (scrObj vs) (.lst (ns.map V.int))) else none
structure LawIn (K : PySem.W.Frag) (mg mb : Str → Option Value) (cs : List (Addr × Addr)) (a : Addr) (vs : List Value) (ns : List Int) (h : Heap) : Prop where
  kin : K.In h
  ns_ : h.Ns mainGlobals mg
  bl : h.Ns builtinsNs mb
  bb : ∀ x : Str, x ≠ "__name__" → mb x = bootBuiltins x
  nl : h.NoLimit
  tab : ∀ p ∈ cs, h.get? p.2 = some tabObj
  ntab : ∀ p ∈ cs, K.lookup p.2 = none
  code : ∀ p ∈ cs, PySem.W.CodeHd h p.1 p.2
  bm : ∃ (bm : Addr) (ob : Obj), mg "__builtins__" = some (.ref bm) ∧ bm ≠ builtinsNs ∧ h.get? bm = some ob ∧ ob.cls = .type "module" ∧ ob.dict = some builtinsNs ∧ ob.data = .plain
  scr : h.get? a = some (scrObj vs)
  iv : IntsAre vs ns
  room : ns.length ≤ sizeLine
section
variable {h : Heap} (L : LawIn K mg mb cs a vs ns h)
include L
theorem LawIn.tabs {b : Addr} (hb : b ∈ cs.map (·.2)) : h.get? b = some tabObj := by
  obtain ⟨p, hp, rfl⟩ := List.mem_map.mp hb
  exact L.tab p hp
/-- where something is tracked there stands a table or the script -/
theorem LawIn.what {b : Addr} {u : HO} (e : begin' (cs.map (·.2)) K a vs ns b = some u) : (b ∈ cs.map (·.2) ∧ u = .tbl #[]) ∨ (b = a ∧ K.lookup a = none ∧ u = .frz (scrObj vs) (.lst (ns.map V.int))) := by
  unfold begin' at e
  by_cases hb : b ∈ cs.map (·.2)
  · rw [if_pos hb] at e
    exact .inl ⟨hb, (Option.some.inj e).symm⟩
  · rw [if_neg hb] at e
    by_cases hc : b = a ∧ K.lookup a = none
    · rw [if_pos hc] at e
      exact .inr ⟨hc.1, hc.2, (Option.some.inj e).symm⟩
    · rw [if_neg hc] at e
      cases e
theorem LawIn.free {b : Addr} {o : Obj} (e : h.get? b = some o) (h1 : o ≠ tabObj) (h2 : o ≠ scrObj vs) : begin' (cs.map (·.2)) K a vs ns b = none := by
  cases q : begin' (cs.map (·.2)) K a vs ns b with
  | none => rfl
  | some u =>
    rcases L.what q with ⟨hb, _⟩ | ⟨rfl, _⟩
    · rw [L.tabs hb] at e
      exact absurd (Option.some.inj e).symm h1
    · rw [L.scr] at e
      exact absurd (Option.some.inj e).symm h2
theorem LawIn.freeK {b : Addr} {o : Obj} (e : K.lookup b = some o) : begin' (cs.map (·.2)) K a vs ns b = none := by
  cases q : begin' (cs.map (·.2)) K a vs ns b with
  | none => rfl
  | some u =>
    rcases L.what q with ⟨hb, _⟩ | ⟨rfl, hk, _⟩
    · obtain ⟨p, hp, rfl⟩ := List.mem_map.mp hb
      rw [L.ntab p hp] at e
      cases e
    · rw [hk] at e
      cases e
theorem LawIn.dicts {b : Addr} {m : Str → Option Value} (e : h.Ns b m) : (hidT h (begin' (cs.map (·.2)) K a vs ns)).Ns b m := by
  obtain ⟨o, es, ep, e1, e2, r⟩ := e
  exact ⟨o, es, ep, hidT_get e1 (L.free e1 (fun z => by rw [z] at e2; cases e2) (fun z => by rw [z] at e2; cases e2)), e2, r⟩
theorem LawIn.kinB : K.In (hidT h (begin' (cs.map (·.2)) K a vs ns)) := fun b o e => hidT_get (L.kin b o e) (L.freeK e)
theorem LawIn.mod : L2.Mod K mg (hidT h (begin' (cs.map (·.2)) K a vs ns)) :=
  ⟨L.kinB, L.dicts L.ns_, ⟨mb, L.dicts L.bl, L.bb⟩, let ⟨mc, z, n⟩ := L.nl; ⟨mc, L.dicts z, n⟩⟩
end
end
end GX
set_option Elab.async false
set_option linter.all false
set_option maxRecDepth 100000
set_option maxHeartbeats 4000000
/-! How long the texts are. -/
namespace GX
open PySem PySem.Spec PyProof.Rows L2
theorem textFrom_up : ∀ (ts : List Str) (k : Nat) (acc : Str), (textFrom k acc ts).length ≤ acc.length + piled ts
  | [], k, acc => Nat.le_add_right _ _
  | t :: r, k, acc => by
    have e : (acc ++ (if k > 0 then ", " else "" : String) ++ t).length ≤ acc.length + 2 + t.length := by
      rw [strLen_append, strLen_append]
      have : (((if k > 0 then ", " else "" : String) : Str)).length ≤ 2 := by split <;> decide
      omega
    have ih := textFrom_up r (k + 1) (acc ++ (if k > 0 then ", " else "" : String) ++ t)
    show (textFrom (k + 1) _ r).length ≤ _
    rw [piled_cons]
    omega
theorem listText_up (ts : List Str) : (listText ts).length ≤ piled ts + 2 := by
  have := textFrom_up ts 0 "["
  unfold listText
  rw [strLen_append]
  have e1 : ((("[" : String) : Str)).length = 1 := rfl
  have e2 : ((("]" : String) : Str)).length = 1 := rfl
  rw [e1] at this
  rw [e2]
  omega
theorem join_up (ts : List Str) : (Str.join ", " ts).length ≤ piled ts := by
  by_cases h : ts = []
  · subst h; exact Nat.zero_le _
  · have := join_length_add ts h
    omega
theorem tupleText_up (ts : List Str) : (tupleText ts).length ≤ piled ts + 3 := by
  have := join_up ts
  unfold tupleText
  rw [strLen_append, strLen_append]
  have e1 : ((("(" : String) : Str)).length = 1 := rfl
  have e3 : (((if ts.length == 1 then ",)" else ")" : String) : Str)).length ≤ 2 := by split <;> decide
  rw [e1]
  omega
/-- shown within m levels and n signs -/
structure Sd (m n : Nat) (d : PyData) : Prop where
  sh : d.showable = true
  dp : d.depth ≤ m
  ln : d.shown.length ≤ n
theorem Sd.mono {m n m' n' : Nat} {d : PyData} (h : Sd m n d) (a : m ≤ m') (b : n ≤ n') : Sd m' n' d := ⟨h.sh, Nat.le_trans h.dp a, Nat.le_trans h.ln b⟩
theorem sd_all {m n : Nat} : ∀ {ds : List PyData}, (∀ d ∈ ds, Sd m n d) → PyData.showableAll ds = true ∧ PyData.depthAll ds ≤ m ∧ piled (PyData.shownAll ds) ≤ ds.length * (n + 2)
  | [], _ => ⟨by rw [PyData.showableAll], Nat.zero_le _, by rw [PyData.shownAll]; exact Nat.zero_le _⟩
  | d :: ds, h => by
    obtain ⟨h1, h2, h3⟩ := sd_all fun e he => h e (List.mem_cons_of_mem _ he)
    have hd := h d List.mem_cons_self
    refine ⟨by rw [PyData.showableAll, hd.sh, h1]; rfl, ?_, ?_⟩
    · show max d.depth (PyData.depthAll ds) ≤ m
      have := hd.dp
      omega
    · rw [PyData.shownAll, piled_cons, List.length_cons, Nat.succ_mul]
      have := hd.ln
      omega
theorem Sd.tup {m n c : Nat} {ds : List PyData} (h : ∀ d ∈ ds, Sd m n d) (hc : ds.length ≤ c) : Sd (m + 1) (c * (n + 2) + 3) (.tuple ds) := by
  obtain ⟨h1, h2, h3⟩ := sd_all h
  refine ⟨by rw [PyData.showable]; exact h1, Nat.succ_le_succ h2, ?_⟩
  rw [PyData.shown]
  have := tupleText_up (PyData.shownAll ds)
  have := Nat.mul_le_mul_right (n + 2) hc
  omega
theorem Sd.lst {m n c : Nat} {ds : List PyData} (h : ∀ d ∈ ds, Sd m n d) (hc : ds.length ≤ c) : Sd (m + 1) (c * (n + 2) + 3) (.list ds) := by
  obtain ⟨h1, h2, h3⟩ := sd_all h
  refine ⟨by rw [PyData.showable]; exact h1, Nat.succ_le_succ h2, ?_⟩
  rw [PyData.shown]
  have := listText_up (PyData.shownAll ds)
  have := Nat.mul_le_mul_right (n + 2) hc
  omega
theorem small_text : ∀ k < 1000, ((toString ((k : Nat) : Int) : String) : Str).length ≤ 4 ∧ ((toString (-((k : Nat) : Int)) : String) : Str).length ≤ 4 ∧ (reprText ((toString ((k : Nat) : Int) : String) : Str)).length ≤ 6 ∧ (reprText ((toString (-((k : Nat) : Int)) : String) : Str)).length ≤ 6 := by decide +kernel
theorem small_int {i : Int} (h : i.natAbs < 1000) : ((toString i : String) : Str).length ≤ 4 ∧ (reprText ((toString i : String) : Str)).length ≤ 6 := by
  have := small_text i.natAbs h
  rcases Int.natAbs_eq i with e | e
  · rw [← e] at this
    exact ⟨this.1, this.2.2.1⟩
  · rw [← e] at this
    exact ⟨this.2.1, this.2.2.2⟩
theorem log_small {i : Nat} (h : i < 1000) : i.log2 < 1920 := by
  by_cases z : i = 0
  · subst z; decide
  · exact Nat.lt_of_lt_of_le ((Nat.log2_lt z).mpr (show i < 2 ^ 10 by omega)) (by decide)
theorem Sd.int {i : Int} (h : i.natAbs < 1000) : Sd 0 4 (.int i) := ⟨by rw [PyData.showable]; exact decide_eq_true (log_small h), Nat.zero_le _, by rw [PyData.shown]; exact (small_int h).1⟩
theorem Sd.none : Sd 0 4 .none := ⟨by decide +kernel, by decide +kernel, by decide +kernel⟩
theorem Sd.bl (b : Bool) : Sd 0 5 (.bool b) := by cases b <;> exact ⟨by decide +kernel, by decide +kernel, by decide +kernel⟩
/-- such a thing in the heap -/
def Shw (l : Bool) (m n : Nat) (H : Hp) (v : V) : Prop := ∃ d, Rp l H v d ∧ Sd m n d
def ShAll (l : Bool) (m n : Nat) (H : Hp) (vs : List V) : Prop := ∃ ds, RpAll l H vs ds ∧ ∀ d ∈ ds, Sd m n d
theorem RpAll.length {l : Bool} {H : Hp} : ∀ {vs : List V} {ds : List PyData}, RpAll l H vs ds → vs.length = ds.length
  | _, _, .nil => rfl
  | _, _, .cons _ b => by rw [List.length_cons, List.length_cons, b.length]
theorem RpAll.append {l : Bool} {H : Hp} : ∀ {vs ws : List V} {ds es : List PyData}, RpAll l H vs ds → RpAll l H ws es → RpAll l H (vs ++ ws) (ds ++ es)
  | _, _, _, _, .nil, s => s
  | _, _, _, _, .cons a b, s => .cons a (b.append s)
theorem RpAll.drop {l : Bool} {H : Hp} : ∀ {vs : List V} {ds : List PyData} (n : Nat), RpAll l H vs ds → RpAll l H (vs.drop n) (ds.drop n)
  | _, _, 0, r => r
  | _, _, _ + 1, .nil => .nil
  | _, _, n + 1, .cons _ b => b.drop n
theorem RpAll.take {l : Bool} {H : Hp} : ∀ {vs : List V} {ds : List PyData} (n : Nat), RpAll l H vs ds → RpAll l H (vs.take n) (ds.take n)
  | _, _, 0, _ => .nil
  | _, _, _ + 1, .nil => .nil
  | _, _, n + 1, .cons a b => .cons a (b.take n)
theorem RpAll.get {l : Bool} {H : Hp} : ∀ {vs : List V} {ds : List PyData} {i : Nat} {v : V}, RpAll l H vs ds → vs[i]? = some v → ∃ d, ds[i]? = some d ∧ Rp l H v d
  | _, _, _, _, .nil, h => by simp at h
  | _, _, 0, _, .cons a _, h => by cases h; exact ⟨_, rfl, a⟩
  | _, _, i + 1, _, .cons _ b, h => RpAll.get (i := i) b h
section
variable {l : Bool} {m n m' n' : Nat} {H H' : Hp} {v : V} {vs us : List V} {a : Addr}
theorem Shw.keep (k : KeepT H H') (h : Shw l m n H v) : Shw l m n H' v := let ⟨d, r, s⟩ := h; ⟨d, r.mono k, s⟩
theorem ShAll.keep (k : KeepT H H') (h : ShAll l m n H vs) : ShAll l m n H' vs := let ⟨d, r, s⟩ := h; ⟨d, r.mono k, s⟩
theorem Shw.mono (h : Shw l m n H v) (a : m ≤ m') (b : n ≤ n') : Shw l m' n' H v := let ⟨d, r, s⟩ := h; ⟨d, r, s.mono a b⟩
theorem ShAll.mono (h : ShAll l m n H vs) (a : m ≤ m') (b : n ≤ n') : ShAll l m' n' H vs := let ⟨d, r, s⟩ := h; ⟨d, r, fun e he => (s e he).mono a b⟩
theorem ShAll.nil : ShAll l m n H [] := ⟨[], .nil, fun d hd => by cases hd⟩
theorem Shw.cons (h : Shw l m n H v) (t : ShAll l m n H vs) : ShAll l m n H (v :: vs) := let ⟨d, r, s⟩ := h; let ⟨ds, q, z⟩ := t; ⟨d :: ds, .cons r q, fun e he => by
  rcases List.mem_cons.mp he with rfl | he
  · exact s
  · exact z e he⟩
theorem ShAll.append (h : ShAll l m n H vs) (t : ShAll l m n H us) : ShAll l m n H (vs ++ us) := let ⟨d, r, s⟩ := h; let ⟨ds, q, z⟩ := t; ⟨d ++ ds, r.append q, fun e he => by
  rcases List.mem_append.mp he with he | he
  · exact s e he
  · exact z e he⟩
theorem ShAll.take (i : Nat) (h : ShAll l m n H vs) : ShAll l m n H (vs.take i) := let ⟨d, r, s⟩ := h; ⟨d.take i, r.take i, fun e he => s e (List.mem_of_mem_take he)⟩
theorem ShAll.drop (i : Nat) (h : ShAll l m n H vs) : ShAll l m n H (vs.drop i) := let ⟨d, r, s⟩ := h; ⟨d.drop i, r.drop i, fun e he => s e (List.mem_of_mem_drop he)⟩
theorem ShAll.get {i : Nat} (h : ShAll l m n H vs) (e : vs[i]? = some v) : Shw l m n H v := by
  obtain ⟨ds, r, s⟩ := h
  obtain ⟨d, hd, rd⟩ := r.get e
  exact ⟨d, rd, s d (List.mem_of_getElem? hd)⟩
theorem Shw.tup {c : Nat} (e : H a = some (.tup vs)) (h : ShAll l m n H vs) (hc : vs.length ≤ c) : Shw l (m + 1) (c * (n + 2) + 3) H (.ref a) := let ⟨ds, r, s⟩ := h; ⟨.tuple ds, .tup e r, Sd.tup s (by rw [← r.length]; exact hc)⟩
theorem Shw.lst {c : Nat} (e : H a = some (.lst vs)) (h : ShAll true m n H vs) (hc : vs.length ≤ c) : Shw true (m + 1) (c * (n + 2) + 3) H (.ref a) := let ⟨ds, r, s⟩ := h; ⟨.list ds, .lst rfl e r, Sd.lst s (by rw [← r.length]; exact hc)⟩
theorem Shw.int {i : Int} (h : i.natAbs < 1000) : Shw l 0 4 H (.int i) := ⟨_, .int i, Sd.int h⟩
theorem Shw.non : Shw l 0 4 H .non := ⟨_, .non, Sd.none⟩
theorem Shw.bl (b : Bool) : Shw l 0 5 H (.bl b) := ⟨_, .bl b, Sd.bl b⟩
theorem Shw.str {x : Str} {n : Nat} (h : (reprText x).length ≤ n) : Shw l 0 n H (.str x) := ⟨_, .str x, ⟨by rw [PyData.showable], Nat.zero_le _, by rw [PyData.shown]; exact h⟩⟩
end
end GX
set_option Elab.async false
set_option linter.all false
set_option maxRecDepth 100000
set_option maxHeartbeats 4000000
namespace K87
open PySem PySem.Spec PyProof.Rows L2 GX
open C8 (Cal pe_c pe_gc Met Mak)
-- @exc NoDepth init=least
-- @sub NoDepth NoDepth true
-- @exc TooMany made
-- @alt cut_masks tup par=N,t[i],i vars=masks:DL,wire:i
section
variable {P : Program} {w : World} {K : PySem.W.Frag} {mg : Str → Option Value} {base : Heap} {Ts : List Addr}
/-- needs no less than the depths -/
def NdGe (ds : List Nat) (ns : Nd) : Prop := ∀ x e, ndGet ns x = some e → ((ds.getD x 0 : Nat) : Int) ≤ e
theorem NdGe.put {ds : List Nat} {ns : Nd} (h : NdGe ds ns) {w : Nat} {d : Int} (hd : ((ds.getD w 0 : Nat) : Int) ≤ d) : NdGe ds (ndPut ns w d) := fun x e hx => by
  rw [ndGet_put] at hx
  split at hx
  · rename_i z
    cases hx
    rw [z]
    exact hd
  · exact h x e hx
theorem thenN_ge {ds : List Nat} {many : Nat} {ns : Nd} {g : Nat} {nd : Int} {c : List Nat} (h : NdGe ds ns) (hg : ndGet ns g = some nd) (hc : ((maxL (c.map fun x => ds.getD x 0) : Nat) : Int) < nd) : NdGe ds (thenN many ns g c) := by
  unfold thenN
  rw [hg]
  refine nd_fold (p := NdGe ds) (fun acc x hx h => ?_) h
  split
  · refine h.put ?_
    have h1 : ds.getD x 0 ≤ maxL (c.map fun x => ds.getD x 0) := le_maxL (List.mem_map.mpr ⟨x, hx, rfl⟩)
    show _ ≤ minI (nd - 1) ((ndGet acc x).getD (nd - 1))
    unfold minI
    split
    · cases e : ndGet acc x with
      | none => show _ ≤ nd - 1; omega
      | some y => exact h x y e
    · omega
  · exact h
theorem fit_some {n : Net} {k : Nat} {ds : List Nat} {ns : Nd} {g : Nat} {nd : Int} {cs : List (List Nat)} (hm : n.many ≤ g) (hl : g < ds.length) (dt : DepsTo n k ds) (hge : NdGe ds ns) (hg : ndGet ns g = some nd) (hcs : CutsAre n k g cs) : fitC ds cs nd ≠ [] := fun z => by
  obtain ⟨⟨c, lc, e⟩, _⟩ := dt.at_ g hm hl
  have := hge g nd hg
  have : c ∈ fitC ds cs nd := List.mem_filter.mpr ⟨(hcs.mem c).mpr lc, decide_eq_true (by omega)⟩
  rw [z] at this
  cases this
/-- where the law's walk stands -/
structure NdAt (n : Net) (ds : List Nat) (H : Hp) (d : Addr) (ns : Nd) : Prop where
  at_ : H d = some (.dK (kvI ns))
  ok : NdOk ns
  in_ : NdIn n ns
  ge : NdGe ds ns
theorem NdAt.same {n : Net} {ds : List Nat} {H H' : Hp} {d : Addr} {ns : Nd} (h : NdAt n ds H d ns) (s : Same H H') : NdAt n ds H' d ns := ⟨s _ _ h.at_, h.ok, h.in_, h.ge⟩
end
section
variable {P : Program} {w : World} {K : PySem.W.Frag} {mg : Str → Option Value} {base : Heap} {Ts : List Addr}
def minL (l : List Nat) : Nat := l.min?.getD 0
/-- the fewest tables by all choices -/
def cntN (n : Net) (ds : List Nat) (cof : Nat → List (List Nat)) : Nat → Nd → Nat → Nat
  | 0, ns, _ => ns.length
  | f + 1, ns, b => match nextG ns b with
    | none => ns.length
    | some g => minL ((fitC ds (cof g) ((ndGet ns g).getD 0)).map fun c => cntN n ds cof f (thenN n.many ns g c) g)
theorem cnt_last {n : Net} {ds : List Nat} {cof : Nat → List (List Nat)} {f : Nat} {ns : Nd} {b : Nat} (h : nextG ns b = none) : cntN n ds cof f ns b = ns.length := by
  cases f with
  | zero => rfl
  | succ f => unfold cntN; rw [h]
theorem cnt_some {n : Net} {ds : List Nat} {cof : Nat → List (List Nat)} {f : Nat} {ns : Nd} {b g : Nat} {nd : Int} (h : nextG ns b = some g) (hg : ndGet ns g = some nd) : cntN n ds cof (f + 1) ns b = minL ((fitC ds (cof g) nd).map fun c => cntN n ds cof f (thenN n.many ns g c) g) := by
  conv => lhs; unfold cntN
  rw [h]
  show minL ((fitC ds (cof g) ((ndGet ns g).getD 0)).map fun c => cntN n ds cof f (thenN n.many ns g c) g) = _
  rw [hg]
  rfl
theorem minL_eq {l : List Nat} {m : Nat} (h1 : m ∈ l) (h2 : ∀ x ∈ l, m ≤ x) : minL l = m := by
  unfold minL
  rw [List.min?_eq_some_iff.mpr ⟨h1, h2⟩]
  rfl
theorem minL_mem {l : List Nat} (h : l ≠ []) : minL l ∈ l ∧ ∀ x ∈ l, minL l ≤ x := by
  unfold minL
  cases e : l.min? with
  | none => exact absurd (List.min?_eq_none_iff.mp e) h
  | some m => exact List.min?_eq_some_iff.mp e
/-- needs as they have to be -/
structure NdW (n : Net) (ds : List Nat) (ns : Nd) : Prop where
  ok : NdOk ns
  in_ : NdIn n ns
  ge : NdGe ds ns
theorem NdAt.toW {n : Net} {ds : List Nat} {H : Hp} {d : Addr} {ns : Nd} (h : NdAt n ds H d ns) : NdW n ds ns := ⟨h.ok, h.in_, h.ge⟩
theorem NdW.then_ {n : Net} {k : Nat} {ds : List Nat} {ns : Nd} {g : Nat} {nd : Int} {cs : List (List Nat)} {c : List Nat} (h : NdW n ds ns) (gl : g < n.many + n.gates.length) (hcs : CutsAre n k g cs) (hnd : ndGet ns g = some nd) (hc : c ∈ fitC ds cs nd) : NdW n ds (thenN n.many ns g c) := by
  obtain ⟨h1, h2⟩ := List.mem_filter.mp hc
  have lc := (hcs.mem c).mp h1
  exact ⟨thenN_ok h.ok, thenN_in h.in_ fun x hx => Nat.lt_trans (lc.lt x hx) gl, thenN_ge h.ge hnd (of_decide_eq_true h2)⟩
end
end K87
set_option Elab.async false
set_option linter.all false
set_option maxRecDepth 100000
set_option maxHeartbeats 4000000
namespace K87
open PySem PySem.Spec PyProof.Rows L2 GX
open C8 (Cal pe_c pe_gc Met Mak)
-- @exc NoDepth init=least
-- @sub NoDepth NoDepth true
-- @exc TooMany made
-- @alt cut_masks tup par=N,t[i],i vars=masks:DL,wire:i
section
variable {P : Program} {w : World} {K : PySem.W.Frag} {mg : Str → Option Value} {base : Heap} {Ts : List Addr}
/-! ### the fewest tables, as data -/
def pickF (b y : List Tb) : List Tb := if y.length < b.length then y else b
/-- the first of the shortest -/
def bestOf : List (List Tb) → List Tb
  | [] => []
  | x :: r => r.foldl pickF x
theorem best_push {l : List (List Tb)} (h : l ≠ []) (y : List Tb) : bestOf (l ++ [y]) = pickF (bestOf l) y := by
  cases l with
  | nil => exact absurd rfl h
  | cons x r =>
    show (r ++ [y]).foldl pickF x = _
    rw [List.foldl_append]
    rfl
theorem best_foldl : ∀ (r : List (List Tb)) (x : List Tb), (r.foldl pickF x ∈ x :: r) ∧ ∀ y ∈ x :: r, (r.foldl pickF x).length ≤ y.length
  | [], x => ⟨List.mem_cons_self, fun y hy => by
    rw [List.mem_singleton.mp hy]
    exact Nat.le_refl _⟩
  | z :: r, x => by
    obtain ⟨h1, h2⟩ := best_foldl r (pickF x z)
    have hp : (pickF x z = x ∨ pickF x z = z) ∧ (pickF x z).length ≤ x.length ∧ (pickF x z).length ≤ z.length := by
      unfold pickF
      split
      · rename_i h
        exact ⟨.inr rfl, Nat.le_of_lt h, Nat.le_refl _⟩
      · rename_i h
        exact ⟨.inl rfl, Nat.le_refl _, by omega⟩
    refine ⟨?_, fun y hy => ?_⟩
    · show r.foldl pickF (pickF x z) ∈ _
      rcases List.mem_cons.mp h1 with e | e
      · rw [e]
        rcases hp.1 with e2 | e2 <;> rw [e2]
        · exact List.mem_cons_self
        · exact List.mem_cons_of_mem _ List.mem_cons_self
      · exact List.mem_cons_of_mem _ (List.mem_cons_of_mem _ e)
    · show (r.foldl pickF (pickF x z)).length ≤ _
      have h0 := h2 _ List.mem_cons_self
      rcases List.mem_cons.mp hy with e | e
      · rw [e]; exact Nat.le_trans h0 hp.2.1
      · rcases List.mem_cons.mp e with e | e
        · rw [e]; exact Nat.le_trans h0 hp.2.2
        · exact h2 y (List.mem_cons_of_mem _ e)
theorem best_mem {l : List (List Tb)} (h : l ≠ []) : bestOf l ∈ l ∧ ∀ y ∈ l, (bestOf l).length ≤ y.length := by
  cases l with
  | nil => exact absurd rfl h
  | cons x r => exact best_foldl r x
def fewT (n : Net) (ds : List Nat) (cof : Nat → List (List Nat)) : Nat → Nd → Nat → List Tb
  | 0, _, _ => []
  | f + 1, ns, b => match nextG ns b with
    | none => []
    | some g => bestOf ((fitC ds (cof g) ((ndGet ns g).getD 0)).map fun c => (g, c) :: fewT n ds cof f (thenN n.many ns g c) g)
theorem few_last {n : Net} {ds : List Nat} {cof : Nat → List (List Nat)} {f : Nat} {ns : Nd} {b : Nat} (h : nextG ns b = none) : fewT n ds cof f ns b = [] := by
  cases f with
  | zero => rfl
  | succ f => unfold fewT; rw [h]
theorem few_some {n : Net} {ds : List Nat} {cof : Nat → List (List Nat)} {f : Nat} {ns : Nd} {b g : Nat} {nd : Int} (h : nextG ns b = some g) (hg : ndGet ns g = some nd) : fewT n ds cof (f + 1) ns b = bestOf ((fitC ds (cof g) nd).map fun c => (g, c) :: fewT n ds cof f (thenN n.many ns g c) g) := by
  conv => lhs; unfold fewT
  rw [h]
  show bestOf ((fitC ds (cof g) ((ndGet ns g).getD 0)).map fun c => (g, c) :: fewT n ds cof f (thenN n.many ns g c) g) = _
  rw [hg]
  rfl
theorem few_len {n : Net} {ds : List Nat} {cof : Nat → List (List Nat)} : ∀ (f : Nat) (ns : Nd) (b : Nat), (fewT n ds cof f ns b).length ≤ f
  | 0, _, _ => Nat.le_refl _
  | f + 1, ns, b => by
    cases h : nextG ns b with
    | none => rw [few_last h]; exact Nat.zero_le _
    | some g =>
      obtain ⟨nd, hnd⟩ := ndGet_some (nextG_some h).1
      rw [few_some h hnd]
      by_cases e : ((fitC ds (cof g) nd).map fun c => (g, c) :: fewT n ds cof f (thenN n.many ns g c) g) = []
      · rw [e]; exact Nat.zero_le _
      · obtain ⟨h1, _⟩ := best_mem e
        obtain ⟨c, _, e2⟩ := List.mem_map.mp h1
        rw [← e2]
        exact Nat.succ_le_succ (few_len f _ _)
/-! ### the paper that counts, as data -/
def papT (n : Net) (ds : List Nat) (cof : Nat → List (List Nat)) (m : Nat) : Nat → Nd → Nat → Th
  | 0, _, _ => .tup [.str "count"]
  | f + 1, ns, b => if m ≤ ns.length then .tup [.str "count"] else match nextG ns b with
    | none => .tup [.str "count"]
    | some g => .tup [.str "cases", .tup ((fitC ds (cof g) ((ndGet ns g).getD 0)).map fun c => papT n ds cof m f (thenN n.many ns g c) g)]
theorem pap_count {n : Net} {ds : List Nat} {cof : Nat → List (List Nat)} {m f : Nat} {ns : Nd} {b : Nat} (h : m ≤ ns.length) : papT n ds cof m f ns b = .tup [.str "count"] := by
  cases f with
  | zero => rfl
  | succ f => unfold papT; rw [if_pos h]
theorem pap_cases {n : Net} {ds : List Nat} {cof : Nat → List (List Nat)} {m f : Nat} {ns : Nd} {b g : Nat} {nd : Int} (h : ¬ m ≤ ns.length) (h2 : nextG ns b = some g) (hg : ndGet ns g = some nd) : papT n ds cof m (f + 1) ns b = .tup [.str "cases", .tup ((fitC ds (cof g) nd).map fun c => papT n ds cof m f (thenN n.many ns g c) g)] := by
  conv => lhs; unfold papT
  rw [if_neg h, h2]
  show Th.tup [.str "cases", .tup ((fitC ds (cof g) ((ndGet ns g).getD 0)).map fun c => papT n ds cof m f (thenN n.many ns g c) g)] = _
  rw [hg]
  rfl
/-- a cover stands -/
def CvAt (H : Hp) (p : Addr) (cv : List Tb) : Prop := ∃ ps, CovAt H p cv ps
theorem CvAt.mono {H H' : Hp} {p : Addr} {cv : List Tb} (h : CvAt H p cv) (m : ∀ b xs, H b = some (.tup xs) → H' b = some (.tup xs)) : CvAt H' p cv := by
  obtain ⟨ps, h⟩ := h
  exact ⟨ps, h.mono m⟩
structure FwAt (n : Net) (k : Nat) (ds : List Nat) (cof : Nat → List (List Nat)) (H : Hp) (a cp g o : Addr) (ps qs : List Addr) : Prop where
  net : NetAt H a n g o ps
  ok : n.Ok
  k9 : k ≤ 900
  ch : ChAt n k ds H cp qs
  dl : ds.length = n.many + n.gates.length
  dt : DepsTo n k ds
  cof : ∀ x, x < n.many + n.gates.length → CutsAre n k x (cof x)
theorem FwAt.same {n : Net} {k : Nat} {ds : List Nat} {cof : Nat → List (List Nat)} {H H' : Hp} {a cp g o : Addr} {ps qs : List Addr} (h : FwAt n k ds cof H a cp g o ps qs) (s : Same H H') : FwAt n k ds cof H' a cp g o ps qs := ⟨h.net.same s, h.ok, h.k9, h.ch.mono fun b xs e => s b _ e, h.dl, h.dt, h.cof⟩
def spFewT (f : Nat) : Sp := fun vs H Q _ => ∃ (a cp d : Addr) (n : Net) (g o : Addr) (ps qs : List Addr) (k : Nat) (ds : List Nat) (cof : Nat → List (List Nat)) (ns : Nd) (b : Nat), vs = [.ref a, .ref cp, .ref d, nV b] ∧ FwAt n k ds cof H a cp g o ps qs ∧ NdAt n ds H d ns ∧ b < f ∧
  ∀ p H', Same H H' → CvAt H' p (fewT n ds cof (f - 1) ns b) → Q (.ref p) H'
theorem ok_fewT0 {f c : Addr} (D : Dfn K mg "fewest_tables" s_fewest_tables f c) : Cal P w K mg base 2 "fewest_tables" (spFewT 0) [] := by
  refine cal D (fun _ _ _ _ _ _ us hl => match us, hl with | [_, _, _, _], _ => rfl) sc_fewest_tables (fun vs H Q E h => ?_) (fun A outer s H vs Q E hr h => ?_)
  · obtain ⟨a, cp, d, n, g, o, ps, qs, k, ds, cof, ns, b, rfl, _⟩ := h
    rfl
  · obtain ⟨a, cp, d, n, g, o, ps, qs, k, ds, cof, ns, b, rfl, _, _, z, _⟩ := h
    exact absurd z (Nat.not_lt_zero _)
theorem ok_fewTS {f c : Addr} {l e : Nat} (D : Dfn K mg "fewest_tables" s_fewest_tables f c) (T : Txt mg) (hk : 2 ≤ l) (he : e ≤ 30) (c_next_gate : Cal P w K mg base 1 "next_gate" spNextG []) (c_fitting_cuts : Cal P w K mg base 1 "fitting_cuts" spFit []) (c_needs_with : Cal P w K mg base 1 "needs_with" spNeedsWith []) (c_fewest_tables : Cal P w K mg base l "fewest_tables" (spFewT e) []) : Cal P w K mg base (l + 1) "fewest_tables" (spFewT (e + 1)) [] := by
  refine cal D (fun _ _ _ _ _ _ us hl => match us, hl with | [_, _, _, _], _ => rfl) sc_fewest_tables (fun vs H Q E h => ?_) (fun A outer s H vs Q E hr h => ?_)
  · obtain ⟨a, cp, d, n, g, o, ps, qs, k, ds, cof, ns, b, rfl, _⟩ := h
    rfl
  · obtain ⟨a, cp, d, n, g, o, ps, qs, k, ds, cof, ns, b, rfl, L0, Nd0, hb, q⟩ := h
    have q : ∀ p H', Same H H' → CvAt H' p (fewT n ds cof e ns b) → Q (.ref p) H' := q
    have nl := nd_len L0.ok Nd0.ok Nd0.in_
    refine ⟨_, (pss_cons (ps_set (i := 4) sc_fewest_tables.nd rfl (by first | exact Or.inl rfl | exact Or.inr rfl) (pe_c c_next_gate hr (by omega) (by rfl) (pa_cons (pv 2) (pa_cons (pv 3) pa_nil))))
      (pss_cons (ps_if (pt_cmpR op_isN (pv 4) pe_non (nomark _)) (pss_one (ps_ret (pe_tup pa_nil))) pss_nil)
      (pss_cons (ps_set (i := 5) sc_fewest_tables.nd rfl (by first | exact Or.inl rfl | exact Or.inr rfl) (pe_lst pa_nil))
      (pss_cons (ps_for PassesOwn.never rfl (pi_list (pe_c c_fitting_cuts hr (by omega) (by rfl) (pa_cons (pv 1) (pa_cons (pv 4) (pa_cons (pv 2) pa_nil))))) (pg_name (i := 6) sc_fewest_tables.nd rfl (by first | exact Or.inl rfl | exact Or.inr rfl))
        (pss_cons (ps_set (i := 7) sc_fewest_tables.nd rfl (by first | exact Or.inl rfl | exact Or.inr rfl) (pe_c c_fewest_tables hr (by omega) (by rfl) (pa_cons (pv 0) (pa_cons (pv 1) (pa_cons (pe_c c_needs_with hr (by omega) (by rfl) (pa_cons (pv 0) (pa_cons (pv 2) (pa_cons (pv 4) (pa_cons (pv 6) pa_nil))))) (pa_cons (pv 4) pa_nil))))))
      (pss_one (ps_expr (pe_bm PySem.F.plainAttrs_list PySem.F.slot_list_append PySem.F.type_list_append mt_append (pv 5) (pa_cons (pe_op op_catA (pe_tup (pa_cons (pe_tup (pa_cons (pv 4) (pa_cons (pv 6) pa_nil))) pa_nil)) (pv 7)) pa_nil))))))
      (pss_one (ps_ret (pe_minBL (K := K) rfl hr.hd (by rfl) T.b_min (by rfl) T.b_len (by decide +kernel) (len_seqK (K := K)) (ltR_of op_lt) (pa_cons (pv 5) pa_nil)))))))), ?_⟩
    clear hr
    refine ⟨_, rfl, _, rfl, d, ns, b, rfl, Nd0.at_, by omega, fun H1 s1 => ?_⟩
    have L1 := L0.same s1
    have Nd1 := Nd0.same s1
    cases hng : nextG ns b with
    | none =>
      refine ⟨_, rfl, rfl, _, rfl, iteT ?_⟩
      refine ⟨small 0, fun p np => ?_⟩
      refine q p _ (s1.trans (Same.new np)) ?_
      rw [few_last hng]
      exact ⟨[], upd_same, PtsAt.nil _ _⟩
    | some gt =>
      obtain ⟨m1, m2, m3⟩ := nextG_some hng
      obtain ⟨e, rfl⟩ : ∃ e', e = e' + 1 := ⟨e - 1, by omega⟩
      obtain ⟨gm, gl⟩ := Nd0.in_ gt m1
      obtain ⟨nd, hnd⟩ := ndGet_some m1
      rw [few_some hng hnd] at q
      refine ⟨_, rfl, rfl, _, rfl, iteF ?_⟩
      refine ⟨small 0, fun F nF => ?_⟩
      have s7 := Same.new (o := .lst []) nF
      have hF7 : upd H1 F (.lst []) F = some (.lst []) := upd_same
      have L7 := L1.same s7
      have Nd7 := Nd1.same s7
      refine ⟨_, rfl, _, rfl, _, rfl, cp, d, n, k, ds, qs, gt, ns, nd, rfl, L7.ch, gl, Nd7.at_, hnd, fun M H8 us cs hcs s8 nM hM tM cl => ?_⟩
      obtain rfl : cs = cof gt := hcs.uniq (L0.cof gt gl)
      have L8 := L7.same s8
      have Nd8 := Nd7.same s8
      have ne := fit_some gm (by rw [L8.dl]; exact gl) L8.dt Nd8.ge hnd hcs
      have fl : (fitC ds (cof gt) nd).length ≤ (cof gt).length := List.length_filter_le _ _
      have FM : F ≠ M := fun z => by rw [← z, hF7] at nM; cases nM
      have o8 : Own H1 H8 F [] := ⟨s7.trans s8, s8 _ _ hF7, nF⟩
      refine ⟨M, rfl, ⟨_, SqL.of hM⟩, ?_⟩
      refine for_list (K := K) (a := M) (xs := us.map V.ref) (fun i σ H' => ∃ (x6 x7 : Option V) (rs : List Addr), σ = [some (.ref a), some (.ref cp), some (.ref d), some (nV b), some (nV gt), some (.ref F), x6, x7] ∧ Own H1 H' F (rs.map V.ref) ∧ (∀ b u, b ≠ F → H8 b = some u → H' b = some u) ∧ PtsAt CvAt H' rs (((fitC ds (cof gt) nd).take i).map fun c => (gt, c) :: fewT n ds cof e (thenN n.many ns gt c) gt)) ⟨_, _, [], rfl, o8, fun _ _ _ e => e, PtsAt.nil _ _⟩ ?_ ?_ ?_
      · rintro i σ H' _ ⟨_, _, _, _, _, kp, _⟩
        exact SqL.of (kp _ _ FM.symm hM)
      · rintro i x σ H9 hx ⟨x6, x7, rs, rfl, o9, kp9, R9⟩
        obtain ⟨cc, c, rfl, hc, hca⟩ := tM.at_ hx
        have hci := List.mem_of_getElem? hc
        have lc := (hcs.mem c).mp (List.mem_filter.mp hci).1
        have Wt' := Nd8.toW.then_ gl hcs hnd hci
        have L9 := L1.same o9.sm
        have Nd9 := Nd1.same o9.sm
        have cc9 := kp9 _ _ (fun z => by rw [z, s8 _ _ hF7] at hca; cases hca) hca
        have hi : i < (fitC ds (cof gt) nd).length := (List.getElem?_eq_some_iff.mp hc).1
        have rl : rs.length = i := by rw [R9.1, List.length_map, List.length_take]; omega
        refine ⟨_, rfl, _, rfl, _, rfl, _, rfl, _, rfl, _, rfl, a, d, cc, n, g, o, ps, ns, gt, nd, c, rfl, L9.net, Nd9.at_, Nd9.ok, hnd, cc9, by have := lc.len; have := L9.k9; omega, fun p H10 s10 np10 hp10 => ?_⟩
        refine ⟨_, rfl, a, cp, p, n, g, o, ps, qs, k, ds, cof, thenN n.many ns gt c, gt, rfl, L9.same s10, ⟨hp10, Wt'.ok, Wt'.in_, Wt'.ge⟩, by omega, fun pp H11 s11 cv => ?_⟩
        have cv : CvAt H11 pp (fewT n ds cof e (thenN n.many ns gt c) gt) := cv
        obtain ⟨pps, cva⟩ := cv
        have s911 := s10.trans s11
        have hF11 := s911 _ _ o9.at_
        refine ⟨_, rfl, .inl ⟨rfl, _, SqL.of hF11⟩, ?_⟩
        refine ⟨_, rfl, _, rfl, small 2, fun t1 n1 => ⟨small 1, fun t2 n2 => ?_⟩⟩
        have s12 := Same.new (o := .tup [nV gt, .ref cc]) n1
        have s13 := Same.new (o := .tup [.ref t1]) n2
        have e1 := s13 _ _ (upd_same (H := H11) (a := t1) (o := .tup [nV gt, .ref cc]))
        have e2 : upd (upd H11 t1 (.tup [nV gt, .ref cc])) t2 (.tup [.ref t1]) t2 = some (.tup [.ref t1]) := upd_same
        have s123 := s12.trans s13
        generalize upd (upd H11 t1 (.tup [nV gt, .ref cc])) t2 (.tup [.ref t1]) = H13 at e1 e2 s123 ⊢
        have cva13 := cva.same s123
        have pl : pps.length = (fewT n ds cof e (thenN n.many ns gt c) gt).length := cva.ts.1
        have pl2 := few_len (n := n) (ds := ds) (cof := cof) e (thenN n.many ns gt c) gt
        refine ⟨_, rfl, ?_⟩
        refine catA_any rfl rfl e2 cva13.top (by rw [List.length_map]; exact Nat.le_trans (show 1 + pps.length ≤ 100 by omega) (small 100)) fun r H14 s14 hr14 => ?_
        have hF14 := s14 _ _ (s123 _ _ hF11)
        refine ⟨F, _, _, rfl, rfl, hF14, by rw [List.length_map]; omega, ?_⟩
        have tp : ∀ b xs, H14 b = some (.tup xs) → upd H14 F (.lst (rs.map V.ref ++ [.ref r])) b = some (.tup xs) := fun b xs e => by
          by_cases z : b = F
          · rw [z, hF14] at e; cases e
          · rw [upd_ne z]; exact e
        have t914 : ∀ b xs, H9 b = some (.tup xs) → upd H14 F (.lst (rs.map V.ref ++ [.ref r])) b = some (.tup xs) := fun b xs e => tp b xs (s14 _ _ (s123 _ _ (s911 _ _ e)))
        have nFF : H1 F = none := nF
        refine ⟨_, _, rs ++ [r], rfl, ?_, fun b u hb e => by rw [upd_ne hb]; exact s14 _ _ (s123 _ _ (s911 _ _ (kp9 _ _ hb e))), ?_⟩
        · rw [List.map_append]
          exact Own.app ⟨((o9.sm.trans s911).trans s123).trans s14, hF14, nF⟩
        · rw [List.take_add_one, hc, Option.toList_some, List.map_append]
          refine (R9.mono fun p x h => CvAt.mono h t914).push ⟨t1 :: pps, ?_, ?_⟩
          · exact tp _ _ hr14
          · have hcc := t914 _ _ cc9
            exact ⟨congrArg (· + 1) cva.ts.1, fun j p x a1 a2 => by
              cases j with
              | zero =>
                cases a1
                cases a2
                exact ⟨cc, tp _ _ (s14 _ _ e1), hcc⟩
              | succ j => exact TbAt.mono (fun b xs e => tp b xs (s14 _ _ e)) p x (cva13.ts.2 j p x a1 a2)⟩
      · rintro σ H9 ⟨x6, x7, rs, rfl, o9, kp9, R9⟩
        rw [List.length_map, tM.1, List.take_length] at R9
        generalize hT : (fitC ds (cof gt) nd).map (fun c => (gt, c) :: fewT n ds cof e (thenN n.many ns gt c) gt) = T at R9 q
        have T0 : 0 < T.length := by rw [← hT, List.length_map]; exact List.length_pos_iff.mpr ne
        have s19 := s1.trans o9.sm
        obtain ⟨r0, hr0⟩ : ∃ r0, rs[0]? = some r0 := ⟨rs[0]'(by rw [R9.1]; exact T0), List.getElem?_eq_getElem _⟩
        have hx0 : (rs.map V.ref)[0]? = some (.ref r0) := by rw [List.getElem?_map, hr0]; rfl
        have at_ : ∀ {j : Nat} {r : Addr}, rs[j]? = some r → ∃ (cv : List Tb) (ps' : List Addr), T[j]? = some cv ∧ CovAt H9 r cv ps' := fun {j r} hj => by
          have hjl := (List.getElem?_eq_some_iff.mp hj).1
          have hT' := List.getElem?_eq_getElem (l := T) (i := j) (by rw [← R9.1]; exact hjl)
          obtain ⟨ps', h⟩ := R9.2 j r _ hj hT'
          exact ⟨_, ps', hT', h⟩
        have len_ : ∀ {r : Addr} {cv : List Tb} {ps' : List Addr}, CovAt H9 r cv ps' → V.int (((ps'.map V.ref).length : Nat) : Int) = V.int ((cv.length : Nat) : Int) := fun h => by rw [List.length_map, h.ts.1]
        have tk : ∀ {j : Nat} {cv : List Tb}, T[j]? = some cv → T.take (j + 1) = T.take j ++ [cv] := fun h => by rw [List.take_add_one, h]; rfl
        refine ⟨_, rfl, F, rs.map V.ref, rfl, SqL.of o9.at_, .ref r0, fun j b k H' => H' = H9 ∧ 0 < j ∧ ∃ r, b = .ref r ∧ CvAt H9 r (bestOf (T.take j)) ∧ k = .int ((bestOf (T.take j)).length : Nat), hx0, ?_, ?_, ?_, ?_⟩
        · obtain ⟨cv, ps', h1, h2⟩ := at_ hr0
          have : T.take 1 = [cv] := by rw [tk h1]; rfl
          refine ⟨r0, _, rfl, .inr (SqT.of h2.top), rfl, Nat.one_pos, r0, rfl, ?_, ?_⟩
          · rw [this]; exact ⟨ps', h2⟩
          · rw [this]; exact len_ h2
        · rintro j b k H' ⟨rfl, _⟩
          exact ⟨SqL.of o9.at_, trivial⟩
        · rintro j b k H' x ⟨rfl, j0, r, rfl, ⟨ps1, h1⟩, rfl⟩ hx
          rw [List.getElem?_map] at hx
          obtain ⟨r', hr', rfl⟩ := Option.map_eq_some_iff.mp hx
          obtain ⟨cv, ps', h3, h4⟩ := at_ hr'
          have hne : T.take j ≠ [] := fun z => by
            have := congrArg List.length z
            rw [List.length_take] at this
            have hjl := (List.getElem?_eq_some_iff.mp h3).1
            have : min j T.length = 0 := this
            omega
          have bp := best_push hne cv
          refine ⟨r', _, rfl, .inr (SqT.of h4.top), ?_⟩
          have el : (ps'.map V.ref).length = cv.length := by rw [List.length_map, h4.ts.1]
          rw [el]
          refine ⟨_, _, rfl, rfl, _, rfl, rfl, Nat.succ_pos _, ?_⟩
          rw [tk h3, bp]
          unfold pickF
          by_cases h : cv.length < (bestOf (T.take j)).length
          · rw [decide_eq_true (show ((cv.length : Nat) : Int) < (((bestOf (T.take j)).length : Nat) : Int) by omega), if_pos h]
            exact ⟨r', rfl, ⟨ps', h4⟩, rfl⟩
          · rw [decide_eq_false (show ¬ ((cv.length : Nat) : Int) < (((bestOf (T.take j)).length : Nat) : Int) by omega), if_neg h]
            exact ⟨r, rfl, ⟨ps1, h1⟩, rfl⟩
        · rintro b k H' ⟨rfl, _, r, rfl, h1, _⟩
          refine q r _ s19 ?_
          rw [List.length_map, R9.1, List.take_length] at h1
          exact h1
theorem ok_fewT {f c : Addr} (D : Dfn K mg "fewest_tables" s_fewest_tables f c) (T : Txt mg) (c_next_gate : Cal P w K mg base 1 "next_gate" spNextG []) (c_fitting_cuts : Cal P w K mg base 1 "fitting_cuts" spFit []) (c_needs_with : Cal P w K mg base 1 "needs_with" spNeedsWith []) : ∀ e, e ≤ 30 → Cal P w K mg base (2 + e) "fewest_tables" (spFewT e) []
  | 0, _ => ok_fewT0 D
  | e + 1, h => ok_fewTS D T (Nat.le_add_right 2 e) (by omega) c_next_gate c_fitting_cuts c_needs_with (ok_fewT D T c_next_gate c_fitting_cuts c_needs_with e (by omega))
end
end K87
set_option Elab.async false
set_option linter.all false
set_option maxRecDepth 100000
set_option maxHeartbeats 4000000
namespace K87
open PySem PySem.Spec PyProof.Rows L2 GX
open C8 (Cal pe_c pe_gc Met Mak)
-- @exc NoDepth init=least
-- @sub NoDepth NoDepth true
-- @exc TooMany made
-- @alt cut_masks tup par=N,t[i],i vars=masks:DL,wire:i
section
variable {P : Program} {w : World} {K : PySem.W.Frag} {mg : Str → Option Value} {base : Heap} {Ts : List Addr}
/-! ### how many: the tables told, the least count -/
/-- how many are laid -/
def hiN (ns : Nd) (b : Nat) : Nat := ((ns.map (·.1)).filter fun g => decide (b ≤ g)).length
theorem hi_next {b g : Nat} (hg : g < b) : ∀ {l : List Nat}, l.Nodup → g ∈ l → (∀ x ∈ l, x < b → x ≤ g) → (l.filter fun x => decide (g ≤ x)).length = (l.filter fun x => decide (b ≤ x)).length + 1
  | [], _, h, _ => (by cases h)
  | x :: r, nd, h, hb => by
    obtain ⟨n1, n2⟩ := List.nodup_cons.mp nd
    by_cases e : x = g
    · subst e
      have : (r.filter fun y => decide (x ≤ y)) = r.filter fun y => decide (b ≤ y) := List.filter_congr fun y hy => by
        have h1 := hb y (List.mem_cons_of_mem _ hy)
        have h2 : y ≠ x := fun z => n1 (z ▸ hy)
        rw [decide_eq_decide]
        omega
      rw [List.filter_cons, if_pos (decide_eq_true (Nat.le_refl x)), List.filter_cons, if_neg (by rw [decide_eq_true_iff]; omega), this]
      rfl
    · have hr : g ∈ r := (List.mem_cons.mp h).resolve_left fun z => e z.symm
      have ih := hi_next hg n2 hr fun y hy => hb y (List.mem_cons_of_mem _ hy)
      have h1 := hb x List.mem_cons_self
      by_cases hx : b ≤ x
      · rw [List.filter_cons, if_pos (decide_eq_true (by omega)), List.filter_cons, if_pos (decide_eq_true hx), List.length_cons, ih]
        rfl
      · rw [List.filter_cons, if_neg (by rw [decide_eq_true_iff]; omega), List.filter_cons, if_neg (by rw [decide_eq_true_iff]; exact hx), ih]
theorem hi_then {many : Nat} {ns : Nd} {g : Nat} {c : List Nat} (hc : ∀ x ∈ c, x < g) : hiN (thenN many ns g c) g = hiN ns g := by
  have : ((thenN many ns g c).map (·.1)).filter (fun x => decide (g ≤ x)) = (ns.map (·.1)).filter fun x => decide (g ≤ x) := nd_fold (p := fun m => (m.map (·.1)).filter (fun x => decide (g ≤ x)) = (ns.map (·.1)).filter fun x => decide (g ≤ x)) (fun acc x hx h => by
    split
    · rw [ndPut_keys]
      split
      · exact h
      · rw [List.filter_append, List.filter_cons, if_neg (by rw [decide_eq_true_iff]; have := hc x hx; omega), List.filter_nil, List.append_nil]
        exact h
    · exact h) rfl
  unfold hiN
  rw [this]
theorem few_cnt {n : Net} {k : Nat} {ds : List Nat} {cof : Nat → List (List Nat)} (dl : ds.length = n.many + n.gates.length) (dt : DepsTo n k ds) (hcof : ∀ x, x < n.many + n.gates.length → CutsAre n k x (cof x)) : ∀ (f : Nat) (ns : Nd) (b : Nat), NdW n ds ns → b ≤ f → (fewT n ds cof f ns b).length + hiN ns b = cntN n ds cof f ns b := by
  intro f
  have all : ∀ (ns : Nd) (b : Nat), nextG ns b = none → hiN ns b = ns.length := fun ns b h => by
    have h := nextG_none.mp h
    unfold hiN
    rw [List.filter_eq_self.mpr, List.length_map]
    intro x hx
    have := List.filter_eq_nil_iff.mp h x hx
    rw [decide_eq_true_iff] at this ⊢
    omega
  induction f with
  | zero =>
    intro ns b W hb
    have hn : nextG ns b = none := by
      cases h : nextG ns b with
      | none => rfl
      | some g => have := (nextG_some h).2.1; omega
    rw [few_last hn, cnt_last hn, all ns b hn]
    exact Nat.zero_add _
  | succ f ih =>
    intro ns b W hb
    cases h : nextG ns b with
    | none =>
      rw [few_last h, cnt_last h, all ns b h]
      exact Nat.zero_add _
    | some g =>
      obtain ⟨m1, m2, m3⟩ := nextG_some h
      obtain ⟨gm, gl⟩ := W.in_ g m1
      obtain ⟨nd, hnd⟩ := ndGet_some m1
      have hcs := hcof g gl
      have ne := fit_some gm (by rw [dl]; exact gl) dt W.ge hnd hcs
      rw [few_some h hnd, cnt_some h hnd]
      have hi : hiN ns g = hiN ns b + 1 := hi_next m2 W.ok m1 m3
      have each : ∀ c ∈ fitC ds (cof g) nd, ((g, c) :: fewT n ds cof f (thenN n.many ns g c) g).length + hiN ns b = cntN n ds cof f (thenN n.many ns g c) g := fun c hc => by
        have lc := (hcs.mem c).mp (List.mem_filter.mp hc).1
        have := ih (thenN n.many ns g c) g (W.then_ gl hcs hnd hc) (by omega)
        rw [hi_then lc.lt, hi] at this
        rw [List.length_cons]
        omega
      obtain ⟨b1, b2⟩ := best_mem (l := (fitC ds (cof g) nd).map fun c => (g, c) :: fewT n ds cof f (thenN n.many ns g c) g) fun z => ne (List.map_eq_nil_iff.mp z)
      obtain ⟨c, hc, e⟩ := List.mem_map.mp b1
      refine (minL_eq (List.mem_map.mpr ⟨c, hc, ?_⟩) fun x hx => ?_).symm
      · rw [← each c hc, e]
      · obtain ⟨c', hc', rfl⟩ := List.mem_map.mp hx
        have := b2 _ (List.mem_map.mpr ⟨c', hc', rfl⟩)
        rw [← each c' hc']
        omega
theorem cnt_child {n : Net} {ds : List Nat} {cof : Nat → List (List Nat)} {f : Nat} {ns : Nd} {b g : Nat} {nd : Int} (h : nextG ns b = some g) (hg : ndGet ns g = some nd) {c : List Nat} (hc : c ∈ fitC ds (cof g) nd) : cntN n ds cof (f + 1) ns b ≤ cntN n ds cof f (thenN n.many ns g c) g := by
  rw [cnt_some h hg]
  exact (minL_mem (l := (fitC ds (cof g) nd).map fun c => cntN n ds cof f (thenN n.many ns g c) g) fun z => by
    rw [List.map_eq_nil_iff.mp z] at hc
    cases hc).2 _ (List.mem_map.mpr ⟨c, hc, rfl⟩)
def spCountP (f : Nat) : Sp := fun vs H Q _ => ∃ (a cp d : Addr) (n : Net) (g o : Addr) (ps qs : List Addr) (k : Nat) (ds : List Nat) (cof : Nat → List (List Nat)) (ns : Nd) (b m : Nat), vs = [.ref a, .ref cp, .ref d, nV b, nV m] ∧ FwAt n k ds cof H a cp g o ps qs ∧ NdAt n ds H d ns ∧ b < f ∧ m ≤ cntN n ds cof (f - 1) ns b ∧
  ∀ p H', Same H H' → Rep H' (.ref p) (papT n ds cof m (f - 1) ns b) → Q (.ref p) H'
theorem ok_countp0 {f c : Addr} (D : Dfn K mg "count_paper" s_count_paper f c) : Cal P w K mg base 2 "count_paper" (spCountP 0) [] := by
  refine cal D (fun _ _ _ _ _ _ us hl => match us, hl with | [_, _, _, _, _], _ => rfl) sc_count_paper (fun vs H Q E h => ?_) (fun A outer s H vs Q E hr h => ?_)
  · obtain ⟨a, cp, d, n, g, o, ps, qs, k, ds, cof, ns, b, m, rfl, _⟩ := h
    rfl
  · obtain ⟨a, cp, d, n, g, o, ps, qs, k, ds, cof, ns, b, m, rfl, _, _, z, _⟩ := h
    exact absurd z (Nat.not_lt_zero _)
theorem ok_countpS {f c : Addr} {l e : Nat} (D : Dfn K mg "count_paper" s_count_paper f c) (T : Txt mg) (hk : 2 ≤ l) (c_next_gate : Cal P w K mg base 1 "next_gate" spNextG []) (c_fitting_cuts : Cal P w K mg base 1 "fitting_cuts" spFit []) (c_needs_with : Cal P w K mg base 1 "needs_with" spNeedsWith []) (c_count_paper : Cal P w K mg base l "count_paper" (spCountP e) []) : Cal P w K mg base (l + 1) "count_paper" (spCountP (e + 1)) [] := by
  refine cal D (fun _ _ _ _ _ _ us hl => match us, hl with | [_, _, _, _, _], _ => rfl) sc_count_paper (fun vs H Q E h => ?_) (fun A outer s H vs Q E hr h => ?_)
  · obtain ⟨a, cp, d, n, g, o, ps, qs, k, ds, cof, ns, b, m, rfl, _⟩ := h
    rfl
  · obtain ⟨a, cp, d, n, g, o, ps, qs, k, ds, cof, ns, b, m, rfl, L0, Nd0, hb, hm, q⟩ := h
    have q : ∀ p H', Same H H' → Rep H' (.ref p) (papT n ds cof m e ns b) → Q (.ref p) H' := q
    have hm : m ≤ cntN n ds cof e ns b := hm
    have nl := nd_len L0.ok Nd0.ok Nd0.in_
    refine ⟨_, (pss_cons (ps_if (pt_cmpR op_ge (pe_callB call_lenD (by rfl) T.b_len (by decide +kernel) (pa_cons (pv 2) pa_nil)) (pv 4) (nomark _)) (pss_one (ps_ret (pe_tup (pa_cons pe_str pa_nil)))) pss_nil)
      (pss_cons (ps_set (i := 5) sc_count_paper.nd rfl (by first | exact Or.inl rfl | exact Or.inr rfl) (pe_c c_next_gate hr (by omega) (by rfl) (pa_cons (pv 2) (pa_cons (pv 3) pa_nil))))
      (pss_cons (ps_set (i := 6) sc_count_paper.nd rfl (by first | exact Or.inl rfl | exact Or.inr rfl) (pe_c c_fitting_cuts hr (by omega) (by rfl) (pa_cons (pv 1) (pa_cons (pv 5) (pa_cons (pv 2) pa_nil)))))
      (pss_cons (ps_setLc (i := 7) (own := [("cut", 8)]) (g := gName 8) (tt := tYes) rfl sc_count_paper.nd rfl rfl (sw_true rfl rfl rfl (by decide +kernel)) (pi_list (pv 6)) (blkOk_by (own := [("cut", 8)]) (N := ["net", "choices", "needs", "bound", "count", "gate", "cuts", "papers", "cut"]) (sc := defScope s_count_paper) (by decide +kernel)) (fun _ _ _ _ _ => (pg_name (i := 8) sc_count_paper.nd rfl (by first | exact Or.inl rfl | exact Or.inr rfl))) (fun _ _ _ _ _ => pts_nil) (fun _ _ _ _ _ => (pe_c c_count_paper hr (by omega) (by rfl) (pa_cons (pv 0) (pa_cons (pv 1) (pa_cons (pe_c c_needs_with hr (by omega) (by rfl) (pa_cons (pv 0) (pa_cons (pv 2) (pa_cons (pv 5) (pa_cons (pv 8) pa_nil))))) (pa_cons (pv 5) (pa_cons (pv 4) pa_nil))))))))
      (pss_one (ps_ret (pe_tup (pa_cons pe_str (pa_cons (pe_callTy call_tuple_of (by rfl) T.b_tuple (by decide +kernel) (pa_cons (pv 7) pa_nil)) pa_nil))))))))), ?_⟩
    clear hr
    refine ⟨_, rfl, d, _, rfl, Nd0.at_, _, rfl, _, _, rfl, rfl, _, rfl, ite2 (fun h => ?_) (fun h => ?_)⟩
    · have h := of_decide_eq_true h
      rw [kvI_len] at h
      refine ⟨small 1, fun p np => q p _ (Same.new np) ?_⟩
      rw [pap_count (by omega)]
      exact .tup upd_same (.cons (.str _) .nil)
    have h : ¬ m ≤ ns.length := fun z => h (decide_eq_true (by rw [kvI_len]; omega))
    obtain ⟨gt, hng⟩ : ∃ gt, nextG ns b = some gt := by
      cases hh : nextG ns b with
      | none => rw [cnt_last hh] at hm; exact absurd hm h
      | some gt => exact ⟨gt, rfl⟩
    obtain ⟨m1, m2, m3⟩ := nextG_some hng
    obtain ⟨e, rfl⟩ : ∃ e', e = e' + 1 := ⟨e - 1, by omega⟩
    obtain ⟨gm, gl⟩ := Nd0.in_ gt m1
    obtain ⟨nd, hnd⟩ := ndGet_some m1
    rw [pap_cases h hng hnd] at q
    refine ⟨_, rfl, _, rfl, d, ns, b, rfl, Nd0.at_, by omega, fun H1 s1 => ?_⟩
    rw [hng]
    have L1 := L0.same s1
    have Nd1 := Nd0.same s1
    refine ⟨_, rfl, _, rfl, _, rfl, cp, d, n, k, ds, qs, gt, ns, nd, rfl, L1.ch, gl, Nd1.at_, hnd, fun M H7 us cs hcs s7 nM hM tM cl => ?_⟩
    obtain rfl : cs = cof gt := hcs.uniq (L0.cof gt gl)
    have s17 := s1.trans s7
    have L7 := L1.same s7
    have Nd7 := Nd1.same s7
    have fl : (fitC ds (cof gt) nd).length ≤ (cof gt).length := List.length_filter_le _ _
    refine ⟨_, rfl, M, rfl, ⟨_, SqL.of hM⟩, fun L nL => ?_⟩
    refine lc_list (K := K) (a := M) (xs := us.map V.ref) (fun i H' => ∃ ws : List V, Own H7 H' L ws ∧ RepAll H' ws (((fitC ds (cof gt) nd).take i).map fun c => papT n ds cof m e (thenN n.many ns gt c) gt)) ⟨[], ⟨Same.new nL, upd_same, nL⟩, .nil⟩ (fun _ H' _ h => h.elim fun _ h => SqL.of (h.1.sm _ _ hM)) ?_ ?_
    · rintro i x H8 hx ⟨ws, o8, ra⟩
      obtain ⟨cc, c, rfl, hc, hca⟩ := tM.at_ hx
      have hci := List.mem_of_getElem? hc
      have lc := (hcs.mem c).mp (List.mem_filter.mp hci).1
      have Wt' := Nd7.toW.then_ gl hcs hnd hci
      refine ⟨rfl, ?_⟩
      unfold tYes
      refine iteT ?_
      refine ⟨_, rfl, _, rfl, _, rfl, _, rfl, _, rfl, _, rfl, a, d, cc, n, g, o, ps, ns, gt, nd, c, rfl, (L7.same o8.sm).net, (Nd7.same o8.sm).at_, Nd7.ok, hnd, o8.sm _ _ hca, by have := lc.len; have := L7.k9; omega, fun p H10 s10 np10 hp10 => ?_⟩
      have s810 := o8.sm.trans s10
      refine ⟨_, rfl, _, rfl, a, cp, p, n, g, o, ps, qs, k, ds, cof, thenN n.many ns gt c, gt, m, rfl, L7.same s810, ⟨hp10, Wt'.ok, Wt'.in_, Wt'.ge⟩, by omega, Nat.le_trans hm (cnt_child hng hnd hci), fun pp H11 s11 rp => ?_⟩
      have hL11 := s11 _ _ (s10 _ _ o8.at_)
      have wl : ws.length ≤ i := by
        rw [ra.length, List.length_map, List.length_take]
        omega
      have hi : i < (fitC ds (cof gt) nd).length := (List.getElem?_eq_some_iff.mp hc).1
      refine ⟨_, hL11, by omega, ?_⟩
      have pu := KeepR.put (ys := ws ++ [V.ref pp]) hL11
      refine ⟨ws ++ [.ref pp], Own.app ⟨s810.trans s11, hL11, nL⟩, ?_⟩
      rw [List.take_add_one, hc, Option.toList_some, List.map_append]
      exact ((ra.mono (KeepT.same (s10.trans s11))).keepR pu).append (.cons (rp.keepR pu) .nil)
    · rintro H8 ⟨ws, o8, ra⟩
      rw [List.length_map, tM.1, List.take_length] at ra
      refine ⟨_, rfl, L, _, rfl, .inl ⟨SqL.of o8.at_, fun p np => ⟨small 2, fun r nr => ?_⟩⟩⟩
      have s9 := Same.new (o := .tup ws) np
      have s10 := Same.new (o := .tup [.str "cases", .ref p]) nr
      exact q r _ ((s17.trans o8.sm).trans (s9.trans s10)) (.tup upd_same (.cons (.str _) (.cons (.tup (s10 _ _ upd_same) (ra.mono (KeepT.same (s9.trans s10)))) .nil)))
theorem ok_countp {f c : Addr} (D : Dfn K mg "count_paper" s_count_paper f c) (T : Txt mg) (c_next_gate : Cal P w K mg base 1 "next_gate" spNextG []) (c_fitting_cuts : Cal P w K mg base 1 "fitting_cuts" spFit []) (c_needs_with : Cal P w K mg base 1 "needs_with" spNeedsWith []) : ∀ e, Cal P w K mg base (2 + e) "count_paper" (spCountP e) []
  | 0 => ok_countp0 D
  | e + 1 => ok_countpS D T (Nat.le_add_right 2 e) c_next_gate c_fitting_cuts c_needs_with (ok_countp D T c_next_gate c_fitting_cuts c_needs_with e)
theorem firstN_ge {n : Net} {ds : List Nat} {dep : Int} (h : ∀ o ∈ n.outs, ((ds.getD o 0 : Nat) : Int) ≤ dep) : NdGe ds (firstN n dep) := nd_fold (p := NdGe ds) (fun acc x hx h' => h'.put (h x (List.mem_filter.mp hx).1)) (fun x e hx => by cases hx)
end
/-! ### what the tables told are -/
theorem fold_hit {α : Type} {p : Nd → Prop} {f : Nd → α → Nd} {x : α} (hk : ∀ acc y, p acc → p (f acc y)) (hx : ∀ acc, p (f acc x)) : ∀ {l : List α} {ns : Nd}, x ∈ l → p (l.foldl f ns)
  | [], _, h => (by cases h)
  | y :: l, ns, h => by
    show p (l.foldl f (f ns y))
    rcases List.mem_cons.mp h with e | e
    · rw [← e]
      exact nd_fold (p := p) (fun acc z _ h => hk acc z h) (hx ns)
    · exact fold_hit hk hx e
theorem minI_le1 (a b : Int) : minI a b ≤ a := by unfold minI; split <;> omega
theorem minI_le2 (a b : Int) : minI a b ≤ b := by unfold minI; split <;> omega
theorem then_get {many : Nat} {ns : Nd} {g : Nat} {c : List Nat} {x : Nat} {e : Int} (h : ndGet ns x = some e) : ∃ e', ndGet (thenN many ns g c) x = some e' ∧ e' ≤ e := nd_fold (p := fun m => ∃ e', ndGet m x = some e' ∧ e' ≤ e) (fun acc w _ ⟨e', h1, h2⟩ => by
  split
  · rw [ndGet_put]
    split
    · rename_i hw
      refine ⟨_, rfl, ?_⟩
      have := minI_le2 ((ndGet ns g).getD 0 - 1) ((ndGet acc w).getD ((ndGet ns g).getD 0 - 1))
      rw [← hw, h1] at this
      have this : minI ((ndGet ns g).getD 0 - 1) ((some e').getD ((ndGet ns g).getD 0 - 1)) ≤ e' := this
      rw [← hw, h1]
      omega
    · exact ⟨e', h1, h2⟩
  · exact ⟨e', h1, h2⟩) ⟨e, h, Int.le_refl _⟩
theorem then_new {many : Nat} {ns : Nd} {g : Nat} {c : List Nat} {x : Nat} {nd : Int} (hg : ndGet ns g = some nd) (hx : x ∈ c) (hm : many ≤ x) : ∃ e', ndGet (thenN many ns g c) x = some e' ∧ e' ≤ nd - 1 := by
  unfold thenN
  rw [hg]
  refine fold_hit (p := fun m => ∃ e', ndGet m x = some e' ∧ e' ≤ nd - 1) (x := x) (fun acc w ⟨e', h1, h2⟩ => ?_) (fun acc => ?_) hx
  · split
    · rw [ndGet_put]
      split
      · exact ⟨_, rfl, minI_le1 _ _⟩
      · exact ⟨e', h1, h2⟩
    · exact ⟨e', h1, h2⟩
  · rw [if_pos hm, ndGet_put, if_pos rfl]
    exact ⟨_, rfl, minI_le1 _ _⟩
theorem first_get {n : Net} {d : Int} {o : Nat} (ho : o ∈ n.outs) (hm : n.many ≤ o) : ndGet (firstN n d) o = some d := fold_hit (p := fun m => ndGet m o = some d) (x := o) (fun acc w h => by
  rw [ndGet_put]
  split
  · rfl
  · exact h) (fun acc => by rw [ndGet_put, if_pos rfl]) (List.mem_filter.mpr ⟨ho, decide_eq_true hm⟩)
structure FewOk (n : Net) (k b : Nat) (ns : Nd) (L : List Tb) : Prop where
  desc : L.Pairwise fun a b => b.1 < a.1
  lt : ∀ t ∈ L, t.1 < b ∧ n.many ≤ t.1 ∧ t.1 < n.many + n.gates.length ∧ LC n k t.1 t.2
  keys : ∀ x e, ndGet ns x = some e → x < b → ∃ t ∈ L, t.1 = x
  clo : ∀ t ∈ L, ∀ x ∈ t.2, n.many ≤ x → ∃ u ∈ L, u.1 = x
  deep : ∀ D : Nat → Nat, (∀ x, x < n.many → D x = 0) → (∀ t ∈ L, D t.1 = 1 + maxL (t.2.map D)) → ∀ x e, ndGet ns x = some e → x < b → (D x : Int) ≤ e
theorem maxL_le {l : List Nat} {m : Nat} (h : ∀ x ∈ l, x ≤ m) : maxL l ≤ m := by
  by_cases e : l = []
  · rw [e]; exact Nat.zero_le _
  · exact h _ (maxL_mem (by first | exact e | exact List.length_pos_iff.mpr e))
theorem few_ok {n : Net} {k : Nat} {ds : List Nat} {cof : Nat → List (List Nat)} (dl : ds.length = n.many + n.gates.length) (dt : DepsTo n k ds) (hcof : ∀ x, x < n.many + n.gates.length → CutsAre n k x (cof x)) : ∀ (f : Nat) (ns : Nd) (b : Nat), NdW n ds ns → b ≤ f → FewOk n k b ns (fewT n ds cof f ns b) := by
  intro f
  have last : ∀ (ns : Nd) (b : Nat), nextG ns b = none → FewOk n k b ns [] := fun ns b h => by
    have no : ∀ x e, ndGet ns x = some e → ¬ x < b := fun x e hx hb => by
      have h := nextG_none.mp h
      have := List.filter_eq_nil_iff.mp h x (ndGet_mem hx)
      rw [decide_eq_true_iff] at this
      exact this hb
    exact ⟨.nil, fun t ht => (by cases ht), fun x e hx hb => absurd hb (no x e hx), fun t ht => (by cases ht), fun D _ _ x e hx hb => absurd hb (no x e hx)⟩
  induction f with
  | zero =>
    intro ns b W hb
    have hn : nextG ns b = none := by
      cases h : nextG ns b with
      | none => rfl
      | some g => have := (nextG_some h).2.1; omega
    rw [few_last hn]
    exact last ns b hn
  | succ f ih =>
    intro ns b W hb
    cases h : nextG ns b with
    | none => rw [few_last h]; exact last ns b h
    | some g =>
      obtain ⟨m1, m2, m3⟩ := nextG_some h
      obtain ⟨gm, gl⟩ := W.in_ g m1
      obtain ⟨nd, hnd⟩ := ndGet_some m1
      have hcs := hcof g gl
      have ne := fit_some gm (by rw [dl]; exact gl) dt W.ge hnd hcs
      rw [few_some h hnd]
      obtain ⟨b1, _⟩ := best_mem (l := (fitC ds (cof g) nd).map fun c => (g, c) :: fewT n ds cof f (thenN n.many ns g c) g) fun z => ne (List.map_eq_nil_iff.mp z)
      obtain ⟨c, hc, e⟩ := List.mem_map.mp b1
      rw [← e]
      obtain ⟨hc1, hc2⟩ := List.mem_filter.mp hc
      have lc := (hcs.mem c).mp hc1
      have I := ih (thenN n.many ns g c) g (W.then_ gl hcs hnd hc) (by omega)
      have nd1 : 1 ≤ nd := by
        have := of_decide_eq_true hc2
        omega
      refine ⟨List.pairwise_cons.mpr ⟨fun t ht => (I.lt t ht).1, I.desc⟩, fun t ht => ?_, fun x e hx hxb => ?_, fun t ht x hx hm => ?_, fun D D0 DL x e hx hxb => ?_⟩
      · rcases List.mem_cons.mp ht with rfl | ht
        · exact ⟨m2, gm, gl, lc⟩
        · have := I.lt t ht
          exact ⟨by omega, this.2⟩
      · by_cases z : x = g
        · exact ⟨_, List.mem_cons_self, z.symm⟩
        · obtain ⟨e', h1, _⟩ := then_get (many := n.many) (g := g) (c := c) hx
          have := m3 x (ndGet_mem hx) hxb
          obtain ⟨t, ht, h2⟩ := I.keys x e' h1 (by omega)
          exact ⟨t, List.mem_cons_of_mem _ ht, h2⟩
      · rcases List.mem_cons.mp ht with rfl | ht
        · obtain ⟨e', h1, _⟩ := then_new hnd hx hm
          obtain ⟨u, hu, h2⟩ := I.keys x e' h1 (lc.lt x hx)
          exact ⟨u, List.mem_cons_of_mem _ hu, h2⟩
        · obtain ⟨u, hu, h2⟩ := I.clo t ht x hx hm
          exact ⟨u, List.mem_cons_of_mem _ hu, h2⟩
      · have IH := I.deep D D0 fun t ht => DL t (List.mem_cons_of_mem _ ht)
        by_cases z : x = g
        · subst z
          rw [hnd] at hx
          cases hx
          have hD := DL _ List.mem_cons_self
          have : maxL (c.map D) ≤ (nd - 1).toNat := maxL_le fun y hy => by
            obtain ⟨x', hx', rfl⟩ := List.mem_map.mp hy
            by_cases hm : n.many ≤ x'
            · obtain ⟨e', h1, h2⟩ := then_new hnd hx' hm
              have := IH x' e' h1 (lc.lt x' hx')
              omega
            · rw [D0 x' (by omega)]
              exact Nat.zero_le _
          have hD : D x = 1 + maxL (c.map D) := hD
          omega
        · obtain ⟨e', h1, h2⟩ := then_get (many := n.many) (g := g) (c := c) hx
          have := m3 x (ndGet_mem hx) hxb
          have := IH x e' h1 (by omega)
          omega
theorem lc_ok {n : Net} (ok : n.Ok) {k g : Nat} {c : List Nat} (h : LC n k g c) (gl : g < n.many + n.gates.length) : CutOk n g c := by
  refine ⟨Nat.pos_of_ne_zero fun z => ?_, h.lt, h.sep, h.rise⟩
  have hs := h.sep
  rw [List.length_eq_zero_iff.mp z] at hs
  exact sep_none ok _ _ (Nat.le_refl _) gl hs
/-- the cover told -/
theorem few_cover {n : Net} {k : Nat} {dep : Int} (ok : n.Ok) {L : List Tb} (F : FewOk n k (n.many + n.gates.length) (firstN n dep) L) : CovOk n k L.reverse := by
  refine ⟨List.pairwise_reverse.mpr F.desc, fun t ht => ?_, fun t ht => ?_, fun o ho hm => ?_, fun t ht x hx hm => ?_⟩
  · have := F.lt t (List.mem_reverse.mp ht)
    exact ⟨this.2.1, this.2.2.1⟩
  · have := F.lt t (List.mem_reverse.mp ht)
    exact ⟨lc_ok ok this.2.2.2 this.2.2.1, this.2.2.2.len⟩
  · obtain ⟨t, ht, e⟩ := F.keys o dep (first_get ho hm) (ok.os o ho)
    exact ⟨t, List.mem_reverse.mpr ht, e⟩
  · obtain ⟨u, hu, e⟩ := F.clo t (List.mem_reverse.mp ht) x hx hm
    exact ⟨u, List.mem_reverse.mpr hu, e⟩
/-- it is no deeper -/
theorem few_deep {n : Net} {k : Nat} {dep : Int} (ok : n.Ok) (d0 : 0 ≤ dep) {L : List Tb} (F : FewOk n k (n.many + n.gates.length) (firstN n dep) L) : ∀ o ∈ n.outs, ((dMap L.reverse o : Nat) : Int) ≤ dep := fun o ho => by
  have C := few_cover ok F
  have R : Ris L.reverse := ⟨C.rise, fun t ht x hx => (C.cut t ht).1.lt x hx⟩
  have D0 : ∀ x, x < n.many → dMap L.reverse x = 0 := fun x hx => dMap_out x fun t ht => by have := (C.gt t ht).1; omega
  by_cases hm : n.many ≤ o
  · exact F.deep (dMap L.reverse) D0 (fun t ht => dMap_in R t (List.mem_reverse.mpr ht)) o dep (first_get ho hm) (ok.os o ho)
  · rw [D0 o (by omega)]
    exact d0
end K87
set_option Elab.async false
set_option linter.all false
set_option maxRecDepth 100000
set_option maxHeartbeats 4000000
namespace K87
open PySem PySem.Spec PyProof.Rows L2 GX
open C8 (Cal pe_c pe_gc Met Mak)
-- @exc NoDepth init=least
-- @sub NoDepth NoDepth true
-- @exc TooMany made
-- @alt cut_masks tup par=N,t[i],i vars=masks:DL,wire:i
section
variable {P : Program} {w : World} {K : PySem.W.Frag} {mg : Str → Option Value} {base : Heap} {Ts : List Addr} {CTooMany CNoDepth CNoChange CNoMatch CNoRow CNoText CCoverError : Addr}
/-- a depth is at most the wire's number -/
theorem deps_num {n : Net} (ok : n.Ok) {k : Nat} {ds : List Nat} (d : DepsTo n k ds) : ∀ x, x < ds.length → ds.getD x 0 ≤ x := by
  intro x
  induction x using Nat.strongRecOn with
  | _ x ih =>
    intro hx
    by_cases h : x < n.many
    · rw [d.low x h hx]
      exact Nat.zero_le _
    · obtain ⟨⟨c, lc, e⟩, _⟩ := d.at_ x (by omega) hx
      rw [e]
      by_cases z : 0 < (c.map fun y => ds.getD y 0).length
      · obtain ⟨y, hy, ey⟩ := List.mem_map.mp (maxL_mem z)
        have h1 := lc.lt y hy
        have h2 := ih y h1 (by omega)
        rw [← ey]
        omega
      · rw [List.length_eq_zero_iff.mp (Nat.eq_zero_of_not_pos z)]
        have := ok.m1
        show 1 + 0 ≤ x
        omega
/-- the greatest depth of the outs -/
def MaxO (n : Net) (ds : List Nat) (m : Int) : Prop := m ∈ (n.outs.map fun x => ds.getD x 0).map (fun n : Nat => (n : Int)) ∧ ∀ x ∈ (n.outs.map fun x => ds.getD x 0).map (fun n : Nat => (n : Int)), x ≤ m
theorem MaxO.uniq {n : Net} {ds : List Nat} {m m' : Int} (h : MaxO n ds m) (h' : MaxO n ds m') : m = m' := Int.le_antisymm (h'.2 _ h.1) (h.2 _ h'.1)
theorem MaxO.small {n : Net} (ok : n.Ok) {k : Nat} {ds : List Nat} {m : Int} (dl : ds.length = n.many + n.gates.length) (d : DepsTo n k ds) (h : MaxO n ds m) : 0 ≤ m ∧ m < 24 := by
  obtain ⟨y, hy, rfl⟩ := List.mem_map.mp h.1
  obtain ⟨x, hx, rfl⟩ := List.mem_map.mp hy
  have h1 := ok.os x hx
  have := deps_num ok d x (by rw [dl]; exact h1)
  have m8 := ok.m8
  have g16 := ok.g16
  omega
def spFewX (Ts : List Addr) (CM CD : Addr) : Sp := fun vs H Q E => ∃ (a : Addr) (n : Net) (g o : Addr) (ps : List Addr) (k : Nat) (dep : Int) (cof : Nat → List (List Nat)), vs = [.ref a, nV k, .int dep] ∧ NetAt H a n g o ps ∧ n.Ok ∧ 2 ≤ k ∧ k ≤ 900 ∧ (∀ x, x < n.many + n.gates.length → CutsAre n k x (cof x)) ∧ Tabs Ts H ∧
  (6 < n.gates.length → E (.ref CM) none H) ∧ (∀ ds m, ds.length = n.many + n.gates.length → DepsTo n k ds → MaxO n ds m → n.gates.length ≤ 6 → dep < m → ∀ d H', Aft Ts H H' → H' d = none → E (.ref CD) (some d) (upd H' d (.xd [("least", .int m)]))) ∧
  (∀ ds m, ds.length = n.many + n.gates.length → DepsTo n k ds → MaxO n ds m → n.gates.length ≤ 6 → ¬ dep < m → ∀ p H' tp pp, Aft Ts H H' → H' p = some (.tup [.ref tp, .ref pp]) → CvAt H' tp (fewT n ds cof 24 (firstN n dep) (n.many + n.gates.length)).reverse → Q (.ref p) H')
theorem ok_fewX {f c : Addr} (D : Dfn K mg "fewest" s_fewest f c) (T : Txt mg) (x_TooMany : ExcM K mg "TooMany" CTooMany) (i_NoDepth : SupI P w K mg base "NoDepth" CNoDepth "least" 1) (x_NoDepth : ExcT K mg "NoDepth" CNoDepth) (c_depths : Cal P w K mg base 5 "depths" (spDepths Ts) []) (c_cut_choices : Cal P w K mg base 5 "cut_choices" (spChoices Ts) []) (c_first_needs : Cal P w K mg base 1 "first_needs" spFirstN []) (c_wires_in : Cal P w K mg base 1 "wires_in" spWires []) (c_fewest_tables : Cal P w K mg base 27 "fewest_tables" (spFewT 25) []) (c_count_paper : Cal P w K mg base 27 "count_paper" (spCountP 25) []) : CalX P w K mg base 28 "fewest" (spFewX Ts CTooMany CNoDepth) := by
  refine calX D (fun _ _ _ _ _ _ us hl => match us, hl with | [_, _, _], _ => rfl) sc_fewest (fun vs H Q E h => ?_) (fun A outer s H vs Q E hr h tk => ?_)
  · obtain ⟨a, n, g, o, ps, k, dep, cof, rfl, _⟩ := h
    rfl
  · obtain ⟨a, n, g, o, ps, k, dep, cof, rfl, N, ok, hk2, hk9, hcof, tb, qM, qD, q⟩ := h
    have m8 := ok.m8
    have g16 := ok.g16
    refine ⟨_, (pss_cons (ps_if (PT.nox (pt_cmpR op_gt (pe_callB call_len_seq (by rfl) T.b_len (by decide +kernel) (pa_cons (pe_ix ix_tup (pv 0) pe_int (fun _ _ => rfl)) pa_nil)) (pe_gc (by rfl) T.g_MOST_GATES_TRIED) (nomark _))) (pss_one (ps_raise rfl tk (SkE.pmk_own1 PySem.F.excBase_ValueError x_TooMany.x x_TooMany.g x_TooMany.k x_TooMany.toExcT.raises rfl (pe_joined (.cons pe_str (.cons (pe_fmt (pe_gc (by rfl) T.g_MOST_GATES_TRIED)) (.cons pe_str .nil))))))) pss_nil)
      (pss_cons (psNox (ps_set (i := 3) sc_fewest.nd rfl (by first | exact Or.inl rfl | exact Or.inr rfl) (pe_c c_depths hr (by decide) (by rfl) (pa_cons (pv 0) (pa_cons (pv 1) pa_nil)))))
      (pss_cons (psNox (ps_set (i := 4) sc_fewest.nd rfl (by first | exact Or.inl rfl | exact Or.inr rfl) (pe_callB (cr_max rfl) (by rfl) T.b_max (by decide +kernel) (pa_cons (pe_lc (own := [("out", 5)]) (g := gName 5) (tt := tYes) rfl sc_fewest.nd (pi_tup (pe_ix ix_tup (pv 0) pe_int (fun _ _ => rfl))) (blkOk_by (own := [("out", 5)]) (N := ["net", "k", "depth", "told", "least", "out", "choices", "needs", "tables"]) (sc := defScope s_fewest) (by decide +kernel)) (fun _ _ _ _ _ => (pg_name (i := 5) sc_fewest.nd rfl (by first | exact Or.inl rfl | exact Or.inr rfl))) (fun _ _ _ _ _ => pts_nil) (fun _ _ _ _ _ => (pe_ix (ix_tupK (K := K)) (pv 3) (pv 5) (fun _ _ => rfl)))) pa_nil))))
      (pss_cons (ps_if (PT.nox (pt_cmpR op_gt (pv 4) (pv 2) (nomark _))) (pss_one (ps_raise rfl tk (pmk_sup i_NoDepth hr (by decide) rfl (pa_cons (pv 4) pa_nil)))) pss_nil)
      (PSs.nox (pss_cons (ps_set (i := 6) sc_fewest.nd rfl (by first | exact Or.inl rfl | exact Or.inr rfl) (pe_c c_cut_choices hr (by decide) (by rfl) (pa_cons (pv 0) (pa_cons (pv 1) pa_nil))))
      (pss_cons (ps_set (i := 7) sc_fewest.nd rfl (by first | exact Or.inl rfl | exact Or.inr rfl) (pe_c c_first_needs hr (by decide) (by rfl) (pa_cons (pv 0) (pa_cons (pv 2) pa_nil))))
      (pss_cons (ps_set (i := 8) sc_fewest.nd rfl (by first | exact Or.inl rfl | exact Or.inr rfl) (pe_c c_fewest_tables hr (by decide) (by rfl) (pa_cons (pv 0) (pa_cons (pv 6) (pa_cons (pv 7) (pa_cons (pe_c c_wires_in hr (by decide) (by rfl) (pa_cons (pv 0) pa_nil)) pa_nil))))))
      (pss_one (ps_ret (pe_tup (pa_cons (pe_revT (pv 8)) (pa_cons (pe_c c_count_paper hr (by decide) (by rfl) (pa_cons (pv 0) (pa_cons (pv 6) (pa_cons (pv 7) (pa_cons (pe_c c_wires_in hr (by decide) (by rfl) (pa_cons (pv 0) pa_nil)) (pa_cons (pe_callB call_len_seq (by rfl) T.b_len (by decide +kernel) (pa_cons (pv 8) pa_nil)) pa_nil)))))) pa_nil))))))))))))), ?_⟩
    clear hr
    refine ⟨_, rfl, a, _, 1, _, rfl, rfl, SqT.of N.top, at1, g, _, rfl, .inr (SqT.of N.gt), _, _, rfl, rfl, _, rfl, ite2 (fun h6 => ?_) (fun h6 => ?_)⟩
    · have h6 := of_decide_eq_true h6
      rw [List.length_map, N.gs.1] at h6
      exact ⟨_, rfl, by decide +kernel, .inr ⟨_, rfl, by decide, _, rfl, by decide +kernel, _, rfl, by decide +kernel, qM (by omega)⟩⟩
    have g6 : n.gates.length ≤ 6 := by
      have : ¬ ((6 : Int) < (((ps.map V.ref).length : Nat) : Int)) := fun z => h6 (decide_eq_true z)
      rw [List.length_map, N.gs.1] at this
      omega
    refine ⟨_, rfl, _, rfl, a, n, g, o, ps, k, rfl, N, ok, hk2, by omega, tb, fun r H1 ds a1 hr1 dl dt => ?_⟩
    have N1 := N.aft tb a1
    refine ⟨_, rfl, a, _, 2, _, rfl, rfl, SqT.of N1.top, at2, o, rfl, ⟨_, SqT.of N1.ot⟩, fun M nM => ?_⟩
    refine lc_tup (K := K) (a := o) (xs := n.outs.map nV) (fun i H' => Own H1 H' M (((n.outs.take i).map fun x => ds.getD x 0).map nV)) ⟨Same.new nM, upd_same, nM⟩ (fun k H' _ o' => SqT.of (o'.sm _ _ N1.ot)) ?_ ?_
    · rintro j x H10 hx o10
      have hj : j < n.outs.length := by
        have := (List.getElem?_eq_some_iff.mp hx).1
        rwa [List.length_map] at this
      rw [natAt hj] at hx
      cases hx
      have hlt : n.outs.getD j 0 < ds.length := by rw [dl]; exact ok.os _ (getD_mem hj)
      have o8 := ok.o8
      refine ⟨rfl, ?_⟩
      unfold tYes
      refine iteT ?_
      refine ⟨_, rfl, _, rfl, r, _, _, _, rfl, rfl, SqT.of (o10.sm _ _ hr1), atI_nat (natAt hlt), _, o10.at_, by rw [List.length_map, List.length_map, List.length_take]; exact small256 (by omega), ?_⟩
      have : n.outs.getD j 0 = n.outs[j] := by rw [List.getD_eq_getElem?_getD, List.getElem?_eq_getElem hj]; rfl
      rw [List.take_add_one, List.getElem?_eq_getElem hj, Option.toList_some, List.map_append, List.map_append, this]
      exact o10.app
    rintro H2 o2
    rw [List.length_map, List.take_length] at o2
    refine ⟨M, (n.outs.map fun x => ds.getD x 0).map (fun n : Nat => (n : Int)), rfl, (by rw [mapV]; exact SqL.of o2.at_), by rw [List.length_map, List.length_map]; exact ok.o1, fun m hm0 hbm0 => ?_⟩
    have hm : MaxO n ds m := ⟨hm0, hbm0⟩
    obtain ⟨z0, z1⟩ := hm.small ok dl dt
    have a2 := a1.trans (Aft.ofSame a1.tb o2.sm)
    refine ⟨_, rfl, _, rfl, _, _, rfl, rfl, _, rfl, ite2 (fun hd => ?_) (fun hd => ?_)⟩
    · have hd := of_decide_eq_true hd
      refine ⟨_, rfl, ?_⟩
      exact sup_read (log_small (by omega)) (Nat.le_trans (small_int (i := m) (by omega)).1 (by decide)) fun d hdn => qD ds m dl dt hm g6 hd d _ a2 hdn
    have hd : ¬ dep < m := fun z => hd (decide_eq_true z)
    have hge : ∀ x ∈ n.outs, ((ds.getD x 0 : Nat) : Int) ≤ dep := fun x hx => by
      have := hm.2 _ (List.mem_map.mpr ⟨_, List.mem_map.mpr ⟨x, hx, rfl⟩, rfl⟩)
      omega
    have N2 := N1.same o2.sm
    refine ⟨_, rfl, _, rfl, a, n, g, o, ps, k, rfl, N2, ok, hk2, hk9, a2.tb, fun cp H3 qs ds' a3 dl' dt' C => ?_⟩
    obtain rfl : ds = ds' := deps_uniq ok dt dt' dl dl'
    have a13 := a2.trans a3
    have N3 := N2.aft a2.tb a3
    refine ⟨_, rfl, _, rfl, a, n, g, o, ps, dep, rfl, N3, ok, fun d H4 s4 hd4 nd4 => ?_⟩
    have F4 : FwAt n k ds cof H4 a cp g o ps qs := ⟨N3.same s4, ok, hk9, C.mono fun b xs e => s4 b _ e, dl, dt, hcof⟩
    have Nd4 : NdAt n ds H4 d (firstN n dep) := ⟨hd4, firstN_ok n dep, firstN_in ok dep, firstN_ge hge⟩
    have fc := few_cnt dl dt hcof 24 (firstN n dep) (n.many + n.gates.length) Nd4.toW (by omega)
    refine ⟨_, rfl, _, rfl, _, rfl, _, rfl, a, n, g, o, ps, rfl, F4.net, a, cp, d, n, g, o, ps, qs, k, ds, cof, firstN n dep, n.many + n.gates.length, rfl, F4, Nd4, by omega, fun tp H5 s5 cv => ?_⟩
    have cv : CvAt H5 tp (fewT n ds cof 24 (firstN n dep) (n.many + n.gates.length)) := cv
    obtain ⟨tps, cva⟩ := cv
    have tl : (tps.map V.ref).length = (fewT n ds cof 24 (firstN n dep) (n.many + n.gates.length)).length := by rw [List.length_map, cva.ts.1]
    have F5 := F4.same s5
    refine ⟨_, rfl, tp, _, rfl, SqT.of cva.top, fun rp nr => ?_⟩
    have s6 := Same.new (o := .tup (tps.map V.ref).reverse) nr
    have cr : CvAt (upd H5 rp (.tup (tps.map V.ref).reverse)) rp (fewT n ds cof 24 (firstN n dep) (n.many + n.gates.length)).reverse := by
      refine ⟨tps.reverse, by rw [upd_same, List.map_reverse], by rw [List.length_reverse, List.length_reverse]; exact cva.ts.1, fun j p x e1 e2 => ?_⟩
      have hl := cva.ts.1
      have h1 := (List.getElem?_eq_some_iff.mp e1).1
      rw [List.length_reverse] at h1
      rw [List.getElem?_reverse h1] at e1
      rw [List.getElem?_reverse (by omega), ← hl] at e2
      exact TbAt.mono (fun b xs e => s6 _ _ e) p x (cva.ts.2 _ p x e1 e2)
    generalize upd H5 rp (.tup (tps.map V.ref).reverse) = H6 at s6 cr ⊢
    have F6 := F5.same s6
    have Nd6 := Nd4.same (s5.trans s6)
    refine ⟨_, rfl, _, rfl, _, rfl, _, rfl, a, n, g, o, ps, rfl, F6.net, _, rfl, tp, _, rfl, .inr (SqT.of (s6 _ _ cva.top)), a, cp, d, n, g, o, ps, qs, k, ds, cof, firstN n dep, n.many + n.gates.length, (tps.map V.ref).length, rfl, F6, Nd6, by omega, by rw [tl]; show _ ≤ cntN n ds cof 24 _ _; omega, fun pp H7 s7 rpp => ⟨small 2, fun p np => ?_⟩⟩
    have rpp : Rep H7 (.ref pp) (papT n ds cof (tps.map V.ref).length 24 (firstN n dep) (n.many + n.gates.length)) := rpp
    rw [tl] at rpp
    have s8 := Same.new (o := .tup [.ref rp, .ref pp]) np
    have s78 := s7.trans s8
    exact q ds m dl dt hm g6 hd p _ rp pp (a13.trans (Aft.ofSame a13.tb (((s4.trans s5).trans s6).trans s78))) upd_same (cr.mono fun b xs e => s78 _ _ e)
end
end K87
set_option Elab.async false
set_option linter.all false
set_option maxRecDepth 100000
set_option maxHeartbeats 4000000
namespace K87
open PySem PySem.Spec PyProof.Rows L2 GX
open C8 (Cal pe_c pe_gc Met Mak)
-- @exc NoDepth init=least
-- @sub NoDepth NoDepth true
-- @exc TooMany made
-- @alt cut_masks tup par=N,t[i],i vars=masks:DL,wire:i
section
/-! ### all covers, laid from the greatest needed gate on -/
/-- the covers that come of it -/
inductive Fin89 (many : Nat) (ev : Nat → List (List Nat)) : (Nat → Prop) → List Tb → List Tb → Prop
  | done {S : Nat → Prop} {L : List Tb} : (∀ g, S g → g ∈ L.map (·.1)) → Fin89 many ev S L L
  | step {S : Nat → Prop} {L T : List Tb} {g : Nat} {c : List Nat} : S g → g ∉ L.map (·.1) → (∀ x, S x → x ∉ L.map (·.1) → x ≤ g) → c ∈ ev g → Fin89 many ev (fun x => S x ∨ (x ∈ c ∧ many ≤ x)) (L ++ [(g, c)]) T → Fin89 many ev S L T
theorem Fin89.congr {many : Nat} {ev : Nat → List (List Nat)} {S S' : Nat → Prop} {L T : List Tb} (h : Fin89 many ev S L T) (e : ∀ x, S x ↔ S' x) : Fin89 many ev S' L T := by
  have : S = S' := funext fun x => propext (e x)
  rw [← this]
  exact h
/-- the cuts of a gate, least or not -/
def Ev89 (n : Net) (k : Nat) (ev : Nat → List (List Nat)) : Prop := ∀ g, n.many ≤ g → g < n.many + n.gates.length → ∀ c, c ∈ ev g ↔ (0 < c.length ∧ c.Pairwise (· < ·) ∧ (∀ x ∈ c, x < g) ∧ c.length ≤ k ∧ Sep n g c)
/-- where such a laying stands -/
structure Lay89 (n : Net) (k : Nat) (S : Nat → Prop) (b : Nat) (L : List Tb) : Prop where
  gt : ∀ x, S x → n.many ≤ x ∧ x < n.many + n.gates.length
  hi : ∀ t ∈ L, b ≤ t.1 ∧ S t.1
  lo : ∀ x, S x → b ≤ x → x ∈ L.map (·.1)
  desc : L.Pairwise fun a c => c.1 < a.1
  cut : ∀ t ∈ L, 0 < t.2.length ∧ t.2.Pairwise (· < ·) ∧ (∀ x ∈ t.2, x < t.1) ∧ t.2.length ≤ k ∧ Sep n t.1 t.2
  clo : ∀ t ∈ L, ∀ x ∈ t.2, n.many ≤ x → S x
theorem Lay89.step {n : Net} {k : Nat} {ev : Nat → List (List Nat)} (hev : Ev89 n k ev) {S : Nat → Prop} {b : Nat} {L : List Tb} {g : Nat} {c : List Nat} (h : Lay89 n k S b L) (hg : S g) (hn : g ∉ L.map (·.1)) (hm : ∀ x, S x → x ∉ L.map (·.1) → x ≤ g) (hc : c ∈ ev g) : g < b ∧ Lay89 n k (fun x => S x ∨ (x ∈ c ∧ n.many ≤ x)) g (L ++ [(g, c)]) := by
  have gb : g < b := Nat.lt_of_not_le fun z => hn (h.lo g hg z)
  obtain ⟨g1, g2⟩ := h.gt g hg
  have C := (hev g g1 g2 c).mp hc
  refine ⟨gb, fun x hx => ?_, fun t ht => ?_, fun x hx hb => ?_, List.pairwise_append.mpr ⟨h.desc, List.pairwise_singleton _ _, fun t ht u hu => ?_⟩, fun t ht => ?_, fun t ht x hx hmx => ?_⟩
  · rcases hx with hx | ⟨hx, hm'⟩
    · exact h.gt x hx
    · exact ⟨hm', Nat.lt_trans (C.2.2.1 x hx) g2⟩
  · rcases List.mem_append.mp ht with ht | ht
    · exact ⟨Nat.le_trans (Nat.le_of_lt gb) (h.hi t ht).1, .inl (h.hi t ht).2⟩
    · rw [List.mem_singleton.mp ht]
      exact ⟨Nat.le_refl _, .inl hg⟩
  · rw [List.map_append, List.mem_append]
    rcases hx with hx | ⟨hx, _⟩
    · by_cases z : x ∈ L.map (·.1)
      · exact .inl z
      · have := hm x hx z
        exact .inr (List.mem_singleton.mpr (by show x = g; omega))
    · have := C.2.2.1 x hx
      omega
  · rw [List.mem_singleton.mp hu]
    have := (h.hi t ht).1
    show g < t.1
    omega
  · rcases List.mem_append.mp ht with ht | ht
    · exact h.cut t ht
    · rw [List.mem_singleton.mp ht]
      exact C
  · rcases List.mem_append.mp ht with ht | ht
    · exact .inl (h.clo t ht x hx hmx)
    · rw [List.mem_singleton.mp ht] at hx
      exact .inr ⟨hx, hmx⟩
/-- depths of the wires when all is laid -/
structure Dp89 (n : Net) (T : List Tb) (D : Nat → Nat) : Prop where
  low : ∀ x, x < n.many → D x = 0
  at_ : ∀ t ∈ T, D t.1 = 1 + maxL (t.2.map D)
/-- no gate is less deep than its depth -/
theorem dp_ge {n : Net} (ok : n.Ok) {k : Nat} {ds : List Nat} (dl : ds.length = n.many + n.gates.length) (dt : DepsTo n k ds) {S : Nat → Prop} {T : List Tb} {D : Nat → Nat} (I : Lay89 n k S 0 T) (dd : Dp89 n T D) : ∀ x, (x < n.many ∨ S x) → ds.getD x 0 ≤ D x := by
  intro x
  induction x using Nat.strongRecOn with
  | _ x ih =>
    intro hx
    by_cases h : x < n.many
    · rw [dt.low x h (by omega)]
      exact Nat.zero_le _
    · have sx : S x := hx.resolve_left h
      obtain ⟨t, ht, rfl⟩ := List.mem_map.mp (I.lo x sx (Nat.zero_le _))
      obtain ⟨c1, c2, c3, c4, c5⟩ := I.cut t ht
      have h1 := dt.tell ok (by omega) (by rw [dl]; exact (I.gt t.1 sx).2) c2 c3 c5 c4
      rw [dd.at_ t ht]
      refine Nat.le_trans h1 (Nat.add_le_add_left ?_ 1)
      refine maxL_le fun y hy => ?_
      obtain ⟨z, hz, rfl⟩ := List.mem_map.mp hy
      refine Nat.le_trans (ih z (c3 z hz) ?_) (le_maxL (List.mem_map.mpr ⟨z, hz, rfl⟩))
      by_cases zm : z < n.many
      · exact .inl zm
      · exact .inr (I.clo t ht z hz (by omega))
theorem then_of {n : Net} {ns : Nd} {g x : Nat} {nd e : Int} {c : List Nat} (hg : ndGet ns g = some nd) (h : ndGet (thenN n.many ns g c) x = some e) : (∃ e0, ndGet ns x = some e0 ∧ (e = e0 ∨ (x ∈ c ∧ (e = nd - 1)))) ∨ (x ∈ c ∧ n.many ≤ x ∧ e = nd - 1) := by
  have gen : ∀ (l : List Nat) (acc : Nd), (∀ y ∈ l, y ∈ c) → (∀ y e, ndGet acc y = some e → (∃ e0, ndGet ns y = some e0 ∧ (e = e0 ∨ (y ∈ c ∧ (e = nd - 1)))) ∨ (y ∈ c ∧ n.many ≤ y ∧ e = nd - 1)) → ∀ y e, ndGet (l.foldl (fun acc w => if n.many ≤ w then ndPut acc w (minI ((ndGet ns g).getD 0 - 1) ((ndGet acc w).getD ((ndGet ns g).getD 0 - 1))) else acc) acc) y = some e → (∃ e0, ndGet ns y = some e0 ∧ (e = e0 ∨ (y ∈ c ∧ (e = nd - 1)))) ∨ (y ∈ c ∧ n.many ≤ y ∧ e = nd - 1) := by
    intro l
    induction l with
    | nil => intro acc _ h y e he; exact h y e he
    | cons w r ih =>
      intro acc hl h
      refine ih _ (fun y hy => hl y (List.mem_cons_of_mem _ hy)) fun y e he => ?_
      have he : ndGet (if n.many ≤ w then ndPut acc w (minI ((ndGet ns g).getD 0 - 1) ((ndGet acc w).getD ((ndGet ns g).getD 0 - 1))) else acc) y = some e := he
      split at he
      · rename_i hw
        rw [ndGet_put] at he
        by_cases z : y = w
        · subst z
          rw [if_pos rfl] at he
          have hyc := hl y List.mem_cons_self
          rw [hg, Option.getD_some] at he
          cases ha : ndGet acc y with
          | none =>
            rw [ha, Option.getD_none] at he
            have e1 : e = nd - 1 := by
              cases he
              unfold minI
              split <;> rfl
            exact .inr ⟨hyc, hw, e1⟩
          | some a =>
            rw [ha, Option.getD_some] at he
            have hh := h y a ha
            have e1 : e = a ∨ e = nd - 1 := by
              cases he
              unfold minI
              split
              · exact .inl rfl
              · exact .inr rfl
            rcases e1 with e1 | e1
            · rw [e1]; exact hh
            · exact .inr ⟨hyc, hw, e1⟩
        · rw [if_neg z] at he
          exact h y e he
      · exact h y e he
  exact gen c ns (fun _ hy => hy) (fun y e he => .inl ⟨e, he, .inl rfl⟩) x e h
/-- what is told comes of it -/
theorem fin_few {n : Net} (ok : n.Ok) {k : Nat} {ds : List Nat} {cof ev : Nat → List (List Nat)} (dl : ds.length = n.many + n.gates.length) (dt : DepsTo n k ds) (hcof : ∀ x, x < n.many + n.gates.length → CutsAre n k x (cof x)) (hev : Ev89 n k ev) : ∀ (f : Nat) (ns : Nd) (b : Nat) (L : List Tb), NdW n ds ns → b ≤ f → (∀ x, x ∈ ns.map (·.1) → b ≤ x → x ∈ L.map (·.1)) → (∀ t ∈ L, b ≤ t.1) → Fin89 n.many ev (fun x => x ∈ ns.map (·.1)) L (L ++ fewT n ds cof f ns b) := by
  intro f
  have last : ∀ (ns : Nd) (b : Nat) (L : List Tb), nextG ns b = none → (∀ x, x ∈ ns.map (·.1) → b ≤ x → x ∈ L.map (·.1)) → Fin89 n.many ev (fun x => x ∈ ns.map (·.1)) L L := fun ns b L h hl => .done fun x hx => by
    refine hl x hx (Nat.le_of_not_lt fun z => ?_)
    have := List.filter_eq_nil_iff.mp (nextG_none.mp h) x hx
    rw [decide_eq_true_iff] at this
    exact this z
  induction f with
  | zero =>
    intro ns b L W hb hl hh
    have hn : nextG ns b = none := nextG_none.mpr (List.filter_eq_nil_iff.mpr fun x _ => by rw [decide_eq_true_iff]; omega)
    rw [few_last hn, List.append_nil]
    exact last ns b L hn hl
  | succ f ih =>
    intro ns b L W hb hl hh
    cases hn : nextG ns b with
    | none =>
      rw [few_last hn, List.append_nil]
      exact last ns b L hn hl
    | some g =>
      obtain ⟨m1, m2, m3⟩ := nextG_some hn
      obtain ⟨gm, gl⟩ := W.in_ g m1
      obtain ⟨nd, hnd⟩ := ndGet_some m1
      rw [few_some hn hnd]
      have ne := fit_some gm (by rw [dl]; exact gl) dt W.ge hnd (hcof g gl)
      obtain ⟨h1, _⟩ := best_mem (l := (fitC ds (cof g) nd).map fun c => (g, c) :: fewT n ds cof f (thenN n.many ns g c) g) (fun z => ne (List.map_eq_nil_iff.mp z))
      obtain ⟨c, hc, e⟩ := List.mem_map.mp h1
      rw [← e]
      have lc := ((hcof g gl).mem c).mp (List.mem_filter.mp hc).1
      have co := lc_ok ok lc gl
      have W' := W.then_ gl (hcof g gl) hnd hc
      refine .step (g := g) (c := c) m1 (fun z => ?_) (fun x hx hx2 => ?_) ((hev g gm gl c).mpr ⟨co.ne, lc.rise, lc.lt, lc.len, lc.sep⟩) ?_
      · obtain ⟨t, ht, e⟩ := List.mem_map.mp z
        have := hh t ht
        have : t.1 = g := e
        omega
      · exact m3 x hx (Nat.lt_of_not_le fun z => hx2 (hl x hx z))
      · have keys : ∀ x, x ∈ (thenN n.many ns g c).map (·.1) ↔ (x ∈ ns.map (·.1) ∨ (x ∈ c ∧ n.many ≤ x)) := fun x => by
          constructor
          · intro hx
            obtain ⟨e, he⟩ := ndGet_some hx
            rcases then_of hnd he with ⟨e0, h0, _⟩ | ⟨h0, h1, _⟩
            · exact .inl (ndGet_mem h0)
            · exact .inr ⟨h0, h1⟩
          · rintro (hx | ⟨hx, hmx⟩)
            · obtain ⟨e, he⟩ := ndGet_some hx
              obtain ⟨e', h', _⟩ := then_get (many := n.many) (g := g) (c := c) he
              exact ndGet_mem h'
            · obtain ⟨e', h', _⟩ := then_new (many := n.many) hnd hx hmx
              exact ndGet_mem h'
        have := ih (thenN n.many ns g c) g (L ++ [(g, c)]) W' (by omega) (fun x hx hb' => ?_) (fun t ht => ?_)
        · rw [List.append_assoc] at this
          exact this.congr keys
        · rw [List.map_append, List.mem_append]
          rcases (keys x).mp hx with hx | ⟨hx, _⟩
          · by_cases z : x < b
            · have := m3 x hx z
              exact .inr (List.mem_singleton.mpr (by show x = g; omega))
            · exact .inl (hl x hx (by omega))
          · have := lc.lt x hx
            omega
        · rcases List.mem_append.mp ht with ht | ht
          · have := hh t ht
            omega
          · rw [List.mem_singleton.mp ht]
            exact Nat.le_refl _
end
section
/-- what the outs need -/
def fst89 (n : Net) : Nat → Prop := fun x => x ∈ n.outs ∧ n.many ≤ x
/-- how deep the outs lie -/
def dO89 (n : Net) (T : List Tb) : Nat := maxL (n.outs.map (dMap T.reverse))
theorem first_only {n : Net} {d e : Int} {x : Nat} (h : ndGet (firstN n d) x = some e) : fst89 n x ∧ e = d := nd_fold (p := fun m => ∀ e, ndGet m x = some e → fst89 n x ∧ e = d) (l := n.outs.filter fun o => decide (n.many ≤ o)) (f := fun acc o => ndPut acc o d) (fun acc y hy ih e he => by
  rw [ndGet_put] at he
  split at he
  · rename_i z
    cases he
    obtain ⟨h1, h2⟩ := List.mem_filter.mp hy
    rw [z]
    exact ⟨⟨h1, of_decide_eq_true h2⟩, rfl⟩
  · exact ih e he) (fun e he => by cases he) e h
theorem first_mem {n : Net} {d : Int} {x : Nat} : x ∈ (firstN n d).map (·.1) ↔ fst89 n x := ⟨fun h => by
  obtain ⟨e, he⟩ := ndGet_some h
  exact (first_only he).1, fun h => ndGet_mem (first_get h.1 h.2)⟩
variable {n : Net} {k : Nat} {ds : List Nat} {cof ev : Nat → List (List Nat)} {m : Int}
theorem outs_le {n : Net} {ds : List Nat} {m dep : Int} (hm : MaxO n ds m) (h : m ≤ dep) : ∀ o ∈ n.outs, ((ds.getD o 0 : Nat) : Int) ≤ dep := fun o ho => by
  have := hm.2 _ (List.mem_map.mpr ⟨_, List.mem_map.mpr ⟨o, ho, rfl⟩, rfl⟩)
  omega
theorem out_has (ok : n.Ok) (dl : ds.length = n.many + n.gates.length) (dt : DepsTo n k ds) (hcof : ∀ x, x < n.many + n.gates.length → CutsAre n k x (cof x)) (hev : Ev89 n k ev) (hm : MaxO n ds m) {dep : Int} (hd : m ≤ dep) : ∃ T, Fin89 n.many ev (fst89 n) [] T ∧ (dO89 n T : Int) ≤ dep ∧ T.length = cntN n ds cof 24 (firstN n dep) (n.many + n.gates.length) ∧ T = fewT n ds cof 24 (firstN n dep) (n.many + n.gates.length) := by
  have m8 := ok.m8
  have g16 := ok.g16
  have d0 : 0 ≤ dep := by
    have := (hm.small ok dl dt).1
    omega
  have W : NdW n ds (firstN n dep) := ⟨firstN_ok n dep, firstN_in ok dep, firstN_ge (outs_le hm hd)⟩
  have F := few_ok dl dt hcof 24 (firstN n dep) (n.many + n.gates.length) W (by omega)
  have hn : ∀ x ∈ (firstN n dep).map (·.1), ¬ n.many + n.gates.length ≤ x := fun x hx => by
    have := ok.os x (first_mem.mp hx).1
    omega
  refine ⟨_, (fin_few ok dl dt hcof hev 24 (firstN n dep) (n.many + n.gates.length) [] W (by omega) (fun x hx hb => absurd hb (hn x hx)) (fun t ht => by cases ht)).congr fun x => first_mem, ?_, ?_, rfl⟩
  · have := few_deep ok d0 F
    rw [List.nil_append]
    unfold dO89
    by_cases z : 0 < (n.outs.map (dMap (fewT n ds cof 24 (firstN n dep) (n.many + n.gates.length)).reverse)).length
    · obtain ⟨o, ho, e⟩ := List.mem_map.mp (maxL_mem z)
      rw [← e]
      exact this o ho
    · rw [List.length_eq_zero_iff.mp (Nat.eq_zero_of_not_pos z)]
      exact d0
  · have := few_cnt dl dt hcof 24 (firstN n dep) (n.many + n.gates.length) W (by omega)
    have e0 : hiN (firstN n dep) (n.many + n.gates.length) = 0 := by
      unfold hiN
      rw [List.length_eq_zero_iff, List.filter_eq_nil_iff]
      intro x hx
      rw [decide_eq_true_iff]
      exact hn x hx
    rw [List.nil_append]
    omega
end
section
/-! ### all rising rows of at most so many lesser wires -/
def lo89 (r : List Nat) : Nat := match r.getLast? with
  | none => 0
  | some x => x + 1
def kids89 (g : Nat) (r : List Nat) : List (List Nat) := (List.range (g - lo89 r)).map fun i => r ++ [lo89 r + i]
def rows89 (g : Nat) : Nat → List (List Nat)
  | 0 => [[]]
  | t + 1 => rows89 g t ++ ((rows89 g t).filter fun r => decide (r.length = t)).flatMap (kids89 g)
theorem lo_nil : lo89 [] = 0 := rfl
theorem lo_snoc (r : List Nat) (x : Nat) : lo89 (r ++ [x]) = x + 1 := by
  unfold lo89
  rw [List.getLast?_concat]
theorem lo_le {r : List Nat} (h : r.Pairwise (· < ·)) {i : Nat} : (∀ x ∈ r, x < lo89 r + i) := by
  intro x hx
  rcases List.eq_nil_or_concat r with e | ⟨q, y, e⟩
  · rw [e] at hx; cases hx
  · rw [List.concat_eq_append] at e
    subst e
    rw [lo_snoc]
    rcases List.mem_append.mp hx with hx | hx
    · have := (List.pairwise_append.mp h).2.2 x hx y List.mem_cons_self
      omega
    · rw [List.mem_singleton.mp hx]
      omega
theorem mem_kids {g : Nat} {r c : List Nat} (hr : r.Pairwise (· < ·)) (hg : ∀ x ∈ r, x < g) : c ∈ kids89 g r ↔ ∃ w, c = r ++ [w] ∧ w < g ∧ c.Pairwise (· < ·) := by
  unfold kids89
  rw [List.mem_map]
  constructor
  · rintro ⟨i, hi, rfl⟩
    refine ⟨_, rfl, ?_, List.pairwise_append.mpr ⟨hr, List.pairwise_singleton _ _, fun x hx y hy => ?_⟩⟩
    · have := List.mem_range.mp hi
      omega
    · rw [List.mem_singleton.mp hy]
      exact lo_le hr x hx
  · rintro ⟨w, rfl, hw, hp⟩
    have hl : lo89 r ≤ w := by
      rcases List.eq_nil_or_concat r with e | ⟨q, y, e⟩
      · rw [e, lo_nil]; exact Nat.zero_le _
      · rw [List.concat_eq_append] at e
        subst e
        rw [lo_snoc]
        exact (List.pairwise_append.mp hp).2.2 y (List.mem_append_right _ List.mem_cons_self) w List.mem_cons_self
    exact ⟨w - lo89 r, List.mem_range.mpr (by omega), by rw [Nat.add_sub_cancel' hl]⟩
theorem mem_rows (g : Nat) : ∀ (t : Nat) (c : List Nat), c ∈ rows89 g t ↔ (c.Pairwise (· < ·) ∧ (∀ x ∈ c, x < g) ∧ c.length ≤ t) := by
  intro t
  induction t with
  | zero =>
    intro c
    unfold rows89
    rw [List.mem_singleton]
    constructor
    · rintro rfl
      exact ⟨.nil, fun x hx => (by cases hx), Nat.le_refl _⟩
    · rintro ⟨_, _, h⟩
      exact List.length_eq_zero_iff.mp (Nat.le_zero.mp h)
  | succ t ih =>
    intro c
    unfold rows89
    rw [List.mem_append, ih, List.mem_flatMap]
    constructor
    · rintro (⟨h1, h2, h3⟩ | ⟨r, hr, hc⟩)
      · exact ⟨h1, h2, by omega⟩
      · obtain ⟨h1, h2⟩ := List.mem_filter.mp hr
        have h2 := of_decide_eq_true h2
        obtain ⟨r1, r2, r3⟩ := (ih r).mp h1
        obtain ⟨w, rfl, hw, hp⟩ := (mem_kids r1 r2).mp hc
        refine ⟨hp, fun x hx => ?_, by rw [List.length_append, h2]; exact Nat.le_refl _⟩
        rcases List.mem_append.mp hx with hx | hx
        · exact r2 x hx
        · rw [List.mem_singleton.mp hx]; exact hw
    · rintro ⟨h1, h2, h3⟩
      by_cases z : c.length ≤ t
      · exact .inl ⟨h1, h2, z⟩
      · right
        rcases List.eq_nil_or_concat c with e | ⟨q, y, e⟩
        · rw [e] at z; exact absurd (Nat.zero_le _) z
        · rw [List.concat_eq_append] at e
          subst e
          rw [List.length_append] at h3 z
          have h3 : q.length + 1 ≤ t + 1 := h3
          have z : ¬ q.length + 1 ≤ t := z
          have q1 := (List.pairwise_append.mp h1).1
          have q2 : ∀ x ∈ q, x < g := fun x hx => h2 x (List.mem_append_left _ hx)
          refine ⟨q, List.mem_filter.mpr ⟨(ih q).mpr ⟨q1, q2, by omega⟩, decide_eq_true (by omega)⟩, (mem_kids q1 q2).mpr ⟨y, rfl, h2 y (List.mem_append_right _ List.mem_cons_self), h1⟩⟩
/-- all cuts of a gate, least or not -/
noncomputable def ev89 (n : Net) (k g : Nat) : List (List Nat) := (rows89 g k).filter fun r => !decide (r.length = 0) && @decide (Sep n g r) (Classical.propDecidable _)
theorem ev_ok (n : Net) (k : Nat) : Ev89 n k (ev89 n k) := fun g _ _ c => by
  unfold ev89
  rw [List.mem_filter, mem_rows, Bool.and_eq_true, Bool.not_eq_true', decide_eq_false_iff_not]
  constructor
  · rintro ⟨⟨h1, h2, h3⟩, h4, h5⟩
    exact ⟨Nat.pos_of_ne_zero h4, h1, h2, h3, @of_decide_eq_true _ (Classical.propDecidable _) h5⟩
  · rintro ⟨h4, h1, h2, h3, h5⟩
    exact ⟨⟨h1, h2, h3⟩, Nat.ne_of_gt h4, @decide_eq_true _ (Classical.propDecidable _) h5⟩
end
section
variable {n n' : Net} {p q : Nat → Nat} {k : Nat} {ds ds' : List Nat} {cof cof' : Nat → List (List Nat)}
theorem maxL_img {c : List Nat} {f f' : Nat → Nat} (h : ∀ x ∈ c, f' (p x) = f x) : maxL ((imgN p c).map f') = maxL (c.map f) := by
  refine Nat.le_antisymm (maxL_le fun y hy => ?_) (maxL_le fun y hy => ?_)
  · obtain ⟨x, hx, rfl⟩ := List.mem_map.mp hy
    obtain ⟨z, hz, rfl⟩ := mem_img.mp hx
    rw [h z hz]
    exact le_maxL (List.mem_map.mpr ⟨z, hz, rfl⟩)
  · obtain ⟨x, hx, rfl⟩ := List.mem_map.mp hy
    rw [← h x hx]
    exact le_maxL (List.mem_map.mpr ⟨p x, mem_img.mpr ⟨x, hx, rfl⟩, rfl⟩)
theorem deps_ren (ok : n.Ok) (ok' : n'.Ok) (R : Ren n n' p q) (dl : ds.length = n.many + n.gates.length) (dt : DepsTo n k ds) (dl' : ds'.length = n'.many + n'.gates.length) (dt' : DepsTo n' k ds') : ∀ w, w < n.many + n.gates.length → ds'.getD (p w) 0 = ds.getD w 0 := by
  have eW : n'.many + n'.gates.length = n.many + n.gates.length := by rw [R.many, R.gl]
  have S := R.symm ok
  obtain ⟨es, hes⟩ : ∃ es, es = (List.range (n.many + n.gates.length)).map fun y => ds.getD (q y) 0 := ⟨_, rfl⟩
  have el : es.length = n'.many + n'.gates.length := by rw [hes, List.length_map, List.length_range, eW]
  have eg : ∀ y, y < n.many + n.gates.length → es.getD y 0 = ds.getD (q y) 0 := fun y hy => by
    rw [hes, List.getD_eq_getElem?_getD, List.getElem?_map, List.getElem?_range hy]
    rfl
  have et : DepsTo n' k es := by
    refine ⟨fun x h1 h2 => ?_, fun g h1 h2 => ?_⟩
    · rw [el, eW] at h2
      rw [R.many] at h1
      rw [eg x h2]
      have := R.pin (q x) (R.ql x h2).1
      rw [(R.ql x h2).2] at this
      exact dt.low _ (this.mp h1) (by rw [dl]; exact (R.ql x h2).1)
    · rw [el, eW] at h2
      rw [R.many] at h1
      have hq := (R.ql g h2).1
      have hqm : n.many ≤ q g := Nat.le_of_not_lt fun z => by
        have := (R.pin (q g) hq).mpr z
        rw [(R.ql g h2).2] at this
        omega
      obtain ⟨⟨c, lc, e⟩, hall⟩ := dt.at_ (q g) hqm (by rw [dl]; exact hq)
      refine ⟨⟨imgN p c, ?_, ?_⟩, fun c' lc' => ?_⟩
      · have := lc_ren ok ok' R hq lc
        rw [(R.ql g h2).2] at this
        exact this
      · rw [eg g h2, e]
        congr 1
        refine (maxL_img fun x hx => ?_).symm
        have hx' := Nat.lt_trans (lc.lt x hx) hq
        rw [eg _ (R.pl x hx').1, (R.pl x hx').2]
      · have := hall _ (lc_ren ok' ok S (by rw [eW]; exact h2) lc')
        rw [eg g h2]
        refine Nat.le_trans this (Nat.add_le_add_left (Nat.le_of_eq ?_) 1)
        refine maxL_img fun x hx => ?_
        rw [eg x (Nat.lt_trans (lc'.lt x hx) h2)]
  obtain rfl : ds' = es := deps_uniq ok' dt' et dl' el
  intro w hw
  rw [eg _ (R.pl w hw).1, (R.pl w hw).2]
theorem maxo_ren (ok : n.Ok) (ok' : n'.Ok) (R : Ren n n' p q) (dl : ds.length = n.many + n.gates.length) (dt : DepsTo n k ds) (dl' : ds'.length = n'.many + n'.gates.length) (dt' : DepsTo n' k ds') {m : Int} (h : MaxO n ds m) : MaxO n' ds' m := by
  have e : n'.outs.map (fun x => ds'.getD x 0) = n.outs.map fun x => ds.getD x 0 := by
    rw [R.outs, List.map_map]
    exact List.map_congr_left fun x hx => deps_ren ok ok' R dl dt dl' dt' x (ok.os x hx)
  unfold MaxO at h ⊢
  rw [e]
  exact h
/-- no cover has fewer tables -/
theorem cov_ge (ok : n.Ok) (dl : ds.length = n.many + n.gates.length) (dt : DepsTo n k ds) (hcof : ∀ x, x < n.many + n.gates.length → CutsAre n k x (cof x)) {cv : List Tb} (C : CovOk n k cv) {D : Nat → Nat} (D0 : ∀ x, x < n.many → D x = 0) (D1 : ∀ t ∈ cv, D t.1 = 1 + maxL (t.2.map D)) : ∀ (f : Nat) (ns : Nd) (b : Nat), NdW n ds ns → (∀ x e, ndGet ns x = some e → (∃ t ∈ cv, t.1 = x) ∧ (D x : Int) ≤ e) → cntN n ds cof f ns b ≤ cv.length := by
  have I : Lay89 n k (fun x => ∃ t ∈ cv, t.1 = x) 0 cv.reverse := by
    refine ⟨fun x ⟨t, ht, e⟩ => e ▸ C.gt t ht, fun t ht => ⟨Nat.zero_le _, t, List.mem_reverse.mp ht, rfl⟩, fun x ⟨t, ht, e⟩ _ => List.mem_map.mpr ⟨t, List.mem_reverse.mpr ht, e⟩, List.pairwise_reverse.mpr C.rise, fun t ht => ?_, fun t ht x hx hm => C.clo t (List.mem_reverse.mp ht) x hx hm⟩
    obtain ⟨⟨a1, a2, a3, a4⟩, a5⟩ := C.cut t (List.mem_reverse.mp ht)
    exact ⟨a1, a4, a2, a5, a3⟩
  have dge := dp_ge ok dl dt I ⟨D0, fun t ht => D1 t (List.mem_reverse.mp ht)⟩
  intro f
  have len : ∀ ns : Nd, NdW n ds ns → (∀ x e, ndGet ns x = some e → (∃ t ∈ cv, t.1 = x) ∧ (D x : Int) ≤ e) → ns.length ≤ cv.length := fun ns W hk => by
    have h1 := nodup_len (xs := ns.map (fun e : Nat × Int => e.1)) (ys := cv.map (fun t : Tb => t.1)) W.ok fun x hx => by
      obtain ⟨e, he⟩ := ndGet_some hx
      obtain ⟨t, ht, e⟩ := (hk x e he).1
      exact List.mem_map.mpr ⟨t, ht, e⟩
    rw [List.length_map, List.length_map] at h1
    exact h1
  induction f with
  | zero => exact fun ns b W hk => len ns W hk
  | succ f ih =>
    intro ns b W hk
    cases hn : nextG ns b with
    | none => rw [cnt_last hn]; exact len ns W hk
    | some g =>
      obtain ⟨m1, m2, m3⟩ := nextG_some hn
      obtain ⟨gm, gl⟩ := W.in_ g m1
      obtain ⟨nd, hnd⟩ := ndGet_some m1
      rw [cnt_some hn hnd]
      obtain ⟨⟨t, ht, rfl⟩, hD⟩ := hk g nd hnd
      obtain ⟨⟨a1, a2, a3, a4⟩, a5⟩ := C.cut t ht
      obtain ⟨c', lc, cs⟩ := lc_within ok a4 a2 a3 a5
      have mc := ((hcof t.1 gl).mem c').mpr lc
      have le1 : maxL (c'.map fun x => ds.getD x 0) ≤ maxL (t.2.map D) := by
        refine maxL_le fun y hy => ?_
        obtain ⟨z, hz, rfl⟩ := List.mem_map.mp hy
        refine Nat.le_trans (dge z ?_) (le_maxL (List.mem_map.mpr ⟨z, cs z hz, rfl⟩))
        by_cases zm : z < n.many
        · exact .inl zm
        · exact .inr (C.clo t ht z (cs z hz) (by omega))
      have Dg := D1 t ht
      have fc : c' ∈ fitC ds (cof t.1) nd := List.mem_filter.mpr ⟨mc, decide_eq_true (by omega)⟩
      have q := (minL_mem (l := (fitC ds (cof t.1) nd).map fun c => cntN n ds cof f (thenN n.many ns t.1 c) t.1) (fun z => by rw [List.map_eq_nil_iff.mp z] at fc; cases fc)).2 _ (List.mem_map.mpr ⟨c', fc, rfl⟩)
      refine Nat.le_trans q (ih _ _ (W.then_ gl (hcof t.1 gl) hnd fc) fun x e he => ?_)
      have hx1 : ∀ x ∈ c', (D x : Int) ≤ nd - 1 := fun x hx => by
        have := le_maxL (List.mem_map.mpr ⟨x, cs x hx, rfl⟩ : D x ∈ t.2.map D)
        omega
      rcases then_of hnd he with ⟨e0, h0, h1⟩ | ⟨h0, h1, h2⟩
      · refine ⟨(hk x e0 h0).1, ?_⟩
        rcases h1 with h1 | ⟨h1, h2⟩
        · rw [h1]; exact (hk x e0 h0).2
        · rw [h2]; exact hx1 x h1
      · refine ⟨C.clo t ht x (cs x h0) h1, ?_⟩
        rw [h2]; exact hx1 x h0
def cutT (T : List Tb) (g : Nat) : List Nat := ((T.find? fun t => decide (t.1 = g)).map (·.2)).getD []
theorem cutT_mem {T : List Tb} {g : Nat} (h : ∃ t ∈ T, t.1 = g) : ∃ t ∈ T, t.1 = g ∧ cutT T g = t.2 := by
  unfold cutT
  cases e : T.find? fun t => decide (t.1 = g) with
  | none =>
    obtain ⟨t, ht, hg⟩ := h
    have := List.find?_eq_none.mp e t ht
    exact absurd (decide_eq_true hg) this
  | some t =>
    have h : decide (t.1 = g) = true := List.find?_some (p := fun t : Tb => decide (t.1 = g)) e
    exact ⟨t, List.mem_of_find?_eq_some e, of_decide_eq_true h, rfl⟩
/-- the fewest tables are no more -/
theorem few_ren (ok : n.Ok) (ok' : n'.Ok) (R : Ren n n' p q) (dl : ds.length = n.many + n.gates.length) (dt : DepsTo n k ds) (hcof : ∀ x, x < n.many + n.gates.length → CutsAre n k x (cof x)) (dl' : ds'.length = n'.many + n'.gates.length) (dt' : DepsTo n' k ds') (hcof' : ∀ x, x < n'.many + n'.gates.length → CutsAre n' k x (cof' x)) {m dep : Int} (hm : MaxO n ds m) (hd : m ≤ dep) : cntN n' ds' cof' 24 (firstN n' dep) (n'.many + n'.gates.length) ≤ cntN n ds cof 24 (firstN n dep) (n.many + n.gates.length) := by
  have m8 := ok.m8
  have g16 := ok.g16
  have eW : n'.many + n'.gates.length = n.many + n.gates.length := by rw [R.many, R.gl]
  have hm' := maxo_ren ok ok' R dl dt dl' dt' hm
  obtain ⟨T, _, f2, f3, f4⟩ := out_has ok dl dt hcof (ev_ok n k) hm hd
  have F := few_ok dl dt hcof 24 (firstN n dep) (n.many + n.gates.length) ⟨firstN_ok n dep, firstN_in ok dep, firstN_ge (outs_le hm hd)⟩ (by omega)
  rw [← f4] at F
  have C := few_cover ok F
  have ris : Ris T.reverse := ⟨C.rise, fun t ht x hx => (C.cut t ht).1.lt x hx⟩
  have D0 : ∀ x, x < n.many → dMap T.reverse x = 0 := fun x hx => dMap_out x fun t ht => by have := (C.gt t ht).1; omega
  have D1 : ∀ t ∈ T, dMap T.reverse t.1 = 1 + maxL (t.2.map (dMap T.reverse)) := fun t ht => dMap_in ris t (List.mem_reverse.mpr ht)
  have at_ : ∀ y, y ∈ (List.range (n.many + n.gates.length)).filter (fun y => decide (q y ∈ T.map fun t : Tb => t.1)) ↔ (y < n.many + n.gates.length ∧ ∃ t ∈ T, t.1 = q y) := fun y => by
    rw [List.mem_filter, List.mem_range, decide_eq_true_iff, List.mem_map]
  obtain ⟨ys, hys⟩ : ∃ ys, ys = (List.range (n.many + n.gates.length)).filter fun y => decide (q y ∈ T.map fun t : Tb => t.1) := ⟨_, rfl⟩
  rw [← hys] at at_
  have yr : ys.Pairwise (· < ·) := by rw [hys]; exact List.Pairwise.filter _ List.pairwise_lt_range
  have cvm : ∀ t' : Tb, t' ∈ ys.map (fun y => (y, imgN p (cutT T (q y)))) → ∃ t ∈ T, t'.1 = p t.1 ∧ t.1 = q t'.1 ∧ t'.2 = imgN p t.2 ∧ t.1 < n.many + n.gates.length := fun t' ht' => by
    obtain ⟨y, hy, rfl⟩ := List.mem_map.mp ht'
    obtain ⟨h1, h2⟩ := (at_ y).mp hy
    obtain ⟨t, ht, e1, e2⟩ := cutT_mem h2
    exact ⟨t, ht, by rw [e1]; exact (R.ql y h1).2.symm, e1, by rw [e2], (F.lt t ht).2.2.1⟩
  have cvx : ∀ t ∈ T, ∃ u ∈ ys.map (fun y => (y, imgN p (cutT T (q y)))), u.1 = p t.1 := fun t ht => by
    have hl := (F.lt t ht).2.2.1
    exact ⟨_, List.mem_map.mpr ⟨p t.1, (at_ _).mpr ⟨(R.pl _ hl).1, t, ht, (R.pl _ hl).2.symm⟩, rfl⟩, rfl⟩
  have clt : ∀ t ∈ T, ∀ x ∈ t.2, x < n.many + n.gates.length := fun t ht x hx => Nat.lt_trans ((F.lt t ht).2.2.2.lt x hx) (F.lt t ht).2.2.1
  have C' : CovOk n' k (ys.map fun y => (y, imgN p (cutT T (q y)))) := by
    refine ⟨by rw [List.pairwise_map]; exact yr, fun t' ht' => ?_, fun t' ht' => ?_, fun o' ho' hmo => ?_, fun t' ht' x hx hmx => ?_⟩
    · obtain ⟨t, ht, e1, _, _, hl⟩ := cvm t' ht'
      rw [eW, R.many, e1]
      refine ⟨Nat.le_of_not_lt fun z => ?_, (R.pl _ hl).1⟩
      have := (R.pin _ hl).mp z
      have := (F.lt t ht).2.1
      omega
    · obtain ⟨t, ht, e1, _, e3, hl⟩ := cvm t' ht'
      have lc := lc_ren ok ok' R hl (F.lt t ht).2.2.2
      rw [e1, e3]
      exact ⟨lc_ok ok' lc (by rw [eW]; exact (R.pl _ hl).1), lc.len⟩
    · rw [R.outs] at ho'
      obtain ⟨o, ho, rfl⟩ := List.mem_map.mp ho'
      have ol := ok.os o ho
      obtain ⟨t, ht, e⟩ := C.outs o ho (Nat.le_of_not_lt fun z => by
        have := (R.pin o ol).mpr z
        rw [R.many] at hmo
        omega)
      obtain ⟨u, hu, e2⟩ := cvx t (List.mem_reverse.mp ht)
      exact ⟨u, hu, by rw [e2, e]⟩
    · obtain ⟨t, ht, _, _, e3, _⟩ := cvm t' ht'
      rw [e3] at hx
      obtain ⟨z, hz, rfl⟩ := mem_img.mp hx
      have zl := clt t ht z hz
      obtain ⟨u, hu, e⟩ := C.clo t (List.mem_reverse.mpr ht) z hz (Nat.le_of_not_lt fun zz => by
        have := (R.pin z zl).mpr zz
        rw [R.many] at hmx
        omega)
      obtain ⟨v, hv, e2⟩ := cvx u (List.mem_reverse.mp hu)
      exact ⟨v, hv, by rw [e2, e]⟩
  have lenY : (ys.map fun y => (y, imgN p (cutT T (q y)))).length ≤ T.length := by
    rw [List.length_map]
    have h1 := nodup_len (xs := ys.map q) (ys := T.map fun t : Tb => t.1) (by
      rw [List.nodup_iff_pairwise_ne, List.pairwise_map]
      refine List.Pairwise.imp_of_mem (fun {a b} ha hb lt e => ?_) yr
      have h1 := (R.ql a ((at_ a).mp ha).1).2
      have h2 := (R.ql b ((at_ b).mp hb).1).2
      rw [e, h2] at h1
      omega) fun x hx => by
        obtain ⟨y, hy, rfl⟩ := List.mem_map.mp hx
        obtain ⟨_, t, ht, e⟩ := (at_ y).mp hy
        exact List.mem_map.mpr ⟨t, ht, e⟩
    rw [List.length_map, List.length_map] at h1
    exact h1
  have D1' : ∀ t' ∈ ys.map (fun y => (y, imgN p (cutT T (q y)))), (fun x => dMap T.reverse (q x)) t'.1 = 1 + maxL (t'.2.map fun x => dMap T.reverse (q x)) := fun t' ht' => by
    obtain ⟨t, ht, _, e2, e3, _⟩ := cvm t' ht'
    show dMap T.reverse (q t'.1) = _
    rw [← e2, D1 t ht, e3]
    congr 1
    refine (maxL_img fun x hx => ?_).symm
    rw [(R.pl x (clt t ht x hx)).2]
  have := cov_ge ok' dl' dt' hcof' C' (D := fun x => dMap T.reverse (q x)) (fun x hx => ?_) D1' 24 (firstN n' dep) (n'.many + n'.gates.length) ⟨firstN_ok n' dep, firstN_in ok' dep, firstN_ge (outs_le hm' hd)⟩ (fun x e he => ?_)
  · rw [← f3]
    exact Nat.le_trans this lenY
  · rw [R.many] at hx
    have hW : x < n.many + n.gates.length := by omega
    have := R.pin (q x) (R.ql x hW).1
    rw [(R.ql x hW).2] at this
    exact D0 _ (this.mp hx)
  · obtain ⟨⟨h1, h2⟩, rfl⟩ := first_only he
    refine ⟨C'.outs x h1 h2, ?_⟩
    rw [R.outs] at h1
    obtain ⟨o, ho, rfl⟩ := List.mem_map.mp h1
    show ((dMap T.reverse (q (p o)) : Nat) : Int) ≤ e
    rw [(R.pl o (ok.os o ho)).2]
    have h3 : dMap T.reverse o ≤ dO89 n T := le_maxL (List.mem_map.mpr ⟨o, ho, rfl⟩)
    omega
end
end K87
set_option Elab.async false
set_option linter.all false
set_option maxRecDepth 100000
set_option maxHeartbeats 4000000
namespace K87
open PySem PySem.Spec PyProof.Rows L2 GX
open C8 (Cal pe_c pe_gc Met Mak)
-- @exc NoDepth init=least
-- @sub NoDepth NoDepth true
-- @exc TooMany made
-- @alt cut_masks tup par=N,t[i],i vars=masks:DL,wire:i
section
variable {P : Program} {w : World} {K : PySem.W.Frag} {mg : Str → Option Value} {base : Heap} {Ts : List Addr} {CTooMany CNoDepth : Addr}
def spAlike (Ts : List Addr) : Sp := fun vs H Q _ => ∃ (a a' l : Addr) (n n' : Net) (g o g' o' : Addr) (ps ps' : List Addr) (od : List Nat) (k : Nat), vs = [.ref a, .ref a', .ref l, nV k] ∧ NetAt H a n g o ps ∧ NetAt H a' n' g' o' ps' ∧ n.Ok ∧ n'.Ok ∧ Ren n n' (fun x => od.idxOf x) (fun i => od.getD i 0) ∧ OrdOk n od ∧ H l = some (.lst (od.map nV)) ∧ n.gates.length ≤ 6 ∧ 2 ≤ k ∧ k ≤ 4 ∧ Tabs Ts H ∧
  ∀ H', Aft Ts H H' → Q (.bl true) H'
theorem ok_alike {f c : Addr} (D : Dfn K mg "_law_alike" s__law_alike f c) (T : Txt mg) (c_depths : Cal P w K mg base 5 "depths" (spDepths Ts) []) (c_cuts_of : Cal P w K mg base 4 "cuts_of" (spCutsOf Ts) []) (c__law_called : Cal P w K mg base 1 "_law_called" spCald []) (c_fewest : CalX P w K mg base 28 "fewest" (spFewX Ts CTooMany CNoDepth)) : Cal P w K mg base 29 "_law_alike" (spAlike Ts) [] := by
  refine cal D (fun _ _ _ _ _ _ us hl => match us, hl with | [_, _, _, _], _ => rfl) sc__law_alike (fun vs H Q E h => ?_) (fun A outer s H vs Q E hr h => ?_)
  · obtain ⟨a, a', l, n, n', g, o, g', o', ps, ps', od, k, rfl, _⟩ := h
    rfl
  · obtain ⟨a, a', l, n, n', g, o, g', o', ps, ps', od, k, rfl, N, N', ok, ok', R, ord, hl, g6, hk2, hk4, tb, q⟩ := h
    have m1 := ok.m1
    have m8 := ok.m8
    have o8 := ok.o8
    refine ⟨_, (pss_cons (ps_set (i := 4) sc__law_alike.nd rfl (by first | exact Or.inl rfl | exact Or.inr rfl) (pe_c c_depths hr (by decide) (by rfl) (pa_cons (pv 0) (pa_cons (pv 3) pa_nil))))
      (pss_cons (ps_set (i := 5) sc__law_alike.nd rfl (by first | exact Or.inl rfl | exact Or.inr rfl) (pe_c c_depths hr (by decide) (by rfl) (pa_cons (pv 1) (pa_cons (pv 3) pa_nil))))
      (pss_cons (ps_for PassesOwn.never rfl (pi_range1 (by rfl) T.b_range (pa_cons (pe_callB call_len_seq (by rfl) T.b_len (by decide +kernel) (pa_cons (pv 2) pa_nil)) pa_nil)) (pg_name (i := 6) sc__law_alike.nd rfl (by first | exact Or.inl rfl | exact Or.inr rfl))
        (pss_cons (ps_set (i := 7) sc__law_alike.nd rfl (by first | exact Or.inl rfl | exact Or.inr rfl) (pe_bm PySem.F.plainAttrs_list PySem.F.slot_list_index PySem.F.type_list_index mt_index (pv 2) (pa_cons (pv 6) pa_nil)))
      (pss_cons (ps_if (pt_cmpR op_ne (pe_ix ix_tup (pv 4) (pv 6) (fun _ _ => rfl)) (pe_ix ix_tup (pv 5) (pv 7) (fun _ _ => rfl)) (nomark _)) (pss_one (ps_ret pe_bl)) pss_nil)
      (pss_one (ps_if (pt_cmpR op_ge (pv 6) (pe_ix ix_tup (pv 0) pe_int (fun _ _ => rfl)) (nomark _)) (pss_cons (ps_set (i := 8) sc__law_alike.nd rfl (by first | exact Or.inl rfl | exact Or.inr rfl) (pe_c c__law_called hr (by decide) (by rfl) (pa_cons (pe_c c_cuts_of hr (by decide) (by rfl) (pa_cons (pv 0) (pa_cons (pv 6) (pa_cons (pv 3) pa_nil)))) (pa_cons (pv 2) pa_nil))))
      (pss_one (ps_if (pt_cmpR (op_neD hr.units) (pe_c c_cuts_of hr (by decide) (by rfl) (pa_cons (pv 1) (pa_cons (pv 7) (pa_cons (pv 3) pa_nil)))) (pv 8) (nomark _)) (pss_one (ps_ret pe_bl)) pss_nil))) pss_nil)))))
      (pss_cons (ps_set (i := 9) sc__law_alike.nd rfl (by first | exact Or.inl rfl | exact Or.inr rfl) (pe_callB (cr_max rfl) (by rfl) T.b_max (by decide +kernel) (pa_cons (pe_lc (own := [("_law_wire", 6)]) (g := gName 6) (tt := tYes) rfl sc__law_alike.nd (pi_tup (pe_ix ix_tup (pv 0) pe_int (fun _ _ => rfl))) (blkOk_by (own := [("_law_wire", 6)]) (N := ["_law_net_here", "_law_other", "_law_order_here", "_law_k", "_law_deep", "_law_there", "_law_wire", "_law_spot", "_law_due", "_law_least", "_law_depth"]) (sc := defScope s__law_alike) (by decide +kernel)) (fun _ _ _ _ _ => (pg_name (i := 6) sc__law_alike.nd rfl (by first | exact Or.inl rfl | exact Or.inr rfl))) (fun _ _ _ _ _ => pts_nil) (fun _ _ _ _ _ => (pe_ix (ix_tupK (K := K)) (pv 4) (pv 6) (fun _ _ => rfl)))) pa_nil)))
      (pss_cons (ps_for PassesOwn.never rfl (pi_tup (pe_tup (pa_cons (pv 9) (pa_cons (pe_op op_add (pv 9) pe_int) pa_nil)))) (pg_name (i := 10) sc__law_alike.nd rfl (by first | exact Or.inl rfl | exact Or.inr rfl))
        (pss_one (ps_if (pt_cmpR op_ne (pe_callB call_len_seq (by rfl) T.b_len (by decide +kernel) (pa_cons (pe_ix ix_tup (pe_cX c_fewest takes0 hr (by decide) (by rfl) (pa_cons (pv 0) (pa_cons (pv 3) (pa_cons (pv 10) pa_nil)))) pe_int (fun _ _ => rfl)) pa_nil)) (pe_callB call_len_seq (by rfl) T.b_len (by decide +kernel) (pa_cons (pe_ix ix_tup (pe_cX c_fewest takes0 hr (by decide) (by rfl) (pa_cons (pv 1) (pa_cons (pv 3) (pa_cons (pv 10) pa_nil)))) pe_int (fun _ _ => rfl)) pa_nil)) (nomark _)) (pss_one (ps_ret pe_bl)) pss_nil)))
      (pss_one (ps_ret pe_bl))))))), ?_⟩
    clear hr
    have eW : n'.many + n'.gates.length = n.many + n.gates.length := by rw [R.many, R.gl]
    have ol := ord.len
    have g6' : n'.gates.length ≤ 6 := by rw [R.gl]; exact g6
    refine ⟨_, rfl, _, rfl, a, n, g, o, ps, k, rfl, N, ok, hk2, by omega, tb, fun r1 H1 ds a1 hr1 dl dt => ?_⟩
    refine ⟨_, rfl, _, rfl, a', n', g', o', ps', k, rfl, N'.aft tb a1, ok', hk2, by omega, a1.tb, fun r2 H2 ds' a2 hr2 dl' dt' => ?_⟩
    have a12 := a1.trans a2
    have hr12 := a2.tup a1.tb hr1
    have hl2 := a12.lst tb hl
    have N2 := N.aft tb a12
    have N2' := N'.aft tb a12
    have tb2 := a12.tb
    have dren := deps_ren ok ok' R dl dt dl' dt'
    have hcof : ∀ x, x < n.many + n.gates.length → CutsAre n k x (cofX n k x) := fun x _ => cofX_ok ok k x
    have hcof' : ∀ x, x < n'.many + n'.gates.length → CutsAre n' k x (cofX n' k x) := fun x _ => cofX_ok ok' k x
    refine ⟨_, rfl, l, _, rfl, .inl (SqL.of hl2), _, rfl, by rw [List.length_map]; omega, by rw [List.length_map]; omega, ?_⟩
    refine for_range (lo := 0) (n := (((od.map nV).length : Nat) : Int).toNat) (fun i σ H' => ∃ (x6 x7 x8 : Option V), σ = [some (.ref a), some (.ref a'), some (.ref l), some (nV k), some (.ref r1), some (.ref r2), x6, x7, x8, none, none] ∧ Aft Ts H2 H') ⟨_, _, _, rfl, Aft.refl tb2⟩ ?_ ?_
    · rintro i σ H3 hi ⟨x6, x7, x8, rfl, a3⟩
      have hi : i < n.many + n.gates.length := by
        rw [Int.toNat_natCast, List.length_map] at hi
        omega
      have ei : V.int (0 + ((i : Nat) : Int)) = nV i := congrArg V.int (Int.zero_add _)
      rw [ei]
      have hl3 := a3.lst tb2 hl2
      have hp := R.pl i hi
      refine ⟨_, rfl, .inl ⟨rfl, _, SqL.of hl3⟩, _, rfl, ?_⟩
      obtain ⟨i1, i2, i3⟩ := ix_nat (ord.all hi)
      refine ⟨l, _, _, _, _, rfl, rfl, SqL.of hl3, rfl, flat_ns od, i1, i2, i3, ?_⟩
      have h13 := a3.tup tb2 hr12
      have h23 := a3.tup tb2 hr2
      refine ⟨_, rfl, _, rfl, r1, _, _, _, rfl, rfl, SqT.of h13, atI_nat (natAt (by omega)), _, rfl, _, rfl, r2, _, _, _, rfl, rfl, SqT.of h23, atI_nat (natAt (by rw [dl', eW]; exact hp.1)), rfl, _, rfl, ?_⟩
      have ed : nV (ds.getD i 0) = nV (ds'.getD (od.idxOf i) 0) := by rw [dren i hi]
      rw [decide_eq_true ed]
      refine iteF ?_
      have N3 := N2.aft tb2 a3
      refine ⟨_, rfl, _, rfl, a, _, 0, _, rfl, rfl, SqT.of N3.top, at0, _, _, rfl, rfl, _, rfl, ite2 (fun h => ?_) (fun h => ⟨_, _, _, rfl, a3⟩)⟩
      refine ⟨_, rfl, _, rfl, _, rfl, a, n, g, o, ps, i, k, rfl, N3, ok, hi, by omega, by omega, a3.tb, fun c1 H4 us cs a4 hc1 tU hcs csl => ?_⟩
      have a34 := a3.trans a4
      have hl4 := a34.lst tb2 hl2
      refine ⟨_, rfl, c1, l, us, cs, od, rfl, hc1, tU, hl4, fun c hc => ?_, ord.nd, csl, by omega, fun c2 rs es H5 s5 hc2 tR dpm dsrt => ?_⟩
      · have lc := (hcs.mem c).mp hc
        exact ⟨(lc_ok ok lc hi).ne, lc.rise, fun x hx => ord.all (Nat.lt_trans (lc.lt x hx) hi)⟩
      have a35 := a34.trans (Aft.ofSame a34.tb s5)
      refine ⟨_, rfl, _, rfl, _, rfl, a', n', g', o', ps', od.idxOf i, k, rfl, N2'.aft tb2 a35, ok', by rw [eW]; exact hp.1, by omega, by omega, a35.tb, fun c3 H6 us' cs' a6 hc3 tU' hcs' csl' => ?_⟩
      have e := cuts_ren ok ok' R hi hcs hcs' dpm dsrt
      subst e
      have a36 := a35.trans a6
      have tR6 := tR.mono fun b xs e => a6.tup a35.tb e
      refine ⟨_, rfl, .tuple (tupsD es), .tuple (tupsD es), .tup (SqT.of hc3) (dpTups tU'), .tup (SqT.of (a6.tup a35.tb hc2)) (dpTups tR6), tupsD_shaped _, tupsD_shaped _, _, rfl, ?_⟩
      rw [tupsD_eq]
      exact iteF ⟨_, _, _, rfl, a36⟩
    · rintro σ H3 ⟨x6, x7, x8, rfl, a3⟩
      have N3 := N2.aft tb2 a3
      have h13 := a3.tup tb2 hr12
      obtain ⟨m, hm⟩ : ∃ m : Int, MaxO n ds m := by
        refine ⟨((maxL (n.outs.map fun x => ds.getD x 0) : Nat) : Int), List.mem_map.mpr ⟨_, maxL_mem (by rw [List.length_map]; exact ok.o1), rfl⟩, fun x hx => ?_⟩
        obtain ⟨y, hy, rfl⟩ := List.mem_map.mp hx
        exact Int.ofNat_le.mpr (le_maxL hy)
      have hm' := maxo_ren ok ok' R dl dt dl' dt' hm
      refine ⟨_, rfl, a, _, 2, _, rfl, rfl, SqT.of N3.top, at2, o, rfl, ⟨_, SqT.of N3.ot⟩, fun M nM => ?_⟩
      refine lc_tup (K := K) (a := o) (xs := n.outs.map nV) (fun i H' => Own H3 H' M (((n.outs.take i).map fun x => ds.getD x 0).map nV)) ⟨Same.new nM, upd_same, nM⟩ (fun k H' _ o' => SqT.of (o'.sm _ _ N3.ot)) ?_ ?_
      · rintro j x H10 hx o10
        have hj : j < n.outs.length := by
          have := (List.getElem?_eq_some_iff.mp hx).1
          rwa [List.length_map] at this
        rw [natAt hj] at hx
        cases hx
        have hlt : n.outs.getD j 0 < ds.length := by rw [dl]; exact ok.os _ (getD_mem hj)
        refine ⟨rfl, ?_⟩
        unfold tYes
        refine iteT ?_
        refine ⟨_, rfl, _, rfl, r1, _, _, _, rfl, rfl, SqT.of (o10.sm _ _ h13), atI_nat (natAt hlt), _, o10.at_, by rw [List.length_map, List.length_map, List.length_take]; exact small256 (by omega), ?_⟩
        have : n.outs.getD j 0 = n.outs[j] := by rw [List.getD_eq_getElem?_getD, List.getElem?_eq_getElem hj]; rfl
        rw [List.take_add_one, List.getElem?_eq_getElem hj, Option.toList_some, List.map_append, List.map_append, this]
        exact o10.app
      rintro H4 o4
      rw [List.length_map, List.take_length] at o4
      refine ⟨M, (n.outs.map fun x => ds.getD x 0).map (fun n : Nat => (n : Int)), rfl, (by rw [mapV]; exact SqL.of o4.at_), by rw [List.length_map, List.length_map]; exact ok.o1, fun m0 hm0 hbm0 => ?_⟩
      obtain rfl : m = m0 := hm.uniq ⟨hm0, hbm0⟩
      have a24 := a3.trans (Aft.ofSame a3.tb o4.sm)
      refine ⟨_, rfl, _, rfl, _, _, rfl, rfl, small 2, fun kp nkp => ?_⟩
      have a25 := a24.trans (Aft.new (o := .tup [V.int m, V.int (m + 1)]) a24.tb nkp)
      have hkp : upd H4 kp (.tup [V.int m, V.int (m + 1)]) kp = some (.tup [V.int m, V.int (m + 1)]) := upd_same
      generalize upd H4 kp (.tup [V.int m, V.int (m + 1)]) = H5 at a25 hkp ⊢
      have tb5 := a25.tb
      refine ⟨kp, rfl, ⟨_, SqT.of hkp⟩, ?_⟩
      have S := R.symm ok
      refine for_tup (K := K) (a := kp) (xs := [V.int m, V.int (m + 1)]) (fun i σ H' => ∃ (x10 : Option V), σ = [some (.ref a), some (.ref a'), some (.ref l), some (nV k), some (.ref r1), some (.ref r2), x6, x7, x8, some (.int m), x10] ∧ Aft Ts H5 H') ⟨_, rfl, Aft.refl tb5⟩ ?_ ?_ ?_
      · rintro i σ H' _ ⟨_, _, a'⟩
        exact SqT.of (a'.tup tb5 hkp)
      · rintro i x σ H6 hx ⟨x10, rfl, a6⟩
        obtain ⟨dep, rfl, hd⟩ : ∃ dep : Int, x = V.int dep ∧ m ≤ dep := by
          have hi := (List.getElem?_eq_some_iff.mp hx).1
          rcases (show i = 0 ∨ i = 1 by have : i < 2 := hi; omega) with rfl | rfl
          · exact ⟨m, (Option.some.inj hx).symm, Int.le_refl _⟩
          · exact ⟨m + 1, (Option.some.inj hx).symm, by omega⟩
        obtain ⟨T1, _, _, f1, f2⟩ := out_has ok dl dt hcof (ev_ok n k) hm hd
        obtain ⟨T2, _, _, f3, f4⟩ := out_has ok' dl' dt' hcof' (ev_ok n' k) hm' hd
        have eT : T1.length = T2.length := by
          rw [f1, f3]
          exact Nat.le_antisymm (few_ren ok' ok S dl' dt' hcof' dl dt hcof hm' hd) (few_ren ok ok' R dl dt hcof dl' dt' hcof' hm hd)
        have a26 := a25.trans a6
        refine ⟨_, rfl, _, rfl, _, rfl, a, n, g, o, ps, k, dep, cofX n k, rfl, N2.aft tb2 a26, ok, hk2, by omega, hcof, a26.tb, fun h6 => absurd h6 (by omega), fun es m' dle dte hme h6 hd' => ?_, fun es m' dle dte hme h6 hd' fp H7 tp pp a7 hfp cv => ?_⟩
        · obtain rfl : ds = es := deps_uniq ok dt dte dl dle
          obtain rfl := hm.uniq hme
          exact absurd hd' (by omega)
        obtain rfl : ds = es := deps_uniq ok dt dte dl dle
        obtain ⟨tps, cva⟩ := cv
        refine ⟨fp, _, 0, _, rfl, rfl, SqT.of hfp, at0, tp, _, rfl, .inr (SqT.of cva.top), ?_⟩
        have a27 := a26.trans a7
        refine ⟨_, rfl, _, rfl, _, rfl, a', n', g', o', ps', k, dep, cofX n' k, rfl, N2'.aft tb2 a27, ok', hk2, by omega, hcof', a27.tb, fun h6 => absurd h6 (by omega), fun es m' dle dte hme h6 hd' => ?_, fun es m' dle dte hme h6 hd' fp' H8 tp' pp' a8 hfp' cv' => ?_⟩
        · obtain rfl : ds' = es := deps_uniq ok' dt' dte dl' dle
          obtain rfl := hm'.uniq hme
          exact absurd hd' (by omega)
        obtain rfl : ds' = es := deps_uniq ok' dt' dte dl' dle
        obtain ⟨tps', cva'⟩ := cv'
        refine ⟨fp', _, 0, _, rfl, rfl, SqT.of hfp', at0, tp', _, rfl, .inr (SqT.of cva'.top), rfl, _, rfl, ?_⟩
        have e1 : (tps.map V.ref).length = T1.length := by rw [List.length_map, cva.ts.1, List.length_reverse, ← f2]
        have e2 : (tps'.map V.ref).length = T2.length := by rw [List.length_map, cva'.ts.1, List.length_reverse, ← f4]
        have ee : V.int (((tps.map V.ref).length : Nat) : Int) = V.int (((tps'.map V.ref).length : Nat) : Int) := by rw [e1, e2, eT]
        rw [decide_eq_true ee]
        exact iteF ⟨_, rfl, (a6.trans a7).trans a8⟩
      · rintro σ H6 ⟨x10, rfl, a6⟩
        exact q H6 ((a12.trans a25).trans a6)
end
end K87
set_option Elab.async false
set_option linter.all false
set_option maxRecDepth 100000
set_option maxHeartbeats 4000000
namespace K87
open PySem PySem.Spec PyProof.Rows L2 GX
open C8 (Cal pe_c pe_gc Met Mak)
-- @exc NoDepth init=least
-- @sub NoDepth NoDepth true
-- @exc TooMany made
-- @alt cut_masks tup par=N,t[i],i vars=masks:DL,wire:i
section
variable {P : Program} {w : World} {K : PySem.W.Frag} {mg : Str → Option Value} {base : Heap}
def spGw : Sp := fun vs H Q _ => ∃ k a b : Nat, vs = [nV k, nV a, nV b] ∧ Q (nV (gw k a b)) H
theorem ok_gw {f c : Addr} (D : Dfn K mg "gate_worth" s_gate_worth f c) : Cal P w K mg base 1 "gate_worth" spGw [] := by
  refine cal D (fun _ _ _ _ _ _ us hl => match us, hl with | [_, _, _], _ => rfl) sc_gate_worth (fun vs H Q E h => ?_) (fun A outer s H vs Q E hr h => ?_)
  · obtain ⟨k, a, b, rfl, _⟩ := h
    rfl
  · obtain ⟨k, a, b, rfl, q⟩ := h
    refine ⟨_, (pss_one (ps_ret (pe_op op_and (pe_op op_shr (pv 0) (pe_op op_add (pv 1) (pe_op op_mul pe_int (pv 2)))) pe_int))), ?_⟩
    refine ⟨_, rfl, _, rfl, _, rfl, _, _, rfl, rfl, .inl (by omega), _, _, rfl, rfl, _, _, rfl, rfl, by omega, _, _, rfl, rfl, ?_⟩
    dsimp -proj only
    rw [show ((a : Nat) : Int) + 2 * ((b : Nat) : Int) = ((a + 2 * b : Nat) : Int) by omega, bit_of]
    exact q
end
section
variable {P : Program} {w : World} {K : PySem.W.Frag} {mg : Str → Option Value} {base : Heap} {Ts : List Addr}
def spWorths : Sp := fun vs H Q _ => ∃ (a : Addr) (n : Net) (g o : Addr) (ps : List Addr) (ra : Addr) (row : List Nat), vs = [.ref a, .ref ra] ∧ NetAt H a n g o ps ∧ n.Ok ∧ H ra = some (.tup (row.map nV)) ∧ row.length = n.many ∧ (∀ x ∈ row, x < 2) ∧ ∀ p H', Same H H' → H' p = some (.tup ((wOf n.gates row).map nV)) → Q (.ref p) H'
theorem ok_worths {f c : Addr} (D : Dfn K mg "worths" s_worths f c) (T : Txt mg) (c_gate_worth : Cal P w K mg base 1 "gate_worth" spGw []) : Cal P w K mg base 2 "worths" spWorths [] := by
  refine cal D (fun _ _ _ _ _ _ us hl => match us, hl with | [_, _], _ => rfl) sc_worths (fun vs H Q E h => ?_) (fun A outer s H vs Q E hr h => ?_)
  · obtain ⟨a, n, g, o, ps, ra, row, rfl, _⟩ := h
    rfl
  · obtain ⟨a, n, g, o, ps, ra, row, rfl, N, ok, hra, hl, hlt, q⟩ := h
    refine ⟨_, (pss_cons (ps_set (i := 2) sc_worths.nd rfl (by first | exact Or.inl rfl | exact Or.inr rfl) (pe_callTy call_list_of (by rfl) T.b_list (by decide +kernel) (pa_cons (pv 1) pa_nil)))
      (pss_cons (ps_for PassesOwn.never rfl (pi_tup (pe_ix ix_tup (pv 0) pe_int (fun _ _ => rfl))) (pg_tup rfl (pgs_cons (pg_name (i := 3) sc_worths.nd rfl (by first | exact Or.inl rfl | exact Or.inr rfl)) (pgs_cons (pg_name (i := 4) sc_worths.nd rfl (by first | exact Or.inl rfl | exact Or.inr rfl)) (pgs_cons (pg_name (i := 5) sc_worths.nd rfl (by first | exact Or.inl rfl | exact Or.inr rfl)) pgs_nil))))
        (pss_one (ps_expr (pe_bm PySem.F.plainAttrs_list PySem.F.slot_list_append PySem.F.type_list_append mt_append (pv 2) (pa_cons (pe_c c_gate_worth hr (by decide) (by rfl) (pa_cons (pv 3) (pa_cons (pe_ix ix_list (pv 2) (pv 4) (fun _ _ => rfl)) (pa_cons (pe_ix ix_list (pv 2) (pv 5) (fun _ _ => rfl)) pa_nil)))) pa_nil)))))
      (pss_one (ps_ret (pe_callTy call_tuple_of (by rfl) T.b_tuple (by decide +kernel) (pa_cons (pv 2) pa_nil)))))), ?_⟩
    refine ⟨_, rfl, ra, _, rfl, .inr (SqT.of hra), fun l nl => ?_⟩
    have e1 := Same.new (o := .lst (row.map nV)) nl
    have N1 := N.same e1
    refine ⟨_, rfl, a, _, 1, _, rfl, rfl, SqT.of N1.top, at1, g, rfl, ⟨_, SqT.of N1.gt⟩, ?_⟩
    refine for_tup (K := K) (a := g) (xs := ps.map V.ref) (fun i σ H' => ∃ x3 x4 x5, σ = [some (.ref a), some (.ref ra), some (.ref l), x3, x4, x5] ∧ Own H H' l ((wOf (n.gates.take i) row).map nV)) ⟨none, none, none, rfl, e1, upd_same, nl⟩ ?_ ?_ ?_
    · rintro i σ H2 hi ⟨_, _, _, _, ow⟩
      exact SqT.of (N.same ow.sm).gt
    · rintro i x σ H2 hx ⟨x3, x4, x5, rfl, ow⟩
      have hil : i < ps.length := by
        have := (List.getElem?_eq_some_iff.mp hx).1
        rwa [List.length_map] at this
      have hx' : V.ref ps[i] = x := by
        rw [List.getElem?_map, List.getElem?_eq_getElem hil] at hx
        exact Option.some.inj hx
      subst hx'
      have N2 := N.same ow.sm
      obtain ⟨gt, hgt, hat⟩ := gateOk.at N2.gs (List.getElem?_eq_getElem hil)
      obtain ⟨_, ho1, ho2⟩ := ok.gs i gt hgt
      have hig : i ≤ n.gates.length := Nat.le_of_lt (List.getElem?_eq_some_iff.mp hgt).1
      have hlen : (wOf (n.gates.take i) row).length = n.many + i := by
        rw [wOf_len, hl, List.length_take, Nat.min_eq_left hig]
      refine ⟨ps[i], _, rfl, SqT.of hat, rfl, _, _, rfl, _, _, rfl, _, _, rfl, rfl, ?_⟩
      refine ⟨_, rfl, .inl ⟨rfl, _, SqL.of ow.at_⟩, _, rfl, _, rfl, _, rfl, l, _, _, _, rfl, rfl, SqL.of ow.at_, atI_nat (natAt (by omega)), _, rfl, _, rfl, l, _, _, _, rfl, rfl, SqL.of ow.at_, atI_nat (natAt (by omega)), _, _, _, rfl, l, _, _, rfl, rfl, ow.at_, ?_, ?_⟩
      · rw [List.length_map, hlen]
        have := ok.m8
        have := ok.g16
        exact small256 (by omega)
      · refine ⟨_, _, _, rfl, ?_⟩
        rw [wOf_take hgt]
        unfold wstep
        rw [List.map_append]
        exact ow.app
    · rintro σ H2 ⟨x3, x4, x5, rfl, ow⟩
      have e : n.gates.take (ps.map V.ref).length = n.gates := by
        rw [List.length_map, N.gs.1, List.take_length]
      rw [e] at ow
      refine ⟨_, rfl, l, _, rfl, .inl ⟨SqL.of ow.at_, fun p np => ?_⟩⟩
      refine q p _ (ow.sm.trans (Same.new np)) upd_same
def spOutsAt (Ts : List Addr) : Sp := fun vs H Q _ => ∃ (a : Addr) (n : Net) (g o : Addr) (ps : List Addr) (ra : Addr) (row : List Nat), vs = [.ref a, .ref ra] ∧ NetAt H a n g o ps ∧ n.Ok ∧ H ra = some (.tup (row.map nV)) ∧ row.length = n.many ∧ (∀ x ∈ row, x < 2) ∧ Tabs Ts H ∧ ∀ p H', Aft Ts H H' → H' p = some (.tup ((n.outs.map fun j => (wOf n.gates row).getD j 0).map nV)) → Q (.ref p) H'
theorem ok_outsat {f c PO : Addr} (D : Dfn K mg "outs_at" s_outs_at f c) (T : Txt mg) (c_worths : Cal P w K mg base 2 "worths" spWorths []) (TB_outs_at : GxR.TabB base mg c PO) (hP : PO ∈ Ts) : Cal P w K mg base 3 "outs_at" (spOutsAt Ts) [] := by
  refine cal D (fun _ _ _ _ _ _ us hl => match us, hl with | [_, _], _ => rfl) sc_outs_at (fun vs H Q E h => ?_) (fun A outer s H vs Q E hr h => ?_)
  · obtain ⟨a, n, g, o, ps, ra, row, rfl, _⟩ := h
    rfl
  · obtain ⟨a, n, g, o, ps, ra, row, rfl, N, ok, hra, hl, hlt, tb, q⟩ := h
    refine ⟨_, (pss_cons (ps_set (i := 2) sc_outs_at.nd rfl (by first | exact Or.inl rfl | exact Or.inr rfl) (pe_c c_worths hr (by decide) (by rfl) (pa_cons (pv 0) (pa_cons (pv 1) pa_nil))))
      (pss_one (ps_ret (pe_tupG (own := [("out", 3)]) hr (by rfl) T.b_tuple TB_outs_at rfl (gxOk_by (N := ["net", "row", "told", "out"]) (sc := defScope s_outs_at) (own := [("out", 3)]) (by decide +kernel)) sc_outs_at.nd (pi_tup (pe_ix ix_tup (pv 0) pe_int (fun _ _ => rfl))) (fun _ _ _ _ => (pg_name (i := 3) sc_outs_at.nd rfl (by first | exact Or.inl rfl | exact Or.inr rfl))) (fun _ _ _ _ => pts_nil) (fun _ _ _ _ => (pe_ix (ix_tupK (K := K)) (pv 2) (pv 3) (fun _ _ => rfl))))))), ?_⟩
    refine ⟨_, rfl, _, rfl, a, n, g, o, ps, ra, row, rfl, N, ok, hra, hl, hlt, fun t H1 s1 ht => ?_⟩
    have N1 := N.same s1
    have tb1 := Tabs.same tb s1
    refine ⟨_, rfl, a, _, 2, _, rfl, rfl, SqT.of N1.top, at2, o, rfl, ⟨_, SqT.of N1.ot⟩, tb1 PO hP, fun H2 hT => ?_⟩
    have a2 : Aft Ts H H2 := (Aft.ofSame tb s1).trans ⟨Keep.tabbed hP hT, tb1.tabbed hT⟩
    have tn : t ∉ Ts := tb1.tup ht
    have on : o ∉ Ts := tb1.tup N1.ot
    have k2 : Keep Ts H1 H2 := Keep.tabbed hP hT
    have ht2 := k2 _ _ ht tn
    have ho2 := k2 _ _ N1.ot on
    refine turns_it (walk_tup (xs := n.outs.map nV)) (fun i ys H' => ys = ((n.outs.take i).map fun j => (wOf n.gates row).getD j 0).map nV ∧ H' = H2) ⟨rfl, rfl⟩ (fun i ys H' _ hp => by rw [hp.2]; exact SqT.of ho2) ?_ ?_
    · rintro i x ys H3 H4 hi ⟨rfl, rfl⟩ ⟨rfl, hx⟩
      rw [List.length_map] at hi
      have hx' : nV n.outs[i] = x := by
        rw [List.getElem?_map, List.getElem?_eq_getElem hi] at hx
        exact Option.some.inj hx
      subst hx'
      have hb : n.outs[i] < (wOf n.gates row).length := by
        rw [wOf_len, hl]
        exact ok.os _ (List.getElem_mem hi)
      refine ⟨rfl, ?_⟩
      unfold tYes
      refine iteT ?_
      refine ⟨_, rfl, _, rfl, t, _, _, _, rfl, rfl, SqT.of ht2, atI_nat (natAt hb), ?_⟩
      refine ⟨?_, fun _ => ⟨?_, rfl⟩⟩
      · show (List.map nV _).length < sizeLine
        rw [List.length_map, List.length_map, List.length_take]
        have := ok.o8
        exact Nat.lt_of_le_of_lt (Nat.min_le_left _ _) (small256 (by omega))
      · rw [List.take_add_one, List.getElem?_eq_getElem hi, List.map_append, List.map_append]
        rfl
    · rintro ys H3 ⟨rfl, rfl⟩
      rw [List.length_map, List.take_length]
      refine ⟨?_, fun p hp => ?_⟩
      · rw [List.length_map, List.length_map]
        have := ok.o8
        exact small _ (by omega)
      · exact q p _ (a2.trans (Aft.new a2.tb hp)) upd_same
end
end K87
set_option Elab.async false
set_option linter.all false
set_option maxRecDepth 100000
set_option maxHeartbeats 4000000
namespace K87
open PySem PySem.Spec PyProof.Rows L2 GX
open C8 (Cal pe_c pe_gc Met Mak)
-- @exc NoDepth init=least
-- @sub NoDepth NoDepth true
-- @exc TooMany made
-- @alt cut_masks tup par=N,t[i],i vars=masks:DL,wire:i
section
variable {P : Program} {w : World} {K : PySem.W.Frag} {mg : Str → Option Value} {base : Heap} {Ts : List Addr}
theorem dk_tup {W : Addr} {Ts : List Addr} {H H' : Hp} (d : Dk W Ts H H') (hw : Wl H W) (t : Tabs Ts H) {b : Addr} {xs : List V} (e : H b = some (.tup xs)) : H' b = some (.tup xs) := d.kp b _ e fun z => by
  rcases List.mem_cons.mp z with z | z
  · obtain ⟨_, _, _, h⟩ := hw
    rw [z, h] at e
    cases e
  · exact t.tup e z
theorem dk_lst {W : Addr} {Ts : List Addr} {H H' : Hp} (d : Dk W Ts H H') (t : Tabs Ts H) {b : Addr} {xs : List V} (n : b ≠ W) (e : H b = some (.lst xs)) : H' b = some (.lst xs) := d.kp b _ e fun z => by
  rcases List.mem_cons.mp z with z | z
  · exact n z
  · exact t.lst e z
def spRowsA (Ts : List Addr) : Sp := fun vs H Q _ => ∃ (W a a' l : Addr) (n n' : Net) (g o g' o' : Addr) (ps ps' : List Addr) (od : List Nat), vs = [.ref W, .ref a, .ref a', .ref l] ∧ Wl H W ∧ NetAt H a n g o ps ∧ NetAt H a' n' g' o' ps' ∧ n.Ok ∧ n'.Ok ∧ Ren n n' (fun x => od.idxOf x) (fun i => od.getD i 0) ∧ OrdOk n od ∧ H l = some (.lst (od.map nV)) ∧ l ≠ W ∧ Tabs Ts H ∧
  ∀ H', Dk W Ts H H' → Q (.bl true) H'
theorem ok_rowsa {f c : Addr} (D : Dfn K mg "_law_rows_alike" s__law_rows_alike f c) (T : Txt mg) (c__law_take : Cal P w K mg base 1 "_law_take" spTake []) (c_outs_at : Cal P w K mg base 3 "outs_at" (spOutsAt Ts) []) : Cal P w K mg base 6 "_law_rows_alike" (spRowsA Ts) [] := by
  refine cal D (fun _ _ _ _ _ _ us hl => match us, hl with | [_, _, _, _], _ => rfl) sc__law_rows_alike (fun vs H Q E h => ?_) (fun A outer s H vs Q E hr h => ?_)
  · obtain ⟨W, a, a', l, n, n', g, o, g', o', ps, ps', od, rfl, _⟩ := h
    rfl
  · obtain ⟨W, a, a', l, n, n', g, o, g', o', ps, ps', od, rfl, hW, N, N', ok, ok', R, ord, hl, lW, tb, q⟩ := h
    have m1 := ok.m1
    have m8 := ok.m8
    have o8 := ok.o8
    have ol := ord.len
    refine ⟨_, (pss_cons (ps_for PassesOwn.never rfl (pi_range1 (by rfl) T.b_range (pa_cons pe_int pa_nil)) (pg_name (i := 4) sc__law_rows_alike.nd rfl (by first | exact Or.inl rfl | exact Or.inr rfl))
        (pss_cons (ps_set (i := 5) sc__law_rows_alike.nd rfl (by first | exact Or.inl rfl | exact Or.inr rfl) (pe_lc (own := [("_law_place_here", 6)]) (g := gName 6) (tt := tYes) rfl sc__law_rows_alike.nd (pi_range1 (by rfl) T.b_range (pa_cons (pe_ix ix_tup (pv 1) pe_int (fun _ _ => rfl)) pa_nil)) (blkOk_by (own := [("_law_place_here", 6)]) (N := ["_law_well_here", "_law_net_here", "_law_other", "_law_order_here", "_law_turn", "_law_row", "_law_place_here", "_law_turned_here"]) (sc := defScope s__law_rows_alike) (by decide +kernel)) (fun _ _ _ _ _ => (pg_name (i := 6) sc__law_rows_alike.nd rfl (by first | exact Or.inl rfl | exact Or.inr rfl))) (fun _ _ _ _ _ => pts_nil) (fun _ _ _ _ _ => (pe_c c__law_take hr (by decide) (by rfl) (pa_cons (pv 0) (pa_cons pe_int pa_nil))))))
      (pss_cons (ps_set (i := 7) sc__law_rows_alike.nd rfl (by first | exact Or.inl rfl | exact Or.inr rfl) (pe_callTy call_tuple_of (by rfl) T.b_tuple (by decide +kernel) (pa_cons (pe_lc (own := [("_law_place_here", 6)]) (g := gName 6) (tt := tYes) rfl sc__law_rows_alike.nd (pi_range1 (by rfl) T.b_range (pa_cons (pe_ix ix_tup (pv 1) pe_int (fun _ _ => rfl)) pa_nil)) (blkOk_by (own := [("_law_place_here", 6)]) (N := ["_law_well_here", "_law_net_here", "_law_other", "_law_order_here", "_law_turn", "_law_row", "_law_place_here", "_law_turned_here"]) (sc := defScope s__law_rows_alike) (by decide +kernel)) (fun _ _ _ _ _ => (pg_name (i := 6) sc__law_rows_alike.nd rfl (by first | exact Or.inl rfl | exact Or.inr rfl))) (fun _ _ _ _ _ => pts_nil) (fun _ _ _ _ _ => (pe_ix (ix_listK (K := K)) (pv 5) (pe_ix (ix_listK (K := K)) (pv 3) (pv 6) (fun _ _ => rfl)) (fun _ _ => rfl)))) pa_nil)))
      (pss_one (ps_if (pt_cmpR (op_neD hr.units) (pe_c c_outs_at hr (by decide) (by rfl) (pa_cons (pv 1) (pa_cons (pe_callTy call_tuple_of (by rfl) T.b_tuple (by decide +kernel) (pa_cons (pv 5) pa_nil)) pa_nil))) (pe_c c_outs_at hr (by decide) (by rfl) (pa_cons (pv 2) (pa_cons (pv 7) pa_nil))) (nomark _)) (pss_one (ps_ret pe_bl)) pss_nil)))))
      (pss_one (ps_ret pe_bl))), ?_⟩
    clear hr
    refine ⟨_, rfl, by decide, by decide, ?_⟩
    refine for_range (lo := 0) (n := (8 : Int).toNat) (fun i σ H' => ∃ (x4 x5 x6 x7 : Option V), σ = [some (.ref W), some (.ref a), some (.ref a'), some (.ref l), x4, x5, x6, x7] ∧ Dk W Ts H H') ⟨_, _, _, _, rfl, ⟨hW, tb, Keep.refl⟩⟩ ?_ ?_
    · rintro i σ H1 hi ⟨x4, x5, x6, x7, rfl, d1⟩
      have N1 := N.mono fun b xs e => dk_tup d1 hW tb e
      have N1' := N'.mono fun b xs e => dk_tup d1 hW tb e
      have hl1 := dk_lst d1 tb lW hl
      have tb1 := d1.tb
      have w1 := d1.wl
      refine ⟨_, rfl, a, _, 0, _, rfl, rfl, SqT.of N1.top, at0, _, rfl, by omega, by omega, fun M nM => ?_⟩
      obtain ⟨nM0, MW⟩ := d1.was nM
      refine lc_range (lo := 0) (n := (((n.many : Nat)) : Int).toNat) (fun j H' => ∃ bs : List Nat, Wk W H1 H' ∧ H' M = some (.lst (bs.map nV)) ∧ bs.length = j ∧ ∀ x ∈ bs, x < 2) ⟨[], ⟨w1.same (Same.new nM), Same.keep (Same.new nM)⟩, upd_same, rfl, fun x hx => by cases hx⟩ ?_ ?_
      · rintro j H2 hj ⟨bs, k2, hM2, bl, b2⟩
        rw [Int.toNat_natCast] at hj
        refine ⟨rfl, ?_⟩
        unfold tYes
        refine iteT ?_
        refine ⟨_, rfl, W, 2, rfl, k2.wl, by decide, by decide, fun d H3 d0 d2 w3 k3 => ?_⟩
        have hM3 := Wk.ats k3 MW hM2
        refine ⟨_, hM3, by rw [List.length_map]; exact small256 (by omega), bs ++ [d.toNat], ⟨?_, ?_⟩, ?_, by rw [List.length_append, bl]; rfl, fun x hx => ?_⟩
        · exact ((k2.nxt w3 k3).put' nM MW).wl
        · exact ((k2.nxt w3 k3).put' nM MW).kp
        · rw [upd_same, List.map_append]
          show _ = some (HO.lst (bs.map nV ++ [V.int ((d.toNat : Nat) : Int)]))
          rw [Int.toNat_of_nonneg d0]
        · rcases List.mem_append.mp hx with hx | hx
          · exact b2 x hx
          · rw [List.mem_singleton.mp hx]; omega
      rintro H2 ⟨bs, k2, hM2, bl, b2⟩
      rw [Int.toNat_natCast] at bl
      have d2 := d1.draw k2
      have hl2 := Wk.ats k2.kp lW hl1
      have N2 := N.mono fun b xs e => dk_tup d2 hW tb e
      refine ⟨_, rfl, a, _, 0, _, rfl, rfl, SqT.of N2.top, at0, _, rfl, by omega, by omega, fun M2 nM2 => ?_⟩
      refine lc_range (lo := 0) (n := (((n.many : Nat)) : Int).toNat) (fun j H' => Own H2 H' M2 (((List.range j).map fun i => bs.getD (od.getD i 0) 0).map nV)) ⟨Same.new nM2, upd_same, nM2⟩ ?_ ?_
      · rintro j H3 hj o3
        rw [Int.toNat_natCast] at hj
        refine ⟨rfl, ?_⟩
        unfold tYes
        refine iteT ?_
        have hl3 := o3.sm _ _ hl2
        have hM3 := o3.sm _ _ hM2
        have e0 : V.int (0 + ((j : Nat) : Int)) = nV j := congrArg V.int (Int.zero_add _)
        rw [e0]
        have hin := ord.ins j hj
        refine ⟨_, rfl, _, rfl, _, rfl, l, _, _, _, rfl, rfl, SqL.of hl3, atI_nat (natAt (by omega)), M, _, _, _, rfl, rfl, SqL.of hM3, atI_nat (natAt (by omega)), _, o3.at_, by rw [List.length_map, List.length_map, List.length_range]; exact small256 (by omega), ?_⟩
        rw [List.range_succ, List.map_append, List.map_append]
        exact o3.app
      rintro H3 o3
      rw [Int.toNat_natCast] at o3
      refine ⟨M2, _, rfl, .inl ⟨SqL.of o3.at_, fun tp ntp => ?_⟩⟩
      have s4 := Same.new (o := .tup (((List.range n.many).map fun i => bs.getD (od.getD i 0) 0).map nV)) ntp
      have htp : upd H3 tp (.tup (((List.range n.many).map fun i => bs.getD (od.getD i 0) 0).map nV)) tp = some (.tup (((List.range n.many).map fun i => bs.getD (od.getD i 0) 0).map nV)) := upd_same
      have s24 := o3.sm.trans s4
      generalize upd H3 tp (.tup (((List.range n.many).map fun i => bs.getD (od.getD i 0) 0).map nV)) = H4 at s24 htp ⊢
      have d4 := d2.same s24
      have hM4 := s24 _ _ hM2
      refine ⟨_, rfl, _, rfl, M, _, rfl, .inl ⟨SqL.of hM4, fun rp nrp => ?_⟩⟩
      have s5 := Same.new (o := .tup (bs.map nV)) nrp
      have hrp : upd H4 rp (.tup (bs.map nV)) rp = some (.tup (bs.map nV)) := upd_same
      have d5 := d4.same s5
      have htp5 := s5 _ _ htp
      generalize upd H4 rp (.tup (bs.map nV)) = H5 at d5 hrp htp5 ⊢
      have N5 := N.mono fun b xs e => dk_tup d5 hW tb e
      have N5' := N'.mono fun b xs e => dk_tup d5 hW tb e
      refine ⟨a, n, g, o, ps, rp, bs, rfl, N5, ok, hrp, bl, b2, d5.tb, fun p1 H6 a6 hp1 => ?_⟩
      have tl : ((List.range n.many).map fun i => bs.getD (od.getD i 0) 0).length = n.many := by rw [List.length_map, List.length_range]
      refine ⟨_, rfl, _, rfl, a', n', g', o', ps', tp, _, rfl, N5'.aft d5.tb a6, ok', a6.tup d5.tb htp5, by rw [tl, R.many], fun x hx => ?_, a6.tb, fun p2 H7 a7 hp2 => ?_⟩
      · obtain ⟨j, hj, rfl⟩ := List.mem_map.mp hx
        have := ord.ins j (List.mem_range.mp hj)
        exact b2 _ (getD_mem (by omega))
      have eo : n'.outs.map (fun j => (wOf n'.gates ((List.range n.many).map fun i => bs.getD (od.getD i 0) 0)).getD j 0) = n.outs.map fun j => (wOf n.gates bs).getD j 0 := by
        rw [R.outs, List.map_map]
        refine List.map_congr_left fun x hx => ?_
        refine w_ren ok ok' R bl b2 tl (fun i hi => ?_) x (ok.os x hx)
        rw [List.getD_eq_getElem?_getD, List.getElem?_map, List.getElem?_range hi]
        rfl
      rw [eo] at hp2
      refine ⟨.tuple (((n.outs.map fun j => (wOf n.gates bs).getD j 0).map fun n : Nat => (n : Int)).map PyData.int), .tuple (((n.outs.map fun j => (wOf n.gates bs).getD j 0).map fun n : Nat => (n : Int)).map PyData.int), .tup (SqT.of (a7.tup a6.tb hp1)) (dpNat K _ _), .tup (SqT.of hp2) (dpNat K _ _), PySem.W.ke_shaped_ints _, PySem.W.ke_shaped_ints _, _, rfl, ?_⟩
      have sh : SeqAt.shaped (.tuple (((n.outs.map fun j => (wOf n.gates bs).getD j 0).map fun n : Nat => (n : Int)).map PyData.int)) = true := PySem.W.ke_shaped_ints _
      have er : PyData.eqv (.tuple (((n.outs.map fun j => (wOf n.gates bs).getD j 0).map fun n : Nat => (n : Int)).map PyData.int)) (.tuple (((n.outs.map fun j => (wOf n.gates bs).getD j 0).map fun n : Nat => (n : Int)).map PyData.int)) = true := SeqAt.eqv_refl _ (SeqAt.canLay_of_shaped sh)
      rw [er]
      exact iteF ⟨_, _, _, _, rfl, (d5.aft a6).aft a7⟩
    · rintro σ H1 ⟨x4, x5, x6, x7, rfl, d1⟩
      exact q H1 d1
end
end K87
set_option Elab.async false
set_option linter.all false
set_option maxRecDepth 100000
set_option maxHeartbeats 4000000
namespace K87
open PySem PySem.Spec PyProof.Rows L2 GX
open C8 (Cal pe_c pe_gc Met Mak)
-- @exc NoDepth init=least
-- @sub NoDepth NoDepth true
-- @exc TooMany made
-- @alt cut_masks tup par=N,t[i],i vars=masks:DL,wire:i
section
variable {P : Program} {w : World} {K : PySem.W.Frag} {mg : Str → Option Value} {base : Heap} {Ts : List Addr}
def spWhole : Sp := fun vs H Q _ => ∃ v t, vs = [v] ∧ Rep H v t ∧ Q (.bl t.whole) H
theorem ok_whole {f c : Addr} (D : Dfn K mg "is_whole" s_is_whole f c) (T : Txt mg) : Cal P w K mg base 1 "is_whole" spWhole [] := by
  refine cal D (fun _ _ _ _ _ _ us hl => match us, hl with | [_], _ => rfl) sc_is_whole (fun vs H Q E h => ?_) (fun A outer s H vs Q E hr h => ?_)
  · obtain ⟨v, t, rfl, _⟩ := h
    rfl
  · obtain ⟨v, t, rfl, r, q⟩ := h
    refine ⟨_, (pss_one (ps_ret (pe_and (pe_callB call_isi (by rfl) T.b_isinstance (by decide +kernel) (pa_cons (pv 0) (pa_cons (pe_bltn (v := .ty "int") (by rfl) T.b_int (by decide +kernel) rfl) pa_nil))) (pe_one (pe_not (pe_callB call_isi (by rfl) T.b_isinstance (by decide +kernel) (pa_cons (pv 0) (pa_cons (pe_bltn (v := .ty "bool") (by rfl) T.b_bool (by decide +kernel) rfl) pa_nil)))))))), ?_⟩
    refine ⟨_, rfl, _, _, _, _, t.kInt, rfl, .ty "int", tyx r, kit_ty (kInt_ok t), _, rfl, ite2 (fun h1 => ?_) (fun h1 => ?_)⟩
    · refine ⟨_, rfl, _, _, _, _, t.kBool, rfl, .ty "bool", tyx r, kit_ty (kBool_ok t), _, rfl, ?_⟩
      have e : (!t.kBool) = t.whole := by cases t <;> first | rfl | cases h1
      rw [e]
      exact q
    · have e : t.whole = false := by cases t <;> first | rfl | exact absurd rfl h1
      rw [e] at q
      exact q
def spBelow : Sp := fun vs H Q _ => ∃ v t b, vs = [v, .int b] ∧ Rep H v t ∧ Q (.bl (t.isB b)) H
theorem ok_below {f c : Addr} (D : Dfn K mg "is_below" s_is_below f c) (c_is_whole : Cal P w K mg base 1 "is_whole" spWhole []) : Cal P w K mg base 2 "is_below" spBelow [] := by
  refine cal D (fun _ _ _ _ _ _ us hl => match us, hl with | [_, _], _ => rfl) sc_is_below (fun vs H Q E h => ?_) (fun A outer s H vs Q E hr h => ?_)
  · obtain ⟨v, t, b, rfl, _⟩ := h
    rfl
  · obtain ⟨v, t, b, rfl, r, q⟩ := h
    refine ⟨_, (pss_one (ps_ret (pe_and (pe_c c_is_whole hr (by decide) (by rfl) (pa_cons (pv 0) pa_nil)) (pe_one (pe_chain op_le op_lt pe_int (pv 0) (pv 1)))))), ?_⟩
    refine ⟨_, rfl, v, t, rfl, r, _, rfl, ite2 (fun h1 => ?_) (fun h1 => ?_)⟩
    · cases r with
      | int i =>
        refine ⟨_, rfl, _, _, rfl, rfl, _, rfl, ite2 (fun h2 => ?_) (fun h2 => ?_)⟩
        · refine ⟨_, rfl, _, _, rfl, rfl, ?_⟩
          have e : (Th.int i).isB b = decide (i < b) := by
            show (decide (0 ≤ i) && decide (i < b)) = decide (i < b)
            rw [h2, Bool.true_and]
          rw [e] at q
          exact q
        · have e : (Th.int i).isB b = false := by
            show (decide (0 ≤ i) && decide (i < b)) = false
            rw [Bool.eq_false_iff.mpr h2, Bool.false_and]
          rw [e] at q
          exact q
      | _ => cases h1
    · have e : t.isB b = false := by cases t <;> first | rfl | exact absurd rfl h1
      rw [e] at q
      exact q
def spMany : Sp := fun vs H Q _ => ∃ v t, vs = [v] ∧ Rep H v t ∧ Q (.bl t.many) H
theorem ok_many {f c : Addr} (D : Dfn K mg "is_many" s_is_many f c) (T : Txt mg) (c_is_whole : Cal P w K mg base 1 "is_whole" spWhole []) : Cal P w K mg base 2 "is_many" spMany [] := by
  refine cal D (fun _ _ _ _ _ _ us hl => match us, hl with | [_], _ => rfl) sc_is_many (fun vs H Q E h => ?_) (fun A outer s H vs Q E hr h => ?_)
  · obtain ⟨v, t, rfl, _⟩ := h
    rfl
  · obtain ⟨v, t, rfl, r, q⟩ := h
    refine ⟨_, (pss_one (ps_ret (pe_and (pe_c c_is_whole hr (by decide) (by rfl) (pa_cons (pv 0) pa_nil)) (pe_one (pe_chain op_le op_le pe_int (pv 0) (pe_gc (by rfl) T.g_MOST_INPUTS)))))), ?_⟩
    refine ⟨_, rfl, v, t, rfl, r, _, rfl, ite2 (fun h1 => ?_) (fun h1 => ?_)⟩
    · cases r with
      | int i =>
        refine ⟨_, rfl, _, _, rfl, rfl, _, rfl, ite2 (fun h2 => ?_) (fun h2 => ?_)⟩
        · refine ⟨_, _, rfl, rfl, ?_⟩
          have e : (Th.int i).many = decide (i ≤ 8) := by
            show (decide (1 ≤ i) && decide (i ≤ 8)) = decide (i ≤ 8)
            rw [h2, Bool.true_and]
          rw [e] at q
          exact q
        · have e : (Th.int i).many = false := by
            show (decide (1 ≤ i) && decide (i ≤ 8)) = false
            rw [Bool.eq_false_iff.mpr h2, Bool.false_and]
          rw [e] at q
          exact q
      | _ => cases h1
    · have e : t.many = false := by cases t <;> first | rfl | exact absurd rfl h1
      rw [e] at q
      exact q
def spIsGate : Sp := fun vs H Q _ => ∃ v t b, vs = [v, .int b] ∧ Rep H v t ∧ Q (.bl (t.gate b)) H
theorem rep3 {H : Hp} {vs : List V} {ts : List Th} (r : RepAll H vs ts) (h : vs.length = 3) : ∃ a b c x y z, vs = [a, b, c] ∧ ts = [x, y, z] ∧ Rep H a x ∧ Rep H b y ∧ Rep H c z := by
  cases r with
  | nil => cases h
  | cons r1 r =>
    cases r with
    | nil => cases h
    | cons r2 r =>
      cases r with
      | nil => cases h
      | cons r3 r =>
        cases r with
        | nil => exact ⟨_, _, _, _, _, _, rfl, rfl, r1, r2, r3⟩
        | cons _ _ => simp at h
theorem ok_isgate {f c : Addr} (D : Dfn K mg "is_gate" s_is_gate f c) (T : Txt mg) (c_is_below : Cal P w K mg base 2 "is_below" spBelow []) : Cal P w K mg base 3 "is_gate" spIsGate [] := by
  refine cal D (fun _ _ _ _ _ _ us hl => match us, hl with | [_, _], _ => rfl) sc_is_gate (fun vs H Q E h => ?_) (fun A outer s H vs Q E hr h => ?_)
  · obtain ⟨v, t, b, rfl, _⟩ := h
    rfl
  · obtain ⟨v, t, b, rfl, r, q⟩ := h
    refine ⟨_, (pss_cons (ps_if (PW.pt (pw_or (pt_not (pt_val (pe_callB call_isi (by rfl) T.b_isinstance (by decide +kernel) (pa_cons (pv 0) (pa_cons (pe_bltn (v := .ty "tuple") (by rfl) T.b_tuple (by decide +kernel) rfl) pa_nil))))) (pw_or1 (pt_cmpR op_ne (pe_callB call_len_seq (by rfl) T.b_len (by decide +kernel) (pa_cons (pv 0) pa_nil)) pe_int (nomark _))))) (pss_one (ps_ret pe_bl)) pss_nil)
      (pss_cons (ps_asg (pv 0) (pg_tup rfl (pgs_cons (pg_name (i := 2) sc_is_gate.nd rfl (by first | exact Or.inl rfl | exact Or.inr rfl)) (pgs_cons (pg_name (i := 3) sc_is_gate.nd rfl (by first | exact Or.inl rfl | exact Or.inr rfl)) (pgs_cons (pg_name (i := 4) sc_is_gate.nd rfl (by first | exact Or.inl rfl | exact Or.inr rfl)) pgs_nil)))))
      (pss_one (ps_ret (pe_and (pe_c c_is_below hr (by decide) (by rfl) (pa_cons (pv 2) (pa_cons (pe_gc (by rfl) T.g_KINDS) pa_nil))) (pe_and (pe_c c_is_below hr (by decide) (by rfl) (pa_cons (pv 3) (pa_cons (pv 1) pa_nil))) (pe_one (pe_c c_is_below hr (by decide) (by rfl) (pa_cons (pv 4) (pa_cons (pv 1) pa_nil)))))))))), ?_⟩
    refine ⟨_, rfl, _, _, _, _, t.kTup, rfl, .ty "tuple", tyx r, kit_ty (kTup_ok t), _, rfl, ite2 (fun h1 => ?_) (fun h1 => ?_)⟩
    · have e : t.gate b = false := by cases t <;> first | rfl | cases h1
      rw [e] at q
      exact q
    · cases r with
      | @tup a vs ts e ra =>
        refine ⟨_, rfl, a, _, rfl, .inr (SqT.of e), rfl, _, rfl, ite2 (fun h2 => ?_) (fun h2 => ?_)⟩
        · have e : (Th.tup ts).gate b = false := by
            have hl := ra.length
            cases ts with
            | nil => rfl
            | cons x r1 =>
              cases r1 with
              | nil => rfl
              | cons y r2 =>
                cases r2 with
                | nil => rfl
                | cons z r3 =>
                  cases r3 with
                  | nil =>
                    rw [hl] at h2
                    exact absurd h2 (by show ¬ ((!decide (V.int 3 = V.int 3)) = true); decide)
                  | cons _ _ => rfl
          rw [e] at q
          exact q
        · have hl : vs.length = 3 := by
            have := Classical.not_not.mp fun z => h2 (by rw [decide_eq_false z]; rfl)
            have := V.int.inj this
            omega
          obtain ⟨v1, v2, v3, x, y, z, rfl, rfl, r1, r2, r3⟩ := rep3 ra hl
          refine ⟨_, rfl, a, _, rfl, SqT.of e, rfl, _, _, rfl, _, _, rfl, _, _, rfl, rfl, ?_⟩
          have eg : (Th.tup [x, y, z]).gate b = (x.isB 16 && y.isB b && z.isB b) := rfl
          refine ⟨_, rfl, v1, x, 16, rfl, r1, _, rfl, ite2 (fun g1 => ?_) (fun g1 => ?_)⟩
          · refine ⟨_, rfl, _, rfl, v2, y, b, rfl, r2, _, rfl, ite2 (fun g2 => ?_) (fun g2 => ?_)⟩
            · refine ⟨_, rfl, _, rfl, v3, z, b, rfl, r3, ?_⟩
              rw [eg, g1, g2, Bool.true_and, Bool.true_and] at q
              exact q
            · rw [eg, g1, Bool.eq_false_iff.mpr g2, Bool.and_false, Bool.false_and] at q
              exact q
          · rw [eg, Bool.eq_false_iff.mpr g1, Bool.false_and, Bool.false_and] at q
            exact q
      | _ => exact absurd rfl h1
def spAreGates (Ts : List Addr) : Sp := fun vs H Q _ => ∃ v t m, vs = [v, .int m] ∧ Rep H v t ∧ Tabs Ts H ∧ ∀ H', Aft Ts H H' → Q (.bl (t.gates m)) H'
theorem ok_aregates {f c PG' : Addr} (D : Dfn K mg "are_gates" s_are_gates f c) (T : Txt mg) (c_is_gate : Cal P w K mg base 3 "is_gate" spIsGate []) (TB_are_gates : GxR.TabB base mg c PG') (hP : PG' ∈ Ts) : Cal P w K mg base 5 "are_gates" (spAreGates Ts) [] := by
  refine cal D (fun _ _ _ _ _ _ us hl => match us, hl with | [_, _], _ => rfl) sc_are_gates (fun vs H Q E h => ?_) (fun A outer s H vs Q E hr h => ?_)
  · obtain ⟨v, t, m, rfl, _⟩ := h
    rfl
  · obtain ⟨v, t, m, rfl, r, tb, q⟩ := h
    refine ⟨_, (pss_cons (ps_if (PW.pt (pw_or (pt_not (pt_val (pe_callB call_isi (by rfl) T.b_isinstance (by decide +kernel) (pa_cons (pv 0) (pa_cons (pe_bltn (v := .ty "tuple") (by rfl) T.b_tuple (by decide +kernel) rfl) pa_nil))))) (pw_or1 (pt_cmpR op_gt (pe_callB call_len_seq (by rfl) T.b_len (by decide +kernel) (pa_cons (pv 0) pa_nil)) (pe_gc (by rfl) T.g_MOST_GATES) (nomark _))))) (pss_one (ps_ret pe_bl)) pss_nil)
      (pss_one (ps_ret (pe_allG (own := [("at", 2), ("gate", 3)]) hr (by rfl) T.b_all TB_are_gates rfl (gxOk_by (N := ["thing", "many", "at", "gate"]) (sc := defScope s_are_gates) (own := [("at", 2), ("gate", 3)]) (by decide +kernel)) sc_are_gates.nd (pi_enumT (by rfl) T.b_enumerate (pa_cons (pv 0) pa_nil)) (fun _ _ _ _ => (pg_tupK (K := K) (n := 2) rfl rfl (pgs_cons (pg_name (i := 2) sc_are_gates.nd rfl (by first | exact Or.inl rfl | exact Or.inr rfl)) (pgs_cons (pg_name (i := 3) sc_are_gates.nd rfl (by first | exact Or.inl rfl | exact Or.inr rfl)) pgs_nil)))) (fun _ _ _ _ => pts_nil) (fun _ _ _ _ => (pe_c c_is_gate (GX.Room.gx2 hr) (by decide) (by rfl) (pa_cons (pv 3) (pa_cons (pe_op op_add (pv 1) (pv 2)) pa_nil)))))))), ?_⟩
    refine ⟨_, rfl, _, _, _, _, t.kTup, rfl, .ty "tuple", tyx r, kit_ty (kTup_ok t), _, rfl, ite2 (fun h1 => ?_) (fun h1 => ?_)⟩
    · have e : t.gates m = false := by cases t <;> first | rfl | cases h1
      have q' := q H (Aft.refl tb)
      rw [e] at q'
      exact q'
    · cases r with
      | @tup a vs ts e ra =>
        have hl := ra.length
        refine ⟨_, rfl, a, _, rfl, .inr (SqT.of e), _, _, rfl, rfl, _, rfl, ite2 (fun h2 => ?_) (fun h2 => ?_)⟩
        · have h2' := of_decide_eq_true h2
          have e : (Th.tup ts).gates m = false := by
            show (decide (ts.length ≤ 16) && _) = false
            rw [decide_eq_false (by omega), Bool.false_and]
          have q' := q H (Aft.refl tb)
          rw [e] at q'
          exact q'
        · have h2' : ¬ ((vs.length : Int) > 16) := fun z => h2 (decide_eq_true z)
          have eg : (Th.tup ts).gates m = gatesFrom m ts := by
            show (decide (ts.length ≤ 16) && _) = _
            rw [decide_eq_true (by omega), Bool.true_and]
          rw [eg] at q
          refine ⟨_, rfl, a, vs, rfl, SqT.of e, tb PG' hP, fun H2 ht => ?_⟩
          have a2 : Aft Ts H H2 := ⟨Keep.tabbed hP ht, tb.tabbed ht⟩
          refine turns_it (walk_enumT (xs := vs)) (fun i ys H' => gatesFrom m (ts.take i) = true ∧ Aft Ts H H') ⟨rfl, a2⟩ (fun i ys H' _ hp => SqT.of (hp.2.tup tb e)) ?_ ?_
          · rintro i x ys H3 H4 hi ⟨hg, a3⟩ ⟨T', v1, v2, rfl, nT, rfl, e1, e2⟩
            cases e1
            obtain ⟨t2, ht2, r2⟩ := ra.get e2
            have a4 := a3.trans (Aft.new (o := .tup [.int (i : Nat), v2]) a3.tb nT)
            refine ⟨T', _, rfl, SqT.of upd_same, rfl, _, _, rfl, _, _, rfl, rfl, rfl, ?_⟩
            unfold tYes
            refine iteT ?_
            refine ⟨_, rfl, _, rfl, _, rfl, _, _, rfl, rfl, v2, t2, m + i, rfl, r2.mono (KeepT.aft tb a4), ?_⟩
            refine ⟨⟨_, rfl, fun hf => ?_⟩, fun hc => ⟨?_, a4⟩⟩
            · have q' := q _ a4
              rw [gatesFrom_bad ht2 hf] at q'
              exact q'
            · rw [gatesFrom_snoc ht2, hg, V.bl.inj hc]
              rfl
          · rintro ys H3 ⟨hg, a3⟩
            rw [hl, List.take_length] at hg
            have q' := q _ a3
            rw [hg] at q'
            exact q'
      | _ => exact absurd rfl h1
def spAreOuts (Ts : List Addr) : Sp := fun vs H Q _ => ∃ v t m, vs = [v, .int m] ∧ Rep H v t ∧ Tabs Ts H ∧ ∀ H', Aft Ts H H' → Q (.bl (t.outs m)) H'
theorem ok_areouts {f c PO : Addr} (D : Dfn K mg "are_outs" s_are_outs f c) (T : Txt mg) (c_is_below : Cal P w K mg base 2 "is_below" spBelow []) (TB_are_outs : GxR.TabB base mg c PO) (hP : PO ∈ Ts) : Cal P w K mg base 4 "are_outs" (spAreOuts Ts) [] := by
  refine cal D (fun _ _ _ _ _ _ us hl => match us, hl with | [_, _], _ => rfl) sc_are_outs (fun vs H Q E h => ?_) (fun A outer s H vs Q E hr h => ?_)
  · obtain ⟨v, t, m, rfl, _⟩ := h
    rfl
  · obtain ⟨v, t, m, rfl, r, tb, q⟩ := h
    refine ⟨_, (pss_cons (ps_if (PW.pt (pw_or (pt_not (pt_val (pe_callB call_isi (by rfl) T.b_isinstance (by decide +kernel) (pa_cons (pv 0) (pa_cons (pe_bltn (v := .ty "tuple") (by rfl) T.b_tuple (by decide +kernel) rfl) pa_nil))))) (pw_or1 (pt_not (pt_chain op_le op_le pe_int (pe_callB call_len_seq (by rfl) T.b_len (by decide +kernel) (pa_cons (pv 0) pa_nil)) (pe_gc (by rfl) T.g_MOST_OUTS)))))) (pss_one (ps_ret pe_bl)) pss_nil)
      (pss_one (ps_ret (pe_allG (own := [("out", 2)]) hr (by rfl) T.b_all TB_are_outs rfl (gxOk_by (N := ["thing", "count", "out"]) (sc := defScope s_are_outs) (own := [("out", 2)]) (by decide +kernel)) sc_are_outs.nd (pi_tup (pv 0)) (fun _ _ _ _ => (pg_name (i := 2) sc_are_outs.nd rfl (by first | exact Or.inl rfl | exact Or.inr rfl))) (fun _ _ _ _ => pts_nil) (fun _ _ _ _ => (pe_c c_is_below (GX.Room.gx2 hr) (by decide) (by rfl) (pa_cons (pv 2) (pa_cons (pv 1) pa_nil)))))))), ?_⟩
    refine ⟨_, rfl, _, _, _, _, t.kTup, rfl, .ty "tuple", tyx r, kit_ty (kTup_ok t), _, rfl, ite2 (fun h1 => ?_) (fun h1 => ?_)⟩
    · have e : t.outs m = false := by cases t <;> first | rfl | cases h1
      have q' := q H (Aft.refl tb)
      rw [e] at q'
      exact q'
    · cases r with
      | @tup a vs ts e ra =>
        have hl := ra.length
        have no : ¬ (1 ≤ ts.length ∧ ts.length ≤ 8) → Q (.bl false) H := fun hn => by
          have e : (Th.tup ts).outs m = false := by
            show ((decide (1 ≤ ts.length) && decide (ts.length ≤ 8)) && _) = false
            rw [← Bool.decide_and, decide_eq_false hn, Bool.false_and]
          have q' := q H (Aft.refl tb)
          rw [e] at q'
          exact q'
        refine ⟨_, rfl, a, _, rfl, .inr (SqT.of e), _, _, rfl, rfl, _, rfl, ite2 (fun h2 => ?_) (fun h2 => ?_)⟩
        · have h2' := of_decide_eq_true h2
          refine ⟨_, _, rfl, rfl, _, rfl, ite2 (fun h3 => ?_) (fun h3 => ?_)⟩
          · have h3' : ¬ ((vs.length : Int) ≤ 8) := fun z => by
              rw [decide_eq_true z] at h3
              cases h3
            exact no (by omega)
          · have h3' : (vs.length : Int) ≤ 8 := Classical.not_not.mp fun z => h3 (by rw [decide_eq_false z]; rfl)
            have eg : (Th.tup ts).outs m = ts.all (Th.isB m) := by
              show ((decide (1 ≤ ts.length) && decide (ts.length ≤ 8)) && _) = _
              rw [decide_eq_true (by omega), decide_eq_true (by omega)]
              rfl
            rw [eg] at q
            refine ⟨_, rfl, a, rfl, ⟨_, SqT.of e⟩, tb PO hP, fun H2 ht => ?_⟩
            have a2 : Aft Ts H H2 := ⟨Keep.tabbed hP ht, tb.tabbed ht⟩
            refine turns_it (walk_tup (xs := vs)) (fun i ys H' => (ts.take i).all (Th.isB m) = true ∧ Aft Ts H H') ⟨rfl, a2⟩ (fun i ys H' _ hp => SqT.of (hp.2.tup tb e)) ?_ ?_
            · rintro i x ys H3 H4 hi ⟨hg, a3⟩ ⟨rfl, e2⟩
              obtain ⟨t2, ht2, r2⟩ := ra.get e2
              refine ⟨rfl, ?_⟩
              unfold tYes
              refine iteT ?_
              refine ⟨_, rfl, _, rfl, x, t2, m, rfl, r2.mono (KeepT.aft tb a3), ?_⟩
              refine ⟨⟨_, rfl, fun hf => ?_⟩, fun hc => ⟨?_, a3⟩⟩
              · have q' := q _ a3
                have : ts.all (Th.isB m) = false := by
                  rw [List.all_eq_false]
                  exact ⟨t2, List.mem_of_getElem? ht2, by rw [hf]; exact Bool.false_ne_true⟩
                rw [this] at q'
                exact q'
              · rw [List.take_add_one, ht2, List.all_append, hg, Option.toList_some]
                show (true && (t2.isB m && true)) = true
                rw [V.bl.inj hc]
                rfl
            · rintro ys H3 ⟨hg, a3⟩
              rw [hl, List.take_length] at hg
              have q' := q _ a3
              rw [hg] at q'
              exact q'
        · have h2' : ¬ ((1 : Int) ≤ (vs.length : Int)) := fun z => h2 (decide_eq_true z)
          refine ⟨_, rfl, ?_⟩
          exact no (by omega)
      | _ => exact absurd rfl h1
def spIsNet (Ts : List Addr) : Sp := fun vs H Q _ => ∃ v t, vs = [v] ∧ Rep H v t ∧ Tabs Ts H ∧ ∀ H', Aft Ts H H' → Q (.bl t.net) H'
theorem many_int {t : Th} (h : t.many = true) : ∃ i, t = .int i := by
  cases t with
  | int i => exact ⟨i, rfl⟩
  | _ => cases h
theorem gates_tup {t : Th} {m : Int} (h : t.gates m = true) : ∃ ts, t = .tup ts := by
  cases t with
  | tup ts => exact ⟨ts, rfl⟩
  | _ => cases h
theorem ok_isnet {f c : Addr} (D : Dfn K mg "is_net" s_is_net f c) (T : Txt mg) (c_is_many : Cal P w K mg base 2 "is_many" spMany []) (c_are_gates : Cal P w K mg base 5 "are_gates" (spAreGates Ts) []) (c_are_outs : Cal P w K mg base 4 "are_outs" (spAreOuts Ts) []) : Cal P w K mg base 6 "is_net" (spIsNet Ts) [] := by
  refine cal D (fun _ _ _ _ _ _ us hl => match us, hl with | [_], _ => rfl) sc_is_net (fun vs H Q E h => ?_) (fun A outer s H vs Q E hr h => ?_)
  · obtain ⟨v, t, rfl, _⟩ := h
    rfl
  · obtain ⟨v, t, rfl, r, tb, q⟩ := h
    refine ⟨_, (pss_cons (ps_if (PW.pt (pw_or (pt_not (pt_val (pe_callB call_isi (by rfl) T.b_isinstance (by decide +kernel) (pa_cons (pv 0) (pa_cons (pe_bltn (v := .ty "tuple") (by rfl) T.b_tuple (by decide +kernel) rfl) pa_nil))))) (pw_or1 (pt_cmpR op_ne (pe_callB call_len_seq (by rfl) T.b_len (by decide +kernel) (pa_cons (pv 0) pa_nil)) pe_int (nomark _))))) (pss_one (ps_ret pe_bl)) pss_nil)
      (pss_cons (ps_asg (pv 0) (pg_tup rfl (pgs_cons (pg_name (i := 1) sc_is_net.nd rfl (by first | exact Or.inl rfl | exact Or.inr rfl)) (pgs_cons (pg_name (i := 2) sc_is_net.nd rfl (by first | exact Or.inl rfl | exact Or.inr rfl)) (pgs_cons (pg_name (i := 3) sc_is_net.nd rfl (by first | exact Or.inl rfl | exact Or.inr rfl)) pgs_nil)))))
      (pss_one (ps_ret (pe_and (pe_c c_is_many hr (by decide) (by rfl) (pa_cons (pv 1) pa_nil)) (pe_and (pe_c c_are_gates hr (by decide) (by rfl) (pa_cons (pv 2) (pa_cons (pv 1) pa_nil))) (pe_one (pe_c c_are_outs hr (by decide) (by rfl) (pa_cons (pv 3) (pa_cons (pe_op op_add (pv 1) (pe_callB call_len_seq (by rfl) T.b_len (by decide +kernel) (pa_cons (pv 2) pa_nil))) pa_nil)))))))))), ?_⟩
    refine ⟨_, rfl, _, _, _, _, t.kTup, rfl, .ty "tuple", tyx r, kit_ty (kTup_ok t), _, rfl, ite2 (fun h1 => ?_) (fun h1 => ?_)⟩
    · have e : t.net = false := by cases t <;> first | rfl | cases h1
      have q' := q H (Aft.refl tb)
      rw [e] at q'
      exact q'
    · cases r with
      | @tup a vs ts e ra =>
        refine ⟨_, rfl, a, _, rfl, .inr (SqT.of e), rfl, _, rfl, ite2 (fun h2 => ?_) (fun h2 => ?_)⟩
        · have e : (Th.tup ts).net = false := by
            have hl := ra.length
            cases ts with
            | nil => rfl
            | cons x r1 =>
              cases r1 with
              | nil => rfl
              | cons y r2 =>
                cases r2 with
                | nil => rfl
                | cons z r3 =>
                  cases r3 with
                  | nil =>
                    rw [hl] at h2
                    exact absurd h2 (by show ¬ ((!decide (V.int 3 = V.int 3)) = true); decide)
                  | cons _ _ => rfl
          have q' := q H (Aft.refl tb)
          rw [e] at q'
          exact q'
        · have hl : vs.length = 3 := by
            have := Classical.not_not.mp fun z => h2 (by rw [decide_eq_false z]; rfl)
            have := V.int.inj this
            omega
          obtain ⟨v1, v2, v3, x, y, z, rfl, rfl, r1, r2, r3⟩ := rep3 ra hl
          refine ⟨_, rfl, a, _, rfl, SqT.of e, rfl, _, _, rfl, _, _, rfl, _, _, rfl, rfl, ?_⟩
          have eg : (Th.tup [x, y, z]).net = (x.many && y.gates x.val && z.outs (x.val + y.len)) := rfl
          refine ⟨_, rfl, v1, x, rfl, r1, _, rfl, ite2 (fun g1 => ?_) (fun g1 => ?_)⟩
          · obtain ⟨i, rfl⟩ := many_int g1
            cases r1
            refine ⟨_, rfl, _, rfl, v2, y, i, rfl, r2, tb, fun H3 a3 => ⟨_, rfl, ite2 (fun g2 => ?_) (fun g2 => ?_)⟩⟩
            · obtain ⟨ys, rfl⟩ := gates_tup g2
              have r2' := r2.mono (KeepT.aft tb a3)
              cases r2' with
              | @tup a2 vs2 _ e2 ra2 =>
                refine ⟨_, rfl, _, rfl, _, rfl, a2, _, rfl, .inr (SqT.of e2), _, _, rfl, rfl, v3, z, _, rfl, r3.mono (KeepT.aft tb a3), a3.tb, fun H4 a4 => ?_⟩
                have q' := q _ (a3.trans a4)
                have g2' : (Th.tup ys).gates (Th.int i).val = true := g2
                rw [eg, g1, g2', Bool.true_and, Bool.true_and] at q'
                have el : (i + ((vs2.length : Nat) : Int)) = (Th.int i).val + (((Th.tup ys).len : Nat) : Int) := by rw [ra2.length]; rfl
                rw [← el] at q'
                exact q'
            · have q' := q _ a3
              have g2' : y.gates (Th.int i).val = false := Bool.eq_false_iff.mpr g2
              rw [eg, g1, g2', Bool.and_false, Bool.false_and] at q'
              exact q'
          · have q' := q _ (Aft.refl tb)
            rw [eg, Bool.eq_false_iff.mpr g1, Bool.false_and, Bool.false_and] at q'
            exact q'
      | _ => exact absurd rfl h1
end
end K87
set_option Elab.async false
set_option linter.all false
set_option maxRecDepth 100000
set_option maxHeartbeats 4000000
namespace K87
open PySem PySem.Spec PyProof.Rows L2 GX
open C8 (Cal pe_c pe_gc Met Mak)
-- @exc NoDepth init=least
-- @sub NoDepth NoDepth true
-- @exc TooMany made
-- @alt cut_masks tup par=N,t[i],i vars=masks:DL,wire:i
section
variable {P : Program} {w : World} {K : PySem.W.Frag} {mg : Str → Option Value} {base : Heap} {Ts : List Addr}
def spLaw (K : PySem.W.Frag) (Ts : List Addr) : Sp := fun vs H Q _ => ∃ (a : Addr) (ns : List Int), vs = [.ref a] ∧ SqL K H a (ns.map V.int) ∧ ns.length ≤ 63 ∧ Tabs Ts H ∧ ∀ H', Q (.bl true) H'
theorem ok_law {f c : Addr} {oc kV doc pm ct : Value} {od an : Option Addr} {osl : Array (Option Value)}
    (lk : K.lookup f = some ⟨oc, od, .func (PySem.W.fnOf "law" "law" (defArgs s_law) (defBody s_law) (defScope s_law) .none kV doc pm an (.ref c) ct), osl⟩) (hcd : PySem.W.codeIn K (.ref c) "law" = true) (T : Txt mg)
    (c__law_well : Cal P w K mg base 1 "_law_well" (spWell K) []) (c__law_take : Cal P w K mg base 1 "_law_take" spTake []) (c__law_net : Cal P w K mg base 3 "_law_net" spNet []) (c__law_order : Cal P w K mg base 2 "_law_order" spOrd []) (c__law_turned : Cal P w K mg base 2 "_law_turned" spTurnd []) (c_is_net : Cal P w K mg base 6 "is_net" (spIsNet Ts) []) (c__law_alike : Cal P w K mg base 29 "_law_alike" (spAlike Ts) []) (c__law_rows_alike : Cal P w K mg base 6 "_law_rows_alike" (spRowsA Ts) []) :
    FnOk P w K mg base L2.CX0 30 f (PySem.W.fnOf "law" "law" (defArgs s_law) (defBody s_law) (defScope s_law) .none kV doc pm an (.ref c) ct) ["_law_script"] (spLaw K Ts) := by
  refine fnok lk hcd sc_law (fun vs H Q E h => ?_) (fun A outer s H vs Q E hr h => ?_)
  · obtain ⟨a, ns, rfl, _⟩ := h
    rfl
  · obtain ⟨a, ns, rfl, hS, hlen, tb, q⟩ := h
    refine ⟨_, (pss_cons (ps_for PassesOwn.never rfl (pi_range1 (by rfl) T.b_range (pa_cons (pe_callB (call_max2 rfl) (by rfl) T.b_max (by decide +kernel) (pa_cons pe_int (pa_cons (pe_callB (call_min2 rfl) (by rfl) T.b_min (by decide +kernel) (pa_cons (pe_callB call_len_seq (by rfl) T.b_len (by decide +kernel) (pa_cons (pv 0) pa_nil)) (pa_cons pe_int pa_nil))) pa_nil))) pa_nil)) (pg_name (i := 1) sc_law.nd rfl (by first | exact Or.inl rfl | exact Or.inr rfl))
        (pss_cons (ps_set (i := 2) sc_law.nd rfl (by first | exact Or.inl rfl | exact Or.inr rfl) (pe_c c__law_well hr (by decide) (by rfl) (pa_cons (pv 0) (pa_cons (pv 1) pa_nil))))
      (pss_cons (ps_set (i := 3) sc_law.nd rfl (by first | exact Or.inl rfl | exact Or.inr rfl) (pe_op op_add pe_int (pe_c c__law_take hr (by decide) (by rfl) (pa_cons (pv 2) (pa_cons pe_int pa_nil)))))
      (pss_cons (ps_set (i := 4) sc_law.nd rfl (by first | exact Or.inl rfl | exact Or.inr rfl) (pe_c c__law_net hr (by decide) (by rfl) (pa_cons (pv 2) (pa_cons pe_int (pa_cons pe_int pa_nil)))))
      (pss_cons (ps_set (i := 5) sc_law.nd rfl (by first | exact Or.inl rfl | exact Or.inr rfl) (pe_c c__law_order hr (by decide) (by rfl) (pa_cons (pv 2) (pa_cons (pv 4) pa_nil))))
      (pss_cons (ps_set (i := 6) sc_law.nd rfl (by first | exact Or.inl rfl | exact Or.inr rfl) (pe_c c__law_turned hr (by decide) (by rfl) (pa_cons (pv 2) (pa_cons (pv 4) (pa_cons (pv 5) pa_nil)))))
      (pss_cons (ps_if (PW.pt (pw_or (pt_cmpR op_notBl (pe_c c_is_net hr (by decide) (by rfl) (pa_cons (pv 6) pa_nil)) pe_bl (nomark _)) (pw_or1 (pt_not (pt_val (pe_c c__law_alike hr (by decide) (by rfl) (pa_cons (pv 4) (pa_cons (pv 6) (pa_cons (pv 5) (pa_cons (pv 3) pa_nil)))))))))) (pss_one (ps_ret pe_bl)) pss_nil)
      (pss_one (ps_if (pt_not (pt_val (pe_c c__law_rows_alike hr (by decide) (by rfl) (pa_cons (pv 2) (pa_cons (pv 4) (pa_cons (pv 6) (pa_cons (pv 5) pa_nil))))))) (pss_one (ps_ret pe_bl)) pss_nil)))))))))
      (pss_one (ps_ret pe_bl))), ?_⟩
    clear hr
    refine ⟨_, rfl, a, _, rfl, .inl hS, _, _, rfl, _, _, rfl, _, rfl, ?_, ?_, ?_⟩
    · split <;> split <;> omega
    · rw [List.length_map]
      split <;> split <;> omega
    refine for_range (lo := 0) (fun i σ H' => ∃ x1 x2 x3 x4 x5 x6, σ = [some (.ref a), x1, x2, x3, x4, x5, x6] ∧ SqL K H' a (ns.map V.int) ∧ Tabs Ts H') ⟨none, none, none, none, none, none, rfl, hS, tb⟩ ?_ ?_
    · rintro i σ H1 hi ⟨x1, x2, x3, x4, x5, x6, rfl, hS1, tb1⟩
      refine ⟨_, rfl, _, rfl, a, ns, i, (by rw [Int.zero_add]; rfl), hS1, fun W H2 nW w2 k2 => ?_⟩
      have d2 : Dk W Ts H1 H2 := ⟨w2, fun b hb => let ⟨ps, h, t⟩ := tb1 b hb; ⟨ps, k2 _ _ h (by simp), t⟩, k2.mono fun b hb => by cases hb⟩
      refine ⟨_, rfl, W, 3, rfl, w2, by decide, by decide, fun wd H3 d0 d1 w3 k3 => ⟨_, _, rfl, rfl, ?_⟩⟩
      have d3 := d2.draw ⟨w3, k3⟩
      obtain ⟨kw, ekw, kw2, kw4⟩ : ∃ kw : Nat, 2 + wd = ((kw : Nat) : Int) ∧ 2 ≤ kw ∧ kw ≤ 4 := ⟨(2 + wd).toNat, by omega, by omega, by omega⟩
      dsimp -proj only
      rw [ekw]
      refine ⟨_, rfl, W, 6, 6, rfl, d3.wl, by decide, by decide, by decide, fun an n g o ps H4 ok n6 g6 N k4 => ?_⟩
      have d4 := d3.draw k4
      refine ⟨_, rfl, _, rfl, W, an, n, g, o, ps, rfl, d4.wl, N, ok, fun l od H5 k5 hl5 ord nl => ?_⟩
      have d5 := d4.draw k5
      have lW : l ≠ W := fun z => by
        obtain ⟨_, _, _, e⟩ := d4.wl
        rw [← z, nl] at e
        cases e
      have N5 := N.mono fun b xs e => d4.wl.tup k5.kp e
      refine ⟨_, rfl, _, rfl, _, rfl, W, an, l, n, g, o, ps, od, rfl, d5.wl, N5, ok, hl5, ord, lW, fun a' n' g' o' ps' H6 k6 N' tn => ?_⟩
      have d6 := d5.draw k6
      have N6 := N5.mono fun b xs e => d5.wl.tup k6.kp e
      have hl6 := Wk.ats k6.kp lW hl5
      obtain ⟨ok', R⟩ := turn_ok ok ord tn
      refine ⟨_, rfl, .ref a', thNet n', rfl, N'.rep, d6.tb, fun H7 a7 => ?_⟩
      rw [ok'.net]
      refine ⟨true, true, rfl, rfl, _, rfl, iteF ?_⟩
      have d7 := d6.aft a7
      have N7 := N6.aft d6.tb a7
      have N7' := N'.aft d6.tb a7
      have hl7 := a7.lst d6.tb hl6
      refine ⟨_, rfl, _, rfl, _, rfl, _, rfl, an, a', l, n, n', g, o, g', o', ps, ps', od, kw, rfl, N7, N7', ok, ok', R, ord, hl7, g6, kw2, kw4, d7.tb, fun H8 a8 => ⟨_, rfl, iteF ?_⟩⟩
      have d8 := d7.aft a8
      refine ⟨_, rfl, _, rfl, _, rfl, _, rfl, W, an, a', l, n, n', g, o, g', o', ps, ps', od, rfl, d8.wl, N7.aft d7.tb a8, N7'.aft d7.tb a8, ok, ok', R, ord, a8.lst d7.tb hl7, lW, d8.tb, fun H9 d9 => ⟨_, rfl, iteF ?_⟩⟩
      have k19 := d8.kp.trans d9.kp
      exact ⟨_, _, _, _, _, _, rfl, sq_keep hS1 tb1 k19 nW, d9.tb⟩
    · rintro σ H1 _
      exact q H1
end
end K87
set_option Elab.async false
set_option linter.all false
set_option maxRecDepth 100000
set_option maxHeartbeats 4000000
namespace K87
open PySem PySem.Spec PyProof.Rows L2 GX
open C8 (Cal pe_c pe_gc)
-- @exc NoDepth init=least
-- @sub NoDepth NoDepth true
-- @exc TooMany made
-- @alt cut_masks tup par=N,t[i],i vars=masks:DL,wire:i
/-! ### what the top has written -/
theorem all_mk {l : PySem.W.OpenLaw} {w : World} {K : PySem.W.Frag} {h : Heap} {mg : Str → Option Value} {fa : Addr} (X : K.In h) (G : h.Ns mainGlobals mg) (hfa : mg "law" = some (.ref fa))
    {f0 c0 : Addr} {od0 an0 : Option Addr} {sl0 : Array (Option Value)} {oc0 kV0 dc0 pm0 ct0 : Value}
    (a0 : PySem.W.nsIn K mainGlobals "wires_of" = some (some (.ref f0))) (l0 : K.lookup f0 = some ⟨oc0, od0, .func (PySem.W.fnOf "wires_of" "wires_of" (defArgs s_wires_of) (defBody s_wires_of) (defScope s_wires_of) .none kV0 dc0 pm0 an0 (.ref c0) ct0), sl0⟩) (e0 : PySem.W.codeIn K (.ref c0) "wires_of" = true) (k0 : PySem.W.keepIn K (.ref f0) = true)
    {P0 : Addr} {dd0 : Option Addr} {vs0 : Array Value} {ls0 : Array (Option Value)} {fl0 : Str} {tf0 tg0 tt0 : Tok} {fg0 tx0 : Int} {iF0 : Bool}
    (o0 : K.lookup c0 = some ⟨.type "code", dd0, .fields vs0, ls0⟩) (h0 : vs0[11]? = some (.ref P0) ∧ vs0.getD 11 .none = .ref P0 ∧ vs0.getD 18 .none = .str fl0 tf0 ∧ vs0.getD 7 .none = .int fg0 tg0 ∧ vs0.getD 9 .none = .bool iF0 ∧ vs0.getD 10 .none = .int tx0 tt0 ∧ c0 ≠ P0) (n0 : K.lookup P0 = none) (y0 : TabOf K mg h "wires_of")
    {f1 c1 : Addr} {od1 an1 : Option Addr} {sl1 : Array (Option Value)} {oc1 kV1 dc1 pm1 ct1 : Value}
    (a1 : PySem.W.nsIn K mainGlobals "fits" = some (some (.ref f1))) (l1 : K.lookup f1 = some ⟨oc1, od1, .func (PySem.W.fnOf "fits" "fits" (defArgs s_fits) (defBody s_fits) (defScope s_fits) .none kV1 dc1 pm1 an1 (.ref c1) ct1), sl1⟩) (e1 : PySem.W.codeIn K (.ref c1) "fits" = true) (k1 : PySem.W.keepIn K (.ref f1) = true)
    {f2 c2 : Addr} {od2 an2 : Option Addr} {sl2 : Array (Option Value)} {oc2 kV2 dc2 pm2 ct2 : Value}
    (a2 : PySem.W.nsIn K mainGlobals "has_part" = some (some (.ref f2))) (l2 : K.lookup f2 = some ⟨oc2, od2, .func (PySem.W.fnOf "has_part" "has_part" (defArgs s_has_part) (defBody s_has_part) (defScope s_has_part) .none kV2 dc2 pm2 an2 (.ref c2) ct2), sl2⟩) (e2 : PySem.W.codeIn K (.ref c2) "has_part" = true) (k2 : PySem.W.keepIn K (.ref f2) = true)
    {f3 c3 : Addr} {od3 an3 : Option Addr} {sl3 : Array (Option Value)} {oc3 kV3 dc3 pm3 ct3 : Value}
    (a3 : PySem.W.nsIn K mainGlobals "is_whole" = some (some (.ref f3))) (l3 : K.lookup f3 = some ⟨oc3, od3, .func (PySem.W.fnOf "is_whole" "is_whole" (defArgs s_is_whole) (defBody s_is_whole) (defScope s_is_whole) .none kV3 dc3 pm3 an3 (.ref c3) ct3), sl3⟩) (e3 : PySem.W.codeIn K (.ref c3) "is_whole" = true) (k3 : PySem.W.keepIn K (.ref f3) = true)
    {f4 c4 : Addr} {od4 an4 : Option Addr} {sl4 : Array (Option Value)} {oc4 kV4 dc4 pm4 ct4 : Value}
    (a4 : PySem.W.nsIn K mainGlobals "is_below" = some (some (.ref f4))) (l4 : K.lookup f4 = some ⟨oc4, od4, .func (PySem.W.fnOf "is_below" "is_below" (defArgs s_is_below) (defBody s_is_below) (defScope s_is_below) .none kV4 dc4 pm4 an4 (.ref c4) ct4), sl4⟩) (e4 : PySem.W.codeIn K (.ref c4) "is_below" = true) (k4 : PySem.W.keepIn K (.ref f4) = true)
    {f5 c5 : Addr} {od5 an5 : Option Addr} {sl5 : Array (Option Value)} {oc5 kV5 dc5 pm5 ct5 : Value}
    (a5 : PySem.W.nsIn K mainGlobals "is_many" = some (some (.ref f5))) (l5 : K.lookup f5 = some ⟨oc5, od5, .func (PySem.W.fnOf "is_many" "is_many" (defArgs s_is_many) (defBody s_is_many) (defScope s_is_many) .none kV5 dc5 pm5 an5 (.ref c5) ct5), sl5⟩) (e5 : PySem.W.codeIn K (.ref c5) "is_many" = true) (k5 : PySem.W.keepIn K (.ref f5) = true)
    {f6 c6 : Addr} {od6 an6 : Option Addr} {sl6 : Array (Option Value)} {oc6 kV6 dc6 pm6 ct6 : Value}
    (a6 : PySem.W.nsIn K mainGlobals "is_gate" = some (some (.ref f6))) (l6 : K.lookup f6 = some ⟨oc6, od6, .func (PySem.W.fnOf "is_gate" "is_gate" (defArgs s_is_gate) (defBody s_is_gate) (defScope s_is_gate) .none kV6 dc6 pm6 an6 (.ref c6) ct6), sl6⟩) (e6 : PySem.W.codeIn K (.ref c6) "is_gate" = true) (k6 : PySem.W.keepIn K (.ref f6) = true)
    {f7 c7 : Addr} {od7 an7 : Option Addr} {sl7 : Array (Option Value)} {oc7 kV7 dc7 pm7 ct7 : Value}
    (a7 : PySem.W.nsIn K mainGlobals "are_gates" = some (some (.ref f7))) (l7 : K.lookup f7 = some ⟨oc7, od7, .func (PySem.W.fnOf "are_gates" "are_gates" (defArgs s_are_gates) (defBody s_are_gates) (defScope s_are_gates) .none kV7 dc7 pm7 an7 (.ref c7) ct7), sl7⟩) (e7 : PySem.W.codeIn K (.ref c7) "are_gates" = true) (k7 : PySem.W.keepIn K (.ref f7) = true)
    {P7 : Addr} {dd7 : Option Addr} {vs7 : Array Value} {ls7 : Array (Option Value)} {fl7 : Str} {tf7 tg7 tt7 : Tok} {fg7 tx7 : Int} {iF7 : Bool}
    (o7 : K.lookup c7 = some ⟨.type "code", dd7, .fields vs7, ls7⟩) (h7 : vs7[11]? = some (.ref P7) ∧ vs7.getD 11 .none = .ref P7 ∧ vs7.getD 18 .none = .str fl7 tf7 ∧ vs7.getD 7 .none = .int fg7 tg7 ∧ vs7.getD 9 .none = .bool iF7 ∧ vs7.getD 10 .none = .int tx7 tt7 ∧ c7 ≠ P7) (n7 : K.lookup P7 = none) (y7 : TabOf K mg h "are_gates")
    {f8 c8 : Addr} {od8 an8 : Option Addr} {sl8 : Array (Option Value)} {oc8 kV8 dc8 pm8 ct8 : Value}
    (a8 : PySem.W.nsIn K mainGlobals "are_outs" = some (some (.ref f8))) (l8 : K.lookup f8 = some ⟨oc8, od8, .func (PySem.W.fnOf "are_outs" "are_outs" (defArgs s_are_outs) (defBody s_are_outs) (defScope s_are_outs) .none kV8 dc8 pm8 an8 (.ref c8) ct8), sl8⟩) (e8 : PySem.W.codeIn K (.ref c8) "are_outs" = true) (k8 : PySem.W.keepIn K (.ref f8) = true)
    {P8 : Addr} {dd8 : Option Addr} {vs8 : Array Value} {ls8 : Array (Option Value)} {fl8 : Str} {tf8 tg8 tt8 : Tok} {fg8 tx8 : Int} {iF8 : Bool}
    (o8 : K.lookup c8 = some ⟨.type "code", dd8, .fields vs8, ls8⟩) (h8 : vs8[11]? = some (.ref P8) ∧ vs8.getD 11 .none = .ref P8 ∧ vs8.getD 18 .none = .str fl8 tf8 ∧ vs8.getD 7 .none = .int fg8 tg8 ∧ vs8.getD 9 .none = .bool iF8 ∧ vs8.getD 10 .none = .int tx8 tt8 ∧ c8 ≠ P8) (n8 : K.lookup P8 = none) (y8 : TabOf K mg h "are_outs")
    {f9 c9 : Addr} {od9 an9 : Option Addr} {sl9 : Array (Option Value)} {oc9 kV9 dc9 pm9 ct9 : Value}
    (a9 : PySem.W.nsIn K mainGlobals "is_net" = some (some (.ref f9))) (l9 : K.lookup f9 = some ⟨oc9, od9, .func (PySem.W.fnOf "is_net" "is_net" (defArgs s_is_net) (defBody s_is_net) (defScope s_is_net) .none kV9 dc9 pm9 an9 (.ref c9) ct9), sl9⟩) (e9 : PySem.W.codeIn K (.ref c9) "is_net" = true) (k9 : PySem.W.keepIn K (.ref f9) = true)
    {f10 c10 : Addr} {od10 an10 : Option Addr} {sl10 : Array (Option Value)} {oc10 kV10 dc10 pm10 ct10 : Value}
    (a10 : PySem.W.nsIn K mainGlobals "wires_in" = some (some (.ref f10))) (l10 : K.lookup f10 = some ⟨oc10, od10, .func (PySem.W.fnOf "wires_in" "wires_in" (defArgs s_wires_in) (defBody s_wires_in) (defScope s_wires_in) .none kV10 dc10 pm10 an10 (.ref c10) ct10), sl10⟩) (e10 : PySem.W.codeIn K (.ref c10) "wires_in" = true) (k10 : PySem.W.keepIn K (.ref f10) = true)
    {f11 c11 : Addr} {od11 an11 : Option Addr} {sl11 : Array (Option Value)} {oc11 kV11 dc11 pm11 ct11 : Value}
    (a11 : PySem.W.nsIn K mainGlobals "gate_worth" = some (some (.ref f11))) (l11 : K.lookup f11 = some ⟨oc11, od11, .func (PySem.W.fnOf "gate_worth" "gate_worth" (defArgs s_gate_worth) (defBody s_gate_worth) (defScope s_gate_worth) .none kV11 dc11 pm11 an11 (.ref c11) ct11), sl11⟩) (e11 : PySem.W.codeIn K (.ref c11) "gate_worth" = true) (k11 : PySem.W.keepIn K (.ref f11) = true)
    {f12 c12 : Addr} {od12 an12 : Option Addr} {sl12 : Array (Option Value)} {oc12 kV12 dc12 pm12 ct12 : Value}
    (a12 : PySem.W.nsIn K mainGlobals "worths" = some (some (.ref f12))) (l12 : K.lookup f12 = some ⟨oc12, od12, .func (PySem.W.fnOf "worths" "worths" (defArgs s_worths) (defBody s_worths) (defScope s_worths) .none kV12 dc12 pm12 an12 (.ref c12) ct12), sl12⟩) (e12 : PySem.W.codeIn K (.ref c12) "worths" = true) (k12 : PySem.W.keepIn K (.ref f12) = true)
    {f13 c13 : Addr} {od13 an13 : Option Addr} {sl13 : Array (Option Value)} {oc13 kV13 dc13 pm13 ct13 : Value}
    (a13 : PySem.W.nsIn K mainGlobals "outs_at" = some (some (.ref f13))) (l13 : K.lookup f13 = some ⟨oc13, od13, .func (PySem.W.fnOf "outs_at" "outs_at" (defArgs s_outs_at) (defBody s_outs_at) (defScope s_outs_at) .none kV13 dc13 pm13 an13 (.ref c13) ct13), sl13⟩) (e13 : PySem.W.codeIn K (.ref c13) "outs_at" = true) (k13 : PySem.W.keepIn K (.ref f13) = true)
    {P13 : Addr} {dd13 : Option Addr} {vs13 : Array Value} {ls13 : Array (Option Value)} {fl13 : Str} {tf13 tg13 tt13 : Tok} {fg13 tx13 : Int} {iF13 : Bool}
    (o13 : K.lookup c13 = some ⟨.type "code", dd13, .fields vs13, ls13⟩) (h13 : vs13[11]? = some (.ref P13) ∧ vs13.getD 11 .none = .ref P13 ∧ vs13.getD 18 .none = .str fl13 tf13 ∧ vs13.getD 7 .none = .int fg13 tg13 ∧ vs13.getD 9 .none = .bool iF13 ∧ vs13.getD 10 .none = .int tx13 tt13 ∧ c13 ≠ P13) (n13 : K.lookup P13 = none) (y13 : TabOf K mg h "outs_at")
    {f14 c14 : Addr} {od14 an14 : Option Addr} {sl14 : Array (Option Value)} {oc14 kV14 dc14 pm14 ct14 : Value}
    (a14 : PySem.W.nsIn K mainGlobals "places" = some (some (.ref f14))) (l14 : K.lookup f14 = some ⟨oc14, od14, .func (PySem.W.fnOf "places" "places" (defArgs s_places) (defBody s_places) (defScope s_places) .none kV14 dc14 pm14 an14 (.ref c14) ct14), sl14⟩) (e14 : PySem.W.codeIn K (.ref c14) "places" = true) (k14 : PySem.W.keepIn K (.ref f14) = true)
    {f15 c15 : Addr} {od15 an15 : Option Addr} {sl15 : Array (Option Value)} {oc15 kV15 dc15 pm15 ct15 : Value}
    (a15 : PySem.W.nsIn K mainGlobals "reached" = some (some (.ref f15))) (l15 : K.lookup f15 = some ⟨oc15, od15, .func (PySem.W.fnOf "reached" "reached" (defArgs s_reached) (defBody s_reached) (defScope s_reached) .none kV15 dc15 pm15 an15 (.ref c15) ct15), sl15⟩) (e15 : PySem.W.codeIn K (.ref c15) "reached" = true) (k15 : PySem.W.keepIn K (.ref f15) = true)
    {P15 : Addr} {dd15 : Option Addr} {vs15 : Array Value} {ls15 : Array (Option Value)} {fl15 : Str} {tf15 tg15 tt15 : Tok} {fg15 tx15 : Int} {iF15 : Bool}
    (o15 : K.lookup c15 = some ⟨.type "code", dd15, .fields vs15, ls15⟩) (h15 : vs15[11]? = some (.ref P15) ∧ vs15.getD 11 .none = .ref P15 ∧ vs15.getD 18 .none = .str fl15 tf15 ∧ vs15.getD 7 .none = .int fg15 tg15 ∧ vs15.getD 9 .none = .bool iF15 ∧ vs15.getD 10 .none = .int tx15 tt15 ∧ c15 ≠ P15) (n15 : K.lookup P15 = none) (y15 : TabOf K mg h "reached")
    {f16 c16 : Addr} {od16 an16 : Option Addr} {sl16 : Array (Option Value)} {oc16 kV16 dc16 pm16 ct16 : Value}
    (a16 : PySem.W.nsIn K mainGlobals "cone" = some (some (.ref f16))) (l16 : K.lookup f16 = some ⟨oc16, od16, .func (PySem.W.fnOf "cone" "cone" (defArgs s_cone) (defBody s_cone) (defScope s_cone) .none kV16 dc16 pm16 an16 (.ref c16) ct16), sl16⟩) (e16 : PySem.W.codeIn K (.ref c16) "cone" = true) (k16 : PySem.W.keepIn K (.ref f16) = true)
    {f17 c17 : Addr} {od17 an17 : Option Addr} {sl17 : Array (Option Value)} {oc17 kV17 dc17 pm17 ct17 : Value}
    (a17 : PySem.W.nsIn K mainGlobals "gate_masks" = some (some (.ref f17))) (l17 : K.lookup f17 = some ⟨oc17, od17, .func (PySem.W.fnOf "gate_masks" "gate_masks" (defArgs s_gate_masks) (defBody s_gate_masks) (defScope s_gate_masks) .none kV17 dc17 pm17 an17 (.ref c17) ct17), sl17⟩) (e17 : PySem.W.codeIn K (.ref c17) "gate_masks" = true) (k17 : PySem.W.keepIn K (.ref f17) = true)
    {f18 c18 : Addr} {od18 an18 : Option Addr} {sl18 : Array (Option Value)} {oc18 kV18 dc18 pm18 ct18 : Value}
    (a18 : PySem.W.nsIn K mainGlobals "cut_masks" = some (some (.ref f18))) (l18 : K.lookup f18 = some ⟨oc18, od18, .func (PySem.W.fnOf "cut_masks" "cut_masks" (defArgs s_cut_masks) (defBody s_cut_masks) (defScope s_cut_masks) .none kV18 dc18 pm18 an18 (.ref c18) ct18), sl18⟩) (e18 : PySem.W.codeIn K (.ref c18) "cut_masks" = true) (k18 : PySem.W.keepIn K (.ref f18) = true)
    {f19 c19 : Addr} {od19 an19 : Option Addr} {sl19 : Array (Option Value)} {oc19 kV19 dc19 pm19 ct19 : Value}
    (a19 : PySem.W.nsIn K mainGlobals "told_cuts" = some (some (.ref f19))) (l19 : K.lookup f19 = some ⟨oc19, od19, .func (PySem.W.fnOf "told_cuts" "told_cuts" (defArgs s_told_cuts) (defBody s_told_cuts) (defScope s_told_cuts) .none kV19 dc19 pm19 an19 (.ref c19) ct19), sl19⟩) (e19 : PySem.W.codeIn K (.ref c19) "told_cuts" = true) (k19 : PySem.W.keepIn K (.ref f19) = true)
    {f20 c20 : Addr} {od20 an20 : Option Addr} {sl20 : Array (Option Value)} {oc20 kV20 dc20 pm20 ct20 : Value}
    (a20 : PySem.W.nsIn K mainGlobals "cuts_of" = some (some (.ref f20))) (l20 : K.lookup f20 = some ⟨oc20, od20, .func (PySem.W.fnOf "cuts_of" "cuts_of" (defArgs s_cuts_of) (defBody s_cuts_of) (defScope s_cuts_of) .none kV20 dc20 pm20 an20 (.ref c20) ct20), sl20⟩) (e20 : PySem.W.codeIn K (.ref c20) "cuts_of" = true) (k20 : PySem.W.keepIn K (.ref f20) = true)
    {f21 c21 : Addr} {od21 an21 : Option Addr} {sl21 : Array (Option Value)} {oc21 kV21 dc21 pm21 ct21 : Value}
    (a21 : PySem.W.nsIn K mainGlobals "all_cuts" = some (some (.ref f21))) (l21 : K.lookup f21 = some ⟨oc21, od21, .func (PySem.W.fnOf "all_cuts" "all_cuts" (defArgs s_all_cuts) (defBody s_all_cuts) (defScope s_all_cuts) .none kV21 dc21 pm21 an21 (.ref c21) ct21), sl21⟩) (e21 : PySem.W.codeIn K (.ref c21) "all_cuts" = true) (k21 : PySem.W.keepIn K (.ref f21) = true)
    {P21 : Addr} {dd21 : Option Addr} {vs21 : Array Value} {ls21 : Array (Option Value)} {fl21 : Str} {tf21 tg21 tt21 : Tok} {fg21 tx21 : Int} {iF21 : Bool}
    (o21 : K.lookup c21 = some ⟨.type "code", dd21, .fields vs21, ls21⟩) (h21 : vs21[11]? = some (.ref P21) ∧ vs21.getD 11 .none = .ref P21 ∧ vs21.getD 18 .none = .str fl21 tf21 ∧ vs21.getD 7 .none = .int fg21 tg21 ∧ vs21.getD 9 .none = .bool iF21 ∧ vs21.getD 10 .none = .int tx21 tt21 ∧ c21 ≠ P21) (n21 : K.lookup P21 = none) (y21 : TabOf K mg h "all_cuts")
    {f22 c22 : Addr} {od22 an22 : Option Addr} {sl22 : Array (Option Value)} {oc22 kV22 dc22 pm22 ct22 : Value}
    (a22 : PySem.W.nsIn K mainGlobals "one_deeper" = some (some (.ref f22))) (l22 : K.lookup f22 = some ⟨oc22, od22, .func (PySem.W.fnOf "one_deeper" "one_deeper" (defArgs s_one_deeper) (defBody s_one_deeper) (defScope s_one_deeper) .none kV22 dc22 pm22 an22 (.ref c22) ct22), sl22⟩) (e22 : PySem.W.codeIn K (.ref c22) "one_deeper" = true) (k22 : PySem.W.keepIn K (.ref f22) = true)
    {f23 c23 : Addr} {od23 an23 : Option Addr} {sl23 : Array (Option Value)} {oc23 kV23 dc23 pm23 ct23 : Value}
    (a23 : PySem.W.nsIn K mainGlobals "depths_by" = some (some (.ref f23))) (l23 : K.lookup f23 = some ⟨oc23, od23, .func (PySem.W.fnOf "depths_by" "depths_by" (defArgs s_depths_by) (defBody s_depths_by) (defScope s_depths_by) .none kV23 dc23 pm23 an23 (.ref c23) ct23), sl23⟩) (e23 : PySem.W.codeIn K (.ref c23) "depths_by" = true) (k23 : PySem.W.keepIn K (.ref f23) = true)
    {f24 c24 : Addr} {od24 an24 : Option Addr} {sl24 : Array (Option Value)} {oc24 kV24 dc24 pm24 ct24 : Value}
    (a24 : PySem.W.nsIn K mainGlobals "depths" = some (some (.ref f24))) (l24 : K.lookup f24 = some ⟨oc24, od24, .func (PySem.W.fnOf "depths" "depths" (defArgs s_depths) (defBody s_depths) (defScope s_depths) .none kV24 dc24 pm24 an24 (.ref c24) ct24), sl24⟩) (e24 : PySem.W.codeIn K (.ref c24) "depths" = true) (k24 : PySem.W.keepIn K (.ref f24) = true)
    {f25 c25 : Addr} {od25 an25 : Option Addr} {sl25 : Array (Option Value)} {oc25 kV25 dc25 pm25 ct25 : Value}
    (a25 : PySem.W.nsIn K mainGlobals "with_deepest" = some (some (.ref f25))) (l25 : K.lookup f25 = some ⟨oc25, od25, .func (PySem.W.fnOf "with_deepest" "with_deepest" (defArgs s_with_deepest) (defBody s_with_deepest) (defScope s_with_deepest) .none kV25 dc25 pm25 an25 (.ref c25) ct25), sl25⟩) (e25 : PySem.W.codeIn K (.ref c25) "with_deepest" = true) (k25 : PySem.W.keepIn K (.ref f25) = true)
    {P25 : Addr} {dd25 : Option Addr} {vs25 : Array Value} {ls25 : Array (Option Value)} {fl25 : Str} {tf25 tg25 tt25 : Tok} {fg25 tx25 : Int} {iF25 : Bool}
    (o25 : K.lookup c25 = some ⟨.type "code", dd25, .fields vs25, ls25⟩) (h25 : vs25[11]? = some (.ref P25) ∧ vs25.getD 11 .none = .ref P25 ∧ vs25.getD 18 .none = .str fl25 tf25 ∧ vs25.getD 7 .none = .int fg25 tg25 ∧ vs25.getD 9 .none = .bool iF25 ∧ vs25.getD 10 .none = .int tx25 tt25 ∧ c25 ≠ P25) (n25 : K.lookup P25 = none) (y25 : TabOf K mg h "with_deepest")
    {f26 c26 : Addr} {od26 an26 : Option Addr} {sl26 : Array (Option Value)} {oc26 kV26 dc26 pm26 ct26 : Value}
    (a26 : PySem.W.nsIn K mainGlobals "cut_choices" = some (some (.ref f26))) (l26 : K.lookup f26 = some ⟨oc26, od26, .func (PySem.W.fnOf "cut_choices" "cut_choices" (defArgs s_cut_choices) (defBody s_cut_choices) (defScope s_cut_choices) .none kV26 dc26 pm26 an26 (.ref c26) ct26), sl26⟩) (e26 : PySem.W.codeIn K (.ref c26) "cut_choices" = true) (k26 : PySem.W.keepIn K (.ref f26) = true)
    {P26 : Addr} {dd26 : Option Addr} {vs26 : Array Value} {ls26 : Array (Option Value)} {fl26 : Str} {tf26 tg26 tt26 : Tok} {fg26 tx26 : Int} {iF26 : Bool}
    (o26 : K.lookup c26 = some ⟨.type "code", dd26, .fields vs26, ls26⟩) (h26 : vs26[11]? = some (.ref P26) ∧ vs26.getD 11 .none = .ref P26 ∧ vs26.getD 18 .none = .str fl26 tf26 ∧ vs26.getD 7 .none = .int fg26 tg26 ∧ vs26.getD 9 .none = .bool iF26 ∧ vs26.getD 10 .none = .int tx26 tt26 ∧ c26 ≠ P26) (n26 : K.lookup P26 = none) (y26 : TabOf K mg h "cut_choices")
    {f27 c27 : Addr} {od27 an27 : Option Addr} {sl27 : Array (Option Value)} {oc27 kV27 dc27 pm27 ct27 : Value}
    (a27 : PySem.W.nsIn K mainGlobals "first_needs" = some (some (.ref f27))) (l27 : K.lookup f27 = some ⟨oc27, od27, .func (PySem.W.fnOf "first_needs" "first_needs" (defArgs s_first_needs) (defBody s_first_needs) (defScope s_first_needs) .none kV27 dc27 pm27 an27 (.ref c27) ct27), sl27⟩) (e27 : PySem.W.codeIn K (.ref c27) "first_needs" = true) (k27 : PySem.W.keepIn K (.ref f27) = true)
    {f28 c28 : Addr} {od28 an28 : Option Addr} {sl28 : Array (Option Value)} {oc28 kV28 dc28 pm28 ct28 : Value}
    (a28 : PySem.W.nsIn K mainGlobals "next_gate" = some (some (.ref f28))) (l28 : K.lookup f28 = some ⟨oc28, od28, .func (PySem.W.fnOf "next_gate" "next_gate" (defArgs s_next_gate) (defBody s_next_gate) (defScope s_next_gate) .none kV28 dc28 pm28 an28 (.ref c28) ct28), sl28⟩) (e28 : PySem.W.codeIn K (.ref c28) "next_gate" = true) (k28 : PySem.W.keepIn K (.ref f28) = true)
    {f29 c29 : Addr} {od29 an29 : Option Addr} {sl29 : Array (Option Value)} {oc29 kV29 dc29 pm29 ct29 : Value}
    (a29 : PySem.W.nsIn K mainGlobals "fitting_cuts" = some (some (.ref f29))) (l29 : K.lookup f29 = some ⟨oc29, od29, .func (PySem.W.fnOf "fitting_cuts" "fitting_cuts" (defArgs s_fitting_cuts) (defBody s_fitting_cuts) (defScope s_fitting_cuts) .none kV29 dc29 pm29 an29 (.ref c29) ct29), sl29⟩) (e29 : PySem.W.codeIn K (.ref c29) "fitting_cuts" = true) (k29 : PySem.W.keepIn K (.ref f29) = true)
    {f30 c30 : Addr} {od30 an30 : Option Addr} {sl30 : Array (Option Value)} {oc30 kV30 dc30 pm30 ct30 : Value}
    (a30 : PySem.W.nsIn K mainGlobals "needs_with" = some (some (.ref f30))) (l30 : K.lookup f30 = some ⟨oc30, od30, .func (PySem.W.fnOf "needs_with" "needs_with" (defArgs s_needs_with) (defBody s_needs_with) (defScope s_needs_with) .none kV30 dc30 pm30 an30 (.ref c30) ct30), sl30⟩) (e30 : PySem.W.codeIn K (.ref c30) "needs_with" = true) (k30 : PySem.W.keepIn K (.ref f30) = true)
    {f31 c31 : Addr} {od31 an31 : Option Addr} {sl31 : Array (Option Value)} {oc31 kV31 dc31 pm31 ct31 : Value}
    (a31 : PySem.W.nsIn K mainGlobals "fewest_tables" = some (some (.ref f31))) (l31 : K.lookup f31 = some ⟨oc31, od31, .func (PySem.W.fnOf "fewest_tables" "fewest_tables" (defArgs s_fewest_tables) (defBody s_fewest_tables) (defScope s_fewest_tables) .none kV31 dc31 pm31 an31 (.ref c31) ct31), sl31⟩) (e31 : PySem.W.codeIn K (.ref c31) "fewest_tables" = true) (k31 : PySem.W.keepIn K (.ref f31) = true)
    {f32 c32 : Addr} {od32 an32 : Option Addr} {sl32 : Array (Option Value)} {oc32 kV32 dc32 pm32 ct32 : Value}
    (a32 : PySem.W.nsIn K mainGlobals "count_paper" = some (some (.ref f32))) (l32 : K.lookup f32 = some ⟨oc32, od32, .func (PySem.W.fnOf "count_paper" "count_paper" (defArgs s_count_paper) (defBody s_count_paper) (defScope s_count_paper) .none kV32 dc32 pm32 an32 (.ref c32) ct32), sl32⟩) (e32 : PySem.W.codeIn K (.ref c32) "count_paper" = true) (k32 : PySem.W.keepIn K (.ref f32) = true)
    {f33 c33 : Addr} {od33 an33 : Option Addr} {sl33 : Array (Option Value)} {oc33 kV33 dc33 pm33 ct33 : Value}
    (a33 : PySem.W.nsIn K mainGlobals "fewest" = some (some (.ref f33))) (l33 : K.lookup f33 = some ⟨oc33, od33, .func (PySem.W.fnOf "fewest" "fewest" (defArgs s_fewest) (defBody s_fewest) (defScope s_fewest) .none kV33 dc33 pm33 an33 (.ref c33) ct33), sl33⟩) (e33 : PySem.W.codeIn K (.ref c33) "fewest" = true) (k33 : PySem.W.keepIn K (.ref f33) = true)
    {f34 c34 : Addr} {od34 an34 : Option Addr} {sl34 : Array (Option Value)} {oc34 kV34 dc34 pm34 ct34 : Value}
    (a34 : PySem.W.nsIn K mainGlobals "_law_well" = some (some (.ref f34))) (l34 : K.lookup f34 = some ⟨oc34, od34, .func (PySem.W.fnOf "_law_well" "_law_well" (defArgs s__law_well) (defBody s__law_well) (defScope s__law_well) .none kV34 dc34 pm34 an34 (.ref c34) ct34), sl34⟩) (e34 : PySem.W.codeIn K (.ref c34) "_law_well" = true) (k34 : PySem.W.keepIn K (.ref f34) = true)
    {f35 c35 : Addr} {od35 an35 : Option Addr} {sl35 : Array (Option Value)} {oc35 kV35 dc35 pm35 ct35 : Value}
    (a35 : PySem.W.nsIn K mainGlobals "_law_take" = some (some (.ref f35))) (l35 : K.lookup f35 = some ⟨oc35, od35, .func (PySem.W.fnOf "_law_take" "_law_take" (defArgs s__law_take) (defBody s__law_take) (defScope s__law_take) .none kV35 dc35 pm35 an35 (.ref c35) ct35), sl35⟩) (e35 : PySem.W.codeIn K (.ref c35) "_law_take" = true) (k35 : PySem.W.keepIn K (.ref f35) = true)
    {f36 c36 : Addr} {od36 an36 : Option Addr} {sl36 : Array (Option Value)} {oc36 kV36 dc36 pm36 ct36 : Value}
    (a36 : PySem.W.nsIn K mainGlobals "_law_place" = some (some (.ref f36))) (l36 : K.lookup f36 = some ⟨oc36, od36, .func (PySem.W.fnOf "_law_place" "_law_place" (defArgs s__law_place) (defBody s__law_place) (defScope s__law_place) .none kV36 dc36 pm36 an36 (.ref c36) ct36), sl36⟩) (e36 : PySem.W.codeIn K (.ref c36) "_law_place" = true) (k36 : PySem.W.keepIn K (.ref f36) = true)
    {f37 c37 : Addr} {od37 an37 : Option Addr} {sl37 : Array (Option Value)} {oc37 kV37 dc37 pm37 ct37 : Value}
    (a37 : PySem.W.nsIn K mainGlobals "_law_net" = some (some (.ref f37))) (l37 : K.lookup f37 = some ⟨oc37, od37, .func (PySem.W.fnOf "_law_net" "_law_net" (defArgs s__law_net) (defBody s__law_net) (defScope s__law_net) .none kV37 dc37 pm37 an37 (.ref c37) ct37), sl37⟩) (e37 : PySem.W.codeIn K (.ref c37) "_law_net" = true) (k37 : PySem.W.keepIn K (.ref f37) = true)
    {f38 c38 : Addr} {od38 an38 : Option Addr} {sl38 : Array (Option Value)} {oc38 kV38 dc38 pm38 ct38 : Value}
    (a38 : PySem.W.nsIn K mainGlobals "_law_order" = some (some (.ref f38))) (l38 : K.lookup f38 = some ⟨oc38, od38, .func (PySem.W.fnOf "_law_order" "_law_order" (defArgs s__law_order) (defBody s__law_order) (defScope s__law_order) .none kV38 dc38 pm38 an38 (.ref c38) ct38), sl38⟩) (e38 : PySem.W.codeIn K (.ref c38) "_law_order" = true) (k38 : PySem.W.keepIn K (.ref f38) = true)
    {f39 c39 : Addr} {od39 an39 : Option Addr} {sl39 : Array (Option Value)} {oc39 kV39 dc39 pm39 ct39 : Value}
    (a39 : PySem.W.nsIn K mainGlobals "_law_turned" = some (some (.ref f39))) (l39 : K.lookup f39 = some ⟨oc39, od39, .func (PySem.W.fnOf "_law_turned" "_law_turned" (defArgs s__law_turned) (defBody s__law_turned) (defScope s__law_turned) .none kV39 dc39 pm39 an39 (.ref c39) ct39), sl39⟩) (e39 : PySem.W.codeIn K (.ref c39) "_law_turned" = true) (k39 : PySem.W.keepIn K (.ref f39) = true)
    {f40 c40 : Addr} {od40 an40 : Option Addr} {sl40 : Array (Option Value)} {oc40 kV40 dc40 pm40 ct40 : Value}
    (a40 : PySem.W.nsIn K mainGlobals "_law_called" = some (some (.ref f40))) (l40 : K.lookup f40 = some ⟨oc40, od40, .func (PySem.W.fnOf "_law_called" "_law_called" (defArgs s__law_called) (defBody s__law_called) (defScope s__law_called) .none kV40 dc40 pm40 an40 (.ref c40) ct40), sl40⟩) (e40 : PySem.W.codeIn K (.ref c40) "_law_called" = true) (k40 : PySem.W.keepIn K (.ref f40) = true)
    {f41 c41 : Addr} {od41 an41 : Option Addr} {sl41 : Array (Option Value)} {oc41 kV41 dc41 pm41 ct41 : Value}
    (a41 : PySem.W.nsIn K mainGlobals "_law_alike" = some (some (.ref f41))) (l41 : K.lookup f41 = some ⟨oc41, od41, .func (PySem.W.fnOf "_law_alike" "_law_alike" (defArgs s__law_alike) (defBody s__law_alike) (defScope s__law_alike) .none kV41 dc41 pm41 an41 (.ref c41) ct41), sl41⟩) (e41 : PySem.W.codeIn K (.ref c41) "_law_alike" = true) (k41 : PySem.W.keepIn K (.ref f41) = true)
    {f42 c42 : Addr} {od42 an42 : Option Addr} {sl42 : Array (Option Value)} {oc42 kV42 dc42 pm42 ct42 : Value}
    (a42 : PySem.W.nsIn K mainGlobals "_law_rows_alike" = some (some (.ref f42))) (l42 : K.lookup f42 = some ⟨oc42, od42, .func (PySem.W.fnOf "_law_rows_alike" "_law_rows_alike" (defArgs s__law_rows_alike) (defBody s__law_rows_alike) (defScope s__law_rows_alike) .none kV42 dc42 pm42 an42 (.ref c42) ct42), sl42⟩) (e42 : PySem.W.codeIn K (.ref c42) "_law_rows_alike" = true) (k42 : PySem.W.keepIn K (.ref f42) = true)
    {f43 c43 : Addr} {od43 an43 : Option Addr} {sl43 : Array (Option Value)} {oc43 kV43 dc43 pm43 ct43 : Value}
    (a43 : PySem.W.nsIn K mainGlobals "law" = some (some (.ref f43))) (l43 : K.lookup f43 = some ⟨oc43, od43, .func (PySem.W.fnOf "law" "law" (defArgs s_law) (defBody s_law) (defScope s_law) .none kV43 dc43 pm43 an43 (.ref c43) ct43), sl43⟩) (e43 : PySem.W.codeIn K (.ref c43) "law" = true) (k43 : PySem.W.keepIn K (.ref f43) = true)
    {CNoDepth : Addr} (eg_NoDepth : PySem.W.nsIn K mainGlobals "NoDepth" = some (some (.ref CNoDepth))) (ek_NoDepth : PySem.W.keepIn K (.ref CNoDepth) = true) (et_NoDepth : PySem.W.typeIn K (.ref CNoDepth) = some (.type "type")) (ei_NoDepth : PySem.W.isClsIn K CNoDepth = true) (e1_NoDepth : PySem.W.findIn K (.ref CNoDepth) "__getattribute__" = some (some (.builtin "BaseException.__getattribute__"))) (e2_NoDepth : PySem.W.findIn K (.ref CNoDepth) "__getattr__" = some none) (e3_NoDepth : PySem.W.subIn K (.ref CNoDepth) (.type "BaseException") = some true) (e4_NoDepth : PySem.W.hasDictIn K CNoDepth = true) (e5_NoDepth : PySem.W.findIn K (.ref CNoDepth) "__class__" = some (some (.builtin "object.__class__"))) (e6_NoDepth : PySem.W.specialIn K (.builtin "object.__class__") "__get__" = some (some (.builtin "getset_descriptor.__get__"))) (e7_NoDepth : PySem.W.takesIn K (.builtin "object.__class__") = some true) (e8_NoDepth : PySem.W.mroIn K CNoDepth (.type "object") = some true)
    {fINoDepth cINoDepth clNoDepth NsNoDepth : Addr} {odINoDepth odcNoDepth odlNoDepth anNoDepth : Option Addr} {slINoDepth slcNoDepth sllNoDepth : Array (Option Value)} {ocNoDepth occNoDepth oclNoDepth kVNoDepth dcNoDepth pmNoDepth ctNoDepth : Value} {vsNoDepth : Array Value} {t1NoDepth t2NoDepth : Tok} {fileNoDepth : Str} (i1_NoDepth : PySem.W.findIn K (.ref CNoDepth) "__init__" = some (some (.ref fINoDepth))) (i2_NoDepth : PySem.W.typeIn K (.ref fINoDepth) = some (.type "function")) (i3_NoDepth : K.lookup fINoDepth = some ⟨ocNoDepth, odINoDepth, .func { PySem.W.fnOf "__init__" "NoDepth.__init__" (defArgs s_NoDepth___init__) (defBody s_NoDepth___init__) (defScope s_NoDepth___init__) .none kVNoDepth dcNoDepth pmNoDepth anNoDepth (.ref cINoDepth) ctNoDepth with closure := [(("__class__" : Str), clNoDepth)] }, slINoDepth⟩) (i4_NoDepth : K.lookup cINoDepth = some ⟨occNoDepth, odcNoDepth, .fields vsNoDepth, slcNoDepth⟩) (i5_NoDepth : vsNoDepth[1]? = some (.str "NoDepth.__init__" t1NoDepth) ∧ vsNoDepth[2]? = some (.str fileNoDepth t2NoDepth)) (i6_NoDepth : (l.prog.main.file == fileNoDepth) = true) (i7_NoDepth : K.lookup clNoDepth = some ⟨oclNoDepth, odlNoDepth, .cell (some (.ref CNoDepth)), sllNoDepth⟩) (i9_NoDepth : PySem.W.findIn K (.ref CNoDepth) "__setattr__" = some (some (.builtin "object.__setattr__"))) (ia_NoDepth : PySem.W.ks_superIn K CNoDepth CNoDepth "__init__" = some (some (.builtin "ValueError.__init__"))) (ib_NoDepth : PySem.W.subIn K (.ref CNoDepth) (.type "ValueError") = some true) (ic_NoDepth : PySem.W.mroIn K CNoDepth (.ref CNoDepth) = some true) (id_NoDepth : PySem.W.findIn K (.ref CNoDepth) "least" = some none) (ie_NoDepth : PySem.W.nsIn K PySem.cStatics "thirdparty.any" = some none) (if_NoDepth : (l.prog.main.scope.names.lookup ("super" : Str)).isSome = false) {nmNoDepth qNoDepth : Str} {bsNoDepth bmNoDepth : List Value} {snNoDepth : List Str} {subNoDepth : List Value} {abNoDepth : Bool} {colNoDepth : Option Bool} {ddNoDepth : Option Addr} {k0NoDepth k1NoDepth k2NoDepth k3NoDepth k5NoDepth : Option Value} (ig_NoDepth : K.lookup CNoDepth = some (excClassObj nmNoDepth qNoDepth CNoDepth NsNoDepth bsNoDepth bmNoDepth true snNoDepth subNoDepth abNoDepth colNoDepth ddNoDepth k0NoDepth k1NoDepth k2NoDepth k3NoDepth k5NoDepth "ValueError.__new__")) (ih_NoDepth : PySem.HandSPX.refsVE bmNoDepth = true)
    {CTooMany : Addr} (eg_TooMany : PySem.W.nsIn K mainGlobals "TooMany" = some (some (.ref CTooMany))) (ek_TooMany : PySem.W.keepIn K (.ref CTooMany) = true) (et_TooMany : PySem.W.typeIn K (.ref CTooMany) = some (.type "type")) (ei_TooMany : PySem.W.isClsIn K CTooMany = true) (e1_TooMany : PySem.W.findIn K (.ref CTooMany) "__getattribute__" = some (some (.builtin "BaseException.__getattribute__"))) (e2_TooMany : PySem.W.findIn K (.ref CTooMany) "__getattr__" = some none) (e3_TooMany : PySem.W.subIn K (.ref CTooMany) (.type "BaseException") = some true) (e4_TooMany : PySem.W.hasDictIn K CTooMany = true) (e5_TooMany : PySem.W.findIn K (.ref CTooMany) "__class__" = some (some (.builtin "object.__class__"))) (e6_TooMany : PySem.W.specialIn K (.builtin "object.__class__") "__get__" = some (some (.builtin "getset_descriptor.__get__"))) (e7_TooMany : PySem.W.takesIn K (.builtin "object.__class__") = some true) (e8_TooMany : PySem.W.mroIn K CTooMany (.type "object") = some true) (ex_TooMany : PySem.W.excIn K CTooMany [.type "ValueError", .type "Exception", .type "BaseException", .type "object"] "ValueError.__new__" = true)
    (su_NoDepth_NoDepth : PySem.W.subIn K (.ref CNoDepth) (.ref CNoDepth) = some true)
    (z_all : PySem.W.nsIn K mainGlobals "all" = some none) (z_bool : PySem.W.nsIn K mainGlobals "bool" = some none) (z_dict : PySem.W.nsIn K mainGlobals "dict" = some none) (z_enumerate : PySem.W.nsIn K mainGlobals "enumerate" = some none) (z_int : PySem.W.nsIn K mainGlobals "int" = some none) (z_isinstance : PySem.W.nsIn K mainGlobals "isinstance" = some none) (z_len : PySem.W.nsIn K mainGlobals "len" = some none) (z_list : PySem.W.nsIn K mainGlobals "list" = some none) (z_max : PySem.W.nsIn K mainGlobals "max" = some none) (z_min : PySem.W.nsIn K mainGlobals "min" = some none) (z_range : PySem.W.nsIn K mainGlobals "range" = some none) (z_sorted : PySem.W.nsIn K mainGlobals "sorted" = some none) (z_super : PySem.W.nsIn K mainGlobals "super" = some none) (z_tuple : PySem.W.nsIn K mainGlobals "tuple" = some none)
    {t_KINDS t_MOST_GATES t_MOST_GATES_TRIED t_MOST_INPUTS t_MOST_OUTS : Tok} (q_KINDS : PySem.W.nsIn K mainGlobals "KINDS" = some (some (.int 16 t_KINDS))) (q_MOST_GATES : PySem.W.nsIn K mainGlobals "MOST_GATES" = some (some (.int 16 t_MOST_GATES))) (q_MOST_GATES_TRIED : PySem.W.nsIn K mainGlobals "MOST_GATES_TRIED" = some (some (.int 6 t_MOST_GATES_TRIED))) (q_MOST_INPUTS : PySem.W.nsIn K mainGlobals "MOST_INPUTS" = some (some (.int 8 t_MOST_INPUTS))) (q_MOST_OUTS : PySem.W.nsIn K mainGlobals "MOST_OUTS" = some (some (.int 8 t_MOST_OUTS))) : LamX.LawAtS l w K L2.CX0 30 63 "_law_script" mg fa h := by
  have e := hfa.symm.trans (PySem.W.mg_of X G a43)
  cases e
  have D_wires_of : Dfn K mg "wires_of" s_wires_of f0 c0 := ⟨⟨_, _, _, _, _, _, _, _, l0⟩, e0, k0, PySem.W.mg_of X G a0⟩
  have D_fits : Dfn K mg "fits" s_fits f1 c1 := ⟨⟨_, _, _, _, _, _, _, _, l1⟩, e1, k1, PySem.W.mg_of X G a1⟩
  have D_has_part : Dfn K mg "has_part" s_has_part f2 c2 := ⟨⟨_, _, _, _, _, _, _, _, l2⟩, e2, k2, PySem.W.mg_of X G a2⟩
  have D_is_whole : Dfn K mg "is_whole" s_is_whole f3 c3 := ⟨⟨_, _, _, _, _, _, _, _, l3⟩, e3, k3, PySem.W.mg_of X G a3⟩
  have D_is_below : Dfn K mg "is_below" s_is_below f4 c4 := ⟨⟨_, _, _, _, _, _, _, _, l4⟩, e4, k4, PySem.W.mg_of X G a4⟩
  have D_is_many : Dfn K mg "is_many" s_is_many f5 c5 := ⟨⟨_, _, _, _, _, _, _, _, l5⟩, e5, k5, PySem.W.mg_of X G a5⟩
  have D_is_gate : Dfn K mg "is_gate" s_is_gate f6 c6 := ⟨⟨_, _, _, _, _, _, _, _, l6⟩, e6, k6, PySem.W.mg_of X G a6⟩
  have D_are_gates : Dfn K mg "are_gates" s_are_gates f7 c7 := ⟨⟨_, _, _, _, _, _, _, _, l7⟩, e7, k7, PySem.W.mg_of X G a7⟩
  have D_are_outs : Dfn K mg "are_outs" s_are_outs f8 c8 := ⟨⟨_, _, _, _, _, _, _, _, l8⟩, e8, k8, PySem.W.mg_of X G a8⟩
  have D_is_net : Dfn K mg "is_net" s_is_net f9 c9 := ⟨⟨_, _, _, _, _, _, _, _, l9⟩, e9, k9, PySem.W.mg_of X G a9⟩
  have D_wires_in : Dfn K mg "wires_in" s_wires_in f10 c10 := ⟨⟨_, _, _, _, _, _, _, _, l10⟩, e10, k10, PySem.W.mg_of X G a10⟩
  have D_gate_worth : Dfn K mg "gate_worth" s_gate_worth f11 c11 := ⟨⟨_, _, _, _, _, _, _, _, l11⟩, e11, k11, PySem.W.mg_of X G a11⟩
  have D_worths : Dfn K mg "worths" s_worths f12 c12 := ⟨⟨_, _, _, _, _, _, _, _, l12⟩, e12, k12, PySem.W.mg_of X G a12⟩
  have D_outs_at : Dfn K mg "outs_at" s_outs_at f13 c13 := ⟨⟨_, _, _, _, _, _, _, _, l13⟩, e13, k13, PySem.W.mg_of X G a13⟩
  have D_places : Dfn K mg "places" s_places f14 c14 := ⟨⟨_, _, _, _, _, _, _, _, l14⟩, e14, k14, PySem.W.mg_of X G a14⟩
  have D_reached : Dfn K mg "reached" s_reached f15 c15 := ⟨⟨_, _, _, _, _, _, _, _, l15⟩, e15, k15, PySem.W.mg_of X G a15⟩
  have D_cone : Dfn K mg "cone" s_cone f16 c16 := ⟨⟨_, _, _, _, _, _, _, _, l16⟩, e16, k16, PySem.W.mg_of X G a16⟩
  have D_gate_masks : Dfn K mg "gate_masks" s_gate_masks f17 c17 := ⟨⟨_, _, _, _, _, _, _, _, l17⟩, e17, k17, PySem.W.mg_of X G a17⟩
  have D_cut_masks : Dfn K mg "cut_masks" s_cut_masks f18 c18 := ⟨⟨_, _, _, _, _, _, _, _, l18⟩, e18, k18, PySem.W.mg_of X G a18⟩
  have D_told_cuts : Dfn K mg "told_cuts" s_told_cuts f19 c19 := ⟨⟨_, _, _, _, _, _, _, _, l19⟩, e19, k19, PySem.W.mg_of X G a19⟩
  have D_cuts_of : Dfn K mg "cuts_of" s_cuts_of f20 c20 := ⟨⟨_, _, _, _, _, _, _, _, l20⟩, e20, k20, PySem.W.mg_of X G a20⟩
  have D_all_cuts : Dfn K mg "all_cuts" s_all_cuts f21 c21 := ⟨⟨_, _, _, _, _, _, _, _, l21⟩, e21, k21, PySem.W.mg_of X G a21⟩
  have D_one_deeper : Dfn K mg "one_deeper" s_one_deeper f22 c22 := ⟨⟨_, _, _, _, _, _, _, _, l22⟩, e22, k22, PySem.W.mg_of X G a22⟩
  have D_depths_by : Dfn K mg "depths_by" s_depths_by f23 c23 := ⟨⟨_, _, _, _, _, _, _, _, l23⟩, e23, k23, PySem.W.mg_of X G a23⟩
  have D_depths : Dfn K mg "depths" s_depths f24 c24 := ⟨⟨_, _, _, _, _, _, _, _, l24⟩, e24, k24, PySem.W.mg_of X G a24⟩
  have D_with_deepest : Dfn K mg "with_deepest" s_with_deepest f25 c25 := ⟨⟨_, _, _, _, _, _, _, _, l25⟩, e25, k25, PySem.W.mg_of X G a25⟩
  have D_cut_choices : Dfn K mg "cut_choices" s_cut_choices f26 c26 := ⟨⟨_, _, _, _, _, _, _, _, l26⟩, e26, k26, PySem.W.mg_of X G a26⟩
  have D_first_needs : Dfn K mg "first_needs" s_first_needs f27 c27 := ⟨⟨_, _, _, _, _, _, _, _, l27⟩, e27, k27, PySem.W.mg_of X G a27⟩
  have D_next_gate : Dfn K mg "next_gate" s_next_gate f28 c28 := ⟨⟨_, _, _, _, _, _, _, _, l28⟩, e28, k28, PySem.W.mg_of X G a28⟩
  have D_fitting_cuts : Dfn K mg "fitting_cuts" s_fitting_cuts f29 c29 := ⟨⟨_, _, _, _, _, _, _, _, l29⟩, e29, k29, PySem.W.mg_of X G a29⟩
  have D_needs_with : Dfn K mg "needs_with" s_needs_with f30 c30 := ⟨⟨_, _, _, _, _, _, _, _, l30⟩, e30, k30, PySem.W.mg_of X G a30⟩
  have D_fewest_tables : Dfn K mg "fewest_tables" s_fewest_tables f31 c31 := ⟨⟨_, _, _, _, _, _, _, _, l31⟩, e31, k31, PySem.W.mg_of X G a31⟩
  have D_count_paper : Dfn K mg "count_paper" s_count_paper f32 c32 := ⟨⟨_, _, _, _, _, _, _, _, l32⟩, e32, k32, PySem.W.mg_of X G a32⟩
  have D_fewest : Dfn K mg "fewest" s_fewest f33 c33 := ⟨⟨_, _, _, _, _, _, _, _, l33⟩, e33, k33, PySem.W.mg_of X G a33⟩
  have D__law_well : Dfn K mg "_law_well" s__law_well f34 c34 := ⟨⟨_, _, _, _, _, _, _, _, l34⟩, e34, k34, PySem.W.mg_of X G a34⟩
  have D__law_take : Dfn K mg "_law_take" s__law_take f35 c35 := ⟨⟨_, _, _, _, _, _, _, _, l35⟩, e35, k35, PySem.W.mg_of X G a35⟩
  have D__law_place : Dfn K mg "_law_place" s__law_place f36 c36 := ⟨⟨_, _, _, _, _, _, _, _, l36⟩, e36, k36, PySem.W.mg_of X G a36⟩
  have D__law_net : Dfn K mg "_law_net" s__law_net f37 c37 := ⟨⟨_, _, _, _, _, _, _, _, l37⟩, e37, k37, PySem.W.mg_of X G a37⟩
  have D__law_order : Dfn K mg "_law_order" s__law_order f38 c38 := ⟨⟨_, _, _, _, _, _, _, _, l38⟩, e38, k38, PySem.W.mg_of X G a38⟩
  have D__law_turned : Dfn K mg "_law_turned" s__law_turned f39 c39 := ⟨⟨_, _, _, _, _, _, _, _, l39⟩, e39, k39, PySem.W.mg_of X G a39⟩
  have D__law_called : Dfn K mg "_law_called" s__law_called f40 c40 := ⟨⟨_, _, _, _, _, _, _, _, l40⟩, e40, k40, PySem.W.mg_of X G a40⟩
  have D__law_alike : Dfn K mg "_law_alike" s__law_alike f41 c41 := ⟨⟨_, _, _, _, _, _, _, _, l41⟩, e41, k41, PySem.W.mg_of X G a41⟩
  have D__law_rows_alike : Dfn K mg "_law_rows_alike" s__law_rows_alike f42 c42 := ⟨⟨_, _, _, _, _, _, _, _, l42⟩, e42, k42, PySem.W.mg_of X G a42⟩
  have x_NoDepth : ExcT K mg "NoDepth" CNoDepth := ⟨PySem.W.mg_of X G eg_NoDepth, ek_NoDepth, et_NoDepth, ei_NoDepth, ⟨e1_NoDepth, e2_NoDepth, e3_NoDepth, e4_NoDepth, e5_NoDepth, e6_NoDepth, e7_NoDepth, e8_NoDepth⟩⟩
  have x_TooMany : ExcM K mg "TooMany" CTooMany := ⟨⟨PySem.W.mg_of X G eg_TooMany, ek_TooMany, et_TooMany, ei_TooMany, ⟨e1_TooMany, e2_TooMany, e3_TooMany, e4_TooMany, e5_TooMany, e6_TooMany, e7_TooMany, e8_TooMany⟩⟩, ex_TooMany⟩
  have T : Txt mg := ⟨PySem.W.mg_none_of X G z_all, PySem.W.mg_none_of X G z_bool, PySem.W.mg_none_of X G z_dict, PySem.W.mg_none_of X G z_enumerate, PySem.W.mg_none_of X G z_int, PySem.W.mg_none_of X G z_isinstance, PySem.W.mg_none_of X G z_len, PySem.W.mg_none_of X G z_list, PySem.W.mg_none_of X G z_max, PySem.W.mg_none_of X G z_min, PySem.W.mg_none_of X G z_range, PySem.W.mg_none_of X G z_sorted, PySem.W.mg_none_of X G z_super, PySem.W.mg_none_of X G z_tuple, ⟨_, PySem.W.mg_of X G q_KINDS, ⟨_, rfl⟩⟩, ⟨_, PySem.W.mg_of X G q_MOST_GATES, ⟨_, rfl⟩⟩, ⟨_, PySem.W.mg_of X G q_MOST_GATES_TRIED, ⟨_, rfl⟩⟩, ⟨_, PySem.W.mg_of X G q_MOST_INPUTS, ⟨_, rfl⟩⟩, ⟨_, PySem.W.mg_of X G q_MOST_OUTS, ⟨_, rfl⟩⟩⟩
  have o_NoDepth : L2.OexC K CNoDepth := ⟨⟨_, _, _, _, _, _, _, _, _, _, _, _, _, _, _, ig_NoDepth, ih_NoDepth⟩, i9_NoDepth, e3_NoDepth, et_NoDepth, ek_NoDepth⟩
  have s_NoDepth : SupF l.prog K mg CNoDepth fINoDepth cINoDepth clNoDepth { PySem.W.fnOf "__init__" "NoDepth.__init__" (defArgs s_NoDepth___init__) (defBody s_NoDepth___init__) (defScope s_NoDepth___init__) .none kVNoDepth dcNoDepth pmNoDepth anNoDepth (.ref cINoDepth) ctNoDepth with closure := [(("__class__" : Str), clNoDepth)] } "least" := ⟨⟨_, _, _, i3_NoDepth⟩, ⟨_, _, _, i7_NoDepth⟩, rfl, ⟨_, _, _, _, _, _, _, i4_NoDepth, i5_NoDepth.1, i5_NoDepth.2, i6_NoDepth⟩, if_NoDepth, rfl, rfl, rfl, rfl, rfl, rfl, rfl, ⟨_, rfl, rfl⟩, o_NoDepth, ia_NoDepth, ib_NoDepth, ic_NoDepth, id_NoDepth, ie_NoDepth, T.b_super, by decide +kernel, by decide +kernel, by decide +kernel⟩
  have i_NoDepth : ∀ base : Heap, SupI l.prog w K mg base "NoDepth" CNoDepth "least" 1 := fun base => ⟨o_NoDepth, ⟨_, _, i1_NoDepth, i2_NoDepth, supi_NoDepth s_NoDepth, .all (fun us hl => match us, hl with | [_, _], _ => rfl)⟩, x_NoDepth.g⟩
  refine ⟨(PySem.W.fnOf "law" "law" (defArgs s_law) (defBody s_law) (defScope s_law) .none kV43 dc43 pm43 an43 (.ref c43) ct43), [(c0, P0), (c7, P7), (c8, P8), (c13, P13), (c15, P15), (c21, P21), (c25, P25), (c26, P26)], spLaw K ([(c0, P0), (c7, P7), (c8, P8), (c13, P13), (c15, P15), (c21, P21), (c25, P25), (c26, P26)].map (·.2)), ?t0, ?t1, ?t2, fun s v => .of_eq rfl, fun H a ns hl _ hH hS => ⟨a, ns, rfl, hS, hl, fun p hp => ?t3, fun _ => rfl⟩, fun base _ _ TB => ?t4⟩
  case t0 => 
    intro p hp
    simp only [List.mem_cons, List.not_mem_nil, or_false] at hp
    rcases hp with rfl | rfl | rfl | rfl | rfl | rfl | rfl | rfl
    · exact y0 f0 c0 P0 _ _ _ _ _ _ (PySem.W.mg_of X G a0) l0 rfl rfl o0 h0.1
    · exact y7 f7 c7 P7 _ _ _ _ _ _ (PySem.W.mg_of X G a7) l7 rfl rfl o7 h7.1
    · exact y8 f8 c8 P8 _ _ _ _ _ _ (PySem.W.mg_of X G a8) l8 rfl rfl o8 h8.1
    · exact y13 f13 c13 P13 _ _ _ _ _ _ (PySem.W.mg_of X G a13) l13 rfl rfl o13 h13.1
    · exact y15 f15 c15 P15 _ _ _ _ _ _ (PySem.W.mg_of X G a15) l15 rfl rfl o15 h15.1
    · exact y21 f21 c21 P21 _ _ _ _ _ _ (PySem.W.mg_of X G a21) l21 rfl rfl o21 h21.1
    · exact y25 f25 c25 P25 _ _ _ _ _ _ (PySem.W.mg_of X G a25) l25 rfl rfl o25 h25.1
    · exact y26 f26 c26 P26 _ _ _ _ _ _ (PySem.W.mg_of X G a26) l26 rfl rfl o26 h26.1
  case t1 => 
    intro p hp
    simp only [List.mem_cons, List.not_mem_nil, or_false] at hp
    rcases hp with rfl | rfl | rfl | rfl | rfl | rfl | rfl | rfl
    · exact n0
    · exact n7
    · exact n8
    · exact n13
    · exact n15
    · exact n21
    · exact n25
    · exact n26
  case t2 => 
    intro p hp
    simp only [List.mem_cons, List.not_mem_nil, or_false] at hp
    rcases hp with rfl | rfl | rfl | rfl | rfl | rfl | rfl | rfl
    · exact codeHd_of X o0 h0
    · exact codeHd_of X o7 h7
    · exact codeHd_of X o8 h8
    · exact codeHd_of X o13 h13
    · exact codeHd_of X o15 h15
    · exact codeHd_of X o21 h21
    · exact codeHd_of X o25 h25
    · exact codeHd_of X o26 h26
  case t3 =>
    obtain ⟨pr, hpr, rfl⟩ := List.mem_map.mp hp
    exact ⟨#[], hH pr hpr, trivial⟩
  case t4 =>
    have c__law_well := ok_well (P := l.prog) (w := w) (base := base) D__law_well T
    have c__law_take := ok_take (P := l.prog) (w := w) (base := base) D__law_take
    have c__law_place := ok_place (P := l.prog) (w := w) (base := base) D__law_place T c__law_take
    have c__law_net := ok_net (P := l.prog) (w := w) (base := base) D__law_net T c__law_take c__law_place
    have c__law_order := ok_ord (P := l.prog) (w := w) (base := base) D__law_order T c__law_take
    have c__law_turned := ok_turnd (P := l.prog) (w := w) (base := base) D__law_turned T c__law_take
    have c_is_whole := ok_whole (P := l.prog) (w := w) (base := base) D_is_whole T
    have c_is_many := ok_many (P := l.prog) (w := w) (base := base) D_is_many T c_is_whole
    have c_is_below := ok_below (P := l.prog) (w := w) (base := base) D_is_below c_is_whole
    have c_is_gate := ok_isgate (P := l.prog) (w := w) (base := base) D_is_gate T c_is_below
    have c_are_gates := ok_aregates (P := l.prog) (w := w) (base := base) (Ts := [(c0, P0), (c7, P7), (c8, P8), (c13, P13), (c15, P15), (c21, P21), (c25, P25), (c26, P26)].map (·.2)) D_are_gates T c_is_gate (tabB_of (TB (c7, P7) (by simp))) (by simp)
    have c_are_outs := ok_areouts (P := l.prog) (w := w) (base := base) (Ts := [(c0, P0), (c7, P7), (c8, P8), (c13, P13), (c15, P15), (c21, P21), (c25, P25), (c26, P26)].map (·.2)) D_are_outs T c_is_below (tabB_of (TB (c8, P8) (by simp))) (by simp)
    have c_is_net := ok_isnet (P := l.prog) (w := w) (base := base) (Ts := [(c0, P0), (c7, P7), (c8, P8), (c13, P13), (c15, P15), (c21, P21), (c25, P25), (c26, P26)].map (·.2)) D_is_net T c_is_many c_are_gates c_are_outs
    have c_wires_in := ok_wires (P := l.prog) (w := w) (base := base) D_wires_in T
    have c_places := ok_places (P := l.prog) (w := w) (base := base) D_places
    have c_fits := ok_fits (P := l.prog) (w := w) (base := base) D_fits T
    have c_has_part := ok_haspart (P := l.prog) (w := w) (base := base) D_has_part T
    have c_gate_masks := ok_gatemasks (P := l.prog) (w := w) (base := base) D_gate_masks T c_fits c_has_part
    have c_cut_masks_cutmasks := ok_cutmasks (P := l.prog) (w := w) (base := base) D_cut_masks T c_places c_gate_masks
    have c_wires_of := ok_wiresof (P := l.prog) (w := w) (base := base) (Ts := [(c0, P0), (c7, P7), (c8, P8), (c13, P13), (c15, P15), (c21, P21), (c25, P25), (c26, P26)].map (·.2)) D_wires_of T (tabB_of (TB (c0, P0) (by simp))) (by simp)
    have c_told_cuts := ok_told (P := l.prog) (w := w) (base := base) (Ts := [(c0, P0), (c7, P7), (c8, P8), (c13, P13), (c15, P15), (c21, P21), (c25, P25), (c26, P26)].map (·.2)) D_told_cuts T c_wires_of
    have c_all_cuts := ok_allcuts (P := l.prog) (w := w) (base := base) (Ts := [(c0, P0), (c7, P7), (c8, P8), (c13, P13), (c15, P15), (c21, P21), (c25, P25), (c26, P26)].map (·.2)) D_all_cuts T c_wires_in c_cut_masks_cutmasks c_places c_told_cuts (tabB_of (TB (c21, P21) (by simp))) (by simp)
    have c_one_deeper := ok_onedeepL (P := l.prog) (w := w) (base := base) D_one_deeper T
    have c_depths_by := ok_depthsby (P := l.prog) (w := w) (base := base) D_depths_by T c_one_deeper
    have c_depths := ok_depths (P := l.prog) (w := w) (base := base) (Ts := [(c0, P0), (c7, P7), (c8, P8), (c13, P13), (c15, P15), (c21, P21), (c25, P25), (c26, P26)].map (·.2)) D_depths T c_all_cuts c_depths_by
    have c_cut_masks_cutmasksT := ok_cutmasksT (P := l.prog) (w := w) (base := base) D_cut_masks T c_places c_gate_masks
    have c_reached := ok_reached (P := l.prog) (w := w) (base := base) (Ts := [(c0, P0), (c7, P7), (c8, P8), (c13, P13), (c15, P15), (c21, P21), (c25, P25), (c26, P26)].map (·.2)) D_reached T c_wires_in c_places (tabB_of (TB (c15, P15) (by simp))) (by simp)
    have c_cone := ok_cone (P := l.prog) (w := w) (base := base) (Ts := [(c0, P0), (c7, P7), (c8, P8), (c13, P13), (c15, P15), (c21, P21), (c25, P25), (c26, P26)].map (·.2)) D_cone c_reached
    have c_cuts_of := ok_cutsof (P := l.prog) (w := w) (base := base) (Ts := [(c0, P0), (c7, P7), (c8, P8), (c13, P13), (c15, P15), (c21, P21), (c25, P25), (c26, P26)].map (·.2)) D_cuts_of T c_told_cuts c_cut_masks_cutmasksT c_cone
    have c__law_called := ok_cald (P := l.prog) (w := w) (base := base) D__law_called T
    have c_with_deepest := ok_withdeep (P := l.prog) (w := w) (base := base) (Ts := [(c0, P0), (c7, P7), (c8, P8), (c13, P13), (c15, P15), (c21, P21), (c25, P25), (c26, P26)].map (·.2)) D_with_deepest T (tabB_of (TB (c25, P25) (by simp))) (by simp)
    have c_cut_choices := ok_choices (P := l.prog) (w := w) (base := base) (Ts := [(c0, P0), (c7, P7), (c8, P8), (c13, P13), (c15, P15), (c21, P21), (c25, P25), (c26, P26)].map (·.2)) D_cut_choices T c_all_cuts c_depths_by c_with_deepest (tabB_of (TB (c26, P26) (by simp))) (by simp)
    have c_first_needs := ok_firstn (P := l.prog) (w := w) (base := base) D_first_needs T
    have c_next_gate := ok_nextg (P := l.prog) (w := w) (base := base) D_next_gate T
    have c_fitting_cuts := ok_fit (P := l.prog) (w := w) (base := base) D_fitting_cuts T
    have c_needs_with := ok_needswith (P := l.prog) (w := w) (base := base) D_needs_with T
    have c_fewest_tables_fewTS := ok_fewT (P := l.prog) (w := w) (base := base) D_fewest_tables T c_next_gate c_fitting_cuts c_needs_with 25 (by decide)
    have c_count_paper_countpS := ok_countp (P := l.prog) (w := w) (base := base) D_count_paper T c_next_gate c_fitting_cuts c_needs_with 25
    have c_fewest := ok_fewX (P := l.prog) (w := w) (base := base) (Ts := [(c0, P0), (c7, P7), (c8, P8), (c13, P13), (c15, P15), (c21, P21), (c25, P25), (c26, P26)].map (·.2)) D_fewest T x_TooMany (i_NoDepth base) x_NoDepth c_depths c_cut_choices c_first_needs c_wires_in c_fewest_tables_fewTS c_count_paper_countpS
    have c__law_alike := ok_alike (P := l.prog) (w := w) (base := base) (Ts := [(c0, P0), (c7, P7), (c8, P8), (c13, P13), (c15, P15), (c21, P21), (c25, P25), (c26, P26)].map (·.2)) D__law_alike T c_depths c_cuts_of c__law_called c_fewest
    have c_gate_worth := ok_gw (P := l.prog) (w := w) (base := base) D_gate_worth
    have c_worths := ok_worths (P := l.prog) (w := w) (base := base) D_worths T c_gate_worth
    have c_outs_at := ok_outsat (P := l.prog) (w := w) (base := base) (Ts := [(c0, P0), (c7, P7), (c8, P8), (c13, P13), (c15, P15), (c21, P21), (c25, P25), (c26, P26)].map (·.2)) D_outs_at T c_worths (tabB_of (TB (c13, P13) (by simp))) (by simp)
    have c__law_rows_alike := ok_rowsa (P := l.prog) (w := w) (base := base) (Ts := [(c0, P0), (c7, P7), (c8, P8), (c13, P13), (c15, P15), (c21, P21), (c25, P25), (c26, P26)].map (·.2)) D__law_rows_alike T c__law_take c_outs_at
    exact ok_law l43 e43 T c__law_well c__law_take c__law_net c__law_order c__law_turned c_is_net c__law_alike c__law_rows_alike
end K87
open PySem PySem.W PyProof.Rows
set_option maxRecDepth 100000 in
set_option maxHeartbeats 0 in
theorem PySem.Challenge.cw_tablecover_k87_whole_numbered_otherwise_holds : PySem.Challenge.rw_tablecover_k87_whole_numbered_otherwise.Holds := by
  w_on; o_law; k_head; (case hw => w_witness2)
  k_fill
  refine GX.walk_defs (l := PySem.Challenge.rw_tablecover_k87_whole_numbered_otherwise) (n := 63) (k := 30) (x := "_law_script") (CX := fun _ => L2.CX0) rfl (by decide) rfl ⟨rfl, by decide, by decide⟩ (fun w h Y => PySem.W.kIn_of Y) ?F (fun _ _ _ _ _ h => h)
  case F =>
    intro w mg fa h Y KX G hmg TF
    refine' K87.all_mk KX G hmg ?a0 ?l0 ?e0 ?k0 ?o0 ?h0 ?n0 ?y0 ?a1 ?l1 ?e1 ?k1 ?a2 ?l2 ?e2 ?k2 ?a3 ?l3 ?e3 ?k3 ?a4 ?l4 ?e4 ?k4 ?a5 ?l5 ?e5 ?k5 ?a6 ?l6 ?e6 ?k6 ?a7 ?l7 ?e7 ?k7 ?o7 ?h7 ?n7 ?y7 ?a8 ?l8 ?e8 ?k8 ?o8 ?h8 ?n8 ?y8 ?a9 ?l9 ?e9 ?k9 ?a10 ?l10 ?e10 ?k10 ?a11 ?l11 ?e11 ?k11 ?a12 ?l12 ?e12 ?k12 ?a13 ?l13 ?e13 ?k13 ?o13 ?h13 ?n13 ?y13 ?a14 ?l14 ?e14 ?k14 ?a15 ?l15 ?e15 ?k15 ?o15 ?h15 ?n15 ?y15 ?a16 ?l16 ?e16 ?k16 ?a17 ?l17 ?e17 ?k17 ?a18 ?l18 ?e18 ?k18 ?a19 ?l19 ?e19 ?k19 ?a20 ?l20 ?e20 ?k20 ?a21 ?l21 ?e21 ?k21 ?o21 ?h21 ?n21 ?y21 ?a22 ?l22 ?e22 ?k22 ?a23 ?l23 ?e23 ?k23 ?a24 ?l24 ?e24 ?k24 ?a25 ?l25 ?e25 ?k25 ?o25 ?h25 ?n25 ?y25 ?a26 ?l26 ?e26 ?k26 ?o26 ?h26 ?n26 ?y26 ?a27 ?l27 ?e27 ?k27 ?a28 ?l28 ?e28 ?k28 ?a29 ?l29 ?e29 ?k29 ?a30 ?l30 ?e30 ?k30 ?a31 ?l31 ?e31 ?k31 ?a32 ?l32 ?e32 ?k32 ?a33 ?l33 ?e33 ?k33 ?a34 ?l34 ?e34 ?k34 ?a35 ?l35 ?e35 ?k35 ?a36 ?l36 ?e36 ?k36 ?a37 ?l37 ?e37 ?k37 ?a38 ?l38 ?e38 ?k38 ?a39 ?l39 ?e39 ?k39 ?a40 ?l40 ?e40 ?k40 ?a41 ?l41 ?e41 ?k41 ?a42 ?l42 ?e42 ?k42 ?a43 ?l43 ?e43 ?k43 ?eg_NoDepth ?ek_NoDepth ?et_NoDepth ?ei_NoDepth ?e1_NoDepth ?e2_NoDepth ?e3_NoDepth ?e4_NoDepth ?e5_NoDepth ?e6_NoDepth ?e7_NoDepth ?e8_NoDepth ?i1_NoDepth ?i2_NoDepth ?i3_NoDepth ?i4_NoDepth ?i5_NoDepth ?i6_NoDepth ?i7_NoDepth ?i9_NoDepth ?ia_NoDepth ?ib_NoDepth ?ic_NoDepth ?id_NoDepth ?ie_NoDepth ?if_NoDepth ?ig_NoDepth ?ih_NoDepth ?eg_TooMany ?ek_TooMany ?et_TooMany ?ei_TooMany ?e1_TooMany ?e2_TooMany ?e3_TooMany ?e4_TooMany ?e5_TooMany ?e6_TooMany ?e7_TooMany ?e8_TooMany ?ex_TooMany ?su_NoDepth_NoDepth ?z_all ?z_bool ?z_dict ?z_enumerate ?z_int ?z_isinstance ?z_len ?z_list ?z_max ?z_min ?z_range ?z_sorted ?z_super ?z_tuple ?q_KINDS ?q_MOST_GATES ?q_MOST_GATES_TRIED ?q_MOST_INPUTS ?q_MOST_OUTS
    (case a0 => k_is)
    (case l0 => k_is)
    (case e0 => k_is)
    (case k0 => k_is)
    (case o0 => k_is)
    (case h0 => exact ⟨rfl, rfl, rfl, rfl, rfl, rfl, by decide⟩)
    (case n0 => rfl)
    (case y0 => exact TF _ (by decide +kernel))
    (case a1 => k_is)
    (case l1 => k_is)
    (case e1 => k_is)
    (case k1 => k_is)
    (case a2 => k_is)
    (case l2 => k_is)
    (case e2 => k_is)
    (case k2 => k_is)
    (case a3 => k_is)
    (case l3 => k_is)
    (case e3 => k_is)
    (case k3 => k_is)
    (case a4 => k_is)
    (case l4 => k_is)
    (case e4 => k_is)
    (case k4 => k_is)
    (case a5 => k_is)
    (case l5 => k_is)
    (case e5 => k_is)
    (case k5 => k_is)
    (case a6 => k_is)
    (case l6 => k_is)
    (case e6 => k_is)
    (case k6 => k_is)
    (case a7 => k_is)
    (case l7 => k_is)
    (case e7 => k_is)
    (case k7 => k_is)
    (case o7 => k_is)
    (case h7 => exact ⟨rfl, rfl, rfl, rfl, rfl, rfl, by decide⟩)
    (case n7 => rfl)
    (case y7 => exact TF _ (by decide +kernel))
    (case a8 => k_is)
    (case l8 => k_is)
    (case e8 => k_is)
    (case k8 => k_is)
    (case o8 => k_is)
    (case h8 => exact ⟨rfl, rfl, rfl, rfl, rfl, rfl, by decide⟩)
    (case n8 => rfl)
    (case y8 => exact TF _ (by decide +kernel))
    (case a9 => k_is)
    (case l9 => k_is)
    (case e9 => k_is)
    (case k9 => k_is)
    (case a10 => k_is)
    (case l10 => k_is)
    (case e10 => k_is)
    (case k10 => k_is)
    (case a11 => k_is)
    (case l11 => k_is)
    (case e11 => k_is)
    (case k11 => k_is)
    (case a12 => k_is)
    (case l12 => k_is)
    (case e12 => k_is)
    (case k12 => k_is)
    (case a13 => k_is)
    (case l13 => k_is)
    (case e13 => k_is)
    (case k13 => k_is)
    (case o13 => k_is)
    (case h13 => exact ⟨rfl, rfl, rfl, rfl, rfl, rfl, by decide⟩)
    (case n13 => rfl)
    (case y13 => exact TF _ (by decide +kernel))
    (case a14 => k_is)
    (case l14 => k_is)
    (case e14 => k_is)
    (case k14 => k_is)
    (case a15 => k_is)
    (case l15 => k_is)
    (case e15 => k_is)
    (case k15 => k_is)
    (case o15 => k_is)
    (case h15 => exact ⟨rfl, rfl, rfl, rfl, rfl, rfl, by decide⟩)
    (case n15 => rfl)
    (case y15 => exact TF _ (by decide +kernel))
    (case a16 => k_is)
    (case l16 => k_is)
    (case e16 => k_is)
    (case k16 => k_is)
    (case a17 => k_is)
    (case l17 => k_is)
    (case e17 => k_is)
    (case k17 => k_is)
    (case a18 => k_is)
    (case l18 => k_is)
    (case e18 => k_is)
    (case k18 => k_is)
    (case a19 => k_is)
    (case l19 => k_is)
    (case e19 => k_is)
    (case k19 => k_is)
    (case a20 => k_is)
    (case l20 => k_is)
    (case e20 => k_is)
    (case k20 => k_is)
    (case a21 => k_is)
    (case l21 => k_is)
    (case e21 => k_is)
    (case k21 => k_is)
    (case o21 => k_is)
    (case h21 => exact ⟨rfl, rfl, rfl, rfl, rfl, rfl, by decide⟩)
    (case n21 => rfl)
    (case y21 => exact TF _ (by decide +kernel))
    (case a22 => k_is)
    (case l22 => k_is)
    (case e22 => k_is)
    (case k22 => k_is)
    (case a23 => k_is)
    (case l23 => k_is)
    (case e23 => k_is)
    (case k23 => k_is)
    (case a24 => k_is)
    (case l24 => k_is)
    (case e24 => k_is)
    (case k24 => k_is)
    (case a25 => k_is)
    (case l25 => k_is)
    (case e25 => k_is)
    (case k25 => k_is)
    (case o25 => k_is)
    (case h25 => exact ⟨rfl, rfl, rfl, rfl, rfl, rfl, by decide⟩)
    (case n25 => rfl)
    (case y25 => exact TF _ (by decide +kernel))
    (case a26 => k_is)
    (case l26 => k_is)
    (case e26 => k_is)
    (case k26 => k_is)
    (case o26 => k_is)
    (case h26 => exact ⟨rfl, rfl, rfl, rfl, rfl, rfl, by decide⟩)
    (case n26 => rfl)
    (case y26 => exact TF _ (by decide +kernel))
    (case a27 => k_is)
    (case l27 => k_is)
    (case e27 => k_is)
    (case k27 => k_is)
    (case a28 => k_is)
    (case l28 => k_is)
    (case e28 => k_is)
    (case k28 => k_is)
    (case a29 => k_is)
    (case l29 => k_is)
    (case e29 => k_is)
    (case k29 => k_is)
    (case a30 => k_is)
    (case l30 => k_is)
    (case e30 => k_is)
    (case k30 => k_is)
    (case a31 => k_is)
    (case l31 => k_is)
    (case e31 => k_is)
    (case k31 => k_is)
    (case a32 => k_is)
    (case l32 => k_is)
    (case e32 => k_is)
    (case k32 => k_is)
    (case a33 => k_is)
    (case l33 => k_is)
    (case e33 => k_is)
    (case k33 => k_is)
    (case a34 => k_is)
    (case l34 => k_is)
    (case e34 => k_is)
    (case k34 => k_is)
    (case a35 => k_is)
    (case l35 => k_is)
    (case e35 => k_is)
    (case k35 => k_is)
    (case a36 => k_is)
    (case l36 => k_is)
    (case e36 => k_is)
    (case k36 => k_is)
    (case a37 => k_is)
    (case l37 => k_is)
    (case e37 => k_is)
    (case k37 => k_is)
    (case a38 => k_is)
    (case l38 => k_is)
    (case e38 => k_is)
    (case k38 => k_is)
    (case a39 => k_is)
    (case l39 => k_is)
    (case e39 => k_is)
    (case k39 => k_is)
    (case a40 => k_is)
    (case l40 => k_is)
    (case e40 => k_is)
    (case k40 => k_is)
    (case a41 => k_is)
    (case l41 => k_is)
    (case e41 => k_is)
    (case k41 => k_is)
    (case a42 => k_is)
    (case l42 => k_is)
    (case e42 => k_is)
    (case k42 => k_is)
    (case a43 => k_is)
    (case l43 => k_is)
    (case e43 => k_is)
    (case k43 => k_is)
    (case eg_NoDepth => k_is)
    (case ek_NoDepth => k_is)
    (case et_NoDepth => k_is)
    (case ei_NoDepth => k_is)
    (case e1_NoDepth => k_is)
    (case e2_NoDepth => k_is)
    (case e3_NoDepth => k_is)
    (case e4_NoDepth => k_is)
    (case e5_NoDepth => k_is)
    (case e6_NoDepth => k_is)
    (case e7_NoDepth => k_is)
    (case e8_NoDepth => k_is)
    (case i1_NoDepth => k_is)
    (case i2_NoDepth => k_is)
    (case i3_NoDepth => k_is)
    (case i4_NoDepth => k_is)
    (case i5_NoDepth => exact ⟨rfl, rfl⟩)
    (case i6_NoDepth => decide +kernel)
    (case i7_NoDepth => k_is)
    (case i9_NoDepth => k_is)
    (case ia_NoDepth => ks_is)
    (case ib_NoDepth => k_is)
    (case ic_NoDepth => k_is)
    (case id_NoDepth => k_is)
    (case ie_NoDepth => k_is)
    (case if_NoDepth => decide +kernel)
    (case ig_NoDepth => k_is)
    (case ih_NoDepth => decide +kernel)
    (case eg_TooMany => k_is)
    (case ek_TooMany => k_is)
    (case et_TooMany => k_is)
    (case ei_TooMany => k_is)
    (case e1_TooMany => k_is)
    (case e2_TooMany => k_is)
    (case e3_TooMany => k_is)
    (case e4_TooMany => k_is)
    (case e5_TooMany => k_is)
    (case e6_TooMany => k_is)
    (case e7_TooMany => k_is)
    (case e8_TooMany => k_is)
    (case ex_TooMany => k_exc)
    (case su_NoDepth_NoDepth => k_is)
    (case z_all => k_is)
    (case z_bool => k_is)
    (case z_dict => k_is)
    (case z_enumerate => k_is)
    (case z_int => k_is)
    (case z_isinstance => k_is)
    (case z_len => k_is)
    (case z_list => k_is)
    (case z_max => k_is)
    (case z_min => k_is)
    (case z_range => k_is)
    (case z_sorted => k_is)
    (case z_super => k_is)
    (case z_tuple => k_is)
    (case q_KINDS => k_is)
    (case q_MOST_GATES => k_is)
    (case q_MOST_GATES_TRIED => k_is)
    (case q_MOST_INPUTS => k_is)
    (case q_MOST_OUTS => k_is)
