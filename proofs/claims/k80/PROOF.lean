import PyProof.Rows.All
import Wide.All
import OpenK.AllK
import Wide.FinOn
import HandS.ForMost
import HandS.AnyAll
import HandS.GenList
import PyProof.TupleOfGen
import HandS.Walk
import HandS.Codes
import HandS.TupAny
import HandS.IsInst
import HandS.EndTab
import HandS.Wide
import HandS.Conv
import HandS.Exc
import HandS.ExcOwn
import HandS.ExcIs
import HandS.ExcField
import KE.KExcIs
import KE.KStateDown
import HandS.Head0
import HandS.Head1
import HandS.Head2
import HandS.HeadHook1
import HandS.HeadHook2
import HandS.HeadHook3
import HandS.HeadHook4
import HandS.HeadWalk
import KE.GoesMore
import PyProof.EnumMake
import HandS.Style
import HandS.TupMul
import HandS.SetFor
import HandS.Strs
import HandS.Zip
import HandS.NamedTupSort
import HandS.TupSets
import KE.BitLaws
import KE.IntBitsLaws
import HandS.WideBits
import HandS.Rev
import HandS.RevRange
import HandS.Dict
import KE.KIndexOf
import KE.KDictPairs
import HandS.Flow
import PyProof.EqAt
import PyProof.NeKinds
import HandS.Lambda
import KE.KMinKey
import HandS.TupLe
import HandS.DictComp
import HandS.Comp
import PyProof.EqKinds
import HandS.DictEq
import HandS.Text
import HandS.Replace
import HandS.List
import KE.GoesRev
import KE.KExcSuper
import HandS.ExcSuper
import HandS.ExcInit
import HandS.FStr
import HandS.HotCalls
import HandS.Call
import PyProof.Rows.StrMul
import HandS.TryOnly
import KE.KUnpackStar
import HandS.Iter
import HandS.More
import HandS.SortInts
import HandS.CallLocal
import HandS.RaiseMore
import PySem.Challenge.RW_tablecover_k80_contents_and_ways
set_option Elab.async false
set_option linter.all false
set_option maxRecDepth 100000
set_option maxHeartbeats 4000000
/-! Generator expressions as arguments of all, any, tuple, over the hand layer: the element may call, make objects, hold further generator expressions. -/
namespace GX
open PySem PySem.Spec PyProof.Rows L2 GenW
/-- the frame of a generator expression made in the state s; A0: what runs around it while it runs -/
abbrev gcx (X : Cx) (A0 : Around) (s : Shared) (H : Hp) (scope : Scope) (code : Value) (fp : List Addr) : Cx :=
  { X with
    A := A0.deeper (genEnv scope (cloFrom X.env.cells scope.names []) s.heap.objs.size code builtinsNs X.env)
    s_0 := s
    H_0 := H
    env := genEnv scope (cloFrom X.env.cells scope.names []) s.heap.objs.size code builtinsNs X.env
    outer := X.stack
    stack := genEnv scope (cloFrom X.env.cells scope.names []) s.heap.objs.size code builtinsNs X.env :: X.stack
    ex := fp
    fn := fun _ => false
    calm := true
    pn := []
    xe := fun _ _ => False }
/-- the names of the generator expression's scope -/
structure GxOk (N : List Str) (sc scope : Scope) (own : List (Str × Nat)) : Prop where
  blk : BlkOk N sc scope own
  co : scope.isCoroutine = false
  cell : ∀ y ∈ scope.names, y.2 ≠ .cell
  dot : scope.names.lookup (".0" : Str) = some NameKind.local
section
variable {X : Cx} {pins : List (Addr × Obj)} {σ : L2.St} {H : Hp} {s : Shared}
theorem gen_start {A0 : Around} {scope : Scope} {own : List (Str × Nat)} {fp : List Addr} {code : Value} {h5 : Heap} {g5 : Array GenState} {t5 : Nat} {m : Str → Option Value}
    (I : Inv X pins σ H s) (ok : GxOk X.N X.env.scope scope own) (hN : X.N.Nodup) (hfp : ∀ b ∈ fp, FpOk X pins H b ∧ b < s.heap.objs.size)
    (hh : A0.handled = none) (hfr : A0.frames = some X.stack)
    (hn : h5.Ns s.heap.objs.size m) (kp : ∀ b o, s.heap.get? b = some o → h5.get? b = some o) (hg : AllBare g5) :
    Inv (gcx X A0 s H scope code fp) [] (wipe σ (own.map (·.2))) H { s with heap := h5, gens := g5, toks := t5 } := by
  have hfree : ∀ y ∈ scope.names, y.2 = .free → ∃ c, X.env.cells.lookup y.1 = some c := fun y hy e => by
    rcases ok.blk.free y hy e with k | k
    · exact I.ok.has _ (.inl k)
    · exact I.ok.has _ (.inr k)
  have cm : ∀ {y c}, (cloFrom X.env.cells scope.names []).lookup y = some c → X.env.cells.lookup y = some c ∧ c < s.heap.objs.size ∧ scope.names.lookup y = some .free := fun {y c} hl => by
    rcases cloFrom_mem (PySem.mem_of_lookup hl) with hm | ⟨h1, rfl⟩
    · cases hm
    · obtain ⟨c, hc⟩ := hfree _ h1 rfl
      rw [hc]
      obtain ⟨w, z⟩ := I.cell _ _ hc
      exact ⟨rfl, z.lt, ok.blk.uniq _ h1⟩
  have look : ∀ {y}, scope.names.lookup y = some .free → ∃ c, (cloFrom X.env.cells scope.names []).lookup y = some c ∧ X.env.cells.lookup y = some c := fun {y} hl => by
    have hy : (y, NameKind.free) ∈ scope.names := PySem.mem_of_lookup hl
    obtain ⟨c', e'⟩ := mem_lookup (cloFrom_has (cells := X.env.cells) (acc := []) hy)
    exact ⟨c', e', (cm e').1⟩
  have okB : (gcx X A0 s H scope code fp).Ok := by
    refine ⟨I.ok.mod, ok.blk.kind, I.ok.glob, rfl, Nat.le_refl _, fun y z c e1 e2 => ?_, fun y hy => ?_, fun y c z e => (by cases z), fun _ => hh, Around.frames_deeper hfr, .inr ⟨rfl, rfl⟩,
      fun b hb => ⟨Nat.ne_of_lt (hfp b hb).2, fun y c e z => ?_⟩, I.bs, Nat.le_trans I.ok.bsz I.sz, fun b o e hb => ?_, fun b hb z => ?_, I.stack, I.stkFree⟩
    · exact I.ok.inj y z c (cm e1).1 (cm e2).1
    · rcases hy with hy | hy
      · exact absurd rfl (ok.cell _ (PySem.mem_of_lookup hy))
      · obtain ⟨c, h1, _⟩ := look hy
        exact ⟨c, h1⟩
    · exact (hfp b hb).1.2.2.2.2.1 y c (cm e).1 z
    · rcases (hfp b hb).1.2.2.2.1 with z | z
      · exact I.ok.noex b o e z
      · exact absurd (Nat.lt_of_lt_of_le (Heap.lt_size e) (Nat.le_trans I.ok.bsz z)) (Nat.lt_irrefl _)
    · rcases List.mem_cons.mp (I.stkSub b z) with z | z
      · exact (hfp b hb).1.2.1 z
      · exact (hfp b hb).1.2.2.1 z
  refine ⟨okB, rfl, hg, Un.kept kp, ⟨m, hn, fun i y av e1 e2 e3 => ?_⟩, fun y c e => ?_, I.hok.fresh (Nat.le_refl _), fun y c e => I.freeC y c (cm e).1, fun p hp => absurd (show p ∈ ([] : List (Addr × Obj)) ++ [] from hp) (by simp), I.hok.kept kp, by rw [wipe_length]; exact I.len⟩
  · obtain ⟨e2, hne⟩ := wipe_some e2
    have no : ∀ k, scope.names.lookup y = some k → ¬ (k = .local ∨ k = .cell) := fun k e hh => by
      rcases ok.blk.own _ (PySem.mem_of_lookup e) hh with e' | e'
      · obtain ⟨p, hp, hpy⟩ := List.mem_map.mp e'
        have e3 := ok.blk.ix p hp
        have : p.1 = y := hpy
        rw [this] at e3
        exact hne (List.mem_map.mpr ⟨p, hp, nodup_ix hN e3 e1⟩)
      · exact e' (List.mem_of_getElem? e1)
    have hfr : scope.names.lookup y = some .free := by
      rcases e3 with e3 | e3 | e3
      · exact absurd (.inl rfl) (no _ e3)
      · exact absurd (.inr rfl) (no _ e3)
      · exact e3
    obtain ⟨m', hn', hl⟩ := I.loc
    have hvis : Vis X.env.scope y := (ok.blk.free _ (PySem.mem_of_lookup hfr) rfl).elim (fun k => .inr (.inl k)) (fun k => .inr (.inr k))
    obtain ⟨w, r, q⟩ := hl i y av e1 e2 hvis
    refine ⟨w, r, .inr ⟨.inr hfr, ?_⟩⟩
    obtain ⟨c, h1, h2⟩ := look hfr
    rcases q with ⟨k, _⟩ | ⟨_, c', e', z⟩
    · have k : X.env.scope.names.lookup y = some .local := k
      rcases ok.blk.free _ (PySem.mem_of_lookup hfr) rfl with k' | k' <;> rw [show X.env.scope.names.lookup y = _ from k'] at k <;> cases k
    · rw [h2] at e'; cases e'
      exact ⟨c, h1, z.keeps kp⟩
  · obtain ⟨w, z⟩ := I.cell y c (cm e).1
    exact ⟨w, z.keeps kp⟩
end
/-! ### asleep -/
/-- while the generator sleeps its consumer changes what stands at B alone -/
structure Slp (B : List Addr) (s s' : Shared) : Prop where
  os : s'.os = s.os
  bare : AllBare s'.gens
  keep : ∀ b o, b ∉ B → s.heap.get? b = some o → s'.heap.get? b = some o
/-- the consumer's own objects -/
structure Aprt (Y : Cx) (B fp : List Addr) (a : Addr) : Prop where
  hi : ∀ b ∈ B, Y.s_0.heap.objs.size ≤ b
  lo : ∀ b ∈ B, b ≠ Y.env.locals
  ce : ∀ b ∈ B, ∀ x c, Y.env.cells.lookup x = some c → c ≠ b
  sf : ∀ b ∈ B, b ∉ Y.fs
  bf : ∀ b ∈ B, b ∉ fp
  na : a ∉ B
  af : a ∉ fp
theorem woken {Y : Cx} {B fp : List Addr} {a : Addr} {go : Obj} {pins pins' : List (Addr × Obj)} {σ : L2.St} {H : Hp} {s s' : Shared} (hpn : Y.pn = []) (hB : Aprt Y B fp a) (I : Inv Y ((a, go) :: pins) σ H s)
    (hHB : ∀ b ∈ B, H b = none) (z : Slp B s s') (hp : ∀ p ∈ pins', p.1 ∈ B ∧ s'.heap.get? p.1 = some p.2 ∧ ∀ v, p.2.data ≠ .cell v) : Inv Y ((a, go) :: pins') σ H s' := by
  have I1 : Inv Y [(a, go)] σ H s := I.pins_of fun p hp => by
    have e : p = (a, go) := List.mem_singleton.mp hp
    rw [e]
    exact I.pin (a, go) (List.mem_append_right _ List.mem_cons_self)
  have nt : ∀ b u, H b = some u → b ∉ B := fun b u q hb => by rw [hHB b hb] at q; cases q
  obtain ⟨z1, z2, z3⟩ := z
  obtain ⟨hh, g, d, t, o⟩ := s'
  have ho : o = s.os := z1
  subst ho
  have J : Inv Y [(a, go)] σ H { s with heap := hh, gens := g, drawn := d, toks := t } := by
    refine I1.step (g' := g) (t' := t) (d' := d) (ch := B) (fun b hb => ?_)
      (fun b ob _ _ hc q _ => z3 b ob hc q) (fun b ob _ _ hc q _ => ⟨ob.slots, z3 b ob hc q⟩) (fun _ _ _ _ n => n) (fun b ob hc q => ⟨ob, z3 b ob hc q⟩)
      (fun _ _ q => q) (fun _ _ _ q => q) (fun b ps q => ⟨#[], by rw [q]; simp⟩) (fun m hm => ?_) (fun b u q => ?_) z2
    · refine ⟨.inr (hB.hi b hb), hB.lo b hb, hB.ce b hb, fun p hp => ?_⟩
      rw [hpn] at hp
      have e : p = (a, go) := by simpa using hp
      rw [e]
      intro e2
      have e3 : a = b := e2
      exact hB.na (by rw [e3]; exact hb)
    · obtain ⟨ob, es, ep, ho, r⟩ := hm
      exact ⟨ob, es, ep, z3 _ ob (fun hb => hB.lo _ hb rfl) ho, r⟩
    · refine (I1.hok b u q).stay (fun c v hc y => z3 c v ?_ y) (fun _ y => y) fun _ _ y => y
      rcases hc with y | y
      · rw [y]; exact nt b u q
      · exact nt c _ y
  refine J.pins_of fun p hp' => ?_
  rcases List.mem_cons.mp hp' with e | hp'
  · rw [e]
    exact J.pin (a, go) (List.mem_append_right _ List.mem_cons_self)
  · obtain ⟨h1, h2, h3⟩ := hp p hp'
    exact ⟨h2, hHB _ h1, hB.lo _ h1, hB.sf _ h1, h3⟩
/-! ### the turns -/
/-- what the consumer holds behind ys: Pn; what is wanted at a yield: Kx; where it goes on: Cn; at the end: Fi -/
structure Con where
  B : List Addr
  Pn : List V → List (Addr × Obj) → Prop
  Kx : List V → V → Hp → Prop
  Cn : List V → V → Prop
  Fi : List V → Hp → Prop
structure Con.Ok (C : Con) : Prop where
  pn : ∀ ys pins, C.Pn ys pins → ∀ p ∈ pins, p.1 ∈ C.B ∧ ∀ v, p.2.data ≠ .cell v
  all : ∀ ys pins, C.Pn ys pins → ∀ b ∈ C.B, ∃ o, (b, o) ∈ pins
def YG (Y : Cx) (C : Con) (a : Addr) (go : Obj) (σ0 : L2.St) : Protocol := fun n s₀ v s kap =>
  ∃ ys x pins H, RelV x v ∧ C.Pn ys pins ∧ Inv Y ((a, go) :: pins) σ0 H s ∧ C.Kx ys x H ∧
    (C.Cn ys x → ∀ s', Slp C.B s s' → (∃ pins', C.Pn (ys ++ [x]) pins' ∧ ∀ p ∈ pins', s'.heap.get? p.1 = some p.2) → kap (.send .none) s')
def RG (Y : Cx) (C : Con) (a : Addr) (go : Obj) (σ0 : L2.St) : Nat → Shared → Shared → Prop := fun n s₀ s => ∃ ys pins H, C.Pn ys pins ∧ Inv Y ((a, go) :: pins) σ0 H s ∧ C.Fi ys H
def GSt (Y : Cx) (C : Con) (fp : List Addr) (tn : Nat → Heap → Prop) (a : Addr) (go : Obj) (σ0 : L2.St) (W : Nat → Nat → List V → Hp → Prop) (i m : Nat) (ys : List V) (s : Shared) : Prop :=
  ∃ pins H, C.Pn ys pins ∧ Inv Y ((a, go) :: pins) σ0 H s ∧ tn i s.heap ∧ (∀ b ∈ fp, H b = none) ∧ W i m ys H
/-- the turns' reading -/
def Turns (J : It) (g : TG) (tt : TT) (te : TE) (vs : List Nat) (σ0 : L2.St) (C : Con) (W : Nat → Nat → List V → Hp → Prop) : Prop := ∀ i m ys H, W i m ys H →
  (J.stop i H ∧ C.Fi ys H) ∨ (J.go i H ∧ ∃ Nx : List V → Hp → Prop, (∀ ys' H', Nx ys' H' → ∃ m', m' < m ∧ W (i + 1) m' ys' H') ∧ ∀ x H', J.yld i H x H' → g x σ0 H' fun σ2 H2 => wipe σ2 vs = σ0 ∧ tt σ2 H2 fun b H3 =>
    if b = true then te σ2 H3 fun y H4 => C.Kx ys y H4 ∧ (C.Cn ys y → Nx (ys ++ [y]) H4) else Nx ys H3)
section
variable {Y : Cx} {C : Con} {A0 : Around} {elt tg iter : Expr} {ifs : List Expr} {scope : Scope} {pos : Pos} {it a : Addr} {fp : List Addr} {tn : Nat → Heap → Prop} {go : Obj} {J : It} {g : TG} {tt : TT} {te : TE} {vs : List Nat} {σ0 : L2.St} {W : Nat → Nat → List V → Hp → Prop}
theorem seg_loop (hA : A0.over (.compLoop (.GeneratorExp elt [⟨tg, iter, ifs, 0⟩] scope pos) 0 (.ref it) .none Y.env) [] = Y.A) (hc : Y.calm = true) (hx : ∀ e s, Y.xe e s → False) (hpn : Y.pn = []) (hco : Y.env.scope.isCoroutine = false)
    (CO : C.Ok) (hB : Aprt Y C.B fp a) (hst : ∀ b ∈ fp, b ≠ Y.env.locals ∧ b ∉ Y.fs ∧ (b ∈ Y.ex ∨ Y.s_0.heap.objs.size ≤ b) ∧ ∀ x c, Y.env.cells.lookup x = some c → c ≠ b)
    (T : Turn Y.prog Y.w Y.K tg J fp it tn) (hg : PG Y tg g) (ht : PTs Y ifs tt) (he : PE Y elt te) (turns : Turns J g tt te vs σ0 C W) :
    ∀ (m i n : Nat) (ys : List V) (s₀ s : Shared), m < n → GSt Y C fp tn a go σ0 W i m ys s →
      Seg (model Y.prog Y.w) A0 (fun n s₀ r s₁ => r = .ok .next ∧ RG Y C a go σ0 n s₀ s₁) (YG Y C a go σ0) n s₀
        (.compLoop (.GeneratorExp elt [⟨tg, iter, ifs, 0⟩] scope pos) 0 (.ref it) .none Y.env)
        ((model Y.prog Y.w).den (.compLoop (.GeneratorExp elt [⟨tg, iter, ifs, 0⟩] scope pos) 0 (.ref it) .none Y.env)) [] s := by
  intro m
  induction m using Nat.strongRecOn with
  | ind m ih =>
    intro i n ys s₀ s hmn ⟨pins, H, hP, I, st, fr, w⟩
    have stat : ∀ {H' : Hp}, (∀ b ∈ fp, H' b = none) → ∀ b ∈ fp, FpOk Y ((a, go) :: pins) H' b := fun hn b hb => by
      obtain ⟨h1, h2, h3, h4⟩ := hst b hb
      refine ⟨hn b hb, h1, h2, h3, h4, fun p hp => ?_⟩
      rw [hpn] at hp
      rcases List.mem_cons.mp (show p ∈ (a, go) :: pins from hp) with e | hp
      · rw [e]; intro e2; have e3 : a = b := e2; exact hB.af (by rw [e3]; exact hb)
      · intro e2; exact hB.bf _ (CO.pn _ _ hP p hp).1 (by rw [e2]; exact hb)
    obtain ⟨k, rfl⟩ : ∃ k, n = k + 1 := ⟨n - 1, by omega⟩
    show Seg _ A0 _ _ _ s₀ _ ((compTurn (.GeneratorExp elt [⟨tg, iter, ifs, 0⟩] scope pos) 0 (.ref it) .none Y.env).onRaise (leaving Y.env)) [] s
    rw [compTurn_gen, Sem.onRaise_eq_wrap]
    refine seg_bind_wrap (wpAny_standAt ?_)
    rcases turns i m ys H w with ⟨stop, q⟩ | ⟨go1, Nx, hN, step⟩
    · refine seg_bind_wrap ?_
      rw [hA]
      refine thn (T.done Y rfl rfl rfl hc i _ s σ0 H _ I (stat fr) st stop) fun r s1 ⟨hr, I1⟩ => ?_
      subst hr
      exact seg_end (.ok .next) ⟨rfl, ys, pins, H, hP, I1, q⟩
    · refine seg_bind_wrap ?_
      rw [hA]
      refine thn (T.item Y rfl rfl rfl hc i _ s σ0 H _ I (stat fr) st go1) fun r s1 ⟨u, hr, h1⟩ => ?_
      subst hr
      refine seg_bind_wrap ?_
      rw [hA]
      refine thn h1 fun _ s2 ⟨x, H2, I2, rx, y2, st2, fr2⟩ => ?_
      have I2' := I2.pinned (stat fr2) (T.obj _ _ st2)
      refine seg_bind_wrap ?_
      rw [hA]
      refine wpAny_mono (hg.run _ s2 σ0 H2 x u _ I2' rx (step x H2 y2)) (fun _ s3 ⟨σ3, H3, I3, hw, q3⟩ => ?_) (fun e s' z => (hx e s' z).elim)
      refine seg_bind_wrap ?_
      rw [hA]
      refine wpAny_mono (ht.run _ s3 σ3 H3 _ I3 q3) (fun b s4 ⟨H4, I4, q4⟩ => ?_) (fun e s' z => (hx e s' z).elim)
      have weak : ∀ {H' : Hp} {s' : Shared}, Inv Y ((a, go) :: pins ++ pinsAt fp s2.heap) σ3 H' s' → Inv Y ((a, go) :: pins ++ pinsAt fp s2.heap) σ0 H' s' := fun I' => by
        refine I'.weak (by rw [← hw, wipe_length]) fun j v e => ?_
        rw [← hw] at e
        exact (wipe_some e).1
      have tnk : ∀ {H' : Hp} {s' : Shared}, Inv Y ((a, go) :: pins ++ pinsAt fp s2.heap) σ3 H' s' → tn (i + 1) s'.heap ∧ ∀ b ∈ fp, H' b = none := fun I' => by
        refine ⟨T.keep _ _ _ st2 fun b hb o e => (I'.pin (b, o) (List.mem_append_right _ (List.mem_append_right _ (mem_pinsAt hb e)))).1, fun b hb => ?_⟩
        obtain ⟨o, e, d⟩ := T.obj _ _ st2 b hb
        exact (I'.pin (b, o) (List.mem_append_right _ (List.mem_append_right _ (mem_pinsAt hb e)))).2.1
      cases b with
      | false =>
        rw [if_neg Bool.false_ne_true] at q4
        obtain ⟨m', hm, w'⟩ := hN _ _ q4
        obtain ⟨t4, f4⟩ := tnk I4
        simp only [Bool.false_eq_true, if_false]
        exact seg_again rfl (ih m' hm (i + 1) (k + 1) ys s₀ s4 (by omega) ⟨pins, H4, hP, (weak I4).unpinned, t4, f4, w'⟩)
      | true =>
        rw [if_pos rfl] at q4
        simp only [if_true]
        have hy : ∀ v, yieldOut Y.env v = yieldValue v := fun v => by simp only [yieldOut, hco, Bool.false_eq_true, if_false]
        simp only [hy]
        rw [Sem.bind_eq_wrap', Sem.bind_eq_wrap', Sem.wrap_wrap, Sem.wrap_wrap]
        refine seg_wrap ?_
        rw [hA]
        refine wpAny_mono (he.run _ s4 σ3 H4 _ I4 q4) (fun v s5 ⟨y, H5, I5, ry, kx, nx⟩ => ?_) (fun e s' z => (hx e s' z).elim)
        obtain ⟨t5, f5⟩ := tnk I5
        have I5' := (weak I5).unpinned
        refine seg_at (seg_yield rfl rfl rfl ⟨ys, y, pins, H5, ry, hP, I5', kx, fun cn s6 z ⟨pins', hP', hp'⟩ => ?_⟩)
        obtain ⟨m', hm, w'⟩ := hN _ _ (nx cn)
        have hHB : ∀ b ∈ C.B, H5 b = none := fun b hb => by
          obtain ⟨o, ho⟩ := CO.all _ _ hP b hb
          exact (I5'.pin (b, o) (List.mem_append_right _ (List.mem_cons_of_mem _ ho))).2.1
        have I6 : Inv Y ((a, go) :: pins') σ0 H5 s6 := woken hpn hB I5' hHB z fun p hp => ⟨(CO.pn _ _ hP' p hp).1, hp' p hp, (CO.pn _ _ hP' p hp).2⟩
        refine seg_again rfl (ih m' hm (i + 1) k (ys ++ [y]) s6 s6 (by omega) ⟨pins', H5, hP', I6, T.keep _ _ _ t5 fun b hb o e => z.keep b o (fun hm => hB.bf b hm hb) e, f5, w'⟩)
end
end GX
set_option Elab.async false
set_option linter.all false
set_option maxRecDepth 100000
set_option maxHeartbeats 4000000
namespace GX
open PySem PySem.Spec PyProof.Rows L2 GenW
section
variable {Y : Cx} {C : Con} {A0 : Around} {elt tg iter : Expr} {ifs : List Expr} {scope : Scope} {pos : Pos} {it a : Addr} {fp : List Addr} {tn : Nat → Heap → Prop} {go : Obj} {J : It} {g : TG} {tt : TT} {te : TE} {vs : List Nat} {σ0 : L2.St} {W : Nat → Nat → List V → Hp → Prop}
theorem seg_start (hA : A0.over (.compLoop (.GeneratorExp elt [⟨tg, iter, ifs, 0⟩] scope pos) 0 (.ref it) .none Y.env) [] = Y.A) (hc : Y.calm = true) (hx : ∀ e s, Y.xe e s → False) (hpn : Y.pn = []) (hco : Y.env.scope.isCoroutine = false)
    (CO : C.Ok) (hB : Aprt Y C.B fp a) (hst : ∀ b ∈ fp, b ≠ Y.env.locals ∧ b ∉ Y.fs ∧ (b ∈ Y.ex ∨ Y.s_0.heap.objs.size ≤ b) ∧ ∀ x c, Y.env.cells.lookup x = some c → c ≠ b)
    (T : Turn Y.prog Y.w Y.K tg J fp it tn) (hg : PG Y tg g) (ht : PTs Y ifs tt) (he : PE Y elt te) (turns : Turns J g tt te vs σ0 C W)
    (m i n : Nat) (ys : List V) (s₀ s : Shared) (hmn : m < n) (h : GSt Y C fp tn a go σ0 W i m ys s) :
      Seg (model Y.prog Y.w) A0 (fun n s₀ r s₁ => r = .ok .next ∧ RG Y C a go σ0 n s₀ s₁) (YG Y C a go σ0) n s₀
        (.compStart (.GeneratorExp elt [⟨tg, iter, ifs, 0⟩] scope pos) 0 (.ref it) .none Y.env)
        ((model Y.prog Y.w).den (.compStart (.GeneratorExp elt [⟨tg, iter, ifs, 0⟩] scope pos) 0 (.ref it) .none Y.env)) [] s := by
  have loop := seg_loop (iter := iter) (scope := scope) (pos := pos) hA hc hx hpn hco CO hB hst T hg ht he turns m i n ys s₀ s hmn h
  obtain ⟨pins, H, hP, I, st, fr, w⟩ := h
  show Seg _ A0 _ _ _ s₀ _ ((compStart (.GeneratorExp elt [⟨tg, iter, ifs, 0⟩] scope pos) 0 (.ref it) .none Y.env).onRaise (leaving Y.env)) [] s
  unfold compStart
  rw [Sem.onRaise_eq_wrap]
  show Seg _ A0 _ _ _ s₀ _ ((ask >>= _).wrap _ _ _ _) [] s
  refine seg_bind_wrap (wpAny_askSetting ?_)
  split
  · exact seg_again rfl loop
  · first
      | exact seg_bind_wrap (wpAny_rule (seg_bind_wrap (wpAny_standAt (seg_bind_wrap (T.self _ i s _ _ st (seg_again rfl loop))))))
      | (refine seg_bind_wrap (wpAny_rule ?_); show Seg _ A0 _ _ _ s₀ _ ((standAt iter.pos >>= _).wrap _ _ _ _) [] s; exact seg_bind_wrap (wpAny_standAt (seg_bind_wrap (T.self _ i s _ _ st (seg_again rfl loop)))))
end
/-! ### the generator, as its consumer sees it -/
def Live (Y : Cx) (C : Con) (A0 : Around) (a : Addr) (go : Obj) (σ0 : L2.St) (g n : Nat) (s : Shared) : Prop :=
  s.heap.IsGen a g ∧ s.heap.NoLimit ∧ ∃ gs, s.gens[g]? = some gs ∧ gs.Goes (model Y.prog Y.w) A0 (fun n s₀ r s₁ => r = .ok .next ∧ RG Y C a go σ0 n s₀ s₁) (YG Y C a go σ0) n (.send .none) (s.setGen g .running)
theorem inv_setGen {Y : Cx} {pins : List (Addr × Obj)} {σ : L2.St} {H : Hp} {s : Shared} {g : Nat} {gs : GenState} (I : Inv Y pins σ H s) (hb : gs.bare = true) : Inv Y pins σ H (s.setGen g gs) :=
  ⟨I.ok, I.os, allBare_setGen I.bare hb, I.base, I.loc, I.cell, I.free, I.freeC, I.pin, I.hok, I.len⟩
/-- one next -/
theorem gx_next {Y : Cx} {C : Con} {A : Around} {a : Addr} {go : Obj} {σ0 : L2.St} {g n : Nat} {s : Shared} {Q : Option Value → Shared → Prop} {E : Value → Shared → Prop} (hh : A.handled = none) (hroom : A.depth < recursionLimit)
    (L : Live Y C A.in1 a go σ0 g n s) (hgo : ∀ h : Heap, h.get? a = some go → h.IsGen a g)
    (hY : ∀ ys x v pins H s₁, RelV x v → C.Pn ys pins → Inv Y ((a, go) :: pins) σ0 H s₁ → C.Kx ys x H →
      (C.Cn ys x → ∀ s', Slp C.B s₁ s' → (∃ pins', C.Pn (ys ++ [x]) pins' ∧ ∀ p ∈ pins', s'.heap.get? p.1 = some p.2) → s'.heap.get? a = some go → s'.heap.NoLimit → s'.gens = s₁.gens → ∃ k, n = k + 1 ∧ Live Y C A.in1 a go σ0 g k s') → Q (some v) s₁)
    (hF : ∀ ys pins H s₁, C.Pn ys pins → Inv Y ((a, go) :: pins) σ0 H s₁ → C.Fi ys H → Q none s₁) :
    wpAny (model Y.prog Y.w) A (pyNext (.ref a)) Q E s := by
  obtain ⟨hg, hl, gs, hgs, hgoes⟩ := L
  have hgl : g < s.gens.size := (Array.getElem?_eq_some_iff.mp hgs).1
  refine wpAny_gsz (n := g + 1) hgl (wpAny_pyNext_genexpQ hh hl hroom hg hgs hgoes (fun v s₁ gs' hb hv => ?_) (fun s₁ hp h' hk => ?_))
  · intro hsz
    obtain ⟨ys, x, pins, H, rv, hP, I, kx, kap⟩ := hv
    have hsz1 : g < s₁.gens.size := by
      have q : (s₁.setGen g gs').gens.size = s₁.gens.size := setGen_size _ _ _
      have hsz' : g + 1 ≤ (s₁.setGen g gs').gens.size := hsz
      omega
    refine hY ys x v pins H _ rv hP (inv_setGen I hb) kx fun cn s' z hp ha hl' hgens => ?_
    have z' : Slp C.B s₁ (s'.setGen g .running) := ⟨z.os, allBare_setGen z.bare rfl, fun b o hb e => z.keep b o hb e⟩
    have q := kap cn _ z' hp
    cases n with
    | zero => exact False.elim q
    | succ k => exact ⟨k, rfl, hgo _ ha, hl', gs', by rw [hgens]; exact setGen_at hsz1, q⟩
  · intro _
    obtain ⟨ys, pins, H, hP, I, fi⟩ := hp
    refine hF ys pins H _ hP ?_ fi
    exact (inv_setGen (gs := .finished) (g := g) I rfl).kept (t' := s₁.toks) hk
end GX
set_option Elab.async false
set_option linter.all false
set_option maxRecDepth 100000
set_option maxHeartbeats 4000000
namespace GX
open PySem PySem.Spec PyProof.Rows L2 GenW
/-- a generator expression has been made -/
structure Made (X : Cx) (pins : List (Addr × Obj)) (σ : L2.St) (A0 : Around) (elt tg iter : Expr) (ifs : List Expr) (scope : Scope) (gpos : Pos) (own : List (Str × Nat)) (it a : Addr) (fp : List Addr) (tn : Nat → Heap → Prop) (J : It) (H4 : Hp) (s4 s5 : Shared) (code : Value) (g : Nat) (go : Obj) : Prop where
  outer : Inv X pins σ H4 s4
  inner : Inv (gcx X A0 s4 H4 scope code fp) [(a, go)] (wipe σ (own.map (·.2))) H4 s5
  turn : Turn X.prog X.w X.K tg J fp it tn
  tn0 : tn 0 s5.heap
  fpk : ∀ b ∈ fp, FpOk X pins H4 b ∧ b < s4.heap.objs.size
  alo : s4.heap.objs.size < a
  asz : s5.heap.objs.size = a + 1
  gen : ∀ h : Heap, h.get? a = some go → h.IsGen a g
  gs : s5.gens[g]? = some (.fresh (.compStart (.GeneratorExp elt [⟨tg, iter, ifs, 0⟩] scope gpos) 0 (.ref it) .none (gcx X A0 s4 H4 scope code fp).env))
  ga : s5.heap.get? a = some go
section
variable {X : Cx} {pins : List (Addr × Obj)} {σ : L2.St} {H : Hp} {s : Shared}
theorem gx_make {A0 : Around} {c P : Addr} {elt tg iter : Expr} {ifs : List Expr} {gpos : Pos} {scope : Scope} {own : List (Str × Nat)} {wi : TI} {k : Nat} {R : It → Hp → Prop} {Q' : Value → Shared → Prop}
    (hA0h : A0.handled = none) (hA0f : A0.frames = X.A.frames) (hr : Room k X.A) (TB : GxR.TabB X.base X.mg c P) (hcode : X.env.code = .ref c) (ok : GxOk X.N X.env.scope scope own) (hN : X.N.Nodup) (hi : PI X tg iter wi)
    (hs : ∀ v, genFold iter X.env v = pure v) (I : Inv X pins σ H s) (h : wi σ H fun J H1 => GxR.TabG H1 P ∧ ∀ H2, GxR.Tabbed P H1 H2 → R J H2)
    (hQ : ∀ it a fp tn J H4 s4 s5 code g go, Made X pins σ A0 elt tg iter ifs scope gpos own it a fp tn J H4 s4 s5 code g go → R J H4 → Q' (.ref a) s5) :
    wpAny (model X.prog X.w) X.A (eval (.GeneratorExp elt [⟨tg, iter, ifs, 0⟩] scope gpos) X.env) Q' X.xe s := by
  have hfree : ∀ y ∈ scope.names, y.2 = .free → ∃ c, X.env.cells.lookup y.1 = some c := fun y hy e => by
    rcases ok.blk.free y hy e with k | k
    · exact I.ok.has _ (.inl k)
    · exact I.ok.has _ (.inr k)
  refine wpAny_GeneratorExp_make ok.co (closure_ok hfree) ok.cell ok.dot ok.blk.kind (by have := hr.dp; omega) ?_ hs
  refine thn (hi.run pins s σ H _ I h) fun xv s1 hx => thn hx fun itv s2 h2 => ?_
  obtain ⟨it, fp, tn, J, H2, e, I2, T, st2, f2, ⟨ps, hP, ht⟩, q⟩ := h2
  subst e
  have hPs : s2.heap.get? P = some { cls := .none, data := .fields ps } := I2.hok P _ hP
  have cd : PySem.W.CodeHd s2.heap c P := TB.code.keeps fun b u e => I2.bk b u e
  have sz : ∀ b ∈ fp, b < s2.heap.objs.size := fun b hb => by
    obtain ⟨o, e, _⟩ := T.obj _ _ st2 b hb
    exact Heap.lt_size e
  have fnP : ∀ b ∈ fp, b ≠ P := fun b hb e => by
    have q := (f2 b hb).1
    rw [e, hP] at q
    cases q
  have cont : ∀ (code : Value) (h3 : Heap) (tk : Nat) (ps' : Array Value), Heap.ExtBut P s2.heap h3 → s2.heap.objs.size ≤ h3.objs.size → h3.get? P = some { cls := .none, data := .fields ps' } → (∃ more, ps' = ps ++ more) → TriplesOk ps'.toList →
      wpAny (model X.prog X.w) X.A (builtinsFor X.env.globals X.env.builtins) (fun bi s₄ =>
        ∀ h', h'.Ns s₄.heap.objs.size (fun y => if y = ".0" then some (Value.ref it) else none) → Heap.SameBut s₄.heap.objs.size (s₄.heap.push { cls := .type "frame", data := .dict #[] }) h' →
          Q' (.ref h'.objs.size) { s₄ with
            gens := s₄.gens.push (.fresh (.compStart (.GeneratorExp elt [⟨tg, iter, ifs, 0⟩] scope gpos) 0 (.ref it) .none (genEnv scope (cloFrom X.env.cells scope.names []) s₄.heap.objs.size code bi X.env))),
            toks := s₄.toks + 1 + 1 + 1,
            heap := h'.push { cls := .type "generator", data := .fields #[.int s₄.gens.size 0, .str "<genexpr>" (s₄.toks + 1), .str (X.env.qual ++ "<genexpr>") (s₄.toks + 1 + 1)] } }) X.xe { s2 with heap := h3, toks := tk } := by
    intro code h3 tk ps' hx hsz hP3 hmore ht3
    obtain ⟨more, em⟩ := hmore
    obtain ⟨bm, ob, e1, e2, e3, e4, e5, e6, e7, e8⟩ := TB.bm
    have keep3 : ∀ b u, b ≠ P → s2.heap.get? b = some u → h3.get? b = some u := fun b u hb e => hx b u hb e
    refine wpAny_builtinsFor (m := X.mg) (by rw [I2.ok.glob]; exact (I2.mod.glob.keeps I2.bk).extBut hx TB.gP) e1 e2 (keep3 _ _ e4 (I2.bk _ _ e5)) e6 e7 e8 ?_
    have I4 : Inv X pins σ (upd H2 P (.tbl (ps ++ more))) { s2 with heap := h3, toks := tk } :=
      GxR.inv_tab (more := more) (h' := h3) (g' := s2.gens) (d' := s2.drawn) (t' := tk) I2 hP (fun b u hb e => keep3 b u hb e) (by rw [← em]; exact hP3) I2.bare
    have hT4 : GxR.Tabbed P H2 (upd H2 P (.tbl (ps ++ more))) := ⟨⟨ps ++ more, upd_same, by rw [← em]; exact ht3⟩, fun b hb => upd_ne hb⟩
    have fk : ∀ b ∈ fp, FpOk X pins (upd H2 P (.tbl (ps ++ more))) b ∧ b < h3.objs.size := fun b hb => by
      refine ⟨⟨?_, (f2 b hb).2⟩, Nat.lt_of_lt_of_le (sz b hb) hsz⟩
      rw [upd_ne (fnP b hb)]
      exact (f2 b hb).1
    intro h' hn' hs'
    have hszh : h'.objs.size = h3.objs.size + 1 := by rw [hs'.1, Heap.size_push]
    have keep' : ∀ b o, h3.get? b = some o → h'.get? b = some o := fun b o e => hs'.extBut b o (Nat.ne_of_lt (Heap.lt_size e)) (Heap.get?_push_of_some _ e)
    have keep5 : ∀ b o, h3.get? b = some o → (h'.push { cls := .type "generator", data := .fields #[.int s2.gens.size 0, .str "<genexpr>" (tk + 1), .str (X.env.qual ++ "<genexpr>") (tk + 1 + 1)] }).get? b = some o := fun b o e => Heap.get?_push_of_some _ (keep' b o e)
    have hat : (h'.push { cls := .type "generator", data := .fields #[.int s2.gens.size 0, .str "<genexpr>" (tk + 1), .str (X.env.qual ++ "<genexpr>") (tk + 1 + 1)] }).get? h'.objs.size = some { cls := .type "generator", data := .fields #[.int s2.gens.size 0, .str "<genexpr>" (tk + 1), .str (X.env.qual ++ "<genexpr>") (tk + 1 + 1)] } := Heap.get?_push_size _ rfl
    have IY : Inv (gcx X A0 { s2 with heap := h3, toks := tk } (upd H2 P (.tbl (ps ++ more))) scope code fp) [] (wipe σ (own.map (·.2))) (upd H2 P (.tbl (ps ++ more)))
        { s2 with heap := h'.push { cls := .type "generator", data := .fields #[.int s2.gens.size 0, .str "<genexpr>" (tk + 1), .str (X.env.qual ++ "<genexpr>") (tk + 1 + 1)] }, gens := s2.gens.push (.fresh (.compStart (.GeneratorExp elt [⟨tg, iter, ifs, 0⟩] scope gpos) 0 (.ref it) .none (genEnv scope (cloFrom X.env.cells scope.names []) h3.objs.size code builtinsNs X.env))), toks := tk + 1 + 1 + 1 } :=
      gen_start (s := { s2 with heap := h3, toks := tk }) I4 ok hN fk hA0h (hA0f.trans I2.ok.frames) (hn'.push _) keep5 (I2.bare.push rfl)
    have ano : ∀ b, b < h3.objs.size → h'.objs.size ≠ b := fun b hb => by rw [hszh]; omega
    refine hQ it h'.objs.size fp tn J _ { s2 with heap := h3, toks := tk } _ code s2.gens.size _ ⟨I4, IY.pins_of fun p hp => ?_, T, ?_, fk, ?_, ?_, ?_, Array.getElem?_push_size .., hat⟩ (q _ hT4)
    · rw [List.mem_singleton.mp hp]
      refine ⟨hat, I4.hok.fresh (by show h3.objs.size ≤ h'.objs.size; omega), ?_, fun hb => ?_, fun v z => by cases z⟩
      · show h'.objs.size ≠ h3.objs.size
        omega
      · obtain ⟨_, o, ho, _⟩ := (I4.stack).mem hb
        exact ano _ (Heap.lt_size ho) rfl
    · exact T.keep _ _ _ st2 fun b hb o e => keep5 b o (keep3 b o (fnP b hb) e)
    · show h3.objs.size < h'.objs.size
      omega
    · show (h'.push _).objs.size = h'.objs.size + 1
      rw [Heap.size_push]
    · intro h hh
      exact ⟨_, _, _, hh, rfl, rfl, rfl⟩
  refine ⟨I2.nolimit, ?_⟩
  cases hf : codeAmong gpos ps.toList with
  | none =>
    refine wpAny_genexprCodeX hcode (cd.code hPs ht) (cd.tab hPs) hf fun c' h' tk hx hge hlt hco' _ htab' _ => ?_
    obtain ⟨o1, vs, f1, tf, fl, tg', inF, tx, tt, op, _, _, _, _, _, _, _, _, _, htr, _⟩ := hco'
    exact cont _ h' tk _ hx (Nat.le_trans hge (Nat.le_of_lt hlt)) htab'.2 ⟨_, rfl⟩ htr
  | some cv =>
    refine wpAny_genexprCode_hit hcode (cd.code hPs ht) hf ?_
    exact cont cv s2.heap s2.toks ps (Heap.ExtBut.refl _ _) (Nat.le_refl _) hPs ⟨#[], by simp⟩ ht
end
end GX
set_option Elab.async false
set_option linter.all false
set_option maxRecDepth 100000
set_option maxHeartbeats 4000000
namespace GX
open PySem PySem.Spec PyProof.Rows L2 GenW
theorem over_comp {A : Around} {elt : Expr} {gs : List Comprehension} {scope : Scope} {pos : Pos} {it acc : Value} {env : Env} : A.over (.compLoop (.GeneratorExp elt gs scope pos) 0 it acc env) [] = A.deeper env := by
  first
    | rfl
    | (obtain ⟨hd, d, fr, gs, u⟩ := A; simp [Around.over, Around.deeper, marksOver, frameCount, unitsOf, envsOf, guardsOf, pushEnvs, pushGuards, Code.envs, Code.env?, Code.isFrame, Code.guards, Code.isGuard, Code.weight, Code.frames, Code.isCreation, Code.isCaller, Code.cUnits])
section
variable {X : Cx} {pins : List (Addr × Obj)} {σ : L2.St} {A0 : Around} {elt tg iter : Expr} {ifs : List Expr} {scope : Scope} {gpos : Pos} {own : List (Str × Nat)} {it a : Addr} {fp : List Addr} {tn : Nat → Heap → Prop} {J : It} {H4 : Hp} {s4 s5 : Shared} {code : Value} {g : Nat} {go : Obj}
/-- behind it: the outer frame again -/
theorem Made.back (M : Made X pins σ A0 elt tg iter ifs scope gpos own it a fp tn J H4 s4 s5 code g go) {pl : List (Addr × Obj)} {σ' : L2.St} {H' : Hp} {s' : Shared} (I : Inv (gcx X A0 s4 H4 scope code fp) pl σ' H' s') : Inv X pins σ H' s' := by
  have os : s'.os = s4.os := I.os
  have un : Un (frs X.stack) fp H4 H' s4.heap s'.heap := I.base
  have hok : HOk X.prog X.w H' s'.heap := I.hok
  have bare := I.bare
  obtain ⟨h', g', d', t', o'⟩ := s'
  obtain rfl : o' = s4.os := os
  exact M.outer.call (h' := h') (g' := g') (d' := d') (t' := t') (ch := fp) un hok bare fun b hb => ⟨(M.fpk b hb).1.2.2.2.1, (M.fpk b hb).1.2.1, (M.fpk b hb).1.2.2.2.2.1, (M.fpk b hb).1.2.2.2.2.2⟩
theorem Made.stat (M : Made X pins σ A0 elt tg iter ifs scope gpos own it a fp tn J H4 s4 s5 code g go) : ∀ b ∈ fp, b ≠ (gcx X A0 s4 H4 scope code fp).env.locals ∧ b ∉ (gcx X A0 s4 H4 scope code fp).fs ∧ (b ∈ (gcx X A0 s4 H4 scope code fp).ex ∨ (gcx X A0 s4 H4 scope code fp).s_0.heap.objs.size ≤ b) ∧ ∀ x c, (gcx X A0 s4 H4 scope code fp).env.cells.lookup x = some c → c ≠ b := fun b hb =>
  ⟨(M.inner.ok.exf b hb).1, M.inner.ok.exfs b hb, .inl hb, fun x c e => (M.inner.ok.exf b hb).2 x c e⟩
/-- the consumer's objects: none, or one that is new -/
theorem Made.apart0 (M : Made X pins σ A0 elt tg iter ifs scope gpos own it a fp tn J H4 s4 s5 code g go) : Aprt (gcx X A0 s4 H4 scope code fp) [] fp a :=
  ⟨fun b hb => (by cases hb), fun b hb => (by cases hb), fun b hb => (by cases hb), fun b hb => (by cases hb), fun b hb => (by cases hb), fun hb => (by cases hb), fun hb =>
    absurd (Nat.lt_trans (M.fpk a hb).2 M.alo) (Nat.lt_irrefl _)⟩
theorem Made.apart1 (M : Made X pins σ A0 elt tg iter ifs scope gpos own it a fp tn J H4 s4 s5 code g go) {S : Addr} (hS : a < S) : Aprt (gcx X A0 s4 H4 scope code fp) [S] fp a := by
  have h1 := M.alo
  have big : ∀ b ∈ [S], s5.heap.objs.size ≤ b := fun b hb => by
    rw [List.mem_singleton.mp hb, M.asz]
    exact hS
  have sz5 : s4.heap.objs.size ≤ s5.heap.objs.size := by rw [M.asz]; omega
  refine ⟨fun b hb => Nat.le_trans sz5 (big b hb), fun b hb => ?_, fun b hb x c e z => ?_, fun b hb => M.inner.nofs (big b hb), fun b hb hb2 => ?_, fun hb => ?_, M.apart0.af⟩
  · exact Nat.ne_of_gt (Nat.lt_of_lt_of_le M.inner.lt (big b hb))
  · obtain ⟨v, q⟩ := M.inner.cell x c e
    have q1 := q.lt
    have q2 := big b hb
    rw [z] at q1
    exact absurd (Nat.lt_of_lt_of_le q1 q2) (Nat.lt_irrefl _)
  · exact absurd (Nat.lt_of_lt_of_le (M.fpk b hb2).2 (Nat.le_trans sz5 (big b hb))) (Nat.lt_irrefl _)
  · exact Nat.ne_of_lt hS (List.mem_singleton.mp hb)
/-- the fresh generator, for a consumer whose objects stand in a later state -/
theorem Made.live (M : Made X pins σ A0 elt tg iter ifs scope gpos own it a fp tn J H4 s4 s5 code g go) {C : Con} {g1 : TG} {tt : TT} {te : TE} {W : Nat → Nat → List V → Hp → Prop} {m : Nat} {s6 : Shared} {pins' : List (Addr × Obj)} (CO : C.Ok) (hB : Aprt (gcx X A0 s4 H4 scope code fp) C.B fp a)
    (co : scope.isCoroutine = false)
    (hg : PG (gcx X A0 s4 H4 scope code fp) tg g1) (ht : PTs (gcx X A0 s4 H4 scope code fp) ifs tt) (he : PE (gcx X A0 s4 H4 scope code fp) elt te) (turns : Turns J g1 tt te (own.map (·.2)) (wipe σ (own.map (·.2))) C W) (w0 : W 0 m [] H4)
    (hHB : ∀ b ∈ C.B, H4 b = none) (z : Slp C.B s5 s6) (hP : C.Pn [] pins') (hp : ∀ p ∈ pins', s6.heap.get? p.1 = some p.2) (hgens : s6.gens = s5.gens) (hl : s6.heap.NoLimit) :
    Live (gcx X A0 s4 H4 scope code fp) C A0 a go (wipe σ (own.map (·.2))) g (m + 1) s6 := by
  have ga6 : s6.heap.get? a = some go := z.keep a go hB.na M.ga
  have z' : Slp C.B s5 (s6.setGen g .running) := ⟨z.os, allBare_setGen z.bare rfl, z.keep⟩
  have I6 : Inv (gcx X A0 s4 H4 scope code fp) ((a, go) :: pins') (wipe σ (own.map (·.2))) H4 (s6.setGen g .running) := woken rfl hB M.inner hHB z' fun p hp' => ⟨(CO.pn _ _ hP p hp').1, hp p hp', (CO.pn _ _ hP p hp').2⟩
  refine ⟨M.gen _ ga6, hl, _, (by rw [hgens]; exact M.gs), ?_⟩
  refine ⟨rfl, ?_⟩
  exact seg_start over_comp rfl (fun _ _ z => z) rfl co CO hB M.stat M.turn hg ht he turns m 0 (m + 1) [] _ _ (Nat.lt_succ_self _)
    ⟨pins', H4, hP, I6, M.turn.keep _ _ _ M.tn0 fun b hb o e => z.keep b o (fun hm => hB.bf b hm hb) e, fun b hb => (M.fpk b hb).1.1, w0⟩
end
/-! ### all, any -/
def conAll (Q : VK) : Con := ⟨[], fun _ pins => pins = [], fun _ y H => ∃ c, y = .bl c ∧ (c = false → Q (.bl false) H), fun _ y => y = .bl true, fun _ H => Q (.bl true) H⟩
def conAny (Q : VK) : Con := ⟨[], fun _ pins => pins = [], fun _ y H => ∃ c, y = .bl c ∧ (c = true → Q (.bl true) H), fun _ y => y = .bl false, fun _ H => Q (.bl false) H⟩
theorem ok_all (Q : VK) : (conAll Q).Ok := ⟨fun _ _ h p hp => (by rw [show _ = [] from h] at hp; cases hp), fun _ _ _ b hb => (by cases hb)⟩
theorem ok_any (Q : VK) : (conAny Q).Ok := ⟨fun _ _ h p hp => (by rw [show _ = [] from h] at hp; cases hp), fun _ _ _ b hb => (by cases hb)⟩
theorem all_loop {Y : Cx} {A : Around} {a : Addr} {go : Obj} {σ0 : L2.St} {g : Nat} {Q : VK} {R : Result → Shared → Prop} (hh : A.handled = none) (hd : A.depth < recursionLimit) (hgo : ∀ h : Heap, h.get? a = some go → h.IsGen a g)
    (hR : ∀ b s' H, Inv Y [(a, go)] σ0 H s' → Q (.bl b) H → R (.ok (.ret (.bool b))) s') : ∀ (n : Nat) (s : Shared), Live Y (conAll Q) A.in1.in1 a go σ0 g n s → codeAny (model Y.prog Y.w) A (.builtin "all.loop" ⟨[.ref a], []⟩) R s := by
  intro n
  induction n with
  | zero =>
    intro s L
    refine codeAny_builtin F.entry_all_loop ?_
    rw [Around.under_plainId F.plain_all_loop _]
    show wpAny _ A.in1 (pyNext (.ref a) >>= _) _ _ s
    refine wpAny_bind (gx_next (A := A.in1) hh hd L hgo (fun ys x v pins H s₁ rv hP I kx kap => ?_) fun ys pins H s₁ hP I fi => ?_)
    · obtain ⟨c, rfl, hc⟩ := kx
      obtain rfl : v = .bool c := rv
      obtain rfl : pins = [] := hP
      refine wpAny_bind (wpAny_holding (wpAny_truthy_bool ?_))
      refine wpAny_bind (wpAny_letGo ?_)
      cases c with
      | true =>
        obtain ⟨k, hk, _⟩ := kap rfl s₁ ⟨rfl, I.bare, fun _ _ _ e => e⟩ ⟨[], rfl, fun p hp => (by cases hp)⟩ (I.pin (a, go) (List.mem_append_right _ List.mem_cons_self)).1 I.nolimit rfl
        cases hk
      | false =>
        simp only [Bool.false_eq_true, if_false]
        exact wpAny_bind (wpAny_rule (wpAny_pure (hR false s₁ H I (hc rfl))))
    · obtain rfl : pins = [] := hP
      exact wpAny_bind (wpAny_rule (wpAny_pure (hR true s₁ H I fi)))
  | succ n ih =>
    intro s L
    refine codeAny_builtin F.entry_all_loop ?_
    rw [Around.under_plainId F.plain_all_loop _]
    show wpAny _ A.in1 (pyNext (.ref a) >>= _) _ _ s
    refine wpAny_bind (gx_next (A := A.in1) hh hd L hgo (fun ys x v pins H s₁ rv hP I kx kap => ?_) fun ys pins H s₁ hP I fi => ?_)
    · obtain ⟨c, rfl, hc⟩ := kx
      obtain rfl : v = .bool c := rv
      obtain rfl : pins = [] := hP
      refine wpAny_bind (wpAny_holding (wpAny_truthy_bool ?_))
      refine wpAny_bind (wpAny_letGo ?_)
      cases c with
      | true =>
        obtain ⟨k, hk, L'⟩ := kap rfl s₁ ⟨rfl, I.bare, fun _ _ _ e => e⟩ ⟨[], rfl, fun p hp => (by cases hp)⟩ (I.pin (a, go) (List.mem_append_right _ List.mem_cons_self)).1 I.nolimit rfl
        cases hk
        simp only [if_true]
        exact wpAny_pure ⟨plainId_quiet F.plain_all_loop _, ih s₁ L'⟩
      | false =>
        simp only [Bool.false_eq_true, if_false]
        exact wpAny_bind (wpAny_rule (wpAny_pure (hR false s₁ H I (hc rfl))))
    · obtain rfl : pins = [] := hP
      exact wpAny_bind (wpAny_rule (wpAny_pure (hR true s₁ H I fi)))
theorem any_loop {Y : Cx} {A : Around} {a : Addr} {go : Obj} {σ0 : L2.St} {g : Nat} {Q : VK} {R : Result → Shared → Prop} (hh : A.handled = none) (hd : A.depth < recursionLimit) (hgo : ∀ h : Heap, h.get? a = some go → h.IsGen a g)
    (hR : ∀ b s' H, Inv Y [(a, go)] σ0 H s' → Q (.bl b) H → R (.ok (.ret (.bool b))) s') : ∀ (n : Nat) (s : Shared), Live Y (conAny Q) A.in1.in1 a go σ0 g n s → codeAny (model Y.prog Y.w) A (.builtin "any.loop" ⟨[.ref a], []⟩) R s := by
  intro n
  induction n with
  | zero =>
    intro s L
    refine codeAny_builtin F.entry_any_loop ?_
    rw [Around.under_plainId F.plain_any_loop _]
    show wpAny _ A.in1 (pyNext (.ref a) >>= _) _ _ s
    refine wpAny_bind (gx_next (A := A.in1) hh hd L hgo (fun ys x v pins H s₁ rv hP I kx kap => ?_) fun ys pins H s₁ hP I fi => ?_)
    · obtain ⟨c, rfl, hc⟩ := kx
      obtain rfl : v = .bool c := rv
      obtain rfl : pins = [] := hP
      refine wpAny_bind (wpAny_holding (wpAny_truthy_bool ?_))
      refine wpAny_bind (wpAny_letGo ?_)
      cases c with
      | false =>
        obtain ⟨k, hk, _⟩ := kap rfl s₁ ⟨rfl, I.bare, fun _ _ _ e => e⟩ ⟨[], rfl, fun p hp => (by cases hp)⟩ (I.pin (a, go) (List.mem_append_right _ List.mem_cons_self)).1 I.nolimit rfl
        cases hk
      | true =>
        simp only [if_true]
        exact wpAny_bind (wpAny_rule (wpAny_pure (hR true s₁ H I (hc rfl))))
    · obtain rfl : pins = [] := hP
      exact wpAny_bind (wpAny_rule (wpAny_pure (hR false s₁ H I fi)))
  | succ n ih =>
    intro s L
    refine codeAny_builtin F.entry_any_loop ?_
    rw [Around.under_plainId F.plain_any_loop _]
    show wpAny _ A.in1 (pyNext (.ref a) >>= _) _ _ s
    refine wpAny_bind (gx_next (A := A.in1) hh hd L hgo (fun ys x v pins H s₁ rv hP I kx kap => ?_) fun ys pins H s₁ hP I fi => ?_)
    · obtain ⟨c, rfl, hc⟩ := kx
      obtain rfl : v = .bool c := rv
      obtain rfl : pins = [] := hP
      refine wpAny_bind (wpAny_holding (wpAny_truthy_bool ?_))
      refine wpAny_bind (wpAny_letGo ?_)
      cases c with
      | false =>
        obtain ⟨k, hk, L'⟩ := kap rfl s₁ ⟨rfl, I.bare, fun _ _ _ e => e⟩ ⟨[], rfl, fun p hp => (by cases hp)⟩ (I.pin (a, go) (List.mem_append_right _ List.mem_cons_self)).1 I.nolimit rfl
        cases hk
        simp only [Bool.false_eq_true, if_false]
        exact wpAny_pure ⟨plainId_quiet F.plain_any_loop _, ih s₁ L'⟩
      | true =>
        simp only [if_true]
        exact wpAny_bind (wpAny_rule (wpAny_pure (hR true s₁ H I (hc rfl))))
    · obtain rfl : pins = [] := hP
      exact wpAny_bind (wpAny_rule (wpAny_pure (hR false s₁ H I fi)))
/-- all(elt for tg in iter if ..) -/
def tAllG (P : Addr) (wi : TI) (g : TG) (tt : TT) (te : TE) (vs : List Nat) : TE := fun σ H Q => wi σ H fun J H1 => GxR.TabG H1 P ∧ ∀ H2, GxR.Tabbed P H1 H2 → ∃ W : Nat → Nat → List V → Hp → Prop, (∃ m, W 0 m [] H2) ∧ Turns J g tt te vs (wipe σ vs) (conAll Q) W
def tAnyG (P : Addr) (wi : TI) (g : TG) (tt : TT) (te : TE) (vs : List Nat) : TE := fun σ H Q => wi σ H fun J H1 => GxR.TabG H1 P ∧ ∀ H2, GxR.Tabbed P H1 H2 → ∃ W : Nat → Nat → List V → Hp → Prop, (∃ m, W 0 m [] H2) ∧ Turns J g tt te vs (wipe σ vs) (conAny Q) W
section
variable {X : Cx} {c P : Addr} {elt tg iter : Expr} {ifs : List Expr} {p pos gpos : Pos} {scope : Scope} {own : List (Str × Nat)} {wi : TI} {g : TG} {tt : TT} {te : TE} {k : Nat}
theorem pe_allG (hr : Room k X.A) (hgl : Gl X "all") (hm : X.mg "all" = none) (TB : GxR.TabB X.base X.mg c P) (hcode : X.env.code = .ref c) (ok : GxOk X.N X.env.scope scope own) (hN : X.N.Nodup) (hi : PI X tg iter wi)
    (hg : ∀ (s : Shared) (H : Hp) (code : Value) (fp : List Addr), PG (gcx X X.A.in1.in1 s H scope code fp) tg g) (ht : ∀ (s : Shared) (H : Hp) (code : Value) (fp : List Addr), PTs (gcx X X.A.in1.in1 s H scope code fp) ifs tt)
    (hel : ∀ (s : Shared) (H : Hp) (code : Value) (fp : List Addr), PE (gcx X X.A.in1.in1 s H scope code fp) elt te) (hs : ∀ v, genFold iter X.env v = pure v := by intro _; rfl)
    (he : starEach [.GeneratorExp elt [⟨tg, iter, ifs, 0⟩] scope gpos] X.env = (false, eval (.GeneratorExp elt [⟨tg, iter, ifs, 0⟩] scope gpos) X.env) :: starEach [] X.env := by rfl) :
    PE X (.Call (.Name "all" p) [.GeneratorExp elt [⟨tg, iter, ifs, 0⟩] scope gpos] [] pos) (tAllG P wi g tt te (own.map (·.2))) := by
  refine ⟨fun pins s σ H Q I h => ?_⟩
  refine wpAny_Call_Name_kw (ld_blt I hgl hm (show bootBuiltins "all" = some (.builtin "all") by decide +kernel) ?_)
  refine PyProof.Rows.callWith_builtin1 ?_ he (by rfl)
  rw [he]
  show wpAny _ _ (spliced ((false, eval (.GeneratorExp elt [⟨tg, iter, ifs, 0⟩] scope gpos) X.env) :: backTo pos (starEach [] X.env))) _ _ s
  refine Calls.spliced_cons (gx_make (A0 := X.A.in1.in1) (own := own) (R := fun J H2 => ∃ W : Nat → Nat → List V → Hp → Prop, (∃ m, W 0 m [] H2) ∧ Turns J g tt te (own.map (fun q : Str × Nat => q.2)) (wipe σ (own.map (fun q : Str × Nat => q.2))) (conAll Q) W) hr.hd rfl hr TB hcode ok hN hi hs I h fun it a fp tn J H4 s4 s5 code gn go M q => ?_)
  obtain ⟨W, ⟨m, w0⟩, turns⟩ := q
  refine Calls.spliced_nil ?_
  have L : Live (gcx X X.A.in1.in1 s4 H4 scope code fp) (conAll Q) X.A.in1.in1 a go (wipe σ (own.map (·.2))) gn (m + 1) s5 :=
    M.live (s6 := s5) (pins' := []) (ok_all Q) M.apart0 ok.co (hg s4 H4 code fp) (ht s4 H4 code fp) (hel s4 H4 code fp) turns w0 (fun b hb => (by cases hb)) ⟨rfl, M.inner.bare, fun _ _ _ e => e⟩ rfl (fun p hp => (by cases hp)) rfl M.inner.nolimit
  refine call_function_tree F.kind_all F.plain_all F.entry_all (F.args_all1 _) ?_
  unfold Builtin.«all»
  refine wpAny_bind (m := oneArg "all" _) (wpAny_pure ?_)
  refine wpAny_bind (wpAny_pyIter_gen (M.gen _ M.ga) ?_)
  refine wpAny_pure ⟨plainId_quiet F.plain_all_loop _, all_loop (Y := gcx X X.A.in1.in1 s4 H4 scope code fp) hr.hd hr.depth M.gen (fun b s' H' I' q' => ?_) (m + 1) s5 L⟩
  exact ⟨.bl b, H', M.back I', rfl, q'⟩
theorem pe_anyG (hr : Room k X.A) (hgl : Gl X "any") (hm : X.mg "any" = none) (TB : GxR.TabB X.base X.mg c P) (hcode : X.env.code = .ref c) (ok : GxOk X.N X.env.scope scope own) (hN : X.N.Nodup) (hi : PI X tg iter wi)
    (hg : ∀ (s : Shared) (H : Hp) (code : Value) (fp : List Addr), PG (gcx X X.A.in1.in1 s H scope code fp) tg g) (ht : ∀ (s : Shared) (H : Hp) (code : Value) (fp : List Addr), PTs (gcx X X.A.in1.in1 s H scope code fp) ifs tt)
    (hel : ∀ (s : Shared) (H : Hp) (code : Value) (fp : List Addr), PE (gcx X X.A.in1.in1 s H scope code fp) elt te) (hs : ∀ v, genFold iter X.env v = pure v := by intro _; rfl)
    (he : starEach [.GeneratorExp elt [⟨tg, iter, ifs, 0⟩] scope gpos] X.env = (false, eval (.GeneratorExp elt [⟨tg, iter, ifs, 0⟩] scope gpos) X.env) :: starEach [] X.env := by rfl) :
    PE X (.Call (.Name "any" p) [.GeneratorExp elt [⟨tg, iter, ifs, 0⟩] scope gpos] [] pos) (tAnyG P wi g tt te (own.map (·.2))) := by
  refine ⟨fun pins s σ H Q I h => ?_⟩
  refine wpAny_Call_Name_kw (ld_blt I hgl hm boot_any ?_)
  refine PyProof.Rows.callWith_builtin1 ?_ he (by rfl)
  rw [he]
  show wpAny _ _ (spliced ((false, eval (.GeneratorExp elt [⟨tg, iter, ifs, 0⟩] scope gpos) X.env) :: backTo pos (starEach [] X.env))) _ _ s
  refine Calls.spliced_cons (gx_make (A0 := X.A.in1.in1) (own := own) (R := fun J H2 => ∃ W : Nat → Nat → List V → Hp → Prop, (∃ m, W 0 m [] H2) ∧ Turns J g tt te (own.map (fun q : Str × Nat => q.2)) (wipe σ (own.map (fun q : Str × Nat => q.2))) (conAny Q) W) hr.hd rfl hr TB hcode ok hN hi hs I h fun it a fp tn J H4 s4 s5 code gn go M q => ?_)
  obtain ⟨W, ⟨m, w0⟩, turns⟩ := q
  refine Calls.spliced_nil ?_
  have L : Live (gcx X X.A.in1.in1 s4 H4 scope code fp) (conAny Q) X.A.in1.in1 a go (wipe σ (own.map (·.2))) gn (m + 1) s5 :=
    M.live (s6 := s5) (pins' := []) (ok_any Q) M.apart0 ok.co (hg s4 H4 code fp) (ht s4 H4 code fp) (hel s4 H4 code fp) turns w0 (fun b hb => (by cases hb)) ⟨rfl, M.inner.bare, fun _ _ _ e => e⟩ rfl (fun p hp => (by cases hp)) rfl M.inner.nolimit
  refine call_function_tree F.kind_any F.plain_any F.entry_any (F.args_any1 _) ?_
  unfold Builtin.«any»
  refine wpAny_bind (m := oneArg "any" _) (wpAny_pure ?_)
  refine wpAny_bind (wpAny_pyIter_gen (M.gen _ M.ga) ?_)
  refine wpAny_pure ⟨plainId_quiet F.plain_any_loop _, any_loop (Y := gcx X X.A.in1.in1 s4 H4 scope code fp) hr.hd hr.depth M.gen (fun b s' H' I' q' => ?_) (m + 1) s5 L⟩
  exact ⟨.bl b, H', M.back I', rfl, q'⟩
end
end GX
set_option Elab.async false
set_option linter.all false
set_option maxRecDepth 100000
set_option maxHeartbeats 4000000
namespace GX
open PySem PySem.Spec PyProof.Rows L2 GenW
/-! ### tuple -/
def conTup0 (Q : VK) : Con := ⟨[], fun _ pins => pins = [], fun ys _ _ => ys.length < sizeLine, fun _ _ => True, fun ys H => ys.length ≤ sizeLine ∧ ∀ p, H p = none → Q (.ref p) (upd H p (.tup ys))⟩
def conTup (Q : VK) (S : Addr) : Con := ⟨[S], fun ys pins => ∃ acc c, Vals ys acc.toList ∧ pins = [(S, lstObj acc c)], fun ys _ _ => ys.length < sizeLine, fun _ _ => True, fun ys H => ys.length ≤ sizeLine ∧ ∀ p, H p = none → Q (.ref p) (upd H p (.tup ys))⟩
theorem ok_tup (Q : VK) (S : Addr) : (conTup Q S).Ok := by
  refine ⟨fun ys pins ⟨acc, c, _, e⟩ p hp => ?_, fun ys pins ⟨acc, c, _, e⟩ b hb => ?_⟩
  · subst e
    rw [List.mem_singleton.mp hp]
    exact ⟨List.mem_singleton.mpr rfl, fun v z => by cases z⟩
  · subst e
    rw [List.mem_singleton.mp hb]
    exact ⟨_, List.mem_singleton.mpr rfl⟩
theorem tup_loop {Y : Cx} {A : Around} {a S : Addr} {go : Obj} {σ0 : L2.St} {g : Nat} {Q : VK} {R : Result → Shared → Prop} {res : Value} (hh : A.handled = none) (hd : A.depth < recursionLimit) (hgo : ∀ h : Heap, h.get? a = some go → h.IsGen a g) (hSa : S ≠ a) (hSc : S ≠ cStatics)
    (hR : ∀ ys acc c s' H, Vals ys acc.toList → Inv Y [(a, go), (S, lstObj acc c)] σ0 H s' → ys.length ≤ sizeLine → (∀ p, H p = none → Q (.ref p) (upd H p (.tup ys))) → R (.ok (.ret res)) s') :
    ∀ (n : Nat) (s : Shared), Live Y (conTup Q S) A.in1.in1 a go σ0 g n s → codeAny (model Y.prog Y.w) A (.builtin "list.extend.loop" ⟨[.ref S, .ref a, res], []⟩) R s := by
  intro n
  induction n with
  | zero =>
    intro s L
    refine codeAny_builtin F.entry_extend_loop ?_
    rw [Around.under_plainId F.plain_extend_loop _]
    show wpAny _ A.in1 (pyNext (.ref a) >>= _) _ _ s
    refine wpAny_bind (gx_next (A := A.in1) hh hd L hgo (fun ys x v pins H s₁ rv hP I kx kap => ?_) fun ys pins H s₁ hP I fi => ?_)
    · obtain ⟨acc, c, hv, rfl⟩ := hP
      have hS1 : s₁.heap.get? S = some (lstObj acc c) := (I.pin (S, lstObj acc c) (List.mem_append_right _ (List.mem_cons_of_mem _ List.mem_cons_self))).1
      have ga : s₁.heap.get? a = some go := (I.pin (a, go) (List.mem_append_right _ List.mem_cons_self)).1
      have keep3 : ∀ b o, b ≠ S → s₁.heap.get? b = some o → (s₁.heap.update S (Obj.mapSeq (·.push v))).get? b = some o := fun b o hbS e => (Heap.get?_update_other _ _ (Ne.symm hbS)).trans e
      obtain ⟨k, hk, _⟩ := kap trivial { s₁ with heap := s₁.heap.update S (Obj.mapSeq (·.push v)) } ⟨rfl, I.bare, fun b o hb e => keep3 b o (fun z => hb (by rw [z]; exact List.mem_singleton.mpr rfl)) e⟩
        ⟨_, ⟨acc.push v, _, by rw [Array.toList_push]; exact hv.append (.cons rv .nil), rfl⟩, fun p hp => by rw [List.mem_singleton.mp hp]; exact Heap.get?_update_self _ hS1 rfl⟩ (keep3 a go (Ne.symm hSa) ga)
        (let ⟨mc, hns, hnn⟩ := I.nolimit; ⟨mc, hns.at' fun o e => keep3 _ o (Ne.symm hSc) e, hnn⟩) rfl
      cases hk
    · obtain ⟨acc, c, hv, rfl⟩ := hP
      exact wpAny_pure (hR ys acc c s₁ H hv I fi.1 fi.2)
  | succ n ih =>
    intro s L
    refine codeAny_builtin F.entry_extend_loop ?_
    rw [Around.under_plainId F.plain_extend_loop _]
    show wpAny _ A.in1 (pyNext (.ref a) >>= _) _ _ s
    refine wpAny_bind (gx_next (A := A.in1) hh hd L hgo (fun ys x v pins H s₁ rv hP I kx kap => ?_) fun ys pins H s₁ hP I fi => ?_)
    · obtain ⟨acc, c, hv, rfl⟩ := hP
      have hS1 : s₁.heap.get? S = some (lstObj acc c) := (I.pin (S, lstObj acc c) (List.mem_append_right _ (List.mem_cons_of_mem _ List.mem_cons_self))).1
      have ga : s₁.heap.get? a = some go := (I.pin (a, go) (List.mem_append_right _ List.mem_cons_self)).1
      have keep3 : ∀ b o, b ≠ S → s₁.heap.get? b = some o → (s₁.heap.update S (Obj.mapSeq (·.push v))).get? b = some o := fun b o hbS e => (Heap.get?_update_other _ _ (Ne.symm hbS)).trans e
      have hl : acc.size < sizeLine := by
        have q1 : ys.length = acc.toList.length := hv.length
        have q2 : ys.length < sizeLine := kx
        have q3 : acc.toList.length = acc.size := Array.length_toList ..
        exact Nat.lt_of_le_of_lt (Nat.le_of_eq (q3.symm.trans q1.symm)) q2
      obtain ⟨k, hk, L'⟩ := kap trivial { s₁ with heap := s₁.heap.update S (Obj.mapSeq (·.push v)) } ⟨rfl, I.bare, fun b o hb e => keep3 b o (fun z => hb (by rw [z]; exact List.mem_singleton.mpr rfl)) e⟩
        ⟨_, ⟨acc.push v, _, by rw [Array.toList_push]; exact hv.append (.cons rv .nil), rfl⟩, fun p hp => by rw [List.mem_singleton.mp hp]; exact Heap.get?_update_self _ hS1 rfl⟩ (keep3 a go (Ne.symm hSa) ga)
        (let ⟨mc, hns, hnn⟩ := I.nolimit; ⟨mc, hns.at' fun o e => keep3 _ o (Ne.symm hSc) e, hnn⟩) rfl
      cases hk
      show wpAny _ A.in1 (updateSeq S (·.push v) >>= _) _ _ _
      refine wpAny_bind ?_
      exact wpAny_updateSeq hS1 rfl (wpAny_pure ⟨plainId_quiet F.plain_extend_loop _, ih _ L'⟩) (Nat.le_of_lt hl) (by show (acc.push v).size ≤ sizeLine + 1; rw [Array.size_push]; omega)
    · obtain ⟨acc, c, hv, rfl⟩ := hP
      exact wpAny_pure (hR ys acc c s₁ H hv I fi.1 fi.2)
section
variable {X : Cx} {pins : List (Addr × Obj)} {σ : L2.St} {A : Around} {elt tg iter : Expr} {ifs : List Expr} {scope : Scope} {gpos : Pos} {own : List (Str × Nat)} {it a : Addr} {fp : List Addr} {tn : Nat → Heap → Prop} {J : It} {H4 : Hp} {s4 s5 : Shared} {code : Value} {g : Nat} {go : Obj}
theorem collect_gx {g1 : TG} {tt : TT} {te : TE} {W : Nat → Nat → List V → Hp → Prop} {m : Nat} {Q : VK} {Q' : List Value → Shared → Prop} {E : Value → Shared → Prop} (hh : A.handled = none) (hd : A.depth < recursionLimit)
    (M : Made X pins σ A.in1.in1 elt tg iter ifs scope gpos own it a fp tn J H4 s4 s5 code g go) (co : scope.isCoroutine = false)
    (hg : PG (gcx X A.in1.in1 s4 H4 scope code fp) tg g1) (ht : PTs (gcx X A.in1.in1 s4 H4 scope code fp) ifs tt) (he : PE (gcx X A.in1.in1 s4 H4 scope code fp) elt te) (turns : Turns J g1 tt te (own.map (·.2)) (wipe σ (own.map (·.2))) (conTup0 Q) W) (w0 : W 0 m [] H4)
    (hQ : ∀ (ys : List V) (acc : Array Value) (s' : Shared) (H' : Hp), Vals ys acc.toList → Inv X pins σ H' s' → ys.length ≤ sizeLine → (∀ p, H' p = none → Q (.ref p) (upd H' p (.tup ys))) → Q' acc.toList s') :
    wpAny (model X.prog X.w) A (collect (.ref a)) Q' E s5 := by
  have hSa : s5.heap.objs.size ≠ a := by rw [M.asz]; exact Nat.succ_ne_self _
  have haS : a < s5.heap.objs.size := by rw [M.asz]; exact Nat.lt_succ_self _
  have hl5 : s5.heap.NoLimit := M.inner.nolimit
  have hcl : cStatics < s5.heap.objs.size := let ⟨_, hn, _⟩ := hl5; hn.lt
  unfold collect
  refine wpAny_bind (wpAny_runValue (codeAny_builtin F.entry_proto_collect ?_))
  rw [Around.under_plainId F.plain_proto_collect _]
  show wpAny _ A.in1 (newList [] >>= fun l => again (.builtin "list.__iadd__" ⟨[l, .ref a], []⟩)) _ _ s5
  refine wpAny_bind (wpAny_newObj_type ?_)
  refine wpAny_pure ⟨plainId_quiet F.plain_list_iadd _, codeAny_builtin F.entry_list_iadd ?_⟩
  rw [Around.under_plainId F.plain_list_iadd _]
  have k1 : ∀ b o, s5.heap.get? b = some o → (s5.heap.push { cls := .type "list", data := .seq ([] : List Value).toArray }).get? b = some o := fun b o e => Heap.get?_push_of_some _ e
  have gen1 := M.gen _ (k1 _ _ M.ga)
  show wpAny _ A.in1 (Builtin.List.listExtendWith (.ref s5.heap.objs.size) (.ref a) (.ref s5.heap.objs.size)) _ _ _
  unfold Builtin.List.listExtendWith
  refine wpAny_bind (wpAny_typeOf (Heap.IsGen.typeIs (s := { s5 with heap := _ }) gen1) ?_)
  have h1 : Builtin.List.listSameRef (.ref s5.heap.objs.size) (.ref a) = false := by simp [Builtin.List.listSameRef, hSa]
  have h2 : (Value.type "generator" == Value.type "list") = false := by decide
  have h3 : (Value.type "generator" == Value.type "tuple") = false := by decide
  simp only [h1, h2, h3, Bool.or_false, Bool.false_eq_true, if_false]
  refine wpAny_bind (wpAny_pyIter_gen (s := { s5 with heap := _ }) gen1 ?_)
  refine wpAny_bind (wpAny_holding ?_)
  unfold Builtin.List.listLengthHint
  refine wpAny_bind (wpAny_specialOf (Heap.IsGen.typeIs (s := { s5 with heap := _ }) gen1) F.gen_no_len ?_)
  show wpAny _ A.in1 (specialOf (Value.ref a) (Str.ofString "__length_hint__") >>= _) _ _ _
  refine wpAny_bind (wpAny_specialOf (Heap.IsGen.typeIs (s := { s5 with heap := _ }) gen1) F.gen_no_hint ?_)
  refine wpAny_pure ?_
  show wpAny _ A.in1 (rule "list.extend.makes-room" >>= fun _ => Builtin.List.listTouch (.ref s5.heap.objs.size) >>= fun _ =>
    again (.builtin "list.extend.loop" ⟨[.ref s5.heap.objs.size, .ref a, .ref s5.heap.objs.size], []⟩)) _ _ _
  refine wpAny_bind (wpAny_rule ?_)
  have hS1 : (s5.heap.push { cls := .type "list", data := .seq ([] : List Value).toArray }).get? s5.heap.objs.size = some { cls := .type "list", data := .seq ([] : List Value).toArray } := Heap.get?_push_size _ rfl
  refine wpAny_bind ?_
  show wpAny _ A.in1 (updateSeq s5.heap.objs.size (·.push .none) >>= fun _ => updateSeq s5.heap.objs.size (·.pop)) _ _ _
  refine wpAny_bind (wpAny_updateSeq hS1 rfl ?_)
  have hS2 := Heap.get?_update_self (Obj.mapSeq (·.push Value.none)) hS1 rfl
  refine wpAny_updateSeq hS2 rfl ?_
  have hS3 := Heap.get?_update_self (Obj.mapSeq (·.pop)) hS2 rfl
  have oth : ∀ b o, b ≠ s5.heap.objs.size → s5.heap.get? b = some o →
      (((s5.heap.push { cls := .type "list", data := .seq ([] : List Value).toArray }).update s5.heap.objs.size (Obj.mapSeq (·.push Value.none))).update s5.heap.objs.size (Obj.mapSeq (·.pop))).get? b = some o :=
    fun b o hb e => (Heap.get?_update_other _ _ (Ne.symm hb)).trans ((Heap.get?_update_other _ _ (Ne.symm hb)).trans (k1 b o e))
  have z : Slp (conTup Q s5.heap.objs.size).B s5 { s5 with heap := ((s5.heap.push { cls := .type "list", data := .seq ([] : List Value).toArray }).update s5.heap.objs.size (Obj.mapSeq (·.push Value.none))).update s5.heap.objs.size (Obj.mapSeq (·.pop)) } :=
    ⟨rfl, M.inner.bare, fun b o hb e => oth b o (fun q => hb (by rw [q]; exact List.mem_singleton.mpr rfl)) e⟩
  have L := M.live (C := conTup Q s5.heap.objs.size) (ok_tup Q _) (M.apart1 haS) co hg ht he turns w0 (fun b hb => by rw [List.mem_singleton.mp hb]; exact M.inner.hok.fresh (Nat.le_refl _)) z
    (pins' := [(s5.heap.objs.size, lstObj #[] _)]) ⟨#[], _, .nil, rfl⟩ (fun p hp => by rw [List.mem_singleton.mp hp]; exact hS3) rfl
    (let ⟨mc, hns, hnn⟩ := hl5; ⟨mc, hns.at' fun o e => oth _ o (Nat.ne_of_lt hcl) e, hnn⟩)
  refine wpAny_pure ⟨plainId_quiet F.plain_extend_loop _, tup_loop (Y := gcx X A.in1.in1 s4 H4 scope code fp) hh hd M.gen hSa (Nat.ne_of_gt hcl) (fun ys acc c s' H' hv I' hle q => ?_) (m + 1) _ L⟩
  have hS' : s'.heap.get? s5.heap.objs.size = some (lstObj acc c) := (I'.pin (s5.heap.objs.size, lstObj acc c) (List.mem_append_right _ (List.mem_cons_of_mem _ List.mem_cons_self))).1
  show wpAny _ A (load s5.heap.objs.size >>= _) _ _ s'
  refine wpAny_bind (wpAny_load hS' ?_)
  exact wpAny_pure (hQ ys acc s' H' hv (M.back I') hle q)
theorem call_tuple_gx {g1 : TG} {tt : TT} {te : TE} {W : Nat → Nat → List V → Hp → Prop} {m : Nat} {Q : VK} {E : Value → Shared → Prop} (hh : A.handled = none) (hd : A.depth < recursionLimit)
    (M : Made X pins σ A.in4 elt tg iter ifs scope gpos own it a fp tn J H4 s4 s5 code g go) (co : scope.isCoroutine = false)
    (hg : PG (gcx X A.in4 s4 H4 scope code fp) tg g1) (ht : PTs (gcx X A.in4 s4 H4 scope code fp) ifs tt) (he : PE (gcx X A.in4 s4 H4 scope code fp) elt te) (turns : Turns J g1 tt te (own.map (·.2)) (wipe σ (own.map (·.2))) (conTup0 Q) W) (w0 : W 0 m [] H4) :
    wpAny (model X.prog X.w) A (call (.type "tuple") [.ref a]) (EP X pins σ Q) E s5 := by
  have new : codeAny (model X.prog X.w) A.in1 (.call (.builtin "tuple.__new__") ⟨[.type "tuple", .ref a], []⟩) (wants (fun obj s₁ => s₁.TypeIs obj "tuple" ∧ EP X pins σ Q obj s₁) E) s5 := by
    refine codeAny_of_tree ?_
    show wpAny _ A.in1.in1 (do checkBuiltinCall "tuple.__new__" ⟨[.type "tuple", .ref a], []⟩; again (.builtin "tuple.__new__" ⟨[.type "tuple", .ref a], []⟩)) _ _ s5
    refine wpAny_bind (wpAny_of_eq (F.newCall_tuple_1 _) (wpAny_pure ⟨plainId_quiet F.plain_tuple_new _, codeAny_builtin F.entry_tuple_new ?_⟩))
    rw [Around.under_plainId F.plain_tuple_new _]
    have hsub := sub_tuple_self
    have hinit := init_tuple_lookup
    have hmh := madeHere_tuple
    have hTI : s5.TypeIs (.ref a) "generator" := Heap.IsGen.typeIs (M.gen _ M.ga)
    wp_walk using wpAny_typeOf hTI, collect_gx (A := A.in1.in1) hh hd M co hg ht he turns w0
    intro ys acc s' H' hv I' hle q
    show wpAny _ _ (Builtin.Tuple.tupleExact acc.toList.toArray >>= fun v => ret v) _ _ _
    unfold Builtin.Tuple.tupleExact
    have hlen := hv.length
    refine wpAny_bind (wpAny_newObj_type ?_ (by show acc.toList.toArray.size ≤ sizeLine; rw [List.size_toArray]; omega))
    refine wpAny_pure ?_
    have hf : H' s'.heap.objs.size = none := I'.hok.fresh (Nat.le_refl _)
    refine ⟨⟨_, Heap.get?_push_size _ rfl, rfl⟩, .ref s'.heap.objs.size, upd H' s'.heap.objs.size (.tup ys), I'.laid (t' := s'.toks) (fun b u e => Heap.get?_push_of_some _ e) (Nat.le_refl _) ?_, rfl, q _ hf⟩
    exact ⟨hle, acc.toList, hv, ⟨_, Heap.get?_push_size _ rfl, rfl, _, rfl⟩⟩
  refine callType_codes (Q₁ := fun obj s₁ => s₁.TypeIs obj "tuple" ∧ EP X pins σ Q obj s₁) F.called_tuple (F.typeCall_tuple_1 _) F.entry_object_init new fun obj s₁ h₁ => ?_
  exact ⟨h₁.1, F.args_object_init_2 obj _, object_init_meets F.called_tuple.init.lookup F.called_tuple.made (by decide) X.prog X.w A.in1 _ s₁ ⟨h₁.1, rfl, h₁.2⟩⟩
end
/-- tuple(elt for tg in iter if ..) -/
def tTupG (P : Addr) (wi : TI) (g : TG) (tt : TT) (te : TE) (vs : List Nat) : TE := fun σ H Q => wi σ H fun J H1 => GxR.TabG H1 P ∧ ∀ H2, GxR.Tabbed P H1 H2 → ∃ W : Nat → Nat → List V → Hp → Prop, (∃ m, W 0 m [] H2) ∧ Turns J g tt te vs (wipe σ vs) (conTup0 Q) W
section
variable {X : Cx} {c P : Addr} {elt tg iter : Expr} {ifs : List Expr} {p pos gpos : Pos} {scope : Scope} {own : List (Str × Nat)} {wi : TI} {g : TG} {tt : TT} {te : TE} {k : Nat}
theorem pe_tupG (hr : Room k X.A) (hgl : Gl X "tuple") (hm : X.mg "tuple" = none) (TB : GxR.TabB X.base X.mg c P) (hcode : X.env.code = .ref c) (ok : GxOk X.N X.env.scope scope own) (hN : X.N.Nodup) (hi : PI X tg iter wi)
    (hg : ∀ (s : Shared) (H : Hp) (code : Value) (fp : List Addr), PG (gcx X X.A.in4 s H scope code fp) tg g) (ht : ∀ (s : Shared) (H : Hp) (code : Value) (fp : List Addr), PTs (gcx X X.A.in4 s H scope code fp) ifs tt)
    (hel : ∀ (s : Shared) (H : Hp) (code : Value) (fp : List Addr), PE (gcx X X.A.in4 s H scope code fp) elt te) (hs : ∀ v, genFold iter X.env v = pure v := by intro _; rfl)
    (he : starEach [.GeneratorExp elt [⟨tg, iter, ifs, 0⟩] scope gpos] X.env = (false, eval (.GeneratorExp elt [⟨tg, iter, ifs, 0⟩] scope gpos) X.env) :: starEach [] X.env := by rfl) :
    PE X (.Call (.Name "tuple" p) [.GeneratorExp elt [⟨tg, iter, ifs, 0⟩] scope gpos] [] pos) (tTupG P wi g tt te (own.map (·.2))) := by
  refine ⟨fun pins s σ H Q I h => ?_⟩
  refine wpAny_Call_Name_kw (ld_blt I hgl hm (show bootBuiltins "tuple" = some (.type "tuple") by decide +kernel) ?_)
  refine PyProof.Rows.callWith_type1 ?_ he (by rfl)
  rw [he]
  show wpAny _ _ (spliced ((false, eval (.GeneratorExp elt [⟨tg, iter, ifs, 0⟩] scope gpos) X.env) :: backTo pos (starEach [] X.env))) _ _ s
  refine Calls.spliced_cons (gx_make (A0 := X.A.in4) (own := own) (R := fun J H2 => ∃ W : Nat → Nat → List V → Hp → Prop, (∃ m, W 0 m [] H2) ∧ Turns J g tt te (own.map (fun q : Str × Nat => q.2)) (wipe σ (own.map (fun q : Str × Nat => q.2))) (conTup0 Q) W) hr.hd rfl hr TB hcode ok hN hi hs I h fun it a fp tn J H4 s4 s5 code gn go M q => ?_)
  obtain ⟨W, ⟨m, w0⟩, turns⟩ := q
  refine Calls.spliced_nil ?_
  exact call_tuple_gx hr.hd hr.depth M ok.co (hg s4 H4 code fp) (ht s4 H4 code fp) (hel s4 H4 code fp) turns w0
end
/-! ### room, scopes, turns -/
theorem Room.gx2 {k : Nat} {X : Cx} (r : Room (k + 1) X.A) {s : Shared} {H : Hp} {scope : Scope} {code : Value} {fp : List Addr} : Room k (gcx X X.A.in1.in1 s H scope code fp).A :=
  ⟨r.hd, by have := r.dp; show X.A.depth + 1 + 3 * k + 5 < _; omega, by have := r.un; show X.A.units + 1 + 1 + 3 + 16 * k + 200 < _; omega⟩
theorem Room.gx4 {k : Nat} {X : Cx} (r : Room (k + 1) X.A) {s : Shared} {H : Hp} {scope : Scope} {code : Value} {fp : List Addr} : Room k (gcx X X.A.in4 s H scope code fp).A :=
  ⟨r.hd, by have := r.dp; show X.A.depth + 1 + 3 * k + 5 < _; omega, by have := r.un; show X.A.units + 1 + 1 + 1 + 1 + 3 + 16 * k + 200 < _; omega⟩
def gxC (N : List Str) (sc scope : Scope) (own : List (Str × Nat)) : Bool :=
  blkC N sc scope own && !scope.isCoroutine && scope.names.all (fun y => match y.2 with | .cell => false | _ => true) && (match scope.names.lookup (".0" : Str) with | some .local => true | _ => false)
theorem gxOk_by {N : List Str} {sc scope : Scope} {own : List (Str × Nat)} (h : gxC N sc scope own = true) : GxOk N sc scope own := by
  unfold gxC at h
  simp only [Bool.and_eq_true] at h
  obtain ⟨⟨⟨h1, h2⟩, h3⟩, h4⟩ := h
  refine ⟨blkOk_by h1, by simpa using h2, fun y hy e => ?_, ?_⟩
  · have q := List.all_eq_true.mp h3 y hy
    rw [e] at q
    cases q
  · split at h4
    · assumption
    · cases h4
/-- the turns over a walk of n: Pv by the turn, what is out, the heap -/
theorem turns_it {J : It} {n : Nat} {G : Hp → Prop} {Yd : Nat → Hp → V → Hp → Prop} (w : Walk J n G Yd) {g : TG} {tt : TT} {te : TE} {vs : List Nat} {σ0 : L2.St} {C : Con} {H : Hp} (Pv : Nat → List V → Hp → Prop) (h0 : Pv 0 [] H) (hG : ∀ i ys H, i ≤ n → Pv i ys H → G H)
    (hs : ∀ i x ys H H', i < n → Pv i ys H → Yd i H x H' → g x σ0 H' fun σ2 H2 => wipe σ2 vs = σ0 ∧ tt σ2 H2 fun b H3 =>
      if b = true then te σ2 H3 fun y H4 => C.Kx ys y H4 ∧ (C.Cn ys y → Pv (i + 1) (ys ++ [y]) H4) else Pv (i + 1) ys H3) (hd : ∀ ys H, Pv n ys H → C.Fi ys H) :
    ∃ W : Nat → Nat → List V → Hp → Prop, (∃ m, W 0 m [] H) ∧ Turns J g tt te vs σ0 C W := by
  refine ⟨fun i m ys H => m = n - i ∧ i ≤ n ∧ Pv i ys H, ⟨n, by simp, Nat.zero_le _, h0⟩, ?_⟩
  rintro i m ys H ⟨rfl, hi, p⟩
  have q := hG i ys H hi p
  by_cases hlt : i < n
  · exact .inr ⟨w.goes i H hlt q, Pv (i + 1), fun ys' H' p' => ⟨n - (i + 1), by omega, rfl, hlt, p'⟩, fun x H' y => hs i x ys H H' hlt p (w.yields i H x H' hlt q y)⟩
  · have e : i = n := by omega
    subst e
    exact .inl ⟨w.stops H q, hd ys H p⟩
end GX
set_option Elab.async false
set_option linter.all false
set_option maxRecDepth 100000
set_option maxHeartbeats 4000000
namespace GX
open PySem PySem.Spec PyProof.Rows L2
open C8 (Cal pe_c)
/-! ### a def of the text with its code object -/
structure Dfn (K : PySem.W.Frag) (mg : Str → Option Value) (x : Str) (st : Stmt) (f c : Addr) : Prop where
  ex : ∃ (oc : Value) (od : Option Addr) (kV doc pm : Value) (an : Option Addr) (ct : Value) (osl : Array (Option Value)),
    K.lookup f = some ⟨oc, od, .func (PySem.W.fnOf x x (defArgs st) (defBody st) (defScope st) .none kV doc pm an (.ref c) ct), osl⟩
  hcd : PySem.W.codeIn K (.ref c) x = true
  kp : PySem.W.keepIn K (.ref f) = true
  mgf : mg x = some (.ref f)
section
variable {P : Program} {w : World} {K : PySem.W.Frag} {mg : Str → Option Value} {base : Heap}
theorem cal {x : Str} {st : Stmt} {f c : Addr} {N ps : List Str} {k : Nat} {sp : Sp} (D : Dfn K mg x st f c)
    (hb : ∀ (kV doc pm : Value) (an : Option Addr) (cdv ct : Value) (us : List Value), us.length = ps.length → bindArgs (PySem.W.fnOf x x (defArgs st) (defBody st) (defScope st) .none kV doc pm an cdv ct) ⟨us, []⟩ = pure (ps.zip us))
    (S : FnScope N ps (defScope st)) (len : ∀ vs H Q E, sp vs H Q E → vs.length = ps.length)
    (hbody : ∀ (A : Around) (outer : List Env) (s : Shared) (H : Hp) (vs : List V) (Q : VK) (E : XK), Room k (A.deeper (envOfC x (defScope st) s.heap.objs.size f (.ref c))) → sp vs H Q E →
      ∃ t, PSs (cxOf CX0 P w K mg base N x (defScope st) f (.ref c) A outer s H E).nox (defBody st) t ∧ t { nx := fun _ H' => Q .non H', rt := Q } (start N vs) H) : Cal P w K mg base (k + 1) x sp [] := by
  obtain ⟨oc, od, kV, doc, pm, an, ct, osl, lk⟩ := D.ex
  refine ⟨f, _, ps, [], fn_of lk D.hcd S len (fun A outer s H vs Q E hr hsp => ?_), D.mgf, D.kp, .all (hb kV doc pm an (.ref c) ct), .nil⟩
  obtain ⟨t, h, q⟩ := hbody A outer s H vs Q E hr hsp
  exact ⟨t, h.nox, q⟩
end
section
variable {P : Program} {w : World} {K : PySem.W.Frag} {mg : Str → Option Value} {base : Heap}
/-- .. for the law itself -/
theorem fnok {x : Str} {st : Stmt} {f c : Addr} {N ps : List Str} {k : Nat} {sp : Sp} {oc kV doc pm ct : Value} {od an : Option Addr} {osl : Array (Option Value)}
    (lk : K.lookup f = some ⟨oc, od, .func (PySem.W.fnOf x x (defArgs st) (defBody st) (defScope st) .none kV doc pm an (.ref c) ct), osl⟩) (hcd : PySem.W.codeIn K (.ref c) x = true)
    (S : FnScope N ps (defScope st)) (len : ∀ vs H Q E, sp vs H Q E → vs.length = ps.length)
    (hbody : ∀ (A : Around) (outer : List Env) (s : Shared) (H : Hp) (vs : List V) (Q : VK) (E : XK), Room k (A.deeper (envOfC x (defScope st) s.heap.objs.size f (.ref c))) → sp vs H Q E →
      ∃ t, PSs (cxOf CX0 P w K mg base N x (defScope st) f (.ref c) A outer s H E).nox (defBody st) t ∧ t { nx := fun _ H' => Q .non H', rt := Q } (start N vs) H) :
    FnOk P w K mg base CX0 (k + 1) f (PySem.W.fnOf x x (defArgs st) (defBody st) (defScope st) .none kV doc pm an (.ref c) ct) ps sp := by
  refine fn_of lk hcd S len (fun A outer s H vs Q E hr hsp => ?_)
  obtain ⟨t, h, q⟩ := hbody A outer s H vs Q E hr hsp
  exact ⟨t, h.nox, q⟩
end
/-! ### heaps: all but X stands -/
def Keep (X : List Addr) (H H' : Hp) : Prop := ∀ b o, H b = some o → b ∉ X → H' b = some o
theorem Keep.refl {X : List Addr} {H : Hp} : Keep X H H := fun _ _ e _ => e
theorem Keep.trans {X : List Addr} {H H1 H2 : Hp} (a : Keep X H H1) (b : Keep X H1 H2) : Keep X H H2 := fun c o e n => b c o (a c o e n) n
theorem Keep.mono {X Y : List Addr} {H H' : Hp} (a : Keep X H H') (h : ∀ b ∈ X, b ∈ Y) : Keep Y H H' := fun c o e n => a c o e fun z => n (h c z)
theorem Keep.new {X : List Addr} {H : Hp} {p : Addr} {o : HO} (n : H p = none) : Keep X H (upd H p o) := fun b u e _ => by rw [upd_ne (ne_of_none e n)]; exact e
theorem Keep.put {X : List Addr} {H : Hp} {p : Addr} {o : HO} (h : p ∈ X) : Keep X H (upd H p o) := fun b u e n => by rw [upd_ne (fun z => n (by rw [z]; exact h))]; exact e
/-- the tables of the defs that hold generator expressions -/
def Tabs (Ts : List Addr) (H : Hp) : Prop := ∀ P ∈ Ts, GxR.TabG H P
theorem Tabs.nott {Ts : List Addr} {H : Hp} (t : Tabs Ts H) {b : Addr} {o : HO} (e : H b = some o) (h : ∀ ps, o ≠ .tbl ps) : b ∉ Ts := fun z => by
  obtain ⟨ps, q, _⟩ := t b z
  rw [e] at q
  exact h ps (Option.some.inj q)
theorem Tabs.none {Ts : List Addr} {H : Hp} (t : Tabs Ts H) {b : Addr} (e : H b = none) : b ∉ Ts := fun z => by
  obtain ⟨ps, q, _⟩ := t b z
  rw [e] at q
  cases q
theorem Tabs.tup {Ts : List Addr} {H : Hp} (t : Tabs Ts H) {b : Addr} {xs : List V} (e : H b = some (.tup xs)) : b ∉ Ts := t.nott e fun _ z => by cases z
theorem Tabs.lst {Ts : List Addr} {H : Hp} (t : Tabs Ts H) {b : Addr} {xs : List V} (e : H b = some (.lst xs)) : b ∉ Ts := t.nott e fun _ z => by cases z
theorem Tabs.upd {Ts : List Addr} {H : Hp} (t : Tabs Ts H) {p : Addr} {o : HO} (h : p ∉ Ts) : Tabs Ts (L2.upd H p o) := fun b hb => by
  obtain ⟨ps, q, r⟩ := t b hb
  exact ⟨ps, by rw [upd_ne (fun z => h (by rw [← z]; exact hb))]; exact q, r⟩
/-- behind a generator expression: its table may have grown -/
theorem Tabs.tabbed {Ts : List Addr} {H H' : Hp} {P : Addr} (t : Tabs Ts H) (h : GxR.Tabbed P H H') : Tabs Ts H' := fun b hb => by
  by_cases e : b = P
  · rw [e]; exact h.1
  · obtain ⟨ps, q, r⟩ := t b hb
    exact ⟨ps, by rw [h.2 b e]; exact q, r⟩
theorem Keep.tabbed {X : List Addr} {H H' : Hp} {P : Addr} (hP : P ∈ X) (h : GxR.Tabbed P H H') : Keep X H H' := fun b o e n => by rw [h.2 b (fun z => n (by rw [z]; exact hP))]; exact e
/-- what a def that reads and makes leaves: the tables may have grown -/
structure Aft (Ts : List Addr) (H H' : Hp) : Prop where
  kp : Keep Ts H H'
  tb : Tabs Ts H'
theorem Aft.trans {Ts : List Addr} {H H1 H2 : Hp} (a : Aft Ts H H1) (b : Aft Ts H1 H2) : Aft Ts H H2 := ⟨a.kp.trans b.kp, b.tb⟩
theorem Aft.refl {Ts : List Addr} {H : Hp} (t : Tabs Ts H) : Aft Ts H H := ⟨Keep.refl, t⟩
theorem Aft.new {Ts : List Addr} {H : Hp} {p : Addr} {o : HO} (t : Tabs Ts H) (n : H p = Option.none) : Aft Ts H (L2.upd H p o) := ⟨Keep.new n, t.upd (t.none n)⟩
theorem Aft.tup {Ts : List Addr} {H H' : Hp} (a : Aft Ts H H') (t : Tabs Ts H) {b : Addr} {xs : List V} (e : H b = some (.tup xs)) : H' b = some (.tup xs) := a.kp b _ e (t.tup e)
theorem Aft.lst {Ts : List Addr} {H H' : Hp} (a : Aft Ts H H') (t : Tabs Ts H) {b : Addr} {xs : List V} (e : H b = some (.lst xs)) : H' b = some (.lst xs) := a.kp b _ e (t.lst e)
/-! ### the law's end with the tables of its defs -/
theorem tabB_of {base : Heap} {mg : Str → Option Value} {c P : Addr} (t : LamX.TabB base mg c P) : GxR.TabB base mg c P := ⟨t.code, t.bm, t.gP⟩
/-! ### small things -/
theorem small (n : Nat) (h : n ≤ 100000 := by decide) : n ≤ sizeLine := Nat.le_trans h (by decide)
theorem at0 {a : V} {r : List V} : atI (a :: r) 0 = some a := atI_nat (j := 0) rfl
theorem at1 {a b : V} {r : List V} : atI (a :: b :: r) 1 = some b := atI_nat (j := 1) rfl
theorem at2 {a b c : V} {r : List V} : atI (a :: b :: c :: r) 2 = some c := atI_nat (j := 2) rfl
end GX
set_option Elab.async false
set_option linter.all false
set_option maxRecDepth 100000
set_option maxHeartbeats 4000000
/-! Methods of classes of the program. -/
namespace GX
open PySem PySem.Spec PyProof.Rows L2
open C8 (Met Mak)
/-- the j-th statement of a class -/
def mthS : Stmt → Nat → Stmt
  | .ClassDef _ _ _ b _ _ _ _ _ _ _, j => b.getD j (.Pass ⟨0, 0, 0, 0⟩)
  | s, _ => s
structure Mtd (K : PySem.W.Frag) (C : Addr) (m qual : Str) (st : Stmt) (f c : Addr) : Prop where
  ex : ∃ (oc : Value) (od : Option Addr) (kV doc pm : Value) (an : Option Addr) (ct : Value) (osl : Array (Option Value)),
    K.lookup f = some ⟨oc, od, .func (PySem.W.fnOf m qual (defArgs st) (defBody st) (defScope st) .none kV doc pm an (.ref c) ct), osl⟩
  hcd : PySem.W.codeIn K (.ref c) qual = true
  cl : Cls K C
  mt : Meth K C m f
section
variable {P : Program} {w : World} {K : PySem.W.Frag} {mg : Str → Option Value} {base : Heap}
theorem met {C : Addr} {m qual : Str} {st : Stmt} {f c : Addr} {N ps : List Str} {k : Nat} {sp : Sp} (D : Mtd K C m qual st f c)
    (hb : ∀ (kV doc pm : Value) (an : Option Addr) (cdv ct : Value) (us : List Value), us.length = ps.length → bindArgs (PySem.W.fnOf m qual (defArgs st) (defBody st) (defScope st) .none kV doc pm an cdv ct) ⟨us, []⟩ = pure (ps.zip us))
    (S : FnScope N ps (defScope st)) (len : ∀ vs H Q E, sp vs H Q E → vs.length = ps.length)
    (hbody : ∀ (A : Around) (outer : List Env) (s : Shared) (H : Hp) (vs : List V) (Q : VK) (E : XK), Room k (A.deeper (envOfC qual (defScope st) s.heap.objs.size f (.ref c))) → sp vs H Q E →
      ∃ t, PSs (cxOf CX0 P w K mg base N qual (defScope st) f (.ref c) A outer s H E).nox (defBody st) t ∧ t { nx := fun _ H' => Q .non H', rt := Q } (start N vs) H) : Met P w K mg base (k + 1) C m sp [] := by
  obtain ⟨oc, od, kV, doc, pm, an, ct, osl, lk⟩ := D.ex
  refine ⟨f, _, ps, [], D.cl, D.mt, fn_of lk D.hcd S len (fun A outer s H vs Q E hr hsp => ?_), .all (hb kV doc pm an (.ref c) ct), .nil⟩
  obtain ⟨t, h, q⟩ := hbody A outer s H vs Q E hr hsp
  exact ⟨t, h.nox, q⟩
/-- a class made by its __init__ -/
theorem mak {C : Addr} {x qual : Str} {st : Stmt} {f c : Addr} {N ps : List Str} {k : Nat} {sp : Sp} (D : Mtd K C "__init__" qual st f c) (hm : mg x = some (.ref C)) (mk : PySem.W.makesIn K C = true) (kp : PySem.W.keepIn K (.ref C) = true)
    (hb : ∀ (kV doc pm : Value) (an : Option Addr) (cdv ct : Value) (us : List Value), us.length = ps.length → bindArgs (PySem.W.fnOf "__init__" qual (defArgs st) (defBody st) (defScope st) .none kV doc pm an cdv ct) ⟨us, []⟩ = pure (ps.zip us))
    (S : FnScope N ps (defScope st)) (len : ∀ vs H Q E, sp vs H Q E → vs.length = ps.length)
    (hbody : ∀ (A : Around) (outer : List Env) (s : Shared) (H : Hp) (vs : List V) (Q : VK) (E : XK), Room k (A.deeper (envOfC qual (defScope st) s.heap.objs.size f (.ref c))) → sp vs H Q E →
      ∃ t, PSs (cxOf CX0 P w K mg base N qual (defScope st) f (.ref c) A outer s H E).nox (defBody st) t ∧ t { nx := fun _ H' => Q .non H', rt := Q } (start N vs) H) : Mak P w K mg base (k + 1) x C sp [] := by
  obtain ⟨oc, od, kV, doc, pm, an, ct, osl, lk⟩ := D.ex
  refine ⟨f, _, ps, [], ⟨mk, D.mt.at_, D.mt.fn, kp⟩, fn_of lk D.hcd S len (fun A outer s H vs Q E hr hsp => ?_), hm, .all (hb kV doc pm an (.ref c) ct), .nil⟩
  obtain ⟨t, h, q⟩ := hbody A outer s H vs Q E hr hsp
  exact ⟨t, h.nox, q⟩
end
end GX
set_option Elab.async false
set_option linter.all false
set_option maxRecDepth 100000
set_option maxHeartbeats 4000000
/-! Own exceptions: defs that may raise (CalX), a caught exception that stays known behind its try (ps_tryK), isinstance and fields of it. -/
namespace GX
open PySem PySem.Spec PyProof.Rows L2
open C8 (Cal)
/-! ### defs that may raise -/
structure CalX (P : Program) (w : World) (K : PySem.W.Frag) (mg : Str → Option Value) (base : Heap) (k : Nat) (x : Str) (sp : Sp) : Prop where
  ex : ∃ f : Addr, mg x = some (.ref f) ∧ PySem.W.keepIn K (.ref f) = true ∧ ∀ (A : Around) (outer : List Env) (s : Shared) (H : Hp) (us : List Value) (vs : List V) (Q : VK) (E : XK),
    Room k A → Env0 P w K mg base A outer s H → Vals vs us → sp vs H Q E → codeAny (model P w) A (.call (.ref f) ⟨us, []⟩) (CR (L2.CX P w) outer P w H s Q E) s
section
variable {P : Program} {w : World} {K : PySem.W.Frag} {mg : Str → Option Value} {base : Heap} {k j : Nat} {x : Str} {sp sp' : Sp}
theorem env0_kin {A : Around} {outer : List Env} {s : Shared} {H : Hp} (e : Env0 P w K mg base A outer s H) : K.In s.heap := fun a o q => (e.bs a o (e.mod.kin a o q)).1
theorem CalX.mono (c : CalX P w K mg base j x sp) (h : j ≤ k) : CalX P w K mg base k x sp := by
  obtain ⟨f, h1, h2, r⟩ := c.ex
  exact ⟨f, h1, h2, fun A o s H us vs Q E hr => r A o s H us vs Q E (hr.mono h)⟩
theorem CalX.imp (c : CalX P w K mg base k x sp) (h : ∀ vs H Q E, sp' vs H Q E → sp vs H Q E) : CalX P w K mg base k x sp' := by
  obtain ⟨f, h1, h2, r⟩ := c.ex
  exact ⟨f, h1, h2, fun A o s H us vs Q E hr e0 hv hs => r A o s H us vs Q E hr e0 hv (h _ _ _ _ hs)⟩
theorem fnok_x {CX : CXT} {f : Addr} {fd : FuncData} {ps : List Str} (F : FnOk P w K mg base CX k f fd ps sp) (hm : mg x = some (.ref f)) (kp : PySem.W.keepIn K (.ref f) = true) (b : Binds K fd ps [])
    (hCX : ∀ o H s E e s', CX o H s E e s' → L2.CX P w o H s E e s') : CalX P w K mg base k x sp := by
  refine ⟨f, hm, kp, fun A o s H us vs Q E hr e0 hv hs => ?_⟩
  have hl : us.length = ps.length := by rw [← hv.length]; exact F.len _ _ _ _ hs
  have bb := b s us (env0_kin e0) (by rw [List.append_nil]; exact hl)
  rw [List.append_nil] at bb
  refine codeAny_mono (F.run A o s H ⟨us, []⟩ us vs Q E hr e0 bb hv hs) fun r s' hq => ?_
  cases r with
  | error e => exact hCX _ _ _ _ _ _ hq
  | ok fl => cases fl <;> exact hq
/-- what raises nothing -/
theorem CalX.of (c : Cal P w K mg base k x sp []) : CalX P w K mg base k x sp := by
  obtain ⟨f, fd, ps, ds, F, hm, kp, b, d⟩ := c.ex
  cases d
  exact fnok_x F hm kp b fun _ _ _ _ _ _ z => z.elim
/-- the promise of a def that may raise, by its body -/
theorem calX {st : Stmt} {f c : Addr} {N ps : List Str} (D : Dfn K mg x st f c)
    (hb : ∀ (kV doc pm : Value) (an : Option Addr) (cdv ct : Value) (us : List Value), us.length = ps.length → bindArgs (PySem.W.fnOf x x (defArgs st) (defBody st) (defScope st) .none kV doc pm an cdv ct) ⟨us, []⟩ = pure (ps.zip us))
    (S : FnScope N ps (defScope st)) (len : ∀ vs H Q E, sp vs H Q E → vs.length = ps.length)
    (hbody : ∀ (A : Around) (outer : List Env) (s : Shared) (H : Hp) (vs : List V) (Q : VK) (E : XK), Room k (A.deeper (envOfC x (defScope st) s.heap.objs.size f (.ref c))) → sp vs H Q E →
      Takes (cxOf (L2.CX P w) P w K mg base N x (defScope st) f (.ref c) A outer s H E) (fun cls d _ H => E cls d H) →
      ∃ t, PSs (cxOf (L2.CX P w) P w K mg base N x (defScope st) f (.ref c) A outer s H E) (defBody st) t ∧ t { nx := fun _ H' => Q .non H', rt := Q } (start N vs) H) : CalX P w K mg base (k + 1) x sp := by
  obtain ⟨oc, od, kV, doc, pm, an, ct, osl, lk⟩ := D.ex
  refine fnok_x (fn_of lk D.hcd S len (fun A outer s H vs Q E hr hsp => ?_)) D.mgf D.kp (.all (hb kV doc pm an (.ref c) ct)) fun _ _ _ _ _ _ z => z
  exact hbody A outer s H vs Q E hr hsp (takes_of rfl rfl rfl rfl)
end
section
variable {X : Cx} {W : WX} {k j : Nat} {x : Str} {sp : Sp} {p pos : Pos} {e : Expr} {es : List Expr} {t : TA}
/-- f(..) where what it raises is taken -/
theorem pe_cX (c : CalX X.prog X.w X.K X.mg X.base k x sp) (tk : Takes X W) (hr : Room j X.A) (hk : k ≤ j) (hg : Gl X x) (ha : PA X (e :: es) t)
    (hdb : (x == ("__debug__" : Str)) = false := by decide) (he : starEach (e :: es) X.env = (false, eval e X.env) :: starEach es X.env := by rfl) (hpl : (backTo pos (starEach es X.env)).any (·.1) = false := by rfl) :
    PE X (.Call (.Name x p) (e :: es) [] pos) (tCallS sp (WE W) t) := by
  obtain ⟨f, hm, kp, r⟩ := c.ex
  refine ⟨fun pins s σ H Q I h => wpAny_Call_Name_kw (ld_glob I hg hm ?_ hdb)⟩
  refine PySem.W.callWith_K (h₀ := X.base) I.ok.mod.kin kp (thn (ha.run pos pins s σ H _ I h) fun us s1 hh => ?_) he hpl
  obtain ⟨vs, H1, I1, rv, q⟩ := hh
  refine ⟨I1.kIn, wpAny_call (codeAny_mono (r X.A X.stack s1 H1 us vs Q _ (hr.mono hk) I1.env0 rv q) fun rs s' hq => ?_)⟩
  cases rs with
  | error e => exact passAt tk σ _ _ _ _ _ I1 hq
  | ok fl =>
    cases fl with
    | ret u => exact I1.after hq
    | next => exact False.elim hq
    | brk => exact False.elim hq
    | cont => exact False.elim hq
end
/-- a statement that raises nothing -/
theorem psNox {X : Cx} {st : Stmt} {t : TS} (h : PS X.nox st t) : PS X st t := ⟨fun pins s σ H D I q => wpAny_mono (h.run pins s σ H D (I.wish _) q) (fun _ _ z => z.unwish) fun _ _ z => False.elim z⟩
/-- nothing is let out -/
theorem takes0 {X : Cx} : Takes X (fun _ _ _ _ => False) := fun u s' h => by
  obtain ⟨_, _, _, _, _, _, _, _, _, _, _, _, _, _, _, _, q⟩ := h
  exact q.elim
/-! ### own exception classes -/
/-- what must be known of the class x, at C, so that it is named in a clause, asked by isinstance, its instances asked -/
structure ExcT (K : PySem.W.Frag) (mg : Str → Option Value) (x : Str) (C : Addr) : Prop where
  g : mg x = some (.ref C)
  k : PySem.W.keepIn K (.ref C) = true
  t : PySem.W.typeIn K (.ref C) = some (.type "type")
  i : PySem.W.isClsIn K C = true
  e : ExcC K C
/-- .. and made by a text -/
structure ExcM (K : PySem.W.Frag) (mg : Str → Option Value) (x : Str) (C : Addr) : Prop extends ExcT K mg x C where
  x : PySem.W.excIn K C [.type "ValueError", .type "Exception", .type "BaseException", .type "object"] "ValueError.__new__" = true
theorem ExcT.raises {X : Cx} {x : Str} {C : Addr} (c : ExcT X.K X.mg x C) : Raises X (.ref C) := raises_own c.e.hs c.t
theorem kit_ref {K : PySem.W.Frag} {C D : Addr} {b : Bool} (hD : PySem.W.typeIn K (.ref D) = some (.type "type")) (iD : PySem.W.isClsIn K D = true) (s : PySem.W.subIn K (.ref C) (.ref D) = some b) (h : C = D → b = true) : PySem.W.kitOne K (.ref C) (.ref D) = some b := by
  unfold PySem.W.kitOne
  by_cases e : C = D
  · rw [h e, e, if_pos (by simp)]
  · rw [if_neg (by simpa using e)]
    unfold PySem.W.kitCls
    have iD' : (PySem.W.clsIn K D).isSome = true := iD
    simp only [iD', hD, s]
    rfl
/-- another class, not under it -/
theorem kit_no {K : PySem.W.Frag} {mg : Str → Option Value} {x : Str} {C D : Addr} (d : ExcT K mg x D) (self : PySem.W.subIn K (.ref C) (.ref C) = some true) (s : PySem.W.subIn K (.ref C) (.ref D) = some false) : PySem.W.kitOne K (.ref C) (.ref D) = some false := kit_ref d.t d.i s fun e => by
  subst e
  rw [self] at s
  cases s
theorem kit_none {K : PySem.W.Frag} {t : Value} : ∀ us : List Value, (∀ c ∈ us, PySem.W.kitOne K t c = some false) → PySem.W.kitAny K t us = some false
  | [], _ => rfl
  | c :: r, h => by
    unfold PySem.W.kitAny
    rw [h c List.mem_cons_self]
    exact kit_none r fun d hd => h d (List.mem_cons_of_mem _ hd)
theorem kit_ve {K : PySem.W.Frag} {C : Addr} {n : String} {b : Bool} (hn : PySem.W.kitMeta n = true) (s : PySem.W.subIn K (.ref C) (.type n) = some b) : PySem.W.kitOne K (.ref C) (.type n) = some b := by
  unfold PySem.W.kitOne
  rw [if_neg (by simp)]
  unfold PySem.W.kitCls
  simp only [hn, s]
  rfl
theorem exm_of2 {K : PySem.W.Frag} {mg : Str → Option Value} {x : Str} {C : Addr} {cls : Value} {b : Bool} (c : ExcT K mg x C) (s : PySem.W.subIn K cls (.ref C) = some b) : PySem.W.exmOne K cls (.ref C) = some b := PySem.W.exm_ref c.e.hs c.e.hd c.t s
/-! ### a caught exception that stays known -/
def XO (cls : Value) (d : Option Addr) (a : Addr) : HO := .ext fun h => ∃ (oe : Obj) (vs : Array Value), h.get? a = some oe ∧ Zc cls d oe ∧ oe.data = .fields vs
theorem xo_ok {P : Program} {w : World} {H : Hp} {h : Heap} {a : Addr} {cls : Value} {d : Option Addr} {oe : Obj} {vs : Array Value} (e : h.get? a = some oe) (z : Zc cls d oe) (q : oe.data = .fields vs) : ObjOk P w H h a (XO cls d a) :=
  ⟨⟨oe, vs, e, z, q⟩, ⟨oe, e⟩, fun _ _ ⟨o, v, r, zz⟩ k => ⟨o, v, k o r, zz⟩⟩
section
variable {X : Cx} {pins : List (Addr × Obj)} {σ : L2.St} {H : Hp} {s : Shared}
/-- an exception object that isn't tracked is tracked from here on -/
theorem Inv.noteX {a : Addr} {oe : Obj} {vs : Array Value} {cls : Value} {d : Option Addr} (I : Inv X pins σ H s) (ha : s.heap.get? a = some oe) (z : Zc cls d oe) (q : oe.data = .fields vs) (na : H a = none) (nL : a ≠ X.env.locals)
    (n0 : X.s_0.heap.get? a = none) (np : ∀ p ∈ X.pn ++ pins, p.1 ≠ a) : Inv X pins σ (upd H a (XO cls d a)) s := by
  have up : ∀ {b : Addr} {u : HO}, H b = some u → upd H a (XO cls d a) b = some u := fun {b u} e => by rw [upd_ne (ne_of_none e na)]; exact e
  have nc : ∀ y c, X.env.cells.lookup y = some c → c ≠ a := fun y c e z2 => by
    obtain ⟨v, o, h1, h2⟩ := I.cell y c e
    rw [z2, ha] at h1
    cases h1
    rw [q] at h2
    cases h2
  have hL : X.env.locals ≠ a := fun e => nL e.symm
  refine ⟨I.ok, I.os, I.bare, ?_, I.loc, I.cell, by rw [upd_ne hL]; exact I.free, fun y c e => by rw [upd_ne (nc y c e)]; exact I.freeC y c e, fun p hp => ?_, fun b u e => ?_, I.len⟩
  · refine ⟨I.base.keep, I.base.slot, fun b o h1 h2 h3 => ?_, I.base.there, fun b xs e => up (I.base.tups b xs e), fun b o u e => up (I.base.frzs b o u e), fun b ps e => ?_⟩
    · rw [upd_ne (fun e => by rw [e, n0] at h1; cases h1)]
      exact I.base.free b o h1 h2 h3
    · obtain ⟨m, h1⟩ := I.base.tbls b ps e
      exact ⟨m, up h1⟩
  · obtain ⟨h1, h2, h3⟩ := I.pin p hp
    exact ⟨h1, by rw [upd_ne (np p hp)]; exact h2, h3⟩
  · by_cases hb : b = a
    · subst hb
      rw [upd_same] at e
      cases e
      exact xo_ok ha z q
    · rw [upd_ne hb] at e
      exact (I.hok b u e).stay (fun _ _ _ h => h) (fun _ h => up h) fun _ _ h => up h
end
/-- what the clause wishes of an exception of the body: it is tracked from the suite's begin on -/
def wK (K : PySem.W.Frag) (c : Value) (i : Nat) (ts : TS) (Wout : WX) (D : Ends) : WX := fun cls d σ H =>
  ∃ b, PySem.W.exmOne K cls c = some b ∧ (b = true → ∀ a, H a = none → ts { nx := fun σ' H' => D.nx (σ'.set i none) H', rt := D.rt, bk := fun σ' H' => D.bk (σ'.set i none) H', ct := fun σ' H' => D.ct (σ'.set i none) H' } (σ.set i (some (.ref a))) (upd H a (XO cls d a))) ∧
    (b = false → Wout cls d σ H)
section
variable {X : Cx} {x n : Str} {c : Value} {i : Nat} {body suite orelse : List Stmt} {b₀ : Stmt} {np pos pos' : Pos} {tb : WX → TS} {ts u : TS} {Wout : WX}
theorem ps_tryK (hs : X.stack = X.env :: X.outer) (hf : X.env.frame = some X.env.locals) (hex : X.ex = []) (hN : X.N.Nodup) (hi : X.N[i]? = some n) (hln : X.env.kindOf n = some .local) (hc : Names X x c) (tk : Takes X Wout)
    (hb : ∀ (W : WX) (pn : List (Addr × Obj)) (xe : Value → Shared → Prop), Takes (X.tr pn xe) W → PSs (X.tr pn xe) body (tb W))
    (hsu : ∀ (a : Addr) (pn : List (Addr × Obj)), PSs (X.suite a pn) (b₀ :: suite) ts) (ho : PSs X orelse u) :
    PS X (.Try body [.ExceptHandler (some (.Name x np)) (some n) (b₀ :: suite) pos'] orelse [] pos) (fun D σ H => tb (wK X.K c i ts Wout D) { D with nx := u D } σ H) := by
  refine ⟨fun pins s σ H D I h => wpAny_Try_except ?_⟩
  have ok := I.ok
  have hfr : X.A.frames = some (X.env :: X.outer) := by rw [← hs]; exact ok.frames
  let xe' : Value → Shared → Prop := fun e s₁ => wpAny (model X.prog X.w) X.A (noteFrame e X.env) (fun _ s₂ => wpAny (model X.prog X.w) X.A (setFlight e none)
    (fun _ s₃ => wpAny (model X.prog X.w) X.A (handleBy e X.env [.ExceptHandler (some (.Name x np)) (some n) (b₀ :: suite) pos']) (SP X pins D) X.xe s₃) X.xe s₂) X.xe s₁
  have take : Takes (X.tr (X.pn ++ pins) xe') (wK X.K c i ts Wout D) := by
    rintro v s' ⟨a, B, sI, pins', σ', H', cls, d, rfl, J', nb, up, sky, na, os, ag, b, hb1, hyes, hno⟩
    have J : Inv X pins σ' H' sI := J'.ofTry ok
    rw [show (X.tr (X.pn ++ pins) xe').stack = X.env :: X.outer from hs] at sky nb
    show wpAny (model X.prog X.w) X.A (noteFrame (.ref a) X.env) _ _ _
    refine Sky.land Zc.steady hfr hf sky fun h3 fl3 up3 => ?_
    have J3 : Inv X pins σ' H' { s' with heap := h3 } := J.landed (by rw [hs]; exact nb) fl3.1 (up.trans up3) os ag
    obtain ⟨oe3, vs3, he3, hz3, hd3⟩ := fl3.there
    have nfr : a ∉ frs (X.env :: X.outer) := fun hm => by
      obtain ⟨_, o', e', hnf⟩ := fl3.2.2.1.mem hm
      rw [he3] at e'
      cases e'
      exact hnf _ hd3
    have nL : a ≠ X.env.locals := fun e => nfr (by rw [e]; exact List.mem_filterMap.mpr ⟨X.env, List.mem_cons_self, hf⟩)
    have nF : a ∉ X.fs := fun hm => by
      obtain ⟨e, he, q⟩ := List.mem_filterMap.mp hm
      exact nfr (List.mem_filterMap.mpr ⟨e, List.mem_cons_of_mem _ he, q⟩)
    have nI : sI.heap.get? a = none := by
      cases e : sI.heap.get? a with
      | none => rfl
      | some o =>
        have := nb a o e nfr
        rw [fl3.2.1] at this
        cases this
    have n0 : X.s_0.heap.get? a = none := by
      cases e : X.s_0.heap.get? a with
      | none => rfl
      | some o =>
        obtain ⟨o', h'⟩ := J.base.there a o e (by rw [hex]; exact List.not_mem_nil)
        rw [nI] at h'
        cases h'
    have npn : ∀ p ∈ X.pn ++ pins, p.1 ≠ a := fun p hp e => by
      have := (J.pin p hp).1
      rw [e, nI] at this
      cases this
    have S3 := J3.suite he3 hd3 na nL nF
    have LT : PySem.W.Looks (model X.prog X.w) h3 (typeOf (.ref a)) cls := fun A Q E s k q => wpAny_typeOf_ref (k _ _ he3) (by rw [hz3.1]; exact q)
    refine wpAny_handleBy_cons (codeAny_handlers_test ?_) (fun q => nomatch q)
    have test : ∀ {Q E : Value → Shared → Prop}, Q c { s' with heap := h3 } → wpAny (model X.prog X.w) (X.A.mark (some (.ref a))) (eval (.Name x np) X.env) Q E { s' with heap := h3 } := fun {Q E} q => by
      obtain ⟨hg, hdbg, hm | ⟨hm, hv, hnn⟩⟩ := hc
      · exact ld_glob (X := X.suite a _) S3 hg hm q hdbg
      · exact ld_blt (X := X.suite a _) S3 hg hm hv q hnn hdbg
    refine test ((PySem.W.exm_one (M := model X.prog X.w) J3.kIn LT hb1).here ?_)
    cases b with
    | false =>
      refine wpAny_handleBy_nil ?_
      obtain ⟨_, _, _, oe, vs, T, oT, ts', he, hz, hd, h1, hr⟩ := id fl3
      unfold PySem.passOn
      refine wpAny_bind (wpAny_field he hd h1 ?_)
      rw [if_neg (fun q => by simp at q)]
      refine wpAny_bind ?_
      rw [hf]
      refine HandSPX.setFlight_upZ fl3 fun h4 hh4 up4 => wpAny_throw (tk _ _ ?_)
      exact ⟨a, B, sI, pins, σ', H', cls, d, rfl, J, by rw [hs]; exact nb, (up.trans up3).trans up4, by rw [hs]; exact .inr (.inr hh4), na, os, ag, hno rfl⟩
    | true =>
      refine codeAny_handlers_suite_as (HandSPX.lands_againZ fl3 fun h4 fl4 up4 => ?_)
      obtain ⟨oe4, vs4, he4, hz4, hd4⟩ := fl4.there
      have J4 : Inv X pins σ' H' { s' with heap := h4 } := J.landed (by rw [hs]; exact nb) fl4.1 ((up.trans up3).trans up4) os ag
      have J5 : Inv X pins σ' (upd H' a (XO cls d a)) { s' with heap := h4 } := Inv.noteX J4 he4 hz4 hd4 na nL n0 npn
      have S5 : Inv (X.suite a (X.pn ++ pins)) [] σ' (upd H' a (XO cls d a)) { s' with heap := h4 } := ⟨ok.suite a _, J5.os, J5.bare, J5.base, J5.loc, J5.cell, J5.free, J5.freeC, fun p hp => J5.pin p (by rw [List.append_nil] at hp; exact hp), J5.hok, J5.len⟩
      refine store_ok (X := X.suite a (X.pn ++ pins)) (v := .ref a) S5 hN hi (.inl hln) rfl (fun s6 S6 => ?_) (.inr hln)
      refine wpAny_mono ((hsu a (X.pn ++ pins)).run [] s6 _ _ _ S6 (hyes rfl a na)) (fun f s7 hsp => ?_) fun _ _ z => z.elim
      have back : ∀ {σ7 : L2.St} {H7 : Hp} {Q : Shared → Prop}, Inv (X.suite a (X.pn ++ pins)) [] σ7 H7 s7 → (∀ s8, Inv X pins (σ7.set i none) H7 s8 → Q s8) →
          wpAny (model X.prog X.w) X.A (do bindName X.env n .none; unbindBehindTheSuite X.env n pos') (fun _ s8 => Q s8) X.xe s7 := fun {σ7 H7 Q} S7 hq =>
        gone_ok (X := X) (pins := pins) ⟨ok, S7.os, S7.bare, S7.base, S7.loc, S7.cell, S7.free, S7.freeC, fun p hp => S7.pin p (List.mem_append_left _ hp), S7.hok, S7.len⟩ hN hi hln hq
      cases f with
      | ret v =>
        obtain ⟨y, σ7, H7, S7, r7, q7⟩ := hsp
        exact back S7 fun s8 J8 => ⟨_, _, _, J8, r7, q7⟩
      | next =>
        obtain ⟨σ7, H7, S7, q7⟩ := hsp
        exact back S7 fun s8 J8 => ⟨_, _, J8, q7⟩
      | brk =>
        obtain ⟨σ7, H7, S7, q7⟩ := hsp
        exact back S7 fun s8 J8 => ⟨_, _, J8, q7⟩
      | cont =>
        obtain ⟨σ7, H7, S7, q7⟩ := hsp
        exact back S7 fun s8 J8 => ⟨_, _, J8, q7⟩
  refine wpAny_mono ((hb _ _ xe' take).run [] s σ H { D with nx := u D } (I.toTry _) h) (fun f s1 hsp => ?_) fun _ _ q => q
  cases f with
  | ret v =>
    obtain ⟨y, σ', H', J', r, q⟩ := hsp
    exact ⟨y, σ', H', J'.ofTry ok, r, q⟩
  | next =>
    obtain ⟨σ', H', J', q⟩ := hsp
    exact ho.run pins s1 σ' H' D (J'.ofTry ok) q
  | brk =>
    obtain ⟨σ', H', J', q⟩ := hsp
    exact ⟨σ', H', J'.ofTry ok, q⟩
  | cont =>
    obtain ⟨σ', H', J', q⟩ := hsp
    exact ⟨σ', H', J'.ofTry ok, q⟩
end
/-! ### isinstance, fields -/
inductive TyE (K : PySem.W.Frag) (H : Hp) : V → Value → Prop where
  | x {v : V} {t : Value} (h : TyX K H v t) : TyE K H v t
  | e {a C : Addr} {d : Option Addr} (c : ExcC K C) (e : H a = some (XO (.ref C) d a)) (hd : ∀ dd, d = some dd → ∃ fs, H dd = some (.xd fs)) : TyE K H (.ref a) (.ref C)
/-- the object, as the library asks for it -/
theorem xo_inst {P : Program} {w : World} {H : Hp} {h : Heap} {a C : Addr} {d : Option Addr} (k : HOk P w H h) (e : H a = some (XO (.ref C) d a)) (hd : ∀ dd, d = some dd → ∃ fs, H dd = some (.xd fs)) : ∃ oe od, PySem.W.InstAt h a oe C od ∧ (∀ dd, d = some dd → ∃ o, od = some o ∧ h.get? dd = some o) := by
  obtain ⟨⟨oe, vs, ha, hz, hv⟩, _⟩ := k a _ e
  obtain ⟨oc, odd, oda, osl⟩ := oe
  obtain ⟨h1, h2⟩ := hz
  dsimp only at h1 h2 hv
  subst h1 hv
  cases d with
  | none =>
    subst h2
    exact ⟨_, none, ⟨ha, rfl, rfl, trivial⟩, fun _ z => by cases z⟩
  | some dd =>
    subst h2
    obtain ⟨fs, hf⟩ := hd dd rfl
    obtain ⟨o, ho⟩ := objOk_get (k dd _ hf)
    exact ⟨_, some o, ⟨ha, rfl, rfl, ho⟩, fun _ z => by cases z; exact ⟨o, rfl, ho⟩⟩
section
variable {X : Cx} {pins : List (Addr × Obj)} {σ : L2.St} {H : Hp} {s : Shared}
theorem kit_ofE {x : V} {u t : Value} (I : Inv X pins σ H s) (rx : RelV x u) (ty : TyE X.K H x t) : ∃ P : Heap → Prop, PySem.W.KitX X.K u t P ∧ P s.heap ∧ u ≠ .builtin "__main__.__loader__#opaque" := by
  cases ty with
  | x h => exact kit_of I rx h
  | e c ea hd =>
    cases rx
    obtain ⟨oe, od, J, _⟩ := xo_inst I.hok ea hd
    obtain ⟨cd, hc, _⟩ := PySem.W.any_some c.hd
    exact ⟨_, PySem.W.kitx_exc (by rw [hc]; rfl) c.hg c.hk c.hs c.ha c.hn c.ht c.hm, J, fun z => nomatch z⟩
/-- isinstance(x, c) -/
def rIsE1 (K : PySem.W.Frag) : List V → Hp → VK → Prop := fun xs H Q => ∃ (x c : V) (t u : Value) (b : Bool), xs = [x, c] ∧ ClsV c u ∧ TyE K H x t ∧ PySem.W.kitOne K t u = some b ∧ Q (.bl b) H
/-- isinstance(x, (c, ..)) -/
def rIsET (K : PySem.W.Frag) : List V → Hp → VK → Prop := fun xs H Q => ∃ (x : V) (tp : Addr) (cs : List V) (t : Value) (us : List Value) (b : Bool), xs = [x, .ref tp] ∧ H tp = some (.tup cs) ∧ Paired ClsV cs us ∧ TyE K H x t ∧ PySem.W.kitAny K t us = some b ∧ Q (.bl b) H
end
section
variable {X : Cx}
theorem call_isE1 : CallR X (.builtin "isinstance") (rIsE1 X.K) := by
  intro pins s σ H xs us Q I r h
  obtain ⟨x, c, t, u, b, rfl, k, ty, e, q⟩ := h
  obtain ⟨u1, u2, rfl, r1, r2⟩ := vals2 r
  have e2 := k.eq r2
  subst e2
  obtain ⟨P, Z, p, hx⟩ := kit_ofE I r1 ty
  refine PySem.W.kia_one Z I.kIn p e hx ?_
  exact fun tk => ⟨.bl b, H, I.tok tk, rfl, q⟩
theorem call_isET : CallR X (.builtin "isinstance") (rIsET X.K) := by
  intro pins s σ H xs us Q I r h
  obtain ⟨x, tp, cs, t, ws, b, rfl, hT, k, ty, e, q⟩ := h
  obtain ⟨u1, u2, rfl, r1, r2⟩ := vals2 r
  cases r2
  obtain ⟨P, Z, p, hx⟩ := kit_ofE I r1 ty
  obtain ⟨_, its, rv, o, h1, h2, n, h3⟩ := I.hok tp _ hT
  have e3 := ClsV.all k rv
  subst e3
  cases o
  simp only at h2 h3
  subst h2 h3
  refine PySem.W.kia_tup Z I.kIn p h1 e hx ?_
  exact fun tk => ⟨.bl b, H, I.tok tk, rfl, q⟩
end
end GX
set_option Elab.async false
set_option linter.all false
set_option maxRecDepth 100000
set_option maxHeartbeats 4000000
/-! The head by one run of the top in the kernel: facts by names. -/
namespace GX
open PySem PySem.Spec PyProof.Rows L2
abbrev Bl : Type := PySem.W.Frag → Bool
abbrev Tb3 : Type := Str × List Str
def fdD (x : Str) (st : Stmt) : He.FnD := ⟨(x, none), x, x, defArgs st, defBody st, defScope st⟩
def mdD (C m q : Str) (st : Stmt) : He.FnD := ⟨(C, some m), m, q, defArgs st, defBody st, defScope st⟩
def faB (f : He.Fa) : Bl := fun K => f.ok K
def fnB (K : PySem.W.Frag) (d : He.FnD) : Bool := (He.Fa.code d.at_ d.qual).ok K && (match d.at_.2 with
  | none => (He.Fa.glo d.at_.1).ok K && (He.Fa.keep d.at_.1).ok K
  | some m => (He.Fa.meth d.at_.1 m).ok K)
def excB (x : Str) : Bl := fun K => He.eqO (PySem.W.nsIn K mainGlobals x) (some (some (.ref (He.ga K x)))) && (PySem.W.keepIn K (.ref (He.ga K x)) && (decide (PySem.W.typeIn K (.ref (He.ga K x)) = some (.type "type")) && (PySem.W.isClsIn K (He.ga K x) &&
  (He.eqO (PySem.W.findIn K (.ref (He.ga K x)) "__getattribute__") (some (some (.builtin "BaseException.__getattribute__"))) && (He.eqO (PySem.W.findIn K (.ref (He.ga K x)) "__getattr__") (some none) && (decide (PySem.W.subIn K (.ref (He.ga K x)) (.type "BaseException") = some true) && (PySem.W.hasDictIn K (He.ga K x) &&
  (He.eqO (PySem.W.findIn K (.ref (He.ga K x)) "__class__") (some (some (.builtin "object.__class__"))) && (He.eqO (PySem.W.specialIn K (.builtin "object.__class__") "__get__") (some (some (.builtin "getset_descriptor.__get__"))) && (decide (PySem.W.takesIn K (.builtin "object.__class__") = some true) && decide (PySem.W.mroIn K (He.ga K x) (.type "object") = some true)))))))))))
def exmB (x : Str) : Bl := fun K => excB x K && PySem.W.excIn K (He.ga K x) [.type "ValueError", .type "Exception", .type "BaseException", .type "object"] "ValueError.__new__"
def subB (a b : Str) (v : Bool) : Bl := fun K => decide (PySem.W.subIn K (.ref (He.ga K a)) (.ref (He.ga K b)) = some v)
def subT (a : Str) (b : String) (v : Bool) : Bl := fun K => decide (PySem.W.subIn K (.ref (He.ga K a)) (.type b) = some v)
def dicB (d k v : Str) : Bl := fun K => He.eqO (PySem.W.nsIn K (He.ga K d) k) (some (some (.ref (He.ga K v))))
def dicN (d k : Str) : Bl := fun K => He.eqO (PySem.W.nsIn K (He.ga K d) k) (some none)
def neB (a b : Str) : Bl := fun K => decide (He.ga K a ≠ He.ga K b)
def lamB (p : He.Defn) (ps : List He.Defn) : Bl := fun K => decide ((He.cT K p).2 ∉ ps.map fun q => (He.cT K q).2)
/-! ### what is looked at: the module's names, their code, classes' methods -/
def refsK (o : Obj) : List Addr := match o.data with
  | .dict es _ => es.toList.flatMap fun e => He.refV e.val
  | .func fd => He.refV fd.code
  | .cls cd => cd.ns :: cd.mro.flatMap He.refV
  | _ => []
def addK {α : Type} : List Addr → Nat → List Addr → (Nat → List Addr → α) → α
  | [], m, l, k => k m l
  | a :: r, m, l, k => HandSHeadRun.frNat a fun a => match Nat.land m (Nat.shiftLeft 1 a) with
    | 0 => HandSHeadRun.frNat (Nat.lor m (Nat.shiftLeft 1 a)) fun m => addK r m (a :: l) k
    | _ + 1 => addK r m l k
def expK {α : Type} (g : Addr → Option Obj) : List Addr → Nat → List Addr → (Nat → List Addr → α) → α
  | [], m, l, k => k m l
  | a :: r, m, l, k => match g a with
    | some o => addK (refsK o) m l fun m l => expK g r m l k
    | none => expK g r m l k
def levK {α : Type} (g : Addr → Option Obj) : Nat → List Addr → Nat → List Addr → (List Addr → α) → α
  | 0, _, _, al, k => k al
  | n + 1, fr, m, al, k => expK g fr m [] fun m new => levK g n new m (al ++ new) k
/-- the part, read off once -/
def getK {α : Type} (g : Addr → Option Obj) : List Addr → PySem.W.Frag → (PySem.W.Frag → α) → α
  | [], f, k => k f
  | a :: r, f, k => match g a with
    | some o => (match He.emptyTab o with
      | true => getK g r f k
      | false => getK g r ((a, o) :: f) k)
    | none => getK g r f k
theorem frN {α : Type} (n : Nat) (k : Nat → α) : HandSHeadRun.frNat n k = k n := HandSHeadRun.frNat_eq n k
theorem addK_id {α : Type} : ∀ (l : List Addr) (m : Nat) (xs : List Addr) (k : Nat → List Addr → α), addK l m xs k = k (addK l m xs fun m xs => (m, xs)).1 (addK l m xs fun m xs => (m, xs)).2
  | [], _, _, _ => rfl
  | a :: r, m, xs, k => by
    unfold addK
    simp only [frN]
    cases Nat.land m (Nat.shiftLeft 1 a) with
    | zero => exact addK_id r _ _ k
    | succ => exact addK_id r _ _ k
theorem expK_id {α : Type} {g : Addr → Option Obj} : ∀ (l : List Addr) (m : Nat) (xs : List Addr) (k : Nat → List Addr → α), expK g l m xs k = k (expK g l m xs fun m xs => (m, xs)).1 (expK g l m xs fun m xs => (m, xs)).2
  | [], _, _, _ => rfl
  | a :: r, m, xs, k => by
    unfold expK
    cases g a with
    | none => exact expK_id r _ _ k
    | some o =>
      dsimp only
      rw [addK_id _ _ _ (fun m l => expK g r m l k), addK_id _ _ _ (fun m l => expK g r m l fun m xs => (m, xs))]
      exact expK_id r _ _ k
theorem levK_id {α : Type} {g : Addr → Option Obj} : ∀ (n : Nat) (fr : List Addr) (m : Nat) (al : List Addr) (k : List Addr → α), levK g n fr m al k = k (levK g n fr m al id)
  | 0, _, _, _, _ => rfl
  | n + 1, fr, m, al, k => by
    unfold levK
    rw [expK_id _ _ _ (fun m new => levK g n new m (al ++ new) k), expK_id _ _ _ (fun m new => levK g n new m (al ++ new) id)]
    exact levK_id n _ _ _ k
theorem getK_id {α : Type} {g : Addr → Option Obj} : ∀ (l : List Addr) (f : PySem.W.Frag) (k : PySem.W.Frag → α), getK g l f k = k (getK g l f id)
  | [], _, _ => rfl
  | a :: r, f, k => by
    unfold getK
    cases g a with
    | none => exact getK_id r f k
    | some o =>
      dsimp only
      cases He.emptyTab o with
      | true => exact getK_id r f k
      | false => exact getK_id r _ k
theorem getK_mem {g : Addr → Option Obj} : ∀ {l : List Addr} {f : PySem.W.Frag}, (∀ p ∈ f, g p.1 = some p.2 ∧ He.emptyTab p.2 = false) → ∀ p ∈ getK g l f id, g p.1 = some p.2 ∧ He.emptyTab p.2 = false
  | [], f, h => h
  | a :: r, f, h => by
    unfold getK
    cases e : g a with
    | none => exact getK_mem h
    | some o =>
      dsimp only
      cases e2 : He.emptyTab o with
      | true => exact getK_mem h
      | false =>
        refine getK_mem fun p hp => ?_
        rcases List.mem_cons.mp hp with z | z
        · rw [z]; exact ⟨e, e2⟩
        · exact h p z
/-- what is looked at -/
def kOf (n : Nat) (g : Addr → Option Obj) : PySem.W.Frag := getK g (levK g n [mainGlobals] (Nat.shiftLeft 1 mainGlobals) [mainGlobals] id).reverse [] id
theorem kOf_mem {n : Nat} {g : Addr → Option Obj} {a : Addr} {o : Obj} (h : (kOf n g).lookup a = some o) : g a = some o ∧ He.emptyTab o = false := getK_mem (f := []) (fun p hp => by cases hp) (a, o) (He.lookup_mem h)
theorem kOf_in {n : Nat} {h : Heap} : (kOf n h.get?).In h := fun _ _ e => (kOf_mem e).1
theorem kOf_none {n : Nat} {g : Addr → Option Obj} {a : Addr} {o : Obj} (h : g a = some o) (ht : He.emptyTab o = true) : (kOf n g).lookup a = none := by
  cases e : (kOf n g).lookup a with
  | none => rfl
  | some u =>
    obtain ⟨h1, h2⟩ := kOf_mem e
    rw [h] at h1
    rw [← Option.some.inj h1, ht] at h2
    cases h2
abbrev AlK : Type := Bool × List He.FnV × List (Option (List (Option (Str × Int))))
def obsF (fn : List He.FnD) (ts : List Tb3) (tf : List He.Defn) (ex : List Bl) (g : Addr → Option Obj) (K : PySem.W.Frag) : AlK := ((ex.all fun b => b K) && ((fn.all fun d => fnB K d) && He.tabsB g tf K), fn.map (fun d => He.fnObs K d.at_), ts.map fun t => He.dicW K (He.ga K t.1))
def obsK (n : Nat) (fn : List He.FnD) (ts : List Tb3) (tf : List He.Defn) (ex : List Bl) (g : Addr → Option Obj) : AlK := levK g n [mainGlobals] (Nat.shiftLeft 1 mainGlobals) [mainGlobals] fun l => getK g l.reverse [] fun K => obsF fn ts tf ex g K
theorem obsK_of {n : Nat} {fn : List He.FnD} {ts : List Tb3} {tf : List He.Defn} {ex : List Bl} {g : Addr → Option Obj} : obsK n fn ts tf ex g = obsF fn ts tf ex g (kOf n g) := by
  unfold obsK kOf
  rw [levK_id, getK_id]
def valK (fn : List He.FnD) (ts : List Tb3) (w : World) : AlK := (true, fn.map He.FnD.val, ts.map fun t => some (He.keysIn w.params t.2))
structure SaysK (fn : List He.FnD) (ts : List Tb3) (tf : List He.Defn) (ex : List Bl) (w : World) (h : Heap) (K : PySem.W.Frag) : Prop where
  bs : ∀ b ∈ ex, b K = true
  fb : ∀ d ∈ fn, fnB K d = true
  fv : (fn.map fun d => He.fnObs K d.at_) = fn.map He.FnD.val
  tv : (ts.map fun t => He.dicW K (He.ga K t.1)) = ts.map fun t => some (He.keysIn w.params t.2)
  hd : ∀ p ∈ tf, PySem.W.codeHdIn K (He.cT K p).1 (He.cT K p).2 = true
  out : ∀ p ∈ tf, K.lookup (He.cT K p).2 = none
  empty : ∀ p ∈ tf, h.get? (He.cT K p).2 = some { cls := .none, data := .fields #[] }
theorem saysK_of {n : Nat} {fn : List He.FnD} {ts : List Tb3} {tf : List He.Defn} {ex : List Bl} {w : World} {h : Heap} (e : obsK n fn ts tf ex h.get? = valK fn ts w) : SaysK fn ts tf ex w h (kOf n h.get?) := by
  rw [obsK_of] at e
  have e1 : ((ex.all fun b => b (kOf n h.get?)) && ((fn.all fun d => fnB (kOf n h.get?) d) && He.tabsB h.get? tf (kOf n h.get?))) = true := congrArg (fun z : AlK => z.1) e
  obtain ⟨h1, h2⟩ := He.ba e1
  obtain ⟨h2, h3⟩ := He.ba h2
  have key : ∀ p ∈ tf, PySem.W.codeHdIn (kOf n h.get?) (He.cT (kOf n h.get?) p).1 (He.cT (kOf n h.get?) p).2 = true ∧ ∃ o, h.get? (He.cT (kOf n h.get?) p).2 = some o ∧ He.emptyTab o = true := fun p hp => by
    obtain ⟨h4, h5⟩ := He.ba (List.all_eq_true.mp h3 p hp)
    refine ⟨h4, ?_⟩
    cases q : h.get? (He.cT (kOf n h.get?) p).2 with
    | none =>
      rw [q] at h5
      cases h5
    | some o =>
      rw [q] at h5
      exact ⟨o, rfl, h5⟩
  exact ⟨List.all_eq_true.mp h1, List.all_eq_true.mp h2, congrArg (fun z : AlK => z.2.1) e, congrArg (fun z : AlK => z.2.2) e, fun p hp => (key p hp).1, fun p hp => by
    obtain ⟨_, o, q, z⟩ := key p hp
    exact kOf_none q z, fun p hp => by
    obtain ⟨_, o, q, z⟩ := key p hp
    rw [q, He.emptyTab_eq z]⟩
def hookK (n : Nat) (fn : List He.FnD) (ts : List Tb3) (tf : List He.Defn) (ex : List Bl) : PySem.W.Hook where
  α := AlK
  obs := fun s => obsK n fn ts tf ex s.heap.get?
  val := fun w => valK fn ts w
  says := fun w h => ∃ K : PySem.W.Frag, K.In h ∧ SaysK fn ts tf ex w h K
  of := fun _ _ e => ⟨_, kOf_in, saysK_of e⟩
  keeps := fun _ _ _ ⟨K, hK, c⟩ k => ⟨K, PySem.W.Frag.In.keeps hK k, ⟨c.bs, c.fb, c.fv, c.tv, c.hd, c.out, fun p hp => k _ _ (c.empty p hp)⟩⟩
theorem obsK_eq {n : Nat} {fn : List He.FnD} {ts : List Tb3} {tf : List He.Defn} {ex : List Bl} {g : Addr → Option Obj} {s : Shared} (h : ∀ a, g a = s.heap.get? a) : obsK n fn ts tf ex g = (hookK n fn ts tf ex).obs s := by
  have e : g = s.heap.get? := funext h
  rw [e] <;> rfl
section
variable {fn : List He.FnD} {ts : List Tb3} {tf : List He.Defn} {ex : List Bl} {w : World} {h : Heap} {K : PySem.W.Frag} {mg : Str → Option Value}
theorem SaysK.b (c : SaysK fn ts tf ex w h K) (i : Nat) {b : Bl} (e : ex[i]? = some b := by rfl) : b K = true := c.bs b (List.mem_of_getElem? e)
theorem SaysK.t (c : SaysK fn ts tf ex w h K) (i : Nat) {t : Tb3} (e : ts[i]? = some t := by rfl) : ∃ es n, KDict K w (He.ga K t.1) es n := by
  have e2 : (ts.map fun t => He.dicW K (He.ga K t.1))[i]? = (ts.map fun t => some (He.keysIn w.params t.2))[i]? := by rw [c.tv]
  rw [List.getElem?_map, List.getElem?_map, e] at e2
  exact He.dicW_ok (Option.some.inj e2)
theorem SaysK.def_ (c : SaysK fn ts tf ex w h K) (i : Nat) {d : He.FnD} (e : fn[i]? = some d) :
    ∃ oc od osl kV doc pm an cdv ct, K.lookup (He.fAd K d.at_) = some ⟨oc, od, .func (PySem.W.fnOf d.name d.qual d.params d.body d.scope .none kV doc pm an cdv ct), osl⟩ ∧ PySem.W.codeIn K cdv d.qual = true := by
  have e2 : (fn.map fun d => He.fnObs K d.at_)[i]? = (fn.map He.FnD.val)[i]? := by rw [c.fv]
  rw [List.getElem?_map, List.getElem?_map, e] at e2
  exact He.fn_ok (Option.some.inj e2) (He.ba (c.fb d (List.mem_of_getElem? e))).1
theorem SaysK.fn_ (c : SaysK fn ts tf ex w h K) (X : K.In h) (G : h.Ns mainGlobals mg) (i : Nat) {x : Str} {st : Stmt} (e : fn[i]? = some (fdD x st) := by rfl) : ∃ f cd, Dfn K mg x st f cd ∧ f = He.ga K x ∧ (He.cT K (x, none)).1 = cd := by
  obtain ⟨oc, od, osl, kV, doc, pm, an, cdv, ct, lk, hc⟩ := c.def_ i e
  obtain ⟨cd, rfl⟩ := He.codeIn_ref hc
  obtain ⟨h1, h2⟩ := He.ba (c.fb _ (List.mem_of_getElem? e))
  obtain ⟨h3, h4⟩ := He.ba (show ((He.Fa.glo x).ok K && (He.Fa.keep x).ok K) = true from h2)
  exact ⟨He.ga K x, cd, ⟨⟨oc, od, kV, doc, pm, an, ct, osl, lk⟩, hc, He.keep_ok h4, He.glo_ok X G h3⟩, rfl, He.codeOf_eq lk rfl⟩
theorem SaysK.met_ (c : SaysK fn ts tf ex w h K) (i : Nat) {C m q : Str} {st : Stmt} (cl : Cls K (He.ga K C)) (e : fn[i]? = some (mdD C m q st) := by rfl) : ∃ f cd, Mtd K (He.ga K C) m q st f cd := by
  obtain ⟨oc, od, osl, kV, doc, pm, an, cdv, ct, lk, hc⟩ := c.def_ i e
  obtain ⟨cd, rfl⟩ := He.codeIn_ref hc
  obtain ⟨h1, h2⟩ := He.ba (c.fb _ (List.mem_of_getElem? e))
  exact ⟨He.ma K (He.ga K C) m, cd, ⟨⟨oc, od, kV, doc, pm, an, ct, osl, lk⟩, hc, cl, He.meth_ok (show (He.Fa.meth C m).ok K = true from h2)⟩⟩
theorem SaysK.law_ (c : SaysK fn ts tf ex w h K) (X : K.In h) (G : h.Ns mainGlobals mg) (i : Nat) {st : Stmt} {fa : Addr} (hfa : mg "law" = some (.ref fa)) (e : fn[i]? = some (fdD "law" st) := by rfl) :
    ∃ cd oc od kV doc pm an ct osl, K.lookup fa = some ⟨oc, od, .func (PySem.W.fnOf "law" "law" (defArgs st) (defBody st) (defScope st) .none kV doc pm an (.ref cd) ct), osl⟩ ∧ PySem.W.codeIn K (.ref cd) "law" = true := by
  obtain ⟨oc, od, osl, kV, doc, pm, an, cdv, ct, lk, hc⟩ := c.def_ i e
  obtain ⟨cd, rfl⟩ := He.codeIn_ref hc
  obtain ⟨h1, h2⟩ := He.ba (c.fb _ (List.mem_of_getElem? e))
  obtain ⟨h3, h4⟩ := He.ba (show ((He.Fa.glo "law").ok K && (He.Fa.keep "law").ok K) = true from h2)
  have e1 := hfa.symm.trans (He.glo_ok X G h3)
  cases e1
  exact ⟨cd, oc, od, kV, doc, pm, an, ct, osl, lk, hc⟩
theorem SaysK.int (X : K.In h) (G : h.Ns mainGlobals mg) {x : Str} {i : Int} (e : (He.Fa.int x i).ok K = true) : ∃ u, mg x = some u ∧ RelV (.int i) u := by
  obtain ⟨t, ht⟩ := He.int_ok X G e
  exact ⟨_, ht, t, rfl⟩
theorem SaysK.str (X : K.In h) (G : h.Ns mainGlobals mg) {x z : Str} (e : (He.Fa.str x z).ok K = true) : ∃ u, mg x = some u ∧ RelV (.str z) u := by
  obtain ⟨t, ht⟩ := He.str_ok X G e
  exact ⟨_, ht, t, rfl⟩
theorem excT_of (X : K.In h) (G : h.Ns mainGlobals mg) {x : Str} (e : excB x K = true) : ExcT K mg x (He.ga K x) := by
  obtain ⟨h1, e⟩ := He.ba e
  obtain ⟨h2, e⟩ := He.ba e
  obtain ⟨h3, e⟩ := He.ba e
  obtain ⟨h4, e⟩ := He.ba e
  obtain ⟨h5, e⟩ := He.ba e
  obtain ⟨h6, e⟩ := He.ba e
  obtain ⟨h7, e⟩ := He.ba e
  obtain ⟨h8, e⟩ := He.ba e
  obtain ⟨h9, e⟩ := He.ba e
  obtain ⟨h10, e⟩ := He.ba e
  obtain ⟨h11, h12⟩ := He.ba e
  exact ⟨PySem.W.mg_of X G (He.eqO_ok h1), h2, of_decide_eq_true h3, h4, ⟨He.eqO_ok h5, He.eqO_ok h6, of_decide_eq_true h7, h8, He.eqO_ok h9, He.eqO_ok h10, of_decide_eq_true h11, of_decide_eq_true h12⟩⟩
theorem excM_of (X : K.In h) (G : h.Ns mainGlobals mg) {x : Str} (e : exmB x K = true) : ExcM K mg x (He.ga K x) := by
  obtain ⟨h1, h2⟩ := He.ba e
  exact ⟨excT_of X G h1, h2⟩
theorem sub_of {a b : Str} {v : Bool} (e : subB a b v K = true) : PySem.W.subIn K (.ref (He.ga K a)) (.ref (He.ga K b)) = some v := of_decide_eq_true e
theorem subT_of {a : Str} {b : String} {v : Bool} (e : subT a b v K = true) : PySem.W.subIn K (.ref (He.ga K a)) (.type b) = some v := of_decide_eq_true e
theorem dic_of {d k v : Str} (e : dicB d k v K = true) : PySem.W.nsIn K (He.ga K d) k = some (some (.ref (He.ga K v))) := He.eqO_ok e
theorem dicN_of {d k : Str} (e : dicN d k K = true) : PySem.W.nsIn K (He.ga K d) k = some none := He.eqO_ok e
theorem ne_of {a b : Str} (e : neB a b K = true) : He.ga K a ≠ He.ga K b := of_decide_eq_true e
theorem lam_of {p : He.Defn} {ps : List He.Defn} (e : lamB p ps K = true) : (He.cT K p).2 ∉ ps.map fun q => (He.cT K q).2 := of_decide_eq_true e
end
end GX
set_option Elab.async false
set_option linter.all false
set_option maxRecDepth 100000
set_option maxHeartbeats 4000000
namespace K80
open PySem PySem.Spec PyProof.Rows L2 GX
-- @dict CHANGES
-- @no CHANGES 0 ""
-- @no CHANGES 1 "0"
-- @no CHANGES 2 "way"
-- @no CHANGES 3 "Kind"
-- @no CHANGES 4 "leads"
-- @dict QUESTIONS
-- @no QUESTIONS 0 "gate"
-- @no QUESTIONS 1 "kind"
-- @no QUESTIONS 2 "lead"
-- @no QUESTIONS 3 "less"
-- @no QUESTIONS 4 "outs"
-- @exc NoText
-- @exc NoDepth
-- @exc TooMany
-- @exc NoMatch
-- @exc NoChange made
-- @exc NoRow made
-- @sub NoChange NoChange true
-- @sub NoRow NoRow true
-- @sub NoRow ValueError true
-- @sub NoRow NoText false
-- @sub NoRow NoDepth false
-- @sub NoRow TooMany false
-- @sub NoRow NoMatch false
-- @sub NoRow NoChange false
-- @cls Keeper k:i,held:N,kept:t[t[t[i]]]
-- @cls Desk keeper:OKeeper
-- @alt rises list par=l[i]
-- @alt cut_masks tup par=N,t[i],i vars=masks:DL,wire:i
-- @alt one_deeper tup par=t[i],t[i]
-- @alt _law_written tup par=t[i],s
def topS (i : Nat) : Stmt := PySem.Challenge.pw_tablecover_k80_contents_and_ways.main.body.getD i (.Pass ⟨0, 0, 0, 0⟩)
abbrev s_wires_of : Stmt := topS 1
theorem sc_wires_of : FnScope ["mask", "wire"] ["mask"] (defScope s_wires_of) := ⟨rfl, rfl, rfl, by decide +kernel, rfl, by decide +kernel, by decide +kernel⟩
abbrev s_fits : Stmt := topS 2
theorem sc_fits : FnScope ["mask", "k", "turn"] ["mask", "k"] (defScope s_fits) := ⟨rfl, rfl, rfl, by decide +kernel, rfl, by decide +kernel, by decide +kernel⟩
abbrev s_has_part : Stmt := topS 3
theorem sc_has_part : FnScope ["masks", "mask", "part"] ["masks", "mask"] (defScope s_has_part) := ⟨rfl, rfl, rfl, by decide +kernel, rfl, by decide +kernel, by decide +kernel⟩
abbrev s_is_whole : Stmt := topS 9
theorem sc_is_whole : FnScope ["thing"] ["thing"] (defScope s_is_whole) := ⟨rfl, rfl, rfl, by decide +kernel, rfl, by decide +kernel, by decide +kernel⟩
abbrev s_is_below : Stmt := topS 10
theorem sc_is_below : FnScope ["thing", "bound"] ["thing", "bound"] (defScope s_is_below) := ⟨rfl, rfl, rfl, by decide +kernel, rfl, by decide +kernel, by decide +kernel⟩
abbrev s_is_many : Stmt := topS 11
theorem sc_is_many : FnScope ["thing"] ["thing"] (defScope s_is_many) := ⟨rfl, rfl, rfl, by decide +kernel, rfl, by decide +kernel, by decide +kernel⟩
abbrev s_is_gate : Stmt := topS 12
theorem sc_is_gate : FnScope ["thing", "wire", "kind", "one", "other"] ["thing", "wire"] (defScope s_is_gate) := ⟨rfl, rfl, rfl, by decide +kernel, rfl, by decide +kernel, by decide +kernel⟩
abbrev s_are_gates : Stmt := topS 13
theorem sc_are_gates : FnScope ["thing", "many", "at", "gate"] ["thing", "many"] (defScope s_are_gates) := ⟨rfl, rfl, rfl, by decide +kernel, rfl, by decide +kernel, by decide +kernel⟩
abbrev s_are_outs : Stmt := topS 14
theorem sc_are_outs : FnScope ["thing", "count", "out"] ["thing", "count"] (defScope s_are_outs) := ⟨rfl, rfl, rfl, by decide +kernel, rfl, by decide +kernel, by decide +kernel⟩
abbrev s_is_net : Stmt := topS 15
theorem sc_is_net : FnScope ["thing", "many", "gates", "outs"] ["thing"] (defScope s_is_net) := ⟨rfl, rfl, rfl, by decide +kernel, rfl, by decide +kernel, by decide +kernel⟩
abbrev s_wires_in : Stmt := topS 16
theorem sc_wires_in : FnScope ["net"] ["net"] (defScope s_wires_in) := ⟨rfl, rfl, rfl, by decide +kernel, rfl, by decide +kernel, by decide +kernel⟩
abbrev s_has_gate : Stmt := topS 17
theorem sc_has_gate : FnScope ["net", "thing"] ["net", "thing"] (defScope s_has_gate) := ⟨rfl, rfl, rfl, by decide +kernel, rfl, by decide +kernel, by decide +kernel⟩
abbrev s_gate_worth : Stmt := topS 18
theorem sc_gate_worth : FnScope ["kind", "first", "second"] ["kind", "first", "second"] (defScope s_gate_worth) := ⟨rfl, rfl, rfl, by decide +kernel, rfl, by decide +kernel, by decide +kernel⟩
abbrev s_worths : Stmt := topS 19
abbrev s_outs_at : Stmt := topS 20
abbrev s_places : Stmt := topS 22
theorem sc_places : FnScope ["net", "gate", "kind", "one", "other"] ["net", "gate"] (defScope s_places) := ⟨rfl, rfl, rfl, by decide +kernel, rfl, by decide +kernel, by decide +kernel⟩
abbrev s_is_step : Stmt := topS 23
theorem sc_is_step : FnScope ["net", "ahead", "wire"] ["net", "ahead", "wire"] (defScope s_is_step) := ⟨rfl, rfl, rfl, by decide +kernel, rfl, by decide +kernel, by decide +kernel⟩
abbrev s_reached : Stmt := topS 24
theorem sc_reached : FnScope ["net", "wire", "stops", "marks", "gate", "place", "at", "mark"] ["net", "wire", "stops"] (defScope s_reached) := ⟨rfl, rfl, rfl, by decide +kernel, rfl, by decide +kernel, by decide +kernel⟩
abbrev s_tells : Stmt := topS 26
theorem sc_tells : FnScope ["net", "wire", "wires", "start"] ["net", "wire", "wires"] (defScope s_tells) := ⟨rfl, rfl, rfl, by decide +kernel, rfl, by decide +kernel, by decide +kernel⟩
abbrev s_rises : Stmt := topS 27
theorem sc_rises : FnScope ["numbers", "low", "high"] ["numbers"] (defScope s_rises) := ⟨rfl, rfl, rfl, by decide +kernel, rfl, by decide +kernel, by decide +kernel⟩
abbrev s_is_rising : Stmt := topS 28
theorem sc_is_rising : FnScope ["thing", "bound", "wire"] ["thing", "bound"] (defScope s_is_rising) := ⟨rfl, rfl, rfl, by decide +kernel, rfl, by decide +kernel, by decide +kernel⟩
abbrev s_is_cut : Stmt := topS 29
theorem sc_is_cut : FnScope ["net", "gate", "thing"] ["net", "gate", "thing"] (defScope s_is_cut) := ⟨rfl, rfl, rfl, by decide +kernel, rfl, by decide +kernel, by decide +kernel⟩
abbrev s_gate_masks : Stmt := topS 30
theorem sc_gate_masks : FnScope ["firsts", "seconds", "k", "found", "first", "second", "mask"] ["firsts", "seconds", "k"] (defScope s_gate_masks) := ⟨rfl, rfl, rfl, by decide +kernel, rfl, by decide +kernel, by decide +kernel⟩
abbrev s_cut_masks : Stmt := topS 31
theorem sc_cut_masks : FnScope ["net", "wires", "k", "masks", "wire", "one", "other"] ["net", "wires", "k"] (defScope s_cut_masks) := ⟨rfl, rfl, rfl, by decide +kernel, rfl, by decide +kernel, by decide +kernel⟩
abbrev s_told_cuts : Stmt := topS 32
theorem sc_told_cuts : FnScope ["masks", "mask"] ["masks"] (defScope s_told_cuts) := ⟨rfl, rfl, rfl, by decide +kernel, rfl, by decide +kernel, by decide +kernel⟩
abbrev s_all_cuts : Stmt := topS 33
theorem sc_all_cuts : FnScope ["net", "k", "wires", "masks", "gate", "one", "other", "wire"] ["net", "k"] (defScope s_all_cuts) := ⟨rfl, rfl, rfl, by decide +kernel, rfl, by decide +kernel, by decide +kernel⟩
abbrev s_way_past : Stmt := topS 34
theorem sc_way_past : FnScope ["net", "gate", "wires", "free", "way", "step"] ["net", "gate", "wires"] (defScope s_way_past) := ⟨rfl, rfl, rfl, by decide +kernel, rfl, by decide +kernel, by decide +kernel⟩
abbrev s_inside : Stmt := topS 35
theorem sc_inside : FnScope ["net", "gate", "cut", "wire"] ["net", "gate", "cut"] (defScope s_inside) := ⟨rfl, rfl, rfl, by decide +kernel, rfl, by decide +kernel, by decide +kernel⟩
abbrev s_worth_by : Stmt := topS 37
theorem sc_worth_by : FnScope ["net", "wire", "wires", "gates", "number", "told", "at", "held", "gate", "kind", "one", "other"] ["net", "wire", "wires", "gates", "number"] (defScope s_worth_by) := ⟨rfl, rfl, rfl, by decide +kernel, rfl, by decide +kernel, by decide +kernel⟩
abbrev s_content : Stmt := topS 38
theorem sc_content : FnScope ["net", "wire", "wires", "gates", "number"] ["net", "wire", "wires"] (defScope s_content) := ⟨rfl, rfl, rfl, by decide +kernel, rfl, by decide +kernel, by decide +kernel⟩
abbrev s_one_deeper : Stmt := topS 48
abbrev s_depths_by : Stmt := topS 49
abbrev s_depths : Stmt := topS 50
abbrev s_with_deepest : Stmt := topS 52
abbrev s_cut_choices : Stmt := topS 53
abbrev s_first_needs : Stmt := topS 54
abbrev s_next_gate : Stmt := topS 55
abbrev s_fitting_cuts : Stmt := topS 56
abbrev s_needs_with : Stmt := topS 57
abbrev s_fewest_tables : Stmt := topS 60
abbrev s_count_paper : Stmt := topS 61
abbrev s_fewest : Stmt := topS 62
abbrev s_with_gate : Stmt := topS 64
theorem sc_with_gate : FnScope ["net", "gate", "held", "many", "gates", "outs", "at"] ["net", "gate", "held"] (defScope s_with_gate) := ⟨rfl, rfl, rfl, by decide +kernel, rfl, by decide +kernel, by decide +kernel⟩
abbrev s_kind_changed : Stmt := topS 65
theorem sc_kind_changed : FnScope ["net", "change", "gate", "kind"] ["net", "change"] (defScope s_kind_changed) := ⟨rfl, rfl, rfl, by decide +kernel, rfl, by decide +kernel, by decide +kernel⟩
abbrev s_lead_changed : Stmt := topS 66
theorem sc_lead_changed : FnScope ["net", "change", "gate", "side", "wire", "kind", "one", "other"] ["net", "change"] (defScope s_lead_changed) := ⟨rfl, rfl, rfl, by decide +kernel, rfl, by decide +kernel, by decide +kernel⟩
abbrev s_gate_added : Stmt := topS 67
theorem sc_gate_added : FnScope ["net", "change", "many", "gates", "outs"] ["net", "change"] (defScope s_gate_added) := ⟨rfl, rfl, rfl, by decide +kernel, rfl, by decide +kernel, by decide +kernel⟩
abbrev s_gate_taken : Stmt := topS 68
theorem sc_gate_taken : FnScope ["net", "change", "many", "gates", "outs"] ["net", "change"] (defScope s_gate_taken) := ⟨rfl, rfl, rfl, by decide +kernel, rfl, by decide +kernel, by decide +kernel⟩
abbrev s_outs_changed : Stmt := topS 69
theorem sc_outs_changed : FnScope ["net", "change", "many", "gates", "outs"] ["net", "change"] (defScope s_outs_changed) := ⟨rfl, rfl, rfl, by decide +kernel, rfl, by decide +kernel, by decide +kernel⟩
abbrev s_has_word : Stmt := topS 71
theorem sc_has_word : FnScope ["thing"] ["thing"] (defScope s_has_word) := ⟨rfl, rfl, rfl, by decide +kernel, rfl, by decide +kernel, by decide +kernel⟩
abbrev s_changed : Stmt := topS 72
theorem sc_changed : FnScope ["net", "change", "action", "told"] ["net", "change"] (defScope s_changed) := ⟨rfl, rfl, rfl, by decide +kernel, rfl, by decide +kernel, by decide +kernel⟩
abbrev s_leaned : Stmt := topS 74
abbrev s_chosen : Stmt := topS 76
abbrev s_all_choices : Stmt := topS 77
abbrev s_plain_by : Stmt := topS 78
abbrev s_other_gates : Stmt := topS 80
theorem sc_other_gates : FnScope ["net", "ahead", "behind", "gate"] ["net", "ahead", "behind"] (defScope s_other_gates) := ⟨rfl, rfl, rfl, by decide +kernel, rfl, by decide +kernel, by decide +kernel⟩
abbrev s_Keeper___init__ : Stmt := mthS (topS 81) 0
theorem sc_Keeper___init__ : FnScope ["self", "net", "k"] ["self", "net", "k"] (defScope s_Keeper___init__) := ⟨rfl, rfl, rfl, by decide +kernel, rfl, by decide +kernel, by decide +kernel⟩
abbrev s_Keeper_net : Stmt := mthS (topS 81) 1
theorem sc_Keeper_net : FnScope ["self"] ["self"] (defScope s_Keeper_net) := ⟨rfl, rfl, rfl, by decide +kernel, rfl, by decide +kernel, by decide +kernel⟩
abbrev s_Keeper_cuts : Stmt := mthS (topS 81) 2
abbrev s_Keeper_depths : Stmt := mthS (topS 81) 3
abbrev s_Keeper_cover : Stmt := mthS (topS 81) 4
abbrev s_Keeper_do : Stmt := mthS (topS 81) 5
theorem sc_Keeper_do : FnScope ["self", "change", "told", "ahead"] ["self", "change"] (defScope s_Keeper_do) := ⟨rfl, rfl, rfl, by decide +kernel, rfl, by decide +kernel, by decide +kernel⟩
abbrev s_show_net : Stmt := topS 84
abbrev s_number_in : Stmt := topS 85
theorem sc_number_in : FnScope ["word", "sign", "number"] ["word"] (defScope s_number_in) := ⟨rfl, rfl, rfl, by decide +kernel, rfl, by decide +kernel, by decide +kernel⟩
abbrev s_numbers_in : Stmt := topS 86
theorem sc_numbers_in : FnScope ["words", "numbers", "word"] ["words"] (defScope s_numbers_in) := ⟨rfl, rfl, rfl, by decide +kernel, rfl, by decide +kernel, by decide +kernel⟩
abbrev s_in_figures : Stmt := topS 90
theorem sc_in_figures : FnScope ["numbers", "number"] ["numbers"] (defScope s_in_figures) := ⟨rfl, rfl, rfl, by decide +kernel, rfl, by decide +kernel, by decide +kernel⟩
abbrev s_cut_text : Stmt := topS 91
abbrev s_wires_written : Stmt := topS 92
theorem sc_wires_written : FnScope ["word"] ["word"] (defScope s_wires_written) := ⟨rfl, rfl, rfl, by decide +kernel, rfl, by decide +kernel, by decide +kernel⟩
abbrev s_number_alone : Stmt := topS 93
abbrev s_show_answer : Stmt := topS 94
abbrev s_cuts_answer : Stmt := topS 95
abbrev s_depth_answer : Stmt := topS 96
abbrev s_cover_answer : Stmt := topS 97
abbrev s_fewest_answer : Stmt := topS 98
abbrev s_content_answer : Stmt := topS 99
theorem sc_content_answer : FnScope ["keeper", "words", "gate", "cut"] ["keeper", "words"] (defScope s_content_answer) := ⟨rfl, rfl, rfl, by decide +kernel, rfl, by decide +kernel, by decide +kernel⟩
abbrev s_row_answer : Stmt := topS 100
abbrev s_way_answer : Stmt := topS 101
theorem sc_way_answer : FnScope ["keeper", "words", "gate", "wires", "way"] ["keeper", "words"] (defScope s_way_answer) := ⟨rfl, rfl, rfl, by decide +kernel, rfl, by decide +kernel, by decide +kernel⟩
abbrev s_change_written : Stmt := topS 103
theorem sc_change_written : FnScope ["head", "words", "numbers"] ["head", "words"] (defScope s_change_written) := ⟨rfl, rfl, rfl, by decide +kernel, rfl, by decide +kernel, by decide +kernel⟩
abbrev s_change_answer : Stmt := topS 104
theorem sc_change_answer : FnScope ["keeper", "head", "words", "gates"] ["keeper", "head", "words"] (defScope s_change_answer) := ⟨rfl, rfl, rfl, by decide +kernel, rfl, by decide +kernel, by decide +kernel⟩
abbrev s_Desk___init__ : Stmt := mthS (topS 105) 0
theorem sc_Desk___init__ : FnScope ["self", "many", "k"] ["self", "many", "k"] (defScope s_Desk___init__) := ⟨rfl, rfl, rfl, by decide +kernel, rfl, by decide +kernel, by decide +kernel⟩
abbrev s_Desk_say : Stmt := mthS (topS 105) 1
theorem sc_Desk_say : FnScope ["self", "text", "head", "words", "question", "told"] ["self", "text"] (defScope s_Desk_say) := ⟨rfl, rfl, rfl, by decide +kernel, rfl, by decide +kernel, by decide +kernel⟩
abbrev s_Desk_net : Stmt := mthS (topS 105) 2
theorem sc_Desk_net : FnScope ["self"] ["self"] (defScope s_Desk_net) := ⟨rfl, rfl, rfl, by decide +kernel, rfl, by decide +kernel, by decide +kernel⟩
abbrev s__law_deck : Stmt := topS 107
theorem sc__law_deck : FnScope ["_law_script", "_law_cells", "_law_seed", "_law_cell"] ["_law_script"] (defScope s__law_deck) := ⟨rfl, rfl, rfl, by decide +kernel, rfl, by decide +kernel, by decide +kernel⟩
abbrev s__law_mixed : Stmt := topS 108
theorem sc__law_mixed : FnScope ["_law_cell", "_law_k", "_law_number"] ["_law_cell", "_law_k"] (defScope s__law_mixed) := ⟨rfl, rfl, rfl, by decide +kernel, rfl, by decide +kernel, by decide +kernel⟩
abbrev s__law_draw : Stmt := topS 109
theorem sc__law_draw : FnScope ["_law_deck_here", "_law_most", "_law_cell"] ["_law_deck_here", "_law_most"] (defScope s__law_draw) := ⟨rfl, rfl, rfl, by decide +kernel, rfl, by decide +kernel, by decide +kernel⟩
abbrev s__law_heard : Stmt := topS 110
theorem sc__law_heard : FnScope ["_law_desk", "_law_row", "_law_told_here", "_law_error", "e", "_law_others"] ["_law_desk", "_law_row"] (defScope s__law_heard) := ⟨rfl, rfl, rfl, by decide +kernel, rfl, by decide +kernel, by decide +kernel⟩
abbrev s__law_put_in : Stmt := topS 111
theorem sc__law_put_in : FnScope ["_law_row", "_law_at", "_law_thing"] ["_law_row", "_law_at", "_law_thing"] (defScope s__law_put_in) := ⟨rfl, rfl, rfl, by decide +kernel, rfl, by decide +kernel, by decide +kernel⟩
abbrev s__law_change : Stmt := topS 112
theorem sc__law_change : FnScope ["_law_deck_here", "_law_net", "_law_most", "_law_way", "_law_many", "_law_gates", "_law_outs", "_law_wires_here", "_law_at", "_law_one", "_law_other", "_law_kind", "_law_text", "_law_led_here", "_law_turn", "_law_wire", "_law_side"] ["_law_deck_here", "_law_net", "_law_most"] (defScope s__law_change) := ⟨rfl, rfl, rfl, by decide +kernel, rfl, by decide +kernel, by decide +kernel⟩
abbrev s__law_grown : Stmt := topS 113
theorem sc__law_grown : FnScope ["_law_deck_here", "_law_desk", "_law_turns", "_law_most", "_law_turn", "_law_text", "_law_net"] ["_law_deck_here", "_law_desk", "_law_turns", "_law_most"] (defScope s__law_grown) := ⟨rfl, rfl, rfl, by decide +kernel, rfl, by decide +kernel, by decide +kernel⟩
abbrev s__law_written : Stmt := topS 114
theorem sc__law_written : FnScope ["_law_wires_here", "_law_sign", "_law_wire"] ["_law_wires_here", "_law_sign"] (defScope s__law_written) := ⟨rfl, rfl, rfl, by decide +kernel, rfl, by decide +kernel, by decide +kernel⟩
abbrev s__law_told : Stmt := topS 115
theorem sc__law_told : FnScope ["_law_net", "_law_wire", "_law_wires_here", "_law_free", "_law_one", "_law_ahead", "_law_place"] ["_law_net", "_law_wire", "_law_wires_here"] (defScope s__law_told) := ⟨rfl, rfl, rfl, by decide +kernel, rfl, by decide +kernel, by decide +kernel⟩
abbrev s__law_wires : Stmt := topS 116
theorem sc__law_wires : FnScope ["_law_deck_here", "_law_net", "_law_gate", "_law_way", "_law_wires_here", "_law_turn", "_law_one", "_law_wire"] ["_law_deck_here", "_law_net", "_law_gate"] (defScope s__law_wires) := ⟨rfl, rfl, rfl, by decide +kernel, rfl, by decide +kernel, by decide +kernel⟩
abbrev s__law_way_right : Stmt := topS 117
theorem sc__law_way_right : FnScope ["_law_net", "_law_gate", "_law_wires_here", "_law_told_here", "_law_way", "_law_word", "_law_ahead", "_law_here", "_law_wire"] ["_law_net", "_law_gate", "_law_wires_here", "_law_told_here"] (defScope s__law_way_right) := ⟨rfl, rfl, rfl, by decide +kernel, rfl, by decide +kernel, by decide +kernel⟩
abbrev s__law_led : Stmt := topS 118
theorem sc__law_led : FnScope ["_law_deck_here", "_law_desk", "_law_net", "_law_many", "_law_gates", "_law_outs", "_law_at", "_law_side", "_law_wire"] ["_law_deck_here", "_law_desk", "_law_net"] (defScope s__law_led) := ⟨rfl, rfl, rfl, by decide +kernel, rfl, by decide +kernel, by decide +kernel⟩
abbrev s__law_turned_over : Stmt := topS 119
theorem sc__law_turned_over : FnScope ["_law_deck_here", "_law_desk", "_law_net", "_law_many", "_law_gates", "_law_outs", "_law_at", "_law_kind", "_law_turn", "_law_wire"] ["_law_deck_here", "_law_desk", "_law_net"] (defScope s__law_turned_over) := ⟨rfl, rfl, rfl, by decide +kernel, rfl, by decide +kernel, by decide +kernel⟩
abbrev s__law_right : Stmt := topS 120
theorem sc__law_right : FnScope ["_law_desk", "_law_net", "_law_gate", "_law_wires_here", "_law_words", "_law_way", "_law_told_here"] ["_law_desk", "_law_net", "_law_gate", "_law_wires_here"] (defScope s__law_right) := ⟨rfl, rfl, rfl, by decide +kernel, rfl, by decide +kernel, by decide +kernel⟩
abbrev s__law_filled : Stmt := topS 121
theorem sc__law_filled : FnScope ["_law_deck_here", "_law_desk", "_law_most", "_law_many", "_law_gates", "_law_outs", "_law_wires_here", "_law_gate", "_law_word"] ["_law_deck_here", "_law_desk", "_law_most"] (defScope s__law_filled) := ⟨rfl, rfl, rfl, by decide +kernel, rfl, by decide +kernel, by decide +kernel⟩
abbrev s__law_many_right : Stmt := topS 122
theorem sc__law_many_right : FnScope ["_law_deck_here", "_law_desk", "_law_net", "_law_turn", "_law_gate", "_law_out", "_law_wire"] ["_law_deck_here"] (defScope s__law_many_right) := ⟨rfl, rfl, rfl, by decide +kernel, rfl, by decide +kernel, by decide +kernel⟩
abbrev s_law : Stmt := topS 123
theorem sc_law : FnScope ["_law_script", "_law_deck_here", "_law_k", "_law_desk", "_law_net", "_law_asked", "_law_turn", "_law_gate", "_law_again", "_law_wires_here"] ["_law_script"] (defScope s_law) := ⟨rfl, rfl, rfl, by decide +kernel, rfl, by decide +kernel, by decide +kernel⟩
def hdFn : List He.FnD := ([fdD "wires_of" s_wires_of, fdD "fits" s_fits, fdD "has_part" s_has_part, fdD "is_whole" s_is_whole, fdD "is_below" s_is_below, fdD "is_many" s_is_many, fdD "is_gate" s_is_gate, fdD "are_gates" s_are_gates, fdD "are_outs" s_are_outs, fdD "is_net" s_is_net, fdD "wires_in" s_wires_in, fdD "has_gate" s_has_gate, fdD "gate_worth" s_gate_worth, fdD "worths" s_worths, fdD "outs_at" s_outs_at, fdD "places" s_places, fdD "is_step" s_is_step, fdD "reached" s_reached, fdD "tells" s_tells, fdD "rises" s_rises, fdD "is_rising" s_is_rising, fdD "is_cut" s_is_cut, fdD "gate_masks" s_gate_masks, fdD "cut_masks" s_cut_masks, fdD "told_cuts" s_told_cuts, fdD "all_cuts" s_all_cuts, fdD "way_past" s_way_past, fdD "inside" s_inside, fdD "worth_by" s_worth_by, fdD "content" s_content] : List He.FnD) ++ ([fdD "one_deeper" s_one_deeper, fdD "depths_by" s_depths_by, fdD "depths" s_depths, fdD "with_deepest" s_with_deepest, fdD "cut_choices" s_cut_choices, fdD "first_needs" s_first_needs, fdD "next_gate" s_next_gate, fdD "fitting_cuts" s_fitting_cuts, fdD "needs_with" s_needs_with, fdD "fewest_tables" s_fewest_tables, fdD "count_paper" s_count_paper, fdD "fewest" s_fewest, fdD "with_gate" s_with_gate, fdD "kind_changed" s_kind_changed, fdD "lead_changed" s_lead_changed, fdD "gate_added" s_gate_added, fdD "gate_taken" s_gate_taken, fdD "outs_changed" s_outs_changed, fdD "has_word" s_has_word, fdD "changed" s_changed, fdD "leaned" s_leaned, fdD "chosen" s_chosen, fdD "all_choices" s_all_choices, fdD "plain_by" s_plain_by, fdD "other_gates" s_other_gates, mdD "Keeper" "__init__" "Keeper.__init__" s_Keeper___init__, mdD "Keeper" "net" "Keeper.net" s_Keeper_net, mdD "Keeper" "cuts" "Keeper.cuts" s_Keeper_cuts, mdD "Keeper" "depths" "Keeper.depths" s_Keeper_depths, mdD "Keeper" "cover" "Keeper.cover" s_Keeper_cover] : List He.FnD) ++ ([mdD "Keeper" "do" "Keeper.do" s_Keeper_do, fdD "show_net" s_show_net, fdD "number_in" s_number_in, fdD "numbers_in" s_numbers_in, fdD "in_figures" s_in_figures, fdD "cut_text" s_cut_text, fdD "wires_written" s_wires_written, fdD "number_alone" s_number_alone, fdD "show_answer" s_show_answer, fdD "cuts_answer" s_cuts_answer, fdD "depth_answer" s_depth_answer, fdD "cover_answer" s_cover_answer, fdD "fewest_answer" s_fewest_answer, fdD "content_answer" s_content_answer, fdD "row_answer" s_row_answer, fdD "way_answer" s_way_answer, fdD "change_written" s_change_written, fdD "change_answer" s_change_answer, mdD "Desk" "__init__" "Desk.__init__" s_Desk___init__, mdD "Desk" "say" "Desk.say" s_Desk_say, mdD "Desk" "net" "Desk.net" s_Desk_net, fdD "_law_deck" s__law_deck, fdD "_law_mixed" s__law_mixed, fdD "_law_draw" s__law_draw, fdD "_law_heard" s__law_heard, fdD "_law_put_in" s__law_put_in, fdD "_law_change" s__law_change, fdD "_law_grown" s__law_grown, fdD "_law_written" s__law_written, fdD "_law_told" s__law_told] : List He.FnD) ++ ([fdD "_law_wires" s__law_wires, fdD "_law_way_right" s__law_way_right, fdD "_law_led" s__law_led, fdD "_law_turned_over" s__law_turned_over, fdD "_law_right" s__law_right, fdD "_law_filled" s__law_filled, fdD "_law_many_right" s__law_many_right, fdD "law" s_law] : List He.FnD)
def hdTs : List Tb3 := ([("CHANGES", ["kind", "lead", "more", "less", "outs"]), ("QUESTIONS", ["show", "cuts", "depth", "cover", "fewest", "content", "row", "way"])] : List Tb3)
def hdTf : List He.Defn := ([("wires_of", none), ("are_gates", none), ("are_outs", none), ("outs_at", none), ("reached", none), ("tells", none), ("rises", none), ("is_rising", none), ("all_cuts", none), ("inside", none), ("content", none), ("with_deepest", none), ("cut_choices", none), ("chosen", none), ("all_choices", none), ("other_gates", none), ("number_in", none), ("row_answer", none)] : List He.Defn)
def hdEx : List Bl := ([faB (.cls "Keeper"), faB (.glo "Keeper"), faB (.mkr "Keeper"), faB (.keep "Keeper"), faB (.noat "Keeper" "k"), faB (.noat "Keeper" "held"), faB (.noat "Keeper" "kept"), faB (.cls "Desk"), faB (.glo "Desk"), faB (.mkr "Desk"), faB (.keep "Desk"), faB (.noat "Desk" "keeper"), excB "NoText", excB "NoDepth", excB "TooMany", excB "NoMatch", exmB "NoChange", exmB "NoRow", subB "NoChange" "NoChange" true, subB "NoRow" "NoRow" true, subT "NoRow" "ValueError" true, subB "NoRow" "NoText" false, subB "NoRow" "NoDepth" false, subB "NoRow" "TooMany" false, subB "NoRow" "NoMatch" false, subB "NoRow" "NoChange" false, faB (.glo "CHANGES"), dicB "CHANGES" "kind" "kind_changed", dicB "CHANGES" "lead" "lead_changed", dicB "CHANGES" "more" "gate_added"] : List Bl) ++ ([dicB "CHANGES" "less" "gate_taken", dicB "CHANGES" "outs" "outs_changed", neB "kind_changed" "lead_changed", neB "kind_changed" "gate_added", neB "kind_changed" "gate_taken", neB "kind_changed" "outs_changed", neB "lead_changed" "gate_added", neB "lead_changed" "gate_taken", neB "lead_changed" "outs_changed", neB "gate_added" "gate_taken", neB "gate_added" "outs_changed", neB "gate_taken" "outs_changed", dicN "CHANGES" "", dicN "CHANGES" "0", dicN "CHANGES" "way", dicN "CHANGES" "Kind", dicN "CHANGES" "leads", faB (.glo "QUESTIONS"), dicB "QUESTIONS" "show" "show_answer", dicB "QUESTIONS" "cuts" "cuts_answer", dicB "QUESTIONS" "depth" "depth_answer", dicB "QUESTIONS" "cover" "cover_answer", dicB "QUESTIONS" "fewest" "fewest_answer", dicB "QUESTIONS" "content" "content_answer", dicB "QUESTIONS" "row" "row_answer", dicB "QUESTIONS" "way" "way_answer", neB "show_answer" "cuts_answer", neB "show_answer" "depth_answer", neB "show_answer" "cover_answer", neB "show_answer" "fewest_answer"] : List Bl) ++ ([neB "show_answer" "content_answer", neB "show_answer" "row_answer", neB "show_answer" "way_answer", neB "cuts_answer" "depth_answer", neB "cuts_answer" "cover_answer", neB "cuts_answer" "fewest_answer", neB "cuts_answer" "content_answer", neB "cuts_answer" "row_answer", neB "cuts_answer" "way_answer", neB "depth_answer" "cover_answer", neB "depth_answer" "fewest_answer", neB "depth_answer" "content_answer", neB "depth_answer" "row_answer", neB "depth_answer" "way_answer", neB "cover_answer" "fewest_answer", neB "cover_answer" "content_answer", neB "cover_answer" "row_answer", neB "cover_answer" "way_answer", neB "fewest_answer" "content_answer", neB "fewest_answer" "row_answer", neB "fewest_answer" "way_answer", neB "content_answer" "row_answer", neB "content_answer" "way_answer", neB "row_answer" "way_answer", dicN "QUESTIONS" "gate", dicN "QUESTIONS" "kind", dicN "QUESTIONS" "lead", dicN "QUESTIONS" "less", dicN "QUESTIONS" "outs", faB (.free "ValueError")] : List Bl) ++ ([faB (.free "all"), faB (.free "any"), faB (.free "bool"), faB (.free "dict"), faB (.free "enumerate"), faB (.free "int"), faB (.free "isinstance"), faB (.free "len"), faB (.free "list"), faB (.free "max"), faB (.free "min"), faB (.free "range"), faB (.free "reversed"), faB (.free "set"), faB (.free "sorted"), faB (.free "str"), faB (.free "tuple"), faB (.free "zip"), faB (.str "FIGURES" "0123456789"), faB (.int "KINDS" 16), faB (.int "MOST_GATES" 16), faB (.int "MOST_GATES_TRIED" 6), faB (.int "MOST_INPUTS" 8), faB (.int "MOST_OUTS" 8), faB (.int "MOST_WIRES_OF_CONTENT" 8), faB (.str "WORTHS" "01"), lamB ("chosen", none) [("wires_of", none), ("are_gates", none), ("are_outs", none), ("outs_at", none), ("reached", none), ("tells", none), ("rises", none), ("is_rising", none), ("all_cuts", none), ("inside", none), ("content", none), ("with_deepest", none), ("cut_choices", none), ("all_choices", none), ("other_gates", none), ("number_in", none), ("row_answer", none)]] : List Bl)
def hdNames : List Str := (["wires_of", "fits", "has_part", "MOST_INPUTS", "MOST_GATES", "MOST_OUTS", "KINDS", "is_whole", "is_below", "is_many", "is_gate", "are_gates", "are_outs", "is_net", "wires_in", "has_gate", "gate_worth", "worths", "outs_at", "places", "is_step", "reached", "tells", "rises", "is_rising", "is_cut", "gate_masks", "cut_masks", "told_cuts", "all_cuts"] : List Str) ++ (["way_past", "inside", "worth_by", "content", "CoverError", "NoText", "NoDepth", "TooMany", "NoMatch", "NoChange", "NoRow", "one_deeper", "depths_by", "depths", "with_deepest", "cut_choices", "first_needs", "next_gate", "fitting_cuts", "needs_with", "MOST_GATES_TRIED", "fewest_tables", "count_paper", "fewest", "with_gate", "kind_changed", "lead_changed", "gate_added", "gate_taken", "outs_changed"] : List Str) ++ (["CHANGES", "has_word", "changed", "leaned", "chosen", "all_choices", "plain_by", "other_gates", "Keeper", "FIGURES", "show_net", "number_in", "numbers_in", "MOST_WIRES_OF_CONTENT", "WORTHS", "in_figures", "cut_text", "wires_written", "number_alone", "show_answer", "cuts_answer", "depth_answer", "cover_answer", "fewest_answer", "content_answer", "row_answer", "way_answer", "QUESTIONS", "change_written", "change_answer"] : List Str) ++ (["Desk", "_law_deck", "_law_mixed", "_law_draw", "_law_heard", "_law_put_in", "_law_change", "_law_grown", "_law_written", "_law_told", "_law_wires", "_law_way_right", "_law_led", "_law_turned_over", "_law_right", "_law_filled", "_law_many_right"] : List Str)
abbrev hdRow : PySem.W.OpenRow := PySem.W.OpenLaw.row PySem.Challenge.rw_tablecover_k80_contents_and_ways
abbrev hdHk : PySem.W.Hook := hookK 4 hdFn hdTs hdTf hdEx
def hdOb (s : PySem.W.SharedT) : AlK := obsK 4 hdFn hdTs hdTf hdEx (HandSHeadRun.getT s)
theorem hdOb_eq (s : PySem.W.SharedT) : hdOb s = hdHk.obs s.abs := obsK_eq (HandSHeadRun.getT_eq s)
theorem hdRunF (w : World) : HandSHeadRun.RunEq hdRow (PySem.W.view hdRow.prog [123]) hdHk hdOb 8000 hdNames (w.withFollow "special-get-raises" false) := by
  intro os
  kernel_rfl
theorem hdRunT (w : World) : HandSHeadRun.RunEq hdRow (PySem.W.view hdRow.prog [123]) hdHk hdOb 8000 hdNames (w.withFollow "special-get-raises" true) := by
  intro os
  kernel_rfl
theorem hdRun (w : World) : HandSHeadRun.RunEq hdRow (PySem.W.view hdRow.prog [123]) hdHk hdOb 8000 hdNames w :=
  PySem.W.byRow2 "special-get-raises" (P := fun w => HandSHeadRun.RunEq hdRow (PySem.W.view hdRow.prog [123]) hdHk hdOb 8000 hdNames w) hdRunF hdRunT w
end K80
set_option Elab.async false
set_option linter.all false
set_option maxRecDepth 100000
set_option maxHeartbeats 4000000
/-! Nets as data, and how they stand in the heap. -/
namespace GX
open PySem PySem.Spec PyProof.Rows L2
structure Net where
  many : Nat
  gates : List (Nat × Nat × Nat)
  outs : List Nat
def gateOk (many i : Nat) (g : Nat × Nat × Nat) : Prop := g.1 < 16 ∧ g.2.1 < many + i ∧ g.2.2 < many + i
structure Net.Ok (n : Net) : Prop where
  m1 : 1 ≤ n.many
  m8 : n.many ≤ 8
  g16 : n.gates.length ≤ 16
  gs : ∀ (i : Nat) (g : Nat × Nat × Nat), n.gates[i]? = some g → gateOk n.many i g
  o1 : 1 ≤ n.outs.length
  o8 : n.outs.length ≤ 8
  os : ∀ o ∈ n.outs, o < n.many + n.gates.length
def nV (n : Nat) : V := .int (n : Int)
def gV (g : Nat × Nat × Nat) : List V := [nV g.1, nV g.2.1, nV g.2.2]
/-- the gates at these addresses -/
def GatesAt (H : Hp) (ps : List Addr) (gs : List (Nat × Nat × Nat)) : Prop := ps.length = gs.length ∧ ∀ (i : Nat) (p : Addr) (g : Nat × Nat × Nat), ps[i]? = some p → gs[i]? = some g → H p = some (.tup (gV g))
structure NetAt (H : Hp) (a : Addr) (n : Net) (g o : Addr) (ps : List Addr) : Prop where
  top : H a = some (.tup [nV n.many, .ref g, .ref o])
  gt : H g = some (.tup (ps.map V.ref))
  gs : GatesAt H ps n.gates
  ot : H o = some (.tup (n.outs.map nV))
theorem GatesAt.nil (H : Hp) : GatesAt H [] [] := ⟨rfl, fun i p g e _ => by simp at e⟩
theorem GatesAt.mono {H H' : Hp} {ps : List Addr} {gs : List (Nat × Nat × Nat)} (x : GatesAt H ps gs) (k : ∀ b xs, H b = some (.tup xs) → H' b = some (.tup xs)) : GatesAt H' ps gs := ⟨x.1, fun i p g e1 e2 => k _ _ (x.2 i p g e1 e2)⟩
theorem NetAt.mono {H H' : Hp} {a g o : Addr} {n : Net} {ps : List Addr} (x : NetAt H a n g o ps) (k : ∀ b xs, H b = some (.tup xs) → H' b = some (.tup xs)) : NetAt H' a n g o ps := ⟨k _ _ x.top, k _ _ x.gt, x.gs.mono k, k _ _ x.ot⟩
theorem GatesAt.push {H : Hp} {ps : List Addr} {gs : List (Nat × Nat × Nat)} {p : Addr} {g : Nat × Nat × Nat} (x : GatesAt H ps gs) (h : H p = some (.tup (gV g))) : GatesAt H (ps ++ [p]) (gs ++ [g]) := by
  refine ⟨by rw [List.length_append, List.length_append, x.1]; rfl, fun i q g' e1 e2 => ?_⟩
  by_cases hi : i < ps.length
  · rw [List.getElem?_append_left hi] at e1
    rw [List.getElem?_append_left (by rw [← x.1]; exact hi)] at e2
    exact x.2 i q g' e1 e2
  · rw [List.getElem?_append_right (by omega)] at e1
    rw [List.getElem?_append_right (by rw [← x.1]; omega)] at e2
    have hz : i - ps.length = 0 := by
      obtain ⟨h1, _⟩ := List.getElem?_eq_some_iff.mp e1
      simp at h1
      omega
    rw [hz] at e1
    rw [← x.1, hz] at e2
    cases e1
    cases e2
    exact h
theorem gateOk.at {H : Hp} {ps : List Addr} {gs : List (Nat × Nat × Nat)} (x : GatesAt H ps gs) {i : Nat} {p : Addr} (e : ps[i]? = some p) : ∃ g, gs[i]? = some g ∧ H p = some (.tup (gV g)) := by
  obtain ⟨h1, _⟩ := List.getElem?_eq_some_iff.mp e
  have h2 : i < gs.length := by rw [← x.1]; exact h1
  exact ⟨gs[i], List.getElem?_eq_getElem h2, x.2 i p _ e (List.getElem?_eq_getElem h2)⟩
/-- what a tuple holds it keeps, where but X is kept and X holds none -/
theorem Keep.tups {X : List Addr} {H H' : Hp} (k : Keep X H H') (n : ∀ b ∈ X, ∀ xs, H b ≠ some (.tup xs)) : ∀ b xs, H b = some (.tup xs) → H' b = some (.tup xs) := fun b xs e => k b _ e fun z => n b z xs e
/-! ### the well -/
def Wl (H : Hp) (W : Addr) : Prop := ∃ a b c : Int, H W = some (.lst [.int a, .int b, .int c])
theorem Wl.nt {H : Hp} {W : Addr} (h : Wl H W) : ∀ b ∈ [W], ∀ xs, H b ≠ some (.tup xs) := fun b hb xs e => by
  rw [List.mem_singleton.mp hb] at e
  obtain ⟨_, _, _, q⟩ := h
  rw [e] at q
  cases q
theorem Wl.keep {X : List Addr} {H H' : Hp} {W : Addr} (h : Wl H W) (k : Keep X H H') (n : W ∉ X) : Wl H' W := by
  obtain ⟨a, b, c, e⟩ := h
  exact ⟨a, b, c, k _ _ e n⟩
theorem Wl.tab {Ts : List Addr} {H : Hp} {W : Addr} (h : Wl H W) (t : Tabs Ts H) : W ∉ Ts := by
  obtain ⟨a, b, c, e⟩ := h
  exact t.lst e
theorem Tabs.keep {Ts X : List Addr} {H H' : Hp} (t : Tabs Ts H) (k : Keep X H H') (n : ∀ b ∈ X, b ∉ Ts) : Tabs Ts H' := fun b hb => by
  obtain ⟨ps, q, r⟩ := t b hb
  exact ⟨ps, k b _ q fun z => n b z hb, r⟩
/-! ### words for the readings -/
theorem Same.keep {X : List Addr} {H H' : Hp} (s : Same H H') : Keep X H H' := fun b o e _ => s b o e
theorem Same.new {H : Hp} {p : Addr} {o : HO} (n : H p = none) : Same H (upd H p o) := fun b u e => by rw [upd_ne (ne_of_none e n)]; exact e
theorem catA {K : PySem.W.Frag} {H : Hp} {a b : Addr} {xs ys : List V} {Q : VK} (h1 : H a = some (.tup xs)) (h2 : H b = some (.tup ys)) (hz : xs.length + ys.length ≤ sizeLine) (q : ∀ r H', Same H H' → H' r = some (.tup (xs ++ ys)) → Q (.ref r) H') : rCatA K (.ref a) (.ref b) H Q := by
  refine ⟨a, b, xs, ys, rfl, rfl, SqT.of h1, SqT.of h2, hz, fun e => ?_, fun e1 e2 => ?_, fun e1 e2 p hp => ?_⟩
  · exact q b H (Same.refl _) (by rw [e]; exact h2)
  · exact q a H (Same.refl _) (by rw [e2, List.append_nil]; exact h1)
  · exact q p _ (Same.new hp) upd_same
theorem slA {K : PySem.W.Frag} {H : Hp} {a : Addr} {xs : List V} {lo hi : Option Int} {Q : VK} (h1 : H a = some (.tup xs)) (q : ∀ r H', Same H H' → H' r = some (.tup (cutV xs lo hi)) → Q (.ref r) H') : rSlA K (.ref a) lo hi H Q := by
  refine ⟨a, xs, rfl, SqT.of h1, fun e => ?_, fun e p hp => ?_⟩
  · refine q a H (Same.refl _) ?_
    unfold cutV
    rw [e.1, e.2, List.drop_zero, Nat.sub_zero, List.take_length]
    exact h1
  · exact q p _ (Same.new hp) upd_same
theorem cut_lo (xs : List V) (n : Nat) : cutV xs (some (n : Int)) none = xs.drop n := by
  unfold cutV
  rw [show HT.sIx xs.length 0 (some (n : Int)) = min n xs.length from HT.sIx_nat xs.length 0 n, HT.sIx_none]
  by_cases h : n ≤ xs.length
  · rw [Nat.min_eq_left h, List.take_of_length_le]
    rw [List.length_drop]
    exact Nat.le_refl _
  · rw [Nat.min_eq_right (by omega), List.drop_of_length_le (Nat.le_refl _), List.drop_of_length_le (by omega), List.take_nil]
theorem cut_hi (xs : List V) (n : Nat) : cutV xs none (some (n : Int)) = xs.take n := by
  unfold cutV
  rw [show HT.sIx xs.length xs.length (some (n : Int)) = min n xs.length from HT.sIx_nat xs.length xs.length n, HT.sIx_none, List.drop_zero, Nat.sub_zero]
  by_cases h : n ≤ xs.length
  · rw [Nat.min_eq_left h]
  · rw [Nat.min_eq_right (by omega), List.take_of_length_le (by omega : xs.length ≤ n), List.take_length]
/-- the well stands, all else is kept -/
structure Wk (W : Addr) (H H' : Hp) : Prop where
  wl : Wl H' W
  kp : Keep [W] H H'
theorem Wk.nxt {W : Addr} {H H1 H2 : Hp} (s : Wk W H H1) (wl : Wl H2 W) (k : Keep [W] H1 H2) : Wk W H H2 := ⟨wl, s.kp.trans k⟩
theorem Wl.same {H H' : Hp} {W : Addr} (h : Wl H W) (s : Same H H') : Wl H' W := by
  obtain ⟨a, b, c, e⟩ := h
  exact ⟨a, b, c, s _ _ e⟩
theorem Wk.same {W : Addr} {H H1 H2 : Hp} (s : Wk W H H1) (e : Same H1 H2) : Wk W H H2 := ⟨s.wl.same e, s.kp.trans (Same.keep e)⟩
theorem Wk.new {W : Addr} {H H1 : Hp} {p : Addr} {o : HO} (s : Wk W H H1) (n : H1 p = none) : Wk W H (upd H1 p o) := s.same (Same.new n)
/-- a tuple stands behind a draw -/
theorem Wl.tup {H H' : Hp} {W : Addr} (h : Wl H W) (k : Keep [W] H H') {b : Addr} {xs : List V} (e : H b = some (.tup xs)) : H' b = some (.tup xs) := k.tups h.nt b xs e
theorem Wl.gates {H H' : Hp} {W : Addr} (h : Wl H W) (k : Keep [W] H H') {ps : List Addr} {gs : List (Nat × Nat × Nat)} (x : GatesAt H ps gs) : GatesAt H' ps gs := x.mono (k.tups h.nt)
theorem Same.gates {H H' : Hp} (s : Same H H') {ps : List Addr} {gs : List (Nat × Nat × Nat)} (x : GatesAt H ps gs) : GatesAt H' ps gs := x.mono fun b xs e => s b _ e
/-- a list of our own, filled behind H: all that was stands -/
structure Own (H H' : Hp) (l : Addr) (xs : List V) : Prop where
  sm : Same H H'
  at_ : H' l = some (.lst xs)
  nw : H l = none
theorem Own.app {H H' : Hp} {l : Addr} {xs : List V} {y : V} (o : Own H H' l xs) : Own H (upd H' l (.lst (xs ++ [y]))) l (xs ++ [y]) :=
  ⟨fun b u e => by rw [upd_ne (ne_of_none e o.nw)]; exact o.sm b u e, upd_same, o.nw⟩
theorem NetAt.same {H H' : Hp} {a g o : Addr} {n : Net} {ps : List Addr} (x : NetAt H a n g o ps) (s : Same H H') : NetAt H' a n g o ps := x.mono fun b xs e => s b _ e
theorem Tabs.same {Ts : List Addr} {H H' : Hp} (t : Tabs Ts H) (s : Same H H') : Tabs Ts H' := fun b hb => by
  obtain ⟨ps, q, r⟩ := t b hb
  exact ⟨ps, s _ _ q, r⟩
theorem Aft.ofSame {Ts : List Addr} {H H' : Hp} (t : Tabs Ts H) (s : Same H H') : Aft Ts H H' := ⟨Same.keep s, Tabs.same t s⟩
theorem NetAt.aft {Ts : List Addr} {H H' : Hp} {a g o : Addr} {n : Net} {ps : List Addr} (x : NetAt H a n g o ps) (t : Tabs Ts H) (s : Aft Ts H H') : NetAt H' a n g o ps := x.mono fun b xs e => s.tup t e
/-! ### rules with the written part named (for generator expressions) -/
section
variable {X : Cx} {K : PySem.W.Frag}
theorem ix_tupK (h : X.K = K := by rfl) : IxR X (rIxT K) := by subst h; exact ix_tup
theorem op_in_seqK (h : X.K = K := by rfl) : OpR X (compareOp .In) (rIn K false) := by subst h; exact op_in_seq
theorem len_seqK (h : X.K = K := by rfl) : CallR X (.builtin "len") (fun xs H Q => ∃ p ys, xs = [.ref p] ∧ (SqL K H p ys ∨ SqT K H p ys) ∧ Q (.int ys.length) H) := by subst h; exact call_len_seq
end
end GX
set_option Elab.async false
set_option linter.all false
set_option maxRecDepth 100000
set_option maxHeartbeats 4000000
/-! enumerate of a tuple, walked. -/
namespace GX
open PySem PySem.Spec PyProof.Rows L2
open AutoSeq1 (wpAny_loadPart')
theorem enumT_new (l : Addr) (items : Array Value) (n : Nat) (dct : Option Addr) (sl : Array (Option Value)) :
    Meets (Builtin.«enumerate.__new__» ⟨[.type "enumerate", .ref l], []⟩) (fun _ R s => s.heap.get? l = some { cls := .type "tuple", dict := dct, data := .seq items n, slots := sl } ∧
      R (.ok (.ret (.ref (s.heap.push { cls := .type "tuple_iterator", data := .fields #[.ref l, .int 0 0] }).objs.size)))
        { s with heap := (s.heap.push { cls := .type "tuple_iterator", data := .fields #[.ref l, .int 0 0] }).push { cls := .type "enumerate", data := .fields #[.none, .bool false, .ref s.heap.objs.size, rawInt 0, .none, .none] } }) :=
  .of_wp fun prog w A R s h => by
    obtain ⟨hp, g, d, tk, os⟩ := s
    obtain ⟨hl, h⟩ := h
    have hsub := sub_enumerate
    have hL : Heap.IsTuple (Shared.heap ⟨hp, g, d, tk, os⟩) l items := ⟨_, hl, rfl, n, rfl⟩
    wp_walk using wpAny_loadPart' hl
    refine wpAny_stack_any fun st => wpAny_pure ?_
    split
    · rename_i c _ _ _ _ _
      cases (c == Value.type "enumerate") <;>
      · wp_walk using wpAny_loadPart' hl, wpAny_pyIter_tuple hL
        exact ⟨_, rfl, h⟩
    · wp_walk using wpAny_loadPart' hl, wpAny_pyIter_tuple hL
      exact ⟨_, rfl, h⟩
section
variable {prog : Program} {w : World} {A : Around} {E : Value → Shared → Prop} {s : Shared}
theorem enumT_call {l : Addr} {items : Array Value} {Q : Value → Shared → Prop} (hL : s.heap.IsTuple l items)
    (h : ∀ h', IsEnum h' (s.heap.objs.size + 1) s.heap.objs.size 0 .none → h'.IsTupleIter s.heap.objs.size l 0 → (∀ b o, s.heap.get? b = some o → h'.get? b = some o) → Q (.ref (s.heap.objs.size + 1)) { s with heap := h' }) :
    wpAny (model prog w) A (call (.type "enumerate") [.ref l]) Q E s := by
  obtain ⟨⟨c, dct, dt, sl⟩, hl, hc, n, hd⟩ := hL
  replace hc : c = .type "tuple" := hc
  replace hd : dt = .seq items n := hd
  subst hc hd
  refine callType_new F.called_enumerate (by decide) (F.typeCall_enumerate_1 _) (F.newCall_enumerate_1 _) (fun obj => F.args_object_init_2 obj _) F.entry_enumerate_new (enumT_new l items n dct sl) ⟨hl, ?_⟩
  have hz : (s.heap.push { cls := .type "tuple_iterator", data := .fields #[.ref l, .int 0 0] }).objs.size = s.heap.objs.size + 1 := Heap.size_push ..
  show _ ∧ _
  rw [hz]
  have he : IsEnum ((s.heap.push { cls := .type "tuple_iterator", data := .fields #[.ref l, .int 0 0] }).push { cls := .type "enumerate", data := .fields #[.none, .bool false, .ref s.heap.objs.size, rawInt 0, .none, .none] }) (s.heap.objs.size + 1) s.heap.objs.size 0 .none := by
    have q := Heap.get?_push_size (s.heap.push { cls := .type "tuple_iterator", data := .fields #[.ref l, .int 0 0] }) (o := { cls := .type "enumerate", data := .fields #[.none, .bool false, .ref s.heap.objs.size, rawInt 0, .none, .none] }) rfl
    rw [hz] at q
    exact q
  exact ⟨⟨_, he, rfl⟩, h _ he ⟨_, Heap.get?_push_of_some _ (Heap.get?_push_size _ rfl), rfl, rfl⟩ fun b o x => Heap.get?_push_of_some _ (Heap.get?_push_of_some _ x)⟩
end
def Itet (K : PySem.W.Frag) (a : Addr) : It :=
  ⟨fun i H => ∃ (xs : List V) (x : V), SqT K H a xs ∧ xs[i]? = some x, fun i H v H' => ∃ T x, v = .ref T ∧ H T = none ∧ H' = upd H T (.tup [.int (i : Nat), x]) ∧ ∀ xs, SqT K H a xs → xs[i]? = some x, fun i H => ∃ xs : List V, SqT K H a xs ∧ xs.length = i⟩
theorem turn_enumT {P : Program} {w : World} {K : PySem.W.Frag} {elts : List Expr} {kk : Nat} {tpos : Pos} (a e it : Addr) :
    Turn P w K (.Tuple elts kk tpos) (Itet K a) [e, it] e (fun i h => (∃ old, IsEnum h e it ((i : Nat) : Int) old) ∧ h.IsTupleIter it a i ∧ e ≠ it ∧ a ≠ it ∧ a ≠ e) where
  mem := by simp
  obj := fun i h st b hb => by
    obtain ⟨⟨old, he⟩, ⟨o, ho, hc, hd⟩, _⟩ := st
    rcases (show b = e ∨ b = it by simpa using hb) with z | z
    · rw [z]; exact ⟨_, he, fun v q => nomatch q⟩
    · rw [z]; exact ⟨o, ho, fun v q => by rw [hd] at q; cases q⟩
  keep := fun i h h' st k => let ⟨⟨old, he⟩, hi, hne⟩ := st; ⟨⟨old, k e (by simp) _ he⟩, hi.at fun o q => k it (by simp) o q, hne⟩
  item := by
    intro X hP hw hK hc i pins s σ H E I hf st hg
    subst hP hw hK
    obtain ⟨⟨old, he⟩, hit, hne, hai, hae⟩ := st
    obtain ⟨xs, x, hq, hx⟩ := hg
    obtain ⟨its, rv, p, hz⟩ := I.tuple hq
    obtain ⟨u, hu, ru⟩ := rv.get hx
    have hel : e < s.heap.objs.size := Heap.lt_size he
    have hil : it < s.heap.objs.size := by obtain ⟨_, q, _⟩ := hit; exact Heap.lt_size q
    have hu' : its.toArray[i]? = some u := by simpa using hu
    refine wpAny_pyNext_enum_itemD (Draws.tuple (A := X.A.in1) (show X.A.in1.handled = none from I.ok.hd hc) it a hai its.toArray) he ⟨hit, p⟩ (Array.getElem?_eq_some_iff.mp hu').1 hne (by simp [hne, Ne.symm hae]) fun y h' tk hy ho hst hT hsz hk => ?_
    obtain rfl : u = y := Option.some.inj (hu'.symm.trans hy)
    refine ⟨_, rfl, wpAny_letOwnedTupleGo_enum (s := { s with heap := h', toks := tk + 1 }) ho fun h'' he' sb => ?_⟩
    have hT2 : h''.get? s.heap.objs.size = some { cls := .type "tuple", data := .seq #[.int i tk, u] } := (sb.2 _ (Nat.ne_of_gt hel)).trans hT
    have new : ObjOk X.prog X.w (upd H s.heap.objs.size (.tup [.int (i : Nat), x])) h'' s.heap.objs.size (.tup [.int (i : Nat), x]) :=
      ⟨by show 2 ≤ sizeLine; decide, [.int i tk, u], .cons ⟨_, rfl⟩ (.cons ru .nil), ⟨_, hT2, rfl, _, rfl⟩⟩
    have I1 : Inv X pins σ (upd H s.heap.objs.size (.tup [.int (i : Nat), x])) { s with heap := h'', toks := tk + 1 } :=
      I.turnedNew (ch := [e, it]) (fun b ob hb q => (sb.2 b (fun z => hb (by simp [z]))).trans (hk b ob (fun z => hb (by simp [z])) (fun z => hb (by simp [z])) q)) hf (Nat.le_refl _) new
    refine ⟨.ref s.heap.objs.size, _, I1, rfl, ⟨_, x, rfl, I.hok.fresh (Nat.le_refl _), rfl, fun ys hy => by rw [I.tuple_inj hy hq]; exact hx⟩, ⟨⟨u, ?_⟩, hst.1.at fun o q => (sb.2 it (Ne.symm hne)).trans q, hne, hai, hae⟩, fun b hb => ?_⟩
    · rw [show ((i + 1 : Nat) : Int) = (i : Int) + 1 by omega]
      exact he'
    · have hb' : b < s.heap.objs.size := by
        rcases (show b = e ∨ b = it by simpa using hb) with z | z
        · rw [z]; exact hel
        · rw [z]; exact hil
      rw [upd_ne (Nat.ne_of_lt hb')]
      exact (hf b hb).1
  done := by
    intro X hP hw hK hc i pins s σ H E I hf st hg
    subst hP hw hK
    obtain ⟨⟨old, he⟩, hit, hne, hai, hae⟩ := st
    obtain ⟨xs, hq, hx⟩ := hg
    obtain ⟨its, rv, p, hz⟩ := I.tuple hq
    obtain ⟨f0, f1, f2, f3, f4, f5⟩ := hf it (by simp)
    have hl : xs.length = its.length := rv.length
    have hs : its.toArray.size = i := by rw [List.size_toArray]; omega
    exact wpAny_pyNext_enum_endD (Draws.tuple (A := X.A.in1) (show X.A.in1.handled = none from I.ok.hd hc) it a hai its.toArray) he (by rw [hs]; exact ⟨hit, p⟩) fun h' eb => ⟨rfl, I.turned (t' := s.toks) (fun b o hb q => eb b o hb q) f0 f1 f3 f4 f5⟩
  self := fun A i s Q E st h => let ⟨⟨_, he⟩, _⟩ := st; wpAny_pyIter_enum he h
def iEnumT (K : PySem.W.Frag) (ta : TA) : TI := fun σ H R => ta σ H fun vs H1 => ∃ a xs, vs = [.ref a] ∧ SqT K H1 a xs ∧ R (Itet K a) H1
theorem pi_enumT {X : Cx} {e : Expr} {ta : TA} {p pos tpos : Pos} {elts : List Expr} {kk : Nat} (hg : Gl X "enumerate") (hm : X.mg "enumerate" = none) (ha : PA X [e] ta) (hs : starEach [e] X.env = [(false, eval e X.env)] := by rfl) :
    PI X (.Tuple elts kk tpos) (.Call (.Name "enumerate" p) [e] [] pos) (iEnumT X.K ta) := by
  refine ⟨fun pins s σ H R I h => ?_⟩
  refine Call_ (ld_blt I hg hm boot_enumerate (PyProof.Rows.callWith_type1 (thn (ha.run pos pins s σ H _ I h) fun us s1 ⟨vs, H1, I1, r1, q1⟩ => ?_) hs rfl))
  obtain ⟨a, xs, ex, hq, q⟩ := q1
  subst ex
  cases r1 with
  | cons r rr =>
    cases rr
    cases r
    obtain ⟨its, rv, p', hz⟩ := I1.tuple hq
    have hal : a < s1.heap.objs.size := IsTup.lt p'
    refine enumT_call (show s1.heap.IsTuple a its.toArray from p') fun h' he hit hk => wpAny_pyIter_enum he ?_
    have I2 : Inv X pins σ H1 { s1 with heap := h' } := I1.kept (t' := s1.toks) hk
    refine ⟨s1.heap.objs.size + 1, [s1.heap.objs.size + 1, s1.heap.objs.size], _, _, H1, rfl, I2, turn_enumT a (s1.heap.objs.size + 1) s1.heap.objs.size, ⟨⟨.none, he⟩, hit, Nat.succ_ne_self _, Nat.ne_of_lt hal, Nat.ne_of_lt (Nat.lt_succ_of_lt hal)⟩, fun b hb => ?_, q⟩
    have hle : s1.heap.objs.size ≤ b := by
      rcases (show b = s1.heap.objs.size + 1 ∨ b = s1.heap.objs.size by simpa using hb) with z | z
      · rw [z]; exact Nat.le_add_right _ _
      · rw [z]; exact Nat.le_refl _
    exact I1.fpOk hle (I1.hok.fresh hle)
theorem walk_enumT {K : PySem.W.Frag} {a : Addr} {xs : List V} : Walk (Itet K a) xs.length (fun H => SqT K H a xs) (YPair (fun i => some (.int (i : Nat))) (fun i => xs[i]?)) := by
  refine ⟨fun i _ hi q => ⟨xs, xs[i], q, by simp [hi]⟩, fun _ q => ⟨xs, q, rfl⟩, fun i H v H' _ q y => ?_⟩
  obtain ⟨T, x, h1, h2, h3, h4⟩ := y
  exact ⟨T, .int (i : Nat), x, h1, h2, h3, rfl, h4 xs q⟩
end GX
set_option Elab.async false
set_option linter.all false
set_option maxRecDepth 100000
set_option maxHeartbeats 4000000
/-! t[::-1] of a tuple. -/
namespace GX
open PySem PySem.Spec PyProof.Rows L2 HT
end GX
set_option Elab.async false
set_option linter.all false
set_option maxRecDepth 100000
set_option maxHeartbeats 4000000
/-! A tuple times an int of one or more. -/
namespace GX
open PySem PySem.Spec PyProof.Rows L2
open AutoSeq1 (wpAny_loadPart')
end GX
set_option Elab.async false
set_option linter.all false
set_option maxRecDepth 100000
set_option maxHeartbeats 4000000
/-! set(xs) of whole numbers, xs a list or a tuple; sorted of it. -/
namespace GX
open PySem PySem.Spec PyProof.Rows L2
/-- a set as it is made, empty -/
def fset (w : World) : Obj := { cls := .type "set", dict := none, data := .set #[] 0 (.fresh 0 0 (!w.params.followText "set-order")) }
section
variable {P : Program} {w : World} {A : Around} {E : Value → Shared → Prop} {s : Shared}
/-- what set(l) leaves: the set of ns at the next address -/
def Left (w : World) (s : Shared) (ns : List Int) (r : Value) (t : Shared) : Prop :=
  r = .none ∧ ∃ g tk c, t = { s with heap := g, toks := tk } ∧ SetR w g s.heap.objs.size (fun j => decide (j ∈ ns)) c ∧ c ≤ ns.length ∧ ∀ b o, s.heap.get? b = some o → g.get? b = some o
theorem init_list {l : Addr} {its : Array Value} {ns : List Int} (hh : A.handled = none) (hl : s.heap.IsList l its) (hi : IntsAre its.toList ns) (hb : ns.length + 1 < scanBound) :
    codeAny (model P w) A (.call (.builtin "set.__init__") ⟨[.ref s.heap.objs.size, .ref l], []⟩) (wants (Left w s ns) E) { s with heap := s.heap.push (fset w) } := by
  have eN : its.size = ns.length := by
    have z := IntsAre.length hi
    rwa [Array.length_toList] at z
  have atS : (s.heap.push (fset w)).get? s.heap.objs.size = some (fset w) := Heap.get?_push_size _ rfl
  refine codeAny_call_builtin F.called_set.init.plain F.entry_set_init (check_set_init_1 ⟨_, atS, rfl⟩ ?_)
  obtain ⟨⟨k1, k2, k3, k4⟩, hol, e1, m, e2⟩ := hl
  dsimp only at e1 e2
  subst e1
  subst e2
  have on : (s.heap.push (fset w)).get? l = some ⟨.type "list", k2, .seq its m, k4⟩ := Heap.get?_push_of_some _ hol
  have u1 := F.sub_list_set
  have u2 := F.sub_list_frozenset
  have u3 : (Value.type "list" == Value.type "dict") = false := by decide
  have isL : (s.heap.push (fset w)).IsList l its := ⟨_, on, rfl, m, rfl⟩
  unfold Builtin.«set.__init__» noKeywords Builtin.Frozenset.updateFrom
  generalize eP : pyIter = PI
  wp_walk
  subst eP
  refine wpAny_pyIter_list isL (wpAny_bind (wpAny_runValue ?_))
  have lt : l < s.heap.objs.size := Heap.lt_size hol
  have zz : (s.heap.push (fset w)).objs.size = s.heap.objs.size + 1 := Heap.size_push ..
  have ne1 : l ≠ (s.heap.push (fset w)).objs.size := by rw [zz]; exact Nat.ne_of_lt (Nat.lt_succ_of_lt lt)
  have ne2 : s.heap.objs.size ∉ [(s.heap.push (fset w)).objs.size, l] := by
    intro z
    rcases List.mem_cons.mp z with z | z
    · rw [zz] at z
      exact Nat.ne_of_lt (Nat.lt_succ_self _) z
    · exact Nat.ne_of_gt lt (List.mem_singleton.mp z)
  have vals : ∀ (i : Nat) (v : Value), its[i]? = some v → ∃ k t, ns[i]? = some k ∧ v = .int k t := fun i v hv => by
    have hlt : i < ns.length := by rw [← eN]; exact (Array.getElem?_eq_some_iff.mp hv).1
    obtain ⟨t, e⟩ := IntsAre.int_at hi i v (by rw [Array.getElem?_toList]; exact hv)
    refine ⟨ns[i], t, List.getElem?_eq_getElem hlt, e.trans ?_⟩
    show Value.int (ns.getD i 0) t = _
    rw [List.getD_eq_getElem?_getD, List.getElem?_eq_getElem hlt]
    rfl
  have h3 : A.in1.in1.handled = none := by simp [hh]
  refine set_update_ints (Walks.list h3 _ l ne1 its).toS s.heap.objs.size ne2 ns eN hb vals (its.size - 0) 0 _ (by omega) (Nat.zero_le _) ?st ?s0 ?rest
  case st => exact ⟨⟨_, Heap.get?_push_size _ rfl, rfl, rfl⟩, isL.push _⟩
  case s0 => exact ⟨0, Nat.le_refl 0, setR_new_at (Heap.get?_push_of_some _ atS)⟩
  intro t c mv hc hS
  obtain ⟨h', g2, d2, tk, o2⟩ := t
  obtain rfl : g2 = s.gens := mv.gens
  obtain rfl : d2 = s.drawn := mv.drawn
  obtain rfl : o2 = s.os := mv.os
  show wpAny _ _ _ _ _ _
  refine wpAny_pure ?_
  show wpAny _ _ (ret Value.none) _ _ _
  refine wpAny_pure ⟨rfl, h', tk, c, rfl, hS, by omega, fun b o e => ?_⟩
  have lb : b < s.heap.objs.size := Heap.lt_size e
  refine mv.heap b o (fun z => ?_) (Heap.get?_push_of_some _ (Heap.get?_push_of_some _ e))
  rcases List.mem_cons.mp z with z | z
  · exact Nat.ne_of_lt lb z
  · have z' := List.mem_singleton.mp z
    rw [zz] at z'
    exact Nat.ne_of_lt (Nat.lt_succ_of_lt lb) z'
theorem call_set_of {l : Addr} {ns : List Int} {Q : Value → Shared → Prop}
    (hin : codeAny (model P w) A.in1 (.call (.builtin "set.__init__") ⟨[.ref s.heap.objs.size, .ref l], []⟩) (wants (Left w s ns) E) { s with heap := s.heap.push (fset w) })
    (h : ∀ g tk c, SetR w g s.heap.objs.size (fun j => decide (j ∈ ns)) c → c ≤ ns.length → (∀ b o, s.heap.get? b = some o → g.get? b = some o) → Q (.ref s.heap.objs.size) { s with heap := g, toks := tk }) :
    wpAny (model P w) A (call (.type "set") [.ref l]) Q E s := by
  obtain ⟨c, tl, q1⟩ := F.called_set.mro
  have q2 := F.called_set.made
  have q3 := F.called_set.sub
  refine wpAny_call (codeAny_of_tree ?_)
  show wpAny _ _ (callAny (.type "set") ⟨[.ref l], []⟩) _ _ s
  refine wpAny_pure ⟨Code.quiet_builtin _ (by decide +kernel), codeAny_builtin F.entry_type_call ?_⟩
  rw [Around.under_plain (weight_type_call_type "set" [.ref l] []) rfl]
  have q4 := F.called_set.notType
  have q5 := F.called_set.canCreate
  have q6 := F.typeCall_set_1 (.ref l)
  repeat (any_goals (first | assumption | wp_step))
  refine codeAny_mono (code_set_led1 (.ref l) (E := E) (Q₁ := fun v t => v = .ref s.heap.objs.size ∧ t = { s with heap := s.heap.push (fset w) }) ⟨rfl, rfl⟩) fun r t hr => ?_
  cases r with
  | error e => exact hr
  | ok f =>
    cases f with
    | ret v =>
      obtain ⟨rfl, rfl⟩ := hr
      have q7 : Shared.TypeIs { s with heap := s.heap.push (fset w) } (.ref s.heap.objs.size) "set" := ⟨fset w, Heap.get?_push_size _ rfl, rfl⟩
      have q8 := F.called_set.init.lookup
      have q9 := F.called_set.init.bind (.ref s.heap.objs.size)
      repeat (any_goals (first | assumption | wp_step))
      refine codeAny_mono hin fun r2 t2 hr2 => ?_
      cases r2 with
      | error e => exact hr2
      | ok f2 =>
        cases f2 with
        | ret v2 =>
          obtain ⟨rfl, g, tk, c2, rfl, k1, k2, k3⟩ := hr2
          repeat (any_goals (first | assumption | wp_step))
          exact h g tk c2 k1 k2 k3
        | _ => exact hr2.elim
    | _ => exact hr.elim
theorem set_of_list {l : Addr} {its : Array Value} {ns : List Int} {Q : Value → Shared → Prop} (hh : A.handled = none) (hl : s.heap.IsList l its) (hi : IntsAre its.toList ns) (hb : ns.length + 1 < scanBound)
    (h : ∀ g tk c, SetR w g s.heap.objs.size (fun j => decide (j ∈ ns)) c → c ≤ ns.length → (∀ b o, s.heap.get? b = some o → g.get? b = some o) → Q (.ref s.heap.objs.size) { s with heap := g, toks := tk }) :
    wpAny (model P w) A (call (.type "set") [.ref l]) Q E s := call_set_of (init_list (by simp [hh]) hl hi hb) h
end
/-- set(xs) -/
def rSetN (K : PySem.W.Frag) (w : World) : List V → Hp → VK → Prop := fun xs H Q => ∃ (p : Addr) (ns : List Nat), xs = [.ref p] ∧ (SqL K H p (ns.map nV) ∨ SqT K H p (ns.map nV)) ∧ ns.length ≤ 60 ∧
  ∀ (q : Addr) (c : Nat), H q = none → c ≤ ns.length → Q (.ref q) (upd H q (SetO w q (fun j => decide (j ∈ ns.map fun n : Nat => (n : Int))) c))
theorem vals_n : ∀ {ns : List Nat} {us : List Value}, Vals (ns.map nV) us → IntsAre us (ns.map fun n : Nat => (n : Int))
  | [], _, .nil => .nil
  | n :: ns, _, .cons r t => by
    obtain ⟨k, rfl⟩ := r
    exact .cons n k (vals_n t)
theorem cr_setN {X : Cx} (hc : X.calm = true) : CallR X (.type "set") (rSetN X.K X.w) := by
  intro pins s σ H xs us Q I r h
  obtain ⟨p, ns, rfl, hq, hn, q⟩ := h
  rw [Vals.ref1 r]
  have hln : (ns.map fun n : Nat => (n : Int)).length = ns.length := List.length_map ..
  have hb : (ns.map fun n : Nat => (n : Int)).length + 1 < scanBound := by rw [hln]; unfold scanBound; omega
  have fin : ∀ (g : Heap) (tk c : Nat), SetR X.w g s.heap.objs.size (fun j => decide (j ∈ ns.map fun n : Nat => (n : Int))) c → c ≤ (ns.map fun n : Nat => (n : Int)).length → (∀ b o, s.heap.get? b = some o → g.get? b = some o) →
      EP X pins σ Q (.ref s.heap.objs.size) { s with heap := g, toks := tk } := fun g tk c hS hcl hk =>
    ⟨.ref s.heap.objs.size, _, I.laid (t' := tk) (o := SetO X.w s.heap.objs.size (fun j => decide (j ∈ ns.map fun n : Nat => (n : Int))) c) hk (Nat.le_refl _) (setO_new hS), rfl, q _ _ (I.hok.fresh (Nat.le_refl _)) (by rw [← hln]; exact hcl)⟩
  rcases hq with hq | hq
  · obtain ⟨its, rv, p1, _⟩ := I.list hq
    exact set_of_list (I.ok.hd hc) p1.isList (by simpa using vals_n rv) hb fin
  · obtain ⟨its, rv, p1, _⟩ := I.tuple hq
    exact call_set_tupI _ (I.ok.hd hc) p1 (by simpa using vals_n rv) hb fin
/-- sorted(set(xs)): the unlike ones, rising -/
theorem sorted_set_nat {ns : List Nat} {out : List Int} (pw : out.Pairwise (· < ·)) (hm : ∀ k : Int, k ∈ out ↔ decide (k ∈ ns.map fun n : Nat => (n : Int)) = true) : ∃ ys : List Nat, out = (ys.map fun n : Nat => (n : Int)) ∧ ys.Pairwise (· < ·) ∧ ∀ z, z ∈ ys ↔ z ∈ ns := by
  have hm' : ∀ k : Int, k ∈ out ↔ k ∈ ns.map fun n : Nat => (n : Int) := fun k => (hm k).trans decide_eq_true_iff
  have hnn : ∀ i ∈ out, 0 ≤ i := fun i hi => by
    obtain ⟨x, _, rfl⟩ := List.mem_map.mp ((hm' i).mp hi)
    omega
  refine ⟨out.map Int.toNat, ?_, ?_, fun z => ⟨fun h => ?_, fun h => ?_⟩⟩
  · rw [List.map_map]
    conv => lhs; rw [← List.map_id out]
    refine List.map_congr_left fun i hi => ?_
    show i = ((i.toNat : Nat) : Int)
    rw [Int.toNat_of_nonneg (hnn i hi)]
  · rw [List.pairwise_map]
    refine List.Pairwise.imp_of_mem (fun {a b} ha hb h => ?_) pw
    have := hnn a ha
    have := hnn b hb
    omega
  · obtain ⟨i, hi, rfl⟩ := List.mem_map.mp h
    obtain ⟨x, hx, rfl⟩ := List.mem_map.mp ((hm' i).mp hi)
    rw [Int.toNat_natCast]
    exact hx
  · exact List.mem_map.mpr ⟨(z : Int), (hm' _).mpr (List.mem_map.mpr ⟨z, h, rfl⟩), Int.toNat_natCast z⟩
end GX
set_option Elab.async false
set_option linter.all false
set_option maxRecDepth 100000
set_option maxHeartbeats 4000000
/-! sorted(l), l a list of tuples of ints, of any lengths from 1 on. -/
namespace GX
open PySem PySem.Spec PyProof.Rows L2 Srt
open SrtO (Cmp SortableO lt2 Srtd Stb)
section
variable {prog : Program} {w : World} {A : Around} {E : Value → Shared → Prop} {s : Shared}
theorem lex_any {b R fin : Bool} : ∀ {xs ys : List Value} {ns ms : List Int} (i : Nat), IntsAre xs ns → IntsAre ys ms → fin = decide (ns.length < ms.length) → R = HT.lexLt ns ms → PySem.W.KatLex prog w A b fin (fun r s' => s' = s ∧ r = R) (xs.zip ys) i s
  | _, _, _, _, i, .nil, hy, hf, hR => by
    rw [List.zip_nil_left]
    refine PySem.W.kat_nil ⟨rfl, ?_⟩
    rw [hf, hR]
    cases hy with
    | nil => rfl
    | cons m u r => rfl
  | _, _, _, _, i, .cons n t r, hy, hf, hR => by
    cases hy with
    | nil =>
      rw [List.zip_nil_right]
      refine PySem.W.kat_nil ⟨rfl, ?_⟩
      rw [hf, hR]
      rfl
    | cons m u r' =>
      rw [List.zip_cons_cons]
      refine PySem.W.kat_cons (SeqAt.EqAt.int_int n t m u prog w _ _ ?_)
      rw [HT.lexLt_cons] at hR
      refine PySem.W.kat_go (fun e1 => ?_) (fun e1 => ?_)
      · have ex : n = m := by simpa using e1
        rw [if_pos ex] at hR
        refine PySem.W.kat_yes (lex_any (i + 1) r r' ?_ hR)
        rw [hf]
        exact decide_eq_decide.mpr ⟨Nat.lt_of_succ_lt_succ, Nat.succ_lt_succ⟩
      · have ex : ¬ n = m := by simpa using e1
        rw [if_neg ex] at hR
        exact PySem.W.kat_no (TS.oneLt_ints _ ⟨rfl, hR.symm⟩)
theorem tups_cmp {vs : List Value} {k : Value → List Int} (hp : ∀ v ∈ vs, TS.TupInts s.heap v (k v)) : Cmp prog w A s (tuples' true) (fun p => p.1 ∈ vs) (lt2 fun v u => HT.lexLt (k v) (k u)) := by
  intro p q hm hm'
  obtain ⟨a, xs, e, ⟨o, ho, hc, n, hd⟩, hi⟩ := hp _ hm
  obtain ⟨a', ys, e', ⟨o', ho', hc', n', hd'⟩, hi'⟩ := hp _ hm'
  show wpAny (model prog w) A (keyLt' (tuples' true) p.1 q.1) (fun r s' => s' = s ∧ r = HT.lexLt (k p.1) (k q.1)) (fun _ _ => False) s
  generalize k p.1 = ns at hi ⊢
  generalize k q.1 = ms at hi' ⊢
  rw [e, e']
  refine PySem.W.kat_lt ho hd ho' hd' (lex_any 0 hi hi' ?_ rfl)
  have z1 : xs.size = ns.length := by rw [← hi.length]; simp
  have z2 : ys.size = ms.length := by rw [← hi'.length]; simp
  rw [z1, z2]
theorem tups_firsts {h : Heap} {k : Value → List Int} : ∀ {vs : List Value}, (∀ v ∈ vs, TS.TupInts h v (k v) ∧ k v ≠ []) → ∃ fs, PySem.W.KatTups h vs fs ∧ fs.length = vs.length ∧ ∀ f ∈ fs, ∃ x t, f = Value.int x t
  | [], _ => ⟨[], PySem.W.KatTups.nil, rfl, fun f hf => absurd hf (by simp)⟩
  | v :: vs, hp => by
    obtain ⟨fs, h1, h2, h3⟩ := tups_firsts fun u hu => hp u (List.mem_cons_of_mem _ hu)
    obtain ⟨⟨a, xs, e, ⟨o, ho, hc, n, hd⟩, hi⟩, hne⟩ := hp v List.mem_cons_self
    cases hk : k v with
    | nil => exact absurd hk hne
    | cons x r =>
      rw [hk] at hi
      generalize hxs : xs.toList = l at hi
      cases hi with
      | cons n0 t0 r0 =>
        have h0 : xs[0]? = some (Value.int x t0) := by
          have : xs.toList[0]? = some (Value.int x t0) := by rw [hxs]; rfl
          simpa using this
        subst e
        refine ⟨Value.int x t0 :: fs, PySem.W.KatTups.cons ho hc hd h0 h1, by rw [List.length_cons, List.length_cons, h2], fun f hf => ?_⟩
        rcases List.mem_cons.mp hf with rfl | hf
        · exact ⟨_, _, rfl⟩
        · exact h3 f hf
theorem tups_sortable {a : Addr} {vs : List Value} {k : Value → List Int} (h0 : 0 < vs.length) (hp : ∀ v ∈ vs, TS.TupInts s.heap v (k v) ∧ k v ≠ []) (ha : ∀ o, s.heap.get? a = some o → o.cls ≠ .type "tuple") : SortableO prog w A s a vs fun v u => HT.lexLt (k v) (k u) := by
  intro h' keep
  have hp' : ∀ v ∈ vs, TS.TupInts h' v (k v) ∧ k v ≠ [] := fun v hm => ⟨(hp v hm).1.keeps fun b o e c => keep b o (fun z => by subst z; exact ha o e c) e, (hp v hm).2⟩
  obtain ⟨fs, h1, h2, h3⟩ := tups_firsts hp'
  refine ⟨tuples' true, fun Q E hq => ?_, tups_cmp fun v hv => (hp' v hv).1⟩
  refine PySem.W.kat_kind (T := .type "int") h1 (by omega) (fun f hm => ?_) (by rfl) ?_
  · obtain ⟨x, t, rfl⟩ := h3 f hm
    exact PySem.W.Looks.now
  · have e : (Value.type "int" != Value.type "tuple") = true := by first | decide +kernel | rfl | decide
    rw [e]
    exact hq
end
def rSortTup (K : PySem.W.Frag) : List V → Hp → VK → Prop := fun vs H Q => ∃ (a : Addr) (xs : List V) (k : V → List Int), vs = [V.ref a] ∧ SqL K H a xs ∧ (∀ x ∈ xs, (∃ t, x = V.ref t ∧ H t = some (.tup ((k x).map V.int))) ∧ k x ≠ []) ∧
  ∀ ys p, Srtd (fun x y => HT.lexLt (k x) (k y)) ys → ys.Perm xs → H p = none → Q (.ref p) (upd H p (.lst ys))
theorem cr_sortTup {X : Cx} : CallR X (.builtin "sorted") (rSortTup X.K) := by
  intro pins s σ H vs us Q I r h
  obtain ⟨a, xs, k, rfl, hs, hx, q⟩ := h
  obtain ⟨its, rv, hl, hz⟩ := I.list hs
  rw [Vals.ref1 r]
  obtain ⟨e1, e2⟩ := refs_back rv fun x m => by
    obtain ⟨⟨t, e, _⟩, _⟩ := hx x m
    exact ⟨t, e⟩
  have hp : ∀ v ∈ its, TS.TupInts s.heap v (k (backV v)) ∧ k (backV v) ≠ [] := fun v hv => by
    obtain ⟨t, rfl⟩ := e2 v hv
    have hm : V.ref t ∈ xs := by rw [e1]; exact List.mem_map.mpr ⟨_, hv, rfl⟩
    obtain ⟨⟨t', e, ht⟩, hne⟩ := hx _ hm
    cases e
    exact ⟨tupI_raw I (SqT.of ht), hne⟩
  refine SrtO.sorted_ord (ltv := fun v u => HT.lexLt (k (backV v)) (k (backV u))) (NtL.swo_lexL fun v => k (backV v)) hl.isList (by rw [← rv.length]; exact hz) (fun h2 h₁ a' ha kk => ?_) fun out hs hb => ?_
  · refine tups_sortable (s := { s with heap := h₁ }) (by omega) (fun v hm => ⟨(hp v hm).1.keeps fun b o e _ => (kk b o e).2, (hp v hm).2⟩) fun o e => ?_
    have e' : some o = some (seqObj "list" its.toArray 0) := e.symm.trans ha
    cases e'
    intro c
    exact absurd (Value.type.inj c) (by decide)
  · obtain ⟨ep, he'⟩ := PyProof.Rows.sortedAll_at s.heap its out.toArray
    have h3 : ∀ u ∈ out, ∃ a, u = Value.ref a := fun u hu => e2 u (hb.perm.mem_iff.mp hu)
    have hpm : (out.map backV).Perm xs := by
      rw [e1]
      exact hb.perm.map backV
    have hlen : (out.map backV).length ≤ sizeLine := by
      rw [hpm.length_eq]
      exact hz
    exact ⟨.ref _, upd H (s.heap.objs.size + 1) (.lst (out.map backV)), I.laid (t' := s.toks) (fun _ _ => PyProof.Rows.sortedAll_old) (Nat.le_succ _) ⟨hlen, out, ep, vals_back h3, he'⟩, rfl, q _ _ (SrtO.srtd_map hs) hpm (I.hok.fresh (Nat.le_succ _))⟩
end GX
set_option Elab.async false
set_option linter.all false
set_option maxRecDepth 100000
set_option maxHeartbeats 4000000
/-! What leads from a wire down, past no stop. -/
namespace GX
open PySem PySem.Spec PyProof.Rows L2
inductive Rc (n : Net) (st : List Nat) (w j : Nat) : Nat → Prop
  | here : w ∉ st → Rc n st w j w
  | step {g p : Nat} {k : Nat × Nat × Nat} : Rc n st w j g → n.many ≤ g → j ≤ g → n.gates[g - n.many]? = some k → (p = k.2.1 ∨ p = k.2.2) → p ∉ st → Rc n st w j p
theorem place_lt {n : Net} (ok : n.Ok) {g p : Nat} {k : Nat × Nat × Nat} (hg : n.many ≤ g) (hk : n.gates[g - n.many]? = some k) (hp : p = k.2.1 ∨ p = k.2.2) : p < g := by
  obtain ⟨_, h1, h2⟩ := ok.gs _ _ hk
  rcases hp with rfl | rfl <;> omega
theorem Rc.le {n : Net} (ok : n.Ok) {st : List Nat} {w j y : Nat} (h : Rc n st w j y) : y ≤ w := by
  induction h with
  | here _ => exact Nat.le_refl _
  | step _ hg _ hk hp _ ih => exact Nat.le_trans (Nat.le_of_lt (place_lt ok hg hk hp)) ih
theorem Rc.free {n : Net} {st : List Nat} {w j y : Nat} (h : Rc n st w j y) : y ∉ st := by cases h <;> assumption
theorem Rc.mono {n : Net} {st : List Nat} {w j i y : Nat} (h : Rc n st w j y) (l : i ≤ j) : Rc n st w i y := by
  induction h with
  | here e => exact .here e
  | step _ hg hj hk hp hs ih => exact .step ih hg (Nat.le_trans l hj) hk hp hs
theorem Rc.low {n : Net} {st : List Nat} {w j y : Nat} (h : Rc n st w j y) : Rc n st w n.many y := by
  induction h with
  | here e => exact .here e
  | step _ hg hj hk hp hs ih => exact .step ih hg hg hk hp hs
theorem Rc.low_iff {n : Net} {st : List Nat} {w j y : Nat} (l : j ≤ n.many) : Rc n st w j y ↔ Rc n st w n.many y := ⟨Rc.low, fun h => h.mono l⟩
theorem Rc.down {n : Net} (ok : n.Ok) {st : List Nat} {w g y : Nat} {k : Nat × Nat × Nat} (hg : n.many ≤ g) (hk : n.gates[g - n.many]? = some k) :
    Rc n st w g y ↔ Rc n st w (g + 1) y ∨ (Rc n st w (g + 1) g ∧ (y = k.2.1 ∨ y = k.2.2) ∧ y ∉ st) := by
  refine ⟨fun h => ?_, fun h => ?_⟩
  · induction h with
    | here e => exact .inl (.here e)
    | @step g' p k' h1 hg' hj hk' hp hs ih =>
      by_cases e : g' = g
      · subst e
        have ek : k' = k := by
          rw [hk] at hk'
          exact (Option.some.inj hk').symm
        subst ek
        rcases ih with ih | ⟨_, ih, _⟩
        · exact .inr ⟨ih, hp, hs⟩
        · exact absurd (place_lt ok hg hk ih) (Nat.lt_irrefl _)
      · rcases ih with ih | ⟨_, ih, _⟩
        · exact .inl (.step ih hg' (by omega) hk' hp hs)
        · have := place_lt ok hg hk ih
          omega
  · rcases h with h | ⟨h, hp, hs⟩
    · exact h.mono (Nat.le_succ g)
    · exact .step (h.mono (Nat.le_succ g)) hg (Nat.le_refl _) hk hp hs
/-- an input, or below the last gate: nothing goes on above -/
theorem Rc.high {n : Net} (ok : n.Ok) {st : List Nat} {w y : Nat} : Rc n st w (w + 1) y ↔ y = w ∧ w ∉ st := by
  refine ⟨fun h => ?_, fun h => by rw [h.1]; exact .here h.2⟩
  cases h with
  | here e => exact ⟨rfl, e⟩
  | step h1 hg hj hk hp hs =>
    have := h1.le ok
    omega
theorem inV_n (x : Nat) (st : List Nat) : inV (nV x) (st.map nV) = decide (x ∈ st) := by
  unfold inV
  rw [List.any_map]
  induction st with
  | nil => rfl
  | cons y r ih =>
    rw [List.any_cons, ih]
    have e : ((fun y => eqV y (nV x)) ∘ nV) y = decide (x = y) := by
      show eqV (nV y) (nV x) = decide (x = y)
      unfold eqV
      by_cases h : x = y
      · subst h
        rw [decide_eq_true (rfl : x = x)]
        exact decide_eq_true rfl
      · rw [decide_eq_false h]
        refine decide_eq_false fun z => h ?_
        have z' : ((y : Nat) : Int) = (x : Int) := z
        omega
    rw [e, ← Bool.decide_or]
    congr 1
    exact propext List.mem_cons.symm
theorem flat_ns (st : List Nat) : (st.map nV).all flatV = true := by
  rw [List.all_map, List.all_eq_true]
  intro x _
  rfl
theorem ix_n {len x : Nat} (h : x < len) : ixN len (x : Int) = some x := by
  have e := atI_nat (xs := List.range len) (j := x) (v := x) (by rw [List.getElem?_range h])
  unfold atI at e
  rw [List.length_range] at e
  cases q : ixN len (x : Int) with
  | none => rw [q] at e; cases e
  | some j =>
    rw [q] at e
    have e' : (List.range len)[j]? = some x := e
    obtain ⟨h1, h2⟩ := List.getElem?_eq_some_iff.mp e'
    rw [List.getElem_range] at h2
    rw [h2]
/-- rising, unlike: told by its members -/
theorem rise_eq : ∀ {xs ys : List Nat}, xs.Pairwise (· < ·) → ys.Pairwise (· < ·) → (∀ z, z ∈ xs ↔ z ∈ ys) → xs = ys
  | [], [], _, _, _ => rfl
  | [], y :: ys, _, _, h => by cases (h y).mpr List.mem_cons_self
  | x :: xs, [], _, _, h => by cases (h x).mp List.mem_cons_self
  | x :: xs, y :: ys, hx, hy, h => by
    have hx1 := List.pairwise_cons.mp hx
    have hy1 := List.pairwise_cons.mp hy
    have e : x = y := by
      rcases List.mem_cons.mp ((h x).mp List.mem_cons_self) with e | e
      · exact e
      · rcases List.mem_cons.mp ((h y).mpr List.mem_cons_self) with e' | e'
        · exact e'.symm
        · have := hy1.1 _ e
          have := hx1.1 _ e'
          omega
    subst e
    refine congrArg _ (rise_eq hx1.2 hy1.2 fun z => ⟨fun hz => ?_, fun hz => ?_⟩)
    · rcases List.mem_cons.mp ((h z).mp (List.mem_cons_of_mem _ hz)) with e | e
      · have := hx1.1 _ hz
        omega
      · exact e
    · rcases List.mem_cons.mp ((h z).mpr (List.mem_cons_of_mem _ hz)) with e | e
      · have := hy1.1 _ hz
        omega
      · exact e
/-- the wires reached, rising -/
def Rset (n : Net) (st : List Nat) (w : Nat) (xs : List Nat) : Prop := xs.Pairwise (· < ·) ∧ ∀ y, y ∈ xs ↔ Rc n st w n.many y
theorem Rset.eq {n : Net} {st : List Nat} {w : Nat} {xs ys : List Nat} (a : Rset n st w xs) (b : Rset n st w ys) : xs = ys := rise_eq a.1 b.1 fun z => (a.2 z).trans (b.2 z).symm
/-- marks -/
def MarkOk (n : Net) (st : List Nat) (w j : Nat) (ms : List Bool) : Prop := ms.length = n.many + n.gates.length ∧ ∀ y, y < ms.length → (ms.getD y false = true ↔ Rc n st w j y)
theorem getD_set {ms : List Bool} {i y : Nat} {b : Bool} (h : i < ms.length) : (ms.set i b).getD y false = if y = i then b else ms.getD y false := by
  rw [List.getD_eq_getElem?_getD, List.getD_eq_getElem?_getD]
  by_cases e : y = i
  · subst e
    rw [if_pos rfl, List.getElem?_set_self h]
    rfl
  · rw [if_neg e, List.getElem?_set_ne (fun z => e z.symm)]
theorem mark_at {ms : List Bool} {i : Nat} (h : i < ms.length) : (ms.map V.bl)[i]? = some (.bl (ms.getD i false)) := by
  rw [List.getElem?_map, List.getD_eq_getElem?_getD, List.getElem?_eq_getElem h]
  rfl
def picked (ms : List Bool) : List Nat := (List.range ms.length).filter fun i => ms.getD i false
theorem picked_rise (ms : List Bool) : (picked ms).Pairwise (· < ·) := List.Pairwise.filter _ List.pairwise_lt_range
theorem picked_take (ms : List Bool) (i : Nat) : ((List.range (i + 1)).filter fun i => ms.getD i false) = ((List.range i).filter fun i => ms.getD i false) ++ (if ms.getD i false = true then [i] else []) := by
  rw [List.range_succ, List.filter_append]
  congr 1
  rw [List.filter_cons]
  rfl
theorem mark_set {n : Net} (ok : n.Ok) {st : List Nat} {w : Nat} {ms : List Bool} (hw : w < n.many + n.gates.length) (h : MarkOk n st w n.many ms) : Rset n st w (picked ms) := by
  refine ⟨picked_rise ms, fun y => ?_⟩
  unfold picked
  rw [List.mem_filter, List.mem_range]
  refine ⟨fun ⟨h1, h2⟩ => (h.2 y h1).mp h2, fun r => ?_⟩
  have := r.le ok
  have hl : y < ms.length := by rw [h.1]; omega
  exact ⟨hl, (h.2 y hl).mpr r⟩
theorem mark_down {n : Net} (ok : n.Ok) {st : List Nat} {w g : Nat} {k : Nat × Nat × Nat} {ms : List Bool} (hg : n.many ≤ g) (hk : n.gates[g - n.many]? = some k) (h : MarkOk n st w (g + 1) ms) (hm : ms.getD g false = true) :
    MarkOk n st w g ((ms.set k.2.1 (!decide (k.2.1 ∈ st))).set k.2.2 (!decide (k.2.2 ∈ st))) := by
  have hgl : g < ms.length := by
    rw [h.1]
    have := (List.getElem?_eq_some_iff.mp hk).1
    omega
  have p1 := place_lt ok hg hk (.inl rfl)
  have p2 := place_lt ok hg hk (.inr rfl)
  have rg := (h.2 g hgl).mp hm
  have flip : ∀ y, (y = k.2.1 ∨ y = k.2.2) → ((!decide (y ∈ st)) = true ↔ Rc n st w g y) := fun y hy => by
    rw [Rc.down ok hg hk]
    by_cases e : y ∈ st
    · rw [decide_eq_true e]
      refine ⟨fun z => (by cases z), fun z => ?_⟩
      rcases z with z | ⟨_, _, z⟩
      · exact absurd e z.free
      · exact absurd e z
    · rw [decide_eq_false e]
      exact ⟨fun _ => .inr ⟨rg, hy, e⟩, fun _ => rfl⟩
  refine ⟨by rw [List.length_set, List.length_set]; exact h.1, fun y hy => ?_⟩
  rw [List.length_set, List.length_set] at hy
  rw [getD_set (by rw [List.length_set]; omega)]
  by_cases e2 : y = k.2.2
  · rw [if_pos e2, e2]
    exact flip _ (.inr rfl)
  · rw [if_neg e2, getD_set (by omega)]
    by_cases e1 : y = k.2.1
    · rw [if_pos e1, e1]
      exact flip _ (.inl rfl)
    · rw [if_neg e1, h.2 y hy, Rc.down ok hg hk]
      refine ⟨.inl, fun z => ?_⟩
      rcases z with z | ⟨_, z, _⟩
      · exact z
      · rcases z with z | z
        · exact absurd z e1
        · exact absurd z e2
theorem mark_skip {n : Net} (ok : n.Ok) {st : List Nat} {w g : Nat} {k : Nat × Nat × Nat} {ms : List Bool} (hg : n.many ≤ g) (hk : n.gates[g - n.many]? = some k) (h : MarkOk n st w (g + 1) ms) (hm : ¬ ms.getD g false = true) :
    MarkOk n st w g ms := by
  have hgl : g < ms.length := by
    rw [h.1]
    have := (List.getElem?_eq_some_iff.mp hk).1
    omega
  refine ⟨h.1, fun y hy => ?_⟩
  rw [h.2 y hy, Rc.down ok hg hk]
  refine ⟨.inl, fun z => ?_⟩
  rcases z with z | ⟨z, _, _⟩
  · exact z
  · exact absurd ((h.2 g hgl).mpr z) hm
theorem mark_first {n : Net} (ok : n.Ok) {st : List Nat} {w : Nat} (hw : w < n.many + n.gates.length) : MarkOk n st w (w + 1) ((List.replicate (n.many + n.gates.length) false).set w (!decide (w ∈ st))) := by
  refine ⟨by rw [List.length_set, List.length_replicate], fun y hy => ?_⟩
  rw [getD_set (by rw [List.length_replicate]; exact hw), Rc.high ok]
  by_cases e : y = w
  · subst e
    rw [if_pos rfl]
    by_cases h : y ∈ st
    · rw [decide_eq_true h]
      exact ⟨fun z => (by cases z), fun z => absurd h z.2⟩
    · rw [decide_eq_false h]
      exact ⟨fun _ => ⟨rfl, h⟩, fun _ => rfl⟩
  · rw [if_neg e, List.getD_eq_getElem?_getD, List.getElem?_replicate]
    refine ⟨fun z => ?_, fun z => absurd z.1 e⟩
    split at z <;> cases z
/-- ways -/
structure Way (n : Net) (w : Nat) (xs : List Nat) : Prop where
  ne : 0 < xs.length
  lt : ∀ x ∈ xs, x < n.many + n.gates.length
  first : xs.getD 0 0 < n.many
  last : xs.getD (xs.length - 1) 0 = w
  steps : ∀ i, i + 1 < xs.length → n.many ≤ xs.getD (i + 1) 0 ∧ ∃ k, n.gates[xs.getD (i + 1) 0 - n.many]? = some k ∧ (xs.getD i 0 = k.2.1 ∨ xs.getD i 0 = k.2.2)
theorem walk_zipT {K : PySem.W.Frag} {a b : Addr} {xs ys : List V} {n : Nat} (hn : n = min xs.length ys.length) : Walk (RZ.ItzT K a b) n (fun H => SqT K H a xs ∧ SqT K H b ys) (YPair (fun i => xs[i]?) (fun i => ys[i]?)) := by
  subst hn
  refine ⟨fun i _ hi q => ?_, fun _ q => ⟨xs, ys, q.1, q.2, by omega⟩, fun i H v H' _ q y => ?_⟩
  · exact ⟨xs, ys, xs[i]'(by omega), ys[i]'(by omega), q.1, q.2, List.getElem?_eq_getElem _, List.getElem?_eq_getElem _⟩
  · obtain ⟨T, x, z, g1, g2, g3, g4, g5⟩ := y
    exact ⟨T, x, z, g1, g2, g3, g4 xs q.1, g5 ys q.2⟩
end GX
set_option Elab.async false
set_option linter.all false
set_option maxRecDepth 100000
set_option maxHeartbeats 4000000
/-! Lists of the wires reached; ways put together. -/
namespace GX
open PySem PySem.Spec PyProof.Rows L2
theorem nodup_len : ∀ {xs ys : List Nat}, xs.Nodup → (∀ x ∈ xs, x ∈ ys) → xs.length ≤ ys.length
  | [], _, _, _ => Nat.zero_le _
  | x :: xs, ys, h, s => by
    have h1 := List.nodup_cons.mp h
    have hx := s x List.mem_cons_self
    have ih := nodup_len (ys := ys.erase x) h1.2 fun z hz => (List.mem_erase_of_ne (fun e => h1.1 (by rw [← e]; exact hz))).mpr (s z (List.mem_cons_of_mem _ hz))
    rw [List.length_erase_of_mem hx] at ih
    have : 0 < ys.length := List.length_pos_of_mem hx
    rw [List.length_cons]
    omega
theorem nodup_lt {xs : List Nat} {m : Nat} (h : xs.Nodup) (s : ∀ x ∈ xs, x < m) : xs.length ≤ m := by
  have := nodup_len (ys := List.range m) h fun x hx => List.mem_range.mpr (s x hx)
  rwa [List.length_range] at this
theorem nodup_snoc {xs : List Nat} {x : Nat} (h : xs.Nodup) (n : x ∉ xs) : (xs ++ [x]).Nodup := by
  rw [List.nodup_append]
  refine ⟨h, by simp, fun a ha b hb => ?_⟩
  rw [List.mem_singleton.mp hb]
  exact fun e => n (by rw [← e]; exact ha)
theorem getD_pre {xs t : List Nat} {i : Nat} (h : i < xs.length) : (xs ++ t).getD i 0 = xs.getD i 0 := by
  rw [List.getD_eq_getElem?_getD, List.getD_eq_getElem?_getD, List.getElem?_append_left h]
theorem getD_mem {xs : List Nat} {i : Nat} (h : i < xs.length) : xs.getD i 0 ∈ xs := by
  rw [List.getD_eq_getElem?_getD, List.getElem?_eq_getElem h]
  exact List.getElem_mem h
theorem mem_getD {xs : List Nat} {x : Nat} (h : x ∈ xs) : ∃ i, i < xs.length ∧ xs.getD i 0 = x := by
  obtain ⟨i, hi, e⟩ := List.getElem_of_mem h
  exact ⟨i, hi, by rw [List.getD_eq_getElem?_getD, List.getElem?_eq_getElem hi]; exact e⟩
/-- found so far; the first k have been gone on from -/
structure LedOk (n : Net) (st : List Nat) (w : Nat) (xs : List Nat) (k : Nat) : Prop where
  nd : xs.Nodup
  rc : ∀ y ∈ xs, Rc n st w n.many y
  self : w ∉ st → w ∈ xs
  le : k ≤ xs.length
  done : ∀ j, j < k → n.many ≤ xs.getD j 0 → ∀ g, n.gates[xs.getD j 0 - n.many]? = some g → ∀ p, (p = g.2.1 ∨ p = g.2.2) → p ∉ st → p ∈ xs
theorem LedOk.all {n : Net} {st : List Nat} {w : Nat} {xs : List Nat} (h : LedOk n st w xs xs.length) (y : Nat) : y ∈ xs ↔ Rc n st w n.many y := by
  refine ⟨h.rc y, fun r => ?_⟩
  induction r with
  | here e => exact h.self e
  | step _ hg _ hk hp hs ih =>
    obtain ⟨i, hi, e⟩ := mem_getD ih
    exact h.done i hi (by rw [e]; exact hg) _ (by rw [e]; exact hk) _ hp hs
theorem LedOk.short {n : Net} (ok : n.Ok) {st : List Nat} {w : Nat} {xs : List Nat} {k : Nat} (hw : w < n.many + n.gates.length) (h : LedOk n st w xs k) : xs.length ≤ 24 := by
  have := nodup_lt (m := n.many + n.gates.length) h.nd fun x hx => by have := (h.rc x hx).le ok; omega
  have := ok.m8
  have := ok.g16
  omega
def isSt (n : Net) (x y : Nat) : Prop := n.many ≤ y ∧ ∃ k, n.gates[y - n.many]? = some k ∧ (x = k.2.1 ∨ x = k.2.2)
/-- from x (left out) up to w -/
structure Up (n : Net) (x w : Nat) (zs : List Nat) : Prop where
  lt : ∀ z ∈ zs, z < n.many + n.gates.length
  last : (x :: zs).getD zs.length 0 = w
  ch : ∀ i, i + 1 < (x :: zs).length → isSt n ((x :: zs).getD i 0) ((x :: zs).getD (i + 1) 0)
theorem Up.nil (n : Net) (w : Nat) : Up n w w [] := ⟨fun z hz => (by cases hz), rfl, fun i hi => (by simp at hi)⟩
theorem Up.cons {n : Net} {p x w : Nat} {zs : List Nat} (s : isSt n p x) (hx : x < n.many + n.gates.length) (u : Up n x w zs) : Up n p w (x :: zs) := by
  refine ⟨fun z hz => ?_, ?_, fun i hi => ?_⟩
  · rcases List.mem_cons.mp hz with rfl | hz
    · exact hx
    · exact u.lt z hz
  · exact u.last
  · cases i with
    | zero => exact s
    | succ i => exact u.ch i (by simpa using hi)
/-- from some wire down to w, upward -/
structure Down (n : Net) (w : Nat) (xs : List Nat) : Prop where
  ne : 0 < xs.length
  lt : ∀ x ∈ xs, x < n.many + n.gates.length
  last : xs.getD (xs.length - 1) 0 = w
  steps : ∀ i, i + 1 < xs.length → isSt n (xs.getD i 0) (xs.getD (i + 1) 0)
theorem Down.cons {n : Net} {w p : Nat} {xs : List Nat} (d : Down n w xs) (hp : p < n.many + n.gates.length) (s : isSt n p (xs.getD 0 0)) : Down n w (p :: xs) := by
  have h0 := d.ne
  refine ⟨by rw [List.length_cons]; omega, fun x hx => ?_, ?_, fun i hi => ?_⟩
  · rcases List.mem_cons.mp hx with rfl | hx
    · exact hp
    · exact d.lt x hx
  · rw [List.length_cons, show xs.length + 1 - 1 = (xs.length - 1) + 1 by omega]
    exact d.last
  · cases i with
    | zero => exact s
    | succ i => exact d.steps i (by simpa using hi)
theorem getD_post {xs t : List Nat} {i : Nat} (h : xs.length ≤ i) : (xs ++ t).getD i 0 = t.getD (i - xs.length) 0 := by
  rw [List.getD_eq_getElem?_getD, List.getD_eq_getElem?_getD, List.getElem?_append_right h]
theorem Way.join {n : Net} {x w : Nat} {ys zs : List Nat} (a : Way n x ys) (u : Up n x w zs) : Way n w (ys ++ zs) := by
  have h0 := a.ne
  refine ⟨by rw [List.length_append]; omega, fun z hz => ?_, ?_, ?_, fun i hi => ?_⟩
  · rcases List.mem_append.mp hz with hz | hz
    · exact a.lt z hz
    · exact u.lt z hz
  · rw [getD_pre h0]
    exact a.first
  · have ul := u.last
    rw [List.length_append]
    cases zs with
    | nil =>
      rw [List.append_nil, List.length_nil, Nat.add_zero]
      have : x = w := ul
      rw [← this]
      exact a.last
    | cons z r =>
      rw [getD_post (by rw [List.length_cons]; omega), List.length_cons]
      rw [show ys.length + (r.length + 1) - 1 - ys.length = r.length by omega]
      exact ul
  · rw [List.length_append] at hi
    by_cases h1 : i + 1 < ys.length
    · rw [getD_pre h1, getD_pre (by omega)]
      exact a.steps i h1
    · by_cases h2 : i + 1 = ys.length
      · have e : ys.getD i 0 = x := by
          rw [show i = ys.length - 1 by omega]
          exact a.last
        have e1 : (ys ++ zs).getD i 0 = x := by rw [getD_pre (by omega), e]
        have e2 : (ys ++ zs).getD (i + 1) 0 = zs.getD 0 0 := by rw [getD_post (by omega), h2, Nat.sub_self]
        rw [e1, e2]
        cases zs with
        | nil => simp at hi; omega
        | cons z r => exact u.ch 0 (by simp)
      · have e1 : (ys ++ zs).getD i 0 = zs.getD (i - ys.length) 0 := getD_post (by omega)
        have e2 : (ys ++ zs).getD (i + 1) 0 = zs.getD (i + 1 - ys.length) 0 := getD_post (by omega)
        rw [e1, e2]
        have := u.ch (i - ys.length + 1) (by rw [List.length_cons]; omega)
        rw [show i + 1 - ys.length = i - ys.length + 1 by omega]
        exact this
end GX
set_option Elab.async false
set_option linter.all false
set_option maxRecDepth 100000
set_option maxHeartbeats 4000000
/-! Wires that tell a gate: going back from a cut. -/
namespace GX
open PySem PySem.Spec PyProof.Rows L2
theorem Rc.sub {n : Net} {st st' : List Nat} {w j y : Nat} (h : Rc n st' w j y) (s : ∀ z ∈ st, z ∈ st') : Rc n st w j y := by
  induction h with
  | here e => exact .here fun z => e (s _ z)
  | step _ hg hj hk hp hs ih => exact .step ih hg hj hk hp fun z => hs (s _ z)
/-- no input leads past them -/
def Sep (n : Net) (w : Nat) (st : List Nat) : Prop := ∀ y, Rc n st w n.many y → n.many ≤ y
theorem Sep.more {n : Net} {w : Nat} {st st' : List Nat} (h : Sep n w st) (s : ∀ z ∈ st, z ∈ st') : Sep n w st' := fun y r => h y (r.sub s)
theorem sep_first {n : Net} {w : Nat} {st : List Nat} {k : Nat × Nat × Nat} (hw : n.many ≤ w) (hk : n.gates[w - n.many]? = some k) (h : ∀ z, (z = k.2.1 ∨ z = k.2.2) → z ∈ st) : Sep n w st := by
  have all : ∀ y, Rc n st w n.many y → y = w := fun y r => by
    induction r with
    | here _ => rfl
    | step _ _ _ hk' hp hs ih =>
      subst ih
      rw [hk] at hk'
      cases hk'
      exact absurd (h _ hp) hs
  exact fun y r => by rw [all y r]; exact hw
theorem sep_step {n : Net} {w h : Nat} {st st' : List Nat} {k : Nat × Nat × Nat} (sep : Sep n w st) (hws : w ∉ st) (hh : n.many ≤ h) (hk : n.gates[h - n.many]? = some k) (keep : ∀ z ∈ st, z ≠ h → z ∈ st') (pl : ∀ z, (z = k.2.1 ∨ z = k.2.2) → z ∈ st') : Sep n w st' := by
  have all : ∀ y, Rc n st' w n.many y → Rc n st w n.many y ∨ y = h := fun y r => by
    induction r with
    | here _ => exact .inl (.here hws)
    | @step g p k' _ hg hj hk' hp hs ih =>
      rcases ih with ih | ih
      · by_cases e : p ∈ st
        · refine .inr (Classical.not_not.mp fun z => hs (keep p e z))
        · exact .inl (.step ih hg hj hk' hp e)
      · subst ih
        rw [hk] at hk'
        cases hk'
        exact absurd (pl _ hp) hs
  intro y r
  rcases all y r with a | a
  · exact sep y a
  · rw [a]
    exact hh
structure CutOk (n : Net) (gt : Nat) (ys : List Nat) : Prop where
  ne : 0 < ys.length
  lt : ∀ y ∈ ys, y < gt
  sep : Sep n gt ys
  rise : ys.Pairwise (· < ·)
theorem CutOk.short {n : Net} (ok : n.Ok) {gt : Nat} {ys : List Nat} (hg : gt < n.many + n.gates.length) (c : CutOk n gt ys) : ys.length ≤ 24 := by
  have := nodup_lt (m := n.many + n.gates.length) (c.rise.imp fun h => Nat.ne_of_lt h) fun y hy => by have := c.lt y hy; omega
  have := ok.m8
  have := ok.g16
  omega
theorem pos_of_mem {ys : List Nat} {y : Nat} (h : y ∈ ys) : 0 < ys.length := List.length_pos_of_mem h
end GX
set_option Elab.async false
set_option linter.all false
set_option maxRecDepth 100000
set_option maxHeartbeats 4000000
/-! Bits of numbers, as the texts write them. -/
namespace GX
open PySem PySem.Spec PyProof.Rows L2
theorem pt_truthK {X : Cx} {K : PySem.W.Frag} {a : Expr} {ta : TE} (ha : PE X a ta) (he : ∀ whole, isTrue a X.env whole = (do let v ← whole; standAt a.pos; holding [v] (truthy v))) (h : X.K = K := by rfl) : PT X a (fun σ H Q => ta σ H fun x H' => ∃ k, TruV K x H' k ∧ Q k H') := by subst h; exact pt_truth ha he
theorem natAt {l : List Nat} {i : Nat} (h : i < l.length) : (l.map nV)[i]? = some (nV (l.getD i 0)) := by
  rw [List.getElem?_map, List.getD_eq_getElem?_getD, List.getElem?_eq_getElem h]
  rfl
theorem mapV (xs : List Nat) : (xs.map fun n : Nat => (n : Int)).map V.int = xs.map nV := by
  rw [List.map_map]
  rfl
theorem dpNat (K : PySem.W.Frag) (H : Hp) : ∀ xs : List Nat, DpAll K H (xs.map nV) ((xs.map fun n : Nat => (n : Int)).map PyData.int)
  | [] => .nil
  | x :: r => .cons (.int _) (dpNat K H r)
theorem getSnoc {xs : List Nat} {x i : Nat} (h : i < xs.length) : (xs ++ [x]).getD i 0 = xs.getD i 0 := getD_pre h
theorem getLastN {xs : List Nat} {x : Nat} : (xs ++ [x]).getD xs.length 0 = x := by
  rw [List.getD_eq_getElem?_getD, List.getElem?_append_right (Nat.le_refl _), Nat.sub_self]
  rfl
/-- number >> place & 1 -/
theorem bit_of (r p : Nat) : Builtin.bitAnd (((r : Nat) : Int) / 2 ^ ((p : Nat) : Int).toNat) 1 = ((r / 2 ^ p % 2 : Nat) : Int) := by
  rw [bitAnd_m1, Int.toNat_natCast]
  norm_cast
theorem shl_of (p : Nat) : (1 : Int) * 2 ^ ((p : Nat) : Int).toNat = ((2 ^ p : Nat) : Int) := by
  rw [Int.toNat_natCast, Int.one_mul]
  norm_cast
/-! ### idle places -/
theorem pow8 {m : Nat} (h : m ≤ 8) : 2 ^ m ≤ 256 := Nat.pow_le_pow_right (by decide) h
theorem small256 {n : Nat} (h : n ≤ 10000) : n < sizeLine := Nat.lt_of_le_of_lt h (by decide)
end GX
set_option Elab.async false
set_option linter.all false
set_option maxRecDepth 100000
set_option maxHeartbeats 4000000
/-! Tuples at a list of addresses. -/
namespace GX
open PySem PySem.Spec PyProof.Rows L2
def RefsAt {α : Type} (f : α → List V) (H : Hp) (ps : List Addr) (xs : List α) : Prop := ps.length = xs.length ∧ ∀ (i : Nat) (p : Addr) (x : α), ps[i]? = some p → xs[i]? = some x → H p = some (.tup (f x))
section
variable {α : Type} {f : α → List V} {H H' : Hp} {ps : List Addr} {xs : List α}
theorem RefsAt.nil (f : α → List V) (H : Hp) : RefsAt f H [] [] := ⟨rfl, fun i p g e _ => by simp at e⟩
theorem RefsAt.mono (x : RefsAt f H ps xs) (k : ∀ b zs, H b = some (.tup zs) → H' b = some (.tup zs)) : RefsAt f H' ps xs := ⟨x.1, fun i p g e1 e2 => k _ _ (x.2 i p g e1 e2)⟩
theorem RefsAt.push {q : Addr} {y : α} (x : RefsAt f H ps xs) (h : H q = some (.tup (f y))) : RefsAt f H (ps ++ [q]) (xs ++ [y]) := by
  refine ⟨by rw [List.length_append, List.length_append, x.1]; rfl, fun i r g e1 e2 => ?_⟩
  by_cases hi : i < ps.length
  · rw [List.getElem?_append_left hi] at e1
    rw [List.getElem?_append_left (by rw [← x.1]; exact hi)] at e2
    exact x.2 i r g e1 e2
  · rw [List.getElem?_append_right (by omega)] at e1
    rw [List.getElem?_append_right (by rw [← x.1]; omega)] at e2
    have hz : i - ps.length = 0 := by
      obtain ⟨h1, _⟩ := List.getElem?_eq_some_iff.mp e1
      simp at h1
      omega
    rw [hz] at e1
    rw [← x.1, hz] at e2
    cases e1
    cases e2
    exact h
theorem RefsAt.at_ (x : RefsAt f H ps xs) {i : Nat} {v : V} (e : (ps.map V.ref)[i]? = some v) : ∃ q y, v = .ref q ∧ xs[i]? = some y ∧ H q = some (.tup (f y)) := by
  rw [List.getElem?_map] at e
  cases h : ps[i]? with
  | none => rw [h] at e; cases e
  | some q =>
    rw [h] at e
    cases e
    have h2 : i < xs.length := by rw [← x.1]; exact (List.getElem?_eq_some_iff.mp h).1
    exact ⟨q, xs[i], rfl, List.getElem?_eq_getElem h2, x.2 i q _ h (List.getElem?_eq_getElem h2)⟩
theorem RefsAt.get (x : RefsAt f H ps xs) {i : Nat} {y : α} (e : xs[i]? = some y) : ∃ q, (ps.map V.ref)[i]? = some (.ref q) ∧ H q = some (.tup (f y)) := by
  have h2 : i < ps.length := by rw [x.1]; exact (List.getElem?_eq_some_iff.mp e).1
  exact ⟨ps[i], by rw [List.getElem?_map, List.getElem?_eq_getElem h2]; rfl, x.2 i _ y (List.getElem?_eq_getElem h2) e⟩
end
end GX
namespace GX
open PySem PySem.Spec PyProof.Rows L2
/-- things of any make at a list of addresses -/
def PtsAt {α : Type} (R : Hp → Addr → α → Prop) (H : Hp) (ps : List Addr) (xs : List α) : Prop := ps.length = xs.length ∧ ∀ (i : Nat) (p : Addr) (x : α), ps[i]? = some p → xs[i]? = some x → R H p x
section
variable {α : Type} {R : Hp → Addr → α → Prop} {H H' : Hp} {ps : List Addr} {xs : List α}
theorem PtsAt.nil (R : Hp → Addr → α → Prop) (H : Hp) : PtsAt R H [] [] := ⟨rfl, fun i p g e _ => by simp at e⟩
theorem PtsAt.mono (x : PtsAt R H ps xs) (k : ∀ p y, R H p y → R H' p y) : PtsAt R H' ps xs := ⟨x.1, fun i p g e1 e2 => k _ _ (x.2 i p g e1 e2)⟩
theorem PtsAt.cons {q : Addr} {y : α} (x : PtsAt R H ps xs) (h : R H q y) : PtsAt R H (q :: ps) (y :: xs) := by
  refine ⟨by rw [List.length_cons, List.length_cons, x.1], fun i r g e1 e2 => ?_⟩
  cases i with
  | zero =>
    cases e1
    cases e2
    exact h
  | succ i => exact x.2 i r g e1 e2
theorem PtsAt.push {q : Addr} {y : α} (x : PtsAt R H ps xs) (h : R H q y) : PtsAt R H (ps ++ [q]) (xs ++ [y]) := by
  refine ⟨by rw [List.length_append, List.length_append, x.1]; rfl, fun i r g e1 e2 => ?_⟩
  by_cases hi : i < ps.length
  · rw [List.getElem?_append_left hi] at e1
    rw [List.getElem?_append_left (by rw [← x.1]; exact hi)] at e2
    exact x.2 i r g e1 e2
  · rw [List.getElem?_append_right (by omega)] at e1
    rw [List.getElem?_append_right (by rw [← x.1]; omega)] at e2
    have hz : i - ps.length = 0 := by
      obtain ⟨h1, _⟩ := List.getElem?_eq_some_iff.mp e1
      simp at h1
      omega
    rw [hz] at e1
    rw [← x.1, hz] at e2
    cases e1
    cases e2
    exact h
theorem PtsAt.at_ (x : PtsAt R H ps xs) {i : Nat} {v : V} (e : (ps.map V.ref)[i]? = some v) : ∃ q y, v = .ref q ∧ xs[i]? = some y ∧ R H q y := by
  rw [List.getElem?_map] at e
  cases h : ps[i]? with
  | none => rw [h] at e; cases e
  | some q =>
    rw [h] at e
    cases e
    have h2 : i < xs.length := by rw [← x.1]; exact (List.getElem?_eq_some_iff.mp h).1
    exact ⟨q, xs[i], rfl, List.getElem?_eq_getElem h2, x.2 i q _ h (List.getElem?_eq_getElem h2)⟩
theorem PtsAt.get (x : PtsAt R H ps xs) {i : Nat} {y : α} (e : xs[i]? = some y) : ∃ q, (ps.map V.ref)[i]? = some (.ref q) ∧ R H q y := by
  have h2 : i < ps.length := by rw [x.1]; exact (List.getElem?_eq_some_iff.mp e).1
  exact ⟨ps[i], by rw [List.getElem?_map, List.getElem?_eq_getElem h2]; rfl, x.2 i _ y (List.getElem?_eq_getElem h2) e⟩
end
end GX
set_option Elab.async false
set_option linter.all false
set_option maxRecDepth 100000
set_option maxHeartbeats 4000000
namespace GX
open PySem PySem.Spec PyProof.Rows L2
/-- the well, the tables stand; all else is kept -/
structure Dk (W : Addr) (Ts : List Addr) (H H' : Hp) : Prop where
  wl : Wl H' W
  tb : Tabs Ts H'
  kp : Keep (W :: Ts) H H'
theorem Dk.aft {W : Addr} {Ts : List Addr} {H H1 H2 : Hp} (d : Dk W Ts H H1) (a : Aft Ts H1 H2) : Dk W Ts H H2 := ⟨d.wl.keep a.kp (d.wl.tab d.tb), a.tb, d.kp.trans (a.kp.mono fun b hb => List.mem_cons_of_mem _ hb)⟩
theorem Dk.same {W : Addr} {Ts : List Addr} {H H1 H2 : Hp} (d : Dk W Ts H H1) (s : Same H1 H2) : Dk W Ts H H2 := d.aft (Aft.ofSame d.tb s)
theorem Wk.tabs {W : Addr} {Ts : List Addr} {H H1 : Hp} (wl : Wl H W) (tb : Tabs Ts H) (s : Wk W H H1) : Tabs Ts H1 := tb.keep s.kp fun b hb => by rw [List.mem_singleton.mp hb]; exact wl.tab tb
theorem Dk.draw {W : Addr} {Ts : List Addr} {H H1 H2 : Hp} (d : Dk W Ts H H1) (s : Wk W H1 H2) : Dk W Ts H H2 := ⟨s.wl, s.tabs d.wl d.tb, d.kp.trans (s.kp.mono fun b hb => by rw [List.mem_singleton.mp hb]; exact List.mem_cons_self)⟩
/-- a list of our own, made behind H, is changed -/
theorem Dk.put {W : Addr} {Ts : List Addr} {H H1 : Hp} {l : Addr} {o : HO} {xs : List V} (d : Dk W Ts H H1) (nl : H l = none) (hl : H1 l = some (.lst xs)) (nW : l ≠ W) : Dk W Ts H (upd H1 l o) :=
  ⟨by obtain ⟨x, y, z, e⟩ := d.wl; exact ⟨x, y, z, by rw [upd_ne (fun z => nW z.symm)]; exact e⟩, d.tb.upd (d.tb.lst hl), fun b u e n => by rw [upd_ne (ne_of_none e nl)]; exact d.kp b u e n⟩
def natOf (σ : L2.St) (i : Nat) : Nat := match σ[i]? with
  | some (some (V.int z)) => z.toNat
  | _ => 0
end GX
set_option Elab.async false
set_option linter.all false
set_option maxRecDepth 100000
set_option maxHeartbeats 4000000
/-! list(reversed(xs)), xs a list. -/
namespace GX
open PySem PySem.Spec PyProof.Rows L2 RT
section
variable {P : Program} {w : World} {A : Around} {E : Value → Shared → Prop} {s : Shared}
/-- what is taken off a list from behind -/
abbrev BackOf (its : Array Value) (i : Nat) (v : Value) : Prop := its[its.size - 1 - i]? = some v
theorem ext_rev {R : Result → Shared → Prop} {it l S : Addr} {its : Array Value} {res : Value} {c0 : Nat} (hh : A.handled = none) (r : s.heap.IsRevIter it l ((its.size : Int) - 1)) (hl : s.heap.IsList l its) (ne : l ≠ it) (hz : its.size ≤ sizeLine)
    (nI : S ≠ it) (nl : S ≠ l) (hS : s.heap.get? S = some { cls := .type "list", data := .seq #[] c0 })
    (q : ∀ g tk acc c, (∀ b o, b ≠ S → b ≠ it → s.heap.get? b = some o → g.get? b = some o) → g.get? S = some { cls := .type "list", dict := none, data := .seq acc c, slots := #[] } → ItemsOf (BackOf its) acc its.size → R (.ok (.ret res)) { s with heap := g, toks := tk }) :
    wpAny (model P w) A.in1 (Builtin.List.listExtendWith (.ref S) (.ref it) res)
      (fun fin t => match fin with | .done f => R (.ok f) t | .again c' => c'.quiet = true ∧ codeAny (model P w) A c' R t) (fun e t => R (.error e) t) s := by
  have wk := (Walks.listRev (prog := P) (w := w) (A := A.in1) hh it l ne its).toS
  have ty : s.TypeIs (.ref it) "list_reverseiterator" := r.typeIs
  have nf : S ∉ [it, l] := fun z => by
    rcases List.mem_cons.mp z with z | z
    · exact nI z
    · exact nl (List.mem_singleton.mp z)
  have ns : Builtin.List.listSameRef (.ref S) (.ref it) = false := by simp [Builtin.List.listSameRef, nI]
  unfold Builtin.List.listExtendWith
  refine wpAny_bind (wpAny_typeOf ty ?_)
  rw [if_neg (by rw [ns]; decide)]
  refine wpAny_bind (wpAny_pyIter_revIter r ?_)
  refine wpAny_bind (wpAny_holding ?_)
  unfold Builtin.List.listLengthHint
  refine wpAny_bind (wpAny_specialOf ty nolen_lri ?_)
  show wpAny _ A.in1 (specialOf (Value.ref it) (Str.ofString "__length_hint__") >>= _) _ _ s
  refine wpAny_bind (wpAny_specialOf ty hint_lri ?_)
  generalize hj : ("list_reverseiterator.__length_hint__" : String) = j
  wp_delta
  rw [show splitId j = some ("list_reverseiterator", "__length_hint__") from by subst hj; decide +kernel]
  subst hj
  refine wpAny_bind (wpAny_isInstance (b := true) ty (by rw [isSubtype_type]; kernel_rfl) ?_)
  refine wpAny_pure ?_
  rw [if_neg (by decide)]
  have z0 : ((its.size : Nat) : Int) - 1 - ((0 : Nat) : Int) = (its.size : Int) - 1 := by omega
  refine wpAny_pure ⟨plainId_quiet F.plain_extend_loop _, codeAny_extend_loopS wk hz S nf res its.size 0 s #[] c0 rfl (Nat.zero_le _) ⟨Nat.zero_le _, by rw [z0]; exact r, hl⟩ hS (ItemsOf.nil _) fun t acc c mv hS' hi => ?_⟩
  rw [Moved.eq_with mv]
  refine q t.heap t.toks acc c (fun b o h1 h2 e => mv.heap b o (fun z => ?_) e) hS' hi
  rcases List.mem_cons.mp z with z | z
  · exact h1 z
  · exact h2 (List.mem_singleton.mp z)
theorem call_list_rev {it l : Addr} {its : Array Value} {Q : Value → Shared → Prop} (hh : A.handled = none) (r : s.heap.IsRevIter it l ((its.size : Int) - 1)) (hl : s.heap.IsList l its) (ne : l ≠ it) (hz : its.size ≤ sizeLine)
    (q : ∀ g tk acc c, (∀ b o, b ≠ it → s.heap.get? b = some o → g.get? b = some o) → g.get? s.heap.objs.size = some { cls := .type "list", dict := none, data := .seq acc c, slots := #[] } → ItemsOf (BackOf its) acc its.size → Q (.ref s.heap.objs.size) { s with heap := g, toks := tk }) :
    wpAny (model P w) A (call (.type "list") [.ref it]) Q E s := by
  have n1 : s.heap.objs.size ≠ it := by obtain ⟨o, h, _⟩ := id r; exact Nat.ne_of_gt (Heap.lt_size h)
  have n2 : s.heap.objs.size ≠ l := by obtain ⟨o, h, _⟩ := id hl; exact Nat.ne_of_gt (Heap.lt_size h)
  refine callType_codes (Q₁ := fun v t => v = .ref s.heap.objs.size ∧ t = { s with heap := s.heap.push { cls := .type "list", data := .seq #[] } }) F.called_list (F.typeCall_list_1 _) F.entry_list_init
    (code_list_new _ ⟨rfl, rfl⟩) fun v t ht => ?_
  obtain ⟨rfl, rfl⟩ := ht
  have e0 : (s.heap.push { cls := .type "list", data := .seq #[] }).get? s.heap.objs.size = some { cls := .type "list", data := .seq #[] } := Heap.get?_push_size _ rfl
  refine ⟨⟨_, e0, rfl⟩, F.args_list_init_2 _ _, ?_⟩
  show wpAny _ A.in1.in1 (do let x ← Builtin.List.listItems (.ref s.heap.objs.size); Builtin.List.listUpdate (.ref s.heap.objs.size) (fun _ => #[]); letGo x.toList.reverse; Builtin.List.listExtendWith (.ref s.heap.objs.size) (.ref it) .none) _ _ _
  refine wpAny_bind ?_
  unfold Builtin.List.listItems
  refine wpAny_bind (wpAny_seqItems e0 rfl (wpAny_pure ?_))
  show wpAny _ A.in1.in1 (updateSeq s.heap.objs.size (fun _ => #[]) >>= fun _ => letGo (#[] : Array Value).toList.reverse >>= fun _ => Builtin.List.listExtendWith (.ref s.heap.objs.size) (.ref it) .none) _ _ _
  refine wpAny_bind (wpAny_updateSeq e0 rfl ?_)
  have e1 := Heap.get?_update_self (Obj.mapSeq (fun _ => (#[] : Array Value))) e0 rfl
  have up : ∀ b o, b ≠ s.heap.objs.size → s.heap.get? b = some o → ((s.heap.push { cls := .type "list", data := .seq #[] }).update s.heap.objs.size (Obj.mapSeq (fun _ => (#[] : Array Value)))).get? b = some o := fun b o hb e =>
    (Heap.get?_update_other _ _ (Ne.symm hb)).trans (Heap.get?_push_of_some _ e)
  refine wpAny_bind (wpAny_letGo ?_)
  refine ext_rev (A := A.in1) hh ?_ ?_ ne hz n1 n2 e1 fun g tk acc c kp hS hi => ⟨rfl, q g tk acc c (fun b o hb e => ?_) hS hi⟩
  · exact r.at fun o e => up _ o (Ne.symm n1) e
  · obtain ⟨o, h, k⟩ := id hl
    exact ⟨o, up _ o (Ne.symm n2) h, k⟩
  · have hb' : b ≠ s.heap.objs.size := Nat.ne_of_lt (Heap.lt_size e)
    exact kp b o hb' hb (up b o hb' e)
end
section
variable {X : Cx}
def tLstRev (K : PySem.W.Frag) (te : TE) : TE := fun σ H Q => te σ H fun v H1 => ∃ (a : Addr) (xs : List V), v = .ref a ∧ SqL K H1 a xs ∧ ∀ l, H1 l = none → Q (.ref l) (upd H1 l (.lst xs.reverse))
theorem pe_lstRev {e : Expr} {te : TE} {p p2 pos pos2 : Pos} (hc : X.calm = true) (g1 : Gl X "list") (m1 : X.mg "list" = none) (g2 : Gl X "reversed") (m2 : X.mg "reversed" = none) (he : PE X e te)
    (s1 : starEach [e] X.env = (false, eval e X.env) :: starEach [] X.env := by rfl)
    (s2 : starEach [.Call (.Name "reversed" p2) [e] [] pos2] X.env = (false, eval (.Call (.Name "reversed" p2) [e] [] pos2) X.env) :: starEach [] X.env := by rfl) :
    PE X (.Call (.Name "list" p) [.Call (.Name "reversed" p2) [e] [] pos2] [] pos) (tLstRev X.K te) := by
  refine ⟨fun pins s σ H Q I h => ?_⟩
  refine Call_ (ld_blt I g1 m1 boot_list (PyProof.Rows.callWith_type1 (args_cons (Call_ (ld_blt I g2 m2 PyProof.Rows.boot_reversed (PyProof.Rows.callWith_type1 (args_cons (thn (he.run pins s σ H _ I h) fun u t ⟨v, H1, I1, r1, q1⟩ => args_nil ?_) s1) s1 rfl))) s2) s2 rfl))
  obtain ⟨a, xs, ev, hq, q⟩ := q1
  subst ev
  obtain rfl : u = Value.ref a := r1
  obtain ⟨its, rv, pl, hz⟩ := I1.list hq
  refine call_reversed_list pl.isList (args_nil ?_)
  have hl := pl.isList
  have ne : a ≠ t.heap.objs.size := by obtain ⟨o, ho, _⟩ := id hl; exact Nat.ne_of_lt (Heap.lt_size ho)
  have hn : its.toArray.size ≤ sizeLine := by rw [List.size_toArray, ← rv.length]; exact hz
  refine call_list_rev (s := { t with heap := t.heap.push (revObj a ((its.toArray.size : Int) - 1)) }) (I1.ok.hd hc) ⟨_, Heap.get?_push_size _ rfl, rfl, rfl⟩ (hl.push _) ne hn fun g tk acc c kp hS hi => ?_
  have le : t.heap.objs.size ≤ (t.heap.push (revObj a ((its.toArray.size : Int) - 1))).objs.size := by rw [Heap.size_push]; exact Nat.le_succ _
  refine ⟨.ref (t.heap.push (revObj a ((its.toArray.size : Int) - 1))).objs.size, _, I1.laid (t' := tk) (fun b o e => kp b o (Nat.ne_of_lt (Heap.lt_size e)) (Heap.get?_push_of_some _ e)) le (show ObjOk X.prog X.w _ g _ (.lst xs.reverse) from ⟨by rw [List.length_reverse]; exact hz, acc.toList, c, vals_rev rv hi, ?_⟩), rfl, q _ (I1.hok.fresh le)⟩
  rw [Array.toArray_toList]
  exact hS
end
end GX
set_option Elab.async false
set_option linter.all false
set_option maxRecDepth 100000
set_option maxHeartbeats 4000000
/-! A deck: a list with a list of cells, a seed and a count. -/
namespace GX
open PySem PySem.Spec PyProof.Rows L2
structure Wd (H : Hp) (W C : Addr) : Prop where
  ex : ∃ (ns : List Int) (a b : Int), H W = some (.lst [.ref C, .int a, .int b]) ∧ H C = some (.lst (ns.map V.int)) ∧ ns.length ≤ 64
  ne : W ≠ C
theorem Wd.nt {H : Hp} {W C : Addr} (h : Wd H W C) : ∀ b ∈ [W, C], ∀ xs, H b ≠ some (.tup xs) := fun b hb xs e => by
  obtain ⟨ns, a, c, e1, e2, _⟩ := h.ex
  rcases List.mem_cons.mp hb with z | z
  · rw [z, e1] at e
    cases e
  · rw [List.mem_singleton.mp z, e2] at e
    cases e
theorem Wd.same {H H' : Hp} {W C : Addr} (h : Wd H W C) (s : Same H H') : Wd H' W C := by
  obtain ⟨⟨ns, a, c, e1, e2, l⟩, ne⟩ := h
  exact ⟨⟨ns, a, c, s _ _ e1, s _ _ e2, l⟩, ne⟩
theorem Wd.keep {X : List Addr} {H H' : Hp} {W C : Addr} (h : Wd H W C) (k : Keep X H H') (n : W ∉ X) (m : C ∉ X) : Wd H' W C := by
  obtain ⟨⟨ns, a, c, e1, e2, l⟩, ne⟩ := h
  exact ⟨⟨ns, a, c, k _ _ e1 n, k _ _ e2 m, l⟩, ne⟩
theorem Wd.tabW {Ts : List Addr} {H : Hp} {W C : Addr} (h : Wd H W C) (t : Tabs Ts H) : W ∉ Ts := by
  obtain ⟨ns, a, c, e1, e2, _⟩ := h.ex
  exact t.lst e1
theorem Wd.tabC {Ts : List Addr} {H : Hp} {W C : Addr} (h : Wd H W C) (t : Tabs Ts H) : C ∉ Ts := by
  obtain ⟨ns, a, c, e1, e2, _⟩ := h.ex
  exact t.lst e2
/-- the deck stands, all else is kept -/
structure Wk2 (W C : Addr) (H H' : Hp) : Prop where
  wl : Wd H' W C
  kp : Keep [W, C] H H'
theorem Wk2.nxt {W C : Addr} {H H1 H2 : Hp} (s : Wk2 W C H H1) (t : Wk2 W C H1 H2) : Wk2 W C H H2 := ⟨t.wl, s.kp.trans t.kp⟩
theorem Wk2.same {W C : Addr} {H H1 H2 : Hp} (s : Wk2 W C H H1) (e : Same H1 H2) : Wk2 W C H H2 := ⟨s.wl.same e, s.kp.trans (Same.keep e)⟩
theorem Wk2.new {W C : Addr} {H H1 : Hp} {p : Addr} {o : HO} (s : Wk2 W C H H1) (n : H1 p = none) : Wk2 W C H (upd H1 p o) := s.same (Same.new n)
theorem Wk2.refl {W C : Addr} {H : Hp} (h : Wd H W C) : Wk2 W C H H := ⟨h, Keep.refl⟩
theorem Wd.tup {H H' : Hp} {W C : Addr} (h : Wd H W C) (k : Wk2 W C H H') {b : Addr} {xs : List V} (e : H b = some (.tup xs)) : H' b = some (.tup xs) := k.kp.tups h.nt b xs e
theorem Wd.new {H : Hp} {W C l : Addr} (h : Wd H W C) (n : H l = none) : l ≠ W ∧ l ≠ C := by
  obtain ⟨ns, a, c, e1, e2, _⟩ := h.ex
  refine ⟨fun z => ?_, fun z => ?_⟩
  · rw [← z, n] at e1
    cases e1
  · rw [← z, n] at e2
    cases e2
theorem Wk2.at_ {W C : Addr} {H H' : Hp} {l : Addr} {o : HO} (k : Wk2 W C H H') (n : l ≠ W ∧ l ≠ C) (e : H l = some o) : H' l = some o := k.kp _ _ e fun z => by
  rcases List.mem_cons.mp z with z | z
  · exact n.1 z
  · exact n.2 (List.mem_singleton.mp z)
/-- a list of our own is changed -/
theorem Wk2.put {W C : Addr} {H H' : Hp} {l : Addr} {o : HO} (s : Wk2 W C H H') (nl : H l = none) (n : l ≠ W ∧ l ≠ C) : Wk2 W C H (upd H' l o) := by
  obtain ⟨⟨⟨ns, a, c, e1, e2, z⟩, ne⟩, k⟩ := s
  exact ⟨⟨⟨ns, a, c, by rw [upd_ne (Ne.symm n.1)]; exact e1, by rw [upd_ne (Ne.symm n.2)]; exact e2, z⟩, ne⟩, fun b u e hb => by rw [upd_ne (ne_of_none e nl)]; exact k b u e hb⟩
/-- the deck, the tables stand; all else is kept -/
structure Dk2 (W C : Addr) (Ts : List Addr) (H H' : Hp) : Prop where
  wl : Wd H' W C
  tb : Tabs Ts H'
  kp : Keep (W :: C :: Ts) H H'
theorem Dk2.aft {W C : Addr} {Ts : List Addr} {H H1 H2 : Hp} (d : Dk2 W C Ts H H1) (a : Aft Ts H1 H2) : Dk2 W C Ts H H2 := ⟨d.wl.keep a.kp (d.wl.tabW d.tb) (d.wl.tabC d.tb), a.tb, d.kp.trans (a.kp.mono fun b hb => List.mem_cons_of_mem _ (List.mem_cons_of_mem _ hb))⟩
theorem Dk2.same {W C : Addr} {Ts : List Addr} {H H1 H2 : Hp} (d : Dk2 W C Ts H H1) (s : Same H1 H2) : Dk2 W C Ts H H2 := d.aft (Aft.ofSame d.tb s)
theorem Wk2.tabs {W C : Addr} {Ts : List Addr} {H H1 : Hp} (wl : Wd H W C) (tb : Tabs Ts H) (s : Wk2 W C H H1) : Tabs Ts H1 := tb.keep s.kp fun b hb => by
  rcases List.mem_cons.mp hb with z | z
  · rw [z]; exact wl.tabW tb
  · rw [List.mem_singleton.mp z]; exact wl.tabC tb
theorem Dk2.draw {W C : Addr} {Ts : List Addr} {H H1 H2 : Hp} (d : Dk2 W C Ts H H1) (s : Wk2 W C H1 H2) : Dk2 W C Ts H H2 := ⟨s.wl, s.tabs d.wl d.tb, d.kp.trans (s.kp.mono fun b hb => by
  rcases List.mem_cons.mp hb with z | z
  · rw [z]; exact List.mem_cons_self
  · rw [List.mem_singleton.mp z]; exact List.mem_cons_of_mem _ List.mem_cons_self)⟩
theorem Dk2.put {W C : Addr} {Ts : List Addr} {H H1 : Hp} {l : Addr} {o : HO} {xs : List V} (d : Dk2 W C Ts H H1) (nl : H l = none) (hl : H1 l = some (.lst xs)) (n : l ≠ W ∧ l ≠ C) : Dk2 W C Ts H (upd H1 l o) :=
  ⟨by obtain ⟨⟨ns, x, y, e, e2, z⟩, ne⟩ := d.wl; exact ⟨⟨ns, x, y, by rw [upd_ne (Ne.symm n.1)]; exact e, by rw [upd_ne (Ne.symm n.2)]; exact e2, z⟩, ne⟩, d.tb.upd (d.tb.lst hl), fun b u e m => by rw [upd_ne (ne_of_none e nl)]; exact d.kp b u e m⟩
/-- a while by a measure, its test read once -/
theorem while_at {c : TT} {tb : TS} {D : Ends} {σ : L2.St} {H : Hp} (Pv : L2.St → Hp → Prop) (μ : L2.St → Hp → Nat) (h0 : Pv σ H)
    (hs : ∀ σ H, Pv σ H → c σ H fun b H1 => if b = true then ∃ N : L2.St → Hp → Prop, (∀ σ' H', N σ' H' → ∃ m', m' < μ σ H ∧ (m' = μ σ' H' ∧ Pv σ' H')) ∧ tb { D with nx := N, ct := N, bk := D.nx } σ H1 else D.nx σ H1) : tWhile c tb D σ H := by
  refine ⟨fun m σ H => m = μ σ H ∧ Pv σ H, ⟨_, rfl, h0⟩, ?_⟩
  rintro m σ H ⟨rfl, p⟩
  exact hs σ H p
theorem whN {Pv : L2.St → Hp → Prop} {μ : L2.St → Hp → Nat} {m : Nat} : ∀ σ' H', (Pv σ' H' ∧ μ σ' H' < m) → ∃ m', m' < m ∧ (m' = μ σ' H' ∧ Pv σ' H') := fun σ' H' h => ⟨_, h.2, rfl, h.1⟩
theorem dpInt (K : PySem.W.Frag) (H : Hp) : ∀ xs : List Int, DpAll K H (xs.map V.int) (xs.map PyData.int)
  | [] => .nil
  | x :: r => .cons (.int _) (dpInt K H r)
theorem eqvAllN {xs : List PyData} : PyData.eqvAll xs [] = decide (xs.length = 0) := by cases xs <;> rfl
theorem len64 {n : Nat} (h : n ≤ 100000) : n < sizeLine := Nat.lt_of_le_of_lt h (by decide)
end GX
set_option Elab.async false
set_option linter.all false
set_option maxRecDepth 100000
set_option maxHeartbeats 4000000
/-! Covers as data, and how they stand in the heap; dicts of wires. -/
namespace GX
open PySem PySem.Spec PyProof.Rows L2
theorem Same.was {H H' : Hp} {l : Addr} (s : Same H H') (n : H' l = none) : H l = none := by
  cases e : H l with
  | none => rfl
  | some u => cases ((s _ _ e).symm.trans n)
abbrev Tb := Nat × List Nat
def TbAt (H : Hp) (p : Addr) (t : Tb) : Prop := ∃ c, H p = some (.tup [nV t.1, .ref c]) ∧ H c = some (.tup (t.2.map nV))
theorem TbAt.mono {H H' : Hp} (k : ∀ b xs, H b = some (.tup xs) → H' b = some (.tup xs)) (p : Addr) (t : Tb) (x : TbAt H p t) : TbAt H' p t := by
  obtain ⟨c, h1, h2⟩ := x
  exact ⟨c, k _ _ h1, k _ _ h2⟩
structure CovAt (H : Hp) (a : Addr) (cv : List Tb) (ps : List Addr) : Prop where
  top : H a = some (.tup (ps.map V.ref))
  ts : PtsAt TbAt H ps cv
theorem CovAt.mono {H H' : Hp} {a : Addr} {cv : List Tb} {ps : List Addr} (x : CovAt H a cv ps) (k : ∀ b xs, H b = some (.tup xs) → H' b = some (.tup xs)) : CovAt H' a cv ps := ⟨k _ _ x.top, x.ts.mono (TbAt.mono k)⟩
theorem CovAt.same {H H' : Hp} {a : Addr} {cv : List Tb} {ps : List Addr} (x : CovAt H a cv ps) (s : Same H H') : CovAt H' a cv ps := x.mono fun b xs e => s _ _ e
inductive Need (n : Net) (cv : List Tb) : Nat → Prop
  | out {o : Nat} : o ∈ n.outs → n.many ≤ o → Need n cv o
  | step {t : Tb} {x : Nat} : t ∈ cv → Need n cv t.1 → x ∈ t.2 → n.many ≤ x → Need n cv x
theorem Need.more {n : Net} {cv cv' : List Tb} (s : ∀ t ∈ cv, t ∈ cv') {x : Nat} (h : Need n cv x) : Need n cv' x := by
  induction h with
  | out h1 h2 => exact .out h1 h2
  | step ht _ hx hm ih => exact .step (s _ ht) ih hx hm
structure CovOk (n : Net) (k : Nat) (cv : List Tb) : Prop where
  rise : cv.Pairwise (fun a b => a.1 < b.1)
  gt : ∀ t ∈ cv, n.many ≤ t.1 ∧ t.1 < n.many + n.gates.length
  cut : ∀ t ∈ cv, CutOk n t.1 t.2 ∧ t.2.length ≤ k
  outs : ∀ o ∈ n.outs, n.many ≤ o → ∃ t ∈ cv, t.1 = o
  clo : ∀ t ∈ cv, ∀ x ∈ t.2, n.many ≤ x → ∃ u ∈ cv, u.1 = x
theorem CovOk.len {n : Net} (ok : n.Ok) {k : Nat} {cv : List Tb} (c : CovOk n k cv) : cv.length ≤ 24 := by
  have h1 : (cv.map fun t : Tb => t.1).Nodup := by
    rw [List.nodup_iff_pairwise_ne, List.pairwise_map]
    exact c.rise.imp fun h => Nat.ne_of_lt h
  have := nodup_lt (m := n.many + n.gates.length) h1 fun y hy => by
    obtain ⟨t, ht, rfl⟩ := List.mem_map.mp hy
    exact (c.gt t ht).2
  rw [List.length_map] at this
  have := ok.m8
  have := ok.g16
  omega
/-! ### a dict whose keys are these numbers -/
def nK (x : Nat) : L2.Key := .inl (x : Int)
theorem nK_inj {x y : Nat} (h : nK x = nK y) : x = y := by
  have := Sum.inl.inj h
  omega
def KeysAt (H : Hp) (d : Addr) (S : Nat → Prop) (b : Nat) : Prop := ∃ kvs : List (L2.Key × V), H d = some (.dK kvs) ∧ kvs.length ≤ b ∧ ∀ x : Nat, (valV kvs (nK x)).isSome = true ↔ S x
theorem KeysAt.nil {H : Hp} {d : Addr} (h : H d = some (.dK [])) : KeysAt H d (fun _ => False) 0 := ⟨[], h, Nat.le_refl _, fun x => by rw [valV_nil]; exact ⟨fun z => (by cases z), fun z => z.elim⟩⟩
end GX
set_option Elab.async false
set_option linter.all false
set_option maxRecDepth 100000
set_option maxHeartbeats 4000000
/-! Least cuts, as lists and as masks. -/
namespace GX
open PySem PySem.Spec PyProof.Rows L2
/-! ### what tells -/
theorem Rc.via {n : Net} {st : List Nat} {g a y : Nat} {k : Nat × Nat × Nat} (hg : n.many ≤ g) (hk : n.gates[g - n.many]? = some k) (hp : a = k.2.1 ∨ a = k.2.2) (gs : g ∉ st) (r : Rc n st a n.many y) : Rc n st g n.many y := by
  induction r with
  | here h => exact .step (.here gs) hg hg hk hp h
  | step _ hg' hj hk' hp' hs ih => exact .step ih hg' hj hk' hp' hs
theorem Rc.split {n : Net} {st : List Nat} {g y : Nat} {k : Nat × Nat × Nat} (hk : n.gates[g - n.many]? = some k) (r : Rc n st g n.many y) : y = g ∨ Rc n st k.2.1 n.many y ∨ Rc n st k.2.2 n.many y := by
  induction r with
  | here h => exact .inl rfl
  | @step g' p k' _ hg' hj hk' hp' hs ih =>
    rcases ih with e | h | h
    · subst e
      rw [hk] at hk'
      cases hk'
      rcases hp' with rfl | rfl
      · exact .inr (.inl (.here hs))
      · exact .inr (.inr (.here hs))
    · exact .inr (.inl (.step h hg' hj hk' hp' hs))
    · exact .inr (.inr (.step h hg' hj hk' hp' hs))
theorem sep_gate {n : Net} {st : List Nat} {g : Nat} {k : Nat × Nat × Nat} (hg : n.many ≤ g) (hk : n.gates[g - n.many]? = some k) (gs : g ∉ st) : Sep n g st ↔ (Sep n k.2.1 st ∧ Sep n k.2.2 st) := by
  refine ⟨fun h => ⟨fun y r => h y (r.via hg hk (.inl rfl) gs), fun y r => h y (r.via hg hk (.inr rfl) gs)⟩, fun h y r => ?_⟩
  rcases r.split hk with e | r | r
  · rw [e]; exact hg
  · exact h.1 y r
  · exact h.2 y r
theorem sep_in {n : Net} {w : Nat} {st : List Nat} (h : w ∈ st) : Sep n w st := fun y r => by
  exfalso
  induction r with
  | here z => exact z h
  | step _ _ _ _ _ _ ih => exact ih
theorem sep_input {n : Net} {w : Nat} {st : List Nat} (h : w < n.many) : Sep n w st ↔ w ∈ st := by
  refine ⟨fun s => Classical.not_not.mp fun z => ?_, sep_in⟩
  have := s w (.here z)
  omega
theorem sep_none {n : Net} (ok : n.Ok) : ∀ b w, w ≤ b → w < n.many + n.gates.length → ¬ Sep n w []
  | b, w, hb, hw => fun s => by
    by_cases h : w < n.many
    · exact absurd ((sep_input h).mp s) List.not_mem_nil
    · obtain ⟨k, hk⟩ : ∃ k, n.gates[w - n.many]? = some k := ⟨_, List.getElem?_eq_getElem (by omega)⟩
      have lt := place_lt ok (by omega) hk (.inl rfl)
      cases b with
      | zero => omega
      | succ b => exact sep_none ok b k.2.1 (by omega) (by omega) ((sep_gate (by omega) hk List.not_mem_nil).mp s).1
/-- only wires up to w matter -/
theorem sep_low {n : Net} (ok : n.Ok) {w : Nat} {st st' : List Nat} (h : ∀ x, x ≤ w → x ∈ st → x ∈ st') (s : Sep n w st) : Sep n w st' := fun y r => by
  refine s y ?_
  induction r with
  | here z => exact .here fun z' => z (h _ (Nat.le_refl _) z')
  | step r hg hj hk hp hs ih => exact .step ih hg hj hk hp fun z' => hs (h _ ((Rc.step r hg hj hk hp hs).le ok) z')
/-! ### masks -/
def bitsOf (M : Nat) : List Nat := (List.range (Builtin.Int.intBits ((M : Nat) : Int))).filter fun x => M.testBit x
theorem mem_bits {M x : Nat} : x ∈ bitsOf M ↔ M.testBit x = true := by
  unfold bitsOf
  rw [List.mem_filter, List.mem_range]
  refine ⟨fun h => h.2, fun h => ⟨?_, h⟩⟩
  refine Nat.lt_of_not_le fun hle => ?_
  rw [intBits_le_iff, Int.natAbs_natCast] at hle
  rw [Nat.testBit_lt_two_pow hle] at h
  cases h
theorem bits_rise (M : Nat) : (bitsOf M).Pairwise (· < ·) := List.Pairwise.filter _ List.pairwise_lt_range
theorem bits_nodup (M : Nat) : (bitsOf M).Nodup := (bits_rise M).imp fun h => Nat.ne_of_lt h
theorem bits_inj {M N : Nat} (h : bitsOf M = bitsOf N) : M = N := by
  apply Nat.eq_of_testBit_eq
  intro j
  have : j ∈ bitsOf M ↔ j ∈ bitsOf N := by rw [h]
  rw [mem_bits, mem_bits] at this
  cases e : M.testBit j <;> cases e2 : N.testBit j <;> simp_all
def maskOf (c : List Nat) : Nat := c.foldr (fun x acc => 2 ^ x ||| acc) 0
theorem mask_bit (c : List Nat) (j : Nat) : (maskOf c).testBit j = decide (j ∈ c) := by
  induction c with
  | nil => exact Nat.zero_testBit j
  | cons x r ih =>
    show (2 ^ x ||| maskOf r).testBit j = _
    rw [Nat.testBit_or, ih, Nat.testBit_two_pow]
    rw [Bool.eq_iff_iff, Bool.or_eq_true, decide_eq_true_iff, decide_eq_true_iff, decide_eq_true_iff, List.mem_cons]
    exact ⟨fun h => h.imp Eq.symm id, fun h => h.imp Eq.symm id⟩
theorem bits_mask {c : List Nat} (h : c.Pairwise (· < ·)) : bitsOf (maskOf c) = c := rise_eq (bits_rise _) h fun z => by rw [mem_bits, mask_bit, decide_eq_true_iff]
def Sub (f M : Nat) : Prop := ∀ j, f.testBit j = true → M.testBit j = true
theorem Sub.refl (M : Nat) : Sub M M := fun _ h => h
theorem Sub.trans {a b c : Nat} (h : Sub a b) (g : Sub b c) : Sub a c := fun j x => g j (h j x)
theorem sub_and {f M : Nat} : f &&& M = f ↔ Sub f M := by
  refine ⟨fun h j hj => ?_, fun h => ?_⟩
  · rw [← h, Nat.testBit_and, Bool.and_eq_true] at hj
    exact hj.2
  · apply Nat.eq_of_testBit_eq
    intro j
    rw [Nat.testBit_and]
    cases e : f.testBit j with
    | false => rfl
    | true => rw [h j e]; rfl
theorem Sub.le {f M : Nat} (h : Sub f M) : f ≤ M := by
  rw [← sub_and.mpr h]
  exact Nat.and_le_right
theorem Sub.anti {f M : Nat} (h : Sub f M) (g : Sub M f) : f = M := Nat.le_antisymm h.le g.le
theorem sub_zero {M : Nat} : Sub 0 M := fun j h => by rw [Nat.zero_testBit] at h; cases h
def pop (M : Nat) : Nat := (bitsOf M).length
theorem pop_sub {f M : Nat} (h : Sub f M) : pop f ≤ pop M := nodup_len (bits_nodup f) fun x hx => mem_bits.mpr (h x (mem_bits.mp hx))
theorem sub_or_left (f s : Nat) : Sub f (f ||| s) := fun j h => by rw [Nat.testBit_or, h]; rfl
theorem sub_or_right (f s : Nat) : Sub s (f ||| s) := fun j h => by rw [Nat.testBit_or, h, Bool.or_true]
theorem or_sub {f s M : Nat} (h : Sub f M) (g : Sub s M) : Sub (f ||| s) M := fun j hj => by
  rw [Nat.testBit_or, Bool.or_eq_true] at hj
  exact hj.elim (h j) (g j)
def Tm (n : Net) (w M : Nat) : Prop := Sep n w (bitsOf M)
theorem Tm.more {n : Net} {w M N : Nat} (h : Tm n w M) (s : Sub M N) : Tm n w N := Sep.more h fun z hz => mem_bits.mpr (s z (mem_bits.mp hz))
structure MinT (n : Net) (w M : Nat) : Prop where
  tl : Tm n w M
  min : ∀ f, Sub f M → Tm n w f → f = M
theorem min_ex {n : Net} {w : Nat} : ∀ b M, M ≤ b → Tm n w M → ∃ f, Sub f M ∧ MinT n w f
  | b, M, hb, h => by
    by_cases hm : ∀ f, Sub f M → Tm n w f → f = M
    · exact ⟨M, Sub.refl M, h, hm⟩
    · obtain ⟨f, hf⟩ := Classical.not_forall.mp hm
      obtain ⟨h1, h2⟩ := Classical.not_imp.mp hf
      obtain ⟨h3, h4⟩ := Classical.not_imp.mp h2
      have := h1.le
      cases b with
      | zero => omega
      | succ b =>
        obtain ⟨e, e1, e2⟩ := min_ex b f (by omega) h3
        exact ⟨e, e1.trans h1, e2⟩
theorem tm_zero {n : Net} (ok : n.Ok) {w : Nat} (hw : w < n.many + n.gates.length) : ¬ Tm n w 0 := by
  have : bitsOf 0 = [] := List.eq_nil_iff_forall_not_mem.mpr fun x hx => by
    have := mem_bits.mp hx
    rw [Nat.zero_testBit] at this
    cases this
  unfold Tm
  rw [this]
  exact sep_none ok w w (Nat.le_refl _) hw
/-- no greater wires -/
theorem MinT.low {n : Net} (ok : n.Ok) {w M : Nat} (h : MinT n w M) : ∀ x, M.testBit x = true → x ≤ w := fun x hx => by
  have e : M % 2 ^ (w + 1) = M := h.min _ (fun j hj => by
      rw [Nat.testBit_mod_two_pow, Bool.and_eq_true] at hj
      exact hj.2) (sep_low ok (fun y hy hm => mem_bits.mpr (by
        rw [Nat.testBit_mod_two_pow, decide_eq_true (by omega), Bool.true_and]
        exact mem_bits.mp hm)) h.tl)
  rw [← e, Nat.testBit_mod_two_pow, Bool.and_eq_true] at hx
  have := of_decide_eq_true hx.1
  omega
theorem bit_self (w : Nat) : (2 ^ w).testBit w = true := by rw [Nat.testBit_two_pow]; exact decide_eq_true rfl
theorem tm_self {n : Net} {w M : Nat} (h : M.testBit w = true) : Tm n w M := sep_in (mem_bits.mpr h)
theorem sub_pow {f w : Nat} (h : Sub f (2 ^ w)) : f = 0 ∨ f = 2 ^ w := by
  by_cases e : f.testBit w = true
  · right
    exact h.anti fun j hj => by
      rw [Nat.testBit_two_pow] at hj
      rw [← of_decide_eq_true hj]
      exact e
  · left
    apply Nat.eq_of_testBit_eq
    intro j
    rw [Nat.zero_testBit]
    cases e2 : f.testBit j with
    | false => rfl
    | true =>
      have := h j e2
      rw [Nat.testBit_two_pow] at this
      rw [of_decide_eq_true this] at e
      exact absurd e2 e
theorem min_pow {n : Net} (ok : n.Ok) {w : Nat} (hw : w < n.many + n.gates.length) : MinT n w (2 ^ w) := by
  refine ⟨tm_self (bit_self w), fun f hf ht => ?_⟩
  rcases sub_pow hf with e | e
  · rw [e] at ht
    exact absurd ht (tm_zero ok hw)
  · exact e
theorem min_has {n : Net} {w M : Nat} (h : MinT n w M) (e : M.testBit w = true) : M = 2 ^ w := by
  refine (h.min (2 ^ w) (fun j hj => ?_) (tm_self (bit_self w))).symm
  rw [Nat.testBit_two_pow] at hj
  rw [← of_decide_eq_true hj]
  exact e
theorem pop_pow (w : Nat) : pop (2 ^ w) = 1 := by
  have : bitsOf (2 ^ w) = [w] := rise_eq (bits_rise _) (List.pairwise_singleton _ _) fun z => by
    rw [mem_bits, Nat.testBit_two_pow, decide_eq_true_iff, List.mem_singleton]
    exact eq_comm
  unfold pop
  rw [this]
  rfl
/-- the masks of a wire -/
def ML (n : Net) (k w : Nat) (ms : List Nat) : Prop := ∀ M, M ∈ ms ↔ (MinT n w M ∧ pop M ≤ k ∧ M.testBit w = false)
theorem ML.input {n : Net} {k w : Nat} (h : w < n.many) : ML n k w [] := fun M => ⟨fun z => (by cases z), fun z => by
  have := mem_bits.mp ((sep_input h).mp z.1.tl)
  rw [z.2.2] at this
  cases this⟩
theorem ML.full {n : Net} (ok : n.Ok) {k w : Nat} {ms : List Nat} (hw : w < n.many + n.gates.length) (hk : 1 ≤ k) (h : ML n k w ms) (M : Nat) : M ∈ ms ++ [2 ^ w] ↔ (MinT n w M ∧ pop M ≤ k) := by
  rw [List.mem_append, List.mem_singleton, h]
  constructor
  · rintro (z | rfl)
    · exact ⟨z.1, z.2.1⟩
    · exact ⟨min_pow ok hw, by rw [pop_pow]; exact hk⟩
  · rintro ⟨h1, h2⟩
    cases e : M.testBit w with
    | false => exact .inl ⟨h1, h2, rfl⟩
    | true => exact .inr (min_has h1 e)
/-- what is found for a gate -/
def Found (k : Nat) (fs ss F : List Nat) : Prop := ∀ M, M ∈ F ↔ ∃ f ∈ fs, ∃ s ∈ ss, M = f ||| s ∧ pop M ≤ k
def hasPart (F : List Nat) (M : Nat) : Bool := F.any fun p => decide (0 < p ∧ p ≠ M ∧ p &&& M = p)
theorem hasPart_iff {F : List Nat} {M : Nat} : hasPart F M = true ↔ ∃ p ∈ F, 0 < p ∧ p ≠ M ∧ Sub p M := by
  unfold hasPart
  rw [List.any_eq_true]
  constructor
  · rintro ⟨p, hp, h⟩
    obtain ⟨h1, h2, h3⟩ := of_decide_eq_true h
    exact ⟨p, hp, h1, h2, sub_and.mp h3⟩
  · rintro ⟨p, hp, h1, h2, h3⟩
    exact ⟨p, hp, decide_eq_true ⟨h1, h2, sub_and.mpr h3⟩⟩
theorem gate_found {n : Net} (ok : n.Ok) {k g : Nat} {kk : Nat × Nat × Nat} {fs ss F : List Nat} (hg : n.many ≤ g) (hw : g < n.many + n.gates.length) (hkk : n.gates[g - n.many]? = some kk)
    (hf : ∀ M, M ∈ fs ↔ (MinT n kk.2.1 M ∧ pop M ≤ k)) (hs : ∀ M, M ∈ ss ↔ (MinT n kk.2.2 M ∧ pop M ≤ k)) (hF : Found k fs ss F) : ML n k g (F.filter fun M => !hasPart F M) := by
  have l1 := place_lt ok hg hkk (.inl rfl)
  have l2 := place_lt ok hg hkk (.inr rfl)
  have nog : ∀ M ∈ F, M.testBit g = false := fun M hM => by
    obtain ⟨f, h1, s, h2, rfl, _⟩ := (hF M).mp hM
    rw [Nat.testBit_or]
    cases e1 : f.testBit g with
    | true =>
      have := ((hf f).mp h1).1.low ok g e1
      omega
    | false =>
      cases e2 : s.testBit g with
      | true =>
        have := ((hs s).mp h2).1.low ok g e2
        omega
      | false => rfl
  have tell : ∀ M ∈ F, Tm n g M := fun M hM => by
    have hn : g ∉ bitsOf M := fun z => by
      have := mem_bits.mp z
      rw [nog M hM] at this
      cases this
    obtain ⟨f, h1, s, h2, rfl, _⟩ := (hF M).mp hM
    exact (sep_gate hg hkk hn).mpr ⟨((hf f).mp h1).1.tl.more (sub_or_left f s), ((hs s).mp h2).1.tl.more (sub_or_right f s)⟩
  have below : ∀ M, Tm n g M → M.testBit g = false → pop M ≤ k → ∃ M' ∈ F, Sub M' M := fun M ht hb hp => by
    have hn : g ∉ bitsOf M := fun z => by
      have := mem_bits.mp z
      rw [hb] at this
      cases this
    obtain ⟨t1, t2⟩ := (sep_gate hg hkk hn).mp ht
    obtain ⟨f, f1, f2⟩ := min_ex M M (Nat.le_refl _) t1
    obtain ⟨s, s1, s2⟩ := min_ex M M (Nat.le_refl _) t2
    have hsub := or_sub f1 s1
    exact ⟨f ||| s, (hF _).mpr ⟨f, (hf f).mpr ⟨f2, Nat.le_trans (pop_sub f1) hp⟩, s, (hs s).mpr ⟨s2, Nat.le_trans (pop_sub s1) hp⟩, rfl, Nat.le_trans (pop_sub hsub) hp⟩, hsub⟩
  have popF : ∀ M ∈ F, pop M ≤ k := fun M hM => by
    obtain ⟨_, _, _, _, _, h⟩ := (hF M).mp hM
    exact h
  intro M
  rw [List.mem_filter]
  constructor
  · rintro ⟨hM, hp⟩
    refine ⟨⟨tell M hM, fun f hf ht => Classical.not_not.mp fun ne => ?_⟩, popF M hM, nog M hM⟩
    have fb : f.testBit g = false := by
      cases e : f.testBit g with
      | false => rfl
      | true =>
        have := hf g e
        rw [nog M hM] at this
        cases this
    obtain ⟨M', h1, h2⟩ := below f ht fb (Nat.le_trans (pop_sub hf) (popF M hM))
    have hpart : hasPart F M = true := hasPart_iff.mpr ⟨M', h1, Nat.pos_of_ne_zero fun z => tm_zero ok hw (by rw [← z]; exact tell M' h1), fun z => ne (hf.anti (by rw [← z]; exact h2)), h2.trans hf⟩
    rw [hpart] at hp
    cases hp
  · rintro ⟨hm, hp, hb⟩
    obtain ⟨M', h1, h2⟩ := below M hm.tl hb hp
    have e : M' = M := hm.min M' h2 (tell M' h1)
    rw [e] at h1
    refine ⟨h1, ?_⟩
    cases hh : hasPart F M with
    | false => rfl
    | true =>
      obtain ⟨p, p1, p2, p3, p4⟩ := hasPart_iff.mp hh
      exact absurd (hm.min p p4 (tell p p1)) p3
/-! ### cuts as lists -/
structure LC (n : Net) (k g : Nat) (c : List Nat) : Prop where
  rise : c.Pairwise (· < ·)
  lt : ∀ x ∈ c, x < g
  sep : Sep n g c
  len : c.length ≤ k
  least : ∀ x ∈ c, ¬ Sep n g (c.filter fun y => decide (y ≠ x))
theorem lc_bits {n : Net} (ok : n.Ok) {k g M : Nat} (h : MinT n g M ∧ pop M ≤ k ∧ M.testBit g = false) : LC n k g (bitsOf M) := by
  obtain ⟨h1, h2, h3⟩ := h
  refine ⟨bits_rise M, fun x hx => ?_, h1.tl, h2, fun x hx hs => ?_⟩
  · have e := mem_bits.mp hx
    have := h1.low ok x e
    refine Nat.lt_of_le_of_ne this fun z => ?_
    rw [z, h3] at e
    cases e
  · have hr : ((bitsOf M).filter fun y => decide (y ≠ x)).Pairwise (· < ·) := (bits_rise M).filter _
    have ht : Tm n g (maskOf ((bitsOf M).filter fun y => decide (y ≠ x))) := by
      unfold Tm
      rw [bits_mask hr]
      exact hs
    have e := h1.min _ (fun j hj => by
      rw [mask_bit, decide_eq_true_iff] at hj
      exact mem_bits.mp (List.mem_filter.mp hj).1) ht
    have := mem_bits.mp hx
    rw [← e, mask_bit, decide_eq_true_iff] at this
    exact of_decide_eq_true (List.mem_filter.mp this).2 rfl
theorem bits_lc {n : Net} {k g : Nat} {c : List Nat} (h : LC n k g c) : MinT n g (maskOf c) ∧ pop (maskOf c) ≤ k ∧ (maskOf c).testBit g = false := by
  refine ⟨⟨by unfold Tm; rw [bits_mask h.rise]; exact h.sep, fun f hf ht => ?_⟩, by unfold pop; rw [bits_mask h.rise]; exact h.len, ?_⟩
  · refine Classical.not_not.mp fun ne => ?_
    obtain ⟨x, hx1, hx2⟩ : ∃ x, x ∈ c ∧ f.testBit x = false := by
      refine Classical.not_not.mp fun z => ne (hf.anti fun j hj => ?_)
      rw [mask_bit, decide_eq_true_iff] at hj
      cases e : f.testBit j with
      | true => rfl
      | false => exact absurd ⟨j, hj, e⟩ z
    refine h.least x hx1 (Sep.more ht fun z hz => List.mem_filter.mpr ⟨?_, decide_eq_true fun e => ?_⟩)
    · have := hf z (mem_bits.mp hz)
      rw [mask_bit, decide_eq_true_iff] at this
      exact this
    · have := mem_bits.mp hz
      rw [e, hx2] at this
      cases this
  · rw [mask_bit]
    exact decide_eq_false fun z => absurd (h.lt g z) (Nat.lt_irrefl _)
/-- the cuts of a gate, in order -/
abbrev lexN (a b : List Nat) : Bool := HT.lexLt (a.map fun n : Nat => (n : Int)) (b.map fun n : Nat => (n : Int))
structure CutsAre (n : Net) (k g : Nat) (cs : List (List Nat)) : Prop where
  mem : ∀ c, c ∈ cs ↔ LC n k g c
  nd : cs.Nodup
  srt : cs.Pairwise fun a b => lexN b a = false
theorem lex_tri : ∀ a b : List Nat, lexN a b = false → lexN b a = false → a = b
  | [], [], _, _ => rfl
  | [], y :: b, h, _ => by cases h
  | x :: a, [], _, h => by cases h
  | x :: a, y :: b, h1, h2 => by
    have h1' : (if ((x : Nat) : Int) = ((y : Nat) : Int) then lexN a b else decide (((x : Nat) : Int) < ((y : Nat) : Int))) = false := h1
    have h2' : (if ((y : Nat) : Int) = ((x : Nat) : Int) then lexN b a else decide (((y : Nat) : Int) < ((x : Nat) : Int))) = false := h2
    by_cases e : x = y
    · subst e
      rw [if_pos rfl] at h1' h2'
      rw [lex_tri a b h1' h2']
    · rw [if_neg (by omega)] at h1' h2'
      have := of_decide_eq_false h1'
      have := of_decide_eq_false h2'
      omega
theorem lex_uniq : ∀ {l m : List (List Nat)}, l.Nodup → m.Nodup → l.Pairwise (fun a b => lexN b a = false) → m.Pairwise (fun a b => lexN b a = false) → (∀ c, c ∈ l ↔ c ∈ m) → l = m
  | [], m, _, _, _, _, h => (List.eq_nil_iff_forall_not_mem.mpr fun x hx => by cases (h x).mpr hx).symm
  | x :: l, [], _, _, _, _, h => by cases (h x).mp List.mem_cons_self
  | x :: l, y :: m, n1, n2, s1, s2, h => by
    obtain ⟨a1, a2⟩ := List.pairwise_cons.mp s1
    obtain ⟨b1, b2⟩ := List.pairwise_cons.mp s2
    obtain ⟨c1, c2⟩ := List.nodup_cons.mp n1
    obtain ⟨d1, d2⟩ := List.nodup_cons.mp n2
    have e : x = y := by
      refine Classical.not_not.mp fun ne => ne ?_
      have hx := (List.mem_cons.mp ((h x).mp List.mem_cons_self)).resolve_left ne
      have hy := (List.mem_cons.mp ((h y).mpr List.mem_cons_self)).resolve_left (Ne.symm ne)
      exact lex_tri x y (b1 x hx) (a1 y hy)
    subst e
    rw [lex_uniq c2 d2 a2 b2 fun c => ?_]
    refine ⟨fun hc => ?_, fun hc => ?_⟩
    · exact (List.mem_cons.mp ((h c).mp (List.mem_cons_of_mem _ hc))).resolve_left fun z => c1 (by rw [← z]; exact hc)
    · exact (List.mem_cons.mp ((h c).mpr (List.mem_cons_of_mem _ hc))).resolve_left fun z => d1 (by rw [← z]; exact hc)
theorem CutsAre.uniq {n : Net} {k g : Nat} {cs ds : List (List Nat)} (h : CutsAre n k g cs) (d : CutsAre n k g ds) : cs = ds := lex_uniq h.nd d.nd h.srt d.srt fun c => (h.mem c).trans (d.mem c).symm
theorem cuts_of_masks {n : Net} (ok : n.Ok) {k g : Nat} {ms : List Nat} (h : ML n k g ms) (nd : ms.Nodup) {cs : List (List Nat)} (pm : cs.Perm (ms.map bitsOf)) (srt : cs.Pairwise fun a b => lexN b a = false) : CutsAre n k g cs := by
  refine ⟨fun c => ?_, ?_, srt⟩
  · rw [pm.mem_iff, List.mem_map]
    constructor
    · rintro ⟨M, hM, rfl⟩
      exact lc_bits ok ((h M).mp hM)
    · intro hc
      exact ⟨maskOf c, (h _).mpr (bits_lc hc), bits_mask hc.rise⟩
  · refine pm.nodup_iff.mpr ?_
    rw [List.nodup_iff_pairwise_ne, List.pairwise_map]
    exact (List.nodup_iff_pairwise_ne.mp nd).imp fun h e => h (bits_inj e)
/-! ### taking bits away -/
theorem clow_bit : ∀ b x, x ≤ b → x ≠ 0 → ∃ l, x.testBit l = true ∧ ∀ j, (x &&& (x - 1)).testBit j = (x.testBit j && decide (j ≠ l))
  | 0, x, hb, h0 => absurd (Nat.le_zero.mp hb) h0
  | b + 1, x, hb, h0 => by
    by_cases e : x % 2 = 1
    · refine ⟨0, by rw [Nat.testBit_zero]; exact decide_eq_true e, fun j => ?_⟩
      cases j with
      | zero => rw [Nat.testBit_and, Nat.testBit_zero, Nat.testBit_zero, decide_eq_false (p := (x - 1) % 2 = 1) (by omega), Bool.and_false, decide_eq_false (p := 0 ≠ 0) (fun z => z rfl), Bool.and_false]
      | succ j => rw [Nat.testBit_and, Nat.testBit_add_one, Nat.testBit_add_one, show (x - 1) / 2 = x / 2 by omega, Bool.and_self, decide_eq_true (by omega), Bool.and_true]
    · obtain ⟨l, h1, h2⟩ := clow_bit b (x / 2) (by omega) (by omega)
      refine ⟨l + 1, by rw [Nat.testBit_add_one]; exact h1, fun j => ?_⟩
      cases j with
      | zero => rw [Nat.testBit_and, Nat.testBit_zero, decide_eq_false e, Bool.false_and, Bool.false_and]
      | succ j =>
        rw [Nat.testBit_and, Nat.testBit_add_one, Nat.testBit_add_one, show (x - 1) / 2 = x / 2 - 1 by omega, ← Nat.testBit_and, h2 j]
        congr 1
        exact decide_eq_decide.mpr (by omega)
theorem pop_clow {x : Nat} (h : x ≠ 0) : pop (x &&& (x - 1)) + 1 = pop x := by
  obtain ⟨l, h1, h2⟩ := clow_bit x x (Nat.le_refl _) h
  have hb : ∀ j, j ∈ bitsOf (x &&& (x - 1)) ↔ (j ∈ bitsOf x ∧ j ≠ l) := fun j => by rw [mem_bits, h2, Bool.and_eq_true, decide_eq_true_iff, mem_bits]
  have pm : (l :: bitsOf (x &&& (x - 1))).Perm (bitsOf x) := by
    refine (List.perm_ext_iff_of_nodup (List.nodup_cons.mpr ⟨fun z => ((hb l).mp z).2 rfl, bits_nodup _⟩) (bits_nodup _)).mpr fun j => ?_
    rw [List.mem_cons, hb]
    constructor
    · rintro (rfl | h)
      · exact mem_bits.mpr h1
      · exact h.1
    · intro h
      by_cases e : j = l
      · exact .inl e
      · exact .inr ⟨h, e⟩
  exact pm.length_eq
theorem pop_zero_iff {x : Nat} : pop x = 0 ↔ x = 0 := by
  constructor
  · intro h
    refine Classical.not_not.mp fun z => ?_
    have := pop_clow z
    omega
  · rintro rfl
    have : bitsOf 0 = [] := List.eq_nil_iff_forall_not_mem.mpr fun x hx => by
      have := mem_bits.mp hx
      rw [Nat.zero_testBit] at this
      cases this
    unfold pop
    rw [this]
    rfl
def clows : Nat → Nat → Nat
  | 0, x => x
  | i + 1, x => let y := clows i x; y &&& (y - 1)
theorem clows_pop (x : Nat) : ∀ i, pop (clows i x) = pop x - i
  | 0 => rfl
  | i + 1 => by
    show pop (clows i x &&& (clows i x - 1)) = _
    have ih := clows_pop x i
    by_cases e : clows i x = 0
    · rw [e] at ih ⊢
      have z := pop_zero_iff.mpr (rfl : (0 : Nat) = 0)
      rw [Nat.zero_and]
      omega
    · have := pop_clow e
      omega
theorem fits_iff (x k : Nat) : clows k x = 0 ↔ pop x ≤ k := by
  rw [← pop_zero_iff, clows_pop]
  omega
/-- the next part below -/
theorem next_part : ∀ b p m q, p ≤ b → 0 < p → Sub p m → Sub q m → q < p → q ≤ (p - 1) &&& m
  | 0, p, m, q, hb, h0, _, _, _ => absurd (Nat.le_zero.mp hb) (Nat.ne_of_gt h0)
  | b + 1, p, m, q, hb, h0, hp, hq, hlt => by
    have half : ∀ {x y : Nat}, Sub x y → Sub (x / 2) (y / 2) := fun {x y} h j hj => by
      rw [← Nat.testBit_add_one] at hj ⊢
      exact h _ hj
    have low : ∀ {x y : Nat}, Sub x y → x % 2 ≤ y % 2 := fun {x y} h => by
      have := h 0
      rw [Nat.testBit_zero, Nat.testBit_zero, decide_eq_true_iff, decide_eq_true_iff] at this
      omega
    have hand : ∀ x y : Nat, x &&& y = 2 * (x / 2 &&& y / 2) + (x % 2) * (y % 2) := fun x y => by
      apply Nat.eq_of_testBit_eq
      intro j
      have hm : x % 2 * (y % 2) = 0 ∨ x % 2 * (y % 2) = 1 := by
        rcases Nat.mod_two_eq_zero_or_one x with h | h <;> rcases Nat.mod_two_eq_zero_or_one y with h' | h' <;> rw [h, h'] <;> simp
      cases j with
      | zero =>
        rw [Nat.testBit_and, Nat.testBit_zero, Nat.testBit_zero, Nat.testBit_zero, show (2 * (x / 2 &&& y / 2) + x % 2 * (y % 2)) % 2 = x % 2 * (y % 2) by omega]
        rcases Nat.mod_two_eq_zero_or_one x with h | h <;> rcases Nat.mod_two_eq_zero_or_one y with h' | h' <;> rw [h, h'] <;> rfl
      | succ j => rw [Nat.testBit_and, Nat.testBit_add_one, Nat.testBit_add_one, Nat.testBit_add_one, show (2 * (x / 2 &&& y / 2) + x % 2 * (y % 2)) / 2 = (x / 2 &&& y / 2) by omega, Nat.testBit_and]
    rw [hand]
    by_cases e : p % 2 = 1
    · have h1 := sub_and.mpr (half hp)
      rw [show (p - 1) / 2 = p / 2 by omega, h1]
      have := low hq
      have := low hp
      omega
    · have ih := next_part b (p / 2) (m / 2) (q / 2) (by omega) (by omega) (half hp) (half hq)
      rw [show (p - 1) / 2 = p / 2 - 1 by omega, show (p - 1) % 2 = 1 by omega, Nat.one_mul]
      have h3 := low hq
      by_cases e2 : q / 2 < p / 2
      · have := ih e2
        omega
      · omega
end GX
set_option Elab.async false
set_option linter.all false
set_option maxRecDepth 100000
set_option maxHeartbeats 4000000
/-! t.index(x), t a tuple of whole numbers from 0 on. -/
namespace GX
open PySem PySem.Spec PyProof.Rows L2
end GX
set_option Elab.async false
set_option linter.all false
set_option maxRecDepth 100000
set_option maxHeartbeats 4000000
/-! Tuples held as just made (frozen), so that their methods can be called; and let go again. -/
namespace GX
open PySem PySem.Spec PyProof.Rows L2
/-- a tuple that is known to hold no dict -/
def FzT (H : Hp) (p : Addr) (xs : List V) : Prop := ∃ o : Obj, H p = some (.frz o (.tup xs)) ∧ o.cls = .type "tuple" ∧ o.dict = none
theorem FzT.mono {H H' : Hp} {p : Addr} {xs : List V} (h : FzT H p xs) (k : ∀ u, H p = some u → H' p = some u) : FzT H' p xs := by
  obtain ⟨o, h1, h2⟩ := h
  exact ⟨o, k _ h1, h2⟩
end GX
set_option Elab.async false
set_option linter.all false
set_option maxRecDepth 100000
set_option maxHeartbeats 4000000
/-! Tuples that are held frozen from their making: displays, sums, and dict() of them. -/
namespace GX
open PySem PySem.Spec PyProof.Rows L2
/-- what stands now stood not ahead, if it is none there -/
def Was (H H' : Hp) : Prop := ∀ b, H' b = none → H b = none
theorem Was.refl {H : Hp} : Was H H := fun _ e => e
theorem Was.trans {H H1 H2 : Hp} (a : Was H H1) (b : Was H1 H2) : Was H H2 := fun c e => a c (b c e)
theorem FzT.same {H H' : Hp} {p : Addr} {xs : List V} (h : FzT H p xs) (s : Same H H') : FzT H' p xs := h.mono fun u e => s _ _ e
end GX
set_option Elab.async false
set_option linter.all false
set_option maxRecDepth 100000
set_option maxHeartbeats 4000000
/-! Things of any make, as they stand in the heap, and what is a net of them. -/
namespace GX
open PySem PySem.Spec PyProof.Rows L2
theorem pg_tupK {X : Cx} {K : PySem.W.Frag} {es : List Expr} {k : Nat} {t : TGs} {n : Nat} {pos : _} (h : X.K = K) (hc : X.calm = true) (hh : PGs X es t) (hn : (assignEach es X.env).length = n := by rfl) (hst : (assignEach es X.env).findIdx? (·.1) = none := by rfl) : PG X (.Tuple es k pos) (gTup K n t) := by subst h; exact pg_tup hc hh hn hst
inductive Th where
  | non | bl (b : Bool) | int (i : Int) | str (x : Str) | oth (l : Bool) | tup (ts : List Th)
mutual
inductive Rep (H : Hp) : V → Th → Prop
  | non : Rep H .non .non
  | bl (b : Bool) : Rep H (.bl b) (.bl b)
  | int (i : Int) : Rep H (.int i) (.int i)
  | str (x : Str) : Rep H (.str x) (.str x)
  | lst {a : Addr} {xs : List V} (e : H a = some (.lst xs)) : Rep H (.ref a) (.oth true)
  | dic {a : Addr} {kvs : List (Key × V)} (e : H a = some (.dK kvs)) : Rep H (.ref a) (.oth false)
  | tup {a : Addr} {vs : List V} {ts : List Th} (e : H a = some (.tup vs)) (r : RepAll H vs ts) : Rep H (.ref a) (.tup ts)
inductive RepAll (H : Hp) : List V → List Th → Prop
  | nil : RepAll H [] []
  | cons {v : V} {vs : List V} {t : Th} {ts : List Th} : Rep H v t → RepAll H vs ts → RepAll H (v :: vs) (t :: ts)
end
/-- lists, dicts and tuples stand -/
def KeepT (H H' : Hp) : Prop := ∀ b o, H b = some o → (∀ ps, o ≠ .tbl ps) → H' b = some o
mutual
theorem Rep.mono {H H' : Hp} (k : KeepT H H') : ∀ {v : V} {t : Th}, Rep H v t → Rep H' v t
  | _, _, .non => .non
  | _, _, .bl b => .bl b
  | _, _, .int i => .int i
  | _, _, .str x => .str x
  | _, _, .lst e => .lst (k _ _ e fun _ z => by cases z)
  | _, _, .dic e => .dic (k _ _ e fun _ z => by cases z)
  | _, _, .tup e r => .tup (k _ _ e fun _ z => by cases z) (r.mono k)
theorem RepAll.mono {H H' : Hp} (k : KeepT H H') : ∀ {vs : List V} {ts : List Th}, RepAll H vs ts → RepAll H' vs ts
  | _, _, .nil => .nil
  | _, _, .cons a b => .cons (a.mono k) (b.mono k)
end
theorem KeepT.same {H H' : Hp} (s : Same H H') : KeepT H H' := fun b o e _ => s b o e
theorem KeepT.aft {Ts : List Addr} {H H' : Hp} (t : Tabs Ts H) (a : Aft Ts H H') : KeepT H H' := fun b o e n => a.kp b o e (t.nott e n)
theorem RepAll.length {H : Hp} : ∀ {vs : List V} {ts : List Th}, RepAll H vs ts → vs.length = ts.length
  | _, _, .nil => rfl
  | _, _, .cons _ b => by rw [List.length_cons, List.length_cons, b.length]
theorem RepAll.get {H : Hp} : ∀ {vs : List V} {ts : List Th} {i : Nat} {v : V}, RepAll H vs ts → vs[i]? = some v → ∃ t, ts[i]? = some t ∧ Rep H v t
  | _, _, _, _, .nil, h => by simp at h
  | _, _, 0, _, .cons a _, h => by cases h; exact ⟨_, rfl, a⟩
  | _, _, i + 1, _, .cons _ b, h => RepAll.get (i := i) b h
theorem RepAll.append {H : Hp} : ∀ {vs ws : List V} {ts us : List Th}, RepAll H vs ts → RepAll H ws us → RepAll H (vs ++ ws) (ts ++ us)
  | _, _, _, _, .nil, s => s
  | _, _, _, _, .cons a b, s => .cons a (b.append s)
theorem RepAll.drop {H : Hp} : ∀ {vs : List V} {ts : List Th} (n : Nat), RepAll H vs ts → RepAll H (vs.drop n) (ts.drop n)
  | _, _, 0, r => r
  | _, _, _ + 1, .nil => .nil
  | _, _, n + 1, .cons _ b => b.drop n
theorem RepAll.take {H : Hp} : ∀ {vs : List V} {ts : List Th} (n : Nat), RepAll H vs ts → RepAll H (vs.take n) (ts.take n)
  | _, _, 0, _ => .nil
  | _, _, _ + 1, .nil => .nil
  | _, _, n + 1, .cons a b => .cons a (b.take n)
theorem RepAll.reverse {H : Hp} : ∀ {vs : List V} {ts : List Th}, RepAll H vs ts → RepAll H vs.reverse ts.reverse
  | _, _, .nil => .nil
  | _, _, .cons a b => by
    rw [List.reverse_cons, List.reverse_cons]
    exact b.reverse.append (.cons a .nil)
def tyN : Th → String
  | .non => "NoneType"
  | .bl _ => "bool"
  | .int _ => "int"
  | .str _ => "str"
  | .oth true => "list"
  | .oth false => "dict"
  | .tup _ => "tuple"
theorem tyx {K : PySem.W.Frag} {H : Hp} {v : V} {t : Th} (r : Rep H v t) : TyX K H v (.type (tyN t)) := by
  cases r with
  | non => exact .base .non
  | bl b => exact .base (.bl b)
  | int i => exact .base (.int i)
  | str x => exact .base (.str x)
  | lst e => exact .base (.lst e)
  | dic e => exact .base (.dK e)
  | tup e _ => exact .base (.tup e)
def Th.kInt : Th → Bool
  | .bl _ => true
  | .int _ => true
  | _ => false
def Th.kBool : Th → Bool
  | .bl _ => true
  | _ => false
def Th.kTup : Th → Bool
  | .tup _ => true
  | _ => false
theorem kInt_ok : ∀ t : Th, kitB (tyN t) "int" = some t.kInt
  | .non => by decide +kernel
  | .bl _ => by show kitB "bool" "int" = some true; decide +kernel
  | .int _ => by show kitB "int" "int" = some true; decide +kernel
  | .str _ => by show kitB "str" "int" = some false; decide +kernel
  | .oth true => by show kitB "list" "int" = some false; decide +kernel
  | .oth false => by show kitB "dict" "int" = some false; decide +kernel
  | .tup _ => by show kitB "tuple" "int" = some false; decide +kernel
theorem kBool_ok : ∀ t : Th, kitB (tyN t) "bool" = some t.kBool
  | .non => by decide +kernel
  | .bl _ => by show kitB "bool" "bool" = some true; decide +kernel
  | .int _ => by show kitB "int" "bool" = some false; decide +kernel
  | .str _ => by show kitB "str" "bool" = some false; decide +kernel
  | .oth true => by show kitB "list" "bool" = some false; decide +kernel
  | .oth false => by show kitB "dict" "bool" = some false; decide +kernel
  | .tup _ => by show kitB "tuple" "bool" = some false; decide +kernel
theorem kTup_ok : ∀ t : Th, kitB (tyN t) "tuple" = some t.kTup
  | .non => by decide +kernel
  | .bl _ => by show kitB "bool" "tuple" = some false; decide +kernel
  | .int _ => by show kitB "int" "tuple" = some false; decide +kernel
  | .str _ => by show kitB "str" "tuple" = some false; decide +kernel
  | .oth true => by show kitB "list" "tuple" = some false; decide +kernel
  | .oth false => by show kitB "dict" "tuple" = some false; decide +kernel
  | .tup _ => by show kitB "tuple" "tuple" = some true; decide +kernel
/-! ### what is a net -/
def Th.whole : Th → Bool
  | .int _ => true
  | _ => false
def Th.isB (b : Int) : Th → Bool
  | .int i => decide (0 ≤ i) && decide (i < b)
  | _ => false
def Th.many : Th → Bool
  | .int i => decide (1 ≤ i) && decide (i ≤ 8)
  | _ => false
def Th.gate (w : Int) : Th → Bool
  | .tup [k, a, b] => k.isB 16 && a.isB w && b.isB w
  | _ => false
def gatesFrom (w : Int) : List Th → Bool
  | [] => true
  | t :: r => t.gate w && gatesFrom (w + 1) r
def Th.gates (m : Int) : Th → Bool
  | .tup ts => decide (ts.length ≤ 16) && gatesFrom m ts
  | _ => false
def Th.outs (c : Int) : Th → Bool
  | .tup ts => decide (1 ≤ ts.length) && decide (ts.length ≤ 8) && ts.all (Th.isB c)
  | _ => false
def Th.val : Th → Int
  | .int i => i
  | _ => 0
def Th.len : Th → Nat
  | .tup ts => ts.length
  | _ => 0
def Th.net : Th → Bool
  | .tup [m, g, o] => m.many && g.gates m.val && o.outs (m.val + g.len)
  | _ => false
theorem gatesFrom_split (w : Int) : ∀ (ts : List Th) (i : Nat), gatesFrom w ts = (gatesFrom w (ts.take i) && gatesFrom (w + min i ts.length) (ts.drop i))
  | [], i => by simp [gatesFrom]
  | t :: r, 0 => by simp [gatesFrom]
  | t :: r, i + 1 => by
    show (t.gate w && gatesFrom (w + 1) r) = ((t.gate w && gatesFrom (w + 1) (r.take i)) && gatesFrom (w + ((min (i + 1) (r.length + 1) : Nat) : Int)) (r.drop i))
    rw [gatesFrom_split (w + 1) r i, Bool.and_assoc, show (w + 1 + ((min i r.length : Nat) : Int)) = w + ((min (i + 1) (r.length + 1) : Nat) : Int) by omega]
theorem gatesFrom_snoc {w : Int} {ts : List Th} {i : Nat} {t : Th} (h : ts[i]? = some t) : gatesFrom w (ts.take (i + 1)) = (gatesFrom w (ts.take i) && t.gate (w + i)) := by
  obtain ⟨hl, _⟩ := List.getElem?_eq_some_iff.mp h
  rw [gatesFrom_split w (ts.take (i + 1)) i, List.take_take, Nat.min_eq_left (Nat.le_succ i)]
  congr 1
  rw [List.take_add_one, h, List.drop_append_of_le_length (by rw [List.length_take]; omega), List.drop_of_length_le (by rw [List.length_take]; omega), Option.toList_some, List.nil_append]
  show (t.gate _ && gatesFrom _ []) = _
  rw [show gatesFrom (w + ((min i (ts.take i ++ [t]).length : Nat) : Int) + 1) [] = true from rfl, Bool.and_true, List.length_append, List.length_take]
  congr 1
  simp only [List.length_cons, List.length_nil]
  omega
theorem gatesFrom_bad {w : Int} {ts : List Th} {i : Nat} {t : Th} (h : ts[i]? = some t) (hf : t.gate (w + i) = false) : gatesFrom w ts = false := by
  rw [gatesFrom_split w ts (i + 1), gatesFrom_snoc h, hf, Bool.and_false, Bool.false_and]
end GX
set_option Elab.async false
set_option linter.all false
set_option maxRecDepth 100000
set_option maxHeartbeats 4000000
/-! Things of whole numbers and tuples alone, no longer than n, no deeper than d. -/
namespace GX
open PySem PySem.Spec PyProof.Rows L2
def Th.pl (n : Nat) : Nat → Th → Bool
  | 0, _ => false
  | _ + 1, .int _ => true
  | d + 1, .tup ts => decide (ts.length ≤ n) && ts.all (Th.pl n d)
  | _ + 1, _ => false
/-- tuples stand -/
def KeepU (H H' : Hp) : Prop := ∀ b xs, H b = some (.tup xs) → H' b = some (.tup xs)
theorem KeepU.trans {H H1 H2 : Hp} (a : KeepU H H1) (b : KeepU H1 H2) : KeepU H H2 := fun c xs e => b c xs (a c xs e)
theorem KeepU.same {H H' : Hp} (s : Same H H') : KeepU H H' := fun b xs e => s b _ e
theorem pl_monoAll {H H' : Hp} {n d : Nat} (ih : ∀ v t, Th.pl n d t = true → Rep H v t → Rep H' v t) : ∀ {vs : List V} {ts : List Th}, ts.all (Th.pl n d) = true → RepAll H vs ts → RepAll H' vs ts
  | _, _, _, .nil => .nil
  | _, _, p, .cons a b => by
    rw [List.all_cons, Bool.and_eq_true] at p
    exact .cons (ih _ _ p.1 a) (pl_monoAll ih p.2 b)
theorem pl_mono {H H' : Hp} {n : Nat} (k : KeepU H H') : ∀ (d : Nat) (v : V) (t : Th), Th.pl n d t = true → Rep H v t → Rep H' v t
  | 0, _, _, p, _ => by cases p
  | d + 1, v, t, p, r => by
    cases r with
    | int i => exact .int i
    | @tup a vs ts e ra =>
      have p' : (decide (ts.length ≤ n) && ts.all (Th.pl n d)) = true := p
      rw [Bool.and_eq_true] at p'
      exact .tup (k _ _ e) (pl_monoAll (pl_mono k d) p'.2 ra)
    | _ => cases p
theorem pl_le {n m : Nat} (h : n ≤ m) : ∀ (d : Nat) (t : Th), Th.pl n d t = true → Th.pl m d t = true
  | 0, _, p => by cases p
  | d + 1, t, p => by
    cases t with
    | int i => rfl
    | tup ts =>
      have p' : (decide (ts.length ≤ n) && ts.all (Th.pl n d)) = true := p
      rw [Bool.and_eq_true] at p'
      show (decide (ts.length ≤ m) && ts.all (Th.pl m d)) = true
      rw [Bool.and_eq_true]
      refine ⟨decide_eq_true (Nat.le_trans (of_decide_eq_true p'.1) h), ?_⟩
      rw [List.all_eq_true]
      intro x hx
      exact pl_le h d x (List.all_eq_true.mp p'.2 x hx)
    | _ => cases p
theorem pl_dpAll {K : PySem.W.Frag} {H : Hp} {n d : Nat} (ih : ∀ v t, Th.pl n d t = true → Rep H v t → ∃ x, Dp K H v x ∧ x.canLay0 = true ∧ x.depth ≤ d) :
    ∀ {vs : List V} {ts : List Th}, ts.all (Th.pl n d) = true → RepAll H vs ts → ∃ xs, DpAll K H vs xs ∧ PyData.canLayAll0 xs = true ∧ PyData.depthAll xs ≤ d ∧ xs.length = vs.length
  | _, _, _, .nil => ⟨[], .nil, rfl, Nat.zero_le _, rfl⟩
  | _, _, p, .cons a b => by
    rw [List.all_cons, Bool.and_eq_true] at p
    obtain ⟨x, h1, h2, h3⟩ := ih _ _ p.1 a
    obtain ⟨xs, g1, g2, g3, g4⟩ := pl_dpAll ih p.2 b
    refine ⟨x :: xs, .cons h1 g1, ?_, ?_, by rw [List.length_cons, List.length_cons, g4]⟩
    · show (x.canLay0 && PyData.canLayAll0 xs) = true
      rw [h2, g2]
      rfl
    · show max x.depth (PyData.depthAll xs) ≤ d
      omega
theorem pl_dp {K : PySem.W.Frag} {H : Hp} {n : Nat} : ∀ (d : Nat) (v : V) (t : Th), Th.pl n d t = true → Rep H v t → ∃ x, Dp K H v x ∧ x.canLay0 = true ∧ x.depth ≤ d
  | 0, v, t, p, r => by cases p
  | d + 1, v, t, p, r => by
    cases r with
    | int i => exact ⟨.int i, .int i, rfl, Nat.zero_le _⟩
    | @tup a vs ts e ra =>
      have p' : (decide (ts.length ≤ n) && ts.all (Th.pl n d)) = true := p
      rw [Bool.and_eq_true] at p'
      obtain ⟨xs, g1, g2, g3, _⟩ := pl_dpAll (pl_dp d) p'.2 ra
      exact ⟨.tuple xs, .tup (SqT.of e) g1, g2, Nat.succ_le_succ g3⟩
    | _ => cases p
/-- things of the values: whole numbers and tuples -/
def Pl (n d : Nat) (H : Hp) (v : V) : Prop := ∃ t, Rep H v t ∧ Th.pl n d t = true
def PlAll (n d : Nat) (H : Hp) (vs : List V) : Prop := ∃ ts, RepAll H vs ts ∧ ts.all (Th.pl n d) = true
theorem Pl.mono {n d : Nat} {H H' : Hp} {v : V} (h : Pl n d H v) (k : KeepU H H') : Pl n d H' v := let ⟨t, r, p⟩ := h; ⟨t, pl_mono k d v t p r, p⟩
theorem PlAll.mono {n d : Nat} {H H' : Hp} {vs : List V} (h : PlAll n d H vs) (k : KeepU H H') : PlAll n d H' vs := let ⟨ts, r, p⟩ := h; ⟨ts, pl_monoAll (pl_mono k d) p r, p⟩
theorem all_sub {α : Type} {f : α → Bool} {xs ys : List α} (h : xs.all f = true) (s : ∀ x ∈ ys, x ∈ xs) : ys.all f = true := by
  rw [List.all_eq_true] at h ⊢
  exact fun x hx => h x (s x hx)
theorem PlAll.drop {n d : Nat} {H : Hp} {vs : List V} (i : Nat) (h : PlAll n d H vs) : PlAll n d H (vs.drop i) := let ⟨ts, r, p⟩ := h; ⟨ts.drop i, r.drop i, all_sub p fun _ hx => List.mem_of_mem_drop hx⟩
theorem PlAll.take {n d : Nat} {H : Hp} {vs : List V} (i : Nat) (h : PlAll n d H vs) : PlAll n d H (vs.take i) := let ⟨ts, r, p⟩ := h; ⟨ts.take i, r.take i, all_sub p fun _ hx => List.mem_of_mem_take hx⟩
theorem PlAll.cut {n d : Nat} {H : Hp} {vs : List V} (lo hi : Option Int) (h : PlAll n d H vs) : PlAll n d H (cutV vs lo hi) := by
  unfold cutV
  exact (h.drop _).take _
theorem PlAll.reverse {n d : Nat} {H : Hp} {vs : List V} (h : PlAll n d H vs) : PlAll n d H vs.reverse := let ⟨ts, r, p⟩ := h; ⟨ts.reverse, r.reverse, all_sub p fun _ hx => List.mem_reverse.mp hx⟩
theorem PlAll.append {n d : Nat} {H : Hp} {vs ws : List V} (h : PlAll n d H vs) (g : PlAll n d H ws) : PlAll n d H (vs ++ ws) := let ⟨ts, r, p⟩ := h; let ⟨us, s, q⟩ := g; ⟨ts ++ us, r.append s, by rw [List.all_append, p, q]; rfl⟩
theorem PlAll.get {n d : Nat} {H : Hp} {vs : List V} {i : Nat} {v : V} (h : PlAll n d H vs) (e : vs[i]? = some v) : Pl n d H v := by
  obtain ⟨ts, r, p⟩ := h
  obtain ⟨t, ht, rt⟩ := r.get e
  exact ⟨t, rt, List.all_eq_true.mp p t (List.mem_of_getElem? ht)⟩
theorem PlAll.le {n m d : Nat} {H : Hp} {vs : List V} (h : PlAll n d H vs) (l : n ≤ m) : PlAll m d H vs := let ⟨ts, r, p⟩ := h; ⟨ts, r, by
  rw [List.all_eq_true] at p ⊢
  exact fun x hx => pl_le l d x (p x hx)⟩
theorem Pl.tup {n d : Nat} {H : Hp} {a : Addr} {vs : List V} (e : H a = some (.tup vs)) (hl : vs.length ≤ n) (h : PlAll n d H vs) : Pl n (d + 1) H (.ref a) := by
  obtain ⟨ts, r, p⟩ := h
  refine ⟨.tup ts, .tup e r, ?_⟩
  show (decide (ts.length ≤ n) && ts.all (Th.pl n d)) = true
  rw [p, Bool.and_true]
  exact decide_eq_true (by rw [← r.length]; exact hl)
theorem Pl.int {n d : Nat} {H : Hp} (i : Int) : Pl n (d + 1) H (.int i) := ⟨.int i, .int i, rfl⟩
theorem PlAll.dp {K : PySem.W.Frag} {n d : Nat} {H : Hp} {vs : List V} (h : PlAll n d H vs) : ∃ xs, DpAll K H vs xs ∧ PyData.canLayAll0 xs = true ∧ PyData.depthAll xs ≤ d ∧ xs.length = vs.length := let ⟨_, r, p⟩ := h; pl_dpAll (pl_dp d) p r
/-- t == () and l == [] -/
theorem shaped_tup {xs : List PyData} {d : Nat} (h1 : PyData.canLayAll0 xs = true) (h2 : PyData.depthAll xs ≤ d) (h3 : d < 64) : SeqAt.shaped (.tuple xs) = true := by
  show (PyData.canLayAll0 xs && decide (PyData.depthAll xs + 1 ≤ 64)) = true
  rw [h1, decide_eq_true (by omega)]
  rfl
end GX
set_option Elab.async false
set_option linter.all false
set_option maxRecDepth 100000
set_option maxHeartbeats 4000000
/-! Dicts whose keys are wires; dicts of covers. -/
namespace GX
open PySem PySem.Spec PyProof.Rows L2
/-- a dict with True for each of these -/
def kvF (F : List Nat) : List (L2.Key × V) := F.map fun x : Nat => (nK x, V.bl true)
theorem kvF_len (F : List Nat) : (kvF F).length = F.length := List.length_map _
theorem kvF_some (F : List Nat) (x : Nat) : (valV (kvF F) (nK x)).isSome = decide (x ∈ F) := by
  rw [← valV_any]
  unfold kvF
  rw [List.any_map, Bool.eq_iff_iff, List.any_eq_true, decide_eq_true_iff]
  constructor
  · rintro ⟨y, hy, e⟩
    have e' : nK y = nK x := of_decide_eq_true e
    rw [← nK_inj e']
    exact hy
  · intro h
    exact ⟨x, h, decide_eq_true rfl⟩
theorem kvF_put {F : List Nat} {x : Nat} (h : x ∉ F) : putK (kvF F) (nK x) (.bl true) = kvF (F ++ [x]) := by
  have : valV (kvF F) (nK x) = none := by
    have := kvF_some F x
    rw [decide_eq_false h] at this
    cases e : valV (kvF F) (nK x) with
    | none => rfl
    | some v => rw [e] at this; cases this
  rw [putK_new _ this]
  unfold kvF
  rw [List.map_append]
  rfl
/-- a cover as data -/
def covD (cv : List Tb) : List PyData := cv.map fun t : Tb => .tuple [.int ((t.1 : Nat) : Int), .tuple ((t.2.map fun n : Nat => (n : Int)).map PyData.int)]
theorem canInts : ∀ xs : List Int, PyData.canLayAll0 (xs.map PyData.int) = true ∧ PyData.depthAll (xs.map PyData.int) = 0
  | [] => ⟨rfl, rfl⟩
  | x :: r => by
    obtain ⟨h1, h2⟩ := canInts r
    refine ⟨?_, ?_⟩
    · show ((PyData.int x).canLay0 && PyData.canLayAll0 (r.map PyData.int)) = true
      rw [h1]
      rfl
    · show max (PyData.int x).depth (PyData.depthAll (r.map PyData.int)) = 0
      rw [h2]
      rfl
theorem dpCovAll {K : PySem.W.Frag} {H : Hp} : ∀ {qs : List Addr} {cv : List Tb}, PtsAt TbAt H qs cv → DpAll K H (qs.map V.ref) (covD cv)
  | [], cv, x => by
    have : cv = [] := List.length_eq_zero_iff.mp x.1.symm
    subst this
    exact .nil
  | p :: r, [], x => by cases x.1
  | p :: r, t :: cv, x => by
    obtain ⟨c, h1, h2⟩ := x.2 0 p t rfl rfl
    exact .cons (.tup (SqT.of h1) (.cons (.int _) (.cons (.tup (SqT.of h2) (dpNat K _ _)) .nil))) (dpCovAll (K := K) (H := H) (qs := r) (cv := cv) ⟨by simpa using x.1, fun i p' t' e1 e2 => x.2 (i + 1) p' t' (by simpa using e1) (by simpa using e2)⟩)
theorem CovAt.dp {K : PySem.W.Frag} {H : Hp} {a : Addr} {cv : List Tb} {qs : List Addr} (x : CovAt H a cv qs) : Dp K H (.ref a) (.tuple (covD cv)) := .tup (SqT.of x.top) (dpCovAll x.ts)
end GX
set_option Elab.async false
set_option linter.all false
set_option maxRecDepth 100000
set_option maxHeartbeats 4000000
/-! Masks as whole numbers. -/
namespace GX
open PySem PySem.Spec PyProof.Rows L2
theorem ip_and {X : Cx} : PIp X .BitAnd (ipI fun i j => Builtin.bitAnd i j) := by
  intro pins s σ H x y v u Q I r1 r2 h
  obtain ⟨i, j, e1, e2, q⟩ := h
  subst e1; subst e2
  obtain ⟨t, rfl⟩ := r1
  obtain ⟨t', rfl⟩ := r2
  exact iand_int ⟨.int _, H, I.tok _, ⟨_, rfl⟩, q⟩
theorem and_of (a b : Nat) : Builtin.bitAnd ((a : Nat) : Int) ((b : Nat) : Int) = ((a &&& b : Nat) : Int) := by
  rw [bitAnd_pp (Int.natCast_nonneg a) (Int.natCast_nonneg b), Int.toNat_natCast, Int.toNat_natCast]
theorem or_of (a b : Nat) : Builtin.bitOr ((a : Nat) : Int) ((b : Nat) : Int) = ((a ||| b : Nat) : Int) := by
  rw [bitOr_nn (Int.natCast_nonneg a) (Int.natCast_nonneg b), Int.toNat_natCast, Int.toNat_natCast]
theorem and_low (a : Nat) : Builtin.bitAnd ((a : Nat) : Int) (((a : Nat) : Int) - 1) = ((a &&& (a - 1) : Nat) : Int) := by
  cases a with
  | zero => rfl
  | succ a =>
    rw [show (((a + 1 : Nat) : Nat) : Int) - 1 = ((a : Nat) : Int) by omega, and_of]
    rfl
theorem and_next {p M : Nat} (h : 0 < p) : Builtin.bitAnd (((p : Nat) : Int) - 1) ((M : Nat) : Int) = (((p - 1) &&& M : Nat) : Int) := by
  rw [show ((p : Nat) : Int) - 1 = ((p - 1 : Nat) : Int) by omega, and_of]
theorem kvF_again {F : List Nat} {x : Nat} (h : x ∈ F) : putK (kvF F) (nK x) (.bl true) = kvF F := by
  have ha : ((kvF F).any fun kv => decide (kv.1 = nK x)) = true := by
    rw [List.any_eq_true]
    exact ⟨(nK x, .bl true), List.mem_map.mpr ⟨x, h, rfl⟩, decide_eq_true rfl⟩
  unfold putK
  rw [if_pos ha]
  conv => rhs; rw [← List.map_id (kvF F)]
  refine List.map_congr_left fun kv hkv => ?_
  obtain ⟨y, _, rfl⟩ := List.mem_map.mp hkv
  by_cases e : nK y = nK x
  · rw [if_pos e]; rfl
  · rw [if_neg e]; rfl
/-- what is found so far -/
def FoundW (k : Nat) (fs ss : List Nat) (i j : Nat) (F : List Nat) : Prop := ∀ M, M ∈ F ↔ ((∃ f ∈ fs.take i, ∃ s ∈ ss, M = f ||| s ∧ pop M ≤ k) ∨ ∃ s ∈ ss.take j, M = fs.getD i 0 ||| s ∧ pop M ≤ k)
theorem FoundW.zero (k : Nat) (fs ss : List Nat) : FoundW k fs ss 0 0 [] := fun M => ⟨fun h => (by cases h), fun h => by
  rcases h with ⟨f, hf, _⟩ | ⟨s, hs, _⟩
  · cases hf
  · cases hs⟩
theorem mem_take_succ {l : List Nat} {i : Nat} (h : i < l.length) (x : Nat) : x ∈ l.take (i + 1) ↔ (x ∈ l.take i ∨ x = l.getD i 0) := by
  rw [List.take_add_one, List.getElem?_eq_getElem h, Option.toList_some, List.mem_append, List.mem_singleton, List.getD_eq_getElem?_getD, List.getElem?_eq_getElem h]
  rfl
theorem FoundW.row {k : Nat} {fs ss : List Nat} {i : Nat} {F : List Nat} (hi : i < fs.length) (h : FoundW k fs ss i ss.length F) : FoundW k fs ss (i + 1) 0 F := fun M => by
  rw [h M, List.take_length]
  constructor
  · rintro (⟨f, hf, r⟩ | r)
    · exact .inl ⟨f, (mem_take_succ hi f).mpr (.inl hf), r⟩
    · exact .inl ⟨_, (mem_take_succ hi _).mpr (.inr rfl), r⟩
  · rintro (⟨f, hf, r⟩ | ⟨s, hs, _⟩)
    · rcases (mem_take_succ hi f).mp hf with hf | rfl
      · exact .inl ⟨f, hf, r⟩
      · exact .inr r
    · cases hs
theorem FoundW.no {k : Nat} {fs ss : List Nat} {i j : Nat} {F : List Nat} (hj : j < ss.length) (h : FoundW k fs ss i j F) (np : ¬ pop (fs.getD i 0 ||| ss.getD j 0) ≤ k) : FoundW k fs ss i (j + 1) F := fun M => by
  rw [h M]
  constructor
  · rintro (r | ⟨s, hs, r⟩)
    · exact .inl r
    · exact .inr ⟨s, (mem_take_succ hj s).mpr (.inl hs), r⟩
  · rintro (r | ⟨s, hs, rfl, r2⟩)
    · exact .inl r
    · rcases (mem_take_succ hj s).mp hs with hs | rfl
      · exact .inr ⟨s, hs, rfl, r2⟩
      · exact absurd r2 np
theorem FoundW.yes {k : Nat} {fs ss : List Nat} {i j : Nat} {F F' : List Nat} (hj : j < ss.length) (h : FoundW k fs ss i j F) (np : pop (fs.getD i 0 ||| ss.getD j 0) ≤ k) (hF : ∀ M, M ∈ F' ↔ (M ∈ F ∨ M = fs.getD i 0 ||| ss.getD j 0)) : FoundW k fs ss i (j + 1) F' := fun M => by
  rw [hF M, h M]
  constructor
  · rintro ((r | ⟨s, hs, r⟩) | rfl)
    · exact .inl r
    · exact .inr ⟨s, (mem_take_succ hj s).mpr (.inl hs), r⟩
    · exact .inr ⟨_, (mem_take_succ hj _).mpr (.inr rfl), rfl, np⟩
  · rintro (r | ⟨s, hs, rfl, r2⟩)
    · exact .inl (.inl r)
    · rcases (mem_take_succ hj s).mp hs with hs | rfl
      · exact .inl (.inr ⟨s, hs, rfl, r2⟩)
      · exact .inr rfl
theorem FoundW.all {k : Nat} {fs ss F : List Nat} (h : FoundW k fs ss fs.length 0 F) : Found k fs ss F := fun M => by
  rw [h M, List.take_length]
  constructor
  · rintro (r | ⟨s, hs, _⟩)
    · exact r
    · cases hs
  · exact fun r => .inl r
theorem or_lt23 {a b : Nat} (h : a < 2 ^ 23) (g : b < 2 ^ 23) : a ||| b < 2 ^ 23 := Nat.or_lt_two_pow h g
theorem nodup_lt23 {F : List Nat} (nd : F.Nodup) (h : ∀ M ∈ F, M < 2 ^ 23) : F.length < sizeLine := by
  have := nd.length_le_of_subset (l₂ := List.range (2 ^ 23)) fun x hx => List.mem_range.mpr (h x hx)
  rw [List.length_range] at this
  exact Nat.lt_of_le_of_lt this (by decide)
end GX
namespace GX
open PySem PySem.Spec PyProof.Rows L2
theorem bits_small {M : Nat} (h : M < 2 ^ 23) : Builtin.Int.intBits ((M : Nat) : Int) ≤ 10000 := by
  refine Nat.le_trans (m := 23) ?_ (by decide)
  rw [intBits_le_iff, Int.natAbs_natCast]
  exact h
end GX
namespace GX
open PySem PySem.Spec PyProof.Rows L2
theorem putK_le (kvs : List (L2.Key × V)) (k : L2.Key) (v : V) : (putK kvs k v).length ≤ kvs.length + 1 := by
  unfold putK
  by_cases h : (kvs.any fun kv => decide (kv.1 = k)) = true
  · rw [if_pos h, List.length_map]
    omega
  · rw [if_neg h, List.length_append]
    exact Nat.le_refl _
theorem mem_take_lt {ws : List Nat} (r : ws.Pairwise (· < ·)) {i y : Nat} (hi : i < ws.length) (hy : y ∈ ws) (h : y < ws.getD i 0) : y ∈ ws.take i := by
  obtain ⟨j, hj, rfl⟩ := List.mem_iff_getElem.mp hy
  have e : ws.getD i 0 = ws[i] := by rw [List.getD_eq_getElem?_getD, List.getElem?_eq_getElem hi]; rfl
  rw [e] at h
  refine List.mem_take_iff_getElem.mpr ⟨j, ?_, rfl⟩
  by_cases hji : j < i
  · omega
  · by_cases he : i = j
    · subst he
      omega
    · have := List.pairwise_iff_getElem.mp r i j hi hj (by omega)
      omega
theorem not_mem_take {ws : List Nat} (r : ws.Pairwise (· < ·)) {i y : Nat} (hi : i < ws.length) (hy : y ∈ ws.take i) : y < ws.getD i 0 := by
  obtain ⟨j, hj, rfl⟩ := List.mem_take_iff_getElem.mp hy
  have e : ws.getD i 0 = ws[i] := by rw [List.getD_eq_getElem?_getD, List.getElem?_eq_getElem hi]; rfl
  rw [e]
  exact List.pairwise_iff_getElem.mp r j i (by omega) hi (by omega)
/-- the cuts of a wire, as they lie in the dict -/
def CutsIn (n : Net) (k : Nat) (H : Hp) (kvs : List (L2.Key × V)) (x : Nat) : Prop := ∃ (p : Addr) (ms : List Nat), valV kvs (nK x) = some (.ref p) ∧ H p = some (.lst (ms.map nV)) ∧ ML n k x ms ∧ ms.Nodup
theorem CutsIn.mono {n : Net} {k x : Nat} {H H' : Hp} {kvs : List (L2.Key × V)} (h : CutsIn n k H kvs x) (m : ∀ b zs, H b = some (.lst zs) → H' b = some (.lst zs)) : CutsIn n k H' kvs x := by
  obtain ⟨p, ms, h1, h2, h3⟩ := h
  exact ⟨p, ms, h1, m _ _ h2, h3⟩
theorem CutsIn.put {n : Net} {k x y : Nat} {H : Hp} {kvs : List (L2.Key × V)} {v : V} (h : CutsIn n k H kvs x) (ne : x ≠ y) : CutsIn n k H (putK kvs (nK y) v) x := by
  obtain ⟨p, ms, h1, h2, h3⟩ := h
  exact ⟨p, ms, by rw [valV_put, if_neg (fun e => ne (nK_inj e))]; exact h1, h2, h3⟩
theorem ML.lt23 {n : Net} (ok : n.Ok) {k w M : Nat} {ms : List Nat} (hw : w < n.many + n.gates.length) (h : ML n k w ms) (hM : M ∈ ms) : 0 < M ∧ M < 2 ^ 23 := by
  obtain ⟨h1, h2, h3⟩ := (h M).mp hM
  have m8 := ok.m8
  have g16 := ok.g16
  refine ⟨Nat.pos_of_ne_zero fun z => tm_zero ok hw (by rw [← z]; exact h1.tl), ?_⟩
  refine Nat.lt_pow_two_of_testBit M fun j hj => ?_
  cases e : M.testBit j with
  | false => rfl
  | true =>
    have := h1.low ok j e
    have e2 : j = w := by omega
    rw [e2, h3] at e
    cases e
theorem pow_lt23 {x : Nat} (h : x < 23) : 0 < 2 ^ x ∧ 2 ^ x < 2 ^ 23 := ⟨Nat.two_pow_pos x, Nat.pow_lt_pow_right (by decide) h⟩
end GX
namespace GX
open PySem PySem.Spec PyProof.Rows L2
/-- with two wires a gate is told: so it has a least cut -/
theorem ML.some_ {n : Net} (ok : n.Ok) {k g : Nat} {kk : Nat × Nat × Nat} {ms : List Nat} (hk : 2 ≤ k) (hg : n.many ≤ g) (hkk : n.gates[g - n.many]? = some kk) (h : ML n k g ms) : ms ≠ [] := by
  have l1 := place_lt ok hg hkk (.inl rfl)
  have l2 := place_lt ok hg hkk (.inr rfl)
  have bit : ∀ j, (2 ^ kk.2.1 ||| 2 ^ kk.2.2).testBit j = true ↔ (j = kk.2.1 ∨ j = kk.2.2) := fun j => by
    rw [Nat.testBit_or, Nat.testBit_two_pow, Nat.testBit_two_pow, Bool.or_eq_true, decide_eq_true_iff, decide_eq_true_iff]
    omega
  have ht : Tm n g (2 ^ kk.2.1 ||| 2 ^ kk.2.2) := sep_first hg hkk fun z hz => mem_bits.mpr ((bit z).mpr hz)
  obtain ⟨f, f1, f2⟩ := min_ex _ _ (Nat.le_refl _) ht
  have hp : pop (2 ^ kk.2.1 ||| 2 ^ kk.2.2) ≤ 2 := by
    have := (bits_nodup (2 ^ kk.2.1 ||| 2 ^ kk.2.2)).length_le_of_subset (l₂ := [kk.2.1, kk.2.2]) fun x hx => by
      rcases (bit x).mp (mem_bits.mp hx) with e | e
      · rw [e]; exact List.mem_cons_self
      · rw [e]; exact List.mem_cons_of_mem _ List.mem_cons_self
    exact this
  have hm : f ∈ ms := (h f).mpr ⟨f2, Nat.le_trans (pop_sub f1) (by omega), by
    cases e : f.testBit g with
    | false => rfl
    | true =>
      rcases (bit g).mp (f1 g e) with e | e <;> omega⟩
  exact fun z => by
    rw [z] at hm
    cases hm
end GX
set_option Elab.async false
set_option linter.all false
set_option maxRecDepth 100000
set_option maxHeartbeats 4000000
/-! Slices of tuples and tuples put together, whatever object they are. -/
namespace GX
open PySem PySem.Spec PyProof.Rows L2
end GX
set_option Elab.async false
set_option linter.all false
set_option maxRecDepth 100000
set_option maxHeartbeats 4000000
/-! A net that stands in the heap, as a thing. -/
namespace GX
open PySem PySem.Spec PyProof.Rows L2
def thN (n : Nat) : Th := .int (n : Int)
def thG (g : Nat × Nat × Nat) : Th := .tup [thN g.1, thN g.2.1, thN g.2.2]
def thNet (n : Net) : Th := .tup [thN n.many, .tup (n.gates.map thG), .tup (n.outs.map thN)]
theorem rep_ns {H : Hp} : ∀ (os : List Nat), RepAll H (os.map nV) (os.map thN)
  | [] => .nil
  | o :: r => .cons (.int _) (rep_ns r)
theorem GatesAt.tail {H : Hp} {p : Addr} {ps : List Addr} {g : Nat × Nat × Nat} {gs : List (Nat × Nat × Nat)} (x : GatesAt H (p :: ps) (g :: gs)) : GatesAt H ps gs :=
  ⟨by have := x.1; simpa using this, fun i p g e1 e2 => x.2 (i + 1) p g e1 e2⟩
theorem rep_gs {H : Hp} : ∀ (ps : List Addr) (gs : List (Nat × Nat × Nat)), GatesAt H ps gs → RepAll H (ps.map V.ref) (gs.map thG)
  | [], [], _ => .nil
  | [], _ :: _, x => by have := x.1; simp at this
  | _ :: _, [], x => by have := x.1; simp at this
  | p :: ps, g :: gs, x => .cons (.tup (x.2 0 p g rfl rfl) (.cons (.int _) (.cons (.int _) (.cons (.int _) .nil)))) (rep_gs ps gs x.tail)
theorem isB_n {k : Nat} {b : Int} (h : (k : Int) < b) : Th.isB b (thN k) = true := by
  show (decide ((0 : Int) ≤ (k : Int)) && decide ((k : Int) < b)) = true
  rw [decide_eq_true (by omega), decide_eq_true h]
  rfl
theorem gates_ok : ∀ (gs : List (Nat × Nat × Nat)) (w : Nat), (∀ (i : Nat) (g : Nat × Nat × Nat), gs[i]? = some g → gateOk w i g) → gatesFrom (w : Int) (gs.map thG) = true
  | [], _, _ => rfl
  | g :: r, w, h => by
    show ((thG g).gate (w : Int) && gatesFrom ((w : Int) + 1) (r.map thG)) = true
    obtain ⟨h1, h2, h3⟩ := h 0 g rfl
    have e : (thG g).gate (w : Int) = true := by
      show (Th.isB 16 (thN g.1) && Th.isB (w : Int) (thN g.2.1) && Th.isB (w : Int) (thN g.2.2)) = true
      rw [isB_n (by omega), isB_n (by omega), isB_n (by omega)]
      rfl
    rw [e, Bool.true_and, show ((w : Int) + 1) = ((w + 1 : Nat) : Int) by omega]
    refine gates_ok r (w + 1) fun i g' e => ?_
    obtain ⟨g1, g2, g3⟩ := h (i + 1) g' e
    exact ⟨g1, by omega, by omega⟩
theorem Net.Ok.net {n : Net} (ok : n.Ok) : (thNet n).net = true := by
  show ((thN n.many).many && (Th.tup (n.gates.map thG)).gates (n.many : Int) && (Th.tup (n.outs.map thN)).outs ((n.many : Int) + (((n.gates.map thG).length : Nat) : Int))) = true
  have m1 := ok.m1
  have m8 := ok.m8
  have e1 : (thN n.many).many = true := by
    show (decide ((1 : Int) ≤ (n.many : Int)) && decide ((n.many : Int) ≤ 8)) = true
    rw [decide_eq_true (by omega), decide_eq_true (by omega)]
    rfl
  have e2 : (Th.tup (n.gates.map thG)).gates (n.many : Int) = true := by
    show (decide ((n.gates.map thG).length ≤ 16) && gatesFrom (n.many : Int) (n.gates.map thG)) = true
    rw [gates_ok n.gates n.many ok.gs, decide_eq_true (by rw [List.length_map]; exact ok.g16)]
    rfl
  have e3 : (Th.tup (n.outs.map thN)).outs ((n.many : Int) + (((n.gates.map thG).length : Nat) : Int)) = true := by
    show (decide (1 ≤ (n.outs.map thN).length) && decide ((n.outs.map thN).length ≤ 8) && (n.outs.map thN).all (Th.isB ((n.many : Int) + (((n.gates.map thG).length : Nat) : Int)))) = true
    rw [List.length_map, List.length_map, decide_eq_true ok.o1, decide_eq_true ok.o8, Bool.true_and, Bool.true_and, List.all_eq_true]
    intro x hx
    obtain ⟨o, ho, rfl⟩ := List.mem_map.mp hx
    have := ok.os o ho
    exact isB_n (by omega)
  rw [e1, e2, e3]
  rfl
end GX
set_option Elab.async false
set_option linter.all false
set_option maxRecDepth 100000
set_option maxHeartbeats 4000000
/-! The worth of a wire where some wires are held. -/
namespace GX
open PySem PySem.Spec PyProof.Rows L2
def gw (k a b : Nat) : Nat := k / 2 ^ (a + 2 * b) % 2
theorem gw_lt (k a b : Nat) : gw k a b < 2 := Nat.mod_lt _ (by decide)
/-- where a wire stands -/
def ixOf (x : Nat) : List Nat → Nat
  | [] => 0
  | y :: r => if y = x then 0 else ixOf x r + 1
theorem ixOf_get {ws : List Nat} (nd : ws.Nodup) : ∀ {j : Nat}, j < ws.length → ixOf (ws.getD j 0) ws = j := by
  induction ws with
  | nil => intro j h; exact absurd h (Nat.not_lt_zero _)
  | cons y r ih =>
    intro j h
    obtain ⟨n1, n2⟩ := List.nodup_cons.mp nd
    cases j with
    | zero =>
      show (if y = y then 0 else _) = 0
      rw [if_pos rfl]
    | succ j =>
      have hj : j < r.length := Nat.lt_of_succ_lt_succ h
      show (if y = r.getD j 0 then 0 else ixOf (r.getD j 0) r + 1) = j + 1
      rw [if_neg (fun e => n1 (by rw [e]; exact getD_mem hj)), ih n2 hj]
theorem ixOf_lt {ws : List Nat} {x : Nat} (h : x ∈ ws) : ixOf x ws < ws.length ∧ ws.getD (ixOf x ws) 0 = x := by
  induction ws with
  | nil => cases h
  | cons y r ih =>
    unfold ixOf
    by_cases e : y = x
    · rw [if_pos e]
      exact ⟨Nat.succ_pos _, e⟩
    · rw [if_neg e]
      rcases List.mem_cons.mp h with h | h
      · exact absurd h.symm e
      · obtain ⟨h1, h2⟩ := ih h
        exact ⟨Nat.succ_lt_succ h1, h2⟩
def bitIn (ws : List Nat) (r x : Nat) : Nat := r / 2 ^ ixOf x ws % 2
/-- what a wire has, by those ahead -/
def valOf (n : Net) (ws : List Nat) (r : Nat) (acc : List Nat) (x : Nat) : Nat :=
  if x ∈ ws then bitIn ws r x else if x < n.many then 0 else match n.gates[x - n.many]? with
    | some k => gw k.1 (acc.getD k.2.1 0) (acc.getD k.2.2 0)
    | none => 0
def evl (n : Net) (ws : List Nat) (r : Nat) : Nat → List Nat
  | 0 => []
  | m + 1 => evl n ws r m ++ [valOf n ws r (evl n ws r m) m]
theorem evl_len (n : Net) (ws : List Nat) (r : Nat) : ∀ m, (evl n ws r m).length = m
  | 0 => rfl
  | m + 1 => by
    show (evl n ws r m ++ [_]).length = m + 1
    rw [List.length_append, evl_len n ws r m]
    rfl
def ev (n : Net) (ws : List Nat) (r x : Nat) : Nat := valOf n ws r (evl n ws r x) x
theorem evl_at (n : Net) (ws : List Nat) (r : Nat) : ∀ m x, x < m → (evl n ws r m).getD x 0 = ev n ws r x
  | 0, x, h => absurd h (Nat.not_lt_zero _)
  | m + 1, x, h => by
    have hl := evl_len n ws r m
    show (evl n ws r m ++ [_]).getD x 0 = _
    by_cases e : x = m
    · subst e
      have := getLastN (xs := evl n ws r x) (x := valOf n ws r (evl n ws r x) x)
      rw [hl] at this
      exact this
    · rw [getSnoc (by omega)]
      exact evl_at n ws r m x (by omega)
theorem ev_in {n : Net} {ws : List Nat} {r x : Nat} (h : x ∈ ws) : ev n ws r x = bitIn ws r x := by
  unfold ev valOf
  rw [if_pos h]
theorem ev_gate {n : Net} (ok : n.Ok) {ws : List Nat} {r x : Nat} {k : Nat × Nat × Nat} (h : x ∉ ws) (hm : n.many ≤ x) (hk : n.gates[x - n.many]? = some k) : ev n ws r x = gw k.1 (ev n ws r k.2.1) (ev n ws r k.2.2) := by
  have h1 := place_lt ok hm hk (.inl rfl)
  have h2 := place_lt ok hm hk (.inr rfl)
  conv => lhs; unfold ev valOf
  rw [if_neg h, if_neg (by omega), hk]
  show gw k.1 ((evl n ws r x).getD k.2.1 0) ((evl n ws r x).getD k.2.2 0) = _
  rw [evl_at n ws r x _ h1, evl_at n ws r x _ h2]
theorem ev_lt {n : Net} (ws : List Nat) (r x : Nat) : ev n ws r x < 2 := by
  unfold ev valOf
  by_cases h : x ∈ ws
  · rw [if_pos h]
    exact Nat.mod_lt _ (by decide)
  · rw [if_neg h]
    by_cases h2 : x < n.many
    · rw [if_pos h2]
      decide
    · rw [if_neg h2]
      cases n.gates[x - n.many]? with
      | none => exact Nat.two_pos
      | some k => exact gw_lt _ _ _
/-- what can be told from the held ones -/
inductive Det (n : Net) (ws : List Nat) : Nat → Prop
  | held {x : Nat} : x ∈ ws → Det n ws x
  | gate {x : Nat} {k : Nat × Nat × Nat} : n.many ≤ x → n.gates[x - n.many]? = some k → Det n ws k.2.1 → Det n ws k.2.2 → Det n ws x
theorem det_of {n : Net} (ok : n.Ok) {ws : List Nat} {w : Nat} (hw : w < n.many + n.gates.length) (sep : Sep n w ws) : ∀ b y, y ≤ b → Rc n ws w n.many y → Det n ws y
  | b, y, hb, r => by
    have hm := sep y r
    have hy := r.le ok
    obtain ⟨k, hk⟩ : ∃ k, n.gates[y - n.many]? = some k := ⟨_, List.getElem?_eq_getElem (by omega)⟩
    have pl : ∀ p, (p = k.2.1 ∨ p = k.2.2) → Det n ws p := fun p hp => by
      by_cases e : p ∈ ws
      · exact .held e
      · have lt := place_lt ok hm hk hp
        cases b with
        | zero => omega
        | succ b => exact det_of ok hw sep b p (by omega) (.step r hm hm hk hp e)
    exact .gate hm hk (pl _ (.inl rfl)) (pl _ (.inr rfl))
termination_by b => b
theorem det_top {n : Net} (ok : n.Ok) {ws : List Nat} {w : Nat} (hw : w < n.many + n.gates.length) (sep : Sep n w ws) : Det n ws w := by
  by_cases e : w ∈ ws
  · exact .held e
  · exact det_of ok hw sep w w (Nat.le_refl _) (.here e)
/-- a content -/
def contOf (n : Net) (ws : List Nat) (w : Nat) : List Nat := (List.range (2 ^ ws.length)).map fun r => ev n ws r w
end GX
set_option Elab.async false
set_option linter.all false
set_option maxRecDepth 100000
set_option maxHeartbeats 4000000
/-! Contents with a place more, or one less. -/
namespace GX
open PySem PySem.Spec PyProof.Rows L2
def del (p n : Nat) : Nat := n / (2 * 2 ^ p) * 2 ^ p + n % 2 ^ p
def ins (p r : Nat) : Nat := r / 2 ^ p * (2 * 2 ^ p) + r % 2 ^ p
/-- with a place more -/
def wd (xs : List Nat) (p : Nat) : List Nat := (List.range (2 * xs.length)).map fun n => xs.getD (del p n) 0
end GX
set_option Elab.async false
set_option linter.all false
set_option maxRecDepth 100000
set_option maxHeartbeats 4000000
/-! Lists of tuples of whole numbers, sorted. -/
namespace GX
open PySem PySem.Spec PyProof.Rows L2
def natV : V → Nat
  | .int i => i.toNat
  | _ => 0
/-- the whole numbers of a tuple -/
def tupN (H : Hp) : V → List Nat
  | .ref t => match H t with
    | some (.tup xs) => xs.map natV
    | _ => []
  | _ => []
theorem tupN_at {H : Hp} {t : Addr} {c : List Nat} (h : H t = some (.tup (c.map nV))) : tupN H (.ref t) = c := by
  show (match H t with | some (HO.tup xs) => xs.map natV | _ => []) = c
  rw [h]
  show (c.map nV).map natV = c
  rw [List.map_map]
  conv => rhs; rw [← List.map_id c]
  refine List.map_congr_left fun x _ => ?_
  show ((x : Nat) : Int).toNat = x
  exact Int.toNat_natCast x
abbrev TupsAt (H : Hp) (qs : List Addr) (cs : List (List Nat)) : Prop := RefsAt (fun c : List Nat => c.map nV) H qs cs
theorem TupsAt.map {H : Hp} : ∀ {qs : List Addr} {cs : List (List Nat)}, TupsAt H qs cs → (qs.map V.ref).map (tupN H) = cs
  | [], cs, h => (List.length_eq_zero_iff.mp h.1.symm).symm
  | q :: qs, [], h => by cases h.1
  | q :: qs, c :: cs, h => by
    have h1 := h.2 0 q c rfl rfl
    have h2 : TupsAt H qs cs := ⟨Nat.succ.inj h.1, fun i p x e1 e2 => h.2 (i + 1) p x e1 e2⟩
    show tupN H (.ref q) :: _ = _
    rw [tupN_at h1, TupsAt.map h2]
theorem TupsAt.all {H : Hp} {qs : List Addr} {cs : List (List Nat)} (h : TupsAt H qs cs) {x : V} (hx : x ∈ qs.map V.ref) : ∃ t c, x = .ref t ∧ c ∈ cs ∧ H t = some (.tup (c.map nV)) := by
  obtain ⟨i, hi, e⟩ := List.mem_iff_getElem.mp hx
  obtain ⟨t, c, e1, e2, e3⟩ := h.at_ (i := i) (v := x) (by rw [List.getElem?_eq_getElem hi, e])
  exact ⟨t, c, e1, List.mem_of_getElem? e2, e3⟩
/-- sorted: the tuples again -/
theorem tups_sorted {H : Hp} {qs : List Addr} {cs : List (List Nat)} (h : TupsAt H qs cs) {ys : List V} (srt : SrtO.Srtd (fun x y => HT.lexLt ((tupN H x).map fun n : Nat => (n : Int)) ((tupN H y).map fun n : Nat => (n : Int))) ys) (pm : ys.Perm (qs.map V.ref)) :
    ∃ (rs : List Addr) (ds : List (List Nat)), ys = rs.map V.ref ∧ TupsAt H rs ds ∧ ds.Perm cs ∧ ds.Pairwise fun a b => lexN b a = false := by
  have hall : ∀ y ∈ ys, ∃ t c, y = .ref t ∧ c ∈ cs ∧ H t = some (.tup (c.map nV)) := fun y hy => h.all (pm.mem_iff.mp hy)
  have mk : ∀ zs : List V, (∀ y ∈ zs, ∃ t c, y = .ref t ∧ c ∈ cs ∧ H t = some (.tup (c.map nV))) → ∃ rs : List Addr, zs = rs.map V.ref ∧ TupsAt H rs (zs.map (tupN H)) := by
    intro zs
    induction zs with
    | nil => exact fun _ => ⟨[], rfl, RefsAt.nil _ _⟩
    | cons y zs ih =>
      intro hz
      obtain ⟨t, c, rfl, _, ht⟩ := hz y List.mem_cons_self
      obtain ⟨rs, e, hr⟩ := ih fun y hy => hz y (List.mem_cons_of_mem _ hy)
      refine ⟨t :: rs, by rw [e]; rfl, ⟨congrArg Nat.succ hr.1, fun i p x e1 e2 => ?_⟩⟩
      cases i with
      | zero =>
        cases e1
        have e2' : some (tupN H (.ref t)) = some x := e2
        rw [tupN_at ht] at e2'
        cases e2'
        exact ht
      | succ i => exact hr.2 i p x e1 e2
  obtain ⟨rs, e, hr⟩ := mk ys hall
  refine ⟨rs, ys.map (tupN H), e, hr, ?_, ?_⟩
  · have := pm.map (tupN H)
    rw [TupsAt.map h] at this
    exact this
  · exact List.pairwise_map.mpr srt
end GX
set_option Elab.async false
set_option linter.all false
set_option maxRecDepth 100000
set_option maxHeartbeats 4000000
/-! All sets of some wires; the least that tell among them. -/
namespace GX
open PySem PySem.Spec PyProof.Rows L2
end GX
namespace GX
open PySem PySem.Spec PyProof.Rows L2
end GX
namespace GX
open PySem PySem.Spec PyProof.Rows L2
end GX
namespace GX
open PySem PySem.Spec PyProof.Rows L2
end GX
namespace GX
open PySem PySem.Spec PyProof.Rows L2
end GX
set_option Elab.async false
set_option linter.all false
/-! Comprehensions within comprehensions. -/
namespace GX
open PySem PySem.Spec PyProof.Rows L2
end GX
set_option Elab.async false
set_option linter.all false
set_option maxRecDepth 100000
set_option maxHeartbeats 4000000
namespace GX
open PySem PySem.Spec PyProof.Rows L2
end GX
set_option Elab.async false
set_option linter.all false
set_option maxRecDepth 100000
set_option maxHeartbeats 4000000
/-! Depths in covers; lean covers. -/
namespace GX
open PySem PySem.Spec PyProof.Rows L2
def maxL : List Nat → Nat
  | [] => 0
  | x :: r => max x (maxL r)
/-- tables rising, their wires lesser -/
structure Ris (cv : List Tb) : Prop where
  rise : cv.Pairwise (fun a b => a.1 < b.1)
  lt : ∀ t ∈ cv, ∀ x ∈ t.2, x < t.1
theorem Ris.init {cv : List Tb} {t : Tb} (h : Ris (cv ++ [t])) : Ris cv ∧ (∀ u ∈ cv, u.1 < t.1) ∧ ∀ x ∈ t.2, x < t.1 := by
  obtain ⟨h1, _, h3⟩ := List.pairwise_append.mp h.rise
  exact ⟨⟨h1, fun u hu => h.lt u (List.mem_append.mpr (.inl hu))⟩, fun u hu => h3 u hu t List.mem_cons_self, h.lt t (List.mem_append.mpr (.inr List.mem_cons_self))⟩
theorem CovOk.ris {n : Net} {k : Nat} {cv : List Tb} (c : CovOk n k cv) : Ris cv := ⟨c.rise, fun t ht x hx => (c.cut t ht).1.lt x hx⟩
theorem Need.tab {n : Net} {k : Nat} {cv : List Tb} (c : CovOk n k cv) {x : Nat} (h : Need n cv x) : ∃ t ∈ cv, t.1 = x := by
  cases h with
  | out h1 h2 => exact c.outs _ h1 h2
  | step ht _ hx hm => exact c.clo _ ht _ hx hm
end GX
namespace GX
open PySem PySem.Spec PyProof.Rows L2
/-- a dict comprehension over anything walked -/
theorem dc_it {J : It} {n : Nat} {G : Hp → Prop} {Y : Nat → Hp → V → Hp → Prop} (wk : Walk J n G Y) {g : TG} {tt : TT} {tk tv : TE} {vs : List Nat} {σ : L2.St} {H1 : Hp} {D : Addr} {Qd : Hp → Prop} (Pv : Nat → Hp → Prop) (h0 : Pv 0 (upd H1 D (.dK []))) (hG : ∀ i H, i ≤ n → Pv i H → G H)
    (hs : ∀ i x H H', i < n → Pv i H → Y i H x H' → g x (wipe σ vs) H' fun σ2 H2 => wipe σ2 vs = wipe σ vs ∧ tt σ2 H2 fun b H3 =>
      if b = true then tk σ2 H3 fun y H4 => tv σ2 H4 fun z H5 => ∃ kvs k, y = kV k ∧ H5 D = some (.dK kvs) ∧ kvs.length < sizeLine ∧ Pv (i + 1) (upd H5 D (.dK (putK kvs k z))) else Pv (i + 1) H3) (hd : ∀ H, Pv n H → Qd H) :
    ∃ W : Nat → Nat → Hp → Prop, (∃ m, W 0 m (upd H1 D (.dK []))) ∧ ∀ i m H, W i m H →
      (J.stop i H ∧ Qd H) ∨ (J.go i H ∧ ∃ Nx : Hp → Prop, (∀ H', Nx H' → ∃ m', m' < m ∧ W (i + 1) m' H') ∧ ∀ x H', J.yld i H x H' → g x (wipe σ vs) H' fun σ2 H2 => wipe σ2 vs = wipe σ vs ∧ tt σ2 H2 fun b H3 =>
        if b = true then tk σ2 H3 fun y H4 => tv σ2 H4 fun z H5 => ∃ kvs k, y = kV k ∧ H5 D = some (.dK kvs) ∧ kvs.length < sizeLine ∧ Nx (upd H5 D (.dK (putK kvs k z))) else Nx H3) := by
  refine ⟨fun i m H => m = n - i ∧ i ≤ n ∧ Pv i H, ⟨n, by simp, Nat.zero_le _, h0⟩, ?_⟩
  rintro i m H ⟨rfl, hi, p⟩
  have q := hG i H hi p
  by_cases hlt : i < n
  · exact .inr ⟨wk.goes i H hlt q, Pv (i + 1), fun H' p' => ⟨n - (i + 1), by omega, rfl, hlt, p'⟩, fun x H' y => hs i x H H' hlt p (wk.yields i H x H' hlt q y)⟩
  · have e : i = n := by omega
    subst e
    exact .inl ⟨wk.stops H q, hd H p⟩
end GX
set_option Elab.async false
set_option linter.all false
/-! A statement by what stands behind it. -/
namespace GX
open PySem PySem.Spec PyProof.Rows L2
theorem seq_cut {t u : TS} {D : Ends} {σ : L2.St} {H : Hp} (Iv : L2.St → Hp → Prop) (h1 : ∀ B : L2.St → Hp → Prop, (∀ σ' H', Iv σ' H' → B σ' H') → t { D with nx := B } σ H) (h2 : ∀ σ' H', Iv σ' H' → u D σ' H') : tSeq t u D σ H := h1 (u D) h2
theorem seq_cutG {t u : TS} {D : Ends} {σ : L2.St} {H : Hp} {i : Nat} {x : V} (Iv : L2.St → Hp → Prop) (h1 : ∀ B : L2.St → Hp → Prop, (∀ σ' H', Iv σ' H' → B σ' H') → t { D with nx := B } (σ.set i (some x)) H) (h2 : ∀ σ' H', Iv σ' H' → u D σ' H') : gName i x σ H (tSeq t u D) := h1 (u D) h2
end GX
set_option Elab.async false
set_option linter.all false
set_option maxRecDepth 100000
set_option maxHeartbeats 4000000
/-! All rising rows; what tells by what is held. -/
namespace GX
open PySem PySem.Spec PyProof.Rows L2
theorem det_sep {n : Net} {ws : List Nat} {w : Nat} (d : Det n ws w) : Sep n w ws := by
  induction d with
  | held h => exact sep_in h
  | @gate x k hm hk _ _ i1 i2 =>
    by_cases e : x ∈ ws
    · exact sep_in e
    · exact (sep_gate hm hk e).mpr ⟨i1, i2⟩
theorem det_iff {n : Net} (ok : n.Ok) {ws : List Nat} {w : Nat} (hw : w < n.many + n.gates.length) : Det n ws w ↔ Sep n w ws := ⟨det_sep, det_top ok hw⟩
theorem det_input {n : Net} {ws : List Nat} {w : Nat} (h : w < n.many) : Det n ws w ↔ w ∈ ws := ⟨fun d => by
  cases d with
  | held h => exact h
  | gate hm _ _ _ => omega, .held⟩
theorem det_gate {n : Net} {ws : List Nat} {w : Nat} {k : Nat × Nat × Nat} (hm : n.many ≤ w) (hk : n.gates[w - n.many]? = some k) : Det n ws w ↔ (w ∈ ws ∨ (Det n ws k.2.1 ∧ Det n ws k.2.2)) := by
  refine ⟨fun d => ?_, fun d => ?_⟩
  · cases d with
    | held h => exact .inl h
    | gate hm' hk' d1 d2 =>
      rw [hk] at hk'
      cases hk'
      exact .inr ⟨d1, d2⟩
  · rcases d with d | ⟨d1, d2⟩
    · exact .held d
    · exact .gate hm hk d1 d2
end GX
set_option Elab.async false
set_option linter.all false
set_option maxRecDepth 100000
set_option maxHeartbeats 4000000
/-! A list or a tuple of anything, held against an empty one. -/
namespace GX
open PySem PySem.Spec PyProof.Rows L2
def rEq0 (K : PySem.W.Frag) : R2 := fun x y H Q => ∃ (a b : Addr) (xs : List V), x = .ref a ∧ y = .ref b ∧ ((SqT K H a xs ∧ SqT K H b []) ∨ (SqL K H a xs ∧ SqL K H b [])) ∧ Q (.bl (decide (xs.length = 0))) H
def rNe0 (K : PySem.W.Frag) : R2 := fun x y H Q => ∃ (a b : Addr) (xs : List V), x = .ref a ∧ y = .ref b ∧ ((SqT K H a xs ∧ SqT K H b []) ∨ (SqL K H a xs ∧ SqL K H b [])) ∧ Q (.bl (!decide (xs.length = 0))) H
theorem vals_nil {its : List Value} (h : Vals [] its) : its = [] := by cases h; rfl
theorem op_eq0 {X : Cx} (hu : X.A.units < cLine) : OpR X (compareOp .Eq) (rEq0 X.K) := by
  intro pins s σ H x y v u Q I rx ry h
  obtain ⟨a, b, xs, rfl, rfl, hh, q⟩ := h
  cases rx
  cases ry
  rcases hh with ⟨ha, hb⟩ | ⟨ha, hb⟩
  · obtain ⟨its, r, ⟨o, e, c, n, d⟩, _⟩ := I.tuple ha
    obtain ⟨its2, r2, ⟨o2, e2, c2, n2, d2⟩, _⟩ := I.tuple hb
    obtain rfl := vals_nil r2
    have hl : its.length = xs.length := r.length.symm
    refine PySem.SeqAt.eq_tupleAt (items := its.toArray) (items2 := #[]) (e := fun _ => true) ⟨o, e, c, n, d⟩ ⟨o2, e2, c2, n2, d2⟩ hu (fun j h1 h2 => by simp at h2) ⟨.bl (decide (xs.length = 0)), H, I, ?_, q⟩
    show Value.bool _ = Value.bool _
    congr 1
    cases xs with
    | nil => simp [hl]
    | cons _ _ => simp [hl]
  · obtain ⟨its, r, ⟨o, n, e, c, d0, d⟩, _⟩ := I.list ha
    obtain ⟨its2, r2, ⟨o2, n2, e2, c2, d02, d2⟩, _⟩ := I.list hb
    obtain rfl := vals_nil r2
    have hl : its.length = xs.length := r.length.symm
    by_cases h0 : xs.length = 0
    · refine PySem.SeqAt.eq_listAt (items := its.toArray) (items2 := #[]) (e := fun _ => true) ⟨o, e, c, n, d⟩ ⟨o2, e2, c2, n2, d2⟩ (by simp [hl, h0]) hu (fun j h1 h2 => by simp at h2) ⟨.bl (decide (xs.length = 0)), H, I, ?_, q⟩
      show Value.bool _ = Value.bool _
      simp [h0]
    · refine PySem.SeqAt.eq_list_lengthsAt (items := its.toArray) (items2 := #[]) ⟨o, e, c, n, d⟩ ⟨o2, e2, c2, n2, d2⟩ (by simp [hl, h0]) hu ⟨.bl (decide (xs.length = 0)), H, I, ?_, q⟩
      show Value.bool _ = Value.bool _
      simp [h0]
theorem op_ne0 {X : Cx} (hu : X.A.units < cLine) : OpR X (compareOp .NotEq) (rNe0 X.K) := by
  intro pins s σ H x y v u Q I rx ry h
  obtain ⟨a, b, xs, rfl, rfl, hh, q⟩ := h
  cases rx
  cases ry
  rcases hh with ⟨ha, hb⟩ | ⟨ha, hb⟩
  · obtain ⟨its, r, ⟨o, e, c, n, d⟩, _⟩ := I.tuple ha
    obtain ⟨its2, r2, ⟨o2, e2, c2, n2, d2⟩, _⟩ := I.tuple hb
    obtain rfl := vals_nil r2
    have hl : its.length = xs.length := r.length.symm
    refine PySem.SeqAt.RcNeAt.tuples (items := its.toArray) (items2 := #[]) (e := fun _ => true) ⟨o, e, c, n, d⟩ ⟨o2, e2, c2, n2, d2⟩ hu (fun j h1 h2 => by simp at h2) X.prog X.w _ _ ⟨.bl (!decide (xs.length = 0)), H, I, ?_, q⟩
    show Value.bool _ = Value.bool _
    congr 1
    cases xs with
    | nil => simp [hl]
    | cons _ _ => simp [hl]
  · obtain ⟨its, r, ⟨o, n, e, c, d0, d⟩, _⟩ := I.list ha
    obtain ⟨its2, r2, ⟨o2, n2, e2, c2, d02, d2⟩, _⟩ := I.list hb
    obtain rfl := vals_nil r2
    have hl : its.length = xs.length := r.length.symm
    by_cases h0 : xs.length = 0
    · refine PySem.SeqAt.RcNeAt.lists (items := its.toArray) (items2 := #[]) (e := fun _ => true) ⟨o, e, c, n, d⟩ ⟨o2, e2, c2, n2, d2⟩ (by simp [hl, h0]) hu (fun j h1 h2 => by simp at h2) X.prog X.w _ _ ⟨.bl (!decide (xs.length = 0)), H, I, ?_, q⟩
      show Value.bool _ = Value.bool _
      simp [h0]
    · refine PySem.SeqAt.RcNeAt.lists_lengths (items := its.toArray) (items2 := #[]) ⟨o, e, c, n, d⟩ ⟨o2, e2, c2, n2, d2⟩ (by simp [hl, h0]) hu X.prog X.w _ _ ⟨.bl (!decide (xs.length = 0)), H, I, ?_, q⟩
      show Value.bool _ = Value.bool _
      simp [h0]
end GX
set_option Elab.async false
set_option linter.all false
set_option maxRecDepth 100000
set_option maxHeartbeats 4000000
/-! min(xs, key=lambda x: ..) where the lambda may call and capture names. -/
namespace GX
open PySem PySem.Spec PyProof.Rows L2
section
variable {X : Cx} {pins : List (Addr × Obj)} {σ : L2.St} {H : Hp} {s : Shared}
theorem FpOk.heap {b : Addr} {H' : Hp} (h : FpOk X pins H b) (n : H' b = none) : FpOk X pins H' b := ⟨n, h.2⟩
theorem FpOk.tail {b : Addr} {p : Addr × Obj} (h : FpOk X (p :: pins) H b) : FpOk X pins H b :=
  ⟨h.1, h.2.1, h.2.2.1, h.2.2.2.1, h.2.2.2.2.1, fun q hq => h.2.2.2.2.2 q ((List.mem_append.mp hq).elim (fun z => List.mem_append_left _ z) fun z => List.mem_append_right _ (List.mem_cons_of_mem _ z))⟩
/-! ### the loop of min -/
end
/-! ### the lambda: its names, its frame -/
/-! ### in a built-in -/
/-! ### tables of lambdas beside those of generator expressions -/
/-- all but the tables stays; the tables of Ts and the lambda's at P are tables -/
structure AftL (Ts : List Addr) (P : Addr) (q : Str) (H H' : Hp) : Prop where
  kp : Keep (P :: Ts) H H'
  tb : Tabs Ts H'
  tl : LamX.TabS H' P q
section
variable {Ts : List Addr} {P : Addr} {q : Str} {H H1 H2 : Hp}
theorem AftL.trans (a : AftL Ts P q H H1) (b : AftL Ts P q H1 H2) : AftL Ts P q H H2 := ⟨a.kp.trans b.kp, b.tb, b.tl⟩
theorem AftL.refl (t : Tabs Ts H) (l : LamX.TabS H P q) : AftL Ts P q H H := ⟨Keep.refl, t, l⟩
theorem tabS_keep {X : List Addr} (l : LamX.TabS H P q) (k : Keep X H H1) (hP : P ∉ X) (hX : ∀ b ∈ X, (∃ ps, H b = some (.tbl ps)) ∨ H b = none ∨ ∃ xs, H b = some (.lst xs)) : LamX.TabS H1 P q := by
  obtain ⟨ps, h1, h2, h3⟩ := l
  refine ⟨ps, k _ _ h1 hP, h2, fun pos cv hc => ?_⟩
  obtain ⟨c, e1, e2⟩ := h3 pos cv hc
  refine ⟨c, e1, k _ _ e2 fun hc => ?_⟩
  rcases hX c hc with ⟨ps', z⟩ | z | ⟨xs, z⟩
  · rw [e2] at z
    exact LamX.codeO_ne ps' (Option.some.inj z)
  · rw [e2] at z
    cases z
  · rw [e2] at z
    unfold LamX.CodeO at z
    cases z
theorem AftL.of (a : Aft Ts H H1) (t : Tabs Ts H) (l : LamX.TabS H P q) (hP : P ∉ Ts) : AftL Ts P q H H1 :=
  ⟨a.kp.mono fun b hb => List.mem_cons_of_mem _ hb, a.tb, tabS_keep l a.kp hP fun b hb => .inl (by obtain ⟨ps, h, _⟩ := t b hb; exact ⟨ps, h⟩)⟩
theorem AftL.same (s : Same H H1) (t : Tabs Ts H) (l : LamX.TabS H P q) : AftL Ts P q H H1 :=
  ⟨fun b o e _ => s b o e, fun b hb => by
    obtain ⟨ps, h, r⟩ := t b hb
    exact ⟨ps, s _ _ h, r⟩, l.ext fun b o e => s b o e⟩
theorem AftL.at_ (a : AftL Ts P q H H1) (t : Tabs Ts H) (l : LamX.TabS H P q) {b : Addr} {o : HO} (e : H b = some o) (hn : ∀ ps, o ≠ .tbl ps) : H1 b = some o := a.kp b o e fun z => by
  rcases List.mem_cons.mp z with z | z
  · obtain ⟨ps, h, _⟩ := l
    rw [← z, e] at h
    exact hn ps (Option.some.inj h)
  · exact t.nott e hn z
theorem AftL.tup (a : AftL Ts P q H H1) (t : Tabs Ts H) (l : LamX.TabS H P q) {b : Addr} {xs : List V} (e : H b = some (.tup xs)) : H1 b = some (.tup xs) := a.at_ t l e fun _ z => by cases z
theorem AftL.lst (a : AftL Ts P q H H1) (t : Tabs Ts H) (l : LamX.TabS H P q) {b : Addr} {xs : List V} (e : H b = some (.lst xs)) : H1 b = some (.lst xs) := a.at_ t l e fun _ z => by cases z
end
end GX
set_option Elab.async false
set_option linter.all false
set_option maxRecDepth 100000
set_option maxHeartbeats 4000000
/-! `<` of tuples of two ints and a tuple of ints. -/
namespace GX
open PySem PySem.Spec PyProof.Rows L2 PySem.SeqAt
/-- a key: two ints and a tuple of ints, told as one list -/
def KeyAt (K : PySem.W.Frag) (H : Hp) (v : V) (ks : List Int) : Prop := ∃ (a c : Addr) (d l : Int) (ns : List Int), v = .ref a ∧ ks = d :: l :: ns ∧ SqT K H a [.int d, .int l, .ref c] ∧ SqT K H c (ns.map V.int)
theorem sqT_same {K : PySem.W.Frag} {H H' : Hp} {a : Addr} {xs : List V} (s : Same H H') (h : SqT K H a xs) : SqT K H' a xs := by
  rcases h with (h | ⟨o, h⟩) | h
  · exact .inl (.inl (s _ _ h))
  · exact .inl (.inr ⟨o, s _ _ h⟩)
  · exact .inr h
theorem KeyAt.same {K : PySem.W.Frag} {H H' : Hp} {v : V} {ks : List Int} (s : Same H H') (h : KeyAt K H v ks) : KeyAt K H' v ks := by
  obtain ⟨ka, kc, d, l, ns, e1, e2, a1, a2⟩ := h
  exact ⟨ka, kc, d, l, ns, e1, e2, sqT_same s a1, sqT_same s a2⟩
end GX
set_option Elab.async false
set_option linter.all false
set_option maxRecDepth 100000
set_option maxHeartbeats 4000000
/-! Layouts as data, and how they stand in the heap. -/
namespace GX
open PySem PySem.Spec PyProof.Rows L2
structure Lay where
  many : Nat
  tabs : List (List Nat × List Nat)
  outs : List Nat
structure tabOk (w : Nat) (t : List Nat × List Nat) : Prop where
  p1 : 1 ≤ t.1.length
  p4 : t.1.length ≤ 4
  lt : ∀ x ∈ t.1, x < w
  rise : t.1.Pairwise (· < ·)
  len : t.2.length = 2 ^ t.1.length
  bit : ∀ x ∈ t.2, x < 2
structure Lay.Ok (l : Lay) : Prop where
  m1 : 1 ≤ l.many
  m8 : l.many ≤ 8
  t16 : l.tabs.length ≤ 16
  ts : ∀ (i : Nat) (t : List Nat × List Nat), l.tabs[i]? = some t → tabOk (l.many + i) t
  o1 : 1 ≤ l.outs.length
  o8 : l.outs.length ≤ 8
  os : ∀ o ∈ l.outs, o < l.many + l.tabs.length
/-- a table in the heap -/
def TabAt (H : Hp) (p : Addr) (t : List Nat × List Nat) : Prop := ∃ a b, H p = some (.tup [.ref a, .ref b]) ∧ H a = some (.tup (t.1.map nV)) ∧ H b = some (.tup (t.2.map nV))
theorem TabAt.mono {H H' : Hp} {p : Addr} {t : List Nat × List Nat} (x : TabAt H p t) (k : ∀ b xs, H b = some (.tup xs) → H' b = some (.tup xs)) : TabAt H' p t := by
  obtain ⟨a, b, h1, h2, h3⟩ := x
  exact ⟨a, b, k _ _ h1, k _ _ h2, k _ _ h3⟩
def TabsAt (H : Hp) (ps : List Addr) (ts : List (List Nat × List Nat)) : Prop := ps.length = ts.length ∧ ∀ (i : Nat) (p : Addr) (t : List Nat × List Nat), ps[i]? = some p → ts[i]? = some t → TabAt H p t
theorem TabsAt.nil (H : Hp) : TabsAt H [] [] := ⟨rfl, fun i p g e _ => by simp at e⟩
theorem TabsAt.mono {H H' : Hp} {ps : List Addr} {ts : List (List Nat × List Nat)} (x : TabsAt H ps ts) (k : ∀ b xs, H b = some (.tup xs) → H' b = some (.tup xs)) : TabsAt H' ps ts := ⟨x.1, fun i p g e1 e2 => (x.2 i p g e1 e2).mono k⟩
theorem TabsAt.push {H : Hp} {ps : List Addr} {ts : List (List Nat × List Nat)} {q : Addr} {y : List Nat × List Nat} (x : TabsAt H ps ts) (h : TabAt H q y) : TabsAt H (ps ++ [q]) (ts ++ [y]) := by
  refine ⟨by rw [List.length_append, List.length_append, x.1]; rfl, fun i r g e1 e2 => ?_⟩
  by_cases hi : i < ps.length
  · rw [List.getElem?_append_left hi] at e1
    rw [List.getElem?_append_left (by rw [← x.1]; exact hi)] at e2
    exact x.2 i r g e1 e2
  · rw [List.getElem?_append_right (by omega)] at e1
    rw [List.getElem?_append_right (by rw [← x.1]; omega)] at e2
    have hz : i - ps.length = 0 := by
      obtain ⟨h1, _⟩ := List.getElem?_eq_some_iff.mp e1
      simp at h1
      omega
    rw [hz] at e1
    rw [← x.1, hz] at e2
    cases e1
    cases e2
    exact h
theorem TabsAt.at_ {H : Hp} {ps : List Addr} {ts : List (List Nat × List Nat)} (x : TabsAt H ps ts) {i : Nat} {v : V} (e : (ps.map V.ref)[i]? = some v) : ∃ q y, v = .ref q ∧ ts[i]? = some y ∧ TabAt H q y := by
  rw [List.getElem?_map] at e
  cases h : ps[i]? with
  | none => rw [h] at e; cases e
  | some q =>
    rw [h] at e
    cases e
    have h2 : i < ts.length := by rw [← x.1]; exact (List.getElem?_eq_some_iff.mp h).1
    exact ⟨q, ts[i], rfl, List.getElem?_eq_getElem h2, x.2 i q _ h (List.getElem?_eq_getElem h2)⟩
structure LayAt (H : Hp) (a : Addr) (l : Lay) (g o : Addr) (ps : List Addr) : Prop where
  top : H a = some (.tup [nV l.many, .ref g, .ref o])
  gt : H g = some (.tup (ps.map V.ref))
  ts : TabsAt H ps l.tabs
  ot : H o = some (.tup (l.outs.map nV))
theorem LayAt.mono {H H' : Hp} {a g o : Addr} {l : Lay} {ps : List Addr} (x : LayAt H a l g o ps) (k : ∀ b xs, H b = some (.tup xs) → H' b = some (.tup xs)) : LayAt H' a l g o ps := ⟨k _ _ x.top, k _ _ x.gt, x.ts.mono k, k _ _ x.ot⟩
end GX
set_option Elab.async false
set_option linter.all false
set_option maxRecDepth 100000
set_option maxHeartbeats 4000000
/-! Contents at rows. -/
namespace GX
open PySem PySem.Spec PyProof.Rows L2
end GX
set_option Elab.async false
set_option linter.all false
set_option maxRecDepth 100000
set_option maxHeartbeats 4000000
/-! Tables without their idle places. -/
namespace GX
open PySem PySem.Spec PyProof.Rows L2
/-! ### how the program goes: from the last one down -/
/-! ### layouts as data -/
def tabD (t : List Nat × List Nat) : PyData := .tuple [.tuple ((t.1.map fun n : Nat => (n : Int)).map PyData.int), .tuple ((t.2.map fun n : Nat => (n : Int)).map PyData.int)]
def layD (l : Lay) : List PyData := [.int ((l.many : Nat) : Int), .tuple (l.tabs.map tabD), .tuple ((l.outs.map fun n : Nat => (n : Int)).map PyData.int)]
theorem tabsD_dp {K : PySem.W.Frag} {H : Hp} : ∀ {ps : List Addr} {ts : List (List Nat × List Nat)}, TabsAt H ps ts → DpAll K H (ps.map V.ref) (ts.map tabD)
  | [], ts, x => by
    have : ts = [] := List.length_eq_zero_iff.mp x.1.symm
    subst this
    exact .nil
  | p :: r, [], x => by cases x.1
  | p :: r, t :: ts, x => by
    obtain ⟨a, b, h0, h1, h2⟩ := x.2 0 p t rfl rfl
    exact .cons (.tup (SqT.of h0) (.cons (.tup (SqT.of h1) (dpNat K _ _)) (.cons (.tup (SqT.of h2) (dpNat K _ _)) .nil))) (tabsD_dp (K := K) (H := H) (ps := r) (ts := ts) ⟨by simpa using x.1, fun i p' t' e1 e2 => x.2 (i + 1) p' t' (by simpa using e1) (by simpa using e2)⟩)
theorem LayAt.dp {K : PySem.W.Frag} {H : Hp} {a g o : Addr} {l : Lay} {ps : List Addr} (x : LayAt H a l g o ps) : Dp K H (.ref a) (.tuple (layD l)) := .tup (SqT.of x.top) (.cons (.int _) (.cons (.tup (SqT.of x.gt) (tabsD_dp x.ts)) (.cons (.tup (SqT.of x.ot) (dpNat K _ _)) .nil)))
theorem LayAt.same {H H' : Hp} {a g o : Addr} {l : Lay} {ps : List Addr} (x : LayAt H a l g o ps) (s : Same H H') : LayAt H' a l g o ps := x.mono fun b xs e => s _ _ e
theorem LayAt.aft {Ts : List Addr} {H H' : Hp} {a g o : Addr} {l : Lay} {ps : List Addr} (x : LayAt H a l g o ps) (t : Tabs Ts H) (s : Aft Ts H H') : LayAt H' a l g o ps := x.mono fun b xs e => s.tup t e
end GX
set_option Elab.async false
set_option linter.all false
set_option maxRecDepth 100000
set_option maxHeartbeats 4000000
/-! len of a set of whole numbers. -/
namespace GX
open PySem PySem.Spec PyProof.Rows L2
end GX
set_option Elab.async false
set_option linter.all false
set_option maxRecDepth 100000
set_option maxHeartbeats 4000000
/-! Likenesses: steps, pairs, what is shown. -/
namespace GX
open PySem PySem.Spec PyProof.Rows L2
abbrev IP := Int × Int
def pV (x : IP) : List V := [.int x.1, .int x.2]
structure Stp where
  a : Int
  b : Int
  ps : List IP
def PsAt (H : Hp) (p : Addr) (xs : List IP) : Prop := ∃ qs : List Addr, H p = some (.tup (qs.map V.ref)) ∧ RefsAt pV H qs xs
def StAt (H : Hp) (p : Addr) (s : Stp) : Prop := ∃ q, H p = some (.tup [.int s.a, .int s.b, .ref q]) ∧ PsAt H q s.ps
def LkAt (H : Hp) (p : Addr) (ss : List Stp) : Prop := ∃ qs : List Addr, H p = some (.tup (qs.map V.ref)) ∧ PtsAt StAt H qs ss
def Tups (H H' : Hp) : Prop := ∀ b xs, H b = some (.tup xs) → H' b = some (.tup xs)
theorem Tups.refl (H : Hp) : Tups H H := fun _ _ e => e
theorem Tups.trans {H1 H2 H3 : Hp} (a : Tups H1 H2) (b : Tups H2 H3) : Tups H1 H3 := fun _ _ e => b _ _ (a _ _ e)
theorem Tups.same {H H' : Hp} (s : Same H H') : Tups H H' := fun _ _ e => s _ _ e
theorem PsAt.mono {H H' : Hp} {p : Addr} {xs : List IP} (k : Tups H H') (x : PsAt H p xs) : PsAt H' p xs := by
  obtain ⟨qs, h1, h2⟩ := x
  exact ⟨qs, k _ _ h1, h2.mono k⟩
theorem StAt.mono {H H' : Hp} (k : Tups H H') (p : Addr) (s : Stp) (x : StAt H p s) : StAt H' p s := by
  obtain ⟨q, h1, h2⟩ := x
  exact ⟨q, k _ _ h1, h2.mono k⟩
theorem LkAt.mono {H H' : Hp} {p : Addr} {ss : List Stp} (k : Tups H H') (x : LkAt H p ss) : LkAt H' p ss := by
  obtain ⟨qs, h1, h2⟩ := x
  exact ⟨qs, k _ _ h1, h2.mono (StAt.mono k)⟩
/-! ### what is asked -/
def IsPr (n m : Net) (x : IP) : Prop := (0 ≤ x.1 ∧ x.1 < ((n.many + n.gates.length : Nat) : Int)) ∧ (0 ≤ x.2 ∧ x.2 < ((m.many + m.gates.length : Nat) : Int))
def SameI (n : Net) (x : IP) : Prop := x.1 = x.2 ∧ x.1 < ((n.many : Nat) : Int)
def Shn (n : Net) (S : List IP) (x : IP) : Prop := SameI n x ∨ x ∈ S
def fsts (xs : List IP) : List Nat := xs.map fun x => x.1.toNat
def snds (xs : List IP) : List Nat := xs.map fun x => x.2.toNat
structure PrsOk (n m : Net) (xs : List IP) : Prop where
  l1 : 1 ≤ xs.length
  l8 : xs.length ≤ 8
  each : ∀ x ∈ xs, IsPr n m x
  rise : (fsts xs).Pairwise (· < ·)
  nod : (snds xs).Nodup
structure StpOk (n m : Net) (S : List IP) (s : Stp) : Prop where
  pr : IsPr n m (s.a, s.b)
  ps : PrsOk n m s.ps
  shn : ∀ x ∈ s.ps, Shn n S x
  tl1 : Sep n s.a.toNat (fsts s.ps)
  tl2 : Sep m s.b.toNat (snds s.ps)
  ct : contOf n (fsts s.ps) s.a.toNat = contOf m (snds s.ps) s.b.toNat
def outPs (n m : Net) : List IP := (n.outs.zip m.outs).map fun x => (((x.1 : Nat) : Int), ((x.2 : Nat) : Int))
def key (s : Stp) : IP := (s.a, s.b)
def Hlds (n m : Net) : List IP → List Stp → Prop
  | S, [] => ∀ x ∈ outPs n m, Shn n S x
  | S, s :: r => StpOk n m S s ∧ Hlds n m (S ++ [key s]) r
theorem Hlds.at_ {n m : Net} {S : List IP} {ss : List Stp} {i : Nat} {s : Stp} (e : ss[i]? = some s) : Hlds n m S (ss.drop i) ↔ (StpOk n m S s ∧ Hlds n m (S ++ [key s]) (ss.drop (i + 1))) := by
  have hi := (List.getElem?_eq_some_iff.mp e).1
  have hs : ss[i] = s := (List.getElem?_eq_some_iff.mp e).2
  rw [List.drop_eq_getElem_cons hi, hs]
  exact Iff.rfl
/-! ### whole numbers -/
/-! ### rising pairs -/
theorem pair_up : ∀ (xs : List Nat), (∀ i, i + 1 < xs.length → xs.getD i 0 < xs.getD (i + 1) 0) → xs.Pairwise (· < ·)
  | [], _ => List.Pairwise.nil
  | [x], _ => List.pairwise_singleton _ _
  | x :: y :: r, h => by
    have ih := pair_up (y :: r) fun i hi => h (i + 1) (by rw [List.length_cons]; omega)
    refine List.pairwise_cons.mpr ⟨fun z hz => ?_, ih⟩
    have h0 : x < y := h 0 (by simp)
    rcases List.mem_cons.mp hz with e | e
    · rw [e]; exact h0
    · exact Nat.lt_trans h0 ((List.pairwise_cons.mp ih).1 z e)
/-! ### pairs in a list -/
/-! ### the dict of what is shown -/
def pK (x : IP) : List L2.Key := [.inl x.1, .inl x.2]
theorem pK_inj {x y : IP} (h : pK x = pK y) : x = y := by
  obtain ⟨h1, h2⟩ := List.cons.inj h
  obtain ⟨h3, _⟩ := List.cons.inj h2
  exact Prod.ext (Sum.inl.inj h1) (Sum.inl.inj h3)
structure ShD (H : Hp) (d : Addr) (S : List IP) (kvs : List (List L2.Key × V)) : Prop where
  at_ : H d = some (.dT kvs)
  len : kvs.length ≤ S.length
  iff : ∀ x, (valV kvs (pK x)).isSome = true ↔ x ∈ S
theorem ShD.put {H : Hp} {d : Addr} {S : List IP} {kvs : List (List L2.Key × V)} {x : IP} (h : ShD H d S kvs) : ShD (upd H d (.dT (putK kvs (pK x) (.bl true)))) d (S ++ [x]) (putK kvs (pK x) (.bl true)) := by
  refine ⟨upd_same, ?_, fun y => ?_⟩
  · have := length_putK kvs (pK x) (.bl true)
    have := h.len
    rw [List.length_append]
    show _ ≤ _ + 1
    omega
  · rw [valV_put, List.mem_append, List.mem_singleton]
    by_cases e : y = x
    · rw [if_pos (by rw [e])]
      exact ⟨fun _ => .inr e, fun _ => rfl⟩
    · rw [if_neg (fun z => e (pK_inj z)), h.iff]
      exact ⟨.inl, fun z => z.resolve_right e⟩
end GX
set_option Elab.async false
set_option linter.all false
set_option maxRecDepth 100000
set_option maxHeartbeats 4000000
namespace GX
open PySem PySem.Spec PyProof.Rows L2
def natsD (xs : List Nat) : List PyData := (xs.map fun n : Nat => (n : Int)).map PyData.int
theorem natsD_lst (xs : List Nat) : SeqAt.shaped (.list (natsD xs)) = true := PySem.W.ke_shaped_ints _
theorem natsD_eqv : ∀ xs ys : List Nat, PyData.eqvAll (natsD xs) (natsD ys) = decide (xs = ys)
  | [], [] => rfl
  | [], _ :: _ => rfl
  | _ :: _, [] => rfl
  | x :: xs, y :: ys => by
    show (((x : Int) == (y : Int)) && PyData.eqvAll (natsD xs) (natsD ys)) = _
    rw [natsD_eqv xs ys]
    by_cases h : x = y
    · subst h
      rw [beq_self_eq_true, Bool.true_and]
      exact decide_eq_decide.mpr ⟨fun z => by rw [z], fun z => (List.cons.inj z).2⟩
    · rw [beq_false_of_ne (fun z => h (Int.ofNat_inj.mp z)), Bool.false_and]
      exact (decide_eq_false (fun z => h (List.cons.inj z).1)).symm
theorem natsD_eqT (xs ys : List Nat) : PyData.eqv (.tuple (natsD xs)) (.tuple (natsD ys)) = decide (xs = ys) := natsD_eqv xs ys
theorem natsD_eqL (xs ys : List Nat) : PyData.eqv (.list (natsD xs)) (.list (natsD ys)) = decide (xs = ys) := natsD_eqv xs ys
theorem dp_natT {K : PySem.W.Frag} {H : Hp} {p : Addr} {xs : List Nat} (h : H p = some (.tup (xs.map nV))) : Dp K H (.ref p) (.tuple (natsD xs)) := .tup (SqT.of h) (dpNat K H xs)
theorem dp_natL {K : PySem.W.Frag} {H : Hp} {p : Addr} {xs : List Nat} (h : H p = some (.lst (xs.map nV))) : Dp K H (.ref p) (.list (natsD xs)) := .lst (SqL.of h) (dpNat K H xs)
theorem Aft.dT {Ts : List Addr} {H H' : Hp} (a : Aft Ts H H') (t : Tabs Ts H) {b : Addr} {kvs : List (List L2.Key × V)} (e : H b = some (.dT kvs)) : H' b = some (.dT kvs) := a.kp b _ e (t.nott e fun _ z => by cases z)
theorem ShD.aft {Ts : List Addr} {H H' : Hp} {d : Addr} {S : List IP} {kvs : List (List L2.Key × V)} (h : ShD H d S kvs) (a : Aft Ts H H') (t : Tabs Ts H) : ShD H' d S kvs := ⟨a.dT t h.at_, h.len, h.iff⟩
theorem ShD.same {H H' : Hp} {d : Addr} {S : List IP} {kvs : List (List L2.Key × V)} (h : ShD H d S kvs) (s : Same H H') : ShD H' d S kvs := ⟨s _ _ h.at_, h.len, h.iff⟩
theorem Aft.tups {Ts : List Addr} {H H' : Hp} (a : Aft Ts H H') (t : Tabs Ts H) : Tups H H' := fun _ _ e => a.tup t e
theorem PrsOk.nd {n m : Net} {xs : List IP} (h : PrsOk n m xs) : (fsts xs).Nodup := h.rise.imp fun z => Nat.ne_of_lt z
end GX
set_option Elab.async false
set_option linter.all false
set_option maxRecDepth 100000
set_option maxHeartbeats 4000000
/-! Things, and likenesses among them. -/
namespace GX
open PySem PySem.Spec PyProof.Rows L2
/-- tuples stand; lists stay lists, dicts dicts -/
def KeepR (H H' : Hp) : Prop := ∀ b, (∀ vs, H b = some (.tup vs) → H' b = some (.tup vs)) ∧ (∀ xs, H b = some (.lst xs) → ∃ ys, H' b = some (.lst ys)) ∧ (∀ k, H b = some (.dK k) → ∃ k', H' b = some (.dK k'))
mutual
theorem Rep.keepR {H H' : Hp} (k : KeepR H H') : ∀ {v : V} {t : Th}, Rep H v t → Rep H' v t
  | _, _, .non => .non
  | _, _, .bl b => .bl b
  | _, _, .int i => .int i
  | _, _, .str x => .str x
  | _, _, .lst (a := a) e => .lst ((k a).2.1 _ e).choose_spec
  | _, _, .dic (a := a) e => .dic ((k a).2.2 _ e).choose_spec
  | _, _, .tup (a := a) e r => .tup ((k a).1 _ e) (r.keepR k)
theorem RepAll.keepR {H H' : Hp} (k : KeepR H H') : ∀ {vs : List V} {ts : List Th}, RepAll H vs ts → RepAll H' vs ts
  | _, _, .nil => .nil
  | _, _, .cons a b => .cons (a.keepR k) (b.keepR k)
end
theorem KeepR.refl (H : Hp) : KeepR H H := fun b => ⟨fun _ e => e, fun _ e => ⟨_, e⟩, fun _ e => ⟨_, e⟩⟩
theorem KeepR.trans {H1 H2 H3 : Hp} (a : KeepR H1 H2) (c : KeepR H2 H3) : KeepR H1 H3 := fun b => ⟨fun _ e => (c b).1 _ ((a b).1 _ e), fun _ e => by
  obtain ⟨_, e'⟩ := (a b).2.1 _ e
  exact (c b).2.1 _ e', fun _ e => by
  obtain ⟨_, e'⟩ := (a b).2.2 _ e
  exact (c b).2.2 _ e'⟩
theorem KeepR.same {H H' : Hp} (s : Same H H') : KeepR H H' := fun b => ⟨fun _ e => s _ _ e, fun _ e => ⟨_, s _ _ e⟩, fun _ e => ⟨_, s _ _ e⟩⟩
theorem KeepR.aft {Ts : List Addr} {H H' : Hp} (t : Tabs Ts H) (a : Aft Ts H H') : KeepR H H' := fun b => ⟨fun _ e => a.kp b _ e (t.nott e fun _ z => by cases z), fun _ e => ⟨_, a.kp b _ e (t.nott e fun _ z => by cases z)⟩, fun _ e => ⟨_, a.kp b _ e (t.nott e fun _ z => by cases z)⟩⟩
theorem KeepR.put {H : Hp} {l : Addr} {xs ys : List V} (h : H l = some (.lst xs)) : KeepR H (upd H l (.lst ys)) := fun b => by
  by_cases e : b = l
  · subst e
    exact ⟨fun _ z => (by rw [h] at z; cases z), fun _ _ => ⟨_, upd_same⟩, fun _ z => (by rw [h] at z; cases z)⟩
  · exact ⟨fun _ z => (by rw [upd_ne e]; exact z), fun _ z => ⟨_, by rw [upd_ne e]; exact z⟩, fun _ z => ⟨_, by rw [upd_ne e]; exact z⟩⟩
/-! ### pairs, steps -/
theorem isB_iff {t : Th} {b : Int} : t.isB b = true ↔ ∃ i, t = .int i ∧ 0 ≤ i ∧ i < b := by
  cases t with
  | int i =>
    show (decide (0 ≤ i) && decide (i < b)) = true ↔ _
    rw [Bool.and_eq_true, decide_eq_true_iff, decide_eq_true_iff]
    exact ⟨fun h => ⟨i, rfl, h⟩, fun ⟨j, e, h⟩ => by cases e; exact h⟩
  | _ => exact ⟨fun h => (by cases h), fun ⟨_, e, _⟩ => by cases e⟩
end GX
set_option Elab.async false
set_option linter.all false
set_option maxRecDepth 100000
set_option maxHeartbeats 4000000
/-! The way past some wires, step by step up what is free. -/
namespace GX
open PySem PySem.Spec PyProof.Rows L2
def stB (n : Net) (x y : Nat) : Bool := decide (n.many ≤ y) && (match n.gates[y - n.many]? with | some k => decide (x = k.2.1 ∨ x = k.2.2) | none => false)
theorem stB_iff {n : Net} {x y : Nat} : stB n x y = true ↔ isSt n x y := by
  unfold stB isSt
  rw [Bool.and_eq_true, decide_eq_true_iff]
  refine ⟨fun ⟨h1, h2⟩ => ⟨h1, ?_⟩, fun ⟨h1, k, hk, h2⟩ => ⟨h1, ?_⟩⟩
  · cases e : n.gates[y - n.many]? with
    | none => rw [e] at h2; cases h2
    | some k =>
      rw [e] at h2
      exact ⟨k, rfl, of_decide_eq_true h2⟩
  · rw [hk]
    exact decide_eq_true h2
def lastD (ys : List Nat) : Nat := ys.getD (ys.length - 1) 0
def wpStep (n : Net) (ys : List Nat) (s : Nat) : List Nat := if stB n (lastD ys) s = true then ys ++ [s] else ys
def wpOf (n : Net) (xs : List Nat) : List Nat := xs.foldl (wpStep n) [xs.getD 0 0]
structure WpInv (n : Net) (xs ys : List Nat) (i : Nat) : Prop where
  ne : 0 < ys.length
  len : ys.length ≤ i + 1
  sub : ∀ y ∈ ys, y ∈ xs
  first : ys.getD 0 0 = xs.getD 0 0
  steps : ∀ j, j + 1 < ys.length → isSt n (ys.getD j 0) (ys.getD (j + 1) 0)
  no : ∀ j, j < i → lastD ys < xs.getD j 0 → ¬ isSt n (lastD ys) (xs.getD j 0)
theorem lastD_snoc (ys : List Nat) (s : Nat) : lastD (ys ++ [s]) = s := by
  unfold lastD
  rw [List.length_append, List.length_singleton, Nat.add_sub_cancel, List.getD_eq_getElem?_getD, List.getElem?_append_right (Nat.le_refl _), Nat.sub_self]
  rfl
theorem rise_getD {xs : List Nat} (h : xs.Pairwise (· < ·)) {i j : Nat} (hij : i < j) (hj : j < xs.length) : xs.getD i 0 < xs.getD j 0 := by
  rw [List.getD_eq_getElem?_getD, List.getD_eq_getElem?_getD, List.getElem?_eq_getElem (by omega : i < xs.length), List.getElem?_eq_getElem hj]
  exact List.pairwise_iff_getElem.mp h i j (by omega) hj hij
theorem wp_take {n : Net} {xs : List Nat} {i : Nat} (hi : i < xs.length) (a : List Nat) : (xs.take (i + 1)).foldl (wpStep n) a = wpStep n ((xs.take i).foldl (wpStep n) a) (xs.getD i 0) := by
  rw [List.take_add_one, List.getElem?_eq_getElem hi, Option.toList_some, List.foldl_append, List.getD_eq_getElem?_getD, List.getElem?_eq_getElem hi]
  rfl
theorem wp_inv {n : Net} {xs : List Nat} (h0 : 0 < xs.length) (hr : xs.Pairwise (· < ·)) : ∀ i, i ≤ xs.length → WpInv n xs ((xs.take i).foldl (wpStep n) [xs.getD 0 0]) i
  | 0, _ => ⟨Nat.zero_lt_one, Nat.le_refl _, fun y hy => by rw [List.mem_singleton.mp hy]; exact getD_mem h0, rfl, fun j hj => absurd hj (by show ¬ (j + 1 < 1); omega), fun j hj => absurd hj (Nat.not_lt_zero _)⟩
  | i + 1, hi => by
    have v := wp_inv (n := n) h0 hr i (by omega)
    rw [wp_take (by omega)]
    generalize (xs.take i).foldl (wpStep n) [xs.getD 0 0] = ys at v ⊢
    have y0 := v.ne
    unfold wpStep
    by_cases e : stB n (lastD ys) (xs.getD i 0) = true
    · rw [if_pos e]
      refine ⟨by rw [List.length_append]; omega, by rw [List.length_append, List.length_singleton]; have := v.len; omega, fun y hy => ?_, ?_, fun j hj => ?_, fun j hj hl => ?_⟩
      · rcases List.mem_append.mp hy with hy | hy
        · exact v.sub y hy
        · rw [List.mem_singleton.mp hy]
          exact getD_mem (by omega)
      · rw [getD_pre y0]
        exact v.first
      · rw [List.length_append, List.length_singleton] at hj
        by_cases hj' : j + 1 < ys.length
        · rw [getD_pre hj', getD_pre (by omega)]
          exact v.steps j hj'
        · have ej : j = ys.length - 1 := by omega
          have e1 : (ys ++ [xs.getD i 0]).getD j 0 = lastD ys := by
            rw [getD_pre (by omega), ej]
            rfl
          have e2 : (ys ++ [xs.getD i 0]).getD (j + 1) 0 = xs.getD i 0 := by
            rw [getD_post (by omega), show j + 1 - ys.length = 0 by omega]
            rfl
          rw [e1, e2]
          exact stB_iff.mp e
      · rw [lastD_snoc] at hl
        exfalso
        by_cases hji : j = i
        · rw [hji] at hl
          omega
        · have := rise_getD hr (i := j) (j := i) (by omega) (by omega)
          omega
    · rw [if_neg e]
      refine ⟨y0, by have := v.len; omega, v.sub, v.first, v.steps, fun j hj hl => ?_⟩
      by_cases hji : j = i
      · rw [hji]
        exact fun z => e (stB_iff.mpr z)
      · exact v.no j (by omega) hl
theorem wp_way {n : Net} (ok : n.Ok) {st xs : List Nat} {gt : Nat} (hg : gt < n.many + n.gates.length) (rs : Rset n st gt xs) (h0 : 0 < xs.length) (hf : xs.getD 0 0 < n.many) : Way n gt (wpOf n xs) ∧ ∀ y ∈ wpOf n xs, y ∈ xs := by
  have v := wp_inv (n := n) h0 rs.1 xs.length (Nat.le_refl _)
  rw [List.take_length] at v
  have v' : WpInv n xs (wpOf n xs) xs.length := v
  generalize wpOf n xs = ys at v'
  have y0 := v'.ne
  have lm : lastD ys ∈ xs := v'.sub _ (getD_mem (by omega))
  have hlast : lastD ys = gt := by
    cases (rs.2 _).mp lm with
    | here _ => rfl
    | @step g _ k r1 hgm hj hk hp hs =>
      have gx := (rs.2 g).mpr r1
      obtain ⟨j, hj', ej⟩ := mem_getD gx
      have lt := place_lt ok hgm hk hp
      exact absurd ⟨by rw [ej]; exact hgm, k, by rw [ej]; exact hk, hp⟩ (v'.no j hj' (by rw [ej]; exact lt))
  refine ⟨⟨y0, fun y hy => ?_, by rw [v'.first]; exact hf, hlast, v'.steps⟩, v'.sub⟩
  have := ((rs.2 y).mp (v'.sub y hy)).le ok
  omega
def wpRes (n : Net) (xs : List Nat) : Option (List Nat) := if xs.length = 0 ∨ n.many ≤ xs.getD 0 0 then none else some (wpOf n xs)
/-- None, or a tuple of whole numbers -/
def VRep (H : Hp) (v : V) : Option (List Nat) → Prop
  | none => v = .non
  | some ys => ∃ p, v = .ref p ∧ H p = some (.tup (ys.map nV))
theorem VRep.mono {H H' : Hp} {v : V} {r : Option (List Nat)} (h : VRep H v r) (k : ∀ b xs, H b = some (.tup xs) → H' b = some (.tup xs)) : VRep H' v r := by
  cases r with
  | none => exact h
  | some ys =>
    obtain ⟨p, e, hp⟩ := h
    exact ⟨p, e, k _ _ hp⟩
theorem dpNs (K : PySem.W.Frag) (H : Hp) : ∀ xs : List Nat, DpAll K H (xs.map nV) ((xs.map fun n : Nat => (n : Int)).map PyData.int)
  | [] => .nil
  | x :: r => .cons (.int _) (dpNs K H r)
/-- the same, compared -/
theorem VRep.dp {K : PySem.W.Frag} {H : Hp} {v : V} {r : Option (List Nat)} (h : VRep H v r) : ∃ d, (∀ v' : V, VRep H v' r → Dp K H v' d) ∧ SeqAt.shaped d = true ∧ PyData.eqv d d = true := by
  cases r with
  | none => exact ⟨.none, fun v' e => by cases e; exact .non, rfl, rfl⟩
  | some ys =>
    have sh : SeqAt.shaped (.tuple ((ys.map fun n : Nat => (n : Int)).map PyData.int)) = true := PySem.W.ke_shaped_ints (ys.map fun n : Nat => (n : Int))
    exact ⟨.tuple ((ys.map fun n : Nat => (n : Int)).map PyData.int), fun v' ⟨p, e, hp⟩ => by subst e; exact .tup (SqT.of hp) (dpNs K H ys), sh, SeqAt.eqv_refl _ (SeqAt.canLay_of_shaped sh)⟩
end GX
set_option Elab.async false
set_option linter.all false
set_option maxRecDepth 100000
set_option maxHeartbeats 4000000
/-! Covers among things. -/
namespace GX
open PySem PySem.Spec PyProof.Rows L2
theorem rep_pts {α : Type} {R : Hp → Addr → α → Prop} {f : α → Th} {H : Hp} (h : ∀ v x, Rep H v (f x) → ∃ p, v = .ref p ∧ R H p x) : ∀ {vs : List V} {xs : List α}, RepAll H vs (xs.map f) → ∃ qs : List Addr, vs = qs.map V.ref ∧ PtsAt R H qs xs
  | _, [], .nil => ⟨[], rfl, PtsAt.nil _ _⟩
  | _, x :: xs, .cons r ra => by
    obtain ⟨p, rfl, hp⟩ := h _ _ r
    obtain ⟨qs, rfl, h'⟩ := rep_pts h ra
    exact ⟨p :: qs, rfl, h'.cons hp⟩
theorem map_inj' {α : Type} {f : α → Th} (h : ∀ x y, f x = f y → x = y) : ∀ {xs ys : List α}, xs.map f = ys.map f → xs = ys
  | [], [], _ => rfl
  | [], _ :: _, e => by cases e
  | _ :: _, [], e => by cases e
  | x :: xs, y :: ys, e => by
    rw [List.map_cons, List.map_cons] at e
    injection e with h1 h2
    rw [h _ _ h1, map_inj' h h2]
theorem tup_inj {xs ys : List Th} (h : Th.tup xs = Th.tup ys) : xs = ys := by injection h
theorem int_inj {x y : Int} (h : Th.int x = Th.int y) : x = y := by injection h
def thW (x : Nat) : Th := .int ((x : Nat) : Int)
theorem thW_inj (x y : Nat) (h : thW x = thW y) : x = y := Int.ofNat_inj.mp (int_inj h)
def thWs (xs : List Nat) : Th := .tup (xs.map thW)
theorem thWs_inj {xs ys : List Nat} (h : thWs xs = thWs ys) : xs = ys := map_inj' thW_inj (tup_inj h)
theorem rep_nats {H : Hp} : ∀ xs : List Nat, RepAll H (xs.map nV) (xs.map thW)
  | [] => .nil
  | x :: xs => .cons (.int _) (rep_nats xs)
theorem nats_rep {H : Hp} : ∀ {vs : List V} {xs : List Nat}, RepAll H vs (xs.map thW) → vs = xs.map nV
  | _, [], .nil => rfl
  | _, x :: xs, .cons r ra => by
    have e : ∀ v, Rep H v (thW x) → v = nV x := fun v r => by
      unfold thW at r
      cases r
      rfl
    rw [e _ r, nats_rep ra]
    rfl
theorem rep_wsT {H : Hp} {p : Addr} {xs : List Nat} (h : H p = some (.tup (xs.map nV))) : Rep H (.ref p) (thWs xs) := .tup h (rep_nats xs)
theorem wsT_rep {H : Hp} {v : V} {xs : List Nat} (r : Rep H v (thWs xs)) : ∃ p, v = .ref p ∧ H p = some (.tup (xs.map nV)) := by
  unfold thWs at r
  cases r with
  | @tup a vs _ e ra => exact ⟨a, rfl, by rw [e, nats_rep ra]⟩
/-- a thing that is no tuple -/
theorem Rep.tupI {H : Hp} {v : V} {t : Th} (r : Rep H v t) (h : ¬ ((!t.kTup) = true)) : ∃ a vs ts, v = .ref a ∧ t = .tup ts ∧ H a = some (.tup vs) ∧ RepAll H vs ts := by
  cases r with
  | @tup a vs ts e ra => exact ⟨a, vs, ts, rfl, rfl, e, ra⟩
  | _ => exact absurd rfl h
theorem yesK {t : Th} (h : (!t.kTup) = true) : ∀ ts, t ≠ .tup ts := fun ts e => by
  rw [e] at h
  cases h
theorem isB_nat {t : Th} {b : Nat} : t.isB ((b : Nat) : Int) = true ↔ ∃ x : Nat, t = thW x ∧ x < b := by
  rw [isB_iff]
  constructor
  · rintro ⟨i, e, h0, h1⟩
    obtain ⟨x, rfl⟩ := Int.eq_ofNat_of_zero_le h0
    exact ⟨x, e, by omega⟩
  · rintro ⟨x, e, h⟩
    exact ⟨_, e, by omega, by omega⟩
end GX
set_option Elab.async false
set_option linter.all false
set_option maxRecDepth 100000
set_option maxHeartbeats 4000000
/-! x = {k: v for ..}: a dict comprehension given to a name. -/
namespace GX
open PySem PySem.Spec PyProof.Rows L2
section
variable {X : Cx}
theorem sw_trueD {kx vx : Expr} {cs : List Comprehension} {sc : Scope} {p py : Pos} {y : Str} {l : Nat} {env : Env} (hk : env.scope.kind = .function) (hy : env.scope.names.lookup y = some .local) (hl : (py.line == p.line) = true)
    (ha : (sc.names.any fun (n, k) => n == y && (k == .local || k == .cell)) = false) : swapsWith (.DictComp kx vx cs sc p) (some (.Name y py)) l env = pure true := by
  have k1 : env.kindOf y = some .local := hy
  have k2 : env.blockKind = .function := by unfold Env.blockKind; rw [hk]; rfl
  unfold swapsWith
  simp only [k2, k1, ha, Expr.pos, hl]
  rfl
theorem ps_setDc {i : Nat} {y : Str} {py : Pos} {kx vx tg it : Expr} {ifs : List Expr} {sc : Scope} {own : List (Str × Nat)} {p sp : Pos} {wi : TI} {g : TG} {tt : TT} {tk tv : TE} (hc : X.calm = true) (hN : X.N.Nodup) (hy : X.N[i]? = some y) (hyl : X.env.scope.names.lookup y = some .local)
    (sw : swapsWith (.DictComp kx vx [⟨tg, it, ifs, 0⟩] sc p) (some (.Name y py)) sp.line X.env = pure true) (hi : PI X tg it wi) (ok : BlkOk X.N X.env.scope sc own)
    (hg : ∀ (s : Shared) (H : Hp) (C : Addr) (cl : List (Str × Addr)) (fp : List Addr), PG (X.blk s H sc (compEnvC sc cl C X.env) fp) tg g) (ht : ∀ (s : Shared) (H : Hp) (C : Addr) (cl : List (Str × Addr)) (fp : List Addr), PTs (X.blk s H sc (compEnvC sc cl C X.env) fp) ifs tt)
    (hk : ∀ (s : Shared) (H : Hp) (C : Addr) (cl : List (Str × Addr)) (fp : List Addr), PE (X.blk s H sc (compEnvC sc cl C X.env) fp) kx tk)
    (he : ∀ (s : Shared) (H : Hp) (C : Addr) (cl : List (Str × Addr)) (fp : List Addr), PE (X.blk s H sc (compEnvC sc cl C X.env) fp) vx tv) (hs : ∀ x, foldedSetIterable it X.env x = pure x := by intro _; rfl) :
    PS X (.Assign [.Name y py] (.DictComp kx vx [⟨tg, it, ifs, 0⟩] sc p) sp) (tAsg (tDc wi g tt tk tv (own.map (·.2))) (gName i)) := by
  refine ⟨fun pins s σ H D I hh => ?_⟩
  rw [exec_Assign_Name_used _ _ _ _ sw]
  refine wpAny_bind (wpAny_standAt (wpAny_bind ?_))
  show wpAny _ X.A (do let _ ← comprehension (.DictComp kx vx [⟨tg, it, ifs, 0⟩] sc p) sc X.env (firstIterPos [⟨tg, it, ifs, 0⟩] p) newDict false (eval it X.env) (some (assign (.Name y py) X.env))) _ _ s
  have hh : tDc wi g tt tk tv (own.map (·.2)) σ H (fun x H1 => gName i x σ H1 D.nx) := hh
  refine wpAny_bind (thn (dc_core (Qf := fun _ t => SP X pins D .next t) hc hN I hi ok hg ht hk he hs hh fun L C t m H' I' q hn f => ?_) fun _ t hq => wpAny_pure (wpAny_pure hq))
  show wpAny _ _ (assign (.Name y py) X.env (.ref L)) _ _ _
  refine wpAny_assign_Name (store_ok2 (v := V.ref L) I' hN hy (.inl hyl) rfl (fun t2 I2 ⟨a, sb, ha⟩ => ?_) (.inr hyl))
  obtain ⟨f0, f1, f2, f3, f4, f5⟩ := f
  have nC : C ≠ a := by
    rcases ha with z | z
    · rw [z]; exact f1
    · exact fun e => f4 y a z e.symm
  refine ⟨m, hn.sameBut sb nC, fun h3 sb3 => ⟨_, H', I2.turned (t' := t2.toks) (fun b o hb e => (sb3.2 b hb).trans e) f0 f1 f3 f4 f5, q⟩⟩
end
end GX
set_option Elab.async false
set_option linter.all false
set_option maxRecDepth 100000
set_option maxHeartbeats 4000000
/-! Cuts put together as tuples. -/
namespace GX
open PySem PySem.Spec PyProof.Rows L2
/-! ### a dict whose keys are tuples of numbers -/
/-! ### masks of rising lists -/
/-! ### least ones, those of few wires first -/
def SubL (c d : List Nat) : Prop := ∀ x ∈ c, x ∈ d
def Minl (F : List (List Nat)) (c : List Nat) : Prop := ∀ c' ∈ F, SubL c' c → c' = c
/-- what is kept so far: all least ones below a size, and the first few of it -/
structure KeptL (F : List (List Nat)) (s : Nat) (rows : List (List Nat)) (R : List (List Nat)) : Prop where
  nd : R.Nodup
  mem : ∀ c, c ∈ R ↔ ((c ∈ F ∧ c.length < s ∨ c ∈ rows) ∧ Minl F c)
theorem KeptL.yes {F : List (List Nat)} {s : Nat} {rows R : List (List Nat)} (h : KeptL F s rows R) {c : List Nat} (hs : c.length = s) (hr : c ∉ rows) (hm : Minl F c) : KeptL F s (rows ++ [c]) (R ++ [c]) := by
  refine ⟨?_, fun d => ?_⟩
  · refine List.nodup_append.mpr ⟨h.nd, List.nodup_cons.mpr ⟨fun z => (by cases z), List.nodup_nil⟩, fun a ha b hb e => ?_⟩
    rw [List.mem_singleton.mp hb] at e
    rw [e] at ha
    rcases ((h.mem c).mp ha).1 with z | z
    · omega
    · exact hr z
  · rw [List.mem_append, h.mem, List.mem_append, List.mem_singleton]
    constructor
    · rintro (⟨h1, h2⟩ | rfl)
      · exact ⟨h1.imp id .inl, h2⟩
      · exact ⟨.inr (.inr rfl), hm⟩
    · rintro ⟨h1 | h1 | rfl, h2⟩
      · exact .inl ⟨.inl h1, h2⟩
      · exact .inl ⟨.inr h1, h2⟩
      · exact .inr rfl
theorem KeptL.no {F : List (List Nat)} {s : Nat} {rows R : List (List Nat)} (h : KeptL F s rows R) {c : List Nat} (hm : ¬ Minl F c) : KeptL F s (rows ++ [c]) R := by
  refine ⟨h.nd, fun d => ?_⟩
  rw [h.mem, List.mem_append, List.mem_singleton]
  constructor
  · rintro ⟨h1, h2⟩
    exact ⟨h1.imp id .inl, h2⟩
  · rintro ⟨h1 | h1 | rfl, h2⟩
    · exact ⟨.inl h1, h2⟩
    · exact ⟨.inr h1, h2⟩
    · exact absurd h2 hm
theorem KeptL.next {F : List (List Nat)} {s : Nat} {R : List (List Nat)} (h : KeptL F s (F.filter fun c => decide (c.length = s)) R) : KeptL F (s + 1) [] R := by
  refine ⟨h.nd, fun c => ?_⟩
  rw [h.mem]
  refine and_congr_left fun _ => ?_
  rw [List.mem_filter, decide_eq_true_iff]
  constructor
  · rintro (⟨h1, h2⟩ | ⟨h1, h2⟩)
    · exact .inl ⟨h1, by omega⟩
    · exact .inl ⟨h1, by omega⟩
  · rintro (⟨h1, h2⟩ | h1)
    · by_cases e : c.length = s
      · exact .inr ⟨h1, e⟩
      · exact .inl ⟨h1, by omega⟩
    · cases h1
/-! ### cuts of wires as masks -/
end GX
set_option Elab.async false
set_option linter.all false
/-! A gate of a net. -/
namespace GX
open PySem PySem.Spec PyProof.Rows L2
theorem gateAt {n : Net} {a g o : Addr} {ps : List Addr} {Ha : Hp} (x : Nat) (NA : NetAt Ha a n g o ps) (h1 : n.many ≤ x) (h2 : x < n.many + n.gates.length) : ∃ (k : Nat × Nat × Nat) (p : Addr), n.gates[x - n.many]? = some k ∧ Ha p = some (.tup (gV k)) ∧ atI (ps.map V.ref) (((x : Nat) : Int) - ((n.many : Nat) : Int)) = some (.ref p) := by
  obtain ⟨k, hk⟩ : ∃ k, n.gates[x - n.many]? = some k := ⟨_, List.getElem?_eq_getElem (by omega)⟩
  have hil : x - n.many < ps.length := by rw [NA.gs.1]; omega
  refine ⟨k, ps[x - n.many], hk, NA.gs.2 _ _ _ (List.getElem?_eq_getElem hil) hk, ?_⟩
  rw [show (((x : Nat) : Int) - ((n.many : Nat) : Int)) = ((x - n.many : Nat) : Int) by omega]
  exact atI_nat (by rw [List.getElem?_map, List.getElem?_eq_getElem hil]; rfl)
end GX
set_option Elab.async false
set_option linter.all false
set_option maxRecDepth 100000
set_option maxHeartbeats 4000000
/-! Gates that stand in several tables, counted. -/
namespace GX
open PySem PySem.Spec PyProof.Rows L2
def InT (n : Net) (t : Tb) (x : Nat) : Prop := n.many ≤ x ∧ Rc n t.2 t.1 n.many x
noncomputable def inT (n : Net) (t : Tb) (x : Nat) : Bool := @decide (InT n t x) (Classical.propDecidable _)
/-- a dict of counts -/
structure CntAt (kvs : List (L2.Key × V)) (c : Nat → Nat) (b : Nat) : Prop where
  keys : ∃ F : List Nat, kvs.map (fun kv : L2.Key × V => kv.1) = F.map nK ∧ F.Nodup ∧ ∀ x ∈ F, x < b
  val : ∀ x, valV kvs (nK x) = if c x = 0 then none else some (nV (c x))
theorem CntAt.nil (b : Nat) : CntAt [] (fun _ => 0) b := ⟨⟨[], rfl, List.nodup_nil, fun x hx => by (cases hx)⟩, fun x => by rw [if_pos rfl]; rfl⟩
theorem CntAt.mem {kvs : List (L2.Key × V)} {c : Nat → Nat} {b : Nat} (h : CntAt kvs c b) {F : List Nat} (hF : kvs.map (fun kv : L2.Key × V => kv.1) = F.map nK) (x : Nat) : x ∈ F ↔ c x ≠ 0 := by
  have h1 : (kvs.any fun kv => decide (kv.1 = nK x)) = decide (x ∈ F) := by
    rw [Bool.eq_iff_iff, List.any_eq_true, decide_eq_true_iff]
    constructor
    · rintro ⟨kv, hk, e⟩
      have : kv.1 ∈ F.map nK := by rw [← hF]; exact List.mem_map.mpr ⟨kv, hk, rfl⟩
      obtain ⟨y, hy, e2⟩ := List.mem_map.mp this
      have e' : kv.1 = nK x := of_decide_eq_true e
      rw [e'] at e2
      rw [← nK_inj e2]
      exact hy
    · intro hx
      have : nK x ∈ kvs.map (fun kv : L2.Key × V => kv.1) := by rw [hF]; exact List.mem_map.mpr ⟨x, hx, rfl⟩
      obtain ⟨kv, hk, e⟩ := List.mem_map.mp this
      exact ⟨kv, hk, decide_eq_true e⟩
  rw [valV_any, h.val] at h1
  by_cases e : c x = 0
  · rw [if_pos e] at h1
    have : ¬ x ∈ F := of_decide_eq_false h1.symm
    exact ⟨fun z => absurd z this, fun z => absurd e z⟩
  · rw [if_neg e] at h1
    exact ⟨fun _ => e, fun _ => of_decide_eq_true h1.symm⟩
theorem CntAt.len {kvs : List (L2.Key × V)} {c : Nat → Nat} {b : Nat} (h : CntAt kvs c b) : kvs.length ≤ b := by
  obtain ⟨F, h1, h2, h3⟩ := h.keys
  have := nodup_lt h2 h3
  rw [← List.length_map (as := kvs) (fun kv : L2.Key × V => kv.1), h1, List.length_map]
  exact this
theorem CntAt.put {kvs : List (L2.Key × V)} {c : Nat → Nat} {b x : Nat} (h : CntAt kvs c b) (hx : x < b) : CntAt (putK kvs (nK x) (nV (c x + 1))) (fun y => c y + (if y = x then 1 else 0)) b := by
  refine ⟨?_, fun y => ?_⟩
  · obtain ⟨F, h1, h2, h3⟩ := h.keys
    by_cases e : x ∈ F
    · refine ⟨F, ?_, h2, h3⟩
      unfold putK
      rw [if_pos, List.map_map, ← h1]
      · apply List.map_congr_left
        intro kv _
        show (if kv.1 = nK x then (kv.1, nV (c x + 1)) else kv).1 = kv.1
        split <;> rfl
      · rw [valV_any, h.val, if_neg ((h.mem h1 x).mp e)]
        rfl
    · refine ⟨F ++ [x], ?_, nodup_snoc h2 e, fun y hy => ?_⟩
      · rw [putK_new, List.map_append, List.map_append, h1]
        · rfl
        · rw [h.val, if_pos (Classical.not_not.mp fun z => e ((h.mem h1 x).mpr z))]
      · rcases List.mem_append.mp hy with hy | hy
        · exact h3 y hy
        · rw [List.mem_singleton.mp hy]
          exact hx
  · rw [valV_put]
    by_cases e : y = x
    · subst e
      rw [if_pos rfl]
      show some (nV (c y + 1)) = if c y + (if y = y then 1 else 0) = 0 then none else some (nV (c y + (if y = y then 1 else 0)))
      rw [if_pos (rfl : y = y), if_neg (by omega)]
    · rw [if_neg (fun z => e (nK_inj z)), h.val]
      show _ = if c y + (if y = x then 1 else 0) = 0 then none else some (nV (c y + (if y = x then 1 else 0)))
      rw [if_neg e, Nat.add_zero]
theorem CntAt.get {kvs : List (L2.Key × V)} {c : Nat → Nat} {b : Nat} (h : CntAt kvs c b) (x : Nat) : (valV kvs (nK x)).getD (.int 0) = nV (c x) := by
  rw [h.val]
  by_cases e : c x = 0
  · rw [if_pos e, e]
    rfl
  · rw [if_neg e]
    rfl
end GX
set_option Elab.async false
set_option linter.all false
set_option maxRecDepth 100000
set_option maxHeartbeats 4000000
/-! Layouts among things. -/
namespace GX
open PySem PySem.Spec PyProof.Rows L2
theorem all_isB {c : Nat} : ∀ {ts : List Th}, ts.all (Th.isB ((c : Nat) : Int)) = true ↔ ∃ xs : List Nat, ts = xs.map thW ∧ ∀ x ∈ xs, x < c
  | [] => ⟨fun _ => ⟨[], rfl, fun x hx => by cases hx⟩, fun _ => rfl⟩
  | t :: ts => by
    rw [List.all_cons, Bool.and_eq_true, isB_nat, all_isB]
    constructor
    · rintro ⟨⟨x, rfl, h⟩, xs, rfl, g⟩
      exact ⟨x :: xs, rfl, fun y hy => by
        rcases List.mem_cons.mp hy with rfl | hy
        · exact h
        · exact g y hy⟩
    · rintro ⟨xs, e, g⟩
      cases xs with
      | nil => cases e
      | cons x xs =>
        rw [List.map_cons] at e
        injection e with e1 e2
        exact ⟨⟨x, e1, g x List.mem_cons_self⟩, xs, e2, fun y hy => g y (List.mem_cons_of_mem _ hy)⟩
theorem outs_iff {t : Th} {c : Nat} : t.outs ((c : Nat) : Int) = true ↔ ∃ os : List Nat, t = thWs os ∧ 1 ≤ os.length ∧ os.length ≤ 8 ∧ ∀ x ∈ os, x < c := by
  cases t with
  | tup ts =>
    show ((decide (1 ≤ ts.length) && decide (ts.length ≤ 8)) && ts.all (Th.isB ((c : Nat) : Int))) = true ↔ _
    rw [Bool.and_eq_true, Bool.and_eq_true, decide_eq_true_iff, decide_eq_true_iff, all_isB]
    constructor
    · rintro ⟨⟨h1, h2⟩, xs, rfl, g⟩
      rw [List.length_map] at h1 h2
      exact ⟨xs, rfl, h1, h2, g⟩
    · rintro ⟨xs, e, h1, h2, g⟩
      have e := tup_inj e
      subst e
      rw [List.length_map]
      exact ⟨⟨h1, h2⟩, xs, rfl, g⟩
  | _ => exact ⟨fun h => (by cases h), fun ⟨os, e, _⟩ => by cases e⟩
end GX
set_option Elab.async false
set_option linter.all false
set_option maxRecDepth 100000
set_option maxHeartbeats 4000000
/-! Methods that may raise. -/
namespace GX
open PySem PySem.Spec PyProof.Rows L2
structure MetX (P : Program) (w : World) (K : PySem.W.Frag) (mg : Str → Option Value) (base : Heap) (k : Nat) (C : Addr) (m : Str) (sp : Sp) : Prop where
  ex : ∃ (f : Addr) (fd : FuncData) (ps : List Str), Cls K C ∧ Meth K C m f ∧ FnOk P w K mg base (L2.CX P w) k f fd ps sp ∧ Binds K fd ps []
theorem metX {P : Program} {w : World} {K : PySem.W.Frag} {mg : Str → Option Value} {base : Heap} {C : Addr} {m qual : Str} {st : Stmt} {f c : Addr} {N ps : List Str} {k : Nat} {sp : Sp} (D : Mtd K C m qual st f c)
    (bind : ∀ (kV doc pm : Value) (an : Option Addr) (cdv ct : Value) (us : List Value), us.length = ps.length → bindArgs (PySem.W.fnOf m qual (defArgs st) (defBody st) (defScope st) .none kV doc pm an cdv ct) ⟨us, []⟩ = pure (ps.zip us))
    (S : FnScope N ps (defScope st)) (len : ∀ vs H Q E, sp vs H Q E → vs.length = ps.length)
    (body : ∀ (A : Around) (outer : List Env) (s : Shared) (H : Hp) (vs : List V) (Q : VK) (E : XK), Room k (A.deeper (envOfC qual (defScope st) s.heap.objs.size f (.ref c))) → sp vs H Q E →
      Takes (cxOf (L2.CX P w) P w K mg base N qual (defScope st) f (.ref c) A outer s H E) (fun cls d _ H => E cls d H) →
      ∃ t, PSs (cxOf (L2.CX P w) P w K mg base N qual (defScope st) f (.ref c) A outer s H E) (defBody st) t ∧ t { nx := fun _ H' => Q .non H', rt := Q } (start N vs) H) : MetX P w K mg base (k + 1) C m sp := by
  obtain ⟨oc, od, kV, doc, pm, an, ct, osl, lk⟩ := D.ex
  refine ⟨f, _, ps, D.cl, D.mt, fn_of lk D.hcd S len (fun A outer s H vs Q E hr hsp => ?_), .all (bind kV doc pm an (.ref c) ct)⟩
  exact body A outer s H vs Q E hr hsp (takes_of rfl rfl rfl rfl)
def tMethX (C : Addr) (m : Str) (sp : Sp) (W : WX) (to : TE) (t : TA) : TE := fun σ H Q => to σ H fun x H1 => ∃ (a dx : Addr) (fs : List (Str × V)), x = .ref a ∧ H1 a = some (.ins C dx fs) ∧ fs.lookup m = none ∧ t σ H1 fun vs H2 => sp (x :: vs) H2 Q (WE W σ)
theorem pe_mtX {X : Cx} {W : WX} {k j : Nat} {C : Addr} {m : Str} {sp : Sp} {o e : Expr} {es : List Expr} {to : TE} {t : TA} {pos apos : Pos} {pl : Sem Bool} (c : MetX X.prog X.w X.K X.mg X.base k C m sp) (tk : Takes X W) (hr : Room j X.A) (hk : k ≤ j) (ho : PE X o to) (ha : PA X (e :: es) t)
    (h1 : starEach (e :: es) X.env = (false, eval e X.env) :: starEach es X.env := by rfl) (h2 : (backTo pos (starEach es X.env)).any (·.1) = false := by rfl)
    (ht : eval (.Call (.Attribute o m apos) (e :: es) [] pos) X.env = (do let ov ← eval o X.env; standAt apos.atName; let (fn, bound) ← holding [ov] (getMethod ov m pl); callWith pos fn bound (backTo pos (starEach (e :: es) X.env)) (backToKw pos (keywordEach [] X.env))) := by rfl) :
    PE X (.Call (.Attribute o m apos) (e :: es) [] pos) (tMethX C m sp W to t) := by
  obtain ⟨f, fd, ps, hc, hm, F, hb⟩ := c.ex
  refine ⟨fun pins s σ H Q I h => PySem.W.methodCall_KW (pl := pl) (thn (ho.run pins s σ H _ I h) fun u s1 hh => ?_) ht⟩
  obtain ⟨x, H1, I1, rx, a, dx, fs, rfl, ea, l, q⟩ := hh
  cases rx
  refine getmeth_ok I1 ea hc hm l (PySem.W.callWith_K (first := [.ref a]) (h₀ := X.base) I.ok.mod.kin hm.kp (thn (ha.run pos pins s1 σ H1 _ I1 q) fun us s2 h3 => ?_) h1 h2)
  obtain ⟨vs, H2, I2, r, q2⟩ := h3
  exact ⟨I2.kIn, run_fnS (us := .ref a :: us) (vs := .ref a :: vs) F (hr.mono hk) hb (passAt tk σ) I2 (.cons rfl r) q2⟩
end GX
set_option Elab.async false
set_option linter.all false
set_option maxRecDepth 100000
set_option maxHeartbeats 4000000
/-! A tuple of things of any make, held against a tuple of one text. -/
namespace GX
open PySem PySem.Spec PyProof.Rows L2
open PySem.SeqAt (EqAt)
end GX
set_option Elab.async false
set_option linter.all false
set_option maxRecDepth 100000
set_option maxHeartbeats 2000000
/-! words: numbers and nets as texts -/
namespace GX
open PySem PySem.Spec PyProof.Rows L2 TL
def mkS (l : List Nat) : Str := ⟨l.toArray⟩
theorem tl_mkS (l : List Nat) : tl (mkS l) = l := rfl
theorem mkS_eq {x : Str} {l : List Nat} (h : tl x = l) : x = mkS l := ext_tl h
theorem len_mkS (l : List Nat) : (mkS l).length = l.length := len_tl _
def dgC (c : Nat) : Bool := decide (48 ≤ c) && decide (c ≤ 57)
def valW (w : List Nat) : Nat := w.foldl (fun n c => 10 * n + (c - 48)) 0
/-- the number that a word writes -/
def numW (w : List Nat) : Option Nat := if w = [] then none else if w.all dgC = true then (if w.head? = some 48 ∧ w ≠ [48] then none else some (valW w)) else none
def numsW (ws : List (List Nat)) : Option (List Nat) := if (ws.all fun w => (numW w).isSome) = true then some (ws.map fun w => (numW w).getD 0) else none
def wordsW (row : List Nat) : List (List Nat) := spl [32] 0 [] row
/-! ### texts of nets -/
def dgs (n : Nat) : List Nat := tl (Str.ofString (toString (n : Int)))
theorem joinL_cons (S p : List Nat) (q : List Nat) (r : List (List Nat)) : joinL S (p :: q :: r) = p ++ (S ++ joinL S (q :: r)) := rfl
theorem mem_joinL {S : List Nat} {c : Nat} : ∀ {ws : List (List Nat)}, c ∈ joinL S ws → c ∈ S ∨ ∃ w ∈ ws, c ∈ w
  | [], h => nomatch h
  | [p], h => .inr ⟨p, List.mem_singleton.mpr rfl, h⟩
  | p :: q :: r, h => by
    rw [joinL_cons] at h
    rcases List.mem_append.mp h with h | h
    · exact .inr ⟨p, List.mem_cons_self .., h⟩
    rcases List.mem_append.mp h with h | h
    · exact .inl h
    · rcases mem_joinL h with h | ⟨w, hw, h⟩
      · exact .inl h
      · exact .inr ⟨w, List.mem_cons_of_mem _ hw, h⟩
theorem len_joinL {S : List Nat} {b : Nat} : ∀ {ws : List (List Nat)}, (∀ w ∈ ws, w.length ≤ b) → (joinL S ws).length ≤ ws.length * (b + S.length)
  | [], _ => Nat.zero_le _
  | [p], h => by
    have := h p (List.mem_singleton.mpr rfl)
    show p.length ≤ 1 * (b + S.length)
    omega
  | p :: q :: r, h => by
    have h1 := h p (List.mem_cons_self ..)
    have h2 := len_joinL (S := S) (ws := q :: r) fun w hw => h w (List.mem_cons_of_mem _ hw)
    rw [joinL_cons, List.length_append, List.length_append, List.length_cons, Nat.add_mul]
    omega
theorem words_join {ws : List (List Nat)} (h : ws ≠ []) (h2 : ∀ w ∈ ws, 32 ∉ w) : wordsW (joinL [32] ws) = ws := spl_join h h2
theorem Net.Ok.at {n : Net} (ok : n.Ok) {i : Nat} {g : Nat × Nat × Nat} (e : n.gates[i]? = some g) : gateOk n.many i g ∧ n.many + i < 24 := by
  have := (List.getElem?_eq_some_iff.mp e).1
  have := ok.m8
  have := ok.g16
  exact ⟨ok.gs i g e, by omega⟩
theorem Aft.putW {Ts : List Addr} {H H' : Hp} {l : Addr} {o : HO} (a : Aft Ts H H') (n : H l = none) (n2 : l ∉ Ts) : Aft Ts H (L2.upd H' l o) := ⟨fun b u e nb => by rw [upd_ne (ne_of_none e n)]; exact a.kp b u e nb, fun P hP => by
  have := a.tb P hP
  unfold GxR.TabG at this ⊢
  rw [upd_ne (fun z : P = l => n2 (by rw [← z]; exact hP))]
  exact this⟩
/-! ### values -/
def oV : Option Nat → V
  | none => .non
  | some n => nV n
def thO : Option (List Nat) → Th
  | none => .non
  | some ns => .tup (ns.map fun n : Nat => .int (n : Int))
def TupO (H : Hp) (v : V) : Option (List Nat) → Prop
  | none => v = .non
  | some ns => ∃ a, v = .ref a ∧ H a = some (.tup (ns.map nV))
theorem figs : ∀ c, decide (c ∈ tl ("0123456789" : Str)) = dgC c := fun c => by
  have e : tl ("0123456789" : Str) = [48, 49, 50, 51, 52, 53, 54, 55, 56, 57] := by decide +kernel
  rw [e]
  by_cases h : dgC c = true
  · rw [h]
    refine decide_eq_true ?_
    have h' := Bool.and_eq_true_iff.mp h
    have h1 := of_decide_eq_true h'.1
    have h2 := of_decide_eq_true h'.2
    simp only [List.mem_cons, List.not_mem_nil, or_false]
    omega
  · rw [Bool.eq_false_iff.mpr h]
    refine decide_eq_false fun z => h ?_
    simp only [List.mem_cons, List.not_mem_nil, or_false] at z
    exact Bool.and_eq_true_iff.mpr ⟨decide_eq_true (by omega), decide_eq_true (by omega)⟩
theorem fig_at : ∀ c, c < 58 → 48 ≤ c → Builtin.Str.occurrences ("0123456789" : Str) ⟨#[c]⟩ 0 (Str.length "0123456789") 1 = [c - 48] := by decide +kernel
theorem isSome_oV {o : Option Nat} : eqV (oV o) .non = o.isNone := by cases o <;> rfl
theorem inV_oV (l : List (Option Nat)) : inV .non (l.map oV) = l.any Option.isNone := by
  unfold inV
  rw [List.any_map]
  congr 1
  funext o
  exact isSome_oV
/-! ### pieces of a net's text -/
theorem app_len (a b : Str) : (a ++ b).length = a.length + b.length := by rw [len_tl, tl_append, List.length_append, ← len_tl, ← len_tl]
theorem join_mkS (y : Str) (ps : List (List Nat)) : Txt.join y (ps.map mkS) = mkS (joinL (tl y) ps) := mkS_eq (by
  rw [join_eq, tl_join, List.map_map]
  congr 1
  exact (List.map_congr_left fun p _ => tl_mkS p).trans (List.map_id ps))
theorem sum_le {ys : List Str} {b : Nat} (h : ∀ y ∈ ys, y.length ≤ b) : (ys.map (·.length)).sum ≤ ys.length * b := by
  induction ys with
  | nil => exact Nat.zero_le _
  | cons y ys ih =>
    have h1 := h y (List.mem_cons_self ..)
    have h2 := ih fun z hz => h z (List.mem_cons_of_mem _ hz)
    rw [List.map_cons, List.sum_cons, List.length_cons, Nat.add_mul]
    omega
theorem join_fits {ys : List Str} {b c d : Nat} (h : ∀ y ∈ ys, y.length ≤ b) (hl : ys.length ≤ c) (hd : c * b + c * d ≤ 16777216) : (ys.map (·.length)).sum + ys.length * d ≤ 16777216 := by
  have h1 := sum_le h
  have h2 : ys.length * b ≤ c * b := Nat.mul_le_mul_right _ hl
  have h3 : ys.length * d ≤ c * d := Nat.mul_le_mul_right _ hl
  omega
/-! ### whether a thing is a text -/
def Th.kStr : Th → Bool
  | .str _ => true
  | _ => false
theorem kStr_ok : ∀ t : Th, kitB (tyN t) "str" = some t.kStr
  | .non => by decide +kernel
  | .bl _ => by show kitB "bool" "str" = some false; decide +kernel
  | .int _ => by show kitB "int" "str" = some false; decide +kernel
  | .str _ => by show kitB "str" "str" = some true; decide +kernel
  | .oth true => by show kitB "list" "str" = some false; decide +kernel
  | .oth false => by show kitB "dict" "str" = some false; decide +kernel
  | .tup _ => by show kitB "tuple" "str" = some false; decide +kernel
end GX
set_option Elab.async false
set_option linter.all false
set_option maxRecDepth 100000
set_option maxHeartbeats 2000000
/-! texts that are read are what is shown -/
namespace GX
open PySem PySem.Spec PyProof.Rows L2 TL
theorem numsW_some {ws : List (List Nat)} {ns : List Nat} (h : numsW ws = some ns) : ws.map numW = ns.map some := by
  unfold numsW at h
  split at h
  · rename_i hall
    cases h
    rw [List.map_map]
    refine List.map_congr_left fun w hw => ?_
    have := List.all_eq_true.mp hall w hw
    show numW w = some ((numW w).getD 0)
    cases e : numW w with
    | none => rw [e] at this; cases this
    | some n => rfl
  · cases h
/-! ### the law's numbers -/
end GX
set_option Elab.async false
set_option linter.all false
set_option maxRecDepth 100000
set_option maxHeartbeats 2000000
/-! x in range(a, b), x a whole number -/
namespace PySem
open Sem (wp)
end PySem
namespace L2
open PySem PySem.Spec PyProof.Rows
end L2
namespace GX
open PySem PySem.Spec PyProof.Rows L2
end GX
set_option Elab.async false
set_option linter.all false
set_option maxRecDepth 100000
set_option maxHeartbeats 4000000
/-! An own exception class whose __init__ says super().__init__(text), then stores a field. -/
namespace GX
open PySem PySem.Spec PySem.W PyProof.Rows L2
end GX
set_option Elab.async false
set_option linter.all false
set_option maxRecDepth 100000
set_option maxHeartbeats 4000000
/-! super().__init__(text) in an __init__ of an own exception. -/
namespace GX
open PySem PySem.Spec PySem.W PyProof.Rows L2
/-- what is known of an own exception's __init__ that calls super's: its object, its cell, its code -/
structure SupF (P : Program) (K : PySem.W.Frag) (mg : Str → Option Value) (C f c cl : Addr) (fd : FuncData) (fld : Str) : Prop where
  lk : ∃ oc od osl, K.lookup f = some ⟨oc, od, .func fd, osl⟩
  cell : ∃ oc od osl, K.lookup cl = some ⟨oc, od, .cell (some (.ref C)), osl⟩
  code : fd.code = .ref c
  rec_ : ∃ oc od vs osl t1 file t2, K.lookup c = some ⟨oc, od, .fields vs, osl⟩ ∧ vs[1]? = some (.str fd.qualname t1) ∧ vs[2]? = some (.str file t2) ∧ (P.main.file == file) = true
  main : (P.main.scope.names.lookup ("super" : Str)).isSome = false
  clos : fd.closure = [(("__class__" : Str), cl)]
  glob : fd.globals = mainGlobals
  blt : fd.builtins = builtinsNs
  kind : fd.scope.kind = .function
  co : fd.scope.isCoroutine = false
  gen : fd.scope.isGenerator = false
  names : fd.scope.names = ([(("self" : Str), NameKind.local), (fld, NameKind.local), (("__class__" : Str), NameKind.free), (("super" : Str), NameKind.globalImplicit)] : List (Str × NameKind))
  par : ∃ ar, (fd.params.posonlyargs ++ fd.params.args).head? = some ar ∧ ar.arg = "self"
  T : OexC K C
  sup : ks_superIn K C C "__init__" = some (some (.builtin "ValueError.__init__"))
  sub : subIn K (.ref C) (.type "ValueError") = some true
  self : mroIn K C (.ref C) = some true
  fnd : findIn K (.ref C) fld = some none
  opq : nsIn K cStatics "thirdparty.any" = some none
  ns : mg "super" = none
  fne : ("self" : Str) ≠ fld ∧ ("__class__" : Str) ≠ fld ∧ ("super" : Str) ≠ fld
  dbg : (fld == ("__debug__" : Str)) = false
  cdi : (fld == ("__classdict__" : Str)) = false
section
variable {P : Program} {w : World} {K : PySem.W.Frag} {mg : Str → Option Value} {base : Heap} {C f c cl : Addr} {fd : FuncData} {fld : Str}
theorem SupF.free (S : SupF P K mg C f c cl fd fld) {x : Str} (h : fd.scope.names.lookup x = some .cell ∨ fd.scope.names.lookup x = some .free) : x = "__class__" := by
  rw [S.names] at h
  rcases h with h | h
  all_goals
    have := PySem.mem_of_lookup h
    simp only [List.mem_cons, Prod.mk.injEq, List.not_mem_nil, or_false] at this
    rcases this with ⟨_, z⟩ | ⟨_, z⟩ | ⟨e, z⟩ | ⟨_, z⟩
    all_goals first | exact e | cases z
end
end GX
set_option Elab.async false
set_option linter.all false
set_option maxRecDepth 100000
set_option maxHeartbeats 4000000
/-! An own exception made as a value: it stays known. -/
namespace GX
open PySem PySem.Spec PySem.W PyProof.Rows L2
end GX
set_option Elab.async false
set_option linter.all false
set_option maxRecDepth 100000
set_option maxHeartbeats 4000000
/-! Defs that raise nothing, called where an exception may be handled (within an except suite). -/
namespace GX
open PySem PySem.Spec PySem.W PyProof.Rows L2
end GX
set_option Elab.async false
set_option linter.all false
set_option maxRecDepth 100000
set_option maxHeartbeats 4000000
/-! A text times an int. -/
namespace GX
open PySem PySem.Spec PyProof.Rows L2
end GX
namespace C8
open PySem PySem.Spec PyProof.Rows L2 GX
end C8
set_option Elab.async false
set_option linter.all false
set_option maxRecDepth 100000
set_option maxHeartbeats 4000000
/-! head, *rest = a list of one part or more -/
namespace GX
open PySem PySem.Spec PyProof.Rows L2
section
variable {prog : Program} {w : World} {A : Around} {E : Value → Shared → Prop} {s : Shared}
theorem star_list {l : Addr} {items : Array Value} {Q : List Value → Shared → Prop} (hl : s.heap.IsList l items) (hh : A.handled = none) (h1 : 1 ≤ items.size) (hz : items.size ≤ sizeLine)
    (h : ∀ (h' : Heap) tk, (∀ b o, s.heap.get? b = some o → h'.get? b = some o) → Q (items.toList.take 1 ++ [.ref h'.objs.size]) { s with heap := h'.push { cls := .type "list", data := .seq (items.toList.drop 1).toArray }, toks := tk }) :
    wpAny (model prog w) A (unpackItems (.ref l) 2 (some 1)) Q E s := by
  have hlt : l ≠ s.heap.objs.size := by obtain ⟨o, ho, _⟩ := hl; exact Nat.ne_of_lt (Heap.lt_size ho)
  unfold unpackItems
  refine wpAny_bind ?_
  unfold notIterableAtAll
  refine wpAny_bind (wpAny_specialOf hl.typeIs slot_list_iter.lookup ?_)
  refine wpAny_pure ?_
  simp only [Bool.false_eq_true, if_false]
  refine wpAny_bind (wpAny_holding (wpAny_pyIter_list hl ?_))
  refine wpAny_bind (wpAny_holding (PySem.W.kun_draw hlt 1 0 _ _ ⟨_, Heap.get?_push_size _ rfl, rfl, rfl⟩ (hl.push _) (by omega) fun h₁ hit₁ hs₁ => ?_))
  have hl₁ : h₁.IsList l items := (hl.push _).extBut hs₁.extBut hlt
  rw [Nat.zero_add] at hit₁
  have hit₁' := hit₁
  obtain ⟨oi, hoi, _⟩ := hit₁'
  have hl₁' := hl₁
  obtain ⟨ol, hol, _⟩ := hl₁'
  rw [List.drop_zero]
  have hfl : (items.toList.take 1).length = 1 := by rw [List.length_take, Array.length_toList]; omega
  rw [if_neg (show ¬ ((items.toList.take 1).length < 1) by rw [hfl]; omega)]
  refine wpAny_bind (wpAny_holding (PySem.W.kun_collect (s := { s with heap := h₁ }) (T := "list_iterator") (.inr (.inr (.inl rfl))) (Walks.list (A := A.in1) hh s.heap.objs.size l hlt items) (fun j u st => st.1.typeIs) (k := 1) h1 ⟨hit₁, hl₁⟩ (Heap.lt_size hoi) (Heap.lt_size hol) (fun h₂ tk hk => ?_) hz))
  have hrl : (items.toList.drop 1).length = items.size - 1 := by rw [List.length_drop, Array.length_toList]
  show wpAny _ _ (if (items.toList.drop 1).length < 0 then _ else _) _ _ _
  rw [if_neg (Nat.not_lt_zero _)]
  show wpAny _ _ (newList ((items.toList.drop 1).take ((items.toList.drop 1).length - 0)) >>= fun d => pure (items.toList.take 1 ++ [d] ++ (items.toList.drop 1).drop ((items.toList.drop 1).length - 0))) _ _ _
  rw [Nat.sub_zero, List.take_length, List.drop_length]
  have he : ∀ b o, s.heap.get? b = some o → h₂.get? b = some o := fun b o e => hk b o (Nat.ne_of_lt (Heap.lt_size e)) (hs₁.extBut b o (Nat.ne_of_lt (Heap.lt_size e)) (Heap.get?_push_of_some _ e))
  refine wpAny_bind (wpAny_newList (s := { s with heap := h₂, toks := tk }) ?_ (by rw [hrl]; omega))
  refine wpAny_pure ?_
  rw [List.append_nil]
  exact h h₂ tk he
end
/-- head, *rest = a list -/
def gHdR (K : PySem.W.Frag) (t : TGs) : TG := fun v σ H Q => ∃ a x xs, v = .ref a ∧ SqL K H a (x :: xs) ∧ ∀ p, H p = none → t [x, .ref p] σ (upd H p (.lst xs)) Q
section
variable {X : Cx} {pos p : Pos}
theorem pgs_star {e : Expr} {t : TG} (h1 : PG X e t) : PGs X [.Starred e p] (gCons t gNil) := by
  refine ⟨fun pins s σ H vs us Q I r h => ?_⟩
  obtain ⟨v, vr, e1, h⟩ := h
  subst e1
  cases r with
  | cons r rr =>
    show wpAny _ _ (assignInOrder (assign e X.env :: []) _) _ _ _
    refine assignInOrder_cons (thn (h1.run pins s σ H _ _ _ I r h) fun _ s1 ⟨σ1, H1, I1, q1⟩ => ?_)
    obtain ⟨e2, q2⟩ := q1
    subst e2
    cases rr
    exact assignInOrder_nil ⟨σ1, H1, I1, q2⟩
theorem pg_hdr {es : List Expr} {k : Nat} {t : TGs} (hc : X.calm = true) (h : PGs X es t)
    (hn : (assignEach es X.env).length = 2 := by rfl) (hst : (assignEach es X.env).findIdx? (·.1) = some 1 := by rfl) : PG X (.Tuple es k pos) (gHdR X.K t) := by
  refine ⟨fun pins s σ H v u Q I r hw => ?_⟩
  obtain ⟨a, x, xs, e1, hq, hw⟩ := hw
  subst e1
  cases r
  obtain ⟨its, rv, pl, hz⟩ := I.list hq
  have hlen := rv.length
  rw [PyProof.Rows.assign_Tuple]
  refine wpAny_bind (wpAny_standAt ?_)
  unfold unpack
  rw [hn, hst]
  have h1 : 1 ≤ its.toArray.size := by rw [List.size_toArray, ← hlen, List.length_cons]; omega
  refine wpAny_bind (wpAny_holding (star_list pl.isList (I.ok.hd hc) h1 (by rw [List.size_toArray, ← hlen]; exact hz) fun h' tk hx => ?_))
  have I1 : Inv X pins σ H { s with heap := h', toks := tk } := I.kept (t' := tk) hx
  cases rv with
  | cons r0 rr =>
    rename_i u0 us
    have hnew := I1.hok.fresh (Nat.le_refl _)
    have I2 : Inv X pins σ (upd H h'.objs.size (.lst xs)) { s with heap := h'.push { cls := .type "list", data := .seq us.toArray }, toks := tk } :=
      I1.laid (t' := tk) (fun b o e => Heap.get?_push_of_some _ e) (Nat.le_refl _) ⟨by rw [List.length_cons] at hz; omega, us, 0, rr, Heap.get?_push_size _ rfl⟩
    exact h.run pins _ σ _ [x, .ref h'.objs.size] _ Q I2 (.cons r0 (.cons rfl .nil)) (hw _ hnew)
end
end GX
set_option Elab.async false
set_option linter.all false
set_option maxRecDepth 100000
set_option maxHeartbeats 4000000
/-! What may raise, called where it raises nothing. -/
namespace GX
open PySem PySem.Spec PyProof.Rows L2
def calm (sp : Sp) : Sp := fun vs H Q _ => sp vs H Q fun _ _ _ => False
section
variable {P : Program} {w : World} {K : PySem.W.Frag} {mg : Str → Option Value} {base : Heap} {k : Nat} {sp : Sp}
theorem fn_calm {f : Addr} {fd : FuncData} {ps : List Str} (F : FnOk P w K mg base (L2.CX P w) k f fd ps sp) : FnOk P w K mg base L2.CX0 k f fd ps (calm sp) := by
  refine ⟨fun vs H Q E q => F.len vs H Q _ q, fun A outer s H args us vs Q E hr he hb hv hs => codeAny_mono (F.run A outer s H args us vs Q (fun _ _ _ => False) hr he hb hv hs) fun r s' hq => ?_⟩
  cases r with
  | error e =>
    obtain ⟨a, B, H', cls, d, _, _, _, _, _, _, _, z⟩ := hq
    exact z.elim
  | ok fl => cases fl <;> exact hq
theorem met_calm {C : Addr} {m : Str} (c : MetX P w K mg base k C m sp) : C8.Met P w K mg base k C m (calm sp) [] := by
  obtain ⟨f, fd, ps, hc, hm, F, hb⟩ := c.ex
  exact ⟨f, fd, ps, [], hc, hm, fn_calm F, hb, .nil⟩
end
end GX
set_option Elab.async false
set_option linter.all false
set_option maxRecDepth 100000
set_option maxHeartbeats 4000000
/-! words[0].replace('old', 'new'), by two constants -/
namespace GX
open PySem PySem.Spec PyProof.Rows L2
end GX
set_option Elab.async false
set_option linter.all false
set_option maxRecDepth 100000
set_option maxHeartbeats 4000000
/-! max of a tuple of ints -/
namespace GX
open PySem PySem.Spec PyProof.Rows L2
section
variable {prog : Program} {w : World} {A : Around} {E : Value → Shared → Prop} {s : Shared} {l : Addr} {xs : Array (Int × Tok)}
theorem max_intTup {Q : Value → Shared → Prop} (hh : A.handled = none) (hl : s.heap.IsTuple l (intItems xs)) (hne : 0 < xs.size)
    (h : ∀ v h' tk, (intItems xs)[argBest (fun i j => decide (numAt xs i > numAt xs j)) (xs.size - 1)]? = some v → (∀ b o, s.heap.get? b = some o → h'.get? b = some o) → Q v { s with heap := h', toks := tk }) :
    wpAny (model prog w) A (call (.builtin "max") [.ref l]) Q E s := by
  have hlt : l < s.heap.objs.size := by obtain ⟨_, e, _⟩ := hl; exact Heap.lt_size e
  refine call_max_walk (iter_tuple (s := s) (t := l) (items := intItems xs) hl ?_)
  refine ⟨_, _, _, _, _, _, _, rfl, Walks.tuple (A := A.in1) hh s.heap.objs.size l (Nat.ne_of_lt hlt) (intItems xs), ⟨⟨_, Heap.get?_push_size _ rfl, rfl, rfl⟩, hl.push _⟩, fun b hb => ?_, by simpa [intItems] using hne, CmpOf.ints_gt (numAt xs) (fun _ _ => intItems_at), fun v h' tk hP hk => ?_⟩
  · show b < (s.heap.push _).objs.size
    rw [Heap.size_push]
    rcases List.mem_cons.mp hb with rfl | hb
    · exact Nat.lt_succ_self _
    · rcases List.mem_cons.mp hb with rfl | hb
      · exact Nat.lt_succ_of_lt hlt
      · cases hb
  · refine h v h' tk (by simpa [intItems] using hP) fun b o e => hk b o (fun hm => ?_) (Heap.get?_push_of_some _ e)
    rcases List.mem_cons.mp hm with e1 | hm
    · exact absurd (e1 ▸ Heap.lt_size e) (Nat.lt_irrefl _)
    · cases hm
theorem max_rawT {its : List Value} {ns : List Int} {Q : Value → Shared → Prop} (hh : A.handled = none) (hl : IsTup s.heap l its.toArray) (hi : IntsAre its ns) (hne : 0 < ns.length)
    (h : ∀ h' tk M t', (∀ b o, s.heap.get? b = some o → h'.get? b = some o) → M ∈ ns → (∀ a, a ∈ ns → a ≤ M) → Q (.int M t') { s with heap := h', toks := tk }) : wpAny (model prog w) A (call (.builtin "max") [.ref l]) Q E s := by
  obtain ⟨xs, e⟩ := hi.allInts.items
  have hn : numsOf (intItems xs).toList = ns := by rw [← e]; exact hi.numsOf
  rw [nums_intItems] at hn
  subst hn
  rw [e] at hl
  have hsz : 0 < xs.size := by simpa using hne
  refine max_intTup hh hl hsz fun v h' tk hv hk => ?_
  obtain ⟨t, rfl⟩ := intItems_at hv
  obtain ⟨h1, h2⟩ := argBest_gt (numAt xs) (xs.size - 1)
  refine h h' tk _ t hk ?_ fun a ha => ?_
  · rw [numAt_eq]; exact PySem.getD_mem (by rw [List.length_map, Array.length_toList]; omega)
  · obtain ⟨j, hj, rfl⟩ := PySem.mem_getD ha
    rw [List.length_map, Array.length_toList] at hj
    rw [← numAt_eq]; exact h2 j (by omega)
end
def rMaxTu (K : PySem.W.Frag) : List V → Hp → VK → Prop := fun vs H Q => ∃ (a : Addr) (ns : List Int), vs = [V.ref a] ∧ SqT K H a (ns.map V.int) ∧ 0 < ns.length ∧ ∀ m, m ∈ ns → (∀ y, y ∈ ns → y ≤ m) → Q (.int m) H
theorem cr_maxTu {X : Cx} (hc : X.calm = true) : CallR X (.builtin "max") (rMaxTu X.K) := by
  intro pins s σ H vs us Q I r h
  obtain ⟨a, ns, rfl, hs, hne, q⟩ := h
  obtain ⟨its, rv, hl, _⟩ := I.tuple hs
  rw [Vals.ref1 r]
  exact max_rawT (I.ok.hd hc) hl rv.ints hne fun h' tk m t' hk h1 h2 => ⟨.int _, H, I.kept hk, ⟨_, rfl⟩, q m h1 h2⟩
end GX
set_option Elab.async false
set_option linter.all false
set_option maxRecDepth 100000
set_option maxHeartbeats 4000000
/-! A tuple of one, times nought or one. -/
namespace GX
open PySem PySem.Spec PyProof.Rows L2
open AutoSeq1 (wpAny_loadPart')
end GX
set_option Elab.async false
set_option linter.all false
set_option maxRecDepth 100000
set_option maxHeartbeats 4000000
namespace K80
open PySem PySem.Spec PyProof.Rows L2 GX
open C8 (Cal pe_c pe_gc Met Mak)
-- @dict CHANGES
-- @no CHANGES 0 ""
-- @no CHANGES 1 "0"
-- @no CHANGES 2 "way"
-- @no CHANGES 3 "Kind"
-- @no CHANGES 4 "leads"
-- @dict QUESTIONS
-- @no QUESTIONS 0 "gate"
-- @no QUESTIONS 1 "kind"
-- @no QUESTIONS 2 "lead"
-- @no QUESTIONS 3 "less"
-- @no QUESTIONS 4 "outs"
-- @exc NoText
-- @exc NoDepth
-- @exc TooMany
-- @exc NoMatch
-- @exc NoChange made
-- @exc NoRow made
-- @sub NoChange NoChange true
-- @sub NoRow NoRow true
-- @sub NoRow ValueError true
-- @sub NoRow NoText false
-- @sub NoRow NoDepth false
-- @sub NoRow TooMany false
-- @sub NoRow NoMatch false
-- @sub NoRow NoChange false
-- @cls Keeper k:i,held:N,kept:t[t[t[i]]]
-- @cls Desk keeper:OKeeper
-- @alt rises list par=l[i]
-- @alt cut_masks tup par=N,t[i],i vars=masks:DL,wire:i
-- @alt one_deeper tup par=t[i],t[i]
-- @alt _law_written tup par=t[i],s
structure Txt (mg : Str → Option Value) : Prop where
  b_ValueError : mg "ValueError" = none
  b_all : mg "all" = none
  b_any : mg "any" = none
  b_bool : mg "bool" = none
  b_dict : mg "dict" = none
  b_enumerate : mg "enumerate" = none
  b_int : mg "int" = none
  b_isinstance : mg "isinstance" = none
  b_len : mg "len" = none
  b_list : mg "list" = none
  b_max : mg "max" = none
  b_min : mg "min" = none
  b_range : mg "range" = none
  b_reversed : mg "reversed" = none
  b_set : mg "set" = none
  b_sorted : mg "sorted" = none
  b_str : mg "str" = none
  b_tuple : mg "tuple" = none
  b_zip : mg "zip" = none
  g_FIGURES : ∃ u, mg "FIGURES" = some u ∧ RelV (.str "0123456789") u
  g_KINDS : ∃ u, mg "KINDS" = some u ∧ RelV (.int 16) u
  g_MOST_GATES : ∃ u, mg "MOST_GATES" = some u ∧ RelV (.int 16) u
  g_MOST_GATES_TRIED : ∃ u, mg "MOST_GATES_TRIED" = some u ∧ RelV (.int 6) u
  g_MOST_INPUTS : ∃ u, mg "MOST_INPUTS" = some u ∧ RelV (.int 8) u
  g_MOST_OUTS : ∃ u, mg "MOST_OUTS" = some u ∧ RelV (.int 8) u
  g_MOST_WIRES_OF_CONTENT : ∃ u, mg "MOST_WIRES_OF_CONTENT" = some u ∧ RelV (.int 8) u
  g_WORTHS : ∃ u, mg "WORTHS" = some u ∧ RelV (.str "01") u
theorem nat_at {l : List Nat} {i : Nat} (h : i < l.length) : (l.map nV)[i]? = some (nV (l.getD i 0)) := natAt h
section
variable {P : Program} {w : World} {K : PySem.W.Frag} {mg : Str → Option Value} {base : Heap}
/-! ### the deck -/
def spMixed : Sp := fun vs H Q _ => ∃ x k : Int, vs = [.int x, .int k] ∧ ∀ d, 0 ≤ d → Q (.int d) H
theorem ok_mixed {f c : Addr} (D : Dfn K mg "_law_mixed" s__law_mixed f c) : Cal P w K mg base 1 "_law_mixed" spMixed [] := by
  refine cal D (fun _ _ _ _ _ _ us hl => match us, hl with | [_, _], _ => rfl) sc__law_mixed (fun vs H Q E h => ?_) (fun A outer s H vs Q E hr h => ?_)
  · obtain ⟨x, k, rfl, _⟩ := h
    rfl
  · obtain ⟨x, k, rfl, q⟩ := h
    refine ⟨_, (pss_cons (ps_set (i := 2) sc__law_mixed.nd rfl (by first | exact Or.inl rfl | exact Or.inr rfl) (pe_op op_mod (pe_op op_mul (pe_op op_add (pe_op op_add (pe_op op_mod (pv 0) pe_int) (pe_op op_mul pe_int (pv 1))) pe_int) pe_int) pe_int))
      (pss_cons (ps_set (i := 2) sc__law_mixed.nd rfl (by first | exact Or.inl rfl | exact Or.inr rfl) (pe_op op_mod (pe_op op_add (pe_op op_add (pe_op op_mul (pv 2) (pv 2)) (pe_op op_mul pe_int (pv 1))) pe_int) pe_int))
      (pss_one (ps_ret (pe_op op_fdiv (pe_op op_mod (pe_op op_add (pe_op op_add (pe_op op_mul (pv 2) (pv 2)) (pe_op op_mul pe_int (pv 2))) (pv 1)) pe_int) pe_int))))), ?_⟩
    refine ⟨_, rfl, _, _, rfl, rfl, (by show (0 : Int) < 2147483629; decide), _, rfl, _, _, rfl, rfl, .inl (by omega), _, _, rfl, rfl, _, _, rfl, rfl, _, _, rfl, rfl, .inr (by omega), _, _, rfl, rfl, (by show (0 : Int) < 2147483647; decide), ?_⟩
    have b1 := Int.emod_nonneg ((x % 2147483629 + 7919 * k + 101) * 48271) (show (2147483647 : Int) ≠ 0 by decide)
    have b2 := Int.emod_lt_of_pos ((x % 2147483629 + 7919 * k + 101) * 48271) (show (0 : Int) < 2147483647 by decide)
    generalize (x % 2147483629 + 7919 * k + 101) * 48271 % 2147483647 = n1 at b1 b2 ⊢
    refine ⟨_, rfl, _, rfl, _, _, rfl, rfl, .inl (by omega), _, rfl, _, _, rfl, rfl, .inl (by omega), _, _, rfl, rfl, _, _, rfl, rfl, _, _, rfl, rfl, (by show (0 : Int) < 2147483587; decide), ?_⟩
    have b3 := Int.emod_nonneg (n1 * n1 + 69621 * k + 7) (show (2147483587 : Int) ≠ 0 by decide)
    have b4 := Int.emod_lt_of_pos (n1 * n1 + 69621 * k + 7) (show (0 : Int) < 2147483587 by decide)
    generalize (n1 * n1 + 69621 * k + 7) % 2147483587 = n2 at b3 b4 ⊢
    refine ⟨_, rfl, _, rfl, _, _, rfl, rfl, .inl (by omega), _, rfl, _, _, rfl, rfl, .inl (by omega), _, _, rfl, rfl, _, rfl, _, _, rfl, rfl, _, _, rfl, rfl, (by show (0 : Int) < 2147483563; decide), _, _, rfl, rfl, ⟨by decide, by decide⟩, ?_⟩
    refine q _ ?_
    have := Int.emod_nonneg (n2 * n2 + 16807 * n2 + k) (show (2147483563 : Int) ≠ 0 by decide)
    omega
def spDraw : Sp := fun vs H Q _ => ∃ (W C : Addr) (m : Int), vs = [.ref W, .int m] ∧ Wd H W C ∧ 0 < m ∧ m < 1073741824 ∧ ∀ d H', 0 ≤ d → d < m → Wk2 W C H H' → Q (.int d) H'
theorem ok_draw {f c : Addr} (D : Dfn K mg "_law_draw" s__law_draw f c) (T : Txt mg) (c__law_mixed : Cal P w K mg base 1 "_law_mixed" spMixed []) : Cal P w K mg base 2 "_law_draw" spDraw [] := by
  refine cal D (fun _ _ _ _ _ _ us hl => match us, hl with | [_, _], _ => rfl) sc__law_draw (fun vs H Q E h => ?_) (fun A outer s H vs Q E hr h => ?_)
  · obtain ⟨W, C, m, rfl, _⟩ := h
    rfl
  · obtain ⟨W, C, m, rfl, ⟨⟨ns, a, b, hW, hC, hl⟩, ne⟩, hm0, hm1, q⟩ := h
    refine ⟨_, (pss_cons (ps_asg (pe_op op_add (pe_ix ix_list (pv 0) pe_int (fun _ _ => rfl)) pe_int) (pg_sub (pv 0) pe_int set_list))
      (pss_cons (ps_if (pt_cmpR (op_eqD hr.units) (pe_ix ix_list (pv 0) pe_int (fun _ _ => rfl)) (pe_lst pa_nil) (nomark _)) (pss_one (ps_ret (pe_op op_mod (pe_c c__law_mixed hr (by decide) (by rfl) (pa_cons (pe_ix ix_list (pv 0) pe_int (fun _ _ => rfl)) (pa_cons (pe_ix ix_list (pv 0) pe_int (fun _ _ => rfl)) pa_nil))) (pv 1)))) pss_nil)
      (pss_cons (ps_set (i := 2) sc__law_draw.nd rfl (by first | exact Or.inl rfl | exact Or.inr rfl) (pe_bm0 PySem.F.plainAttrs_list PySem.F.slot_list_pop PySem.F.type_list_pop mt_pop (pe_ix ix_list (pv 0) pe_int (fun _ _ => rfl))))
      (pss_cons (ps_if (pt_cmpR op_lt (pv 2) (pe_op op_pow pe_int pe_int) (nomark _)) (pss_one (ps_ret (pe_op op_mod (pe_c c__law_mixed hr (by decide) (by rfl) (pa_cons (pv 2) (pa_cons (pe_ix ix_list (pv 0) pe_int (fun _ _ => rfl)) pa_nil))) (pv 1)))) pss_nil)
      (pss_cons (ps_expr (pe_bm PySem.F.plainAttrs_list PySem.F.slot_list_append PySem.F.type_list_append mt_append (pe_ix ix_list (pv 0) pe_int (fun _ _ => rfl)) (pa_cons (pe_op op_fdiv (pv 2) (pv 1)) pa_nil)))
      (pss_one (ps_ret (pe_op op_mod (pv 2) (pv 1))))))))), ?_⟩
    refine ⟨_, rfl, W, _, 2, _, rfl, rfl, SqL.of hW, at2, _, _, rfl, rfl, _, rfl, W, _, 2, 2, rfl, rfl, hW, rfl, ?_⟩
    have hW1 : (upd H W (.lst ([.ref C, .int a, .int b].set 2 (.int (b + 1))))) W = some (.lst [.ref C, .int a, .int (b + 1)]) := upd_same
    have hC1 : (upd H W (.lst ([.ref C, .int a, .int b].set 2 (.int (b + 1))))) C = some (.lst (ns.map V.int)) := by rw [upd_ne (Ne.symm ne)]; exact hC
    have k1 : Keep [W, C] H (upd H W (.lst ([.ref C, .int a, .int b].set 2 (.int (b + 1))))) := Keep.put List.mem_cons_self
    generalize (upd H W (.lst ([.ref C, .int a, .int b].set 2 (.int (b + 1))))) = H1 at hW1 hC1 k1 ⊢
    refine ⟨_, rfl, W, _, 0, _, rfl, rfl, SqL.of hW1, at0, small 0, fun z nz => ?_⟩
    have e2 := Same.new (o := .lst []) nz
    refine ⟨.list (ns.map PyData.int), .list [], .lst (SqL.of (e2 _ _ hC1)) (dpInt K _ _), .lst (SqL.of upd_same) .nil, PySem.W.ke_shaped_ints ns, by decide, _, rfl, ?_⟩
    have hW2 := e2 _ _ hW1
    have hC2 := e2 _ _ hC1
    have k2 : Keep [W, C] H (upd H1 z (.lst [])) := k1.trans (Same.keep e2)
    generalize upd H1 z (.lst []) = H2 at e2 hW2 hC2 k2 ⊢
    refine ite2 (fun g => ?_) (fun g => ?_)
    · refine ⟨_, rfl, W, _, 1, _, rfl, rfl, SqL.of hW2, at1, _, rfl, W, _, 2, _, rfl, rfl, SqL.of hW2, at2, _, _, rfl, fun d d0 => ⟨_, rfl, _, _, rfl, rfl, hm0, ?_⟩⟩
      exact q _ _ (Int.emod_nonneg _ (by omega)) (Int.emod_lt_of_pos _ hm0) ⟨⟨⟨ns, _, _, hW2, hC2, hl⟩, ne⟩, k2⟩
    · have g' : ns.length ≠ 0 := fun z => g (by
        show PyData.eqvAll _ [] = true
        rw [eqvAllN, List.length_map]
        exact decide_eq_true z)
      obtain ⟨ms, x, rfl⟩ : ∃ ms x, ns = ms ++ [x] := ⟨ns.dropLast, ns.getLast (fun z => g' (by rw [z]; rfl)), (List.dropLast_concat_getLast _).symm⟩
      have el : ((ms ++ [x]).map V.int)[((ms ++ [x]).map V.int).length - 1]? = some (.int x) := by
        rw [List.map_append, List.length_append, List.length_map]
        show (ms.map V.int ++ [V.int x])[ms.length + 1 - 1]? = _
        rw [List.getElem?_append_right (by rw [List.length_map]; omega), List.length_map, Nat.add_sub_cancel, Nat.sub_self]
        rfl
      have ed : ((ms ++ [x]).map V.int).dropLast = ms.map V.int := by
        rw [List.map_append]
        exact List.dropLast_concat
      refine ⟨_, rfl, W, _, 0, _, rfl, rfl, SqL.of hW2, at0, .inl ⟨rfl, _, SqL.of hC2⟩, C, _, _, rfl, rfl, hC2, el, ?_⟩
      rw [ed]
      have hW3 : (upd H2 C (.lst (ms.map V.int))) W = some (.lst [.ref C, .int a, .int (b + 1)]) := by rw [upd_ne ne]; exact hW2
      have hC3 : (upd H2 C (.lst (ms.map V.int))) C = some (.lst (ms.map V.int)) := upd_same
      have k3 : Keep [W, C] H (upd H2 C (.lst (ms.map V.int))) := k2.trans (Keep.put (List.mem_cons_of_mem _ List.mem_cons_self))
      have hl3 : ms.length + 1 ≤ 64 := by rw [List.length_append] at hl; exact hl
      generalize upd H2 C (.lst (ms.map V.int)) = H3 at hW3 hC3 k3 ⊢
      refine ⟨_, rfl, _, _, rfl, rfl, ⟨by decide, by decide, by decide⟩, _, _, rfl, rfl, _, rfl, ite2 (fun g2 => ?_) (fun g2 => ?_)⟩
      · refine ⟨_, rfl, _, rfl, W, _, 2, _, rfl, rfl, SqL.of hW3, at2, _, _, rfl, fun d d0 => ⟨_, rfl, _, _, rfl, rfl, hm0, ?_⟩⟩
        exact q _ _ (Int.emod_nonneg _ (by omega)) (Int.emod_lt_of_pos _ hm0) ⟨⟨⟨ms, _, _, hW3, hC3, by omega⟩, ne⟩, k3⟩
      · refine ⟨_, rfl, W, _, 0, _, rfl, rfl, SqL.of hW3, at0, .inl ⟨rfl, _, SqL.of hC3⟩, _, rfl, _, rfl, _, _, rfl, rfl, ⟨hm0, hm1⟩, C, _, _, rfl, rfl, hC3, by rw [List.length_map]; exact len64 (by omega), ?_⟩
        refine ⟨_, rfl, _, rfl, _, _, rfl, rfl, hm0, ?_⟩
        refine q _ _ (Int.emod_nonneg _ (by omega)) (Int.emod_lt_of_pos _ hm0) ⟨⟨⟨ms ++ [x / m], _, _, by rw [upd_ne ne]; exact hW3, by rw [upd_same, List.map_append]; rfl, by rw [List.length_append]; exact hl3⟩, ne⟩, k3.trans (Keep.put (List.mem_cons_of_mem _ List.mem_cons_self))⟩
def spDeck (K : PySem.W.Frag) : Sp := fun vs H Q _ => ∃ (a : Addr) (ns : List Int), vs = [.ref a] ∧ SqL K H a (ns.map V.int) ∧ ns.length ≤ 63 ∧ ∀ p C H', H p = none → H C = none → Wd H' p C → Same H H' → Q (.ref p) H'
theorem ok_deck {f c : Addr} (D : Dfn K mg "_law_deck" s__law_deck f c) (T : Txt mg) : Cal P w K mg base 1 "_law_deck" (spDeck K) [] := by
  refine cal D (fun _ _ _ _ _ _ us hl => match us, hl with | [_], _ => rfl) sc__law_deck (fun vs H Q E h => ?_) (fun A outer s H vs Q E hr h => ?_)
  · obtain ⟨a, ns, rfl, _⟩ := h
    rfl
  · obtain ⟨a, ns, rfl, hS, hl, q⟩ := h
    refine ⟨_, (pss_cons (ps_set (i := 1) sc__law_deck.nd rfl (by first | exact Or.inl rfl | exact Or.inr rfl) (pe_lstRev rfl (by rfl) T.b_list (by rfl) T.b_reversed (pe_slice sl_list (pv 0) po_none (po_some pe_int))))
      (pss_cons (ps_set (i := 2) sc__law_deck.nd rfl (by first | exact Or.inl rfl | exact Or.inr rfl) pe_int)
      (pss_cons (ps_for PassesOwn.never rfl (pi_list (pv 1)) (pg_name (i := 3) sc__law_deck.nd rfl (by first | exact Or.inl rfl | exact Or.inr rfl))
        (pss_one (ps_set (i := 2) sc__law_deck.nd rfl (by first | exact Or.inl rfl | exact Or.inr rfl) (pe_op op_mod (pe_op op_add (pe_op op_add (pe_op op_mul (pv 2) pe_int) (pe_op op_mod (pv 3) pe_int)) pe_int) pe_int))))
      (pss_one (ps_ret (pe_lst (pa_cons (pv 1) (pa_cons (pv 2) (pa_cons pe_int pa_nil))))))))), ?_⟩
    refine ⟨_, rfl, 63, rfl, ?_⟩
    refine ⟨a, _, rfl, hS, fun p np => ?_⟩
    have e1 := Same.new (o := .lst (cutV (ns.map V.int) none (some 63))) np
    refine ⟨p, _, rfl, SqL.of upd_same, fun C nC => ?_⟩
    have ec : cutV (ns.map V.int) none (some 63) = ns.map V.int := by
      rw [show (some (63 : Int)) = some ((63 : Nat) : Int) from rfl, cut_hi, List.take_of_length_le (by rw [List.length_map]; exact hl)]
    rw [ec] at e1 nC ⊢
    have e2 := Same.new (o := .lst (ns.map V.int).reverse) nC
    have hC : (upd (upd H p (.lst (ns.map V.int))) C (.lst (ns.map V.int).reverse)) C = some (.lst (ns.reverse.map V.int)) := by rw [upd_same, List.map_reverse]
    have sm := e1.trans e2
    have C0 : H C = none := by
      cases e : H C with
      | none => rfl
      | some u =>
        have := e1 _ _ e
        rw [nC] at this
        cases this
    generalize upd (upd H p (.lst (ns.map V.int))) C (.lst (ns.map V.int).reverse) = H2 at sm hC ⊢
    refine ⟨_, rfl, C, rfl, ⟨_, SqL.of hC⟩, ?_⟩
    refine for_list (K := K) (a := C) (xs := ns.reverse.map V.int) (fun i σ H' => ∃ (sd : Int) (x3 : Option V), σ = [some (.ref a), some (.ref C), some (.int sd), x3] ∧ H' = H2) ⟨48271, none, rfl, rfl⟩ ?_ ?_ ?_
    · rintro i σ H3 _ ⟨_, _, _, rfl⟩
      exact SqL.of hC
    · rintro i x σ H3 hx ⟨sd, x3, rfl, rfl⟩
      obtain ⟨n, _, rfl⟩ := List.mem_map.mp (List.mem_of_getElem? hx)
      exact ⟨_, rfl, _, _, rfl, rfl, .inr (by omega), _, rfl, _, _, rfl, rfl, (by show (0 : Int) < 1000000007; decide), _, _, rfl, rfl, _, _, rfl, rfl, _, _, rfl, rfl, (by show (0 : Int) < 2147483629; decide), _, _, rfl, rfl⟩
    · rintro σ H3 ⟨sd, x3, rfl, rfl⟩
      refine ⟨_, rfl, _, rfl, small 3, fun W nW => ?_⟩
      have e3 := Same.new (o := .lst [.ref C, .int sd, .int 0]) nW
      have W0 : H W = none := by
        cases e : H W with
        | none => rfl
        | some u =>
          have := sm _ _ e
          rw [nW] at this
          cases this
      exact q W C _ W0 C0 ⟨⟨ns.reverse, _, _, upd_same, e3 _ _ hC, by rw [List.length_reverse]; omega⟩, fun z => by rw [z, hC] at nW; cases nW⟩ (sm.trans e3)
end
end K80
set_option Elab.async false
set_option linter.all false
set_option maxRecDepth 100000
set_option maxHeartbeats 4000000
namespace K80
open PySem PySem.Spec PyProof.Rows L2 GX
open C8 (Cal pe_c pe_gc Met Mak)
-- @dict CHANGES
-- @no CHANGES 0 ""
-- @no CHANGES 1 "0"
-- @no CHANGES 2 "way"
-- @no CHANGES 3 "Kind"
-- @no CHANGES 4 "leads"
-- @dict QUESTIONS
-- @no QUESTIONS 0 "gate"
-- @no QUESTIONS 1 "kind"
-- @no QUESTIONS 2 "lead"
-- @no QUESTIONS 3 "less"
-- @no QUESTIONS 4 "outs"
-- @exc NoText
-- @exc NoDepth
-- @exc TooMany
-- @exc NoMatch
-- @exc NoChange made
-- @exc NoRow made
-- @sub NoChange NoChange true
-- @sub NoRow NoRow true
-- @sub NoRow ValueError true
-- @sub NoRow NoText false
-- @sub NoRow NoDepth false
-- @sub NoRow TooMany false
-- @sub NoRow NoMatch false
-- @sub NoRow NoChange false
-- @cls Keeper k:i,held:N,kept:t[t[t[i]]]
-- @cls Desk keeper:OKeeper
-- @alt rises list par=l[i]
-- @alt cut_masks tup par=N,t[i],i vars=masks:DL,wire:i
-- @alt one_deeper tup par=t[i],t[i]
-- @alt _law_written tup par=t[i],s
section
variable {P : Program} {w : World} {K : PySem.W.Frag} {mg : Str → Option Value} {base : Heap} {Ts : List Addr}
def spWires : Sp := fun vs H Q _ => ∃ (a : Addr) (n : Net) (g o : Addr) (ps : List Addr), vs = [.ref a] ∧ NetAt H a n g o ps ∧ Q (nV (n.many + n.gates.length)) H
theorem ok_wires {f c : Addr} (D : Dfn K mg "wires_in" s_wires_in f c) (T : Txt mg) : Cal P w K mg base 1 "wires_in" spWires [] := by
  refine cal D (fun _ _ _ _ _ _ us hl => match us, hl with | [_], _ => rfl) sc_wires_in (fun vs H Q E h => ?_) (fun A outer s H vs Q E hr h => ?_)
  · obtain ⟨a, n, g, o, ps, rfl, _⟩ := h
    rfl
  · obtain ⟨a, n, g, o, ps, rfl, N, q⟩ := h
    refine ⟨_, (pss_one (ps_ret (pe_op op_add (pe_ix ix_tup (pv 0) pe_int (fun _ _ => rfl)) (pe_callB call_len_seq (by rfl) T.b_len (by decide +kernel) (pa_cons (pe_ix ix_tup (pv 0) pe_int (fun _ _ => rfl)) pa_nil))))), ?_⟩
    refine ⟨_, rfl, a, _, 0, _, rfl, rfl, SqT.of N.top, at0, _, rfl, a, _, 1, _, rfl, rfl, SqT.of N.top, at1, g, _, rfl, .inr (SqT.of N.gt), _, _, rfl, rfl, ?_⟩
    have e : (V.int ((n.many : Int) + ((ps.map V.ref).length : Int))) = nV (n.many + n.gates.length) := by
      rw [List.length_map, N.gs.1]
      rfl
    show Q (V.int ((n.many : Int) + ((ps.map V.ref).length : Int))) H
    rw [e]
    exact q
def spPlaces : Sp := fun vs H Q _ => ∃ (a : Addr) (n : Net) (g o : Addr) (ps : List Addr) (x : Nat) (k : Nat × Nat × Nat), vs = [.ref a, nV x] ∧ NetAt H a n g o ps ∧ n.many ≤ x ∧ n.gates[x - n.many]? = some k ∧ ∀ p, H p = none → Q (.ref p) (upd H p (.tup [nV k.2.1, nV k.2.2]))
theorem ok_places {f c : Addr} (D : Dfn K mg "places" s_places f c) : Cal P w K mg base 1 "places" spPlaces [] := by
  refine cal D (fun _ _ _ _ _ _ us hl => match us, hl with | [_, _], _ => rfl) sc_places (fun vs H Q E h => ?_) (fun A outer s H vs Q E hr h => ?_)
  · obtain ⟨a, n, g, o, ps, x, k, rfl, _⟩ := h
    rfl
  · obtain ⟨a, n, g, o, ps, x, k, rfl, N, hx, hk, q⟩ := h
    refine ⟨_, (pss_cons (ps_asg (pe_ix ix_tup (pe_ix ix_tup (pv 0) pe_int (fun _ _ => rfl)) (pe_op op_sub (pv 1) (pe_ix ix_tup (pv 0) pe_int (fun _ _ => rfl))) (fun _ _ => rfl)) (pg_tup rfl (pgs_cons (pg_name (i := 2) sc_places.nd rfl (by first | exact Or.inl rfl | exact Or.inr rfl)) (pgs_cons (pg_name (i := 3) sc_places.nd rfl (by first | exact Or.inl rfl | exact Or.inr rfl)) (pgs_cons (pg_name (i := 4) sc_places.nd rfl (by first | exact Or.inl rfl | exact Or.inr rfl)) pgs_nil)))))
      (pss_one (ps_ret (pe_tup (pa_cons (pv 3) (pa_cons (pv 4) pa_nil)))))), ?_⟩
    have hil : x - n.many < ps.length := by rw [N.gs.1]; exact (List.getElem?_eq_some_iff.mp hk).1
    have hp := N.gs.2 _ _ _ (List.getElem?_eq_getElem hil) hk
    have e1 : (ps.map V.ref)[x - n.many]? = some (.ref ps[x - n.many]) := by rw [List.getElem?_map, List.getElem?_eq_getElem hil]; rfl
    refine ⟨_, rfl, a, _, 1, _, rfl, rfl, SqT.of N.top, at1, _, rfl, _, rfl, a, _, 0, _, rfl, rfl, SqT.of N.top, at0, _, _, rfl, rfl, g, _, _, _, rfl, rfl, SqT.of N.gt, (by rw [show (((x : Nat) : Int) - ((n.many : Nat) : Int)) = ((x - n.many : Nat) : Int) by omega]; exact atI_nat e1), ?_⟩
    refine ⟨_, _, rfl, SqT.of hp, rfl, _, _, rfl, _, _, rfl, _, _, rfl, rfl, ?_⟩
    exact ⟨_, rfl, _, rfl, small 2, fun p np => q p np⟩
theorem in2 (x a b : Nat) : inV (nV x) [nV a, nV b] = decide (x = a ∨ x = b) := by
  have := inV_n x [a, b]
  rw [show [nV a, nV b] = [a, b].map nV from rfl, this]
  congr 1
  exact propext (by rw [List.mem_cons, List.mem_singleton])
end
section
variable {P : Program} {w : World} {K : PySem.W.Frag} {mg : Str → Option Value} {base : Heap} {Ts : List Addr}
theorem Own.same {H H1 H2 : Hp} {l : Addr} {xs : List V} (o : Own H H1 l xs) (s : Same H1 H2) : Own H H2 l xs := ⟨o.sm.trans s, s _ _ o.at_, o.nw⟩
theorem Own.put {H H' : Hp} {l : Addr} {xs ys : List V} (o : Own H H' l xs) : Own H (upd H' l (.lst ys)) l ys := ⟨fun b u e => by rw [upd_ne (ne_of_none e o.nw)]; exact o.sm b u e, upd_same, o.nw⟩
theorem map_set (ms : List Bool) (i : Nat) (b : Bool) : (ms.map V.bl).set i (.bl b) = (ms.set i b).map V.bl := List.map_set.symm
def spReached (Ts : List Addr) : Sp := fun vs H Q _ => ∃ (a : Addr) (n : Net) (g o : Addr) (ps : List Addr) (wr : Nat) (sa : Addr) (st : List Nat), vs = [.ref a, nV wr, .ref sa] ∧ NetAt H a n g o ps ∧ n.Ok ∧ wr < n.many + n.gates.length ∧ H sa = some (.tup (st.map nV)) ∧ Tabs Ts H ∧ ∀ p H' xs, Aft Ts H H' → H' p = some (.tup (xs.map nV)) → Rset n st wr xs → Q (.ref p) H'
theorem ok_reached {f c PR : Addr} (D : Dfn K mg "reached" s_reached f c) (T : Txt mg) (c_wires_in : Cal P w K mg base 1 "wires_in" spWires []) (c_places : Cal P w K mg base 1 "places" spPlaces []) (TB_reached : GxR.TabB base mg c PR) (hP : PR ∈ Ts) : Cal P w K mg base 2 "reached" (spReached Ts) [] := by
  refine cal D (fun _ _ _ _ _ _ us hl => match us, hl with | [_, _, _], _ => rfl) sc_reached (fun vs H Q E h => ?_) (fun A outer s H vs Q E hr h => ?_)
  · obtain ⟨a, n, g, o, ps, wr, sa, st, rfl, _⟩ := h
    rfl
  · obtain ⟨a, n, g, o, ps, wr, sa, st, rfl, N, ok, hw, hs, tb, q⟩ := h
    have m8 := ok.m8
    have g16 := ok.g16
    refine ⟨_, (pss_cons (ps_set (i := 3) sc_reached.nd rfl (by first | exact Or.inl rfl | exact Or.inr rfl) (pe_op op_rep (pe_lst (pa_cons pe_bl pa_nil)) (pe_c c_wires_in hr (by decide) (by rfl) (pa_cons (pv 0) pa_nil))))
      (pss_cons (ps_asg (pe_cmpR op_notIn_seq (pv 1) (pv 2) (by rfl)) (pg_sub (pv 3) (pv 1) set_list))
      (pss_cons (ps_for PassesOwn.never rfl (pi_range3 (by rfl) T.b_range (pa_cons (pv 1) (pa_cons (pe_op op_sub (pe_ix ix_tup (pv 0) pe_int (fun _ _ => rfl)) pe_int) (pa_cons (pe_un un_neg pe_int) pa_nil)))) (pg_name (i := 4) sc_reached.nd rfl (by first | exact Or.inl rfl | exact Or.inr rfl))
        (pss_one (ps_if (pt_val (pe_ix ix_list (pv 3) (pv 4) (fun _ _ => rfl))) (pss_one (ps_for PassesOwn.never rfl (pi_tup (pe_c c_places hr (by decide) (by rfl) (pa_cons (pv 0) (pa_cons (pv 4) pa_nil)))) (pg_name (i := 5) sc_reached.nd rfl (by first | exact Or.inl rfl | exact Or.inr rfl))
        (pss_one (ps_asg (pe_cmpR op_notIn_seq (pv 5) (pv 2) (by rfl)) (pg_sub (pv 3) (pv 5) set_list))))) pss_nil)))
      (pss_one (ps_ret (pe_tupG (own := [("at", 6), ("mark", 7)]) hr (by rfl) T.b_tuple TB_reached rfl (gxOk_by (N := ["net", "wire", "stops", "marks", "gate", "place", "at", "mark"]) (sc := defScope s_reached) (own := [("at", 6), ("mark", 7)]) (by decide +kernel)) sc_reached.nd (pi_enum (by rfl) T.b_enumerate (pa_cons (pv 3) pa_nil)) (fun _ _ _ _ => (pg_tupK (K := K) (n := 2) rfl rfl (pgs_cons (pg_name (i := 6) sc_reached.nd rfl (by first | exact Or.inl rfl | exact Or.inr rfl)) (pgs_cons (pg_name (i := 7) sc_reached.nd rfl (by first | exact Or.inl rfl | exact Or.inr rfl)) pgs_nil)))) (fun _ _ _ _ => (pts_one (pt_val (pv 7)))) (fun _ _ _ _ => (pv 6)))))))), ?_⟩
    refine ⟨small 1, fun z nz => ?_⟩
    have e1 := Same.new (o := .lst [.bl false]) nz
    refine ⟨_, rfl, a, n, g, o, ps, rfl, N.same e1, z, _, _, rfl, rfl, upd_same, by omega, by omega, ?_, fun l nl => ?_⟩
    · show 1 * (((n.many + n.gates.length : Nat)) : Int).toNat ≤ sizeLine
      rw [Int.toNat_natCast]
      exact small _ (by omega)
    have ef : (List.replicate (((n.many + n.gates.length : Nat)) : Int).toNat [V.bl false]).flatten = (List.replicate (n.many + n.gates.length) false).map V.bl := by
      rw [Int.toNat_natCast, List.map_replicate, List.flatten_replicate_singleton]
    rw [ef]
    have nlH : H l = none := by
      cases e : H l with
      | none => rfl
      | some u =>
        rw [e1 _ _ e] at nl
        cases nl
    have o2 : Own H _ l ((List.replicate (n.many + n.gates.length) false).map V.bl) := ⟨e1.trans (Same.new nl), upd_same, nlH⟩
    generalize upd (upd H z (.lst [.bl false])) l (.lst ((List.replicate (n.many + n.gates.length) false).map V.bl)) = H2 at o2 ⊢
    refine ⟨_, rfl, _, rfl, sa, _, rfl, .inr (SqT.of (o2.sm _ _ hs)), rfl, flat_ns st, ?_⟩
    refine ⟨_, rfl, _, rfl, l, _, _, _, rfl, rfl, o2.at_, ix_n (by rw [List.length_map, List.length_replicate]; exact hw), ?_⟩
    have ev : (if true = true then !inV (nV wr) (st.map nV) else inV (nV wr) (st.map nV)) = !decide (wr ∈ st) := by rw [if_pos rfl, inV_n]
    rw [ev, map_set]
    have o3 : Own H _ l (((List.replicate (n.many + n.gates.length) false).set wr (!decide (wr ∈ st))).map V.bl) := Own.put o2
    have mk := mark_first ok (st := st) hw
    generalize (List.replicate (n.many + n.gates.length) false).set wr (!decide (wr ∈ st)) = ms0 at o3 mk ⊢
    generalize upd H2 l (.lst (ms0.map V.bl)) = H3 at o3 ⊢
    have N3 := N.same o3.sm
    refine ⟨_, rfl, _, rfl, a, _, 0, _, rfl, rfl, SqT.of N3.top, at0, _, _, rfl, rfl, _, rfl, (wr : Int), (n.many : Int) - 1, -1, _, rfl, RgC.neg (by omega) (by omega) (by omega) (by omega), ?_⟩
    refine for_rangeC (lo := (wr : Int)) (c := -1) (n := ((wr : Int) - ((n.many : Int) - 1)).toNat) (fun i σ H' => ∃ ms x4 x5, σ = [some (.ref a), some (nV wr), some (.ref sa), some (.ref l), x4, x5, none, none] ∧ Own H H' l (ms.map V.bl) ∧ MarkOk n st wr (wr + 1 - i) ms) ⟨ms0, none, none, rfl, o3, mk⟩ ?_ ?_
    · rintro i σ H4 hi ⟨ms, x4, x5, rfl, o4, mk4⟩
      obtain ⟨gt, hgt⟩ : ∃ gt : Nat, wr = gt + i := ⟨wr - i, by omega⟩
      have hgm : n.many ≤ gt := by omega
      have eg : (wr : Int) + ((i : Nat) : Int) * (-1) = (gt : Int) := by omega
      have hkl : gt - n.many < n.gates.length := by omega
      obtain ⟨k, hk⟩ : ∃ k, n.gates[gt - n.many]? = some k := ⟨_, List.getElem?_eq_getElem hkl⟩
      have mk5 : MarkOk n st wr (gt + 1) ms := by
        rw [show gt + 1 = wr + 1 - i by omega]
        exact mk4
      have hml : ms.length = n.many + n.gates.length := mk5.1
      have N4 := N.same o4.sm
      rw [eg]
      refine ⟨_, rfl, _, rfl, l, _, _, _, rfl, rfl, SqL.of o4.at_, atI_nat (mark_at (by omega)), _, rfl, ite2 (fun hm => ?_) (fun hm => ?_)⟩
      · refine ⟨_, rfl, _, rfl, a, n, g, o, ps, gt, k, rfl, N4, hgm, hk, fun p np => ⟨p, rfl, ⟨_, SqT.of upd_same⟩, ?_⟩⟩
        have e5 := Same.new (o := .tup [nV k.2.1, nV k.2.2]) np
        have o5 := Own.same o4 e5
        have hp5 : upd H4 p (.tup [nV k.2.1, nV k.2.2]) p = some (.tup [nV k.2.1, nV k.2.2]) := upd_same
        have npl : p ≠ l := fun z => by
          rw [z, o4.at_] at np
          cases np
        generalize upd H4 p (.tup [nV k.2.1, nV k.2.2]) = H5 at e5 o5 hp5 ⊢
        have p1 := place_lt ok hgm hk (.inl rfl)
        have p2 := place_lt ok hgm hk (.inr rfl)
        refine for_tup (K := K) (a := p) (xs := [nV k.2.1, nV k.2.2]) (fun j σ H' => ∃ ms' x5, σ = [some (.ref a), some (nV wr), some (.ref sa), some (.ref l), some (nV gt), x5, none, none] ∧ Own H H' l (ms'.map V.bl) ∧ H' p = some (.tup [nV k.2.1, nV k.2.2]) ∧
          (j = 0 → ms' = ms) ∧ (j = 1 → ms' = ms.set k.2.1 (!decide (k.2.1 ∈ st))) ∧ (j = 2 → ms' = (ms.set k.2.1 (!decide (k.2.1 ∈ st))).set k.2.2 (!decide (k.2.2 ∈ st)))) ⟨ms, x5, rfl, o5, hp5, fun _ => rfl, fun z => (by cases z), fun z => (by cases z)⟩ ?_ ?_ ?_
        · rintro j σ H6 _ ⟨_, _, _, _, h, _⟩
          exact SqT.of h
        · rintro j x σ H6 hx ⟨ms', y5, rfl, o6, hp6, j0, j1, j2⟩
          have hj : j < 2 := (List.getElem?_eq_some_iff.mp hx).1
          have h01 : j = 0 ∨ j = 1 := by omega
          obtain ⟨pl, e, hl, hms, hh⟩ : ∃ pl : Nat, x = nV pl ∧ pl < gt ∧ ms'.length = ms.length ∧ ((j + 1 = 0 → ms'.set pl (!decide (pl ∈ st)) = ms) ∧ (j + 1 = 1 → ms'.set pl (!decide (pl ∈ st)) = ms.set k.2.1 (!decide (k.2.1 ∈ st))) ∧ (j + 1 = 2 → ms'.set pl (!decide (pl ∈ st)) = (ms.set k.2.1 (!decide (k.2.1 ∈ st))).set k.2.2 (!decide (k.2.2 ∈ st)))) := by
            rcases h01 with rfl | rfl
            · have e0 := j0 rfl
              exact ⟨k.2.1, (Option.some.inj hx).symm, p1, by rw [e0], fun z => (by cases z), fun _ => by rw [e0], fun z => (by cases z)⟩
            · have e1 := j1 rfl
              exact ⟨k.2.2, (Option.some.inj hx).symm, p2, by rw [e1, List.length_set], fun z => (by cases z), fun z => (by cases z), fun _ => by rw [e1]⟩
          subst e
          refine ⟨_, rfl, _, rfl, sa, _, rfl, .inr (SqT.of (o6.sm _ _ hs)), rfl, flat_ns st, ?_⟩
          refine ⟨_, rfl, _, rfl, l, _, _, _, rfl, rfl, o6.at_, ix_n (by rw [List.length_map, hms]; omega), ?_⟩
          have ev : (if true = true then !inV (nV pl) (st.map nV) else inV (nV pl) (st.map nV)) = !decide (pl ∈ st) := by rw [if_pos rfl, inV_n]
          rw [ev, map_set]
          refine ⟨ms'.set pl (!decide (pl ∈ st)), some (nV pl), rfl, Own.put o6, ?_, hh⟩
          rw [upd_ne npl]
          exact hp6
        · rintro σ H6 ⟨ms', y5, rfl, o6, hp6, _, _, j2⟩
          have e2 := j2 rfl
          refine ⟨ms', some (nV gt), y5, rfl, o6, ?_⟩
          rw [show wr + 1 - (i + 1) = gt by omega, e2]
          exact mark_down ok hgm hk mk5 hm
      · refine ⟨ms, some (nV gt), x5, rfl, o4, ?_⟩
        rw [show wr + 1 - (i + 1) = gt by omega]
        exact mark_skip ok hgm hk mk5 hm
    · rintro σ H4 ⟨ms, x4, x5, rfl, o4, mk4⟩
      have mk5 : MarkOk n st wr n.many ms := ⟨mk4.1, fun y hy => (mk4.2 y hy).trans (Rc.low_iff (by omega))⟩
      have hset := mark_set ok hw mk5
      have hml : ms.length = n.many + n.gates.length := mk5.1
      have a4 := Aft.ofSame tb o4.sm
      refine ⟨_, rfl, l, _, rfl, SqL.of o4.at_, a4.tb PR hP, fun H5 ht => ?_⟩
      have a5 : Aft Ts H4 H5 := ⟨Keep.tabbed hP ht, a4.tb.tabbed ht⟩
      refine turns_it (walk_enum (xs := ms.map V.bl)) (fun i ys H' => ys = ((List.range i).filter fun i => ms.getD i false).map nV ∧ Aft Ts H4 H') ⟨rfl, a5⟩ (fun i ys H' _ hp => SqL.of (hp.2.lst a4.tb o4.at_)) ?_ ?_
      · rintro i x ys H6 H7 hi ⟨rfl, a6⟩ ⟨T', v1, v2, rfl, nT, rfl, e1, e2⟩
        cases e1
        rw [List.length_map] at hi
        have e2' : (ms.map V.bl)[i]? = some v2 := e2
        rw [mark_at hi] at e2'
        cases e2'
        have a7 := a6.trans (Aft.new (o := .tup [.int (i : Nat), .bl (ms.getD i false)]) a6.tb nT)
        refine ⟨T', _, rfl, SqT.of upd_same, rfl, _, _, rfl, _, _, rfl, rfl, rfl, ?_⟩
        refine ⟨_, rfl, _, rfl, ite2 (fun hm => ?_) (fun hm => ?_)⟩
        · refine ⟨_, rfl, ?_, fun _ => ⟨?_, a7⟩⟩
          · show (List.map nV _).length < sizeLine
            rw [List.length_map]
            exact Nat.lt_of_le_of_lt (List.length_filter_le _ _) (by rw [List.length_range]; exact small1000 (by omega))
          · rw [picked_take, if_pos hm, List.map_append]
            rfl
        · refine ⟨?_, a7⟩
          rw [picked_take, if_neg hm, List.append_nil]
      · rintro ys H6 ⟨rfl, a6⟩
        rw [List.length_map]
        refine ⟨?_, fun p hp => ?_⟩
        · rw [List.length_map]
          exact Nat.le_trans (List.length_filter_le _ _) (by rw [List.length_range]; exact small _ (by omega))
        · exact q p _ _ ((a4.trans a6).trans (Aft.new a6.tb hp)) upd_same hset
end
section
variable {P : Program} {w : World} {K : PySem.W.Frag} {mg : Str → Option Value} {base : Heap} {Ts : List Addr}
def spWiresOf (Ts : List Addr) : Sp := fun vs H Q _ => ∃ M : Nat, vs = [nV M] ∧ M < 2 ^ 23 ∧ Tabs Ts H ∧ ∀ p H', Aft Ts H H' → H' p = some (.tup ((bitsOf M).map nV)) → Q (.ref p) H'
theorem bits_step (M i : Nat) : (List.range (i + 1)).filter (fun x => M.testBit x) = (List.range i).filter (fun x => M.testBit x) ++ (if M.testBit i = true then [i] else []) := by
  rw [List.range_succ, List.filter_append, List.filter_cons]
  rfl
theorem ok_wiresof {f c PG : Addr} (D : Dfn K mg "wires_of" s_wires_of f c) (T : Txt mg) (TB_wires_of : GxR.TabB base mg c PG) (hP : PG ∈ Ts) : Cal P w K mg base 1 "wires_of" (spWiresOf Ts) [] := by
  refine cal D (fun _ _ _ _ _ _ us hl => match us, hl with | [_], _ => rfl) sc_wires_of (fun vs H Q E h => ?_) (fun A outer s H vs Q E hr h => ?_)
  · obtain ⟨M, rfl, _⟩ := h
    rfl
  · obtain ⟨M, rfl, hM, tb, q⟩ := h
    refine ⟨_, (pss_one (ps_ret (pe_tupG (own := [("wire", 1)]) hr (by rfl) T.b_tuple TB_wires_of rfl (gxOk_by (N := ["mask", "wire"]) (sc := defScope s_wires_of) (own := [("wire", 1)]) (by decide +kernel)) sc_wires_of.nd (pi_range1 (by rfl) T.b_range (pa_cons (pe_bits (pv 0)) pa_nil)) (fun _ _ _ _ => (pg_name (i := 1) sc_wires_of.nd rfl (by first | exact Or.inl rfl | exact Or.inr rfl))) (fun _ _ _ _ => (pts_one (pt_truthK (K := K) (pe_op op_and (pe_op op_shr (pv 0) (pv 1)) pe_int) (by intro _; rfl)))) (fun _ _ _ _ => (pv 1))))), ?_⟩
    have hb : Builtin.Int.intBits ((M : Nat) : Int) ≤ 10000 := bits_small hM
    refine ⟨_, rfl, _, rfl, _, rfl, by omega, by omega, tb PG hP, fun H2 ht => ?_⟩
    have a2 : Aft Ts H H2 := ⟨Keep.tabbed hP ht, tb.tabbed ht⟩
    refine turns_it (walk_range (lo := 0) (n := ((Builtin.Int.intBits ((M : Nat) : Int) : Nat) : Int).toNat)) (fun i ys H' => ys = ((List.range i).filter fun x => M.testBit x).map nV ∧ Aft Ts H H') ⟨rfl, a2⟩ (fun i ys H' _ _ => trivial) ?_ ?_
    · rintro i x ys H3 H4 hi ⟨rfl, a3⟩ ⟨rfl, rfl⟩
      rw [Int.toNat_natCast] at hi
      refine ⟨rfl, _, rfl, _, rfl, _, _, rfl, rfl, by omega, _, _, rfl, rfl, ?_⟩
      dsimp -proj only
      rw [Int.zero_add, bit_of]
      refine ⟨_, rfl, ?_⟩
      have ev : ((((M / 2 ^ i % 2 : Nat) : Int) != 0)) = M.testBit i := by
        rw [Nat.testBit_eq_decide_div_mod_eq]
        by_cases h : M / 2 ^ i % 2 = 1
        · rw [h]
          rfl
        · rw [decide_eq_false h, show M / 2 ^ i % 2 = 0 by omega]
          rfl
      rw [ev]
      refine ite2 (fun h0 => ?_) (fun h0 => ?_)
      · refine ⟨_, rfl, ?_, fun _ => ⟨?_, a3⟩⟩
        · show (List.map nV _).length < sizeLine
          rw [List.length_map]
          exact Nat.lt_of_le_of_lt (List.length_filter_le _ _) (by rw [List.length_range]; exact small256 (by omega))
        · rw [bits_step, if_pos h0, List.map_append]
          rfl
      · refine ⟨?_, a3⟩
        rw [bits_step, if_neg h0, List.append_nil]
    · rintro ys H3 ⟨rfl, a3⟩
      rw [Int.toNat_natCast]
      refine ⟨?_, fun r hr => ?_⟩
      · rw [List.length_map]
        exact Nat.le_trans (List.length_filter_le _ _) (by rw [List.length_range]; exact Nat.le_of_lt (small256 hb))
      · exact q r _ (a3.trans (Aft.new a3.tb hr)) upd_same
def spFits : Sp := fun vs H Q _ => ∃ M k : Nat, vs = [nV M, nV k] ∧ k ≤ 1000 ∧ Q (.bl (decide (pop M ≤ k))) H
theorem ok_fits {f c : Addr} (D : Dfn K mg "fits" s_fits f c) (T : Txt mg) : Cal P w K mg base 1 "fits" spFits [] := by
  refine cal D (fun _ _ _ _ _ _ us hl => match us, hl with | [_, _], _ => rfl) sc_fits (fun vs H Q E h => ?_) (fun A outer s H vs Q E hr h => ?_)
  · obtain ⟨M, k, rfl, _⟩ := h
    rfl
  · obtain ⟨M, k, rfl, hk, q⟩ := h
    refine ⟨_, (pss_cons (ps_for PassesOwn.never rfl (pi_range1 (by rfl) T.b_range (pa_cons (pv 1) pa_nil)) (pg_name (i := 2) sc_fits.nd rfl (by first | exact Or.inl rfl | exact Or.inr rfl))
        (pss_one (ps_aug (i := 0) sc_fits.nd rfl (by first | exact Or.inl rfl | exact Or.inr rfl) (pe_op op_sub (pv 0) pe_int) ip_and)))
      (pss_one (ps_ret (pe_cmpR op_eq (pv 0) pe_int (nomark _))))), ?_⟩
    refine ⟨_, rfl, _, rfl, by omega, by omega, ?_⟩
    refine for_range (lo := 0) (n := ((k : Nat) : Int).toNat) (fun i σ H' => ∃ x2 : Option V, σ = [some (nV (clows i M)), some (nV k), x2] ∧ H' = H) ⟨none, rfl, rfl⟩ ?_ ?_
    · rintro i σ H' _ ⟨x2, rfl, rfl⟩
      refine ⟨_, rfl, _, rfl, _, _, rfl, rfl, _, _, rfl, rfl, ?_⟩
      refine ⟨some (V.int (0 + ((i : Nat) : Int))), ?_, rfl⟩
      show [some (V.int (Builtin.bitAnd ((clows i M : Nat) : Int) (((clows i M : Nat) : Int) - 1))), _, _] = _
      rw [and_low]
      rfl
    · rintro σ H' ⟨x2, rfl, rfl⟩
      rw [Int.toNat_natCast]
      refine ⟨_, rfl, rfl, ?_⟩
      have e : decide (nV (clows k M) = V.int 0) = decide (pop M ≤ k) := by
        refine decide_eq_decide.mpr ⟨fun z => (fits_iff M k).mp ?_, fun z => by rw [(fits_iff M k).mpr z]; rfl⟩
        have z' := V.int.inj z
        omega
      show Q (.bl (decide (nV (clows k M) = V.int 0))) H'
      rw [e]
      exact q
def spHasPart : Sp := fun vs H Q _ => ∃ (d : Addr) (F : List Nat) (M : Nat), vs = [.ref d, nV M] ∧ Rd H d (.dK (kvF F)) ∧ 0 < M ∧ Q (.bl (hasPart F M)) H
theorem ok_haspart {f c : Addr} (D : Dfn K mg "has_part" s_has_part f c) (T : Txt mg) : Cal P w K mg base 1 "has_part" spHasPart [] := by
  refine cal D (fun _ _ _ _ _ _ us hl => match us, hl with | [_, _], _ => rfl) sc_has_part (fun vs H Q E h => ?_) (fun A outer s H vs Q E hr h => ?_)
  · obtain ⟨d, F, M, rfl, _⟩ := h
    rfl
  · obtain ⟨d, F, M, rfl, hd, hM, q⟩ := h
    refine ⟨_, (pss_cons (ps_set (i := 2) sc_has_part.nd rfl (by first | exact Or.inl rfl | exact Or.inr rfl) (pe_op op_and (pe_op op_sub (pv 1) pe_int) (pv 1)))
      (pss_cons (ps_while PassesOwn.never (pt_cmpR op_gt (pv 2) pe_int (nomark _)) (pss_cons (ps_if (pt_cmp (pc_din (Nat.lt_of_le_of_lt (Nat.add_le_add_left (by decide) _) hr.units) (pv 2) (pv 0))) (pss_one (ps_ret pe_bl)) pss_nil)
      (pss_one (ps_set (i := 2) sc_has_part.nd rfl (by first | exact Or.inl rfl | exact Or.inr rfl) (pe_op op_and (pe_op op_sub (pv 2) pe_int) (pv 1))))))
      (pss_one (ps_ret pe_bl)))), ?_⟩
    refine ⟨_, rfl, _, _, rfl, rfl, _, rfl, _, _, rfl, rfl, ?_⟩
    dsimp -proj only
    rw [and_next hM]
    have sub1 : ∀ {p : Nat}, Sub ((p - 1) &&& M) M := fun {p} j hj => by
      rw [Nat.testBit_and] at hj
      exact (Bool.and_eq_true_iff.mp hj).2
    refine while_at (fun σ H' => ∃ p : Nat, σ = [some (.ref d), some (nV M), some (nV p)] ∧ H' = H ∧ Sub p M ∧ p < M ∧ ∀ q ∈ F, 0 < q → q ≠ M → Sub q M → q ≤ p) (fun σ _ => natOf σ 2) ⟨_, rfl, rfl, sub1, Nat.lt_of_le_of_lt Nat.and_le_left (by omega), fun q _ h0 ne sq => next_part M M M q (Nat.le_refl _) hM (Sub.refl M) sq (Nat.lt_of_le_of_ne sq.le ne)⟩ ?_
    rintro σ H' ⟨p, rfl, rfl, hp, hpM, hq⟩
    refine ⟨_, rfl, _, _, rfl, rfl, _, rfl, ite2 (fun h0 => ?_) (fun h0 => ?_)⟩
    · have p0 : 0 < p := by
        have := of_decide_eq_true h0
        omega
      refine ⟨_, whN, ?_⟩
      have dg : DGet H' d (nV p) (valV (kvF F) (nK p)) := .inl ⟨kvF F, nK p, hd, rfl, rfl⟩
      refine ⟨_, rfl, _, rfl, d, _, rfl, dg, _, rfl, ?_⟩
      rw [kvF_some]
      refine ite2 (fun hin => ?_) (fun hin => ?_)
      · have e : hasPart F M = true := hasPart_iff.mpr ⟨p, of_decide_eq_true hin, p0, Nat.ne_of_lt hpM, hp⟩
        rw [e] at q
        exact q
      · refine ⟨_, rfl, _, _, rfl, rfl, _, rfl, _, _, rfl, rfl, ?_⟩
        dsimp -proj only
        rw [and_next p0]
        have lt : (p - 1) &&& M < p := Nat.lt_of_le_of_lt Nat.and_le_left (by omega)
        refine ⟨⟨_, rfl, rfl, sub1, by omega, fun q hqF h0 ne sq => ?_⟩, ?_⟩
        · have le := hq q hqF h0 ne sq
          have ne2 : q ≠ p := fun z => hin (decide_eq_true (by rw [← z]; exact hqF))
          exact next_part p p M q (Nat.le_refl _) p0 hp sq (by omega)
        · exact lt
    · have p0 : p = 0 := by
        refine Classical.not_not.mp fun z => h0 (decide_eq_true ?_)
        show ((p : Nat) : Int) > 0
        omega
      have e : hasPart F M = false := by
        cases e : hasPart F M with
        | false => rfl
        | true =>
          obtain ⟨q', h1, h2, h3, h4⟩ := hasPart_iff.mp e
          have := hq q' h1 h2 h3 h4
          omega
      rw [e] at q
      exact q
def spGateMasks : Sp := fun vs H Q _ => ∃ (la lb : Addr) (fs ss : List Nat) (k : Nat), vs = [.ref la, .ref lb, nV k] ∧ H la = some (.lst (fs.map nV)) ∧ H lb = some (.lst (ss.map nV)) ∧ (∀ f ∈ fs, 0 < f ∧ f < 2 ^ 23) ∧ (∀ f ∈ ss, f < 2 ^ 23) ∧ k ≤ 1000 ∧
  ∀ p H' (F : List Nat), Same H H' → H p = none → H' p = some (.lst ((F.filter fun M => !hasPart F M).map nV)) → F.Nodup → (∀ M ∈ F, M < 2 ^ 23) → Found k fs ss F → Q (.ref p) H'
theorem ok_gatemasks {f c : Addr} (D : Dfn K mg "gate_masks" s_gate_masks f c) (T : Txt mg) (c_fits : Cal P w K mg base 1 "fits" spFits []) (c_has_part : Cal P w K mg base 1 "has_part" spHasPart []) : Cal P w K mg base 2 "gate_masks" spGateMasks [] := by
  refine cal D (fun _ _ _ _ _ _ us hl => match us, hl with | [_, _, _], _ => rfl) sc_gate_masks (fun vs H Q E h => ?_) (fun A outer s H vs Q E hr h => ?_)
  · obtain ⟨la, lb, fs, ss, k, rfl, _⟩ := h
    rfl
  · obtain ⟨la, lb, fs, ss, k, rfl, hla, hlb, hfs, hss, hk, q⟩ := h
    refine ⟨_, (pss_cons (ps_set (i := 3) sc_gate_masks.nd rfl (by first | exact Or.inl rfl | exact Or.inr rfl) pe_dnewK)
      (pss_cons (ps_for PassesOwn.never rfl (pi_list (pv 0)) (pg_name (i := 4) sc_gate_masks.nd rfl (by first | exact Or.inl rfl | exact Or.inr rfl))
        (pss_one (ps_for PassesOwn.never rfl (pi_list (pv 1)) (pg_name (i := 5) sc_gate_masks.nd rfl (by first | exact Or.inl rfl | exact Or.inr rfl))
        (pss_one (ps_if (pt_val (pe_c c_fits hr (by decide) (by rfl) (pa_cons (pe_op op_or (pv 4) (pv 5)) (pa_cons (pv 2) pa_nil)))) (pss_one (ps_dput (Nat.lt_of_le_of_lt (Nat.add_le_add_left (by decide) _) hr.units) (pv 3) (pe_op op_or (pv 4) (pv 5)) pe_bl (by rfl))) pss_nil)))))
      (pss_one (ps_ret (pe_lock (pe_lc (own := [("mask", 6)]) (g := gName 6)  rfl sc_gate_masks.nd (pi_keys (pv 3)) (blkOk_by (own := [("mask", 6)]) (N := ["firsts", "seconds", "k", "found", "first", "second", "mask"]) (sc := defScope s_gate_masks) (by decide +kernel)) (fun _ _ _ _ _ => (pg_name (i := 6) sc_gate_masks.nd rfl (by first | exact Or.inl rfl | exact Or.inr rfl))) (fun _ _ _ _ _ => (pts_one (pt_not (pt_val (pe_c c_has_part hr (by decide) (by rfl) (pa_cons (pv 3) (pa_cons (pv 6) pa_nil))))))) (fun _ _ _ _ _ => (pv 6)))))))), ?_⟩
    refine fun d nd => ?_
    have s1 := Same.new (o := .dK []) nd
    have putA : ∀ {Hx : Hp} {u : HO}, Same H Hx → Same H (upd Hx d u) := fun {Hx u} x b o e => by rw [upd_ne (ne_of_none e nd)]; exact x b o e
    have hd1 : upd H d (.dK []) d = some (.dK (kvF [])) := upd_same
    generalize upd H d (.dK []) = H1 at s1 hd1 ⊢
    refine ⟨_, rfl, la, rfl, ⟨_, SqL.of (s1 _ _ hla)⟩, ?_⟩
    refine for_list (K := K) (a := la) (xs := fs.map nV) (fun i σ H' => ∃ (x4 x5 x6 : Option V) (F : List Nat), σ = [some (.ref la), some (.ref lb), some (nV k), some (.ref d), x4, x5, x6] ∧ Same H H' ∧ H' d = some (.dK (kvF F)) ∧ F.Nodup ∧ (∀ M ∈ F, 0 < M ∧ M < 2 ^ 23) ∧ FoundW k fs ss i 0 F) ⟨none, none, none, [], rfl, s1, hd1, List.nodup_nil, fun M hM => (by cases hM), FoundW.zero _ _ _⟩ ?_ ?_ ?_
    · rintro i σ H' _ ⟨_, _, _, _, _, s', _⟩
      exact SqL.of (s' _ _ hla)
    · rintro i x σ H2 hx ⟨x4, x5, x6, F, rfl, s2, hd2, nF, lF, fw⟩
      have hi : i < fs.length := by
        have := (List.getElem?_eq_some_iff.mp hx).1
        rwa [List.length_map] at this
      rw [natAt hi] at hx
      cases hx
      obtain ⟨f0, f23⟩ := hfs _ (getD_mem hi)
      refine ⟨_, rfl, lb, rfl, ⟨_, SqL.of (s2 _ _ hlb)⟩, ?_⟩
      refine for_list (K := K) (a := lb) (xs := ss.map nV) (fun j σ H' => ∃ (x5 x6 : Option V) (F : List Nat), σ = [some (.ref la), some (.ref lb), some (nV k), some (.ref d), some (nV (fs.getD i 0)), x5, x6] ∧ Same H H' ∧ H' d = some (.dK (kvF F)) ∧ F.Nodup ∧ (∀ M ∈ F, 0 < M ∧ M < 2 ^ 23) ∧ FoundW k fs ss i j F) ⟨_, _, F, rfl, s2, hd2, nF, lF, fw⟩ ?_ ?_ ?_
      · rintro j σ H' _ ⟨_, _, _, _, s', _⟩
        exact SqL.of (s' _ _ hlb)
      · rintro j x σ H3 hx ⟨x5, x6, F, rfl, s3, hd3, nF, lF, fw⟩
        have hj : j < ss.length := by
          have := (List.getElem?_eq_some_iff.mp hx).1
          rwa [List.length_map] at this
        rw [natAt hj] at hx
        cases hx
        have s23 := hss _ (getD_mem hj)
        have o23 := or_lt23 f23 s23
        have o0 : 0 < fs.getD i 0 ||| ss.getD j 0 := Nat.lt_of_lt_of_le f0 (sub_or_left _ _).le
        refine ⟨_, rfl, _, rfl, _, _, rfl, rfl, _, rfl, fs.getD i 0 ||| ss.getD j 0, k, (by show [V.int (Builtin.bitOr _ _), _] = _; rw [or_of]; rfl), hk, _, rfl, ite2 (fun hp => ?_) (fun hp => ?_)⟩
        · have hp' := of_decide_eq_true hp
          refine ⟨_, rfl, _, rfl, _, rfl, _, _, rfl, rfl, ?_⟩
          dsimp -proj only
          rw [or_of]
          generalize hM : fs.getD i 0 ||| ss.getD j 0 = M at o23 o0 hp' ⊢
          refine ⟨d, _, rfl, DPut.k (k := nK M) hd3 (by rw [kvF_len]; exact nodup_lt23 nF fun M h => (lF M h).2), ?_⟩
          by_cases e : M ∈ F
          · rw [kvF_again e]
            exact ⟨_, _, F, rfl, putA s3, upd_same, nF, lF, fw.yes hj (by rw [hM]; exact hp') fun M' => by
              rw [hM]
              exact ⟨.inl, fun z => z.elim id fun z => by rw [z]; exact e⟩⟩
          · rw [kvF_put e]
            refine ⟨_, _, F ++ [M], rfl, putA s3, upd_same, nodup_snoc nF e, fun M' h => ?_, fw.yes hj (by rw [hM]; exact hp') fun M' => by rw [hM, List.mem_append, List.mem_singleton]⟩
            rcases List.mem_append.mp h with h | h
            · exact lF M' h
            · rw [List.mem_singleton.mp h]
              exact ⟨o0, o23⟩
        · exact ⟨_, _, F, rfl, s3, hd3, nF, lF, fw.no hj fun z => hp (decide_eq_true z)⟩
      · rintro σ H3 ⟨x5, x6, F, rfl, s3, hd3, nF, lF, fw⟩
        rw [List.length_map] at fw
        exact ⟨_, _, _, F, rfl, s3, hd3, nF, lF, fw.row hi⟩
    · rintro σ H2 ⟨x4, x5, x6, F, rfl, s2, hd2, nF, lF, fw⟩
      rw [List.length_map] at fw
      have fl := nodup_lt23 nF fun M h => (lF M h).2
      refine ⟨d, .dK (kvF F), hd2, trivial, fun od => ⟨_, rfl, d, od, rfl, .inl ⟨kvF F, upd_same, fun S nS => ?_⟩⟩⟩
      have hdl : upd H2 d (.frz od (.dK (kvF F))) d = some (.frz od (.dK (kvF F))) := upd_same
      have sl : Same H (upd H2 d (.frz od (.dK (kvF F)))) := putA s2
      generalize upd H2 d (.frz od (.dK (kvF F))) = Hl at nS hdl sl ⊢
      refine lc_it (walk_keys (kvs := kvF F)) (fun i H' => Own Hl H' S (((F.take i).filter fun M => !hasPart F M).map nV)) ⟨Same.new nS, upd_same, nS⟩ (fun i H' _ o' => o'.sm _ _ hdl) ?_ ?_
      · rintro i x H3 H4 hi o3 ⟨rfl, kk, v, hkv, rfl⟩
        rw [kvF_len] at hi
        have ek : kk = nK (F.getD i 0) := by
          unfold kvF at hkv
          rw [List.getElem?_map, List.getElem?_eq_getElem hi] at hkv
          rw [List.getD_eq_getElem?_getD, List.getElem?_eq_getElem hi]
          have := Option.some.inj hkv
          exact (congrArg Prod.fst this).symm
        subst ek
        have hm := getD_mem hi
        have ef : (F.take (i + 1)).filter (fun M => !hasPart F M) = (F.take i).filter (fun M => !hasPart F M) ++ (if (!hasPart F (F.getD i 0)) = true then [F.getD i 0] else []) := by
          rw [List.take_add_one, List.filter_append, List.getD_eq_getElem?_getD, List.getElem?_eq_getElem hi, Option.toList_some, List.filter_cons]
          rfl
        generalize F.getD i 0 = z at hm ef ⊢
        refine ⟨rfl, _, rfl, _, rfl, d, F, z, rfl, .inr ⟨od, o3.sm _ _ hdl⟩, (lF z hm).1, _, rfl, ite2 (fun hg => ?_) (fun hg => ?_)⟩
        · refine ⟨_, rfl, _, o3.at_, ?_, ?_⟩
          · rw [List.length_map]
            exact Nat.lt_of_le_of_lt (List.length_filter_le _ _) (by rw [List.length_take]; omega)
          · rw [ef, if_pos hg, List.map_append]
            exact o3.app
        · show Own Hl H4 S _
          rw [ef, if_neg hg, List.append_nil]
          exact o3
      · rintro H3 o3
        rw [kvF_len, List.take_length] at o3
        refine ⟨o3.sm _ _ hdl, ?_⟩
        have Sd : S ≠ d := fun z => by rw [z, hdl] at nS; cases nS
        have s4 : Same H (upd H3 d (.dK (kvF F))) := putA (sl.trans o3.sm)
        have S0 : H S = none := Classical.not_not.mp fun z => by
          obtain ⟨u, hu⟩ := Option.ne_none_iff_exists'.mp z
          rw [sl _ _ hu] at nS
          cases nS
        exact q S _ F s4 S0 (by rw [upd_ne Sd]; exact o3.at_) nF (fun M h => (lF M h).2) fw.all
end
section
variable {P : Program} {w : World} {K : PySem.W.Frag} {mg : Str → Option Value} {base : Heap} {Ts : List Addr}
structure WsOk (n : Net) (ws : List Nat) : Prop where
  ris : ws.Pairwise (· < ·)
  lt : ∀ x ∈ ws, x < n.many + n.gates.length
  clo : ∀ x ∈ ws, ∀ k, n.many ≤ x → n.gates[x - n.many]? = some k → k.2.1 ∈ ws ∧ k.2.2 ∈ ws
def spCutMasks : Sp := fun vs H Q _ => ∃ (a wa : Addr) (n : Net) (g o : Addr) (ps : List Addr) (ws : List Nat) (k : Nat), vs = [.ref a, .ref wa, nV k] ∧ NetAt H a n g o ps ∧ n.Ok ∧ H wa = some (.lst (ws.map nV)) ∧ WsOk n ws ∧ 1 ≤ k ∧ k ≤ 1000 ∧
  ∀ d H' kvs, Same H H' → H' d = some (.dK kvs) → (∀ x ∈ ws, CutsIn n k H' kvs x) → Q (.ref d) H'
theorem ok_cutmasks {f c : Addr} (D : Dfn K mg "cut_masks" s_cut_masks f c) (T : Txt mg) (c_places : Cal P w K mg base 1 "places" spPlaces []) (c_gate_masks : Cal P w K mg base 2 "gate_masks" spGateMasks []) : Cal P w K mg base 3 "cut_masks" spCutMasks [] := by
  refine cal D (fun _ _ _ _ _ _ us hl => match us, hl with | [_, _, _], _ => rfl) sc_cut_masks (fun vs H Q E h => ?_) (fun A outer s H vs Q E hr h => ?_)
  · obtain ⟨a, wa, n, g, o, ps, ws, k, rfl, _⟩ := h
    rfl
  · obtain ⟨a, wa, n, g, o, ps, ws, k, rfl, N, ok, hwa, wok, hk1, hk, q⟩ := h
    have m8 := ok.m8
    have g16 := ok.g16
    refine ⟨_, (pss_cons (ps_set (i := 3) sc_cut_masks.nd rfl (by first | exact Or.inl rfl | exact Or.inr rfl) pe_dnewK)
      (pss_cons (ps_for PassesOwn.never rfl (pi_list (pv 1)) (pg_name (i := 4) sc_cut_masks.nd rfl (by first | exact Or.inl rfl | exact Or.inr rfl))
        (pss_cons (ps_dput (Nat.lt_of_le_of_lt (Nat.add_le_add_left (by decide) _) hr.units) (pv 3) (pv 4) (pe_lst pa_nil) (by rfl))
      (pss_one (ps_if (pt_cmpR op_ge (pv 4) (pe_ix ix_tup (pv 0) pe_int (fun _ _ => rfl)) (nomark _)) (pss_cons (ps_asg (pe_c c_places hr (by decide) (by rfl) (pa_cons (pv 0) (pa_cons (pv 4) pa_nil))) (pg_tup rfl (pgs_cons (pg_name (i := 5) sc_cut_masks.nd rfl (by first | exact Or.inl rfl | exact Or.inr rfl)) (pgs_cons (pg_name (i := 6) sc_cut_masks.nd rfl (by first | exact Or.inl rfl | exact Or.inr rfl)) pgs_nil))))
      (pss_one (ps_dput (Nat.lt_of_le_of_lt (Nat.add_le_add_left (by decide) _) hr.units) (pv 3) (pv 4) (pe_c c_gate_masks hr (by decide) (by rfl) (pa_cons (pe_op op_cat (pe_dget (Nat.lt_of_le_of_lt (Nat.add_le_add_left (by decide) _) hr.units) (pv 3) (pv 5) (fun _ _ => rfl)) (pe_lst (pa_cons (pe_op op_shl pe_int (pv 5)) pa_nil))) (pa_cons (pe_op op_cat (pe_dget (Nat.lt_of_le_of_lt (Nat.add_le_add_left (by decide) _) hr.units) (pv 3) (pv 6) (fun _ _ => rfl)) (pe_lst (pa_cons (pe_op op_shl pe_int (pv 6)) pa_nil))) (pa_cons (pv 2) pa_nil)))) (by rfl)))) pss_nil))))
      (pss_one (ps_ret (pv 3))))), ?_⟩
    refine fun d nd => ?_
    have s1 := Same.new (o := .dK []) nd
    have putA : ∀ {Hx : Hp} {u : HO}, Same H Hx → Same H (upd Hx d u) := fun {Hx u} x b o e => by rw [upd_ne (ne_of_none e nd)]; exact x b o e
    have putL : ∀ {Hx : Hp} {u : HO} {kvs : List (L2.Key × V)}, Hx d = some (.dK kvs) → ∀ b zs, Hx b = some (.lst zs) → upd Hx d u b = some (.lst zs) := fun {Hx u kvs} hd b zs e => by
      rw [upd_ne (fun z => by rw [z, hd] at e; cases e)]
      exact e
    have hd1 : upd H d (.dK []) d = some (.dK []) := upd_same
    generalize upd H d (.dK []) = H1 at s1 hd1 ⊢
    have wl : ws.length ≤ 24 := by
      have nd : ws.Nodup := wok.ris.imp fun h => Nat.ne_of_lt h
      have := nd.length_le_of_subset (l₂ := List.range (n.many + n.gates.length)) fun x hx => List.mem_range.mpr (wok.lt x hx)
      rw [List.length_range] at this
      omega
    refine ⟨_, rfl, wa, rfl, ⟨_, SqL.of (s1 _ _ hwa)⟩, ?_⟩
    refine for_list (K := K) (a := wa) (xs := ws.map nV) (fun i σ H' => ∃ (x4 x5 x6 : Option V) (kvs : List (L2.Key × V)), σ = [some (.ref a), some (.ref wa), some (nV k), some (.ref d), x4, x5, x6] ∧ Same H H' ∧ H' d = some (.dK kvs) ∧ kvs.length ≤ 2 * i ∧ ∀ x ∈ ws.take i, CutsIn n k H' kvs x) ⟨none, none, none, [], rfl, s1, hd1, Nat.le_refl _, fun x hx => (by cases hx)⟩ ?_ ?_ ?_
    · rintro i σ H' _ ⟨_, _, _, _, _, s', _⟩
      exact SqL.of (s' _ _ hwa)
    · rintro i x σ H2 hx ⟨x4, x5, x6, kvs, rfl, s2, hd2, kl, ci⟩
      have hi : i < ws.length := by
        have := (List.getElem?_eq_some_iff.mp hx).1
        rwa [List.length_map] at this
      rw [natAt hi] at hx
      cases hx
      have hx := getD_mem hi
      have xlt := wok.lt _ hx
      have tk := mem_take_succ hi
      have inT : ∀ y ∈ ws, y < ws.getD i 0 → y ∈ ws.take i := fun y hy h => mem_take_lt wok.ris hi hy h
      have ne : ∀ y ∈ ws.take i, y ≠ ws.getD i 0 := fun y hy => Nat.ne_of_lt (not_mem_take wok.ris hi hy)
      have clo := wok.clo _ hx
      generalize ws.getD i 0 = x at hx xlt tk inT ne clo ⊢
      refine ⟨small 0, fun L nL => ⟨_, rfl, _, rfl, d, _, rfl, DPut.k (k := nK x) (Same.new nL _ _ hd2) (small256 (by omega)), ?_⟩⟩
      have hdL : upd H2 L (.lst []) d = some (.dK kvs) := Same.new nL _ _ hd2
      have s3 : Same H (upd (upd H2 L (.lst [])) d (.dK (putK kvs (nK x) (.ref L)))) := putA (s2.trans (Same.new nL))
      have hd3 : upd (upd H2 L (.lst [])) d (.dK (putK kvs (nK x) (.ref L))) d = some (.dK (putK kvs (nK x) (.ref L))) := upd_same
      have hL3 : upd (upd H2 L (.lst [])) d (.dK (putK kvs (nK x) (.ref L))) L = some (.lst []) := putL hdL _ _ upd_same
      have ci3 : ∀ y ∈ ws.take i, CutsIn n k (upd (upd H2 L (.lst [])) d (.dK (putK kvs (nK x) (.ref L)))) (putK kvs (nK x) (.ref L)) y := fun y hy => ((ci y hy).mono fun b zs e => putL hdL _ _ (Same.new nL _ _ e)).put (ne y hy)
      generalize upd (upd H2 L (.lst [])) d (.dK (putK kvs (nK x) (.ref L))) = H3 at s3 hd3 hL3 ci3 ⊢
      have kl3 := putK_le kvs (nK x) (.ref L)
      have val3 : valV (putK kvs (nK x) (.ref L)) (nK x) = some (.ref L) := by rw [valV_put, if_pos rfl]
      generalize putK kvs (nK x) (.ref L) = kv3 at hd3 ci3 kl3 val3 ⊢
      have N3 := N.same s3
      refine ⟨_, rfl, _, rfl, a, _, 0, _, rfl, rfl, SqT.of N3.top, at0, _, _, rfl, rfl, _, rfl, ite2 (fun hg => ?_) (fun hg => ?_)⟩
      · have hg' : n.many ≤ x := by
          have := of_decide_eq_true hg
          omega
        obtain ⟨kk, hkk⟩ : ∃ kk, n.gates[x - n.many]? = some kk := ⟨_, List.getElem?_eq_getElem (by omega)⟩
        obtain ⟨c1, c2⟩ := clo kk hg' hkk
        have l1 := place_lt ok hg' hkk (.inl rfl)
        have l2 := place_lt ok hg' hkk (.inr rfl)
        obtain ⟨p1, ms1, v1, h1, ml1, nd1⟩ := ci3 _ (inT _ c1 l1)
        obtain ⟨p2, ms2, v2, h2, ml2, nd2⟩ := ci3 _ (inT _ c2 l2)
        have lt1 := wok.lt _ c1
        have lt2 := wok.lt _ c2
        have f1 := ml1.full ok lt1 hk1
        have f2 := ml2.full ok lt2 hk1
        have b1 : ∀ M ∈ ms1, 0 < M ∧ M < 2 ^ 23 := fun M h => ml1.lt23 ok lt1 h
        have b2 : ∀ M ∈ ms2, 0 < M ∧ M < 2 ^ 23 := fun M h => ml2.lt23 ok lt2 h
        have lm1 := nodup_lt23 nd1 fun M h => (b1 M h).2
        have lm2 := nodup_lt23 nd2 fun M h => (b2 M h).2
        have w1 := pow_lt23 (x := kk.2.1) (by omega)
        have w2 := pow_lt23 (x := kk.2.2) (by omega)
        refine ⟨_, rfl, _, rfl, a, n, g, o, ps, x, kk, rfl, N3, hg', hkk, fun t nt => ?_⟩
        have s4 := s3.trans (Same.new (o := .tup [nV kk.2.1, nV kk.2.2]) nt)
        have ht4 : upd H3 t (.tup [nV kk.2.1, nV kk.2.2]) t = some (.tup [nV kk.2.1, nV kk.2.2]) := upd_same
        have st := Same.new (o := .tup [nV kk.2.1, nV kk.2.2]) nt
        generalize upd H3 t (.tup [nV kk.2.1, nV kk.2.2]) = H4 at s4 ht4 st ⊢
        have hd4 := st _ _ hd3
        refine ⟨t, _, rfl, SqT.of ht4, rfl, _, _, rfl, _, _, rfl, rfl, ?_⟩
        have dg1 : DGet H4 d (nV kk.2.1) (some (.ref p1)) := .inl ⟨kv3, nK kk.2.1, .inl hd4, rfl, v1.symm⟩
        refine ⟨_, rfl, _, rfl, d, _, rfl, dg1, _, rfl, _, _, rfl, rfl, ⟨by omega, by omega, by decide⟩, ?_⟩
        dsimp -proj only
        rw [shl_of]
        refine ⟨small 1, fun L1 nL1 => ⟨p1, L1, _, _, rfl, rfl, Same.new nL1 _ _ (st _ _ h1), upd_same, by rw [List.length_map]; exact lm1, fun R1 nR1 => ?_⟩⟩
        have s5 := (Same.new (o := .lst [V.int ((2 ^ kk.2.1 : Nat) : Int)]) nL1).trans (Same.new (o := .lst (ms1.map nV ++ [V.int ((2 ^ kk.2.1 : Nat) : Int)])) nR1)
        have hR1 : upd (upd H4 L1 (.lst [V.int ((2 ^ kk.2.1 : Nat) : Int)])) R1 (.lst (ms1.map nV ++ [V.int ((2 ^ kk.2.1 : Nat) : Int)])) R1 = some (.lst ((ms1 ++ [2 ^ kk.2.1]).map nV)) := by
          rw [upd_same, List.map_append]
          rfl
        generalize upd (upd H4 L1 (.lst [V.int ((2 ^ kk.2.1 : Nat) : Int)])) R1 (.lst (ms1.map nV ++ [V.int ((2 ^ kk.2.1 : Nat) : Int)])) = H5 at s5 hR1 ⊢
        have hd5 := s5 _ _ hd4
        have dg2 : DGet H5 d (nV kk.2.2) (some (.ref p2)) := .inl ⟨kv3, nK kk.2.2, .inl hd5, rfl, v2.symm⟩
        refine ⟨_, rfl, _, rfl, d, _, rfl, dg2, _, rfl, _, _, rfl, rfl, ⟨by omega, by omega, by decide⟩, ?_⟩
        dsimp -proj only
        rw [shl_of]
        refine ⟨small 1, fun L2 nL2 => ⟨p2, L2, _, _, rfl, rfl, Same.new nL2 _ _ (s5 _ _ (st _ _ h2)), upd_same, by rw [List.length_map]; exact lm2, fun R2 nR2 => ?_⟩⟩
        have s6 := (Same.new (o := .lst [V.int ((2 ^ kk.2.2 : Nat) : Int)]) nL2).trans (Same.new (o := .lst (ms2.map nV ++ [V.int ((2 ^ kk.2.2 : Nat) : Int)])) nR2)
        have hR2 : upd (upd H5 L2 (.lst [V.int ((2 ^ kk.2.2 : Nat) : Int)])) R2 (.lst (ms2.map nV ++ [V.int ((2 ^ kk.2.2 : Nat) : Int)])) R2 = some (.lst ((ms2 ++ [2 ^ kk.2.2]).map nV)) := by
          rw [upd_same, List.map_append]
          rfl
        generalize upd (upd H5 L2 (.lst [V.int ((2 ^ kk.2.2 : Nat) : Int)])) R2 (.lst (ms2.map nV ++ [V.int ((2 ^ kk.2.2 : Nat) : Int)])) = H6 at s6 hR2 ⊢
        have hd6 := s6 _ _ hd5
        refine ⟨_, rfl, R1, R2, _, _, k, rfl, s6 _ _ hR1, hR2, fun M hM => ?_, fun M hM => ?_, hk, fun p H7 F s7 np hp nF lF fd => ?_⟩
        · rcases List.mem_append.mp hM with h | h
          · exact b1 M h
          · rw [List.mem_singleton.mp h]
            exact w1
        · rcases List.mem_append.mp hM with h | h
          · exact (b2 M h).2
          · rw [List.mem_singleton.mp h]
            exact w2.2
        have ml := gate_found ok hg' xlt hkk f1 f2 fd
        have hd7 := s7 _ _ hd6
        have s47 := (st.trans (s5.trans s6)).trans s7
        refine ⟨_, rfl, _, rfl, d, _, rfl, DPut.k (k := nK x) hd7 (small256 (by omega)), ?_⟩
        have kl7 := putK_le kv3 (nK x) (.ref p)
        refine ⟨_, _, _, putK kv3 (nK x) (.ref p), rfl, putA (s3.trans s47), upd_same, by omega, fun y hy => ?_⟩
        rcases (tk y).mp hy with hy | rfl
        · exact ((ci3 y hy).mono fun b zs e => putL hd7 _ _ (s47 _ _ e)).put (ne y hy)
        · exact ⟨p, _, by rw [valV_put, if_pos rfl], putL hd7 _ _ hp, ml, nF.filter _⟩
      · have hx0 : x < n.many := by
          refine Nat.lt_of_not_le fun z => hg (decide_eq_true ?_)
          show ((x : Nat) : Int) ≥ ((n.many : Nat) : Int)
          omega
        refine ⟨_, _, _, kv3, rfl, s3, hd3, by omega, fun y hy => ?_⟩
        rcases (tk y).mp hy with hy | rfl
        · exact ci3 y hy
        · exact ⟨L, [], val3, hL3, ML.input hx0, List.nodup_nil⟩
    · rintro σ H2 ⟨x4, x5, x6, kvs, rfl, s2, hd2, kl, ci⟩
      rw [List.length_map, List.take_length] at ci
      exact ⟨_, rfl, q d H2 kvs s2 hd2 ci⟩
end
section
variable {P : Program} {w : World} {K : PySem.W.Frag} {mg : Str → Option Value} {base : Heap} {Ts : List Addr}
def spTold (Ts : List Addr) : Sp := fun vs H Q _ => ∃ (la : Addr) (ms : List Nat), vs = [.ref la] ∧ H la = some (.lst (ms.map nV)) ∧ ms.length < sizeLine ∧ (∀ M ∈ ms, 0 < M ∧ M < 2 ^ 23) ∧ Tabs Ts H ∧
  ∀ p H' (rs : List Addr) (cs : List (List Nat)), Aft Ts H H' → H' p = some (.tup (rs.map V.ref)) → TupsAt H' rs cs → cs.Perm (ms.map bitsOf) → (cs.Pairwise fun a b => lexN b a = false) → Q (.ref p) H'
theorem ok_told {f c : Addr} (D : Dfn K mg "told_cuts" s_told_cuts f c) (T : Txt mg) (c_wires_of : Cal P w K mg base 1 "wires_of" (spWiresOf Ts) []) : Cal P w K mg base 2 "told_cuts" (spTold Ts) [] := by
  refine cal D (fun _ _ _ _ _ _ us hl => match us, hl with | [_], _ => rfl) sc_told_cuts (fun vs H Q E h => ?_) (fun A outer s H vs Q E hr h => ?_)
  · obtain ⟨la, ms, rfl, _⟩ := h
    rfl
  · obtain ⟨la, ms, rfl, hla, hl, hb, tb, q⟩ := h
    refine ⟨_, (pss_one (ps_ret (pe_callTy call_tuple_of (by rfl) T.b_tuple (by decide +kernel) (pa_cons (pe_callB cr_sortTup (by rfl) T.b_sorted (by decide +kernel) (pa_cons (pe_lc (own := [("mask", 1)]) (g := gName 1) (tt := tYes) rfl sc_told_cuts.nd (pi_list (pv 0)) (blkOk_by (own := [("mask", 1)]) (N := ["masks", "mask"]) (sc := defScope s_told_cuts) (by decide +kernel)) (fun _ _ _ _ _ => (pg_name (i := 1) sc_told_cuts.nd rfl (by first | exact Or.inl rfl | exact Or.inr rfl))) (fun _ _ _ _ _ => pts_nil) (fun _ _ _ _ _ => (pe_c c_wires_of hr (by decide) (by rfl) (pa_cons (pv 1) pa_nil)))) pa_nil)) pa_nil)))), ?_⟩
    refine ⟨_, rfl, la, rfl, ⟨_, SqL.of hla⟩, fun M nM => ?_⟩
    have laM : la ≠ M := fun z => by rw [z, nM] at hla; cases hla
    refine lc_list (K := K) (a := la) (xs := ms.map nV) (fun i H' => ∃ ts : List Addr, H' M = some (.lst (ts.map V.ref)) ∧ Aft Ts H H' ∧ RefsAt (fun x => (bitsOf x).map nV) H' ts (ms.take i)) ⟨[], upd_same, Aft.new tb nM, RefsAt.nil _ _⟩ (fun _ H' _ h => h.elim fun ts h => SqL.of (h.2.1.lst tb hla)) ?_ ?_
    · rintro i x H4 hx ⟨ts, hM4, a4, R4⟩
      have hi : i < ms.length := by
        have := (List.getElem?_eq_some_iff.mp hx).1
        rwa [List.length_map] at this
      rw [natAt hi] at hx
      cases hx
      refine ⟨rfl, ?_⟩
      unfold tYes
      refine iteT ?_
      refine ⟨_, rfl, ms.getD i 0, rfl, (hb _ (getD_mem hi)).2, a4.tb, fun cp H5 a5 hcp => ?_⟩
      have hM5 := a5.lst a4.tb hM4
      have R5 := (R4.mono fun b zs e => a5.tup a4.tb e).push (y := ms.getD i 0) hcp
      have tl : ts.length ≤ i := by
        rw [R4.1, List.length_take]
        omega
      refine ⟨_, hM5, by rw [List.length_map]; omega, ts ++ [cp], by rw [upd_same, List.map_append]; rfl, ?_, ?_⟩
      · exact ⟨fun b u e nb => by rw [upd_ne (ne_of_none e nM)]; exact (a4.trans a5).kp b u e nb, a5.tb.upd (tb.none nM)⟩
      · have ew : ms.getD i 0 = ms[i] := by rw [List.getD_eq_getElem?_getD, List.getElem?_eq_getElem hi]; rfl
        rw [List.take_add_one, List.getElem?_eq_getElem hi, Option.toList_some, ← ew]
        exact R5.mono fun b zs e => by
          rw [upd_ne (fun z => by rw [z, hM5] at e; cases e)]
          exact e
    · rintro H4 ⟨ts, hM4, a4, R4⟩
      rw [List.length_map, List.take_length] at R4
      have R4' : TupsAt H4 ts (ms.map bitsOf) := ⟨by rw [List.length_map]; exact R4.1, fun i p x e1 e2 => by
        rw [List.getElem?_map] at e2
        cases e : ms[i]? with
        | none => rw [e] at e2; cases e2
        | some y =>
          rw [e] at e2
          cases e2
          exact R4.2 i p y e1 e⟩
      refine ⟨M, ts.map V.ref, fun x => (tupN H4 x).map (fun n : Nat => (n : Int)), rfl, SqL.of hM4, fun x hx => ?_, fun ys p srt pm np => ?_⟩
      · obtain ⟨t, c', rfl, hc, ht⟩ := R4'.all hx
        dsimp only
        rw [tupN_at ht]
        refine ⟨⟨t, rfl, by rw [mapV]; exact ht⟩, fun z => ?_⟩
        obtain ⟨M', hM', rfl⟩ := List.mem_map.mp hc
        have z' := List.map_eq_nil_iff.mp z
        have : pop M' = 0 := by
          unfold pop
          rw [z']
          rfl
        have := pop_zero_iff.mp this
        have := (hb M' hM').1
        omega
      · obtain ⟨rs, ds, rfl, hr', pd, sd⟩ := tups_sorted R4' srt pm
        refine ⟨p, _, rfl, .inl ⟨SqL.of upd_same, fun r nr => ?_⟩⟩
        have a5 := Aft.new (o := .lst (rs.map V.ref)) a4.tb np
        have a6 := Aft.new (o := .tup (rs.map V.ref)) a5.tb nr
        exact q r _ rs ds ((a4.trans a5).trans a6) upd_same (hr'.mono fun b zs e => a6.tup a5.tb (a5.tup a4.tb e)) pd sd
end
section
variable {P : Program} {w : World} {K : PySem.W.Frag} {mg : Str → Option Value} {base : Heap} {Ts : List Addr}
/-- the cuts of a wire, told -/
def CutsTold (n : Net) (k : Nat) (H : Hp) (q : Addr) (x : Nat) : Prop := ∃ (rs : List Addr) (cs : List (List Nat)), H q = some (.tup (rs.map V.ref)) ∧ TupsAt H rs cs ∧ CutsAre n k x cs ∧ cs.length < sizeLine
theorem CutsTold.mono {n : Net} {k : Nat} {H H' : Hp} {q : Addr} {x : Nat} (h : CutsTold n k H q x) (m : ∀ b xs, H b = some (.tup xs) → H' b = some (.tup xs)) : CutsTold n k H' q x := by
  obtain ⟨rs, cs, h1, h2, h3⟩ := h
  exact ⟨rs, cs, m _ _ h1, h2.mono m, h3⟩
def spAllCuts (Ts : List Addr) : Sp := fun vs H Q _ => ∃ (a : Addr) (n : Net) (g o : Addr) (ps : List Addr) (k : Nat), vs = [.ref a, nV k] ∧ NetAt H a n g o ps ∧ n.Ok ∧ 2 ≤ k ∧ k ≤ 1000 ∧ Tabs Ts H ∧
  ∀ p H' (qs : List Addr), Aft Ts H H' → H' p = some (.tup (qs.map V.ref)) → PtsAt (CutsTold n k) H' qs (List.range (n.many + n.gates.length)) → Q (.ref p) H'
theorem ok_allcuts {f c PA' : Addr} (D : Dfn K mg "all_cuts" s_all_cuts f c) (T : Txt mg) (c_wires_in : Cal P w K mg base 1 "wires_in" spWires []) (c_cut_masks : Cal P w K mg base 3 "cut_masks" spCutMasks []) (c_places : Cal P w K mg base 1 "places" spPlaces []) (c_told_cuts : Cal P w K mg base 2 "told_cuts" (spTold Ts) []) (TB_all_cuts : GxR.TabB base mg c PA') (hP : PA' ∈ Ts) : Cal P w K mg base 4 "all_cuts" (spAllCuts Ts) [] := by
  refine cal D (fun _ _ _ _ _ _ us hl => match us, hl with | [_, _], _ => rfl) sc_all_cuts (fun vs H Q E h => ?_) (fun A outer s H vs Q E hr h => ?_)
  · obtain ⟨a, n, g, o, ps, k, rfl, _⟩ := h
    rfl
  · obtain ⟨a, n, g, o, ps, k, rfl, N, ok, hk2, hk, tb, q⟩ := h
    have m8 := ok.m8
    have g16 := ok.g16
    refine ⟨_, (pss_cons (ps_set (i := 2) sc_all_cuts.nd rfl (by first | exact Or.inl rfl | exact Or.inr rfl) (pe_listRg rfl (by rfl) T.b_list (prg_1 (by rfl) T.b_range (pe_c c_wires_in hr (by decide) (by rfl) (pa_cons (pv 0) pa_nil)))))
      (pss_cons (ps_set (i := 3) sc_all_cuts.nd rfl (by first | exact Or.inl rfl | exact Or.inr rfl) (pe_c c_cut_masks hr (by decide) (by rfl) (pa_cons (pv 0) (pa_cons (pv 2) (pa_cons (pv 1) pa_nil)))))
      (pss_cons (ps_for PassesOwn.never rfl (pi_list (pe_slice sl_list (pv 2) (po_some (pe_ix ix_tup (pv 0) pe_int (fun _ _ => rfl))) po_none)) (pg_name (i := 4) sc_all_cuts.nd rfl (by first | exact Or.inl rfl | exact Or.inr rfl))
        (pss_one (ps_if (pt_cmpR op_eq (pe_callB call_len_seq (by rfl) T.b_len (by decide +kernel) (pa_cons (pe_dget (Nat.lt_of_le_of_lt (Nat.add_le_add_left (by decide) _) hr.units) (pv 3) (pv 4) (fun _ _ => rfl)) pa_nil)) pe_int (nomark _)) (pss_cons (ps_asg (pe_c c_places hr (by decide) (by rfl) (pa_cons (pv 0) (pa_cons (pv 4) pa_nil))) (pg_tup rfl (pgs_cons (pg_name (i := 5) sc_all_cuts.nd rfl (by first | exact Or.inl rfl | exact Or.inr rfl)) (pgs_cons (pg_name (i := 6) sc_all_cuts.nd rfl (by first | exact Or.inl rfl | exact Or.inr rfl)) pgs_nil))))
      (pss_one (ps_dput (Nat.lt_of_le_of_lt (Nat.add_le_add_left (by decide) _) hr.units) (pv 3) (pv 4) (pe_lst (pa_cons (pe_op op_or (pe_op op_shl pe_int (pv 5)) (pe_op op_shl pe_int (pv 6))) pa_nil)) (by rfl)))) pss_nil)))
      (pss_one (ps_ret (pe_tupG (own := [("wire", 7)]) hr (by rfl) T.b_tuple TB_all_cuts rfl (gxOk_by (N := ["net", "k", "wires", "masks", "gate", "one", "other", "wire"]) (sc := defScope s_all_cuts) (own := [("wire", 7)]) (by decide +kernel)) sc_all_cuts.nd (pi_list (pv 2)) (fun _ _ _ _ => (pg_name (i := 7) sc_all_cuts.nd rfl (by first | exact Or.inl rfl | exact Or.inr rfl))) (fun _ _ _ _ => pts_nil) (fun _ _ _ _ => (pe_c c_told_cuts (GX.Room.gx4 hr) (by decide) (by rfl) (pa_cons (pe_dget (Nat.lt_of_le_of_lt (Nat.add_le_add_left (by decide) _) (GX.Room.gx4 hr).units) (pv 3) (pv 7) (fun _ _ => rfl)) pa_nil))))))))), ?_⟩
    refine ⟨_, rfl, a, n, g, o, ps, rfl, N, _, rfl, RgOk.of_le (by decide) (by show ((n.many + n.gates.length : Nat) : Int) ≤ 16777216; omega) (by decide) (by show (0 : Int) ≤ ((n.many + n.gates.length : Nat) : Int); omega), fun rp nrp => ?_⟩
    have et : rgV 0 ((n.many + n.gates.length : Nat) : Int) = (List.range (n.many + n.gates.length)).map nV := by
      unfold rgV
      rw [Int.sub_zero, Int.toNat_natCast]
      refine List.map_congr_left fun i _ => ?_
      rw [Int.zero_add]
      rfl
    have s1 := Same.new (o := .lst (rgV 0 ((n.many + n.gates.length : Nat) : Int))) nrp
    have hrp : upd H rp (.lst (rgV 0 ((n.many + n.gates.length : Nat) : Int))) rp = some (.lst ((List.range (n.many + n.gates.length)).map nV)) := by rw [upd_same, et]
    generalize upd H rp (.lst (rgV 0 ((n.many + n.gates.length : Nat) : Int))) = H1 at s1 hrp ⊢
    have wok : WsOk n (List.range (n.many + n.gates.length)) := ⟨List.pairwise_lt_range, fun x hx => List.mem_range.mp hx, fun x hx kk hm hkk => by
      have l1 := place_lt ok hm hkk (.inl rfl)
      have l2 := place_lt ok hm hkk (.inr rfl)
      have := List.mem_range.mp hx
      exact ⟨List.mem_range.mpr (by omega), List.mem_range.mpr (by omega)⟩⟩
    refine ⟨_, rfl, _, rfl, _, rfl, a, rp, n, g, o, ps, _, k, rfl, N.same s1, ok, hrp, wok, by omega, hk, fun d H2 kvs s2 hd ci => ?_⟩
    have N2 := (N.same s1).same s2
    have hrp2 := s2 _ _ hrp
    have tb2 := tb.same (s1.trans s2)
    refine ⟨_, rfl, _, rfl, a, _, 0, _, rfl, rfl, SqT.of N2.top, at0, _, rfl, ?_⟩
    unfold tNoPart
    refine ⟨rp, _, rfl, SqL.of hrp2, fun S nS => ?_⟩
    rw [cut_lo, ← List.map_drop]
    have s3 := Same.new (o := .lst (((List.range (n.many + n.gates.length)).drop n.many).map nV)) nS
    have hS3 : upd H2 S (.lst (((List.range (n.many + n.gates.length)).drop n.many).map nV)) S = some (.lst (((List.range (n.many + n.gates.length)).drop n.many).map nV)) := upd_same
    have hd3 := s3 _ _ hd
    have hrp3 := s3 _ _ hrp2
    have tb3 := tb2.same s3
    have ci3 : ∀ x ∈ List.range (n.many + n.gates.length), CutsIn n k (upd H2 S (.lst (((List.range (n.many + n.gates.length)).drop n.many).map nV))) kvs x := fun x hx => (ci x hx).mono fun b zs e => s3 _ _ e
    have a03 : Aft Ts H (upd H2 S (.lst (((List.range (n.many + n.gates.length)).drop n.many).map nV))) := Aft.ofSame tb ((s1.trans s2).trans s3)
    generalize upd H2 S (.lst (((List.range (n.many + n.gates.length)).drop n.many).map nV)) = H3 at s3 hS3 hd3 hrp3 tb3 ci3 a03 ⊢
    refine ⟨S, rfl, ⟨_, SqL.of hS3⟩, ?_⟩
    refine for_list (K := K) (a := S) (xs := ((List.range (n.many + n.gates.length)).drop n.many).map nV) (fun i σ H' => ∃ (x4 x5 x6 x7 : Option V), σ = [some (.ref a), some (nV k), some (.ref rp), some (.ref d), x4, x5, x6, x7] ∧ H' = H3) ⟨_, _, _, _, rfl, rfl⟩ ?_ ?_ ?_
    · rintro i σ H' _ ⟨_, _, _, _, _, rfl⟩
      exact SqL.of hS3
    · rintro i x σ H' hx ⟨x4, x5, x6, x7, rfl, rfl⟩
      have hi : i < ((List.range (n.many + n.gates.length)).drop n.many).length := by
        have := (List.getElem?_eq_some_iff.mp hx).1
        rwa [List.length_map] at this
      rw [natAt hi] at hx
      cases hx
      have hm := getD_mem hi
      have hxe : n.many ≤ ((List.range (n.many + n.gates.length)).drop n.many).getD i 0 ∧ ((List.range (n.many + n.gates.length)).drop n.many).getD i 0 < n.many + n.gates.length := by
        rw [List.length_drop, List.length_range] at hi
        rw [List.getD_eq_getElem?_getD, List.getElem?_drop, List.getElem?_range (by omega)]
        show n.many ≤ n.many + i ∧ n.many + i < _
        omega
      generalize ((List.range (n.many + n.gates.length)).drop n.many).getD i 0 = x at hm hxe ⊢
      obtain ⟨p, ms, v, hp, ml, nd⟩ := ci3 x (List.mem_range.mpr hxe.2)
      have ne := ml.some_ ok hk2 hxe.1 (List.getElem?_eq_getElem (show x - n.many < n.gates.length by omega))
      have dg : DGet H' d (nV x) (some (.ref p)) := .inl ⟨kvs, nK x, .inl hd3, rfl, v.symm⟩
      refine ⟨_, rfl, _, rfl, d, _, rfl, dg, p, _, rfl, .inl (SqL.of hp), rfl, _, rfl, ?_⟩
      rw [decide_eq_false (fun z => ne (List.length_eq_zero_iff.mp (by have := V.int.inj z; rw [List.length_map] at this; omega)))]
      refine iteF ?_
      exact ⟨_, _, _, _, rfl, rfl⟩
    · rintro σ H' ⟨x4, x5, x6, x7, rfl, rfl⟩
      refine ⟨_, rfl, rp, rfl, ⟨_, SqL.of hrp3⟩, tb3 PA' hP, fun H4 ht => ?_⟩
      have a4 : Aft Ts H' H4 := ⟨Keep.tabbed hP ht, tb3.tabbed ht⟩
      have a04 := a4
      refine turns_it (walk_list (xs := (List.range (n.many + n.gates.length)).map nV)) (fun i ys H5 => ∃ qs : List Addr, ys = qs.map V.ref ∧ Aft Ts H' H5 ∧ PtsAt (CutsTold n k) H5 qs ((List.range (n.many + n.gates.length)).take i)) ⟨[], rfl, a4, PtsAt.nil _ _⟩ (fun i ys H5 _ h => h.elim fun qs h => SqL.of (h.2.1.lst tb3 hrp3)) ?_ ?_
      · rintro i x ys H5 H6 hi ⟨qs, rfl, a5, P5⟩ ⟨rfl, hx⟩
        rw [List.length_map] at hi
        rw [natAt hi] at hx
        cases hx
        have hxm := getD_mem hi
        have ex : (List.range (n.many + n.gates.length)).getD i 0 = (List.range (n.many + n.gates.length))[i] := by rw [List.getD_eq_getElem?_getD, List.getElem?_eq_getElem hi]; rfl
        have ql : qs.length ≤ 24 := by
          rw [P5.1, List.length_take, List.length_range]
          omega
        obtain ⟨p, ms, v, hp, ml, nd⟩ := ci3 _ hxm
        have xlt := List.mem_range.mp hxm
        have bnd := fun M (h : M ∈ ms) => ml.lt23 ok xlt h
        have hd5 : Rd H6 d (.dK kvs) := .inl (a5.kp _ _ hd3 (tb3.nott hd3 fun _ z => by cases z))
        have dg : DGet H6 d (nV ((List.range (n.many + n.gates.length)).getD i 0)) (some (.ref p)) := .inl ⟨kvs, nK _, hd5, rfl, v.symm⟩
        refine ⟨rfl, ?_⟩
        unfold tYes
        refine iteT ?_
        refine ⟨_, rfl, _, rfl, d, _, rfl, dg, p, ms, rfl, a5.lst tb3 hp, nodup_lt23 nd fun M h => (bnd M h).2, bnd, a5.tb, fun r H7 rs cs a7 hr7 ht7 pm srt => ⟨?_, fun _ => ⟨qs ++ [r], by rw [List.map_append]; rfl, a5.trans a7, ?_⟩⟩⟩
        · show (List.map V.ref qs).length < sizeLine
          rw [List.length_map]
          exact small256 (by omega)
        · rw [List.take_add_one, List.getElem?_eq_getElem hi, Option.toList_some, ← ex]
          exact (P5.mono fun p x h => CutsTold.mono h fun b zs e => a7.tup a5.tb e).push ⟨rs, cs, hr7, ht7, cuts_of_masks ok ml nd pm srt, by rw [pm.length_eq, List.length_map]; exact nodup_lt23 nd fun M h => (bnd M h).2⟩
      · rintro ys H5 ⟨qs, rfl, a5, P5⟩
        rw [List.length_map, List.take_length] at P5
        refine ⟨?_, fun p np => ?_⟩
        · rw [List.length_map, P5.1, List.length_range]
          exact small _ (by omega)
        · have a6 := Aft.new (o := .tup (qs.map V.ref)) a5.tb np
          exact q p _ qs ((a03.trans a5).trans a6) upd_same (P5.mono fun p x h => CutsTold.mono h fun b zs e => a6.tup a5.tb e)
end
end K80
set_option Elab.async false
set_option linter.all false
set_option maxRecDepth 100000
set_option maxHeartbeats 4000000
/-! The choice of a gate: the least deep, then the shortest, then the first. -/
namespace GX
open PySem PySem.Spec PyProof.Rows L2
/-- the key of a cut by the depths ds -/
def keyN (ds c : List Nat) : List Nat := (1 + maxL (c.map fun x => ds.getD x 0)) :: c.length :: c
theorem keyN_inj {ds c c' : List Nat} (h : keyN ds c = keyN ds c') : c = c' := by injection (List.cons.inj h).2
structure Best (ds : List Nat) (cs : List (List Nat)) (c : List Nat) : Prop where
  mem : c ∈ cs
  low : ∀ c' ∈ cs, lexN (keyN ds c') (keyN ds c) = false
theorem Best.uniq {ds : List Nat} {cs : List (List Nat)} {c c' : List Nat} (h : Best ds cs c) (h' : Best ds cs c') : c = c' := keyN_inj (lex_tri _ _ (h'.low _ h.mem) (h.low _ h'.mem))
end GX
set_option Elab.async false
set_option linter.all false
set_option maxRecDepth 100000
set_option maxHeartbeats 4000000
namespace K80
open PySem PySem.Spec PyProof.Rows L2 GX
open C8 (Cal pe_c pe_gc Met Mak)
-- @dict CHANGES
-- @no CHANGES 0 ""
-- @no CHANGES 1 "0"
-- @no CHANGES 2 "way"
-- @no CHANGES 3 "Kind"
-- @no CHANGES 4 "leads"
-- @dict QUESTIONS
-- @no QUESTIONS 0 "gate"
-- @no QUESTIONS 1 "kind"
-- @no QUESTIONS 2 "lead"
-- @no QUESTIONS 3 "less"
-- @no QUESTIONS 4 "outs"
-- @exc NoText
-- @exc NoDepth
-- @exc TooMany
-- @exc NoMatch
-- @exc NoChange made
-- @exc NoRow made
-- @sub NoChange NoChange true
-- @sub NoRow NoRow true
-- @sub NoRow ValueError true
-- @sub NoRow NoText false
-- @sub NoRow NoDepth false
-- @sub NoRow TooMany false
-- @sub NoRow NoMatch false
-- @sub NoRow NoChange false
-- @cls Keeper k:i,held:N,kept:t[t[t[i]]]
-- @cls Desk keeper:OKeeper
-- @alt rises list par=l[i]
-- @alt cut_masks tup par=N,t[i],i vars=masks:DL,wire:i
-- @alt one_deeper tup par=t[i],t[i]
-- @alt _law_written tup par=t[i],s
section
variable {P : Program} {w : World} {K : PySem.W.Frag} {mg : Str → Option Value} {base : Heap} {Ts : List Addr}
abbrev lamQ : Str := "chosen.<locals>.<lambda>"
end
section
variable {P : Program} {w : World} {K : PySem.W.Frag} {mg : Str → Option Value} {base : Heap} {Ts : List Addr}
/-- the choice of the gate g by the depths ds -/
structure IsChoice (n : Net) (k : Nat) (ds : List Nat) (g : Nat) (c : List Nat) : Prop where
  lc : LC n k g c
  low : ∀ c', LC n k g c' → lexN (keyN ds c') (keyN ds c) = false
theorem IsChoice.uniq {n : Net} {k g : Nat} {ds c c' : List Nat} (h : IsChoice n k ds g c) (h' : IsChoice n k ds g c') : c = c' := keyN_inj (lex_tri _ _ (h'.low _ h.lc) (h.low _ h'.lc))
end
end K80
set_option Elab.async false
set_option linter.all false
set_option maxRecDepth 100000
set_option maxHeartbeats 4000000
namespace K80
open PySem PySem.Spec PyProof.Rows L2 GX
open C8 (Cal pe_c pe_gc Met Mak)
-- @dict CHANGES
-- @no CHANGES 0 ""
-- @no CHANGES 1 "0"
-- @no CHANGES 2 "way"
-- @no CHANGES 3 "Kind"
-- @no CHANGES 4 "leads"
-- @dict QUESTIONS
-- @no QUESTIONS 0 "gate"
-- @no QUESTIONS 1 "kind"
-- @no QUESTIONS 2 "lead"
-- @no QUESTIONS 3 "less"
-- @no QUESTIONS 4 "outs"
-- @exc NoText
-- @exc NoDepth
-- @exc TooMany
-- @exc NoMatch
-- @exc NoChange made
-- @exc NoRow made
-- @sub NoChange NoChange true
-- @sub NoRow NoRow true
-- @sub NoRow ValueError true
-- @sub NoRow NoText false
-- @sub NoRow NoDepth false
-- @sub NoRow TooMany false
-- @sub NoRow NoMatch false
-- @sub NoRow NoChange false
-- @cls Keeper k:i,held:N,kept:t[t[t[i]]]
-- @cls Desk keeper:OKeeper
-- @alt rises list par=l[i]
-- @alt cut_masks tup par=N,t[i],i vars=masks:DL,wire:i
-- @alt one_deeper tup par=t[i],t[i]
-- @alt _law_written tup par=t[i],s
section
variable {P : Program} {w : World} {K : PySem.W.Frag} {mg : Str → Option Value} {base : Heap} {Ts : List Addr}
/-- how far the lean cover is found, from behind -/
structure LeanTo (n : Net) (cv : List Tb) (i : Nat) (S : Nat → Prop) : Prop where
  ask : ∀ x, S x ↔ (x ∈ n.outs ∨ ∃ t ∈ cv.drop (cv.length - i), Need n cv t.1 ∧ x ∈ t.2)
theorem LeanTo.here {n : Net} {k : Nat} {cv : List Tb} {i : Nat} {S : Nat → Prop} {t : Tb} (c : CovOk n k cv) (h : LeanTo n cv i S) (hi : i < cv.length) (ht : cv[cv.length - 1 - i]? = some t) : S t.1 ↔ Need n cv t.1 := by
  have htm := List.mem_of_getElem? ht
  have hg := (c.gt t htm).1
  rw [h.ask]
  refine ⟨fun z => ?_, fun z => ?_⟩
  · rcases z with z | ⟨u, hu, hn, hx⟩
    · exact .out z hg
    · exact .step (List.mem_of_mem_drop hu) hn hx hg
  · generalize hx : t.1 = x at z
    cases z with
    | out z _ => exact .inl z
    | @step u _ hu hn hx' _ =>
      refine .inr ⟨u, ?_, hn, hx'⟩
      have lt := (c.cut u hu).1.lt _ hx'
      obtain ⟨j, hj⟩ := List.getElem?_of_mem hu
      have hjl := (List.getElem?_eq_some_iff.mp hj).1
      have hji : ¬ (j < cv.length - i) := fun hlt => by
        by_cases e : j = cv.length - 1 - i
        · rw [e, ht] at hj
          cases hj
          omega
        · have h1 : cv.length - 1 - i < cv.length := by omega
          have := List.pairwise_iff_getElem.mp c.rise j (cv.length - 1 - i) hjl h1 (by omega)
          rw [List.getElem?_eq_getElem hjl] at hj
          rw [List.getElem?_eq_getElem h1] at ht
          rw [Option.some.inj hj, Option.some.inj ht] at this
          omega
      refine List.mem_of_getElem? (i := j - (cv.length - i)) ?_
      rw [List.getElem?_drop, show cv.length - i + (j - (cv.length - i)) = j by omega]
      exact hj
end
section
variable {P : Program} {w : World} {K : PySem.W.Frag} {mg : Str → Option Value} {base : Heap} {Ts : List Addr}
/-- the choices of all gates -/
structure ChoicesOf (n : Net) (k : Nat) (ds : List Nat) (cv : List Tb) : Prop where
  len : cv.length = n.gates.length
  at_ : ∀ (i : Nat) (t : Tb), cv[i]? = some t → t.1 = n.many + i ∧ IsChoice n k ds (n.many + i) t.2
theorem ChoicesOf.mem {n : Net} {k : Nat} {ds : List Nat} {cv : List Tb} (h : ChoicesOf n k ds cv) {t : Tb} (ht : t ∈ cv) : n.many ≤ t.1 ∧ t.1 < n.many + n.gates.length ∧ IsChoice n k ds t.1 t.2 := by
  obtain ⟨i, hi⟩ := List.getElem?_of_mem ht
  have hl := (List.getElem?_eq_some_iff.mp hi).1
  have hl2 := h.len
  obtain ⟨e, c⟩ := h.at_ i t hi
  rw [e]
  exact ⟨by omega, by omega, c⟩
theorem ChoicesOf.get {n : Net} {k : Nat} {ds : List Nat} {cv : List Tb} (h : ChoicesOf n k ds cv) {x : Nat} (h1 : n.many ≤ x) (h2 : x < n.many + n.gates.length) : ∃ t ∈ cv, t.1 = x := by
  have hl2 := h.len
  have hi : x - n.many < cv.length := by omega
  refine ⟨cv[x - n.many], List.getElem_mem hi, ?_⟩
  have := (h.at_ (x - n.many) _ (List.getElem?_eq_getElem hi)).1
  omega
theorem ChoicesOf.ok {n : Net} (ok : n.Ok) {k : Nat} {ds : List Nat} {cv : List Tb} (h : ChoicesOf n k ds cv) : CovOk n k cv := by
  refine ⟨?_, fun t ht => ⟨(h.mem ht).1, (h.mem ht).2.1⟩, fun t ht => ?_, fun o ho hm => h.get hm (ok.os o ho), fun t ht x hx hm => ?_⟩
  · rw [List.pairwise_iff_getElem]
    intro i j hi hj hij
    have e1 := (h.at_ i _ (List.getElem?_eq_getElem hi)).1
    have e2 := (h.at_ j _ (List.getElem?_eq_getElem hj)).1
    omega
  · obtain ⟨h1, h2, c⟩ := h.mem ht
    refine ⟨⟨Nat.pos_of_ne_zero fun z => ?_, c.lc.lt, c.lc.sep, c.lc.rise⟩, c.lc.len⟩
    have hs := c.lc.sep
    rw [List.length_eq_zero_iff.mp z] at hs
    exact sep_none ok _ _ (Nat.le_refl _) (by omega) hs
  · obtain ⟨h1, h2, c⟩ := h.mem ht
    have := c.lc.lt x hx
    exact h.get hm (by omega)
theorem ChoicesOf.uniq {n : Net} {k : Nat} {ds : List Nat} {cv cv' : List Tb} (h : ChoicesOf n k ds cv) (h' : ChoicesOf n k ds cv') : cv = cv' := by
  refine List.ext_getElem (by rw [h.len, h'.len]) fun i h1 h2 => ?_
  obtain ⟨a1, a2⟩ := h.at_ i _ (List.getElem?_eq_getElem h1)
  obtain ⟨b1, b2⟩ := h'.at_ i _ (List.getElem?_eq_getElem h2)
  exact Prod.ext (by rw [a1, b1]) (a2.uniq b2)
end
end K80
set_option Elab.async false
set_option linter.all false
set_option maxRecDepth 100000
set_option maxHeartbeats 4000000
namespace K80
open PySem PySem.Spec PyProof.Rows L2 GX
open C8 (Cal pe_c pe_gc Met Mak)
-- @dict CHANGES
-- @no CHANGES 0 ""
-- @no CHANGES 1 "0"
-- @no CHANGES 2 "way"
-- @no CHANGES 3 "Kind"
-- @no CHANGES 4 "leads"
-- @dict QUESTIONS
-- @no QUESTIONS 0 "gate"
-- @no QUESTIONS 1 "kind"
-- @no QUESTIONS 2 "lead"
-- @no QUESTIONS 3 "less"
-- @no QUESTIONS 4 "outs"
-- @exc NoText
-- @exc NoDepth
-- @exc TooMany
-- @exc NoMatch
-- @exc NoChange made
-- @exc NoRow made
-- @sub NoChange NoChange true
-- @sub NoRow NoRow true
-- @sub NoRow ValueError true
-- @sub NoRow NoText false
-- @sub NoRow NoDepth false
-- @sub NoRow TooMany false
-- @sub NoRow NoMatch false
-- @sub NoRow NoChange false
-- @cls Keeper k:i,held:N,kept:t[t[t[i]]]
-- @cls Desk keeper:OKeeper
-- @alt rises list par=l[i]
-- @alt cut_masks tup par=N,t[i],i vars=masks:DL,wire:i
-- @alt one_deeper tup par=t[i],t[i]
-- @alt _law_written tup par=t[i],s
section
variable {P : Program} {w : World} {K : PySem.W.Frag} {mg : Str → Option Value} {base : Heap} {Ts : List Addr} {PL : Addr}
/-- a keeper of the net n, by k -/
structure KeepAt (C : Addr) (H : Hp) (kp a p : Addr) (n : Net) (k : Nat) (g o : Addr) (ps qs : List Addr) : Prop where
  ins : ∃ dx, H kp = some (.ins C dx (putF "kept" (.ref p) (putF "held" (.ref a) (putF "k" (nV k) []))))
  net : NetAt H a n g o ps
  kept : H p = some (.tup (qs.map V.ref))
  cuts : PtsAt (CutsTold n k) H qs (List.range (n.many + n.gates.length))
theorem KeepAt.mono {C : Addr} {H H' : Hp} {kp a p : Addr} {n : Net} {k : Nat} {g o : Addr} {ps qs : List Addr} (x : KeepAt C H kp a p n k g o ps qs) (m : ∀ b u, H b = some u → (∀ ps, u ≠ .tbl ps) → (∀ xs, u ≠ .lst xs) → H' b = some u) : KeepAt C H' kp a p n k g o ps qs := by
  obtain ⟨dx, e⟩ := x.ins
  have tu : ∀ b xs, H b = some (.tup xs) → H' b = some (.tup xs) := fun b xs e => m _ _ e (fun _ z => by cases z) (fun _ z => by cases z)
  exact ⟨⟨dx, m _ _ e (fun _ z => by cases z) (fun _ z => by cases z)⟩, x.net.mono tu, tu _ _ x.kept, x.cuts.mono fun q y h => h.mono tu⟩
structure KCls (K : PySem.W.Frag) (C : Addr) : Prop where
  cl : Cls K C
  k : NoAttr K C "k"
  h : NoAttr K C "held"
  p : NoAttr K C "kept"
def spKNet (C : Addr) : Sp := fun vs H Q _ => ∃ (kp a p : Addr) (n : Net) (k : Nat) (g o : Addr) (ps qs : List Addr), vs = [.ref kp] ∧ KeepAt C H kp a p n k g o ps qs ∧ Q (.ref a) H
theorem ok_knet {C f c : Addr} (D : Mtd K C "net" "Keeper.net" s_Keeper_net f c) (T : Txt mg) (kc : KCls K C) : Met P w K mg base 1 C "net" (spKNet C) [] := by
  refine met D (fun _ _ _ _ _ _ us hl => match us, hl with | [_], _ => rfl) sc_Keeper_net (fun vs H Q E h => ?_) (fun A outer s H vs Q E hr h => ?_)
  · obtain ⟨kp, a, p, n, k, g, o, ps, qs, rfl, _⟩ := h
    rfl
  · obtain ⟨kp, a, p, n, k, g, o, ps, qs, rfl, x, q⟩ := h
    obtain ⟨dx, e⟩ := x.ins
    refine ⟨_, (pss_one (ps_ret (pe_fld (pv 0) rfl))), ?_⟩
    exact ⟨_, rfl, kp, C, dx, _, _, rfl, e, kc.cl, kc.h, rfl, q⟩
def spKInit (Ts : List Addr) (C : Addr) : Sp := fun vs H Q _ => ∃ (kp dx a : Addr) (n : Net) (g o : Addr) (ps : List Addr) (k : Nat), vs = [.ref kp, .ref a, nV k] ∧ H kp = some (.ins C dx []) ∧ NetAt H a n g o ps ∧ n.Ok ∧ 2 ≤ k ∧ k ≤ 1000 ∧ Tabs Ts H ∧
  ∀ p H' (qs : List Addr), KeepAt C H' kp a p n k g o ps qs → Tabs Ts H' → (∀ b u, b ≠ kp → b ∉ Ts → H b = some u → H' b = some u) → Q .non H'
theorem ok_kinit {C f c : Addr} (D : Mtd K C "__init__" "Keeper.__init__" s_Keeper___init__ f c) (T : Txt mg) (kc : KCls K C) (hm : mg "Keeper" = some (.ref C)) (mk : PySem.W.makesIn K C = true) (kp : PySem.W.keepIn K (.ref C) = true) (c_all_cuts : Cal P w K mg base 4 "all_cuts" (spAllCuts Ts) []) : Mak P w K mg base 5 "Keeper" C (spKInit Ts C) [] := by
  refine mak D hm mk kp (fun _ _ _ _ _ _ us hl => match us, hl with | [_, _, _], _ => rfl) sc_Keeper___init__ (fun vs H Q E h => ?_) (fun A outer s H vs Q E hr h => ?_)
  · obtain ⟨kp, dx, a, n, g, o, ps, k, rfl, _⟩ := h
    rfl
  · obtain ⟨kp, dx, a, n, g, o, ps, k, rfl, e, N, ok, hk2, hk, tb, q⟩ := h
    refine ⟨_, (pss_cons (ps_fld (pv 0) (pv 2) rfl)
      (pss_cons (ps_fld (pv 0) (pv 1) rfl)
      (pss_one (ps_fld (pv 0) (pe_c c_all_cuts hr (by decide) (by rfl) (pa_cons (pv 1) (pa_cons (pv 2) pa_nil))) rfl)))), ?_⟩
    refine ⟨_, rfl, _, rfl, kp, C, dx, [], rfl, e, kc.cl, kc.k, by decide, ?_⟩
    refine ⟨_, rfl, _, rfl, kp, C, dx, _, rfl, upd_same, kc.cl, kc.h, (show 1 < 1000 by decide), ?_⟩
    have kT : kp ∉ Ts := tb.nott e fun _ z => by cases z
    have up : ∀ {H' : Hp} {u : HO}, (∀ b xs, H b = some (.tup xs) → H' b = some (.tup xs)) → (∀ b xs, H b = some (.tup xs) → upd H' kp u b = some (.tup xs)) := fun {H' u} m b xs eb => by
      rw [upd_ne (fun z => by rw [z, e] at eb; cases eb)]
      exact m b xs eb
    have m2 : ∀ b xs, H b = some (.tup xs) → upd (upd H kp (.ins C dx (putF "k" (nV k) []))) kp (.ins C dx (putF "held" (.ref a) (putF "k" (nV k) []))) b = some (.tup xs) := up (up fun _ _ e => e)
    have N2 := N.mono m2
    have tb2 : Tabs Ts (upd (upd H kp (.ins C dx (putF "k" (nV k) []))) kp (.ins C dx (putF "held" (.ref a) (putF "k" (nV k) [])))) := (tb.upd kT).upd kT
    have e2 : upd (upd H kp (.ins C dx (putF "k" (nV k) []))) kp (.ins C dx (putF "held" (.ref a) (putF "k" (nV k) []))) kp = some (.ins C dx (putF "held" (.ref a) (putF "k" (nV k) []))) := upd_same
    have o2 : ∀ b u, b ≠ kp → H b = some u → upd (upd H kp (.ins C dx (putF "k" (nV k) []))) kp (.ins C dx (putF "held" (.ref a) (putF "k" (nV k) []))) b = some u := fun b u nb eb => by rw [upd_ne nb, upd_ne nb]; exact eb
    generalize upd (upd H kp (.ins C dx (putF "k" (nV k) []))) kp (.ins C dx (putF "held" (.ref a) (putF "k" (nV k) []))) = H2 at N2 tb2 e2 o2 ⊢
    refine ⟨_, rfl, _, rfl, a, n, g, o, ps, k, rfl, N2, ok, hk2, hk, tb2, fun p H3 qs a3 hp PQ => ?_⟩
    have e3 := a3.kp _ _ e2 kT
    refine ⟨_, rfl, kp, C, dx, _, rfl, e3, kc.cl, kc.p, (show 2 < 1000 by decide), ?_⟩
    have t4 : ∀ b xs, H3 b = some (.tup xs) → upd H3 kp (.ins C dx (putF "kept" (.ref p) (putF "held" (.ref a) (putF "k" (nV k) [])))) b = some (.tup xs) := fun b xs eb => by
      rw [upd_ne (fun z => by rw [z, e3] at eb; cases eb)]
      exact eb
    refine q p _ qs ⟨⟨dx, upd_same⟩, (N2.aft tb2 a3).mono t4, t4 _ _ hp, PQ.mono fun q y h => h.mono t4⟩ (a3.tb.upd kT) fun b u nb nT eb => ?_
    rw [upd_ne nb]
    exact a3.kp _ _ (o2 b u nb eb) nT
end
section
variable {P : Program} {w : World} {K : PySem.W.Frag} {mg : Str → Option Value} {base : Heap} {Ts : List Addr} {PL : Addr}
/-- all but a keeper and the tables stand -/
structure DoL (Ts : List Addr) (PL kp : Addr) (H H' : Hp) : Prop where
  tb : Tabs Ts H'
  tl : LamX.TabS H' PL lamQ
  kp : ∀ b u, b ≠ kp → b ∉ PL :: Ts → H b = some u → H' b = some u
theorem DoL.refl {kp : Addr} {H : Hp} (tb : Tabs Ts H) (tl : LamX.TabS H PL lamQ) : DoL Ts PL kp H H := ⟨tb, tl, fun _ _ _ _ e => e⟩
theorem DoL.trans {kp : Addr} {H H1 H2 : Hp} (a : DoL Ts PL kp H H1) (b : DoL Ts PL kp H1 H2) : DoL Ts PL kp H H2 := ⟨b.tb, b.tl, fun c u n m e => b.kp c u n m (a.kp c u n m e)⟩
theorem DoL.aft {kp : Addr} {H H1 : Hp} (a : AftL Ts PL lamQ H H1) : DoL Ts PL kp H H1 := ⟨a.tb, a.tl, fun c u _ m e => a.kp c u e m⟩
theorem DoL.kdo {kp C dx : Addr} {fs : List (Str × V)} {H H1 : Hp} (hPL : PL ∉ Ts) (tb : Tabs Ts H) (tl : LamX.TabS H PL lamQ) (e1 : H kp = some (.ins C dx fs)) (tb2 : Tabs Ts H1) (m : ∀ b u, b ≠ kp → b ∉ Ts → H b = some u → H1 b = some u) : DoL Ts PL kp H H1 := by
  refine ⟨tb2, ?_, fun b u n k e => m b u n (fun z => k (List.mem_cons_of_mem _ z)) e⟩
  obtain ⟨ps, h1, h2, h3⟩ := tl
  refine ⟨ps, m _ _ (fun q => by rw [q, e1] at h1; cases h1) hPL h1, h2, fun pos cv hc => ?_⟩
  obtain ⟨c, e2, e3⟩ := h3 pos cv hc
  refine ⟨c, e2, m _ _ (fun q => ?_) (fun q => ?_) e3⟩
  · rw [q, e1] at e3
    unfold LamX.CodeO at e3
    cases e3
  · obtain ⟨ps', z, _⟩ := tb c q
    rw [e3] at z
    exact LamX.codeO_ne ps' (Option.some.inj z)
theorem DoL.obj {kp C dx : Addr} {fs : List (Str × V)} {H H1 : Hp} (d : DoL Ts PL kp H H1) (tb : Tabs Ts H) (tl : LamX.TabS H PL lamQ) (b : Addr) (u : HO) (n : b ≠ kp) (e : H b = some u) (n1 : ∀ ps, u ≠ .tbl ps) : H1 b = some u := d.kp b u n (fun z => by
  rcases List.mem_cons.mp z with z | z
  · obtain ⟨ps, h, _⟩ := tl
    rw [z, h] at e
    exact n1 _ (Option.some.inj e).symm
  · exact tb.nott e n1 z) e
theorem DoL.tup {kp C dx : Addr} {fs : List (Str × V)} {H H1 : Hp} (d : DoL Ts PL kp H H1) (tb : Tabs Ts H) (tl : LamX.TabS H PL lamQ) (ek : H kp = some (.ins C dx fs)) : ∀ b xs, H b = some (.tup xs) → H1 b = some (.tup xs) := fun b xs e => d.obj (C := C) (dx := dx) (fs := fs) tb tl b _ (fun z => by rw [z, ek] at e; cases e) e fun _ z => by cases z
theorem DoL.lst {kp C dx : Addr} {fs : List (Str × V)} {H H1 : Hp} (d : DoL Ts PL kp H H1) (tb : Tabs Ts H) (tl : LamX.TabS H PL lamQ) (ek : H kp = some (.ins C dx fs)) : ∀ b xs, H b = some (.lst xs) → H1 b = some (.lst xs) := fun b xs e => d.obj (C := C) (dx := dx) (fs := fs) tb tl b _ (fun z => by rw [z, ek] at e; cases e) e fun _ z => by cases z
end
end K80
set_option Elab.async false
set_option linter.all false
set_option maxRecDepth 100000
set_option maxHeartbeats 4000000
namespace K80
open PySem PySem.Spec PyProof.Rows L2 GX
open C8 (Cal pe_c pe_gc Met Mak)
-- @dict CHANGES
-- @no CHANGES 0 ""
-- @no CHANGES 1 "0"
-- @no CHANGES 2 "way"
-- @no CHANGES 3 "Kind"
-- @no CHANGES 4 "leads"
-- @dict QUESTIONS
-- @no QUESTIONS 0 "gate"
-- @no QUESTIONS 1 "kind"
-- @no QUESTIONS 2 "lead"
-- @no QUESTIONS 3 "less"
-- @no QUESTIONS 4 "outs"
-- @exc NoText
-- @exc NoDepth
-- @exc TooMany
-- @exc NoMatch
-- @exc NoChange made
-- @exc NoRow made
-- @sub NoChange NoChange true
-- @sub NoRow NoRow true
-- @sub NoRow ValueError true
-- @sub NoRow NoText false
-- @sub NoRow NoDepth false
-- @sub NoRow TooMany false
-- @sub NoRow NoMatch false
-- @sub NoRow NoChange false
-- @cls Keeper k:i,held:N,kept:t[t[t[i]]]
-- @cls Desk keeper:OKeeper
-- @alt rises list par=l[i]
-- @alt cut_masks tup par=N,t[i],i vars=masks:DL,wire:i
-- @alt one_deeper tup par=t[i],t[i]
-- @alt _law_written tup par=t[i],s
section
variable {P : Program} {w : World} {K : PySem.W.Frag} {mg : Str → Option Value} {base : Heap} {Ts : List Addr}
def spWhole : Sp := fun vs H Q _ => ∃ v t, vs = [v] ∧ Rep H v t ∧ Q (.bl t.whole) H
theorem ok_whole {f c : Addr} (D : Dfn K mg "is_whole" s_is_whole f c) (T : Txt mg) : Cal P w K mg base 1 "is_whole" spWhole [] := by
  refine cal D (fun _ _ _ _ _ _ us hl => match us, hl with | [_], _ => rfl) sc_is_whole (fun vs H Q E h => ?_) (fun A outer s H vs Q E hr h => ?_)
  · obtain ⟨v, t, rfl, _⟩ := h
    rfl
  · obtain ⟨v, t, rfl, r, q⟩ := h
    refine ⟨_, (pss_one (ps_ret (pe_and (pe_callB call_isi (by rfl) T.b_isinstance (by decide +kernel) (pa_cons (pv 0) (pa_cons (pe_bltn (v := .ty "int") (by rfl) T.b_int (by decide +kernel) rfl) pa_nil))) (pe_one (pe_not (pe_callB call_isi (by rfl) T.b_isinstance (by decide +kernel) (pa_cons (pv 0) (pa_cons (pe_bltn (v := .ty "bool") (by rfl) T.b_bool (by decide +kernel) rfl) pa_nil)))))))), ?_⟩
    refine ⟨_, rfl, _, _, _, _, t.kInt, rfl, .ty "int", tyx r, kit_ty (kInt_ok t), _, rfl, ite2 (fun h1 => ?_) (fun h1 => ?_)⟩
    · refine ⟨_, rfl, _, _, _, _, t.kBool, rfl, .ty "bool", tyx r, kit_ty (kBool_ok t), _, rfl, ?_⟩
      have e : (!t.kBool) = t.whole := by cases t <;> first | rfl | cases h1
      rw [e]
      exact q
    · have e : t.whole = false := by cases t <;> first | rfl | exact absurd rfl h1
      rw [e] at q
      exact q
def spBelow : Sp := fun vs H Q _ => ∃ v t b, vs = [v, .int b] ∧ Rep H v t ∧ Q (.bl (t.isB b)) H
theorem ok_below {f c : Addr} (D : Dfn K mg "is_below" s_is_below f c) (c_is_whole : Cal P w K mg base 1 "is_whole" spWhole []) : Cal P w K mg base 2 "is_below" spBelow [] := by
  refine cal D (fun _ _ _ _ _ _ us hl => match us, hl with | [_, _], _ => rfl) sc_is_below (fun vs H Q E h => ?_) (fun A outer s H vs Q E hr h => ?_)
  · obtain ⟨v, t, b, rfl, _⟩ := h
    rfl
  · obtain ⟨v, t, b, rfl, r, q⟩ := h
    refine ⟨_, (pss_one (ps_ret (pe_and (pe_c c_is_whole hr (by decide) (by rfl) (pa_cons (pv 0) pa_nil)) (pe_one (pe_chain op_le op_lt pe_int (pv 0) (pv 1)))))), ?_⟩
    refine ⟨_, rfl, v, t, rfl, r, _, rfl, ite2 (fun h1 => ?_) (fun h1 => ?_)⟩
    · cases r with
      | int i =>
        refine ⟨_, rfl, _, _, rfl, rfl, _, rfl, ite2 (fun h2 => ?_) (fun h2 => ?_)⟩
        · refine ⟨_, rfl, _, _, rfl, rfl, ?_⟩
          have e : (Th.int i).isB b = decide (i < b) := by
            show (decide (0 ≤ i) && decide (i < b)) = decide (i < b)
            rw [h2, Bool.true_and]
          rw [e] at q
          exact q
        · have e : (Th.int i).isB b = false := by
            show (decide (0 ≤ i) && decide (i < b)) = false
            rw [Bool.eq_false_iff.mpr h2, Bool.false_and]
          rw [e] at q
          exact q
      | _ => cases h1
    · have e : t.isB b = false := by cases t <;> first | rfl | exact absurd rfl h1
      rw [e] at q
      exact q
def spMany : Sp := fun vs H Q _ => ∃ v t, vs = [v] ∧ Rep H v t ∧ Q (.bl t.many) H
theorem ok_many {f c : Addr} (D : Dfn K mg "is_many" s_is_many f c) (T : Txt mg) (c_is_whole : Cal P w K mg base 1 "is_whole" spWhole []) : Cal P w K mg base 2 "is_many" spMany [] := by
  refine cal D (fun _ _ _ _ _ _ us hl => match us, hl with | [_], _ => rfl) sc_is_many (fun vs H Q E h => ?_) (fun A outer s H vs Q E hr h => ?_)
  · obtain ⟨v, t, rfl, _⟩ := h
    rfl
  · obtain ⟨v, t, rfl, r, q⟩ := h
    refine ⟨_, (pss_one (ps_ret (pe_and (pe_c c_is_whole hr (by decide) (by rfl) (pa_cons (pv 0) pa_nil)) (pe_one (pe_chain op_le op_le pe_int (pv 0) (pe_gc (by rfl) T.g_MOST_INPUTS)))))), ?_⟩
    refine ⟨_, rfl, v, t, rfl, r, _, rfl, ite2 (fun h1 => ?_) (fun h1 => ?_)⟩
    · cases r with
      | int i =>
        refine ⟨_, rfl, _, _, rfl, rfl, _, rfl, ite2 (fun h2 => ?_) (fun h2 => ?_)⟩
        · refine ⟨_, _, rfl, rfl, ?_⟩
          have e : (Th.int i).many = decide (i ≤ 8) := by
            show (decide (1 ≤ i) && decide (i ≤ 8)) = decide (i ≤ 8)
            rw [h2, Bool.true_and]
          rw [e] at q
          exact q
        · have e : (Th.int i).many = false := by
            show (decide (1 ≤ i) && decide (i ≤ 8)) = false
            rw [Bool.eq_false_iff.mpr h2, Bool.false_and]
          rw [e] at q
          exact q
      | _ => cases h1
    · have e : t.many = false := by cases t <;> first | rfl | exact absurd rfl h1
      rw [e] at q
      exact q
def spIsGate : Sp := fun vs H Q _ => ∃ v t b, vs = [v, .int b] ∧ Rep H v t ∧ Q (.bl (t.gate b)) H
theorem rep3 {H : Hp} {vs : List V} {ts : List Th} (r : RepAll H vs ts) (h : vs.length = 3) : ∃ a b c x y z, vs = [a, b, c] ∧ ts = [x, y, z] ∧ Rep H a x ∧ Rep H b y ∧ Rep H c z := by
  cases r with
  | nil => cases h
  | cons r1 r =>
    cases r with
    | nil => cases h
    | cons r2 r =>
      cases r with
      | nil => cases h
      | cons r3 r =>
        cases r with
        | nil => exact ⟨_, _, _, _, _, _, rfl, rfl, r1, r2, r3⟩
        | cons _ _ => simp at h
theorem ok_isgate {f c : Addr} (D : Dfn K mg "is_gate" s_is_gate f c) (T : Txt mg) (c_is_below : Cal P w K mg base 2 "is_below" spBelow []) : Cal P w K mg base 3 "is_gate" spIsGate [] := by
  refine cal D (fun _ _ _ _ _ _ us hl => match us, hl with | [_, _], _ => rfl) sc_is_gate (fun vs H Q E h => ?_) (fun A outer s H vs Q E hr h => ?_)
  · obtain ⟨v, t, b, rfl, _⟩ := h
    rfl
  · obtain ⟨v, t, b, rfl, r, q⟩ := h
    refine ⟨_, (pss_cons (ps_if (PW.pt (pw_or (pt_not (pt_val (pe_callB call_isi (by rfl) T.b_isinstance (by decide +kernel) (pa_cons (pv 0) (pa_cons (pe_bltn (v := .ty "tuple") (by rfl) T.b_tuple (by decide +kernel) rfl) pa_nil))))) (pw_or1 (pt_cmpR op_ne (pe_callB call_len_seq (by rfl) T.b_len (by decide +kernel) (pa_cons (pv 0) pa_nil)) pe_int (nomark _))))) (pss_one (ps_ret pe_bl)) pss_nil)
      (pss_cons (ps_asg (pv 0) (pg_tup rfl (pgs_cons (pg_name (i := 2) sc_is_gate.nd rfl (by first | exact Or.inl rfl | exact Or.inr rfl)) (pgs_cons (pg_name (i := 3) sc_is_gate.nd rfl (by first | exact Or.inl rfl | exact Or.inr rfl)) (pgs_cons (pg_name (i := 4) sc_is_gate.nd rfl (by first | exact Or.inl rfl | exact Or.inr rfl)) pgs_nil)))))
      (pss_one (ps_ret (pe_and (pe_c c_is_below hr (by decide) (by rfl) (pa_cons (pv 2) (pa_cons (pe_gc (by rfl) T.g_KINDS) pa_nil))) (pe_and (pe_c c_is_below hr (by decide) (by rfl) (pa_cons (pv 3) (pa_cons (pv 1) pa_nil))) (pe_one (pe_c c_is_below hr (by decide) (by rfl) (pa_cons (pv 4) (pa_cons (pv 1) pa_nil)))))))))), ?_⟩
    refine ⟨_, rfl, _, _, _, _, t.kTup, rfl, .ty "tuple", tyx r, kit_ty (kTup_ok t), _, rfl, ite2 (fun h1 => ?_) (fun h1 => ?_)⟩
    · have e : t.gate b = false := by cases t <;> first | rfl | cases h1
      rw [e] at q
      exact q
    · cases r with
      | @tup a vs ts e ra =>
        refine ⟨_, rfl, a, _, rfl, .inr (SqT.of e), rfl, _, rfl, ite2 (fun h2 => ?_) (fun h2 => ?_)⟩
        · have e : (Th.tup ts).gate b = false := by
            have hl := ra.length
            cases ts with
            | nil => rfl
            | cons x r1 =>
              cases r1 with
              | nil => rfl
              | cons y r2 =>
                cases r2 with
                | nil => rfl
                | cons z r3 =>
                  cases r3 with
                  | nil =>
                    rw [hl] at h2
                    exact absurd h2 (by show ¬ ((!decide (V.int 3 = V.int 3)) = true); decide)
                  | cons _ _ => rfl
          rw [e] at q
          exact q
        · have hl : vs.length = 3 := by
            have := Classical.not_not.mp fun z => h2 (by rw [decide_eq_false z]; rfl)
            have := V.int.inj this
            omega
          obtain ⟨v1, v2, v3, x, y, z, rfl, rfl, r1, r2, r3⟩ := rep3 ra hl
          refine ⟨_, rfl, a, _, rfl, SqT.of e, rfl, _, _, rfl, _, _, rfl, _, _, rfl, rfl, ?_⟩
          have eg : (Th.tup [x, y, z]).gate b = (x.isB 16 && y.isB b && z.isB b) := rfl
          refine ⟨_, rfl, v1, x, 16, rfl, r1, _, rfl, ite2 (fun g1 => ?_) (fun g1 => ?_)⟩
          · refine ⟨_, rfl, _, rfl, v2, y, b, rfl, r2, _, rfl, ite2 (fun g2 => ?_) (fun g2 => ?_)⟩
            · refine ⟨_, rfl, _, rfl, v3, z, b, rfl, r3, ?_⟩
              rw [eg, g1, g2, Bool.true_and, Bool.true_and] at q
              exact q
            · rw [eg, g1, Bool.eq_false_iff.mpr g2, Bool.and_false, Bool.false_and] at q
              exact q
          · rw [eg, Bool.eq_false_iff.mpr g1, Bool.false_and, Bool.false_and] at q
            exact q
      | _ => exact absurd rfl h1
def spAreGates (Ts : List Addr) : Sp := fun vs H Q _ => ∃ v t m, vs = [v, .int m] ∧ Rep H v t ∧ Tabs Ts H ∧ ∀ H', Aft Ts H H' → Q (.bl (t.gates m)) H'
theorem ok_aregates {f c PG' : Addr} (D : Dfn K mg "are_gates" s_are_gates f c) (T : Txt mg) (c_is_gate : Cal P w K mg base 3 "is_gate" spIsGate []) (TB_are_gates : GxR.TabB base mg c PG') (hP : PG' ∈ Ts) : Cal P w K mg base 5 "are_gates" (spAreGates Ts) [] := by
  refine cal D (fun _ _ _ _ _ _ us hl => match us, hl with | [_, _], _ => rfl) sc_are_gates (fun vs H Q E h => ?_) (fun A outer s H vs Q E hr h => ?_)
  · obtain ⟨v, t, m, rfl, _⟩ := h
    rfl
  · obtain ⟨v, t, m, rfl, r, tb, q⟩ := h
    refine ⟨_, (pss_cons (ps_if (PW.pt (pw_or (pt_not (pt_val (pe_callB call_isi (by rfl) T.b_isinstance (by decide +kernel) (pa_cons (pv 0) (pa_cons (pe_bltn (v := .ty "tuple") (by rfl) T.b_tuple (by decide +kernel) rfl) pa_nil))))) (pw_or1 (pt_cmpR op_gt (pe_callB call_len_seq (by rfl) T.b_len (by decide +kernel) (pa_cons (pv 0) pa_nil)) (pe_gc (by rfl) T.g_MOST_GATES) (nomark _))))) (pss_one (ps_ret pe_bl)) pss_nil)
      (pss_one (ps_ret (pe_allG (own := [("at", 2), ("gate", 3)]) hr (by rfl) T.b_all TB_are_gates rfl (gxOk_by (N := ["thing", "many", "at", "gate"]) (sc := defScope s_are_gates) (own := [("at", 2), ("gate", 3)]) (by decide +kernel)) sc_are_gates.nd (pi_enumT (by rfl) T.b_enumerate (pa_cons (pv 0) pa_nil)) (fun _ _ _ _ => (pg_tupK (K := K) (n := 2) rfl rfl (pgs_cons (pg_name (i := 2) sc_are_gates.nd rfl (by first | exact Or.inl rfl | exact Or.inr rfl)) (pgs_cons (pg_name (i := 3) sc_are_gates.nd rfl (by first | exact Or.inl rfl | exact Or.inr rfl)) pgs_nil)))) (fun _ _ _ _ => pts_nil) (fun _ _ _ _ => (pe_c c_is_gate (GX.Room.gx2 hr) (by decide) (by rfl) (pa_cons (pv 3) (pa_cons (pe_op op_add (pv 1) (pv 2)) pa_nil)))))))), ?_⟩
    refine ⟨_, rfl, _, _, _, _, t.kTup, rfl, .ty "tuple", tyx r, kit_ty (kTup_ok t), _, rfl, ite2 (fun h1 => ?_) (fun h1 => ?_)⟩
    · have e : t.gates m = false := by cases t <;> first | rfl | cases h1
      have q' := q H (Aft.refl tb)
      rw [e] at q'
      exact q'
    · cases r with
      | @tup a vs ts e ra =>
        have hl := ra.length
        refine ⟨_, rfl, a, _, rfl, .inr (SqT.of e), _, _, rfl, rfl, _, rfl, ite2 (fun h2 => ?_) (fun h2 => ?_)⟩
        · have h2' := of_decide_eq_true h2
          have e : (Th.tup ts).gates m = false := by
            show (decide (ts.length ≤ 16) && _) = false
            rw [decide_eq_false (by omega), Bool.false_and]
          have q' := q H (Aft.refl tb)
          rw [e] at q'
          exact q'
        · have h2' : ¬ ((vs.length : Int) > 16) := fun z => h2 (decide_eq_true z)
          have eg : (Th.tup ts).gates m = gatesFrom m ts := by
            show (decide (ts.length ≤ 16) && _) = _
            rw [decide_eq_true (by omega), Bool.true_and]
          rw [eg] at q
          refine ⟨_, rfl, a, vs, rfl, SqT.of e, tb PG' hP, fun H2 ht => ?_⟩
          have a2 : Aft Ts H H2 := ⟨Keep.tabbed hP ht, tb.tabbed ht⟩
          refine turns_it (walk_enumT (xs := vs)) (fun i ys H' => gatesFrom m (ts.take i) = true ∧ Aft Ts H H') ⟨rfl, a2⟩ (fun i ys H' _ hp => SqT.of (hp.2.tup tb e)) ?_ ?_
          · rintro i x ys H3 H4 hi ⟨hg, a3⟩ ⟨T', v1, v2, rfl, nT, rfl, e1, e2⟩
            cases e1
            obtain ⟨t2, ht2, r2⟩ := ra.get e2
            have a4 := a3.trans (Aft.new (o := .tup [.int (i : Nat), v2]) a3.tb nT)
            refine ⟨T', _, rfl, SqT.of upd_same, rfl, _, _, rfl, _, _, rfl, rfl, rfl, ?_⟩
            unfold tYes
            refine iteT ?_
            refine ⟨_, rfl, _, rfl, _, rfl, _, _, rfl, rfl, v2, t2, m + i, rfl, r2.mono (KeepT.aft tb a4), ?_⟩
            refine ⟨⟨_, rfl, fun hf => ?_⟩, fun hc => ⟨?_, a4⟩⟩
            · have q' := q _ a4
              rw [gatesFrom_bad ht2 hf] at q'
              exact q'
            · rw [gatesFrom_snoc ht2, hg, V.bl.inj hc]
              rfl
          · rintro ys H3 ⟨hg, a3⟩
            rw [hl, List.take_length] at hg
            have q' := q _ a3
            rw [hg] at q'
            exact q'
      | _ => exact absurd rfl h1
def spAreOuts (Ts : List Addr) : Sp := fun vs H Q _ => ∃ v t m, vs = [v, .int m] ∧ Rep H v t ∧ Tabs Ts H ∧ ∀ H', Aft Ts H H' → Q (.bl (t.outs m)) H'
theorem ok_areouts {f c PO : Addr} (D : Dfn K mg "are_outs" s_are_outs f c) (T : Txt mg) (c_is_below : Cal P w K mg base 2 "is_below" spBelow []) (TB_are_outs : GxR.TabB base mg c PO) (hP : PO ∈ Ts) : Cal P w K mg base 4 "are_outs" (spAreOuts Ts) [] := by
  refine cal D (fun _ _ _ _ _ _ us hl => match us, hl with | [_, _], _ => rfl) sc_are_outs (fun vs H Q E h => ?_) (fun A outer s H vs Q E hr h => ?_)
  · obtain ⟨v, t, m, rfl, _⟩ := h
    rfl
  · obtain ⟨v, t, m, rfl, r, tb, q⟩ := h
    refine ⟨_, (pss_cons (ps_if (PW.pt (pw_or (pt_not (pt_val (pe_callB call_isi (by rfl) T.b_isinstance (by decide +kernel) (pa_cons (pv 0) (pa_cons (pe_bltn (v := .ty "tuple") (by rfl) T.b_tuple (by decide +kernel) rfl) pa_nil))))) (pw_or1 (pt_not (pt_chain op_le op_le pe_int (pe_callB call_len_seq (by rfl) T.b_len (by decide +kernel) (pa_cons (pv 0) pa_nil)) (pe_gc (by rfl) T.g_MOST_OUTS)))))) (pss_one (ps_ret pe_bl)) pss_nil)
      (pss_one (ps_ret (pe_allG (own := [("out", 2)]) hr (by rfl) T.b_all TB_are_outs rfl (gxOk_by (N := ["thing", "count", "out"]) (sc := defScope s_are_outs) (own := [("out", 2)]) (by decide +kernel)) sc_are_outs.nd (pi_tup (pv 0)) (fun _ _ _ _ => (pg_name (i := 2) sc_are_outs.nd rfl (by first | exact Or.inl rfl | exact Or.inr rfl))) (fun _ _ _ _ => pts_nil) (fun _ _ _ _ => (pe_c c_is_below (GX.Room.gx2 hr) (by decide) (by rfl) (pa_cons (pv 2) (pa_cons (pv 1) pa_nil)))))))), ?_⟩
    refine ⟨_, rfl, _, _, _, _, t.kTup, rfl, .ty "tuple", tyx r, kit_ty (kTup_ok t), _, rfl, ite2 (fun h1 => ?_) (fun h1 => ?_)⟩
    · have e : t.outs m = false := by cases t <;> first | rfl | cases h1
      have q' := q H (Aft.refl tb)
      rw [e] at q'
      exact q'
    · cases r with
      | @tup a vs ts e ra =>
        have hl := ra.length
        have no : ¬ (1 ≤ ts.length ∧ ts.length ≤ 8) → Q (.bl false) H := fun hn => by
          have e : (Th.tup ts).outs m = false := by
            show ((decide (1 ≤ ts.length) && decide (ts.length ≤ 8)) && _) = false
            rw [← Bool.decide_and, decide_eq_false hn, Bool.false_and]
          have q' := q H (Aft.refl tb)
          rw [e] at q'
          exact q'
        refine ⟨_, rfl, a, _, rfl, .inr (SqT.of e), _, _, rfl, rfl, _, rfl, ite2 (fun h2 => ?_) (fun h2 => ?_)⟩
        · have h2' := of_decide_eq_true h2
          refine ⟨_, _, rfl, rfl, _, rfl, ite2 (fun h3 => ?_) (fun h3 => ?_)⟩
          · have h3' : ¬ ((vs.length : Int) ≤ 8) := fun z => by
              rw [decide_eq_true z] at h3
              cases h3
            exact no (by omega)
          · have h3' : (vs.length : Int) ≤ 8 := Classical.not_not.mp fun z => h3 (by rw [decide_eq_false z]; rfl)
            have eg : (Th.tup ts).outs m = ts.all (Th.isB m) := by
              show ((decide (1 ≤ ts.length) && decide (ts.length ≤ 8)) && _) = _
              rw [decide_eq_true (by omega), decide_eq_true (by omega)]
              rfl
            rw [eg] at q
            refine ⟨_, rfl, a, rfl, ⟨_, SqT.of e⟩, tb PO hP, fun H2 ht => ?_⟩
            have a2 : Aft Ts H H2 := ⟨Keep.tabbed hP ht, tb.tabbed ht⟩
            refine turns_it (walk_tup (xs := vs)) (fun i ys H' => (ts.take i).all (Th.isB m) = true ∧ Aft Ts H H') ⟨rfl, a2⟩ (fun i ys H' _ hp => SqT.of (hp.2.tup tb e)) ?_ ?_
            · rintro i x ys H3 H4 hi ⟨hg, a3⟩ ⟨rfl, e2⟩
              obtain ⟨t2, ht2, r2⟩ := ra.get e2
              refine ⟨rfl, ?_⟩
              unfold tYes
              refine iteT ?_
              refine ⟨_, rfl, _, rfl, x, t2, m, rfl, r2.mono (KeepT.aft tb a3), ?_⟩
              refine ⟨⟨_, rfl, fun hf => ?_⟩, fun hc => ⟨?_, a3⟩⟩
              · have q' := q _ a3
                have : ts.all (Th.isB m) = false := by
                  rw [List.all_eq_false]
                  exact ⟨t2, List.mem_of_getElem? ht2, by rw [hf]; exact Bool.false_ne_true⟩
                rw [this] at q'
                exact q'
              · rw [List.take_add_one, ht2, List.all_append, hg, Option.toList_some]
                show (true && (t2.isB m && true)) = true
                rw [V.bl.inj hc]
                rfl
            · rintro ys H3 ⟨hg, a3⟩
              rw [hl, List.take_length] at hg
              have q' := q _ a3
              rw [hg] at q'
              exact q'
        · have h2' : ¬ ((1 : Int) ≤ (vs.length : Int)) := fun z => h2 (decide_eq_true z)
          refine ⟨_, rfl, ?_⟩
          exact no (by omega)
      | _ => exact absurd rfl h1
def spIsNet (Ts : List Addr) : Sp := fun vs H Q _ => ∃ v t, vs = [v] ∧ Rep H v t ∧ Tabs Ts H ∧ ∀ H', Aft Ts H H' → Q (.bl t.net) H'
theorem many_int {t : Th} (h : t.many = true) : ∃ i, t = .int i := by
  cases t with
  | int i => exact ⟨i, rfl⟩
  | _ => cases h
theorem gates_tup {t : Th} {m : Int} (h : t.gates m = true) : ∃ ts, t = .tup ts := by
  cases t with
  | tup ts => exact ⟨ts, rfl⟩
  | _ => cases h
theorem ok_isnet {f c : Addr} (D : Dfn K mg "is_net" s_is_net f c) (T : Txt mg) (c_is_many : Cal P w K mg base 2 "is_many" spMany []) (c_are_gates : Cal P w K mg base 5 "are_gates" (spAreGates Ts) []) (c_are_outs : Cal P w K mg base 4 "are_outs" (spAreOuts Ts) []) : Cal P w K mg base 6 "is_net" (spIsNet Ts) [] := by
  refine cal D (fun _ _ _ _ _ _ us hl => match us, hl with | [_], _ => rfl) sc_is_net (fun vs H Q E h => ?_) (fun A outer s H vs Q E hr h => ?_)
  · obtain ⟨v, t, rfl, _⟩ := h
    rfl
  · obtain ⟨v, t, rfl, r, tb, q⟩ := h
    refine ⟨_, (pss_cons (ps_if (PW.pt (pw_or (pt_not (pt_val (pe_callB call_isi (by rfl) T.b_isinstance (by decide +kernel) (pa_cons (pv 0) (pa_cons (pe_bltn (v := .ty "tuple") (by rfl) T.b_tuple (by decide +kernel) rfl) pa_nil))))) (pw_or1 (pt_cmpR op_ne (pe_callB call_len_seq (by rfl) T.b_len (by decide +kernel) (pa_cons (pv 0) pa_nil)) pe_int (nomark _))))) (pss_one (ps_ret pe_bl)) pss_nil)
      (pss_cons (ps_asg (pv 0) (pg_tup rfl (pgs_cons (pg_name (i := 1) sc_is_net.nd rfl (by first | exact Or.inl rfl | exact Or.inr rfl)) (pgs_cons (pg_name (i := 2) sc_is_net.nd rfl (by first | exact Or.inl rfl | exact Or.inr rfl)) (pgs_cons (pg_name (i := 3) sc_is_net.nd rfl (by first | exact Or.inl rfl | exact Or.inr rfl)) pgs_nil)))))
      (pss_one (ps_ret (pe_and (pe_c c_is_many hr (by decide) (by rfl) (pa_cons (pv 1) pa_nil)) (pe_and (pe_c c_are_gates hr (by decide) (by rfl) (pa_cons (pv 2) (pa_cons (pv 1) pa_nil))) (pe_one (pe_c c_are_outs hr (by decide) (by rfl) (pa_cons (pv 3) (pa_cons (pe_op op_add (pv 1) (pe_callB call_len_seq (by rfl) T.b_len (by decide +kernel) (pa_cons (pv 2) pa_nil))) pa_nil)))))))))), ?_⟩
    refine ⟨_, rfl, _, _, _, _, t.kTup, rfl, .ty "tuple", tyx r, kit_ty (kTup_ok t), _, rfl, ite2 (fun h1 => ?_) (fun h1 => ?_)⟩
    · have e : t.net = false := by cases t <;> first | rfl | cases h1
      have q' := q H (Aft.refl tb)
      rw [e] at q'
      exact q'
    · cases r with
      | @tup a vs ts e ra =>
        refine ⟨_, rfl, a, _, rfl, .inr (SqT.of e), rfl, _, rfl, ite2 (fun h2 => ?_) (fun h2 => ?_)⟩
        · have e : (Th.tup ts).net = false := by
            have hl := ra.length
            cases ts with
            | nil => rfl
            | cons x r1 =>
              cases r1 with
              | nil => rfl
              | cons y r2 =>
                cases r2 with
                | nil => rfl
                | cons z r3 =>
                  cases r3 with
                  | nil =>
                    rw [hl] at h2
                    exact absurd h2 (by show ¬ ((!decide (V.int 3 = V.int 3)) = true); decide)
                  | cons _ _ => rfl
          have q' := q H (Aft.refl tb)
          rw [e] at q'
          exact q'
        · have hl : vs.length = 3 := by
            have := Classical.not_not.mp fun z => h2 (by rw [decide_eq_false z]; rfl)
            have := V.int.inj this
            omega
          obtain ⟨v1, v2, v3, x, y, z, rfl, rfl, r1, r2, r3⟩ := rep3 ra hl
          refine ⟨_, rfl, a, _, rfl, SqT.of e, rfl, _, _, rfl, _, _, rfl, _, _, rfl, rfl, ?_⟩
          have eg : (Th.tup [x, y, z]).net = (x.many && y.gates x.val && z.outs (x.val + y.len)) := rfl
          refine ⟨_, rfl, v1, x, rfl, r1, _, rfl, ite2 (fun g1 => ?_) (fun g1 => ?_)⟩
          · obtain ⟨i, rfl⟩ := many_int g1
            cases r1
            refine ⟨_, rfl, _, rfl, v2, y, i, rfl, r2, tb, fun H3 a3 => ⟨_, rfl, ite2 (fun g2 => ?_) (fun g2 => ?_)⟩⟩
            · obtain ⟨ys, rfl⟩ := gates_tup g2
              have r2' := r2.mono (KeepT.aft tb a3)
              cases r2' with
              | @tup a2 vs2 _ e2 ra2 =>
                refine ⟨_, rfl, _, rfl, _, rfl, a2, _, rfl, .inr (SqT.of e2), _, _, rfl, rfl, v3, z, _, rfl, r3.mono (KeepT.aft tb a3), a3.tb, fun H4 a4 => ?_⟩
                have q' := q _ (a3.trans a4)
                have g2' : (Th.tup ys).gates (Th.int i).val = true := g2
                rw [eg, g1, g2', Bool.true_and, Bool.true_and] at q'
                have el : (i + ((vs2.length : Nat) : Int)) = (Th.int i).val + (((Th.tup ys).len : Nat) : Int) := by rw [ra2.length]; rfl
                rw [← el] at q'
                exact q'
            · have q' := q _ a3
              have g2' : y.gates (Th.int i).val = false := Bool.eq_false_iff.mpr g2
              rw [eg, g1, g2', Bool.and_false, Bool.false_and] at q'
              exact q'
          · have q' := q _ (Aft.refl tb)
            rw [eg, Bool.eq_false_iff.mpr g1, Bool.false_and, Bool.false_and] at q'
            exact q'
      | _ => exact absurd rfl h1
end
end K80
set_option Elab.async false
set_option linter.all false
set_option maxRecDepth 100000
set_option maxHeartbeats 4000000
namespace K80
open PySem PySem.Spec PyProof.Rows L2 GX
open C8 (Cal pe_c pe_gc Met Mak)
-- @dict CHANGES
-- @no CHANGES 0 ""
-- @no CHANGES 1 "0"
-- @no CHANGES 2 "way"
-- @no CHANGES 3 "Kind"
-- @no CHANGES 4 "leads"
-- @dict QUESTIONS
-- @no QUESTIONS 0 "gate"
-- @no QUESTIONS 1 "kind"
-- @no QUESTIONS 2 "lead"
-- @no QUESTIONS 3 "less"
-- @no QUESTIONS 4 "outs"
-- @exc NoText
-- @exc NoDepth
-- @exc TooMany
-- @exc NoMatch
-- @exc NoChange made
-- @exc NoRow made
-- @sub NoChange NoChange true
-- @sub NoRow NoRow true
-- @sub NoRow ValueError true
-- @sub NoRow NoText false
-- @sub NoRow NoDepth false
-- @sub NoRow TooMany false
-- @sub NoRow NoMatch false
-- @sub NoRow NoChange false
-- @cls Keeper k:i,held:N,kept:t[t[t[i]]]
-- @cls Desk keeper:OKeeper
-- @alt rises list par=l[i]
-- @alt cut_masks tup par=N,t[i],i vars=masks:DL,wire:i
-- @alt one_deeper tup par=t[i],t[i]
-- @alt _law_written tup par=t[i],s
section
variable {P : Program} {w : World} {K : PySem.W.Frag} {mg : Str → Option Value} {base : Heap} {Ts : List Addr}
/-- a change of a net -/
inductive Chg
  | less | more (k a b : Nat) | outs (os : List Nat) | kind (g k : Nat) | lead (g s x : Nat)
def oldG (n : Net) (g : Nat) : Nat × Nat × Nat := n.gates.getD (g - n.many) (0, 0, 0)
def doN (n : Net) : Chg → Net
  | .less => ⟨n.many, n.gates.take (n.gates.length - 1), n.outs⟩
  | .more k a b => ⟨n.many, n.gates ++ [(k, a, b)], n.outs⟩
  | .outs os => ⟨n.many, n.gates, os⟩
  | .kind g k => ⟨n.many, n.gates.set (g - n.many) (k, (oldG n g).2.1, (oldG n g).2.2), n.outs⟩
  | .lead g s x => ⟨n.many, n.gates.set (g - n.many) (if s = 0 then ((oldG n g).1, x, (oldG n g).2.2) else ((oldG n g).1, (oldG n g).2.1, x)), n.outs⟩
def Chg.Ok (n : Net) : Chg → Prop
  | .less => 0 < n.gates.length ∧ ∀ o ∈ n.outs, o < n.many + (n.gates.length - 1)
  | .more k a b => n.gates.length < 16 ∧ k < 16 ∧ a < n.many + n.gates.length ∧ b < n.many + n.gates.length
  | .outs os => 1 ≤ os.length ∧ os.length ≤ 8 ∧ ∀ x ∈ os, x < n.many + n.gates.length
  | .kind g k => n.many ≤ g ∧ g < n.many + n.gates.length ∧ k < 16
  | .lead g s x => n.many ≤ g ∧ g < n.many + n.gates.length ∧ s < 2 ∧ x < g
def ChgAt (H : Hp) (c : Addr) : Chg → Prop
  | .less => H c = some (.tup [.str "less"])
  | .more k a b => H c = some (.tup [.str "more", nV k, nV a, nV b])
  | .outs os => ∃ oa, H c = some (.tup [.str "outs", .ref oa]) ∧ H oa = some (.tup (os.map nV))
  | .kind g k => H c = some (.tup [.str "kind", nV g, nV k])
  | .lead g s x => H c = some (.tup [.str "lead", nV g, nV s, nV x])
theorem ChgAt.mono {H H' : Hp} (m : ∀ b xs, H b = some (.tup xs) → H' b = some (.tup xs)) {c : Addr} : ∀ {x : Chg}, ChgAt H c x → ChgAt H' c x
  | .less, h => m _ _ h
  | .more .., h => m _ _ h
  | .outs _, ⟨oa, h1, h2⟩ => ⟨oa, m _ _ h1, m _ _ h2⟩
  | .kind .., h => m _ _ h
  | .lead .., h => m _ _ h
theorem oldG_at {n : Net} {g : Nat} (h1 : n.many ≤ g) (h2 : g < n.many + n.gates.length) : n.gates[g - n.many]? = some (oldG n g) := by
  unfold oldG
  rw [List.getD_eq_getElem?_getD, List.getElem?_eq_getElem (by omega)]
  rfl
theorem doN_ok {n : Net} (ok : n.Ok) : ∀ {c : Chg}, c.Ok n → (doN n c).Ok
  | .less, ⟨h1, h2⟩ => by
    refine ⟨ok.m1, ok.m8, ?_, fun i g e => ?_, ok.o1, ok.o8, fun o ho => ?_⟩
    · show (n.gates.take _).length ≤ 16
      rw [List.length_take]
      have := ok.g16
      omega
    · have e' : (n.gates.take (n.gates.length - 1))[i]? = some g := e
      rw [List.getElem?_take] at e'
      split at e'
      · exact ok.gs i g e'
      · cases e'
    · show o < n.many + (n.gates.take (n.gates.length - 1)).length
      rw [List.length_take]
      have := h2 o ho
      omega
  | .more k a b, ⟨h1, h2, h3, h4⟩ => by
    refine ⟨ok.m1, ok.m8, ?_, fun i g e => ?_, ok.o1, ok.o8, fun o ho => ?_⟩
    · show (n.gates ++ _).length ≤ 16
      rw [List.length_append]
      show n.gates.length + 1 ≤ 16
      omega
    · have e' : (n.gates ++ [(k, a, b)])[i]? = some g := e
      by_cases hi : i < n.gates.length
      · rw [List.getElem?_append_left hi] at e'
        exact ok.gs i g e'
      · have hl := (List.getElem?_eq_some_iff.mp e').1
        rw [List.length_append] at hl
        have hl : i < n.gates.length + 1 := hl
        have : i = n.gates.length := by omega
        subst this
        rw [List.getElem?_append_right (Nat.le_refl _), Nat.sub_self] at e'
        cases e'
        exact ⟨h2, h3, h4⟩
    · show o < n.many + (n.gates ++ [(k, a, b)]).length
      rw [List.length_append]
      have := ok.os o ho
      show o < n.many + (n.gates.length + 1)
      omega
  | .outs os, ⟨h1, h2, h3⟩ => ⟨ok.m1, ok.m8, ok.g16, ok.gs, h1, h2, h3⟩
  | .kind g k, ⟨h1, h2, h3⟩ => by
    refine ⟨ok.m1, ok.m8, ?_, fun i g' e => ?_, ok.o1, ok.o8, fun o ho => ?_⟩
    · show (n.gates.set _ _).length ≤ 16
      rw [List.length_set]
      exact ok.g16
    · have e' : (n.gates.set (g - n.many) (k, (oldG n g).2.1, (oldG n g).2.2))[i]? = some g' := e
      by_cases hi : g - n.many = i
      · subst hi
        rw [List.getElem?_set_self (by omega)] at e'
        cases e'
        obtain ⟨_, q1, q2⟩ := ok.gs _ _ (oldG_at h1 h2)
        exact ⟨h3, q1, q2⟩
      · rw [List.getElem?_set_ne hi] at e'
        exact ok.gs i g' e'
    · show o < n.many + (n.gates.set _ _).length
      rw [List.length_set]
      exact ok.os o ho
  | .lead g s x, ⟨h1, h2, h3, h4⟩ => by
    refine ⟨ok.m1, ok.m8, ?_, fun i g' e => ?_, ok.o1, ok.o8, fun o ho => ?_⟩
    · show (n.gates.set _ _).length ≤ 16
      rw [List.length_set]
      exact ok.g16
    · have e' : (n.gates.set (g - n.many) (if s = 0 then ((oldG n g).1, x, (oldG n g).2.2) else ((oldG n g).1, (oldG n g).2.1, x)))[i]? = some g' := e
      by_cases hi : g - n.many = i
      · subst hi
        rw [List.getElem?_set_self (by omega)] at e'
        obtain ⟨q0, q1, q2⟩ := ok.gs _ _ (oldG_at h1 h2)
        by_cases hs : s = 0
        · rw [if_pos hs] at e'
          cases e'
          exact ⟨q0, by show x < n.many + (g - n.many); omega, q2⟩
        · rw [if_neg hs] at e'
          cases e'
          exact ⟨q0, q1, by show x < n.many + (g - n.many); omega⟩
      · rw [List.getElem?_set_ne hi] at e'
        exact ok.gs i g' e'
    · show o < n.many + (n.gates.set _ _).length
      rw [List.length_set]
      exact ok.os o ho
theorem GatesAt.set {H : Hp} {ps : List Addr} {gs : List (Nat × Nat × Nat)} (x : GatesAt H ps gs) {i : Nat} {p : Addr} {k : Nat × Nat × Nat} (h : H p = some (.tup (gV k))) : GatesAt H (ps.set i p) (gs.set i k) := by
  refine ⟨by rw [List.length_set, List.length_set, x.1], fun j q g e1 e2 => ?_⟩
  by_cases hj : i = j
  · subst hj
    have l1 := (List.getElem?_eq_some_iff.mp e1).1
    have l2 := (List.getElem?_eq_some_iff.mp e2).1
    rw [List.length_set] at l1 l2
    rw [List.getElem?_set_self l1] at e1
    rw [List.getElem?_set_self l2] at e2
    cases e1
    cases e2
    exact h
  · rw [List.getElem?_set_ne hj] at e1 e2
    exact x.2 j q g e1 e2
end
section
def Chg.th : Chg → Th
  | .less => .tup [.str "less"]
  | .more k a b => .tup [.str "more", thW k, thW a, thW b]
  | .outs os => .tup [.str "outs", thWs os]
  | .kind g k => .tup [.str "kind", thW g, thW k]
  | .lead g s x => .tup [.str "lead", thW g, thW s, thW x]
/-- a thing that is a change of the net -/
def IsChg (n : Net) (t : Th) : Prop := ∃ c : Chg, c.Ok n ∧ c.th = t
/-- what an action may tell -/
def ActR (n : Net) (u t : Th) : Prop := (t.net = true → IsChg n u) ∧ ∀ c : Chg, c.Ok n → c.th = u → t = thNet (doN n c)
theorem ActR.iff {n : Net} (ok : n.Ok) {u t : Th} (h : ActR n u t) : t.net = true ↔ IsChg n u := ⟨h.1, fun ⟨c, cok, e⟩ => by rw [h.2 c cok e]; exact (doN_ok ok cok).net⟩
def Chg.wd : Chg → Str
  | .less => "less" | .more .. => "more" | .outs _ => "outs" | .kind .. => "kind" | .lead .. => "lead"
theorem Chg.wd_of {c : Chg} {w : Str} {ts : List Th} (h : c.th = .tup (.str w :: ts)) : c.wd = w := by
  cases c <;> (injection h with h; injection h with h1 h2; injection h1)
theorem isB_int {t : Th} {b : Nat} (h : t.isB ((b : Nat) : Int) = true) : ∃ x : Nat, t = thW x ∧ x < b := isB_nat.mp h
theorem gates_set : ∀ {w : Int} {ts : List Th} {j : Nat} {t : Th}, gatesFrom w ts = true → j < ts.length → gatesFrom w (ts.set j t) = t.gate (w + j)
  | _, [], _, _, _, h => absurd h (Nat.not_lt_zero _)
  | w, u :: r, 0, t, h, _ => by
    have h' : (u.gate w && gatesFrom (w + 1) r) = true := h
    rw [Bool.and_eq_true] at h'
    show (t.gate w && gatesFrom (w + 1) r) = t.gate (w + ((0 : Nat) : Int))
    rw [h'.2, Bool.and_true, show w + ((0 : Nat) : Int) = w by omega]
  | w, u :: r, j + 1, t, h, hj => by
    have h' : (u.gate w && gatesFrom (w + 1) r) = true := h
    rw [Bool.and_eq_true] at h'
    show (u.gate w && gatesFrom (w + 1) (r.set j t)) = t.gate (w + ((j + 1 : Nat) : Int))
    rw [h'.1, Bool.true_and, gates_set h'.2 (Nat.lt_of_succ_lt_succ hj), show w + 1 + ((j : Nat) : Int) = w + ((j + 1 : Nat) : Int) by omega]
theorem many_net {n : Net} (ok : n.Ok) : (thN n.many).many = true := by
  have m1 := ok.m1
  have m8 := ok.m8
  show (decide ((1 : Int) ≤ (n.many : Int)) && decide ((n.many : Int) ≤ 8)) = true
  rw [decide_eq_true (by omega), decide_eq_true (by omega)]
  rfl
theorem outs_net {os : List Nat} {b : Nat} : (Th.tup (os.map thN)).outs ((b : Nat) : Int) = true ↔ (1 ≤ os.length ∧ os.length ≤ 8 ∧ ∀ x ∈ os, x < b) := by
  show (decide (1 ≤ (os.map thN).length) && decide ((os.map thN).length ≤ 8) && (os.map thN).all (Th.isB ((b : Nat) : Int))) = true ↔ _
  rw [Bool.and_eq_true, Bool.and_eq_true, decide_eq_true_iff, decide_eq_true_iff, List.length_map, List.all_eq_true]
  constructor
  · rintro ⟨⟨h1, h2⟩, h3⟩
    refine ⟨h1, h2, fun x hx => ?_⟩
    obtain ⟨y, e, hy⟩ := isB_int (h3 _ (List.mem_map.mpr ⟨x, hx, rfl⟩))
    have := thW_inj _ _ (show thW x = thW y from e)
    omega
  · rintro ⟨h1, h2, h3⟩
    refine ⟨⟨h1, h2⟩, fun t ht => ?_⟩
    obtain ⟨x, hx, rfl⟩ := List.mem_map.mp ht
    exact isB_n (Int.ofNat_lt.mpr (h3 x hx))
/-- a gate's place is taken by another thing -/
def putG (n : Net) (x : Nat) (t : Th) : Th := .tup [thN n.many, .tup ((n.gates.map thG).set (x - n.many) t), .tup (n.outs.map thN)]
theorem putG_net {n : Net} (ok : n.Ok) {x : Nat} (h1 : n.many ≤ x) (h2 : x < n.many + n.gates.length) (t : Th) : (putG n x t).net = t.gate ((x : Nat) : Int) := by
  show ((thN n.many).many && (Th.tup ((n.gates.map thG).set (x - n.many) t)).gates (n.many : Int) && (Th.tup (n.outs.map thN)).outs ((n.many : Int) + ((((n.gates.map thG).set (x - n.many) t).length : Nat) : Int))) = _
  have e2 : (Th.tup ((n.gates.map thG).set (x - n.many) t)).gates (n.many : Int) = t.gate ((x : Nat) : Int) := by
    show (decide (((n.gates.map thG).set (x - n.many) t).length ≤ 16) && gatesFrom (n.many : Int) ((n.gates.map thG).set (x - n.many) t)) = _
    rw [gates_set (gates_ok n.gates n.many ok.gs) (by rw [List.length_map]; omega), decide_eq_true (by rw [List.length_set, List.length_map]; exact ok.g16), Bool.true_and]
    congr 1
    omega
  have e3 : (Th.tup (n.outs.map thN)).outs ((n.many : Int) + ((((n.gates.map thG).set (x - n.many) t).length : Nat) : Int)) = true := by
    rw [List.length_set, List.length_map, show (n.many : Int) + ((n.gates.length : Nat) : Int) = ((n.many + n.gates.length : Nat) : Int) by omega]
    exact outs_net.mpr ⟨ok.o1, ok.o8, ok.os⟩
  rw [many_net ok, e2, e3, Bool.true_and, Bool.and_true]
theorem putG_gate {n : Net} {x : Nat} {k : Nat × Nat × Nat} : putG n x (thG k) = thNet ⟨n.many, n.gates.set (x - n.many) k, n.outs⟩ := by
  unfold putG thNet
  rw [List.map_set]
theorem gate_nat {t1 t2 t3 : Th} {w : Nat} (h : (Th.tup [t1, t2, t3]).gate ((w : Nat) : Int) = true) : ∃ k a b : Nat, t1 = thW k ∧ t2 = thW a ∧ t3 = thW b ∧ k < 16 ∧ a < w ∧ b < w := by
  have h' : (t1.isB 16 && t2.isB ((w : Nat) : Int) && t3.isB ((w : Nat) : Int)) = true := h
  rw [Bool.and_eq_true, Bool.and_eq_true] at h'
  obtain ⟨k, e1, l1⟩ := isB_int (b := 16) h'.1.1
  obtain ⟨a, e2, l2⟩ := isB_int h'.1.2
  obtain ⟨b, e3, l3⟩ := isB_int h'.2
  exact ⟨k, a, b, e1, e2, e3, l1, l2, l3⟩
/-- no change: nothing comes of it -/
theorem act_non {n : Net} {u : Th} (h : ¬ IsChg n u) : ActR n u .non := ⟨fun z => (by cases z), fun c cok e => absurd ⟨c, cok, e⟩ h⟩
theorem chg_kind {n : Net} {ts : List Th} (h : IsChg n (.tup (.str "kind" :: ts))) : ∃ g k : Nat, ts = [thW g, thW k] ∧ n.many ≤ g ∧ g < n.many + n.gates.length ∧ k < 16 := by
  obtain ⟨c, cok, e⟩ := h
  have w := Chg.wd_of e
  cases c with
  | kind g k =>
    injection e with e
    injection e with e1 e2
    exact ⟨g, k, e2.symm, cok⟩
  | _ => simp only [Chg.wd] at w; exact absurd w (by decide +kernel)
theorem chg_lead {n : Net} {ts : List Th} (h : IsChg n (.tup (.str "lead" :: ts))) : ∃ g s x : Nat, ts = [thW g, thW s, thW x] ∧ n.many ≤ g ∧ g < n.many + n.gates.length ∧ s < 2 ∧ x < g := by
  obtain ⟨c, cok, e⟩ := h
  have w := Chg.wd_of e
  cases c with
  | lead g s x =>
    injection e with e
    injection e with e1 e2
    exact ⟨g, s, x, e2.symm, cok⟩
  | _ => simp only [Chg.wd] at w; exact absurd w (by decide +kernel)
theorem chg_less {n : Net} {ts : List Th} (h : IsChg n (.tup (.str "less" :: ts))) : ts = [] ∧ 0 < n.gates.length ∧ ∀ o ∈ n.outs, o < n.many + (n.gates.length - 1) := by
  obtain ⟨c, cok, e⟩ := h
  have w := Chg.wd_of e
  cases c with
  | less =>
    injection e with e
    injection e with e1 e2
    exact ⟨e2.symm, cok⟩
  | _ => simp only [Chg.wd] at w; exact absurd w (by decide +kernel)
theorem chg_outs {n : Net} {ts : List Th} (h : IsChg n (.tup (.str "outs" :: ts))) : ∃ os : List Nat, ts = [thWs os] ∧ 1 ≤ os.length ∧ os.length ≤ 8 ∧ ∀ x ∈ os, x < n.many + n.gates.length := by
  obtain ⟨c, cok, e⟩ := h
  have w := Chg.wd_of e
  cases c with
  | outs os =>
    injection e with e
    injection e with e1 e2
    exact ⟨os, e2.symm, cok⟩
  | _ => simp only [Chg.wd] at w; exact absurd w (by decide +kernel)
/-- a change is a tuple with one of the words -/
theorem chg_top {n : Net} {t : Th} (h : IsChg n t) : ∃ w ts, t = .tup (.str w :: ts) ∧ w ∈ (["kind", "lead", "more", "less", "outs"] : List Str) := by
  obtain ⟨c, _, rfl⟩ := h
  cases c <;> exact ⟨_, _, rfl, by simp⟩
theorem act_kind {n : Net} (ok : n.Ok) {x : Nat} (h1 : n.many ≤ x) (h2 : x < n.many + n.gates.length) (t : Th) : ActR n (.tup [.str "kind", thW x, t]) (putG n x (.tup [t, thN (oldG n x).2.1, thN (oldG n x).2.2])) := by
  obtain ⟨_, o1, o2⟩ := ok.gs _ _ (oldG_at h1 h2)
  refine ⟨fun h => ?_, fun c cok e => ?_⟩
  · rw [putG_net ok h1 h2] at h
    obtain ⟨k, a, b, e1, _, _, l1, _, _⟩ := gate_nat h
    exact ⟨.kind x k, ⟨h1, h2, l1⟩, by rw [e1]; rfl⟩
  · obtain ⟨g, k, e2, _⟩ := chg_kind ⟨c, cok, e⟩
    have w := Chg.wd_of e
    cases c with
    | kind g k =>
      injection e with e
      injection e with e1 e2
      injection e2 with e2 e3
      injection e3 with e3 _
      have := thW_inj _ _ e2
      subst this
      subst e3
      exact putG_gate (k := (k, (oldG n g).2.1, (oldG n g).2.2))
    | _ => simp only [Chg.wd] at w; exact absurd w (by decide +kernel)
theorem act_lead {n : Net} (ok : n.Ok) {x s : Nat} (h1 : n.many ≤ x) (h2 : x < n.many + n.gates.length) (hs : s < 2) (t : Th) : ActR n (.tup [.str "lead", thW x, thW s, t]) (putG n x (if s = 0 then .tup [thN (oldG n x).1, t, thN (oldG n x).2.2] else .tup [thN (oldG n x).1, thN (oldG n x).2.1, t])) := by
  obtain ⟨_, o1, o2⟩ := ok.gs _ _ (oldG_at h1 h2)
  refine ⟨fun h => ?_, fun c cok e => ?_⟩
  · rw [putG_net ok h1 h2] at h
    by_cases z : s = 0
    · rw [if_pos z] at h
      obtain ⟨k, a, b, _, e1, _, _, l1, _⟩ := gate_nat h
      exact ⟨.lead x s a, ⟨h1, h2, hs, l1⟩, by rw [e1]; rfl⟩
    · rw [if_neg z] at h
      obtain ⟨k, a, b, _, _, e1, _, _, l1⟩ := gate_nat h
      exact ⟨.lead x s b, ⟨h1, h2, hs, l1⟩, by rw [e1]; rfl⟩
  · have w := Chg.wd_of e
    cases c with
    | lead g s' x' =>
      injection e with e
      injection e with e1 e2
      injection e2 with e2 e3
      injection e3 with e3 e4
      injection e4 with e4 _
      have := thW_inj _ _ e2
      subst this
      have := thW_inj _ _ e3
      subst this
      subst e4
      by_cases z : s' = 0
      · rw [if_pos z]
        refine (putG_gate (k := ((oldG n g).1, x', (oldG n g).2.2))).trans ?_
        show _ = thNet ⟨n.many, n.gates.set _ (if s' = 0 then _ else _), n.outs⟩
        rw [if_pos z]
      · rw [if_neg z]
        refine (putG_gate (k := ((oldG n g).1, (oldG n g).2.1, x'))).trans ?_
        show _ = thNet ⟨n.many, n.gates.set _ (if s' = 0 then _ else _), n.outs⟩
        rw [if_neg z]
    | _ => simp only [Chg.wd] at w; exact absurd w (by decide +kernel)
theorem act_more {n : Net} (ok : n.Ok) (ts : List Th) : ActR n (.tup (.str "more" :: ts)) (.tup [thN n.many, .tup (n.gates.map thG ++ [Th.tup ts]), .tup (n.outs.map thN)]) := by
  refine ⟨fun h => ?_, fun c cok e => ?_⟩
  · have h' : ((thN n.many).many && (Th.tup (n.gates.map thG ++ [Th.tup ts])).gates (n.many : Int) && (Th.tup (n.outs.map thN)).outs ((n.many : Int) + (((n.gates.map thG ++ [Th.tup ts]).length : Nat) : Int))) = true := h
    rw [Bool.and_eq_true, Bool.and_eq_true] at h'
    have hg : (decide ((n.gates.map thG ++ [Th.tup ts]).length ≤ 16) && gatesFrom (n.many : Int) (n.gates.map thG ++ [Th.tup ts])) = true := h'.1.2
    rw [Bool.and_eq_true, decide_eq_true_iff, List.length_append, List.length_map] at hg
    have hl : n.gates.length + 1 ≤ 16 := hg.1
    have hlast := gatesFrom_snoc (w := (n.many : Int)) (ts := n.gates.map thG ++ [Th.tup ts]) (i := n.gates.length) (t := Th.tup ts) (by rw [List.getElem?_append_right (by rw [List.length_map]; exact Nat.le_refl _), List.length_map, Nat.sub_self]; rfl)
    rw [List.take_of_length_le (by rw [List.length_append, List.length_map]; exact Nat.le_refl _), hg.2] at hlast
    have hx := (Bool.and_eq_true_iff.mp hlast.symm).2
    rw [show (n.many : Int) + ((n.gates.length : Nat) : Int) = ((n.many + n.gates.length : Nat) : Int) by omega] at hx
    match ts, hx with
    | [t1, t2, t3], hx =>
      obtain ⟨k, a, b, e1, e2, e3, l1, l2, l3⟩ := gate_nat hx
      exact ⟨.more k a b, ⟨by omega, l1, l2, l3⟩, by rw [e1, e2, e3]; rfl⟩
    | [], hx => cases hx
    | [_], hx => cases hx
    | [_, _], hx => cases hx
    | _ :: _ :: _ :: _ :: _, hx => cases hx
  · have w := Chg.wd_of e
    cases c with
    | more k a b =>
      injection e with e
      injection e with e1 e2
      rw [← e2]
      show _ = Th.tup [thN n.many, .tup ((n.gates ++ [(k, a, b)]).map thG), .tup (n.outs.map thN)]
      rw [List.map_append]
      rfl
    | _ => simp only [Chg.wd] at w; exact absurd w (by decide +kernel)
theorem act_less {n : Net} (ok : n.Ok) (h0 : 0 < n.gates.length) : ActR n (.tup [.str "less"]) (.tup [thN n.many, .tup ((n.gates.map thG).take (n.gates.length - 1)), .tup (n.outs.map thN)]) := by
  refine ⟨fun h => ?_, fun c cok e => ?_⟩
  · have h' : ((thN n.many).many && (Th.tup ((n.gates.map thG).take (n.gates.length - 1))).gates (n.many : Int) && (Th.tup (n.outs.map thN)).outs ((n.many : Int) + ((((n.gates.map thG).take (n.gates.length - 1)).length : Nat) : Int))) = true := h
    rw [Bool.and_eq_true] at h'
    have ho := h'.2
    rw [List.length_take, List.length_map, Nat.min_eq_left (by omega), show (n.many : Int) + ((n.gates.length - 1 : Nat) : Int) = ((n.many + (n.gates.length - 1) : Nat) : Int) by omega] at ho
    exact ⟨.less, ⟨h0, (outs_net.mp ho).2.2⟩, rfl⟩
  · have w := Chg.wd_of e
    cases c with
    | less =>
      show _ = Th.tup [thN n.many, .tup ((n.gates.take (n.gates.length - 1)).map thG), .tup (n.outs.map thN)]
      rw [List.map_take]
    | _ => simp only [Chg.wd] at w; exact absurd w (by decide +kernel)
theorem act_outs {n : Net} (ok : n.Ok) (t : Th) : ActR n (.tup [.str "outs", t]) (.tup [thN n.many, .tup (n.gates.map thG), t]) := by
  refine ⟨fun h => ?_, fun c cok e => ?_⟩
  · have h' : ((thN n.many).many && (Th.tup (n.gates.map thG)).gates (n.many : Int) && t.outs ((n.many : Int) + (((n.gates.map thG).length : Nat) : Int))) = true := h
    rw [Bool.and_eq_true, List.length_map, show (n.many : Int) + ((n.gates.length : Nat) : Int) = ((n.many + n.gates.length : Nat) : Int) by omega] at h'
    obtain ⟨os, e, l1, l2, l3⟩ := outs_iff.mp h'.2
    exact ⟨.outs os, ⟨l1, l2, l3⟩, by rw [e]; rfl⟩
  · have w := Chg.wd_of e
    cases c with
    | outs os =>
      injection e with e
      injection e with e1 e2
      injection e2 with e2 _
      rw [← e2]
      rfl
    | _ => simp only [Chg.wd] at w; exact absurd w (by decide +kernel)
end
section
variable {P : Program} {w : World} {K : PySem.W.Frag} {mg : Str → Option Value} {base : Heap} {Ts : List Addr}
def spHasGate : Sp := fun vs H Q _ => ∃ (a : Addr) (n : Net) (g o : Addr) (ps : List Addr) (v : V) (t : Th), vs = [.ref a, v] ∧ NetAt H a n g o ps ∧ Rep H v t ∧ ∀ b : Bool, (b = true ↔ ∃ x : Nat, t = thW x ∧ n.many ≤ x ∧ x < n.many + n.gates.length) → Q (.bl b) H
theorem ok_hasgate {f c : Addr} (D : Dfn K mg "has_gate" s_has_gate f c) (T : Txt mg) (c_is_below : Cal P w K mg base 2 "is_below" spBelow []) (c_wires_in : Cal P w K mg base 1 "wires_in" spWires []) : Cal P w K mg base 3 "has_gate" spHasGate [] := by
  refine cal D (fun _ _ _ _ _ _ us hl => match us, hl with | [_, _], _ => rfl) sc_has_gate (fun vs H Q E h => ?_) (fun A outer s H vs Q E hr h => ?_)
  · obtain ⟨a, n, g, o, ps, v, t, rfl, _⟩ := h
    rfl
  · obtain ⟨a, n, g, o, ps, v, t, rfl, N, r, q⟩ := h
    refine ⟨_, (pss_one (ps_ret (pe_and (pe_c c_is_below hr (by decide) (by rfl) (pa_cons (pv 1) (pa_cons (pe_c c_wires_in hr (by decide) (by rfl) (pa_cons (pv 0) pa_nil)) pa_nil))) (pe_one (pe_cmpR op_ge (pv 1) (pe_ix ix_tup (pv 0) pe_int (fun _ _ => rfl)) (nomark _)))))), ?_⟩
    refine ⟨_, rfl, _, rfl, a, n, g, o, ps, rfl, N, v, t, _, rfl, r, _, rfl, ite2 (fun h1 => ?_) (fun h1 => ?_)⟩
    · obtain ⟨x, rfl, lt⟩ := isB_nat.mp h1
      unfold thW at r
      cases r
      refine ⟨_, rfl, _, rfl, a, _, 0, _, rfl, rfl, SqT.of N.top, at0, _, _, rfl, rfl, ?_⟩
      refine q _ (decide_eq_true_iff.trans ⟨fun z => ⟨x, rfl, by omega, lt⟩, fun ⟨y, e, h2, _⟩ => ?_⟩)
      have := thW_inj _ _ e
      show ((x : Nat) : Int) ≥ ((n.many : Nat) : Int)
      omega
    · exact q false ⟨fun z => (by cases z), fun ⟨x, e, _, lt⟩ => (h1 (isB_nat.mpr ⟨x, e, lt⟩)).elim⟩
end
section
variable {P : Program} {w : World} {K : PySem.W.Frag} {mg : Str → Option Value} {base : Heap} {Ts : List Addr}
theorem cut_neg (xs : List V) (h : 0 < xs.length) : cutV xs none (some (-1)) = xs.take (xs.length - 1) := by
  unfold cutV
  rw [HT.sIx_none, List.drop_zero, Nat.sub_zero]
  congr 1
  unfold HT.sIx
  simp only []
  first
    | (rw [if_pos (by decide)]; omega)
    | (split <;> omega)
    | omega
theorem gateK {H : Hp} {a g o : Addr} {ps : List Addr} {n : Net} (N : NetAt H a n g o ps) {x : Nat} (h1 : n.many ≤ x) (h2 : x < n.many + n.gates.length) : ∃ p, atI (ps.map V.ref) (((x : Nat) : Int) - ((n.many : Nat) : Int)) = some (.ref p) ∧ H p = some (.tup (gV (oldG n x))) := by
  have hk := oldG_at h1 h2
  have hil : x - n.many < ps.length := by rw [N.gs.1]; omega
  refine ⟨ps[x - n.many], ?_, N.gs.2 _ _ _ (List.getElem?_eq_getElem hil) hk⟩
  rw [show (((x : Nat) : Int) - ((n.many : Nat) : Int)) = ((x - n.many : Nat) : Int) by omega]
  exact atI_nat (by rw [List.getElem?_map, List.getElem?_eq_getElem hil]; rfl)
theorem reps1 {H : Hp} {xs : List V} {ts : List Th} (r : RepAll H xs ts) (h : xs.length = 1) : ∃ x t, xs = [x] ∧ ts = [t] ∧ Rep H x t := by
  match r, h with
  | .cons r1 .nil, _ => exact ⟨_, _, rfl, rfl, r1⟩
theorem reps2 {H : Hp} {xs : List V} {ts : List Th} (r : RepAll H xs ts) (h : xs.length = 2) : ∃ x t y u, xs = [x, y] ∧ ts = [t, u] ∧ Rep H x t ∧ Rep H y u := by
  match r, h with
  | .cons r1 (.cons r2 .nil), _ => exact ⟨_, _, _, _, rfl, rfl, r1, r2⟩
theorem reps3 {H : Hp} {xs : List V} {ts : List Th} (r : RepAll H xs ts) (h : xs.length = 3) : ∃ x t y u z v, xs = [x, y, z] ∧ ts = [t, u, v] ∧ Rep H x t ∧ Rep H y u ∧ Rep H z v := by
  match r, h with
  | .cons r1 (.cons r2 (.cons r3 .nil)), _ => exact ⟨_, _, _, _, _, _, rfl, rfl, r1, r2, r3⟩
def spWithT : Sp := fun vs H Q _ => ∃ (a : Addr) (n : Net) (g o : Addr) (ps : List Addr) (gt : Nat) (hv : V) (ht : Th), vs = [.ref a, nV gt, hv] ∧ NetAt H a n g o ps ∧ n.Ok ∧ n.many ≤ gt ∧ gt < n.many + n.gates.length ∧ Rep H hv ht ∧ ∀ r H', Same H H' → Rep H' (.ref r) (putG n gt ht) → Q (.ref r) H'
theorem ok_with {f c : Addr} (D : Dfn K mg "with_gate" s_with_gate f c) (T : Txt mg) : Cal P w K mg base 1 "with_gate" spWithT [] := by
  refine cal D (fun _ _ _ _ _ _ us hl => match us, hl with | [_, _, _], _ => rfl) sc_with_gate (fun vs H Q E h => ?_) (fun A outer s H vs Q E hr h => ?_)
  · obtain ⟨a, n, g, o, ps, gt, hv, ht, rfl, _⟩ := h
    rfl
  · obtain ⟨a, n, g, o, ps, gt, hv, ht, rfl, N, ok, h1, h2, hh, q⟩ := h
    refine ⟨_, (pss_cons (ps_asg (pv 0) (pg_tup rfl (pgs_cons (pg_name (i := 3) sc_with_gate.nd rfl (by first | exact Or.inl rfl | exact Or.inr rfl)) (pgs_cons (pg_name (i := 4) sc_with_gate.nd rfl (by first | exact Or.inl rfl | exact Or.inr rfl)) (pgs_cons (pg_name (i := 5) sc_with_gate.nd rfl (by first | exact Or.inl rfl | exact Or.inr rfl)) pgs_nil)))))
      (pss_cons (ps_set (i := 6) sc_with_gate.nd rfl (by first | exact Or.inl rfl | exact Or.inr rfl) (pe_op op_sub (pv 1) (pv 3)))
      (pss_one (ps_ret (pe_tup (pa_cons (pv 3) (pa_cons (pe_op op_catA (pe_op op_catA (pe_slice sl_tupA (pv 4) po_none (po_some (pv 6))) (pe_tup (pa_cons (pv 2) pa_nil))) (pe_slice sl_tupA (pv 4) (po_some (pe_op op_add (pv 6) pe_int)) po_none)) (pa_cons (pv 5) pa_nil)))))))), ?_⟩
    have g16 := ok.g16
    refine ⟨_, rfl, a, _, rfl, SqT.of N.top, rfl, _, _, rfl, _, _, rfl, _, _, rfl, rfl, ?_⟩
    refine ⟨_, rfl, _, rfl, _, _, rfl, rfl, ?_⟩
    have ea : V.int (((gt : Nat) : Int) - ((n.many : Nat) : Int)) = nV (gt - n.many) := congrArg V.int (by omega)
    dsimp -proj only
    rw [ea]
    have hal : gt - n.many < n.gates.length := by omega
    unfold putG at q
    generalize hat : gt - n.many = at_ at ea hal q ⊢
    have pl : ps.length = n.gates.length := N.gs.1
    refine ⟨_, rfl, _, rfl, ?_⟩
    unfold tNoPart
    refine ⟨_, rfl, _, rfl, ?_⟩
    refine slA (lo := none) (hi := some ((at_ : Nat) : Int)) N.gt fun r1 H1 s1 e1 => ?_
    rw [cut_hi, ← List.map_take] at e1
    refine ⟨_, rfl, small 1, fun t2 nt2 => ?_⟩
    have s2 := s1.trans (Same.new (o := .tup [hv]) nt2)
    have e12 := (Same.new (o := .tup [hv]) nt2) _ _ e1
    have et2 : upd H1 t2 (.tup [hv]) t2 = some (.tup [hv]) := upd_same
    generalize upd H1 t2 (.tup [hv]) = H2 at s2 e12 et2 ⊢
    refine catA (K := K) e12 et2 (by rw [List.length_map, List.length_take]; show _ + 1 ≤ sizeLine; exact small _ (by omega)) fun r3 H3 s3 e3 => ?_
    have s03 := s2.trans s3
    refine ⟨_, rfl, _, rfl, _, _, rfl, rfl, _, rfl, ?_⟩
    have e1' : ((at_ : Nat) : Int) + 1 = ((at_ + 1 : Nat) : Int) := by omega
    dsimp -proj only
    rw [e1']
    refine slA (lo := some ((at_ + 1 : Nat) : Int)) (hi := none) (s03 _ _ N.gt) fun r4 H4 s4 e4 => ?_
    rw [cut_lo, ← List.map_drop] at e4
    refine catA (K := K) (s4 _ _ e3) e4 (by rw [List.length_append, List.length_map, List.length_map, List.length_take, List.length_drop]; show _ + 1 + _ ≤ sizeLine; exact small _ (by omega)) fun r5 H5 s5 e5 => ?_
    have s05 := (s03.trans s4).trans s5
    refine ⟨_, rfl, small 3, fun r nr => ?_⟩
    have s6 := Same.new (o := .tup [nV n.many, .ref r5, .ref o]) nr
    have s06 := s05.trans s6
    have N6 := N.same s06
    have hr6 := hh.mono (KeepT.same s06)
    have rg := rep_gs _ _ N6.gs
    refine q r _ s06 (.tup upd_same (.cons (.int _) (.cons (.tup (s6 _ _ e5) ?_) (.cons (.tup N6.ot (rep_ns _)) .nil))))
    rw [List.set_eq_take_append_cons_drop, if_pos (by rw [List.length_map]; exact hal), List.map_take, List.map_drop, List.append_assoc]
    exact (rg.take at_).append (.cons hr6 (rg.drop (at_ + 1)))
def spActT (wd : Str) : Sp := fun vs H Q _ => ∃ (a : Addr) (n : Net) (g o : Addr) (ps : List Addr) (ca : Addr) (xs : List V) (ts : List Th), vs = [.ref a, .ref ca] ∧ NetAt H a n g o ps ∧ n.Ok ∧ H ca = some (.tup (.str wd :: xs)) ∧ RepAll H xs ts ∧ xs.length ≤ 1000 ∧ ∀ v t H', Same H H' → Rep H' v t → ActR n (.tup (.str wd :: ts)) t → Q v H'
theorem ok_kindT {f c : Addr} (D : Dfn K mg "kind_changed" s_kind_changed f c) (T : Txt mg) (c_has_gate : Cal P w K mg base 3 "has_gate" spHasGate []) (c_with_gate : Cal P w K mg base 1 "with_gate" spWithT []) : Cal P w K mg base 4 "kind_changed" (spActT "kind") [] := by
  refine cal D (fun _ _ _ _ _ _ us hl => match us, hl with | [_, _], _ => rfl) sc_kind_changed (fun vs H Q E h => ?_) (fun A outer s H vs Q E hr h => ?_)
  · obtain ⟨a, n, g, o, ps, ca, xs, ts, rfl, _⟩ := h
    rfl
  · obtain ⟨a, n, g, o, ps, ca, xs, ts, rfl, N, ok, hc, ra, xl, q⟩ := h
    refine ⟨_, (pss_cons (ps_if (PW.pt (pw_or (pt_cmpR op_ne (pe_callB call_len_seq (by rfl) T.b_len (by decide +kernel) (pa_cons (pv 1) pa_nil)) pe_int (nomark _)) (pw_or1 (pt_not (pt_val (pe_c c_has_gate hr (by decide) (by rfl) (pa_cons (pv 0) (pa_cons (pe_ix ix_tup (pv 1) pe_int (fun _ _ => rfl)) pa_nil)))))))) (pss_one (ps_ret pe_non)) pss_nil)
      (pss_cons (ps_asg (pe_slice sl_tupA (pv 1) (po_some pe_int) po_none) (pg_tup rfl (pgs_cons (pg_name (i := 2) sc_kind_changed.nd rfl (by first | exact Or.inl rfl | exact Or.inr rfl)) (pgs_cons (pg_name (i := 3) sc_kind_changed.nd rfl (by first | exact Or.inl rfl | exact Or.inr rfl)) pgs_nil))))
      (pss_one (ps_ret (pe_c c_with_gate hr (by decide) (by rfl) (pa_cons (pv 0) (pa_cons (pv 2) (pa_cons (pe_op op_catA (pe_tup (pa_cons (pv 3) pa_nil)) (pe_slice sl_tupA (pe_ix ix_tup (pe_ix ix_tup (pv 0) pe_int (fun _ _ => rfl)) (pe_op op_sub (pv 2) (pe_ix ix_tup (pv 0) pe_int (fun _ _ => rfl))) (fun _ _ => rfl)) (po_some pe_int) po_none)) pa_nil)))))))), ?_⟩
    have rl := ra.length
    refine ⟨_, rfl, ca, _, rfl, .inr (SqT.of hc), rfl, _, rfl, ite2 (fun h => ?_) (fun h => ?_)⟩
    · refine q .non .non H (Same.refl _) .non (act_non fun z => ?_)
      obtain ⟨g', k', e, _⟩ := chg_kind z
      rw [e] at rl
      rw [decide_eq_true (by show V.int (((V.str "kind" :: xs).length : Nat) : Int) = V.int 3; rw [List.length_cons, rl]; rfl)] at h
      cases h
    · have hl : xs.length = 2 := by
        have := Classical.not_not.mp fun z => h (by rw [decide_eq_false z]; rfl)
        have := V.int.inj this
        rw [List.length_cons] at this
        omega
      obtain ⟨x1, t1, x2, t2, rfl, rfl, r1, r2⟩ := reps2 ra hl
      refine ⟨_, rfl, _, rfl, ca, _, 1, _, rfl, rfl, SqT.of hc, at1, a, n, g, o, ps, x1, t1, rfl, N, r1, fun b hb => ⟨_, rfl, ite2 (fun h2 => ?_) (fun h2 => ?_)⟩⟩
      · refine q .non .non H (Same.refl _) .non (act_non fun z => ?_)
        obtain ⟨g', k', e, h3, h4, _⟩ := chg_kind z
        injection e with e _
        rw [hb.mpr ⟨g', e, h3, h4⟩] at h2
        cases h2
      · have hbt : b = true := by
          cases b with
          | true => rfl
          | false => exact absurd rfl h2
        obtain ⟨x, rfl, h1, h2⟩ := hb.mp hbt
        unfold thW at r1
        cases r1
        refine ⟨_, rfl, 1, rfl, ?_⟩
        unfold tNoPart
        refine slA (lo := some ((1 : Nat) : Int)) (hi := none) hc fun r1 H1 s1 e1 => ?_
        rw [cut_lo] at e1
        have e1 : H1 r1 = some (.tup [nV x, x2]) := e1
        have N1 := N.same s1
        refine ⟨r1, _, rfl, SqT.of e1, rfl, _, _, rfl, _, _, rfl, rfl, ?_⟩
        refine ⟨_, rfl, _, rfl, _, rfl, small 1, fun t2' nt2 => ?_⟩
        have s2 := Same.new (o := .tup [x2]) nt2
        have N2 := N1.same s2
        have e2 : upd H1 t2' (.tup [x2]) t2' = some (.tup [x2]) := upd_same
        generalize upd H1 t2' (.tup [x2]) = H2 at s2 N2 e2 ⊢
        obtain ⟨pk, hatk, hpk⟩ := gateK N2 h1 h2
        refine ⟨_, rfl, a, _, 1, _, rfl, rfl, SqT.of N2.top, at1, _, rfl, _, rfl, a, _, 0, _, rfl, rfl, SqT.of N2.top, at0, _, _, rfl, rfl, g, _, _, _, rfl, rfl, SqT.of N2.gt, hatk, 1, rfl, ?_⟩
        refine slA (lo := some ((1 : Nat) : Int)) (hi := none) hpk fun r3 H3 s3 e3 => ?_
        rw [cut_lo] at e3
        have e3 : H3 r3 = some (.tup [nV (oldG n x).2.1, nV (oldG n x).2.2]) := e3
        refine catA (K := K) (s3 _ _ e2) e3 (small 3) fun r4 H4 s4 e4 => ?_
        have s04 := ((s1.trans s2).trans s3).trans s4
        refine ⟨a, n, g, o, ps, x, .ref r4, .tup [t2, thN (oldG n x).2.1, thN (oldG n x).2.2], rfl, N.same s04, ok, h1, h2, .tup e4 (.cons (r2.mono (KeepT.same s04)) (.cons (.int _) (.cons (.int _) .nil))), fun r H5 s5 r5 => q (.ref r) _ H5 (s04.trans s5) r5 (act_kind ok h1 h2 t2)⟩
theorem ok_leadT {f c : Addr} (D : Dfn K mg "lead_changed" s_lead_changed f c) (T : Txt mg) (c_has_gate : Cal P w K mg base 3 "has_gate" spHasGate []) (c_is_below : Cal P w K mg base 2 "is_below" spBelow []) (c_with_gate : Cal P w K mg base 1 "with_gate" spWithT []) : Cal P w K mg base 4 "lead_changed" (spActT "lead") [] := by
  refine cal D (fun _ _ _ _ _ _ us hl => match us, hl with | [_, _], _ => rfl) sc_lead_changed (fun vs H Q E h => ?_) (fun A outer s H vs Q E hr h => ?_)
  · obtain ⟨a, n, g, o, ps, ca, xs, ts, rfl, _⟩ := h
    rfl
  · obtain ⟨a, n, g, o, ps, ca, xs, ts, rfl, N, ok, hc, ra, xl, q⟩ := h
    refine ⟨_, (pss_cons (ps_if (PW.pt (pw_or (pt_cmpR op_ne (pe_callB call_len_seq (by rfl) T.b_len (by decide +kernel) (pa_cons (pv 1) pa_nil)) pe_int (nomark _)) (pw_or (pt_not (pt_val (pe_c c_has_gate hr (by decide) (by rfl) (pa_cons (pv 0) (pa_cons (pe_ix ix_tup (pv 1) pe_int (fun _ _ => rfl)) pa_nil))))) (pw_or1 (pt_not (pt_val (pe_c c_is_below hr (by decide) (by rfl) (pa_cons (pe_ix ix_tup (pv 1) pe_int (fun _ _ => rfl)) (pa_cons pe_int pa_nil))))))))) (pss_one (ps_ret pe_non)) pss_nil)
      (pss_cons (ps_asg (pe_slice sl_tupA (pv 1) (po_some pe_int) po_none) (pg_tup rfl (pgs_cons (pg_name (i := 2) sc_lead_changed.nd rfl (by first | exact Or.inl rfl | exact Or.inr rfl)) (pgs_cons (pg_name (i := 3) sc_lead_changed.nd rfl (by first | exact Or.inl rfl | exact Or.inr rfl)) (pgs_cons (pg_name (i := 4) sc_lead_changed.nd rfl (by first | exact Or.inl rfl | exact Or.inr rfl)) pgs_nil)))))
      (pss_cons (ps_asg (pe_ix ix_tup (pe_ix ix_tup (pv 0) pe_int (fun _ _ => rfl)) (pe_op op_sub (pv 2) (pe_ix ix_tup (pv 0) pe_int (fun _ _ => rfl))) (fun _ _ => rfl)) (pg_tup rfl (pgs_cons (pg_name (i := 5) sc_lead_changed.nd rfl (by first | exact Or.inl rfl | exact Or.inr rfl)) (pgs_cons (pg_name (i := 6) sc_lead_changed.nd rfl (by first | exact Or.inl rfl | exact Or.inr rfl)) (pgs_cons (pg_name (i := 7) sc_lead_changed.nd rfl (by first | exact Or.inl rfl | exact Or.inr rfl)) pgs_nil)))))
      (pss_one (ps_ret (pe_c c_with_gate hr (by decide) (by rfl) (pa_cons (pv 0) (pa_cons (pv 2) (pa_cons (pe_ifExp (pt_cmpR op_eq (pv 3) pe_int (nomark _)) (pe_tup (pa_cons (pv 5) (pa_cons (pv 4) (pa_cons (pv 7) pa_nil)))) (pe_tup (pa_cons (pv 5) (pa_cons (pv 6) (pa_cons (pv 4) pa_nil))))) pa_nil))))))))), ?_⟩
    have rl := ra.length
    refine ⟨_, rfl, ca, _, rfl, .inr (SqT.of hc), rfl, _, rfl, ite2 (fun h => ?_) (fun h => ?_)⟩
    · refine q .non .non H (Same.refl _) .non (act_non fun z => ?_)
      obtain ⟨g', s', k', e, _⟩ := chg_lead z
      rw [e] at rl
      rw [decide_eq_true (by show V.int (((V.str "lead" :: xs).length : Nat) : Int) = V.int 4; rw [List.length_cons, rl]; rfl)] at h
      cases h
    · have hl : xs.length = 3 := by
        have := Classical.not_not.mp fun z => h (by rw [decide_eq_false z]; rfl)
        have := V.int.inj this
        rw [List.length_cons] at this
        omega
      obtain ⟨x1, t1, x2, t2, x3, t3, rfl, rfl, r1, r2, r3⟩ := reps3 ra hl
      refine ⟨_, rfl, _, rfl, ca, _, 1, _, rfl, rfl, SqT.of hc, at1, a, n, g, o, ps, x1, t1, rfl, N, r1, fun b hb => ⟨_, rfl, ite2 (fun h2 => ?_) (fun h2 => ?_)⟩⟩
      · refine q .non .non H (Same.refl _) .non (act_non fun z => ?_)
        obtain ⟨g', s', k', e, h3, h4, _⟩ := chg_lead z
        injection e with e _
        rw [hb.mpr ⟨g', e, h3, h4⟩] at h2
        cases h2
      · have hbt : b = true := by
          cases b with
          | true => rfl
          | false => exact absurd rfl h2
        obtain ⟨x, rfl, h1, h2⟩ := hb.mp hbt
        unfold thW at r1
        cases r1
        refine ⟨_, rfl, ca, _, 2, _, rfl, rfl, SqT.of hc, at2, x2, t2, 2, rfl, r2, _, rfl, ite2 (fun h3 => ?_) (fun h3 => ?_)⟩
        · refine q .non .non H (Same.refl _) .non (act_non fun z => ?_)
          obtain ⟨g', s', k', e, _, _, hs, _⟩ := chg_lead z
          injection e with _ e
          injection e with e _
          have h5 : Th.isB 2 (thW s') = true := isB_n (k := s') (b := 2) (by omega)
          rw [e, h5] at h3
          cases h3
        · have hbt2 : t2.isB 2 = true := by
            cases e : t2.isB 2 with
            | true => rfl
            | false => rw [e] at h3; exact absurd rfl h3
          obtain ⟨sd, rfl, hsd⟩ := isB_int (b := 2) hbt2
          unfold thW at r2
          cases r2
          refine ⟨_, rfl, 1, rfl, ?_⟩
          unfold tNoPart
          refine slA (lo := some ((1 : Nat) : Int)) (hi := none) hc fun r1 H1 s1 e1 => ?_
          rw [cut_lo] at e1
          have e1 : H1 r1 = some (.tup [nV x, nV sd, x3]) := e1
          have N1 := N.same s1
          refine ⟨r1, _, rfl, SqT.of e1, rfl, _, _, rfl, _, _, rfl, _, _, rfl, rfl, ?_⟩
          obtain ⟨pk, hatk, hpk⟩ := gateK N1 h1 h2
          refine ⟨_, rfl, a, _, 1, _, rfl, rfl, SqT.of N1.top, at1, _, rfl, _, rfl, a, _, 0, _, rfl, rfl, SqT.of N1.top, at0, _, _, rfl, rfl, g, _, _, _, rfl, rfl, SqT.of N1.gt, hatk, _, _, rfl, SqT.of hpk, rfl, _, _, rfl, _, _, rfl, _, _, rfl, rfl, ?_⟩
          have al := act_lead ok h1 h2 hsd t3
          refine ⟨_, rfl, _, rfl, _, rfl, rfl, _, rfl, ?_⟩
          refine ite2 (fun hs => ?_) (fun hs => ?_)
          · have hs' : sd = 0 := by
              have := V.int.inj (of_decide_eq_true hs)
              omega
            rw [if_pos hs'] at al
            refine ⟨_, rfl, _, rfl, _, rfl, small 3, fun t2 nt2 => ?_⟩
            have s2 := s1.trans (Same.new (o := .tup [nV (oldG n x).1, x3, nV (oldG n x).2.2]) nt2)
            exact ⟨a, n, g, o, ps, x, .ref t2, _, rfl, N.same s2, ok, h1, h2, .tup upd_same (.cons (.int _) (.cons (r3.mono (KeepT.same s2)) (.cons (.int _) .nil))), fun r H5 s5 r5 => q (.ref r) _ H5 (s2.trans s5) r5 al⟩
          · have hs' : sd ≠ 0 := fun z => hs (decide_eq_true (by rw [z]; rfl))
            rw [if_neg hs'] at al
            refine ⟨_, rfl, _, rfl, _, rfl, small 3, fun t2 nt2 => ?_⟩
            have s2 := s1.trans (Same.new (o := .tup [nV (oldG n x).1, nV (oldG n x).2.1, x3]) nt2)
            exact ⟨a, n, g, o, ps, x, .ref t2, _, rfl, N.same s2, ok, h1, h2, .tup upd_same (.cons (.int _) (.cons (.int _) (.cons (r3.mono (KeepT.same s2)) .nil))), fun r H5 s5 r5 => q (.ref r) _ H5 (s2.trans s5) r5 al⟩
theorem ok_addedT {f c : Addr} (D : Dfn K mg "gate_added" s_gate_added f c) (T : Txt mg) : Cal P w K mg base 4 "gate_added" (spActT "more") [] := by
  refine cal D (fun _ _ _ _ _ _ us hl => match us, hl with | [_, _], _ => rfl) sc_gate_added (fun vs H Q E h => ?_) (fun A outer s H vs Q E hr h => ?_)
  · obtain ⟨a, n, g, o, ps, ca, xs, ts, rfl, _⟩ := h
    rfl
  · obtain ⟨a, n, g, o, ps, ca, xs, ts, rfl, N, ok, hc, ra, xl, q⟩ := h
    have g16 := ok.g16
    refine ⟨_, (pss_cons (ps_asg (pv 0) (pg_tup rfl (pgs_cons (pg_name (i := 2) sc_gate_added.nd rfl (by first | exact Or.inl rfl | exact Or.inr rfl)) (pgs_cons (pg_name (i := 3) sc_gate_added.nd rfl (by first | exact Or.inl rfl | exact Or.inr rfl)) (pgs_cons (pg_name (i := 4) sc_gate_added.nd rfl (by first | exact Or.inl rfl | exact Or.inr rfl)) pgs_nil)))))
      (pss_one (ps_ret (pe_tup (pa_cons (pv 2) (pa_cons (pe_op op_catA (pv 3) (pe_tup (pa_cons (pe_slice sl_tupA (pv 1) (po_some pe_int) po_none) pa_nil))) (pa_cons (pv 4) pa_nil))))))), ?_⟩
    refine ⟨_, rfl, a, _, rfl, SqT.of N.top, rfl, _, _, rfl, _, _, rfl, _, _, rfl, rfl, ?_⟩
    refine ⟨_, rfl, _, rfl, _, rfl, 1, rfl, ?_⟩
    unfold tNoPart
    refine slA (lo := some ((1 : Nat) : Int)) (hi := none) hc fun r1 H1 s1 e1 => ?_
    rw [cut_lo] at e1
    have e1 : H1 r1 = some (.tup xs) := e1
    refine ⟨small 1, fun t2 nt2 => ?_⟩
    have s2 := s1.trans (Same.new (o := .tup [.ref r1]) nt2)
    have e2 : upd H1 t2 (.tup [.ref r1]) t2 = some (.tup [.ref r1]) := upd_same
    have e12 := (Same.new (o := .tup [V.ref r1]) nt2) _ _ e1
    generalize upd H1 t2 (.tup [.ref r1]) = H2 at s2 e2 e12 ⊢
    have N2 := N.same s2
    refine catA (K := K) N2.gt e2 (by rw [List.length_map, N2.gs.1]; show _ + 1 ≤ sizeLine; exact small _ (by omega)) fun r3 H3 s3 e3 => ?_
    refine ⟨_, rfl, small 3, fun r nr => ?_⟩
    have s4 := Same.new (o := .tup [nV n.many, .ref r3, .ref o]) nr
    have s34 := s3.trans s4
    have s04 := s2.trans s34
    have N4 := N.same s04
    exact q (.ref r) _ _ s04 (.tup upd_same (.cons (.int _) (.cons (.tup (s4 _ _ e3) ((rep_gs _ _ N4.gs).append (.cons (.tup (s34 _ _ e12) (ra.mono (KeepT.same s04))) .nil))) (.cons (.tup N4.ot (rep_ns _)) .nil)))) (act_more ok ts)
theorem ok_takenT {f c : Addr} (D : Dfn K mg "gate_taken" s_gate_taken f c) (T : Txt mg) : Cal P w K mg base 4 "gate_taken" (spActT "less") [] := by
  refine cal D (fun _ _ _ _ _ _ us hl => match us, hl with | [_, _], _ => rfl) sc_gate_taken (fun vs H Q E h => ?_) (fun A outer s H vs Q E hr h => ?_)
  · obtain ⟨a, n, g, o, ps, ca, xs, ts, rfl, _⟩ := h
    rfl
  · obtain ⟨a, n, g, o, ps, ca, xs, ts, rfl, N, ok, hc, ra, xl, q⟩ := h
    have g16 := ok.g16
    have rl := ra.length
    refine ⟨_, (pss_cons (ps_asg (pv 0) (pg_tup rfl (pgs_cons (pg_name (i := 2) sc_gate_taken.nd rfl (by first | exact Or.inl rfl | exact Or.inr rfl)) (pgs_cons (pg_name (i := 3) sc_gate_taken.nd rfl (by first | exact Or.inl rfl | exact Or.inr rfl)) (pgs_cons (pg_name (i := 4) sc_gate_taken.nd rfl (by first | exact Or.inl rfl | exact Or.inr rfl)) pgs_nil)))))
      (pss_cons (ps_if (PW.pt (pw_or (pt_cmpR op_ne (pe_callB call_len_seq (by rfl) T.b_len (by decide +kernel) (pa_cons (pv 1) pa_nil)) pe_int (nomark _)) (pw_or1 (pt_cmpR op_eq (pe_callB call_len_seq (by rfl) T.b_len (by decide +kernel) (pa_cons (pv 3) pa_nil)) pe_int (nomark _))))) (pss_one (ps_ret pe_non)) pss_nil)
      (pss_one (ps_ret (pe_tup (pa_cons (pv 2) (pa_cons (pe_slice sl_tupA (pv 3) po_none (po_some (pe_un un_neg pe_int))) (pa_cons (pv 4) pa_nil)))))))), ?_⟩
    refine ⟨_, rfl, a, _, rfl, SqT.of N.top, rfl, _, _, rfl, _, _, rfl, _, _, rfl, rfl, ?_⟩
    refine ⟨_, rfl, ca, _, rfl, .inr (SqT.of hc), rfl, _, rfl, ite2 (fun h => ?_) (fun h => ?_)⟩
    · refine q .non .non H (Same.refl _) .non (act_non fun z => ?_)
      obtain ⟨e, _⟩ := chg_less z
      rw [e] at rl
      rw [decide_eq_true (by show V.int (((V.str "less" :: xs).length : Nat) : Int) = V.int 1; rw [List.length_cons, rl]; rfl)] at h
      cases h
    · have hl : xs.length = 0 := by
        have := Classical.not_not.mp fun z => h (by rw [decide_eq_false z]; rfl)
        have := V.int.inj this
        rw [List.length_cons] at this
        omega
      have hts : ts = [] := List.length_eq_zero_iff.mp (by omega)
      subst hts
      refine ⟨_, rfl, g, _, rfl, .inr (SqT.of N.gt), rfl, _, rfl, ite2 (fun h2 => ?_) (fun h2 => ?_)⟩
      · refine q .non .non H (Same.refl _) .non (act_non fun z => ?_)
        obtain ⟨_, e, _⟩ := chg_less z
        have := V.int.inj (of_decide_eq_true h2)
        rw [List.length_map, N.gs.1] at this
        omega
      · have h1 : 0 < n.gates.length := by
          rcases Nat.eq_zero_or_pos n.gates.length with z | z
          · exact absurd (decide_eq_true (by rw [List.length_map, N.gs.1, z]; rfl)) h2
          · exact z
        refine ⟨_, rfl, _, rfl, ?_⟩
        unfold tNoPart
        refine ⟨_, rfl, _, rfl, ?_⟩
        refine slA (lo := none) (hi := some (-1)) N.gt fun r1 H1 s1 e1 => ?_
        rw [cut_neg _ (by rw [List.length_map, N.gs.1]; exact h1), List.length_map, N.gs.1] at e1
        refine ⟨_, rfl, small 3, fun r nr => ?_⟩
        have s4 := Same.new (o := .tup [nV n.many, .ref r1, .ref o]) nr
        have s14 := s1.trans s4
        have N4 := N.same s14
        exact q (.ref r) _ _ s14 (.tup upd_same (.cons (.int _) (.cons (.tup (s4 _ _ e1) ((rep_gs _ _ N4.gs).take _)) (.cons (.tup N4.ot (rep_ns _)) .nil)))) (act_less ok h1)
theorem ok_outscT {f c : Addr} (D : Dfn K mg "outs_changed" s_outs_changed f c) (T : Txt mg) : Cal P w K mg base 4 "outs_changed" (spActT "outs") [] := by
  refine cal D (fun _ _ _ _ _ _ us hl => match us, hl with | [_, _], _ => rfl) sc_outs_changed (fun vs H Q E h => ?_) (fun A outer s H vs Q E hr h => ?_)
  · obtain ⟨a, n, g, o, ps, ca, xs, ts, rfl, _⟩ := h
    rfl
  · obtain ⟨a, n, g, o, ps, ca, xs, ts, rfl, N, ok, hc, ra, xl, q⟩ := h
    have rl := ra.length
    refine ⟨_, (pss_cons (ps_if (pt_cmpR op_ne (pe_callB call_len_seq (by rfl) T.b_len (by decide +kernel) (pa_cons (pv 1) pa_nil)) pe_int (nomark _)) (pss_one (ps_ret pe_non)) pss_nil)
      (pss_cons (ps_asg (pv 0) (pg_tup rfl (pgs_cons (pg_name (i := 2) sc_outs_changed.nd rfl (by first | exact Or.inl rfl | exact Or.inr rfl)) (pgs_cons (pg_name (i := 3) sc_outs_changed.nd rfl (by first | exact Or.inl rfl | exact Or.inr rfl)) (pgs_cons (pg_name (i := 4) sc_outs_changed.nd rfl (by first | exact Or.inl rfl | exact Or.inr rfl)) pgs_nil)))))
      (pss_one (ps_ret (pe_tup (pa_cons (pv 2) (pa_cons (pv 3) (pa_cons (pe_ix ix_tup (pv 1) pe_int (fun _ _ => rfl)) pa_nil)))))))), ?_⟩
    refine ⟨_, rfl, ca, _, rfl, .inr (SqT.of hc), rfl, _, rfl, ite2 (fun h => ?_) (fun h => ?_)⟩
    · refine q .non .non H (Same.refl _) .non (act_non fun z => ?_)
      obtain ⟨os, e, _⟩ := chg_outs z
      rw [e] at rl
      rw [decide_eq_true (by show V.int (((V.str "outs" :: xs).length : Nat) : Int) = V.int 2; rw [List.length_cons, rl]; rfl)] at h
      cases h
    · have hl : xs.length = 1 := by
        have := Classical.not_not.mp fun z => h (by rw [decide_eq_false z]; rfl)
        have := V.int.inj this
        rw [List.length_cons] at this
        omega
      obtain ⟨x1, t1, rfl, rfl, r1⟩ := reps1 ra hl
      refine ⟨_, rfl, a, _, rfl, SqT.of N.top, rfl, _, _, rfl, _, _, rfl, _, _, rfl, rfl, ?_⟩
      refine ⟨_, rfl, _, rfl, _, rfl, ca, _, 1, _, rfl, rfl, SqT.of hc, at1, small 3, fun r nr => ?_⟩
      have s4 := Same.new (o := .tup [nV n.many, .ref g, x1]) nr
      have N4 := N.same s4
      exact q (.ref r) _ _ s4 (.tup upd_same (.cons (.int _) (.cons (.tup N4.gt (rep_gs _ _ N4.gs)) (.cons (r1.mono (KeepT.same s4)) .nil)))) (act_outs ok t1)
end
section
variable {P : Program} {w : World} {K : PySem.W.Frag} {mg : Str → Option Value} {base : Heap} {Ts : List Addr} {CNoChange : Addr}
theorem heldOf {k : Nat} {x : Str} {sp : Sp} {f : Addr} (c : Cal P w K mg base k x sp []) (h : mg x = some (.ref f)) : Held P w K mg base k f sp := by
  obtain ⟨f', fd, ps, ds, F, hm, hk, hb, hd⟩ := c.ex
  rw [hm] at h
  cases h
  cases hd
  exact ⟨fd, ps, F, hk, hb⟩
def actS (fk fl fm fs fo : Addr) : Addr → Option Sp := fun f =>
  if f = fk then some (spActT "kind") else if f = fl then some (spActT "lead") else if f = fm then some (spActT "more") else if f = fs then some (spActT "less") else if f = fo then some (spActT "outs") else none
def wordsC : List Str := ["kind", "lead", "more", "less", "outs"]
def wordsN : List Str := ["", "0", "way", "Kind", "leads"]
/-- what stands at the head of a thing is no text, or one of the known ones -/
def HeadOk (t : Th) : Prop := ∀ x ts, t = .tup (.str x :: ts) → x ∈ wordsC ∨ x ∈ wordsN
def kStr : Th → Bool
  | .str _ => true
  | _ => false
theorem kStr_ok : ∀ t : Th, kitB (tyN t) "str" = some (kStr t)
  | .non => by decide +kernel
  | .bl _ => by show kitB "bool" "str" = some false; decide +kernel
  | .int _ => by show kitB "int" "str" = some false; decide +kernel
  | .str _ => by show kitB "str" "str" = some true; decide +kernel
  | .oth true => by show kitB "list" "str" = some false; decide +kernel
  | .oth false => by show kitB "dict" "str" = some false; decide +kernel
  | .tup _ => by show kitB "tuple" "str" = some false; decide +kernel
def spHasWordT : Sp := fun vs H Q _ => ∃ (v : V) (t : Th), vs = [v] ∧ Rep H v t ∧ HeadOk t ∧ ∀ b : Bool, (b = true ↔ ∃ x ts, t = .tup (.str x :: ts) ∧ x ∈ wordsC) → Q (.bl b) H
theorem ok_haswordT {f c d : Addr} {es : Array DictEntry} {nn : Nat} (D : Dfn K mg "has_word" s_has_word f c) (T : Txt mg) (kD_CHANGES : KDict K w d es nn) (gD_CHANGES : ∃ u, mg "CHANGES" = some u ∧ RelV (.ref d) u) (hw : ∀ x ∈ wordsC, ∃ f, PySem.W.nsIn K d x = some (some (.ref f))) (hz : ∀ x ∈ wordsN, PySem.W.nsIn K d x = some none) : Cal P w K mg base 1 "has_word" spHasWordT [] := by
  refine cal D (fun _ _ _ _ _ _ us hl => match us, hl with | [_], _ => rfl) sc_has_word (fun vs H Q E h => ?_) (fun A outer s H vs Q E hr h => ?_)
  · obtain ⟨v, t, rfl, _⟩ := h
    rfl
  · obtain ⟨v, t, rfl, r, hk, q⟩ := h
    refine ⟨_, (pss_cons (ps_if (PW.pt (pw_or (pt_not (pt_val (pe_callB call_isi (by rfl) T.b_isinstance (by decide +kernel) (pa_cons (pv 0) (pa_cons (pe_bltn (v := .ty "tuple") (by rfl) T.b_tuple (by decide +kernel) rfl) pa_nil))))) (pw_or1 (pt_cmpR op_eq (pe_callB call_len_seq (by rfl) T.b_len (by decide +kernel) (pa_cons (pv 0) pa_nil)) pe_int (nomark _))))) (pss_one (ps_ret pe_bl)) pss_nil)
      (pss_one (ps_ret (pe_and (pe_callB call_isi (by rfl) T.b_isinstance (by decide +kernel) (pa_cons (pe_ix ix_tup (pv 0) pe_int (fun _ _ => rfl)) (pa_cons (pe_bltn (v := .ty "str") (by rfl) T.b_str (by decide +kernel) rfl) pa_nil))) (pe_one (pe_cmpR (op_in_kd kD_CHANGES) (pe_ix ix_tup (pv 0) pe_int (fun _ _ => rfl)) (pe_gc (by rfl) gD_CHANGES) (by rfl))))))), ?_⟩
    refine ⟨_, rfl, _, _, _, _, t.kTup, rfl, .ty "tuple", tyx r, kit_ty (kTup_ok t), _, rfl, ite2 (fun h => ?_) (fun h => ?_)⟩
    · refine q false ⟨fun z => (by cases z), fun ⟨x, ts, e, _⟩ => ?_⟩
      rw [e] at h
      cases h
    · cases r with
      | @tup a vs ts e ra =>
        refine ⟨_, rfl, a, _, rfl, .inr (SqT.of e), rfl, _, rfl, ite2 (fun h1 => ?_) (fun h1 => ?_)⟩
        · refine q false ⟨fun z => (by cases z), fun ⟨x, ts', e', _⟩ => ?_⟩
          have hl := ra.length
          have := V.int.inj (of_decide_eq_true h1)
          injection e' with e'
          rw [e'] at hl
          rw [hl, List.length_cons] at this
          omega
        · cases ra with
          | nil => exact absurd rfl h1
          | @cons v0 vs t0 ts r0 ra =>
            refine ⟨_, rfl, a, _, 0, _, rfl, rfl, SqT.of e, at0, _, _, _, _, kStr t0, rfl, .ty "str", tyx r0, kit_ty (kStr_ok t0), ?_⟩
            refine ⟨kStr t0, rfl, ite2 (fun h2 => ?_) (fun h2 => ?_)⟩
            · cases r0 with
              | str x =>
                rcases hk x ts rfl with hx | hx
                · obtain ⟨f, hf⟩ := hw x hx
                  exact ⟨_, rfl, a, _, 0, _, rfl, rfl, SqT.of e, at0, x, _, rfl, rfl, hf, q true ⟨fun _ => ⟨x, ts, rfl, hx⟩, fun _ => rfl⟩⟩
                · refine ⟨_, rfl, a, _, 0, _, rfl, rfl, SqT.of e, at0, x, _, rfl, rfl, hz x hx, q false ⟨fun z => (by cases z), fun ⟨y, us, e', hy⟩ => ?_⟩⟩
                  injection e' with e'
                  injection e' with e1 _
                  injection e1 with e1
                  rw [← e1] at hy
                  exact absurd hy ((by decide +kernel : ∀ x ∈ wordsN, x ∉ wordsC) x hx)
              | _ => cases h2
            · refine q false ⟨fun z => (by cases z), fun ⟨y, us, e', hy⟩ => ?_⟩
              injection e' with e'
              injection e' with e1 _
              rw [e1] at h2
              exact absurd rfl h2
      | _ => exact absurd rfl h
def spChangedT (Ts : List Addr) (CN : Addr) : Sp := fun vs H Q E => ∃ (a : Addr) (n : Net) (g o : Addr) (ps : List Addr) (v : V) (t : Th), vs = [.ref a, v] ∧ NetAt H a n g o ps ∧ n.Ok ∧ Rep H v t ∧ HeadOk t ∧ (∀ ts, t = .tup ts → ts.length ≤ 500) ∧ Tabs Ts H ∧ (∀ c : Chg, c.Ok n → c.th = t → ∀ r H', Aft Ts H H' → Rep H' r (thNet (doN n c)) → Q r H') ∧ (¬ IsChg n t → ∀ H', Aft Ts H H' → E (.ref CN) none H')
theorem ok_changedT {f c d fk fl fm fs fo : Addr} {es : Array DictEntry} {nn : Nat} (D : Dfn K mg "changed" s_changed f c) (T : Txt mg) (kD : KDict K w d es nn) (gD_CHANGES : ∃ u, mg "CHANGES" = some u ∧ RelV (.ref d) u) (hS_action : ∀ f sp, actS fk fl fm fs fo f = some sp → Held P w K mg base 4 f sp) (hw : ∀ x ∈ wordsC, ∃ f, PySem.W.nsIn K d x = some (some (.ref f)) ∧ actS fk fl fm fs fo f = some (spActT x)) (x_NoChange : ExcM K mg "NoChange" CNoChange)
    (c_has_word : Cal P w K mg base 1 "has_word" spHasWordT []) (c_is_net : Cal P w K mg base 6 "is_net" (spIsNet Ts) []) : CalX P w K mg base 7 "changed" (spChangedT Ts CNoChange) := by
  refine calX D (fun _ _ _ _ _ _ us hl => match us, hl with | [_, _], _ => rfl) sc_changed (fun vs H Q E h => ?_) (fun A outer s H vs Q E hr h tk => ?_)
  · obtain ⟨a, n, g, o, ps, v, t, rfl, _⟩ := h
    rfl
  · obtain ⟨a, n, g, o, ps, v, t, rfl, N, ok, r, hk, tl, tb, q1, q2⟩ := h
    refine ⟨_, (pss_cons (ps_if (PT.nox (pt_not (pt_val (pe_c c_has_word hr (by decide) (by rfl) (pa_cons (pv 1) pa_nil))))) (pss_one (ps_raise rfl tk (pmk_own PySem.F.excBase_ValueError x_NoChange.x x_NoChange.g x_NoChange.k x_NoChange.toExcT.raises rfl))) pss_nil)
      (pss_cons (psNox (ps_set (i := 2) sc_changed.nd rfl (by first | exact Or.inl rfl | exact Or.inr rfl) (pe_ix ix_kdict (pe_gc (by rfl) gD_CHANGES) (pe_ix ix_tup (pv 1) pe_int (fun _ _ => rfl)) (fun _ _ => rfl))))
      (pss_cons (psNox (ps_set (i := 3) sc_changed.nd rfl (by first | exact Or.inl rfl | exact Or.inr rfl) (pe_callA (i := 2) hS_action (hr.mono (by decide)) (by rfl) (by first | exact Or.inl rfl | exact Or.inr rfl) (pa_cons (pv 0) (pa_cons (pv 1) pa_nil)))))
      (pss_cons (ps_if (PT.nox (pt_not (pt_val (pe_c c_is_net hr (by decide) (by rfl) (pa_cons (pv 3) pa_nil))))) (pss_one (ps_raise rfl tk (pmk_own PySem.F.excBase_ValueError x_NoChange.x x_NoChange.g x_NoChange.k x_NoChange.toExcT.raises rfl))) pss_nil)
      (PSs.nox (pss_one (ps_ret (pv 3)))))))), ?_⟩
    refine ⟨_, rfl, v, t, rfl, r, hk, fun b hb => ⟨_, rfl, ite2 (fun h => ?_) (fun h => ?_)⟩⟩
    · refine q2 (fun z => ?_) H (Aft.refl tb)
      obtain ⟨x, ts, e, hx⟩ := chg_top z
      rw [hb.mpr ⟨x, ts, e, hx⟩] at h
      cases h
    · have hbt : b = true := by
        cases b with
        | true => rfl
        | false => exact absurd rfl h
      obtain ⟨x, ts, rfl, hx⟩ := hb.mp hbt
      obtain ⟨fa, h1, h2⟩ := hw x hx
      cases r with
      | @tup a' vs _ e ra =>
        cases ra with
        | @cons v0 xs t0 _ r0 ra =>
          cases r0
          have xl : xs.length ≤ 1000 := by
            have := tl _ rfl
            rw [List.length_cons, ← ra.length] at this
            omega
          refine ⟨_, rfl, a', _, 0, _, rfl, rfl, SqT.of e, at0, d, x, .ref fa, rfl, rfl, ⟨es, nn, .ref fa, kD.at_, kD.lit, h1, rfl⟩, ?_⟩
          refine ⟨fa, _, rfl, h2, _, rfl, _, rfl, a, n, g, o, ps, a', xs, ts, rfl, N, ok, e, ra, xl, fun v' t' H1 s1 r' act => ?_⟩
          have a1 := Aft.ofSame tb s1
          refine ⟨_, rfl, v', t', rfl, r', a1.tb, fun H2 a2 => ⟨_, rfl, ite2 (fun h3 => ?_) (fun h3 => ?_)⟩⟩
          · refine q2 (fun z => ?_) H2 (a1.trans a2)
            rw [(act.iff ok).mpr z] at h3
            cases h3
          · have ht : t'.net = true := by
              cases e' : t'.net with
              | true => rfl
              | false => rw [e'] at h3; exact absurd rfl h3
            obtain ⟨cc, cok, ec⟩ := act.1 ht
            have et := act.2 cc cok ec
            subst et
            exact ⟨_, rfl, q1 cc cok ec v' H2 (a1.trans a2) (r'.mono (KeepT.aft a1.tb a2))⟩
end
end K80
set_option Elab.async false
set_option linter.all false
/-! != of data within generator expressions. -/
namespace GX
open PySem PySem.Spec PyProof.Rows L2
theorem op_neDK {X : Cx} {K : PySem.W.Frag} (hu : X.A.units + 64 < cLine) (h : X.K = K := by rfl) : OpR X (compareOp .NotEq) (rNeD K) := by subst h; exact op_neD hu
end GX
set_option Elab.async false
set_option linter.all false
set_option maxRecDepth 100000
set_option maxHeartbeats 4000000
namespace K80
open PySem PySem.Spec PyProof.Rows L2 GX
open C8 (Cal pe_c pe_gc Met Mak)
-- @dict CHANGES
-- @no CHANGES 0 ""
-- @no CHANGES 1 "0"
-- @no CHANGES 2 "way"
-- @no CHANGES 3 "Kind"
-- @no CHANGES 4 "leads"
-- @dict QUESTIONS
-- @no QUESTIONS 0 "gate"
-- @no QUESTIONS 1 "kind"
-- @no QUESTIONS 2 "lead"
-- @no QUESTIONS 3 "less"
-- @no QUESTIONS 4 "outs"
-- @exc NoText
-- @exc NoDepth
-- @exc TooMany
-- @exc NoMatch
-- @exc NoChange made
-- @exc NoRow made
-- @sub NoChange NoChange true
-- @sub NoRow NoRow true
-- @sub NoRow ValueError true
-- @sub NoRow NoText false
-- @sub NoRow NoDepth false
-- @sub NoRow TooMany false
-- @sub NoRow NoMatch false
-- @sub NoRow NoChange false
-- @cls Keeper k:i,held:N,kept:t[t[t[i]]]
-- @cls Desk keeper:OKeeper
-- @alt rises list par=l[i]
-- @alt cut_masks tup par=N,t[i],i vars=masks:DL,wire:i
-- @alt one_deeper tup par=t[i],t[i]
-- @alt _law_written tup par=t[i],s
section
variable {P : Program} {w : World} {K : PySem.W.Frag} {mg : Str → Option Value} {base : Heap} {Ts : List Addr} {PL : Addr}
def csD (cs : List (List Nat)) : List PyData := cs.map fun c => .tuple (natsD c)
theorem csD_can : ∀ cs : List (List Nat), PyData.canLayAll0 (csD cs) = true ∧ PyData.depthAll (csD cs) ≤ 1
  | [] => ⟨rfl, Nat.zero_le _⟩
  | c :: r => by
    obtain ⟨h1, h2⟩ := csD_can r
    obtain ⟨c1, c2⟩ := canInts (c.map fun n : Nat => (n : Int))
    have c1 : PyData.canLayAll0 (natsD c) = true := c1
    have c2 : PyData.depthAll (natsD c) = 0 := c2
    show PyData.canLayAll0 (.tuple (natsD c) :: csD r) = true ∧ PyData.depthAll (.tuple (natsD c) :: csD r) ≤ 1
    refine ⟨?_, ?_⟩
    · simp only [PyData.canLayAll0, PyData.canLay0, c1, h1, Bool.and_true]
    · simp only [PyData.depthAll, PyData.depth, c2]
      omega
theorem csD_shaped (cs : List (List Nat)) : SeqAt.shaped (.tuple (csD cs)) = true := shaped_tup (csD_can cs).1 (csD_can cs).2 (by decide)
theorem csD_eqv : ∀ cs ds : List (List Nat), PyData.eqvAll (csD cs) (csD ds) = decide (cs = ds)
  | [], [] => rfl
  | [], d :: s => rfl
  | c :: r, [] => rfl
  | c :: r, d :: s => by
    show (PyData.eqv (.tuple (natsD c)) (.tuple (natsD d)) && PyData.eqvAll (csD r) (csD s)) = _
    rw [natsD_eqT, csD_eqv r s]
    by_cases h1 : c = d
    · by_cases h2 : r = s
      · rw [decide_eq_true h1, decide_eq_true h2, h1, h2]
        exact (decide_eq_true rfl).symm
      · rw [decide_eq_false h2, Bool.and_false]
        exact (decide_eq_false fun z => h2 (List.cons.inj z).2).symm
    · rw [decide_eq_false h1, Bool.false_and]
      exact (decide_eq_false fun z => h1 (List.cons.inj z).1).symm
theorem csD_eqT (cs ds : List (List Nat)) : PyData.eqv (.tuple (csD cs)) (.tuple (csD ds)) = decide (cs = ds) := csD_eqv cs ds
theorem dp_csAll {H : Hp} : ∀ {rs : List Addr} {cs : List (List Nat)}, TupsAt H rs cs → DpAll K H (rs.map V.ref) (csD cs)
  | [], cs, x => by
    have : cs = [] := List.length_eq_zero_iff.mp x.1.symm
    subst this
    exact .nil
  | p :: r, [], x => by cases x.1
  | p :: r, c :: cs, x => .cons (dp_natT (x.2 0 p c rfl rfl)) (dp_csAll (rs := r) (cs := cs) ⟨by simpa using x.1, fun i p' t' e1 e2 => x.2 (i + 1) p' t' (by simpa using e1) (by simpa using e2)⟩)
theorem dp_cs {H : Hp} {q : Addr} {rs : List Addr} {cs : List (List Nat)} (h : H q = some (.tup (rs.map V.ref))) (t : TupsAt H rs cs) : Dp K H (.ref q) (.tuple (csD cs)) := .tup (SqT.of h) (dp_csAll t)
/-- the gate is new, or its cuts are others -/
def Oth (n n' : Net) (k g : Nat) : Prop := n.many + n.gates.length ≤ g ∨ ∃ cs ds, CutsAre n k g cs ∧ CutsAre n' k g ds ∧ ds ≠ cs
theorem oth_iff {n n' : Net} {k g : Nat} {cs ds : List (List Nat)} (h : ¬ n.many + n.gates.length ≤ g) (c : CutsAre n k g cs) (d : CutsAre n' k g ds) : Oth n n' k g ↔ ds ≠ cs := by
  refine ⟨fun o => ?_, fun z => .inr ⟨cs, ds, c, d, z⟩⟩
  rcases o with o | ⟨cs', ds', c', d', z⟩
  · exact absurd o h
  · rw [c.uniq c', d.uniq d']
    exact z
noncomputable def othB (n n' : Net) (k g : Nat) : Bool := @decide (Oth n n' k g) (Classical.propDecidable _)
theorem othB_iff {n n' : Net} {k g : Nat} : othB n n' k g = true ↔ Oth n n' k g := by unfold othB; exact @decide_eq_true_iff _ (Classical.propDecidable _)
noncomputable def othL (n n' : Net) (k m : Nat) : List Nat := ((List.range m).map fun i => n'.many + i).filter (othB n n' k)
theorem othL_succ (n n' : Net) (k m : Nat) : othL n n' k (m + 1) = othL n n' k m ++ (if othB n n' k (n'.many + m) = true then [n'.many + m] else []) := by
  unfold othL
  rw [List.range_succ, List.map_append, List.filter_append, List.map_singleton, List.filter_cons, List.filter_nil]
theorem othL_len (n n' : Net) (k m : Nat) : (othL n n' k m).length ≤ m := by
  unfold othL
  refine Nat.le_trans (List.length_filter_le _ _) ?_
  rw [List.length_map, List.length_range]
  exact Nat.le_refl _
def spOther (Ts : List Addr) : Sp := fun vs H Q _ => ∃ (a p p' : Addr) (n n' : Net) (g o : Addr) (ps qs qs' : List Addr) (k : Nat), vs = [.ref a, .ref p, .ref p'] ∧ NetAt H a n' g o ps ∧ n'.Ok ∧ H p = some (.tup (qs.map V.ref)) ∧ PtsAt (CutsTold n k) H qs (List.range (n.many + n.gates.length)) ∧ H p' = some (.tup (qs'.map V.ref)) ∧ PtsAt (CutsTold n' k) H qs' (List.range (n'.many + n'.gates.length)) ∧ Tabs Ts H ∧
  ∀ r H', Aft Ts H H' → H' r = some (.tup ((othL n n' k n'.gates.length).map nV)) → Q (.ref r) H'
theorem ok_other {f c PO : Addr} (D : Dfn K mg "other_gates" s_other_gates f c) (T : Txt mg) (TB_other_gates : GxR.TabB base mg c PO) (hP : PO ∈ Ts) : Cal P w K mg base 4 "other_gates" (spOther Ts) [] := by
  refine cal D (fun _ _ _ _ _ _ us hl => match us, hl with | [_, _, _], _ => rfl) sc_other_gates (fun vs H Q E h => ?_) (fun A outer s H vs Q E hr h => ?_)
  · obtain ⟨a, p, p', n, n', g, o, ps, qs, qs', k, rfl, _⟩ := h
    rfl
  · obtain ⟨a, p, p', n, n', g, o, ps, qs, qs', k, rfl, N, ok, hp, PQ, hp', PQ', tb, q⟩ := h
    have m8 := ok.m8
    have g16 := ok.g16
    have ql : qs.length = n.many + n.gates.length := by rw [PQ.1, List.length_range]
    have ql' : qs'.length = n'.many + n'.gates.length := by rw [PQ'.1, List.length_range]
    refine ⟨_, (pss_one (ps_ret (pe_tupG (own := [("gate", 3)]) hr (by rfl) T.b_tuple TB_other_gates rfl (gxOk_by (N := ["net", "ahead", "behind", "gate"]) (sc := defScope s_other_gates) (own := [("gate", 3)]) (by decide +kernel)) sc_other_gates.nd (pi_range2 (by rfl) T.b_range (pa_cons (pe_ix ix_tup (pv 0) pe_int (fun _ _ => rfl)) (pa_cons (pe_callB call_len_seq (by rfl) T.b_len (by decide +kernel) (pa_cons (pv 2) pa_nil)) pa_nil))) (fun _ _ _ _ => (pg_name (i := 3) sc_other_gates.nd rfl (by first | exact Or.inl rfl | exact Or.inr rfl))) (fun _ _ _ _ => (pts_one (PW.pt (pw_or (pt_cmpR op_ge (pv 3) (pe_callB (len_seqK (K := K)) (by rfl) T.b_len (by decide +kernel) (pa_cons (pv 1) pa_nil)) (nomark _)) (pw_or1 (pt_cmpR (op_neDK (K := K) (GX.Room.gx4 hr).units) (pe_ix (ix_tupK (K := K)) (pv 2) (pv 3) (fun _ _ => rfl)) (pe_ix (ix_tupK (K := K)) (pv 1) (pv 3) (fun _ _ => rfl)) (nomark _))))))) (fun _ _ _ _ => (pv 3))))), ?_⟩
    refine ⟨_, rfl, a, _, 0, _, rfl, rfl, SqT.of N.top, at0, _, rfl, p', _, rfl, .inr (SqT.of hp'), _, _, rfl, ⟨by omega, by omega, by omega, by rw [List.length_map]; omega⟩, tb PO hP, fun H2 ht => ?_⟩
    have a2 : Aft Ts H H2 := ⟨Keep.tabbed hP ht, tb.tabbed ht⟩
    refine turns_it (walk_range (lo := ((n'.many : Nat) : Int)) (n := ((((qs'.map V.ref).length : Nat) : Int) - ((n'.many : Nat) : Int)).toNat)) (fun i ys H' => ys = (othL n n' k i).map nV ∧ Aft Ts H H') ⟨rfl, a2⟩ (fun i ys H' _ _ => trivial) ?_ ?_
    · rintro i x ys H3 H4 hi ⟨rfl, a3⟩ ⟨rfl, rfl⟩
      rw [List.length_map, ql', show (((n'.many + n'.gates.length : Nat) : Int) - ((n'.many : Nat) : Int)).toNat = n'.gates.length by omega] at hi
      have ei : V.int (((n'.many : Nat) : Int) + ((i : Nat) : Int)) = nV (n'.many + i) := congrArg V.int (by omega)
      show gName 3 (V.int (((n'.many : Nat) : Int) + ((i : Nat) : Int))) _ _ _
      rw [ei]
      have hp4 := a3.tup tb hp
      have hp4' := a3.tup tb hp'
      refine ⟨rfl, ?_⟩
      have step : ∀ bt : Bool, (bt = true ↔ Oth n n' k (n'.many + i)) → ∀ Rr : Bool → Prop, Rr (othB n n' k (n'.many + i)) → Rr bt := fun bt e Rr z => by
        have : bt = othB n n' k (n'.many + i) := Bool.eq_iff_iff.mpr (e.trans othB_iff.symm)
        rw [this]
        exact z
      refine ⟨_, rfl, _, rfl, p, _, rfl, .inr (SqT.of hp4), _, _, rfl, rfl, _, rfl, ite2 (fun hg => ?_) (fun hg => ?_)⟩
      · have hg : n.many + n.gates.length ≤ n'.many + i := by
          rw [List.length_map, ql] at hg
          exact Int.ofNat_le.mp (of_decide_eq_true hg)
        refine iteT ⟨_, rfl, (by show List.length _ < sizeLine; rw [List.length_map]; exact Nat.lt_of_le_of_lt (othL_len n n' k i) (Nat.lt_of_lt_of_le hi (small _ (by omega)))), fun _ => ⟨?_, a3⟩⟩
        rw [othL_succ, if_pos (othB_iff.mpr (.inl hg)), List.map_append]
        rfl
      · have hg : ¬ n.many + n.gates.length ≤ n'.many + i := by
          rw [List.length_map, ql] at hg
          exact fun z => hg (decide_eq_true (Int.ofNat_le.mpr z))
        have hb : n'.many + i < n'.many + n'.gates.length := by omega
        have ha : n'.many + i < n.many + n.gates.length := Nat.lt_of_not_le hg
        obtain ⟨qb, eb, rb, db, hqb, tb4, cb, _⟩ := (PQ'.mono fun q y h => CutsTold.mono h fun b xs e => a3.tup tb e).get (i := n'.many + i) (y := n'.many + i) (by rw [List.getElem?_range hb])
        obtain ⟨qa, ea, ra, da, hqa, ta4, ca, _⟩ := (PQ.mono fun q y h => CutsTold.mono h fun b xs e => a3.tup tb e).get (i := n'.many + i) (y := n'.many + i) (by rw [List.getElem?_range ha])
        refine ⟨_, rfl, _, rfl, p', _, _, _, rfl, rfl, SqT.of hp4', atI_nat eb, _, rfl, _, rfl, p, _, _, _, rfl, rfl, SqT.of hp4, atI_nat ea, .tuple (csD db), .tuple (csD da), dp_cs hqb tb4, dp_cs hqa ta4, csD_shaped _, csD_shaped _, _, rfl, ?_⟩
        refine step _ ?_ (fun b => if b = true then _ else _) ?_
        · rw [csD_eqT, oth_iff hg ca cb, Bool.not_eq_true', decide_eq_false_iff_not]
        · refine ite2 (fun ob => ?_) (fun ob => ?_)
          · refine ⟨_, rfl, (by show List.length _ < sizeLine; rw [List.length_map]; exact Nat.lt_of_le_of_lt (othL_len n n' k i) (Nat.lt_of_lt_of_le hi (small _ (by omega)))), fun _ => ⟨?_, a3⟩⟩
            rw [othL_succ, if_pos ob, List.map_append]
            rfl
          · refine ⟨?_, a3⟩
            rw [othL_succ, if_neg ob, List.append_nil]
    · rintro ys H3 ⟨rfl, a3⟩
      rw [List.length_map, ql', show (((n'.many + n'.gates.length : Nat) : Int) - ((n'.many : Nat) : Int)).toNat = n'.gates.length by omega]
      refine ⟨by rw [List.length_map]; exact small _ (by have := othL_len n n' k n'.gates.length; omega), fun r nr => ?_⟩
      exact q r _ (a3.trans (Aft.new a3.tb nr)) upd_same
end
section
variable {P : Program} {w : World} {K : PySem.W.Frag} {mg : Str → Option Value} {base : Heap} {Ts : List Addr} {PL CNoChange : Addr}
theorem net_rep {H : Hp} {v : V} {n : Net} (r : Rep H v (thNet n)) : ∃ (a g o : Addr) (ps : List Addr), v = .ref a ∧ NetAt H a n g o ps := by
  unfold thNet at r
  cases r with
  | @tup a vs _ e ra =>
    match ra with
    | .cons r1 (.cons r2 (.cons r3 .nil)) =>
      have e1 : ∀ {x : Nat} {v : V}, Rep H v (thN x) → v = nV x := fun r => by
        unfold thN at r
        cases r
        rfl
      have e3 : ∀ {os : List Nat} {vs : List V}, RepAll H vs (os.map thN) → vs = os.map nV := fun r => nats_rep r
      cases r2 with
      | @tup g gvs _ eg rg =>
        obtain ⟨ps, rfl, hp⟩ := rep_pts (R := fun H p (k : Nat × Nat × Nat) => H p = some (.tup (gV k))) (f := thG) (fun v k r => by
          unfold thG at r
          cases r with
          | @tup p kvs _ ep rp =>
            match rp with
            | .cons q1 (.cons q2 (.cons q3 .nil)) =>
              rw [e1 q1, e1 q2, e1 q3] at ep
              exact ⟨p, rfl, ep⟩) rg
        cases r3 with
        | @tup o ovs _ eo ro =>
          rw [e3 ro] at eo
          rw [e1 r1] at e
          exact ⟨a, g, o, ps, rfl, e, eg, ⟨hp.1, hp.2⟩, eo⟩
def spKDo (Ts : List Addr) (C CN : Addr) : Sp := fun vs H Q E => ∃ (kp a p : Addr) (n : Net) (k : Nat) (g o : Addr) (ps qs : List Addr) (v : V) (t : Th), vs = [.ref kp, v] ∧ KeepAt C H kp a p n k g o ps qs ∧ n.Ok ∧ 2 ≤ k ∧ k ≤ 1000 ∧ Rep H v t ∧ HeadOk t ∧ (∀ ts, t = .tup ts → ts.length ≤ 500) ∧ Tabs Ts H ∧
  (∀ ch : Chg, ch.Ok n → ch.th = t → ∀ r H' (a' p' g' o' : Addr) (ps' qs' : List Addr), H' r = some (.tup ((othL n (doN n ch) k (doN n ch).gates.length).map nV)) → KeepAt C H' kp a' p' (doN n ch) k g' o' ps' qs' → Tabs Ts H' → (∀ b u, b ≠ kp → b ∉ Ts → H b = some u → H' b = some u) → Q (.ref r) H') ∧ (¬ IsChg n t → ∀ H', Aft Ts H H' → E (.ref CN) none H')
theorem ok_kdo {C f c : Addr} (D : Mtd K C "do" "Keeper.do" s_Keeper_do f c) (T : Txt mg) (kc : KCls K C) (c_changed : CalX P w K mg base 7 "changed" (spChangedT Ts CNoChange)) (c_all_cuts : Cal P w K mg base 4 "all_cuts" (spAllCuts Ts) []) (c_other_gates : Cal P w K mg base 4 "other_gates" (spOther Ts) []) : MetX P w K mg base 8 C "do" (spKDo Ts C CNoChange) := by
  refine metX D (fun _ _ _ _ _ _ us hl => match us, hl with | [_, _], _ => rfl) sc_Keeper_do (fun vs H Q E h => ?_) (fun A outer s H vs Q E hr h tk => ?_)
  · obtain ⟨kp, a, p, n, k, g, o, ps, qs, v, t, rfl, _⟩ := h
    rfl
  · obtain ⟨kp, a, p, n, k, g, o, ps, qs, v, t, rfl, X, ok, hk2, hk, rv, hd, tl, tb, q1, q2⟩ := h
    obtain ⟨dx, e⟩ := X.ins
    refine ⟨_, (pss_cons (ps_set (i := 2) sc_Keeper_do.nd rfl (by first | exact Or.inl rfl | exact Or.inr rfl) (pe_cX c_changed tk hr (by decide) (by rfl) (pa_cons (pe_fld (pv 0) rfl) (pa_cons (pv 1) pa_nil))))
      (PSs.nox (pss_cons (ps_set (i := 3) sc_Keeper_do.nd rfl (by first | exact Or.inl rfl | exact Or.inr rfl) (pe_fld (pv 0) rfl))
      (pss_cons (ps_fld (pv 0) (pv 2) rfl)
      (pss_cons (ps_fld (pv 0) (pe_c c_all_cuts hr (by decide) (by rfl) (pa_cons (pv 2) (pa_cons (pe_fld (pv 0) rfl) pa_nil))) rfl)
      (pss_one (ps_ret (pe_c c_other_gates hr (by decide) (by rfl) (pa_cons (pv 2) (pa_cons (pv 3) (pa_cons (pe_fld (pv 0) rfl) pa_nil))))))))))), ?_⟩
    have kT : kp ∉ Ts := tb.nott e fun _ z => by cases z
    refine ⟨_, rfl, kp, C, dx, _, _, rfl, e, kc.cl, kc.h, rfl, _, rfl, a, n, g, o, ps, v, t, rfl, X.net, ok, rv, hd, tl, tb, fun ch cok ec r1v H1 a1 rr => ?_, fun hn H1 a1 => q2 hn H1 a1⟩
    obtain ⟨r1, g1, o1, ps1, rfl, N1⟩ := net_rep rr
    have ok' := doN_ok ok cok
    have e1 := a1.kp _ _ e kT
    refine ⟨_, rfl, kp, C, dx, _, _, rfl, e1, kc.cl, kc.p, rfl, ?_⟩
    refine ⟨_, rfl, _, rfl, kp, C, dx, _, rfl, e1, kc.cl, kc.h, (show 3 < 1000 by decide), ?_⟩
    have ef : putF "held" (V.ref r1) (putF "kept" (V.ref p) (putF "held" (V.ref a) (putF "k" (nV k) []))) = putF "kept" (V.ref p) (putF "held" (V.ref r1) (putF "k" (nV k) [])) := rfl
    rw [ef]
    have e2 : upd H1 kp (.ins C dx (putF "kept" (.ref p) (putF "held" (.ref r1) (putF "k" (nV k) [])))) kp = some (.ins C dx (putF "kept" (.ref p) (putF "held" (.ref r1) (putF "k" (nV k) [])))) := upd_same
    have t12 : ∀ b xs, H1 b = some (.tup xs) → upd H1 kp (.ins C dx (putF "kept" (.ref p) (putF "held" (.ref r1) (putF "k" (nV k) [])))) b = some (.tup xs) := fun b xs eb => by
      rw [upd_ne (fun z => by rw [z, e1] at eb; cases eb)]
      exact eb
    have o2 : ∀ b u, b ≠ kp → b ∉ Ts → H b = some u → upd H1 kp (.ins C dx (putF "kept" (.ref p) (putF "held" (.ref r1) (putF "k" (nV k) [])))) b = some u := fun b u nb nT eb => by
      rw [upd_ne nb]
      exact a1.kp _ _ eb nT
    have tb2 : Tabs Ts (upd H1 kp (.ins C dx (putF "kept" (.ref p) (putF "held" (.ref r1) (putF "k" (nV k) []))))) := a1.tb.upd kT
    have N2 := N1.mono t12
    have hp2 := t12 _ _ (a1.tup tb X.kept)
    have PQ2 := (X.cuts.mono fun q y h => h.mono fun b xs e => a1.tup tb e).mono fun q y h => CutsTold.mono h t12
    generalize upd H1 kp (.ins C dx (putF "kept" (.ref p) (putF "held" (.ref r1) (putF "k" (nV k) [])))) = H2 at e2 t12 o2 tb2 N2 hp2 PQ2 ⊢
    refine ⟨_, rfl, _, rfl, kp, C, dx, _, _, rfl, e2, kc.cl, kc.k, rfl, r1, doN n ch, g1, o1, ps1, k, rfl, N2, ok', hk2, hk, tb2, fun p3 H3 qs3 a3 hp3 PQ3 => ?_⟩
    have e3 := a3.kp _ _ e2 kT
    refine ⟨_, rfl, kp, C, dx, _, rfl, e3, kc.cl, kc.p, (show 3 < 1000 by decide), ?_⟩
    have ef : putF "kept" (V.ref p3) (putF "kept" (V.ref p) (putF "held" (V.ref r1) (putF "k" (nV k) []))) = putF "kept" (V.ref p3) (putF "held" (V.ref r1) (putF "k" (nV k) [])) := rfl
    rw [ef]
    have e4 : upd H3 kp (.ins C dx (putF "kept" (.ref p3) (putF "held" (.ref r1) (putF "k" (nV k) [])))) kp = some (.ins C dx (putF "kept" (.ref p3) (putF "held" (.ref r1) (putF "k" (nV k) [])))) := upd_same
    have t34 : ∀ b xs, H3 b = some (.tup xs) → upd H3 kp (.ins C dx (putF "kept" (.ref p3) (putF "held" (.ref r1) (putF "k" (nV k) [])))) b = some (.tup xs) := fun b xs eb => by
      rw [upd_ne (fun z => by rw [z, e3] at eb; cases eb)]
      exact eb
    have o4 : ∀ b u, b ≠ kp → b ∉ Ts → H b = some u → upd H3 kp (.ins C dx (putF "kept" (.ref p3) (putF "held" (.ref r1) (putF "k" (nV k) [])))) b = some u := fun b u nb nT eb => by
      rw [upd_ne nb]
      exact a3.kp _ _ (o2 b u nb nT eb) nT
    have tb4 : Tabs Ts (upd H3 kp (.ins C dx (putF "kept" (.ref p3) (putF "held" (.ref r1) (putF "k" (nV k) []))))) := a3.tb.upd kT
    have t24 : ∀ b xs, H2 b = some (.tup xs) → upd H3 kp (.ins C dx (putF "kept" (.ref p3) (putF "held" (.ref r1) (putF "k" (nV k) [])))) b = some (.tup xs) := fun b xs eb => t34 _ _ (a3.tup tb2 eb)
    have N4 := N2.mono t24
    have hp4 := t24 _ _ hp2
    have PQ4 := PQ2.mono fun q y h => CutsTold.mono h t24
    have hq4 := t34 _ _ hp3
    have QQ4 := PQ3.mono fun q y h => CutsTold.mono h t34
    generalize upd H3 kp (.ins C dx (putF "kept" (.ref p3) (putF "held" (.ref r1) (putF "k" (nV k) [])))) = H4 at e4 t34 o4 tb4 t24 N4 hp4 PQ4 hq4 QQ4 ⊢
    refine ⟨_, rfl, _, rfl, _, rfl, kp, C, dx, _, _, rfl, e4, kc.cl, kc.p, rfl, r1, p, p3, n, doN n ch, g1, o1, ps1, qs, qs3, k, rfl, N4, ok', hp4, PQ4, hq4, QQ4, tb4, fun r5 H5 a5 hr5 => ?_⟩
    refine q1 ch cok ec r5 H5 r1 p3 g1 o1 ps1 qs3 hr5 ⟨⟨dx, a5.kp _ _ e4 kT⟩, N4.aft tb4 a5, a5.tup tb4 hq4, QQ4.mono fun q y h => CutsTold.mono h fun b xs e => a5.tup tb4 e⟩ a5.tb fun b u nb nT eb => a5.kp _ _ (o4 b u nb nT eb) nT
end
end K80
set_option Elab.async false
set_option linter.all false
set_option maxRecDepth 100000
set_option maxHeartbeats 4000000
/-! rows of a desk: words and numbers below a hundred -/
namespace GX
open PySem PySem.Spec PyProof.Rows L2 TL
theorem dgs_100 : ∀ n, n < 100 → numW (dgs n) = some n ∧ 32 ∉ dgs n ∧ 10 ∉ dgs n ∧ (dgs n).length ≤ 2 ∧ 43 ∉ dgs n ∧ 58 ∉ dgs n ∧ dgs n ≠ [] := by decide +kernel
theorem lg100 : ∀ n : Nat, n < 100 → ((n : Int)).natAbs.log2 < 1920 := by decide +kernel
theorem str_dgs (n : Nat) : Str.ofString (toString (n : Int)) = mkS (dgs n) := mkS_eq rfl
theorem nums_100 {ns : List Nat} (h : ∀ n ∈ ns, n < 100) : numsW (ns.map dgs) = some ns := by
  unfold numsW
  rw [if_pos]
  · refine congrArg some ?_
    rw [List.map_map]
    refine (List.map_congr_left fun n hn => ?_).trans (List.map_id ns)
    show (numW (dgs n)).getD 0 = n
    rw [(dgs_100 n (h n hn)).1]
    rfl
  · rw [List.all_eq_true]
    intro w hw
    obtain ⟨n, hn, rfl⟩ := List.mem_map.mp hw
    rw [(dgs_100 n (h n hn)).1]
    rfl
theorem words_100 {h : List Nat} (h2 : 32 ∉ h) {ns : List Nat} (hn : ∀ n ∈ ns, n < 100) : wordsW (joinL [32] (h :: ns.map dgs)) = h :: ns.map dgs := words_join (by simp) fun w hw => by
  rcases List.mem_cons.mp hw with rfl | hw
  · exact h2
  · obtain ⟨n, hn', rfl⟩ := List.mem_map.mp hw
    exact (dgs_100 n (hn n hn')).2.1
/-- a row of a word and numbers -/
def rowS (h : List Nat) (ns : List Nat) : Str := mkS (joinL [32] (h :: ns.map dgs))
theorem row_words {h : List Nat} (h2 : 32 ∉ h) {ns : List Nat} (hn : ∀ n ∈ ns, n < 100) : Txt.split (rowS h ns) (Str.ofString " ") = mkS h :: ns.map fun n => mkS (dgs n) := by
  refine map_tl_inj ?_
  have e : (Txt.split (rowS h ns) (Str.ofString " ")).map tl = spl [32] 0 [] (tl (rowS h ns)) := split_spl (rowS h ns) _ (by decide +kernel) (kind_ok (by decide +kernel))
  rw [e]
  have e2 : spl [32] 0 [] (tl (rowS h ns)) = h :: ns.map dgs := words_100 h2 hn
  rw [e2, List.map_cons, List.map_map]
  rfl
theorem row_sl {h : List Nat} (hh : h.length ≤ 10) {ns : List Nat} (hn : ∀ n ∈ ns, n < 100) (hl : ns.length ≤ 100) : (rowS h ns).length ≤ 2000 := by
  show (mkS _).length ≤ 2000
  rw [len_mkS]
  have := len_joinL (S := [32]) (b := 10) (ws := h :: ns.map dgs) fun w hw => by
    rcases List.mem_cons.mp hw with rfl | hw
    · exact hh
    · obtain ⟨n, hn', rfl⟩ := List.mem_map.mp hw
      exact Nat.le_trans (dgs_100 n (hn n hn')).2.2.2.1 (by decide)
  rw [List.length_cons, List.length_map] at this
  have h2 : (ns.length + 1) * (10 + [32].length) ≤ 101 * 11 := Nat.mul_le_mul (by omega) (by decide)
  omega
/-- a change as a row writes it -/
def chgTh (h : Str) : Option (List Nat) → Th
  | none => .non
  | some ns => if h = "gate" then .tup (.str "more" :: ns.map thN) else if h = "outs" then .tup [.str "outs", .tup (ns.map thN)] else if h = "kind" ∨ h = "lead" ∨ h = "less" then .tup (.str h :: ns.map thN) else .non
/-- what is told of a change -/
def okS (gs : List Nat) : Str := rowS (tl (Str.ofString "ok")) gs
end GX
namespace GX
open PySem PySem.Spec PyProof.Rows L2 TL
abbrev nS (n : Nat) : Str := Str.ofString (toString ((n : Nat) : Int))
theorem nS_len {n : Nat} (h : n < 100) : (nS n).length ≤ 2 := by
  rw [len_tl]
  exact (dgs_100 n h).2.2.2.1
theorem text2 {h h' : Str} (e : tl h' = tl h ++ [32]) (a b : Nat) : h' ++ nS a ++ Str.ofString " " ++ nS b = rowS (tl h) [a, b] := by
  refine ext_tl ?_
  rw [tl_append, tl_append, tl_append, e, show tl (Str.ofString " ") = [32] by decide +kernel, List.append_assoc, List.append_assoc, List.append_assoc]
  rfl
theorem text3 {h h' : Str} (e : tl h' = tl h ++ [32]) (a b c : Nat) : h' ++ nS a ++ Str.ofString " " ++ nS b ++ Str.ofString " " ++ nS c = rowS (tl h) [a, b, c] := by
  refine ext_tl ?_
  rw [tl_append, tl_append, tl_append, tl_append, tl_append, e, show tl (Str.ofString " ") = [32] by decide +kernel, List.append_assoc, List.append_assoc, List.append_assoc, List.append_assoc, List.append_assoc]
  rfl
end GX
namespace GX
open PySem PySem.Spec PyProof.Rows L2 TL
theorem textL {h h' : Str} (e : tl h' = tl h ++ [32]) {os : List Nat} (ne : os ≠ []) : h' ++ Txt.join (Str.ofString " ") (os.map nS) = rowS (tl h) os := by
  refine ext_tl ?_
  rw [tl_append, e, join_eq, tl_join, show tl (Str.ofString " ") = [32] by decide +kernel, List.map_map]
  cases os with
  | nil => exact absurd rfl ne
  | cons a r =>
    rw [List.append_assoc]
    rfl
theorem nS_fit {os : List Nat} (h : ∀ x ∈ os, x < 100) {b : Nat} (hl : os.length ≤ b) (hb : b ≤ 1000) : ((os.map nS).map (·.length)).sum + (os.map nS).length * (Str.ofString " ").length ≤ 16777216 ∧ (Txt.join (Str.ofString " ") (os.map nS)).length ≤ 3000 := by
  have hx : ∀ y ∈ os.map nS, y.length ≤ 2 := fun y hy => by
    obtain ⟨x, hx, rfl⟩ := List.mem_map.mp hy
    exact nS_len (h x hx)
  refine ⟨join_fits (b := 2) (c := 1000) (d := (Str.ofString " ").length) hx (by rw [List.length_map]; omega) (by decide +kernel), ?_⟩
  rw [len_tl, join_eq, tl_join, show tl (Str.ofString " ") = [32] by decide +kernel]
  have := len_joinL (S := [32]) (b := 2) (ws := (os.map nS).map tl) fun w hw => by
    obtain ⟨y, hy, rfl⟩ := List.mem_map.mp hw
    rw [← len_tl]
    exact hx y hy
  rw [List.length_map, List.length_map] at this
  exact Nat.le_trans this (Nat.le_trans (Nat.mul_le_mul_right _ (Nat.le_trans hl hb)) (by decide))
end GX
set_option Elab.async false
set_option linter.all false
set_option maxRecDepth 100000
set_option maxHeartbeats 4000000
namespace K80
open PySem PySem.Spec PyProof.Rows L2 GX
open C8 (Cal pe_c pe_gc Met Mak)
-- @dict CHANGES
-- @no CHANGES 0 ""
-- @no CHANGES 1 "0"
-- @no CHANGES 2 "way"
-- @no CHANGES 3 "Kind"
-- @no CHANGES 4 "leads"
-- @dict QUESTIONS
-- @no QUESTIONS 0 "gate"
-- @no QUESTIONS 1 "kind"
-- @no QUESTIONS 2 "lead"
-- @no QUESTIONS 3 "less"
-- @no QUESTIONS 4 "outs"
-- @exc NoText
-- @exc NoDepth
-- @exc TooMany
-- @exc NoMatch
-- @exc NoChange made
-- @exc NoRow made
-- @sub NoChange NoChange true
-- @sub NoRow NoRow true
-- @sub NoRow ValueError true
-- @sub NoRow NoText false
-- @sub NoRow NoDepth false
-- @sub NoRow TooMany false
-- @sub NoRow NoMatch false
-- @sub NoRow NoChange false
-- @cls Keeper k:i,held:N,kept:t[t[t[i]]]
-- @cls Desk keeper:OKeeper
-- @alt rises list par=l[i]
-- @alt cut_masks tup par=N,t[i],i vars=masks:DL,wire:i
-- @alt one_deeper tup par=t[i],t[i]
-- @alt _law_written tup par=t[i],s
section
variable {P : Program} {w : World} {K : PySem.W.Frag} {mg : Str → Option Value} {base : Heap} {Ts : List Addr}
open TL
def spNumIn (Ts : List Addr) : Sp := fun vs H Q _ => ∃ x : Str, vs = [.str x] ∧ x.length ≤ sizeLine ∧ Tabs Ts H ∧ ∀ H', Aft Ts H H' → Q (oV (numW (tl x))) H'
theorem ok_number_in {f c PN : Addr} (D : Dfn K mg "number_in" s_number_in f c) (T : Txt mg) (TB_number_in : GxR.TabB base mg c PN) (hP : PN ∈ Ts) : Cal P w K mg base 3 "number_in" (spNumIn Ts) [] := by
  refine cal D (fun _ _ _ _ _ _ us hl => match us, hl with | [_], _ => rfl) sc_number_in (fun vs H Q E h => ?_) (fun A outer s H vs Q E hr h => ?_)
  · obtain ⟨x, rfl, _⟩ := h
    rfl
  · obtain ⟨x, rfl, hx, tb, q⟩ := h
    refine ⟨_, (pss_cons (ps_if (PW.pt (pw_or (pt_cmpR op_eq (pv 0) pe_str (nomark _)) (pw_or1 (pt_val (pe_anyG (own := [("sign", 1)]) hr (by rfl) T.b_any TB_number_in rfl (gxOk_by (N := ["word", "sign", "number"]) (sc := defScope s_number_in) (own := [("sign", 1)]) (by decide +kernel)) sc_number_in.nd (pi_str (pv 0)) (fun _ _ _ _ => (pg_name (i := 1) sc_number_in.nd rfl (by first | exact Or.inl rfl | exact Or.inr rfl))) (fun _ _ _ _ => pts_nil) (fun _ _ _ _ => (pe_cmpR op_notIn_sign (pv 1) (pe_gc (by rfl) T.g_FIGURES) (by rfl)))))))) (pss_one (ps_ret pe_non)) pss_nil)
      (pss_cons (ps_if (PW.pt (pw_and (pt_cmpR op_eq (pe_ix ix_str (pv 0) pe_int (fun _ _ => rfl)) pe_str (nomark _)) (pw_and1 (pt_cmpR op_ne (pv 0) pe_str (nomark _))))) (pss_one (ps_ret pe_non)) pss_nil)
      (pss_cons (ps_set (i := 2) sc_number_in.nd rfl (by first | exact Or.inl rfl | exact Or.inr rfl) pe_int)
      (pss_cons (ps_for PassesOwn.never rfl (pi_str (pv 0)) (pg_name (i := 1) sc_number_in.nd rfl (by first | exact Or.inl rfl | exact Or.inr rfl))
        (pss_one (ps_set (i := 2) sc_number_in.nd rfl (by first | exact Or.inl rfl | exact Or.inr rfl) (pe_op op_add (pe_op op_mul pe_int (pv 2)) (pe_m1 PySem.F.slot_str_index PySem.F.type_str_index mt_sindex (pe_gc (by rfl) T.g_FIGURES) (pv 1))))))
      (pss_one (ps_ret (pv 2))))))), ?_⟩
    clear hr
    have qn : ∀ H', Aft Ts H H' → numW (tl x) = none → Q .non H' := fun H' a e => by
      have := q H' a
      rw [e] at this
      exact this
    refine ⟨_, rfl, rfl, _, rfl, ite2 (fun g => ?_) (fun g => ?_)⟩
    · have e := V.str.inj (of_decide_eq_true g)
      exact qn H (Aft.refl tb) (by rw [e]; rfl)
    have hne : tl x ≠ [] := fun z => g (decide_eq_true (congrArg V.str (ext_tl (z.trans (by decide +kernel)))))
    refine ⟨_, rfl, x, rfl, tb PN hP, fun H2 ht => ?_⟩
    have a2 : Aft Ts H H2 := ⟨Keep.tabbed hP ht, tb.tabbed ht⟩
    refine turns_it (walk_str (z := x)) (fun i ys H' => (∀ c ∈ (tl x).take i, dgC c = true) ∧ Aft Ts H H') ⟨(fun c hc => by cases hc), a2⟩ (fun _ _ _ _ _ => trivial) ?_ ?_
    · rintro i y ys H3 H4 hi ⟨al, a3⟩ ⟨rfl, ch, hc, rfl⟩
      have hc : (tl x)[i]? = some ch := by rw [← hc, Array.getElem?_toList]
      refine ⟨rfl, ?_⟩
      unfold tYes
      refine iteT ?_
      refine ⟨_, rfl, ch, _, rfl, rfl, ?_⟩
      show (conAny _).Kx _ (V.bl !decide (ch ∈ tl ("0123456789" : Str))) _ ∧ _
      rw [figs ch]
      refine ⟨⟨_, rfl, fun hf => ?_⟩, fun hd => ⟨?_, a3⟩⟩
      · refine ⟨_, rfl, iteT ?_⟩
        refine qn _ a3 ?_
        unfold numW
        rw [if_neg hne, if_neg fun z => ?_]
        have := List.all_eq_true.mp z ch (List.mem_of_getElem? hc)
        rw [this] at hf
        cases hf
      · intro c' hc'
        rw [List.take_add_one, hc] at hc'
        rcases List.mem_append.mp hc' with h | h
        · exact al c' h
        · have : c' = ch := by simpa using h
          rw [this]
          have := V.bl.inj hd
          cases e : dgC ch with
          | true => rfl
          | false => rw [e] at this; cases this
    rintro ys H3 ⟨al, a3⟩
    have hall : (tl x).all dgC = true := List.all_eq_true.mpr fun c hc => al c (by rw [List.take_of_length_le]; exact hc; show (tl x).length ≤ x.cps.size; exact Nat.le_of_eq (by simp))
    refine ⟨_, rfl, iteF ?_⟩
    obtain ⟨c0, r, ex⟩ := List.exists_cons_of_ne_nil hne
    have h0 : atI x.cps.toList 0 = some c0 := by show atI (tl x) ((0 : Nat) : Int) = _; rw [ex]; exact atI_nat rfl
    have hd : decide (V.str ⟨#[c0]⟩ = V.str "0") = decide (c0 = 48) := by
      by_cases h : c0 = 48
      · rw [h, decide_eq_true rfl]
        exact decide_eq_true (by congr 1)
      · rw [decide_eq_false h]
        exact decide_eq_false fun z => h (by have := congrArg tl (V.str.inj z); have e2 : tl ("0" : Str) = [48] := by decide +kernel
                                             rw [e2] at this; exact (List.cons.inj this).1)
    have hx0 : decide (V.str x = V.str "0") = decide (tl x = [48]) := by
      have e2 : tl ("0" : Str) = [48] := by decide +kernel
      by_cases h : tl x = [48]
      · rw [decide_eq_true h]
        exact decide_eq_true (congrArg V.str (ext_tl (h.trans e2.symm)))
      · rw [decide_eq_false h]
        exact decide_eq_false fun z => h (by rw [V.str.inj z]; exact e2)
    have hn : ¬ (c0 = 48 ∧ tl x ≠ [48]) → Q (nV (valW (tl x))) H3 := fun hz => by
      have := q _ a3
      unfold numW at this
      rw [if_neg hne, if_pos hall, if_neg] at this
      · exact this
      · intro z
        refine hz ⟨?_, z.2⟩
        have := z.1
        rw [ex] at this
        exact Option.some.inj this
    have end_ : ¬ (c0 = 48 ∧ tl x ≠ [48]) → ∀ σ, σ = L2.start ["word", "sign", "number"] [V.str x] → (tSeq (tAsg (tC (V.int 0)) (gName 2)) (tSeq (tFor (iStr (tVar 0)) (gName 1) (tAsg (tOp (rI0 fun i j => V.int (i + j)) (tOp (rI CMul fun i j => V.int (i * j)) (tC (V.int 10)) (tVar 2)) (tM1 (fun x xs H Q => ∃ a b i rest, x = V.str a ∧ xs = [V.str b] ∧ Builtin.Str.occurrences a b 0 a.length 1 = i :: rest ∧ Q (V.int ↑i) H) (tC (V.str "0123456789")) (tVar 1))) (gName 2))) (tRet (tVar 2)))) { nx := fun x H' => Q V.non H', rt := Q } σ H3 := by
      rintro hz σ rfl
      refine ⟨_, rfl, x, rfl, ?_⟩
      refine for_it (walk_str (z := x)) (fun i σ H' => ∃ x1, σ = [some (.str x), x1, some (nV (valW ((tl x).take i)))] ∧ H' = H3) ⟨_, rfl, rfl⟩ (fun _ _ _ _ _ => trivial) ?_ ?_
      · rintro i y σ H4 H5 hi ⟨x1, rfl, rfl⟩ ⟨rfl, ch, hc, rfl⟩
        have hc : (tl x)[i]? = some ch := by rw [← hc, Array.getElem?_toList]
        have hdc := List.all_eq_true.mp hall ch (List.mem_of_getElem? hc)
        have hd' := Bool.and_eq_true_iff.mp hdc
        have b1 := of_decide_eq_true hd'.1
        have b2 := of_decide_eq_true hd'.2
        refine ⟨_, rfl, _, _, rfl, rfl, .inl (by decide), ⟨_, rfl⟩, _, rfl, _, _, ch - 48, [], rfl, rfl, fig_at ch (by omega) b1, _, _, rfl, rfl, ?_⟩
        have ev : V.int (10 * ((valW ((tl x).take i) : Nat) : Int) + ((ch - 48 : Nat) : Int)) = nV (valW ((tl x).take (i + 1))) := by
          rw [List.take_add_one, hc]
          unfold valW
          rw [Option.toList_some, List.foldl_append]
          show _ = V.int (((10 * List.foldl (fun n c => 10 * n + (c - 48)) 0 ((tl x).take i) + (ch - 48) : Nat)) : Int)
          rw [Int.natCast_add, Int.natCast_mul]
          rfl
        exact ⟨_, by rw [← ev]; rfl, rfl⟩
      · rintro σ H4 ⟨x1, rfl, rfl⟩
        have e : (tl x).take x.cps.size = tl x := List.take_of_length_le (by show (tl x).length ≤ x.cps.size; exact Nat.le_of_eq (by simp))
        refine ⟨_, rfl, ?_⟩
        rw [e]
        exact hn hz
    refine ⟨_, rfl, _, _, c0, rfl, rfl, hx, h0, rfl, _, rfl, ite2 (fun g1 => ?_) (fun g1 => ?_)⟩
    · rw [hd] at g1
      refine ⟨_, rfl, rfl, _, rfl, ?_⟩
      rw [hx0]
      refine ite2 (fun g2 => ?_) (fun g2 => ?_)
      · refine qn _ a3 ?_
        unfold numW
        have g2 : tl x ≠ [48] := fun z => by rw [decide_eq_true z] at g2; cases g2
        rw [if_neg hne, if_pos hall, if_pos ⟨by rw [ex]; exact congrArg some (of_decide_eq_true g1), g2⟩]
      · have g2 : tl x = [48] := Classical.not_not.mp fun z => g2 (by rw [decide_eq_false z]; rfl)
        exact end_ (fun z => z.2 g2) _ rfl
    · rw [hd] at g1
      refine iteF ?_
      exact end_ (fun z => g1 (decide_eq_true z.1)) _ rfl
def spNumsIn (Ts : List Addr) : Sp := fun vs H Q _ => ∃ (p : Addr) (ws : List Str), vs = [.ref p] ∧ H p = some (.lst (ws.map V.str)) ∧ ws.length < sizeLine ∧ (∀ x ∈ ws, x.length ≤ sizeLine) ∧ Tabs Ts H ∧ ∀ v H', Aft Ts H H' → TupO H' v (numsW (ws.map tl)) → Q v H'
theorem ok_numbers_in {f c : Addr} (D : Dfn K mg "numbers_in" s_numbers_in f c) (T : Txt mg) (c_number_in : Cal P w K mg base 3 "number_in" (spNumIn Ts) []) : Cal P w K mg base 4 "numbers_in" (spNumsIn Ts) [] := by
  refine cal D (fun _ _ _ _ _ _ us hl => match us, hl with | [_], _ => rfl) sc_numbers_in (fun vs H Q E h => ?_) (fun A outer s H vs Q E hr h => ?_)
  · obtain ⟨p, ws, rfl, _⟩ := h
    rfl
  · obtain ⟨p, ws, rfl, hp, hl, hw, tb, q⟩ := h
    refine ⟨_, (pss_cons (ps_setLc (i := 1) (own := [("word", 2)]) (g := gName 2) (tt := tYes) rfl sc_numbers_in.nd rfl rfl (sw_true rfl rfl rfl (by decide +kernel)) (pi_list (pv 0)) (blkOk_by (own := [("word", 2)]) (N := ["words", "numbers", "word"]) (sc := defScope s_numbers_in) (by decide +kernel)) (fun _ _ _ _ _ => (pg_name (i := 2) sc_numbers_in.nd rfl (by first | exact Or.inl rfl | exact Or.inr rfl))) (fun _ _ _ _ _ => pts_nil) (fun _ _ _ _ _ => (pe_c c_number_in hr (by decide) (by rfl) (pa_cons (pv 2) pa_nil))))
      (pss_cons (ps_if (pt_cmpR op_in_seq pe_non (pv 1) (by rfl)) (pss_one (ps_ret pe_non)) pss_nil)
      (pss_one (ps_ret (pe_callTy call_tuple_of (by rfl) T.b_tuple (by decide +kernel) (pa_cons (pv 1) pa_nil)))))), ?_⟩
    clear hr
    refine ⟨_, rfl, p, rfl, ⟨_, SqL.of hp⟩, fun L nL => ?_⟩
    have nT : L ∉ Ts := tb.none nL
    refine lc_list (K := K) (a := p) (xs := ws.map V.str) (fun i H' => Aft Ts H H' ∧ H' L = some (.lst (((ws.take i).map fun x => numW (tl x)).map oV))) ⟨Aft.putW (Aft.refl tb) nL nT, upd_same⟩ (fun i H' _ h => SqL.of (h.1.lst tb hp)) ?_ ?_
    · rintro i y H3 hy ⟨a3, h3⟩
      rw [List.getElem?_map] at hy
      obtain ⟨x, hx, rfl⟩ := Option.map_eq_some_iff.mp hy
      have hi := (List.getElem?_eq_some_iff.mp hx).1
      refine ⟨rfl, ?_⟩
      unfold tYes
      refine iteT ?_
      refine ⟨_, rfl, x, rfl, hw x (List.mem_of_getElem? hx), a3.tb, fun H4 a4 => ⟨_, a4.lst a3.tb h3, by rw [List.length_map, List.length_map, List.length_take]; omega, Aft.putW (a3.trans a4) nL nT, ?_⟩⟩
      rw [upd_same, List.take_add_one, hx, List.map_append, List.map_append]
      rfl
    rintro H3 ⟨a3, h3⟩
    rw [List.length_map, List.take_length] at h3
    refine ⟨_, rfl, L, _, rfl, .inl (SqL.of h3), rfl, ?_, _, rfl, ?_⟩
    · rw [List.all_eq_true]
      intro v hv
      obtain ⟨o, _, rfl⟩ := List.mem_map.mp hv
      cases o <;> rfl
    show if (inV .non _) = true then _ else _
    rw [inV_oV]
    have hall : ((ws.map tl).all fun w => (numW w).isSome) = !((ws.map fun x => numW (tl x)).any Option.isNone) := by
      rw [List.all_map, List.any_map, List.all_eq_not_any_not]
      congr 2
      funext x
      show (!(numW (tl x)).isSome) = (numW (tl x)).isNone
      cases numW (tl x) <;> rfl
    refine ite2 (fun g => ?_) (fun g => ?_)
    · refine q _ _ a3 ?_
      unfold numsW
      rw [hall, g, if_neg (by decide)]
      rfl
    · refine ⟨_, rfl, L, _, rfl, .inl ⟨SqL.of h3, fun r nr => ?_⟩⟩
      refine q _ _ (a3.trans (Aft.new a3.tb nr)) ?_
      unfold numsW
      rw [hall, Bool.eq_false_iff.mpr g, if_pos (by decide)]
      refine ⟨r, rfl, ?_⟩
      rw [upd_same]
      have hs : ∀ x ∈ ws, (numW (tl x)).isSome = true := fun x hx => by
        have h1 : ((ws.map tl).all fun w => (numW w).isSome) = true := by rw [hall, Bool.eq_false_iff.mpr g]; rfl
        exact List.all_eq_true.mp h1 (tl x) (List.mem_map.mpr ⟨x, hx, rfl⟩)
      rw [List.map_map, List.map_map, List.map_map]
      refine congrArg (fun z => some (HO.tup z)) (List.map_congr_left fun x hx => ?_)
      show oV (numW (tl x)) = nV ((numW (tl x)).getD 0)
      cases e : numW (tl x) with
      | none => have := hs x hx; rw [e] at this; cases this
      | some v => rfl
end
end K80
set_option Elab.async false
set_option linter.all false
set_option maxRecDepth 100000
set_option maxHeartbeats 4000000
namespace K80
open PySem PySem.Spec PyProof.Rows L2 GX
open C8 (Cal pe_c pe_gc Met Mak)
-- @dict CHANGES
-- @no CHANGES 0 ""
-- @no CHANGES 1 "0"
-- @no CHANGES 2 "way"
-- @no CHANGES 3 "Kind"
-- @no CHANGES 4 "leads"
-- @dict QUESTIONS
-- @no QUESTIONS 0 "gate"
-- @no QUESTIONS 1 "kind"
-- @no QUESTIONS 2 "lead"
-- @no QUESTIONS 3 "less"
-- @no QUESTIONS 4 "outs"
-- @exc NoText
-- @exc NoDepth
-- @exc TooMany
-- @exc NoMatch
-- @exc NoChange made
-- @exc NoRow made
-- @sub NoChange NoChange true
-- @sub NoRow NoRow true
-- @sub NoRow ValueError true
-- @sub NoRow NoText false
-- @sub NoRow NoDepth false
-- @sub NoRow TooMany false
-- @sub NoRow NoMatch false
-- @sub NoRow NoChange false
-- @cls Keeper k:i,held:N,kept:t[t[t[i]]]
-- @cls Desk keeper:OKeeper
-- @alt rises list par=l[i]
-- @alt cut_masks tup par=N,t[i],i vars=masks:DL,wire:i
-- @alt one_deeper tup par=t[i],t[i]
-- @alt _law_written tup par=t[i],s
section
variable {P : Program} {w : World} {K : PySem.W.Frag} {mg : Str → Option Value} {base : Heap} {Ts : List Addr} {CKeeper CDesk CNoChange CNoRow : Addr}
open TL
def spFigs : Sp := fun vs H Q _ => ∃ (p : Addr) (ns : List Nat), vs = [.ref p] ∧ H p = some (.tup (ns.map nV)) ∧ ns.length ≤ 1000 ∧ (∀ n ∈ ns, n < 100) ∧ ∀ L H', Same H H' → H' L = some (.lst ((ns.map fun n => mkS (dgs n)).map V.str)) → Q (.ref L) H'
theorem ok_figs {f c : Addr} (D : Dfn K mg "in_figures" s_in_figures f c) (T : Txt mg) : Cal P w K mg base 1 "in_figures" spFigs [] := by
  refine cal D (fun _ _ _ _ _ _ us hl => match us, hl with | [_], _ => rfl) sc_in_figures (fun vs H Q E h => ?_) (fun A outer s H vs Q E hr h => ?_)
  · obtain ⟨p, ns, rfl, _⟩ := h
    rfl
  · obtain ⟨p, ns, rfl, hp, hl, hn, q⟩ := h
    refine ⟨_, (pss_one (ps_ret (pe_lc (own := [("number", 1)]) (g := gName 1) (tt := tYes) rfl sc_in_figures.nd (pi_tup (pv 0)) (blkOk_by (own := [("number", 1)]) (N := ["numbers", "number"]) (sc := defScope s_in_figures) (by decide +kernel)) (fun _ _ _ _ _ => (pg_name (i := 1) sc_in_figures.nd rfl (by first | exact Or.inl rfl | exact Or.inr rfl))) (fun _ _ _ _ _ => pts_nil) (fun _ _ _ _ _ => (pe_callTy call_str_int (by rfl) T.b_str (by decide +kernel) (pa_cons (pv 1) pa_nil)))))), ?_⟩
    clear hr
    refine ⟨_, rfl, p, rfl, ⟨_, SqT.of hp⟩, fun M nM => ?_⟩
    refine lc_tup (K := K) (a := p) (xs := ns.map nV) (fun i H' => Own H H' M (((ns.take i).map fun n => mkS (dgs n)).map V.str)) ⟨Same.new nM, upd_same, nM⟩ (fun i H' _ o' => SqT.of (o'.sm _ _ hp)) ?_ ?_
    · rintro i y H2 hy o2
      rw [List.getElem?_map] at hy
      obtain ⟨x, hx, rfl⟩ := Option.map_eq_some_iff.mp hy
      have hi := (List.getElem?_eq_some_iff.mp hx).1
      refine ⟨rfl, ?_⟩
      unfold tYes
      refine iteT ?_
      refine ⟨_, rfl, _, rfl, lg100 x (hn x (List.mem_of_getElem? hx)), _, o2.at_, by rw [List.length_map, List.length_map, List.length_take]; exact small256 (by omega), ?_⟩
      rw [List.take_add_one, hx, List.map_append, List.map_append, str_dgs]
      exact o2.app
    · rintro H2 o2
      rw [List.length_map, List.take_length] at o2
      exact q M H2 o2.sm o2.at_
def spChgW (Ts : List Addr) : Sp := fun vs H Q _ => ∃ (h : Str) (p : Addr) (ws : List Str), vs = [.str h, .ref p] ∧ H p = some (.lst (ws.map V.str)) ∧ ws.length ≤ 400 ∧ (∀ x ∈ ws, x.length ≤ sizeLine) ∧ Tabs Ts H ∧ ∀ v H', Aft Ts H H' → Rep H' v (chgTh h (numsW (ws.map tl))) → Q v H'
theorem ok_chgw {f c : Addr} (D : Dfn K mg "change_written" s_change_written f c) (T : Txt mg) (c_numbers_in : Cal P w K mg base 4 "numbers_in" (spNumsIn Ts) []) : Cal P w K mg base 5 "change_written" (spChgW Ts) [] := by
  refine cal D (fun _ _ _ _ _ _ us hl => match us, hl with | [_, _], _ => rfl) sc_change_written (fun vs H Q E h => ?_) (fun A outer s H vs Q E hr h => ?_)
  · obtain ⟨h, p, ws, rfl, _⟩ := h
    rfl
  · obtain ⟨hd, p, ws, rfl, hp, hl, hw, tb, q⟩ := h
    refine ⟨_, (pss_cons (ps_set (i := 2) sc_change_written.nd rfl (by first | exact Or.inl rfl | exact Or.inr rfl) (pe_c c_numbers_in hr (by decide) (by rfl) (pa_cons (pv 1) pa_nil)))
      (pss_cons (ps_if (pt_cmpR op_isN (pv 2) pe_non (nomark _)) (pss_one (ps_ret pe_non)) pss_nil)
      (pss_cons (ps_if (pt_cmpR op_eq (pv 0) pe_str (nomark _)) (pss_one (ps_ret (pe_op op_catA (pe_tup (pa_cons pe_str pa_nil)) (pv 2)))) pss_nil)
      (pss_cons (ps_if (pt_cmpR op_eq (pv 0) pe_str (nomark _)) (pss_one (ps_ret (pe_tup (pa_cons pe_str (pa_cons (pv 2) pa_nil))))) pss_nil)
      (pss_one (ps_ret (pe_ifExp (pt_cmpR op_in_seq (pv 0) (pe_tup (pa_cons pe_str (pa_cons pe_str (pa_cons pe_str pa_nil)))) (by rfl)) (pe_op op_catA (pe_tup (pa_cons (pv 0) pa_nil)) (pv 2)) pe_non))))))), ?_⟩
    clear hr
    refine ⟨_, rfl, p, ws, rfl, hp, Nat.lt_of_le_of_lt hl (by decide), hw, tb, fun v H1 a1 hv => ?_⟩
    have hv : TupO H1 v (numsW (ws.map tl)) := hv
    have nl : ∀ ns, numsW (ws.map tl) = some ns → ns.length ≤ 400 := fun ns e => by
      have := congrArg List.length (numsW_some e)
      rw [List.length_map, List.length_map, List.length_map] at this
      omega
    have q := q
    cases e : numsW (ws.map tl) with
    | none =>
      rw [e] at hv q
      have hv : v = .non := hv
      subst hv
      refine ⟨_, rfl, rfl, _, rfl, iteT ?_⟩
      exact q .non H1 a1 .non
    | some ns =>
      have nl := nl ns e
      rw [e] at hv q
      obtain ⟨a, rfl, ha⟩ := hv
      have rn : ∀ {H' : Hp}, RepAll H' (ns.map nV) (ns.map thN) := rep_ns ns
      refine ⟨_, rfl, rfl, _, rfl, iteF ?_⟩
      refine ⟨_, rfl, rfl, _, rfl, ite2 (fun g => ?_) (fun g => ?_)⟩
      · have g : hd = "gate" := V.str.inj (of_decide_eq_true g)
        refine ⟨small 1, fun t1 nt1 => ⟨_, rfl, ?_⟩⟩
        have s2 := Same.new (o := .tup [V.str "more"]) nt1
        refine catA upd_same (s2 _ _ ha) (by rw [List.length_map]; exact Nat.le_trans (Nat.add_le_add_left nl 1) (small 401)) fun r H2 s3 hr => ?_
        refine q _ H2 (a1.trans (Aft.ofSame a1.tb (s2.trans s3))) ?_
        show Rep _ _ (if hd = "gate" then _ else _)
        rw [if_pos g]
        exact .tup hr (.cons (.str _) rn)
      have g : hd ≠ "gate" := fun z => g (decide_eq_true (congrArg V.str z))
      refine ⟨_, rfl, rfl, _, rfl, ite2 (fun g2 => ?_) (fun g2 => ?_)⟩
      · have g2 : hd = "outs" := V.str.inj (of_decide_eq_true g2)
        refine ⟨_, rfl, small 2, fun t1 nt1 => ?_⟩
        have s2 := Same.new (o := .tup [V.str "outs", V.ref a]) nt1
        refine q _ _ (a1.trans (Aft.ofSame a1.tb s2)) ?_
        show Rep _ _ (if hd = "gate" then _ else if hd = "outs" then _ else _)
        rw [if_neg g, if_pos g2]
        exact .tup upd_same (.cons (.str _) (.cons (.tup (s2 _ _ ha) rn) .nil))
      have g2 : hd ≠ "outs" := fun z => g2 (decide_eq_true (congrArg V.str z))
      refine ⟨_, rfl, small 3, fun t1 nt1 => ?_⟩
      have s2 := Same.new (o := .tup [V.str "kind", V.str "lead", V.str "less"]) nt1
      refine ⟨t1, _, rfl, .inr (SqT.of upd_same), rfl, rfl, _, rfl, ?_⟩
      have ha2 := s2 _ _ ha
      have a2 := a1.trans (Aft.ofSame a1.tb s2)
      generalize upd H1 t1 (.tup [V.str "kind", V.str "lead", V.str "less"]) = H2 at ha2 a2
      have q := q
      have ein : inV (.str hd) [V.str "kind", V.str "lead", V.str "less"] = decide (hd = "kind" ∨ hd = "lead" ∨ hd = "less") := by
        have es : ∀ x y : Str, eqV (.str x) (.str y) = decide (x = y) := fun x y => by
          show (x == y) = decide (x = y)
          by_cases h : x = y
          · rw [h, decide_eq_true rfl]; exact beq_self_eq_true y
          · rw [decide_eq_false h]; exact beq_false_of_ne h
        show (eqV (.str "kind") (.str hd) || (eqV (.str "lead") (.str hd) || (eqV (.str "less") (.str hd) || false))) = _
        rw [es, es, es, Bool.or_false, ← Bool.decide_or, ← Bool.decide_or]
        exact decide_eq_decide.mpr ⟨fun z => z.imp Eq.symm fun z => z.imp Eq.symm Eq.symm, fun z => z.imp Eq.symm fun z => z.imp Eq.symm Eq.symm⟩
      show (if (inV (.str hd) [V.str "kind", V.str "lead", V.str "less"]) = true then _ else _)
      rw [ein]
      have q : ∀ v H', Aft Ts H H' → Rep H' v (if hd = "gate" then .tup (.str "more" :: ns.map thN) else if hd = "outs" then .tup [.str "outs", .tup (ns.map thN)] else if hd = "kind" ∨ hd = "lead" ∨ hd = "less" then .tup (.str hd :: ns.map thN) else .non) → Q v H' := q
      rw [if_neg g, if_neg g2] at q
      refine ite2 (fun g3 => ?_) (fun g3 => ?_)
      · rw [if_pos (of_decide_eq_true g3)] at q
        refine ⟨_, rfl, small 1, fun t2 nt2 => ⟨_, rfl, ?_⟩⟩
        have s3 := Same.new (o := .tup [V.str hd]) nt2
        refine catA upd_same (s3 _ _ ha2) (by rw [List.length_map]; exact Nat.le_trans (Nat.add_le_add_left nl 1) (small 401)) fun r H3 s4 hr => ?_
        exact q _ H3 (a2.trans (Aft.ofSame a2.tb (s3.trans s4))) (.tup hr (.cons (.str _) rn))
      · rw [if_neg (fun z => g3 (decide_eq_true z))] at q
        exact q .non H2 a2 .non
theorem chgTh_head {h : Str} {o : Option (List Nat)} : HeadOk (chgTh h o) := fun x ts e => by
  left
  cases o with
  | none => cases e
  | some ns =>
    have e : (if h = "gate" then Th.tup (.str "more" :: ns.map thN) else if h = "outs" then .tup [.str "outs", .tup (ns.map thN)] else if h = "kind" ∨ h = "lead" ∨ h = "less" then .tup (.str h :: ns.map thN) else .non) = .tup (.str x :: ts) := e
    unfold wordsC
    split at e
    · cases e; simp
    · split at e
      · cases e; simp
      · split at e
        · rename_i h3
          cases e
          rcases h3 with rfl | rfl | rfl <;> simp
        · cases e
theorem chgTh_len {h : Str} {o : Option (List Nat)} (l : ∀ ns, o = some ns → ns.length ≤ 400) : ∀ ts, chgTh h o = .tup ts → ts.length ≤ 500 := fun ts e => by
  cases o with
  | none => cases e
  | some ns =>
    have := l ns rfl
    have e : (if h = "gate" then Th.tup (.str "more" :: ns.map thN) else if h = "outs" then .tup [.str "outs", .tup (ns.map thN)] else if h = "kind" ∨ h = "lead" ∨ h = "less" then .tup (.str h :: ns.map thN) else .non) = .tup ts := e
    split at e
    · cases e
      rw [List.length_cons, List.length_map]
      omega
    · split at e
      · cases e
        show 2 ≤ 500
        decide
      · split at e
        · cases e
          rw [List.length_cons, List.length_map]
          omega
        · cases e
def spChgA (Ts : List Addr) (C : Addr) : Sp := fun vs H Q _ => ∃ (kp a p q : Addr) (n : Net) (k : Nat) (g o : Addr) (ps qs : List Addr) (h : Str) (ws : List Str), vs = [.ref kp, .str h, .ref q] ∧ KeepAt C H kp a p n k g o ps qs ∧ n.Ok ∧ 2 ≤ k ∧ k ≤ 1000 ∧ H q = some (.lst (ws.map V.str)) ∧ ws.length ≤ 400 ∧ (∀ x ∈ ws, x.length ≤ sizeLine) ∧ Tabs Ts H ∧
  (∀ ch : Chg, ch.Ok n → ch.th = chgTh h (numsW (ws.map tl)) → ∀ H' (a' p' g' o' : Addr) (ps' qs' : List Addr), KeepAt C H' kp a' p' (doN n ch) k g' o' ps' qs' → Tabs Ts H' → (∀ b u, b ≠ kp → b ∉ Ts → H b = some u → H' b = some u) → Q (.str (okS (othL n (doN n ch) k (doN n ch).gates.length))) H') ∧ (¬ IsChg n (chgTh h (numsW (ws.map tl))) → ∀ H', Aft Ts H H' → Q .non H')
theorem ok_chga {f c : Addr} (D : Dfn K mg "change_answer" s_change_answer f c) (T : Txt mg) (x_NoChange : ExcM K mg "NoChange" CNoChange) (su_NoChange_NoChange : PySem.W.subIn K (.ref CNoChange) (.ref CNoChange) = some true) (c_change_written : Cal P w K mg base 5 "change_written" (spChgW Ts) []) (c_in_figures : Cal P w K mg base 1 "in_figures" spFigs []) (m_Keeper_do : MetX P w K mg base 8 CKeeper "do" (spKDo Ts CKeeper CNoChange)) : Cal P w K mg base 9 "change_answer" (spChgA Ts CKeeper) [] := by
  refine cal D (fun _ _ _ _ _ _ us hl => match us, hl with | [_, _, _], _ => rfl) sc_change_answer (fun vs H Q E h => ?_) (fun A outer s H vs Q E hr h => ?_)
  · obtain ⟨kp, a, p, q, n, k, g, o, ps, qs, h, ws, rfl, _⟩ := h
    rfl
  · obtain ⟨kp, a, p, wp, n, k, g, o, ps, qs, hd, ws, rfl, KA, ok, hk2, hk, hw, hl, hx, tb, q1, q2⟩ := h
    refine ⟨_, (pss_cons (ps_try_only rfl rfl ⟨rfl, by decide, .inl x_NoChange.g⟩ takes0
        (fun W pn xe tk _ => (pss_one (ps_set (i := 3) sc_change_answer.nd rfl (by first | exact Or.inl rfl | exact Or.inr rfl) (pe_mtX m_Keeper_do tk hr (by decide) (pv 0) (pa_cons (pe_c c_change_written hr (by decide) (by rfl) (pa_cons (pv 1) (pa_cons (pv 2) pa_nil))) pa_nil)))))
        (fun a oe cls d pn _ _ => (pss_one (ps_ret pe_non))))
      (pss_one (ps_ret (pe_join pe_str (pe_op op_cat (pe_lst (pa_cons pe_str pa_nil)) (pe_c c_in_figures hr (by decide) (by rfl) (pa_cons (pv 3) pa_nil))))))), ?_⟩
    clear hr
    obtain ⟨dx, ek⟩ := KA.ins
    refine ⟨_, rfl, kp, dx, _, rfl, ek, rfl, _, rfl, _, rfl, hd, wp, ws, rfl, hw, hl, hx, tb, fun v H1 a1 rv => ?_⟩
    have KA1 := KA.mono (H' := H1) fun b u e n1 n2 => a1.kp _ _ e (tb.nott e n1)
    have nl : ∀ ns, numsW (ws.map tl) = some ns → ns.length ≤ 400 := fun ns e => by
      have := congrArg List.length (numsW_some e)
      rw [List.length_map, List.length_map, List.length_map] at this
      omega
    refine ⟨kp, a, p, n, k, g, o, ps, qs, v, _, rfl, KA1, ok, hk2, hk, rv, chgTh_head, chgTh_len nl, a1.tb, fun ch cok ec r H2 a' p' g' o' ps' qs' hr KA2 tb2 kp2 => ?_, fun hn H2 a2 => ⟨true, exm_of2 x_NoChange.toExcT su_NoChange_NoChange, fun _ e ne => q2 hn H2 (a1.trans a2), fun z => by cases z⟩⟩
    have ok' := doN_ok ok cok
    have m8 := ok'.m8
    have g16 := ok'.g16
    have ol := othL_len n (doN n ch) k (doN n ch).gates.length
    have ob : ∀ x ∈ othL n (doN n ch) k (doN n ch).gates.length, x < 100 := fun x hx => by
      unfold othL at hx
      obtain ⟨i, hi, rfl⟩ := List.mem_map.mp (List.mem_filter.mp hx).1
      have := List.mem_range.mp hi
      omega
    have hq : ∀ H', KeepAt CKeeper H' kp a' p' (doN n ch) k g' o' ps' qs' → Tabs Ts H' → (∀ b u, b ≠ kp → b ∉ Ts → H b = some u → H' b = some u) → Q (.str (okS (othL n (doN n ch) k (doN n ch).gates.length))) H' := fun H' => q1 ch cok ec H' a' p' g' o' ps' qs'
    generalize othL n (doN n ch) k (doN n ch).gates.length = gs at hr ol ob hq
    refine ⟨⟨_, rfl⟩, small 1, fun M nM => ⟨_, rfl, r, gs, rfl, (Same.new nM) _ _ hr, by omega, ob, fun L H3 s3 hL => ?_⟩⟩
    have s4 := (Same.new (o := .lst [V.str "ok"]) nM).trans s3
    refine ⟨M, L, _, _, rfl, rfl, s3 _ _ upd_same, hL, by rw [List.length_map, List.length_map]; exact Nat.le_trans (Nat.add_le_add_left (show gs.length ≤ 16 by omega) 1) (small 17), fun R nR => ?_⟩
    have s5 := s4.trans (Same.new (o := .lst ([V.str "ok"] ++ (gs.map fun n => mkS (dgs n)).map V.str)) nR)
    have hR : upd H3 R (.lst ([V.str "ok"] ++ (gs.map fun n => mkS (dgs n)).map V.str)) R = some (.lst ((Str.ofString "ok" :: gs.map fun n => mkS (dgs n)).map V.str)) := upd_same
    have wb : ∀ y ∈ Str.ofString "ok" :: gs.map fun n => mkS (dgs n), y.length ≤ 2 := fun y hy => by
      rcases List.mem_cons.mp hy with e | hy
      · rw [e]; decide +kernel
      · obtain ⟨x, hx, rfl⟩ := List.mem_map.mp hy
        rw [len_mkS]
        exact (dgs_100 x (ob x hx)).2.2.2.1
    refine ⟨_, R, _, rfl, rfl, .inl (SqL.of hR), join_fits (b := 2) (c := 17) wb (by rw [List.length_cons, List.length_map]; omega) (by decide +kernel), ?_⟩
    have ej : Txt.join (Str.ofString " ") (Str.ofString "ok" :: gs.map fun n => mkS (dgs n)) = okS gs := by
      refine ext_tl ?_
      rw [join_eq, tl_join, show tl (Str.ofString " ") = [32] by decide +kernel, List.map_cons, List.map_map]
      rfl
    rw [ej]
    exact hq _ (KA2.mono fun b u e _ _ => s5 _ _ e) (tb2.same s5) fun b u nb nT e => s5 _ _ (kp2 b u nb nT (a1.kp _ _ e nT))
end
end K80
set_option Elab.async false
set_option linter.all false
set_option maxRecDepth 100000
set_option maxHeartbeats 4000000
namespace K80
open PySem PySem.Spec PyProof.Rows L2 GX
open C8 (Cal pe_c pe_gc Met Mak)
-- @dict CHANGES
-- @no CHANGES 0 ""
-- @no CHANGES 1 "0"
-- @no CHANGES 2 "way"
-- @no CHANGES 3 "Kind"
-- @no CHANGES 4 "leads"
-- @dict QUESTIONS
-- @no QUESTIONS 0 "gate"
-- @no QUESTIONS 1 "kind"
-- @no QUESTIONS 2 "lead"
-- @no QUESTIONS 3 "less"
-- @no QUESTIONS 4 "outs"
-- @exc NoText
-- @exc NoDepth
-- @exc TooMany
-- @exc NoMatch
-- @exc NoChange made
-- @exc NoRow made
-- @sub NoChange NoChange true
-- @sub NoRow NoRow true
-- @sub NoRow ValueError true
-- @sub NoRow NoText false
-- @sub NoRow NoDepth false
-- @sub NoRow TooMany false
-- @sub NoRow NoMatch false
-- @sub NoRow NoChange false
-- @cls Keeper k:i,held:N,kept:t[t[t[i]]]
-- @cls Desk keeper:OKeeper
-- @alt rises list par=l[i]
-- @alt cut_masks tup par=N,t[i],i vars=masks:DL,wire:i
-- @alt one_deeper tup par=t[i],t[i]
-- @alt _law_written tup par=t[i],s
section
variable {P : Program} {w : World} {K : PySem.W.Frag} {mg : Str → Option Value} {base : Heap} {Ts : List Addr} {CKeeper CDesk CNoChange CNoRow : Addr}
open TL
structure DeskAt (CD CK : Addr) (H : Hp) (D kp a p : Addr) (n : Net) (k : Nat) (g o : Addr) (ps qs : List Addr) : Prop where
  ins : ∃ dx, H D = some (.ins CD dx (putF "keeper" (.ref kp) []))
  keep : KeepAt CK H kp a p n k g o ps qs
structure DCls (K : PySem.W.Frag) (C : Addr) : Prop where
  cl : Cls K C
  k : NoAttr K C "keeper"
theorem KeepAt.at_ {C : Addr} {H H' : Hp} {kp a p : Addr} {n : Net} {k : Nat} {g o : Addr} {ps qs : List Addr} (x : KeepAt C H kp a p n k g o ps qs) (hk : ∀ u, H kp = some u → H' kp = some u) (tu : ∀ b xs, H b = some (.tup xs) → H' b = some (.tup xs)) : KeepAt C H' kp a p n k g o ps qs := by
  obtain ⟨dx, e⟩ := x.ins
  exact ⟨⟨dx, hk _ e⟩, x.net.mono tu, tu _ _ x.kept, x.cuts.mono fun q y h => h.mono tu⟩
def spDNet (CD CK : Addr) : Sp := fun vs H Q _ => ∃ (D kp a p : Addr) (n : Net) (k : Nat) (g o : Addr) (ps qs : List Addr), vs = [.ref D] ∧ DeskAt CD CK H D kp a p n k g o ps qs ∧ Q (.ref a) H
theorem ok_dnet {f c : Addr} (D : Mtd K CDesk "net" "Desk.net" s_Desk_net f c) (T : Txt mg) (dc : DCls K CDesk) (m_Keeper_net : Met P w K mg base 1 CKeeper "net" (spKNet CKeeper) []) : Met P w K mg base 2 CDesk "net" (spDNet CDesk CKeeper) [] := by
  refine met D (fun _ _ _ _ _ _ us hl => match us, hl with | [_], _ => rfl) sc_Desk_net (fun vs H Q E h => ?_) (fun A outer s H vs Q E hr h => ?_)
  · obtain ⟨D, kp, a, p, n, k, g, o, ps, qs, rfl, _⟩ := h
    rfl
  · obtain ⟨Da, kp, a, p, n, k, g, o, ps, qs, rfl, x, q⟩ := h
    obtain ⟨dx, e⟩ := x.ins
    obtain ⟨dk, ek⟩ := x.keep.ins
    refine ⟨_, (pss_one (ps_ret (C8.pe_mt0 m_Keeper_net hr (by decide) (pe_fld (pv 0) rfl)))), ?_⟩
    refine ⟨_, rfl, Da, CDesk, dx, _, _, rfl, e, dc.cl, dc.k, rfl, kp, dk, _, rfl, ek, rfl, ?_⟩
    exact ⟨kp, a, p, n, k, g, o, ps, qs, rfl, x.keep, q⟩
def spDInit (Ts : List Addr) (CD CK : Addr) : Sp := fun vs H Q _ => ∃ (D dx : Addr) (m k : Nat), vs = [.ref D, nV m, nV k] ∧ H D = some (.ins CD dx []) ∧ 1 ≤ m ∧ m ≤ 8 ∧ 2 ≤ k ∧ k ≤ 1000 ∧ Tabs Ts H ∧
  ∀ (kp a p g o : Addr) (ps qs : List Addr) H', DeskAt CD CK H' D kp a p ⟨m, [], [0]⟩ k g o ps qs → Tabs Ts H' → (∀ b u, b ≠ D → b ∉ Ts → H b = some u → H' b = some u) → H kp = none → Q .non H'
theorem ok_dinit {f c : Addr} (D : Mtd K CDesk "__init__" "Desk.__init__" s_Desk___init__ f c) (T : Txt mg) (dc : DCls K CDesk) (hm : mg "Desk" = some (.ref CDesk)) (mk : PySem.W.makesIn K CDesk = true) (kp : PySem.W.keepIn K (.ref CDesk) = true) (m_Keeper : Mak P w K mg base 5 "Keeper" CKeeper (spKInit Ts CKeeper) []) : Mak P w K mg base 7 "Desk" CDesk (spDInit Ts CDesk CKeeper) [] := by
  refine mak D hm mk kp (fun _ _ _ _ _ _ us hl => match us, hl with | [_, _, _], _ => rfl) sc_Desk___init__ (fun vs H Q E h => ?_) (fun A outer s H vs Q E hr h => ?_)
  · obtain ⟨D, dx, m, k, rfl, _⟩ := h
    rfl
  · obtain ⟨Da, dx, m, k, rfl, e, m1, m8, hk2, hk, tb, q⟩ := h
    refine ⟨_, (pss_one (ps_fld (pv 0) (C8.pe_mk m_Keeper hr (by decide) (by rfl) (pa_cons (pe_tup (pa_cons (pv 1) (pa_cons (pe_tup pa_nil) (pa_cons (pe_tup (pa_cons pe_int pa_nil)) pa_nil)))) (pa_cons (pv 2) pa_nil))) rfl)), ?_⟩
    refine ⟨_, rfl, small 0, fun t0 nt0 => ⟨small 1, fun t1 nt1 => ⟨small 3, fun ta nta => ⟨_, rfl, fun kq dk nk nd ndk => ?_⟩⟩⟩⟩
    have s1 := Same.new (o := .tup []) nt0
    have s2 := Same.new (o := .tup [V.int 0]) nt1
    have s3 := Same.new (o := .tup [nV m, V.ref t0, V.ref t1]) nta
    have N : NetAt (upd (upd (upd H t0 (.tup [])) t1 (.tup [V.int 0])) ta (.tup [nV m, V.ref t0, V.ref t1])) ta ⟨m, [], [0]⟩ t0 t1 [] := ⟨upd_same, s3 _ _ (s2 _ _ upd_same), GatesAt.nil _, s3 _ _ upd_same⟩
    have s13 := (s1.trans s2).trans s3
    generalize upd (upd (upd H t0 (.tup [])) t1 (.tup [V.int 0])) ta (.tup [nV m, V.ref t0, V.ref t1]) = H1 at N s13 nk nd ⊢
    have s4 : Same H1 (upd H1 dk (.own kq)) := Same.new nd
    have nk4 : upd H1 dk (.own kq) kq = none := by rw [upd_ne (Ne.symm ndk)]; exact nk
    have s5 := s4.trans (Same.new (o := .ins CKeeper dk []) nk4)
    have s15 := s13.trans s5
    have hk5 : upd (upd H1 dk (.own kq)) kq (.ins CKeeper dk []) kq = some (.ins CKeeper dk []) := upd_same
    have N5 := N.same s5
    generalize upd (upd H1 dk (.own kq)) kq (.ins CKeeper dk []) = H5 at N5 s15 hk5 ⊢
    have ok : Net.Ok ⟨m, [], [0]⟩ := ⟨m1, m8, Nat.zero_le _, fun i g e => by (simp at e), by show 1 ≤ 1; decide, by show 1 ≤ 8; decide, fun x hx => by rw [List.mem_singleton.mp hx]; show 0 < m + 0; omega⟩
    refine ⟨kq, dk, ta, ⟨m, [], [0]⟩, t0, t1, [], k, rfl, hk5, N5, ok, hk2, hk, tb.same s15, fun p H6 qs KA tb6 kp6 => ⟨rfl, _, rfl, Da, CDesk, dx, [], rfl, ?_, dc.cl, dc.k, by decide, ?_⟩⟩
    · refine kp6 _ _ (fun z => ?_) (tb.nott e fun _ z => by cases z) (s15 _ _ e)
      rw [← z, s13 _ _ e] at nk
      cases nk
    have DT : Da ∉ Ts := tb.nott e fun _ z => by cases z
    have e6 : H6 Da = some (.ins CDesk dx []) := by
      refine kp6 _ _ (fun z => ?_) DT (s15 _ _ e)
      rw [← z, s13 _ _ e] at nk
      cases nk
    have nkD : kq ≠ Da := fun z => by
      obtain ⟨dk', ek⟩ := KA.ins
      rw [z, e6] at ek
      cases ek
    refine q kq ta p t0 t1 [] qs _ ⟨⟨dx, upd_same⟩, KA.at_ (fun u e => by rw [upd_ne nkD]; exact e) fun b xs eb => ?_⟩ (tb6.upd DT) (fun b u nb nT eb => ?_) ?_
    · rw [upd_ne (fun z => by rw [z, e6] at eb; cases eb)]
      exact eb
    · rw [upd_ne nb]
      refine kp6 _ _ (fun z => ?_) nT (s15 _ _ eb)
      rw [← z, s13 _ _ eb] at nk
      cases nk
    · cases eq : H kq with
      | none => rfl
      | some u => rw [s13 _ _ eq] at nk; cases nk
def wordsQ : List Str := ["gate", "kind", "lead", "less", "outs"]
end
section
variable {P : Program} {w : World} {K : PySem.W.Frag} {mg : Str → Option Value} {base : Heap} {Ts : List Addr} {PL CKeeper CDesk CNoChange CNoRow : Addr}
open TL
theorem Held.mono {k k' : Nat} {f : Addr} {sp : Sp} (h : Held P w K mg base k f sp) (le : k ≤ k') : Held P w K mg base k' f sp := by
  obtain ⟨fd, ps, F, hk, hb⟩ := h.ex
  exact ⟨fd, ps, ⟨F.len, fun A outer s H args us vs Q E hr he hb hv hs => F.run A outer s H args us vs Q E (hr.mono le) he hb hv hs⟩, hk, hb⟩
theorem Held.weak {k : Nat} {f : Addr} {sp sp' : Sp} (h : Held P w K mg base k f sp) (le : ∀ vs H Q E, sp' vs H Q E → sp vs H Q E) : Held P w K mg base k f sp' := by
  obtain ⟨fd, ps, F, hk, hb⟩ := h.ex
  exact ⟨fd, ps, ⟨fun vs H Q E z => F.len vs H Q E (le _ _ _ _ z), fun A outer s H args us vs Q E hr he hb hv hs => F.run A outer s H args us vs Q E hr he hb hv (le _ _ _ _ hs)⟩, hk, hb⟩
/-- what a question tells of a net and k, by the words behind it: a text, or nothing -/
abbrev QRel := Net → Nat → List Str → V → Prop
def spQn (Ts : List Addr) (CK : Addr) (r : QRel) : Sp := fun vs H Q _ => ∃ (kp a p q : Addr) (n : Net) (k : Nat) (g o : Addr) (ps qs : List Addr) (ws : List Str), vs = [.ref kp, .ref q] ∧ KeepAt CK H kp a p n k g o ps qs ∧ n.Ok ∧ 2 ≤ k ∧ k ≤ 4 ∧ H q = some (.lst (ws.map V.str)) ∧ ws.length ≤ 400 ∧ (∀ x ∈ ws, x.length + 2 ≤ sizeLine) ∧ Tabs Ts H ∧ ∀ v H', Aft Ts H H' → r n k ws v → Q v H'
/-- .. where a lambda's table stands beside -/
def spQnL (Ts : List Addr) (PL : Addr) (CK : Addr) (r : QRel) : Sp := fun vs H Q _ => ∃ (kp a p q : Addr) (n : Net) (k : Nat) (g o : Addr) (ps qs : List Addr) (ws : List Str), vs = [.ref kp, .ref q] ∧ KeepAt CK H kp a p n k g o ps qs ∧ n.Ok ∧ 2 ≤ k ∧ k ≤ 4 ∧ H q = some (.lst (ws.map V.str)) ∧ ws.length ≤ 400 ∧ (∀ x ∈ ws, x.length + 2 ≤ sizeLine) ∧ Tabs Ts H ∧ LamX.TabS H PL lamQ ∧ ∀ v H', AftL Ts PL lamQ H H' → r n k ws v → Q v H'
theorem spQnL_of (hPL : PL ∉ Ts) {CK : Addr} {r : QRel} : ∀ vs H Q E, spQnL Ts PL CK r vs H Q E → spQn Ts CK r vs H Q E := by
  rintro vs H Q E ⟨kp, a, p, q, n, k, g, o, ps, qs, ws, e, KA, ok, k2, k4, hw, hl, hx, tb, tl, z⟩
  exact ⟨kp, a, p, q, n, k, g, o, ps, qs, ws, e, KA, ok, k2, k4, hw, hl, hx, tb, fun v H' a' hr => z v H' (AftL.of a' tb tl hPL) hr⟩
/-- a row that changes the net or doesn't, and one that asks; NQ: words that are no questions, R: what is told by the others -/
def spSayL (Ts : List Addr) (PL : Addr) (CD CK CN : Addr) (R : Str → Option QRel) (NQ : Str → Prop) : Sp := fun vs H Q E => ∃ (D kp a p : Addr) (n : Net) (k : Nat) (g o : Addr) (ps qs : List Addr) (x h : Str) (ws : List Str), vs = [.ref D, .str x] ∧ DeskAt CD CK H D kp a p n k g o ps qs ∧ n.Ok ∧ 2 ≤ k ∧ k ≤ 4 ∧ x.length + 4 ≤ sizeLine ∧ Txt.split x (Str.ofString " ") = h :: ws ∧ ws.length ≤ 400 ∧ Tabs Ts H ∧ LamX.TabS H PL lamQ ∧
  ((NQ h ∧ (∀ ch : Chg, ch.Ok n → ch.th = chgTh h (numsW (ws.map tl)) → ∀ H' (a' p' g' o' : Addr) (ps' qs' : List Addr), DeskAt CD CK H' D kp a' p' (doN n ch) k g' o' ps' qs' → DoL Ts PL kp H H' → Q (.str (okS (othL n (doN n ch) k (doN n ch).gates.length))) H') ∧ (¬ IsChg n (chgTh h (numsW (ws.map tl))) → ∀ H', AftL Ts PL lamQ H H' → E (.ref CN) none H')) ∨
   (∃ r, R h = some r ∧ (∀ v H', AftL Ts PL lamQ H H' → r n k ws v → v ≠ .non → Q v H') ∧ ∀ H', AftL Ts PL lamQ H H' → r n k ws .non → E (.ref CN) none H'))
theorem mono_spSayL {CN : Addr} {R : Str → Option QRel} {NQ : Str → Prop} : ∀ (vs : List V) (H : Hp) (Q Q' : VK) (E E' : XK), (∀ v H', Q v H' → Q' v H') → (∀ c d H', E c d H' → E' c d H') → spSayL Ts PL CDesk CKeeper CN R NQ vs H Q E → spSayL Ts PL CDesk CKeeper CN R NQ vs H Q' E' := by
  rintro vs H Q Q' E E' hQ hE ⟨D, kp, a, p, n, k, g, o, ps, qs, x, h, ws, e, DA, ok, k2, k1, l, sp, wl, tb, tl', z⟩
  refine ⟨D, kp, a, p, n, k, g, o, ps, qs, x, h, ws, e, DA, ok, k2, k1, l, sp, wl, tb, tl', ?_⟩
  rcases z with ⟨nq, f1, f2⟩ | ⟨r, hr, f1, f2⟩
  · exact .inl ⟨nq, fun ch c1 c2 H' a' p' g' o' ps' qs' d1 d2 => hQ _ _ (f1 ch c1 c2 H' a' p' g' o' ps' qs' d1 d2), fun hn H' a' => hE _ _ _ (f2 hn H' a')⟩
  · exact .inr ⟨r, hr, fun v H' a' h1 h2 => hQ _ _ (f1 v H' a' h1 h2), fun H' a' h1 => hE _ _ _ (f2 H' a' h1)⟩
theorem ok_sayL {lv : Nat} {R : Str → Option QRel} {NQ : Str → Prop} {Sf : Addr → Option Sp} {f c dQ : Addr} {es : Array DictEntry} {nn : Nat} (hPL : PL ∉ Ts) (D : Mtd K CDesk "say" "Desk.say" s_Desk_say f c) (T : Txt mg) (dc : DCls K CDesk) (x_NoRow : ExcM K mg "NoRow" CNoRow) (kD_QUESTIONS : KDict K w dQ es nn) (gD_QUESTIONS : ∃ u, mg "QUESTIONS" = some u ∧ RelV (.ref dQ) u) (hq : ∀ x, NQ x → PySem.W.nsIn K dQ x = some none)
    (hqw : ∀ x r, R x = some r → ∃ f, PySem.W.nsIn K dQ x = some (some (.ref f)) ∧ Sf f = some (spQnL Ts PL CKeeper r)) (hS_question : ∀ f sp, Sf f = some sp → Held P w K mg base (lv + 9) f sp) (c_change_answer : Cal P w K mg base 9 "change_answer" (spChgA Ts CKeeper) []) : MetX P w K mg base (lv + 10) CDesk "say" (spSayL Ts PL CDesk CKeeper CNoRow R NQ) := by
  refine metX D (fun _ _ _ _ _ _ us hl => match us, hl with | [_, _], _ => rfl) sc_Desk_say (fun vs H Q E h => ?_) (fun A outer s H vs Q E hr h tk => ?_)
  · obtain ⟨D, kp, a, p, n, k, g, o, ps, qs, x, h, ws, rfl, _⟩ := h
    rfl
  · obtain ⟨Da, kp, a, p, n, k, g, o, ps, qs, x, hd, ws, rfl, DA, ok, hk2, hk, hx, hsp, hl, tb, tl0, hz⟩ := h
    refine ⟨_, (pss_cons (ps_if (PT.nox (pt_not (pt_val (pe_callB call_isi (by rfl) T.b_isinstance (by decide +kernel) (pa_cons (pv 1) (pa_cons (pe_bltn (v := .ty "str") (by rfl) T.b_str (by decide +kernel) rfl) pa_nil)))))) (pss_one (ps_raise rfl tk (pmk_own PySem.F.excBase_ValueError x_NoRow.x x_NoRow.g x_NoRow.k x_NoRow.toExcT.raises rfl))) pss_nil)
      (pss_cons (psNox (ps_asg (pe_split (pv 1) pe_str) (pg_hdr rfl (pgs_cons (pg_name (i := 2) sc_Desk_say.nd rfl (by first | exact Or.inl rfl | exact Or.inr rfl)) (pgs_star (pg_name (i := 3) sc_Desk_say.nd rfl (by first | exact Or.inl rfl | exact Or.inr rfl)))))))
      (pss_cons (psNox (ps_if (pt_cmpR (op_in_kd kD_QUESTIONS) (pv 2) (pe_gc (by rfl) gD_QUESTIONS) (by rfl)) (pss_cons (ps_set (i := 4) sc_Desk_say.nd rfl (by first | exact Or.inl rfl | exact Or.inr rfl) (pe_ix ix_kdict (pe_gc (by rfl) gD_QUESTIONS) (pv 2) (fun _ _ => rfl)))
      (pss_one (ps_set (i := 5) sc_Desk_say.nd rfl (by first | exact Or.inl rfl | exact Or.inr rfl) (pe_callA (i := 4) hS_question (hr.mono (by omega)) (by rfl) (by first | exact Or.inl rfl | exact Or.inr rfl) (pa_cons (pe_fld (pv 0) rfl) (pa_cons (pv 3) pa_nil)))))) (pss_one (ps_set (i := 5) sc_Desk_say.nd rfl (by first | exact Or.inl rfl | exact Or.inr rfl) (pe_c c_change_answer hr (by omega) (by rfl) (pa_cons (pe_fld (pv 0) rfl) (pa_cons (pv 2) (pa_cons (pv 3) pa_nil))))))))
      (pss_cons (ps_if (PT.nox (pt_cmpR op_isN (pv 5) pe_non (nomark _))) (pss_one (ps_raise rfl tk (pmk_own PySem.F.excBase_ValueError x_NoRow.x x_NoRow.g x_NoRow.k x_NoRow.toExcT.raises rfl))) pss_nil)
      (PSs.nox (pss_one (ps_ret (pv 5)))))))), ?_⟩
    clear hr
    obtain ⟨dx, eD⟩ := DA.ins
    obtain ⟨dk, ek⟩ := DA.keep.ins
    have DT : Da ∉ Ts := tb.nott eD fun _ z => by cases z
    have kT : kp ∉ Ts := tb.nott ek fun _ z => by cases z
    refine ⟨_, rfl, _, _, _, _, true, rfl, .ty "str", tyx (Rep.str x), kit_ty (GX.kStr_ok (.str x)), _, rfl, iteF ?_⟩
    refine ⟨_, rfl, ⟨_, rfl⟩, _, _, rfl, rfl, by decide +kernel, Nat.le_trans (Nat.add_le_add_left (by decide) _) hx, fun L nL => ?_⟩
    rw [hsp]
    have a1 := Aft.new (o := .lst (List.map V.str (hd :: ws))) tb nL
    have hL : upd H L (.lst (List.map V.str (hd :: ws))) L = some (.lst (List.map V.str (hd :: ws))) := upd_same
    show gHdR _ _ _ _ (upd H L (.lst (List.map V.str (hd :: ws)))) _
    have eD1 := (Same.new (o := .lst (List.map V.str (hd :: ws))) nL) _ _ eD
    have DK1 := DA.keep.mono fun b u e _ _ => (Same.new (o := .lst (List.map V.str (hd :: ws))) nL) _ _ e
    generalize upd H L (.lst (List.map V.str (hd :: ws))) = H1 at a1 hL eD1 DK1 ⊢
    refine ⟨L, .str hd, ws.map V.str, rfl, SqL.of hL, fun R nR => ⟨_, _, rfl, _, _, rfl, rfl, ?_⟩⟩
    have s2 := Same.new (o := .lst (ws.map V.str)) nR
    have a2 := a1.trans (Aft.ofSame a1.tb s2)
    have hR : upd H1 R (.lst (ws.map V.str)) R = some (.lst (ws.map V.str)) := upd_same
    have eD2 := s2 _ _ eD1
    have DK2 := DK1.mono fun b u e _ _ => s2 _ _ e
    generalize upd H1 R (.lst (ws.map V.str)) = H2 at a2 hR eD2 DK2 ⊢
    have b2 := AftL.of a2 tb tl0 hPL
    have hwl : ∀ y ∈ ws, y.length + 2 ≤ sizeLine := fun y hy => by
      have := part_short (show y ∈ Txt.split x (Str.ofString " ") by rw [hsp]; exact List.mem_cons_of_mem _ hy)
      omega
    rcases hz with ⟨nq, q1, q2⟩ | ⟨r, hr, q1, q2⟩
    · refine ⟨_, rfl, hd, none, rfl, rfl, hq hd nq, _, rfl, iteF ?_⟩
      refine ⟨_, rfl, Da, CDesk, dx, _, _, rfl, eD2, dc.cl, dc.k, rfl, _, rfl, _, rfl, kp, a, p, R, n, k, g, o, ps, qs, hd, ws, rfl, DK2, ok, hk2, by omega, hR, hl, (fun y hy => Nat.le_trans (Nat.le_add_right _ 2) (hwl y hy)), a2.tb, fun ch cok ec H3 a' p' g' o' ps' qs' KA3 tb3 kp3 => ?_, fun hn H3 a3 => ?_⟩
      · refine ⟨_, rfl, rfl, _, rfl, ?_⟩
        rw [decide_eq_false (fun z : V.str _ = V.non => by cases z)]
        refine iteF ?_
        refine ⟨_, rfl, q1 ch cok ec H3 a' p' g' o' ps' qs' ⟨⟨dx, kp3 _ _ (fun z => ?_) DT eD2⟩, KA3⟩ (DoL.kdo hPL tb tl0 ek tb3 fun b u nb nT e => kp3 b u nb nT (a2.kp _ _ e nT))⟩
        rw [z, ek] at eD
        cases eD
      · refine ⟨_, rfl, rfl, _, rfl, iteT ?_⟩
        exact q2 hn H3 (b2.trans (AftL.of a3 b2.tb b2.tl hPL))
    · obtain ⟨f', hf1, hf2⟩ := hqw hd r hr
      refine ⟨_, rfl, hd, some (.ref f'), rfl, rfl, hf1, _, rfl, iteT ?_⟩
      refine ⟨_, rfl, dQ, hd, .ref f', rfl, rfl, ⟨es, nn, .ref f', kD_QUESTIONS.at_, kD_QUESTIONS.lit, hf1, rfl⟩, ?_⟩
      refine ⟨f', _, rfl, hf2, _, rfl, Da, CDesk, dx, _, _, rfl, eD2, dc.cl, dc.k, rfl, _, rfl, kp, a, p, R, n, k, g, o, ps, qs, ws, rfl, DK2, ok, hk2, hk, hR, hl, hwl, b2.tb, b2.tl, fun v H3 a3 hv => ?_⟩
      refine ⟨_, rfl, rfl, _, rfl, ?_⟩
      by_cases e : v = .non
      · rw [decide_eq_true e]
        rw [e] at hv
        refine iteT ?_
        exact q2 H3 (b2.trans a3) hv
      · rw [decide_eq_false e]
        refine iteF ?_
        exact ⟨_, rfl, q1 v H3 (b2.trans a3) hv e⟩
end
end K80
set_option Elab.async false
set_option linter.all false
set_option maxRecDepth 100000
set_option maxHeartbeats 4000000
namespace K80
open PySem PySem.Spec PyProof.Rows L2 GX
open C8 (Cal pe_c pe_gc Met Mak)
-- @dict CHANGES
-- @no CHANGES 0 ""
-- @no CHANGES 1 "0"
-- @no CHANGES 2 "way"
-- @no CHANGES 3 "Kind"
-- @no CHANGES 4 "leads"
-- @dict QUESTIONS
-- @no QUESTIONS 0 "gate"
-- @no QUESTIONS 1 "kind"
-- @no QUESTIONS 2 "lead"
-- @no QUESTIONS 3 "less"
-- @no QUESTIONS 4 "outs"
-- @exc NoText
-- @exc NoDepth
-- @exc TooMany
-- @exc NoMatch
-- @exc NoChange made
-- @exc NoRow made
-- @sub NoChange NoChange true
-- @sub NoRow NoRow true
-- @sub NoRow ValueError true
-- @sub NoRow NoText false
-- @sub NoRow NoDepth false
-- @sub NoRow TooMany false
-- @sub NoRow NoMatch false
-- @sub NoRow NoChange false
-- @cls Keeper k:i,held:N,kept:t[t[t[i]]]
-- @cls Desk keeper:OKeeper
-- @alt rises list par=l[i]
-- @alt cut_masks tup par=N,t[i],i vars=masks:DL,wire:i
-- @alt one_deeper tup par=t[i],t[i]
-- @alt _law_written tup par=t[i],s
section
variable {P : Program} {w : World} {K : PySem.W.Frag} {mg : Str → Option Value} {base : Heap} {Ts : List Addr}
def spPTells (Ts : List Addr) : Sp := fun vs H Q _ => ∃ (a : Addr) (n : Net) (g o : Addr) (ps : List Addr) (wr : Nat) (sa : Addr) (st : List Nat), vs = [.ref a, nV wr, .ref sa] ∧ NetAt H a n g o ps ∧ n.Ok ∧ wr < n.many + n.gates.length ∧ H sa = some (.tup (st.map nV)) ∧ Tabs Ts H ∧ ∀ b H', (b = true ↔ Sep n wr st) → Aft Ts H H' → Q (.bl b) H'
theorem ok_ptells {f c PT : Addr} (D : Dfn K mg "tells" s_tells f c) (T : Txt mg) (c_reached : Cal P w K mg base 2 "reached" (spReached Ts) []) (TB_tells : GxR.TabB base mg c PT) (hP : PT ∈ Ts) : Cal P w K mg base 3 "tells" (spPTells Ts) [] := by
  refine cal D (fun _ _ _ _ _ _ us hl => match us, hl with | [_, _, _], _ => rfl) sc_tells (fun vs H Q E h => ?_) (fun A outer s H vs Q E hr h => ?_)
  · obtain ⟨a, n, g, o, ps, wr, sa, st, rfl, _⟩ := h
    rfl
  · obtain ⟨a, n, g, o, ps, wr, sa, st, rfl, N, ok, hw, hs, tb, q⟩ := h
    refine ⟨_, (pss_one (ps_ret (pe_not (pe_anyG (own := [("start", 3)]) hr (by rfl) T.b_any TB_tells rfl (gxOk_by (N := ["net", "wire", "wires", "start"]) (sc := defScope s_tells) (own := [("start", 3)]) (by decide +kernel)) sc_tells.nd (pi_tup (pe_c c_reached hr (by decide) (by rfl) (pa_cons (pv 0) (pa_cons (pv 1) (pa_cons (pv 2) pa_nil))))) (fun _ _ _ _ => (pg_name (i := 3) sc_tells.nd rfl (by first | exact Or.inl rfl | exact Or.inr rfl))) (fun _ _ _ _ => pts_nil) (fun _ _ _ _ => (pe_cmpR op_lt (pv 3) (pe_ix (ix_tupK (K := K)) (pv 0) pe_int (fun _ _ => rfl)) (nomark _))))))), ?_⟩
    refine ⟨_, rfl, _, rfl, _, rfl, a, n, g, o, ps, wr, sa, st, rfl, N, ok, hw, hs, tb, fun p H1 xs a1 hp rs => ?_⟩
    refine ⟨p, rfl, ⟨_, SqT.of hp⟩, a1.tb PT hP, fun H2 ht => ?_⟩
    have a2 : Aft Ts H1 H2 := ⟨Keep.tabbed hP ht, a1.tb.tabbed ht⟩
    refine turns_it (walk_tup (xs := xs.map nV)) (fun i ys H' => Aft Ts H1 H' ∧ ∀ x ∈ xs.take i, n.many ≤ x) ⟨a2, fun x hx => by cases hx⟩ (fun i ys H' _ hp' => SqT.of (hp'.1.tup a1.tb hp)) ?_ ?_
    · rintro i x ys H3 H4 hi ⟨a3, al⟩ ⟨rfl, hx⟩
      rw [List.length_map] at hi
      rw [natAt hi] at hx
      cases hx
      refine ⟨rfl, ?_⟩
      unfold tYes
      refine iteT ?_
      have N3 := N.aft tb (a1.trans a3)
      have ex : xs.getD i 0 = xs[i] := by rw [List.getD_eq_getElem?_getD, List.getElem?_eq_getElem hi]; rfl
      have hm := getD_mem hi
      refine ⟨_, rfl, _, rfl, a, _, 0, _, rfl, rfl, SqT.of N3.top, at0, _, _, rfl, rfl, ⟨_, rfl, fun hc => ⟨_, rfl, q false _ ⟨fun z => (by cases z), fun z => ?_⟩ (a1.trans a3)⟩⟩, fun hn => ⟨a3, fun x hx => ?_⟩⟩
      · have h1 := of_decide_eq_true hc
        have h2 := z _ ((rs.2 _).mp hm)
        omega
      · rcases (mem_take_succ hi x).mp hx with h | rfl
        · exact al x h
        · have h1 := of_decide_eq_false (V.bl.inj hn)
          omega
    · rintro ys H3 ⟨a3, al⟩
      rw [List.length_map, List.take_length] at al
      exact ⟨_, rfl, q true _ ⟨fun _ y r => al y ((rs.2 y).mpr r), fun _ => rfl⟩ (a1.trans a3)⟩
end
section
variable {P : Program} {w : World} {K : PySem.W.Frag} {mg : Str → Option Value} {base : Heap} {Ts : List Addr}
def spRises (Ts : List Addr) : Sp := fun vs H Q _ => ∃ (ta : Addr) (xs : List Nat), vs = [.ref ta] ∧ H ta = some (.tup (xs.map nV)) ∧ 0 < xs.length ∧ Tabs Ts H ∧ ∀ (b : Bool) H', (b = true ↔ xs.Pairwise (· < ·)) → Aft Ts H H' → Q (.bl b) H'
theorem ok_rises {f c PW' : Addr} (D : Dfn K mg "rises" s_rises f c) (T : Txt mg) (TB_rises : GxR.TabB base mg c PW') (hP : PW' ∈ Ts) : Cal P w K mg base 1 "rises" (spRises Ts) [] := by
  refine cal D (fun _ _ _ _ _ _ us hl => match us, hl with | [_], _ => rfl) sc_rises (fun vs H Q E h => ?_) (fun A outer s H vs Q E hr h => ?_)
  · obtain ⟨ta, xs, rfl, _⟩ := h
    rfl
  · obtain ⟨ta, xs, rfl, ht3, h0, tb, q⟩ := h
    refine ⟨_, (pss_one (ps_ret (pe_allG (own := [("low", 1), ("high", 2)]) hr (by rfl) T.b_all TB_rises rfl (gxOk_by (N := ["numbers", "low", "high"]) (sc := defScope s_rises) (own := [("low", 1), ("high", 2)]) (by decide +kernel)) sc_rises.nd (RZ.pi_zipA (by rfl) T.b_zip (pa_cons (pv 0) (pa_cons (pe_slice sl_tupA (pv 0) (po_some pe_int) po_none) pa_nil))) (fun _ _ _ _ => (pg_tupK (K := K) (n := 2) rfl rfl (pgs_cons (pg_name (i := 1) sc_rises.nd rfl (by first | exact Or.inl rfl | exact Or.inr rfl)) (pgs_cons (pg_name (i := 2) sc_rises.nd rfl (by first | exact Or.inl rfl | exact Or.inr rfl)) pgs_nil)))) (fun _ _ _ _ => pts_nil) (fun _ _ _ _ => (pe_cmpR op_lt (pv 1) (pv 2) (nomark _)))))), ?_⟩
    refine ⟨_, rfl, _, rfl, 1, rfl, ?_⟩
    unfold tNoPart
    refine slA (lo := some ((1 : Nat) : Int)) (hi := none) ht3 fun r H5 s5 h5 => ?_
    rw [cut_lo, ← List.map_drop] at h5
    have a5 := Aft.ofSame tb s5
    have ht5 := s5 _ _ ht3
    refine ⟨ta, r, _, _, rfl, .inr ⟨SqT.of ht5, SqT.of h5, ?_⟩⟩
    refine ⟨a5.tb PW' hP, fun H6 htab6 => ?_⟩
    have a6 : Aft Ts H5 H6 := ⟨Keep.tabbed hP htab6, a5.tb.tabbed htab6⟩
    refine turns_it (walk_zipT (n := xs.length - 1) (xs := xs.map nV) (ys := (xs.drop 1).map nV) (by rw [List.length_map, List.length_map, List.length_drop]; omega)) (fun i ys H' => Aft Ts H5 H' ∧ ∀ j, j < i → xs.getD j 0 < xs.getD (j + 1) 0) ⟨a6, fun j hj => absurd hj (Nat.not_lt_zero _)⟩ (fun i ys H' _ hp => ⟨SqT.of (hp.1.tup a5.tb ht5), SqT.of (hp.1.tup a5.tb h5)⟩) ?_ ?_
    · rintro i x ys H7 H8 hi ⟨a7, al⟩ ⟨T', v1, v2, rfl, nT, rfl, e1, e2⟩
      have e1' : (xs.map nV)[i]? = some v1 := e1
      have e2' : ((xs.drop 1).map nV)[i]? = some v2 := e2
      rw [nat_at (by omega)] at e1'
      rw [List.map_drop, List.getElem?_drop, Nat.add_comm, nat_at (by omega)] at e2'
      cases e1'
      cases e2'
      have a8 := a7.trans (Aft.new (o := .tup [nV (xs.getD i 0), nV (xs.getD (i + 1) 0)]) a7.tb nT)
      refine ⟨T', _, rfl, SqT.of upd_same, rfl, _, _, rfl, _, _, rfl, rfl, rfl, ?_⟩
      unfold tYes
      refine iteT ?_
      refine ⟨_, rfl, _, rfl, _, _, rfl, rfl, ⟨_, rfl, fun hc => ?_⟩, fun hc => ⟨a8, fun j hj => ?_⟩⟩
      · refine q false _ ⟨fun z => (by cases z), fun z => ?_⟩ (a5.trans a8)
        have := rise_getD z (show i < i + 1 by omega) (by omega)
        have h1 := of_decide_eq_false hc
        omega
      · by_cases e : j = i
        · subst e
          have h1 := of_decide_eq_true (V.bl.inj hc)
          omega
        · exact al j (by omega)
    · rintro ys H7 ⟨a7, al⟩
      exact q true _ ⟨fun _ => pair_up _ fun i hi => al i (by omega), fun _ => rfl⟩ (a5.trans a7)
end
section
variable {P : Program} {w : World} {K : PySem.W.Frag} {mg : Str → Option Value} {base : Heap} {Ts : List Addr}
def spIsRising (Ts : List Addr) : Sp := fun vs H Q _ => ∃ (v : V) (t : Th) (b : Nat), vs = [v, nV b] ∧ Rep H v t ∧ Tabs Ts H ∧ ∀ (r : Bool) H', (r = true ↔ ∃ xs : List Nat, t = thWs xs ∧ 0 < xs.length ∧ (∀ x ∈ xs, x < b) ∧ xs.Pairwise (· < ·)) → Aft Ts H H' → Q (.bl r) H'
theorem ok_isrising {f c PW' : Addr} (D : Dfn K mg "is_rising" s_is_rising f c) (T : Txt mg) (c_is_below : Cal P w K mg base 2 "is_below" spBelow []) (c_rises : Cal P w K mg base 1 "rises" (spRises Ts) []) (TB_is_rising : GxR.TabB base mg c PW') (hP : PW' ∈ Ts) : Cal P w K mg base 4 "is_rising" (spIsRising Ts) [] := by
  refine cal D (fun _ _ _ _ _ _ us hl => match us, hl with | [_, _], _ => rfl) sc_is_rising (fun vs H Q E h => ?_) (fun A outer s H vs Q E hr h => ?_)
  · obtain ⟨v, t, b, rfl, _⟩ := h
    rfl
  · obtain ⟨v, t, b, rfl, r, tb, q⟩ := h
    refine ⟨_, (pss_cons (ps_if (PW.pt (pw_or (pt_not (pt_val (pe_callB call_isi (by rfl) T.b_isinstance (by decide +kernel) (pa_cons (pv 0) (pa_cons (pe_bltn (v := .ty "tuple") (by rfl) T.b_tuple (by decide +kernel) rfl) pa_nil))))) (pw_or1 (pt_cmpR op_eq (pe_callB call_len_seq (by rfl) T.b_len (by decide +kernel) (pa_cons (pv 0) pa_nil)) pe_int (nomark _))))) (pss_one (ps_ret pe_bl)) pss_nil)
      (pss_one (ps_ret (pe_and (pe_allG (own := [("wire", 2)]) hr (by rfl) T.b_all TB_is_rising rfl (gxOk_by (N := ["thing", "bound", "wire"]) (sc := defScope s_is_rising) (own := [("wire", 2)]) (by decide +kernel)) sc_is_rising.nd (pi_tup (pv 0)) (fun _ _ _ _ => (pg_name (i := 2) sc_is_rising.nd rfl (by first | exact Or.inl rfl | exact Or.inr rfl))) (fun _ _ _ _ => pts_nil) (fun _ _ _ _ => (pe_c c_is_below (GX.Room.gx2 hr) (by decide) (by rfl) (pa_cons (pv 2) (pa_cons (pv 1) pa_nil))))) (pe_one (pe_c c_rises hr (by decide) (by rfl) (pa_cons (pv 0) pa_nil))))))), ?_⟩
    refine ⟨_, rfl, _, _, _, _, t.kTup, rfl, .ty "tuple", tyx r, kit_ty (kTup_ok t), _, rfl, ite2 (fun h1 => ?_) (fun h1 => ?_)⟩
    · exact q false _ ⟨fun z => (by cases z), fun ⟨xs, e, _⟩ => absurd e (yesK h1 _)⟩ (Aft.refl tb)
    obtain ⟨ta, vs, ts, rfl, rfl, ht, ra⟩ := r.tupI h1
    have vl := ra.length
    refine ⟨_, rfl, ta, _, rfl, .inr (SqT.of ht), rfl, _, rfl, ite2 (fun h2 => ?_) (fun h2 => ?_)⟩
    · refine q false _ ⟨fun z => (by cases z), fun ⟨xs, e, l, _⟩ => ?_⟩ (Aft.refl tb)
      have := V.int.inj (of_decide_eq_true h2)
      rw [tup_inj e, List.length_map] at vl
      omega
    have l0 : 0 < vs.length := Nat.pos_of_ne_zero fun z => h2 (decide_eq_true (by rw [z]; rfl))
    refine ⟨_, rfl, ta, rfl, ⟨_, SqT.of ht⟩, tb PW' hP, fun H2 htab => ?_⟩
    have a2 : Aft Ts H H2 := ⟨Keep.tabbed hP htab, tb.tabbed htab⟩
    refine turns_it (walk_tup (xs := vs)) (fun i ys H' => Aft Ts H H' ∧ ∃ xs : List Nat, ts.take i = xs.map thW ∧ ∀ x ∈ xs, x < b) ⟨a2, [], rfl, fun x hx => by cases hx⟩ (fun i ys H' _ hp => SqT.of (hp.1.tup tb ht)) ?_ ?_
    · rintro i x ys H3 H4 hi ⟨a3, xs, ex, al⟩ ⟨rfl, hx⟩
      obtain ⟨t', ht', rt⟩ := ra.get hx
      refine ⟨rfl, ?_⟩
      unfold tYes
      refine iteT ?_
      refine ⟨_, rfl, _, rfl, x, t', _, rfl, rt.keepR (KeepR.aft tb a3), ⟨_, rfl, fun hf => ?_⟩, fun hn => ⟨a3, ?_⟩⟩
      · refine ⟨_, rfl, iteF ?_⟩
        refine q false _ ⟨fun z => (by cases z), fun ⟨zs, e, _, lt, _⟩ => ?_⟩ a3
        rw [tup_inj e, List.getElem?_map] at ht'
        obtain ⟨y, ey, e2⟩ := Option.map_eq_some_iff.mp ht'
        rw [isB_nat.mpr ⟨y, e2.symm, lt y (List.mem_of_getElem? ey)⟩] at hf
        cases hf
      · obtain ⟨y, ey, hy⟩ := isB_nat.mp (V.bl.inj hn)
        refine ⟨xs ++ [y], ?_, fun z hz => ?_⟩
        · rw [List.take_add_one, ht', ex, Option.toList_some, ey, List.map_append]
          rfl
        · rcases List.mem_append.mp hz with h | h
          · exact al z h
          · rw [List.mem_singleton.mp h]
            exact hy
    · rintro ys H3 ⟨a3, xs, ex, al⟩
      rw [vl, List.take_length] at ex
      subst ex
      obtain rfl := nats_rep ra
      rw [List.length_map] at l0
      refine ⟨_, rfl, iteT ?_⟩
      refine ⟨_, rfl, ta, xs, rfl, a3.tup tb ht, l0, a3.tb, fun r H4 hr a4 => ?_⟩
      exact q r H4 (hr.trans ⟨fun z => ⟨xs, rfl, l0, al, z⟩, fun ⟨zs, e, _, _, z⟩ => by
        rw [map_inj' thW_inj (tup_inj e)]
        exact z⟩) (a3.trans a4)
def spIsCut (Ts : List Addr) : Sp := fun vs H Q _ => ∃ (a : Addr) (n : Net) (g o : Addr) (ps : List Addr) (gt : Nat) (v : V) (t : Th), vs = [.ref a, nV gt, v] ∧ NetAt H a n g o ps ∧ n.Ok ∧ gt < n.many + n.gates.length ∧ Rep H v t ∧ Tabs Ts H ∧ ∀ (b : Bool) H', (b = true ↔ ∃ xs : List Nat, t = thWs xs ∧ CutOk n gt xs) → Aft Ts H H' → Q (.bl b) H'
theorem ok_iscut {f c : Addr} (D : Dfn K mg "is_cut" s_is_cut f c) (T : Txt mg) (c_is_rising : Cal P w K mg base 4 "is_rising" (spIsRising Ts) []) (c_tells : Cal P w K mg base 3 "tells" (spPTells Ts) []) : Cal P w K mg base 5 "is_cut" (spIsCut Ts) [] := by
  refine cal D (fun _ _ _ _ _ _ us hl => match us, hl with | [_, _, _], _ => rfl) sc_is_cut (fun vs H Q E h => ?_) (fun A outer s H vs Q E hr h => ?_)
  · obtain ⟨a, n, g, o, ps, gt, v, t, rfl, _⟩ := h
    rfl
  · obtain ⟨a, n, g, o, ps, gt, v, t, rfl, N, ok, hgt, r, tb, q⟩ := h
    refine ⟨_, (pss_one (ps_ret (pe_and (pe_c c_is_rising hr (by decide) (by rfl) (pa_cons (pv 2) (pa_cons (pv 1) pa_nil))) (pe_one (pe_c c_tells hr (by decide) (by rfl) (pa_cons (pv 0) (pa_cons (pv 1) (pa_cons (pv 2) pa_nil)))))))), ?_⟩
    refine ⟨_, rfl, _, rfl, v, t, gt, rfl, r, tb, fun r1 H1 hr1 a1 => ⟨_, rfl, ite2 (fun h1 => ?_) (fun h1 => ?_)⟩⟩
    · obtain ⟨xs, rfl, l0, lt, ris⟩ := hr1.mp h1
      obtain ⟨ta, rfl, ht⟩ := wsT_rep r
      exact ⟨_, rfl, _, rfl, _, rfl, a, n, g, o, ps, gt, ta, xs, rfl, N.aft tb a1, ok, hgt, a1.tup tb ht, a1.tb, fun b H2 hb a2 => q b H2 (hb.trans ⟨fun z => ⟨xs, rfl, l0, lt, z, ris⟩, fun ⟨ys, e, c⟩ => by
        rw [thWs_inj e]
        exact c.sep⟩) (a1.trans a2)⟩
    · exact q false H1 ⟨fun z => (by cases z), fun ⟨ys, e, c⟩ => (h1 (hr1.mpr ⟨ys, e, c.ne, c.lt, c.rise⟩)).elim⟩ a1
end
end K80
set_option Elab.async false
set_option linter.all false
set_option maxRecDepth 100000
set_option maxHeartbeats 4000000
namespace K80
open PySem PySem.Spec PyProof.Rows L2 GX
open C8 (Cal pe_c pe_gc Met Mak)
-- @dict CHANGES
-- @no CHANGES 0 ""
-- @no CHANGES 1 "0"
-- @no CHANGES 2 "way"
-- @no CHANGES 3 "Kind"
-- @no CHANGES 4 "leads"
-- @dict QUESTIONS
-- @no QUESTIONS 0 "gate"
-- @no QUESTIONS 1 "kind"
-- @no QUESTIONS 2 "lead"
-- @no QUESTIONS 3 "less"
-- @no QUESTIONS 4 "outs"
-- @exc NoText
-- @exc NoDepth
-- @exc TooMany
-- @exc NoMatch
-- @exc NoChange made
-- @exc NoRow made
-- @sub NoChange NoChange true
-- @sub NoRow NoRow true
-- @sub NoRow ValueError true
-- @sub NoRow NoText false
-- @sub NoRow NoDepth false
-- @sub NoRow TooMany false
-- @sub NoRow NoMatch false
-- @sub NoRow NoChange false
-- @cls Keeper k:i,held:N,kept:t[t[t[i]]]
-- @cls Desk keeper:OKeeper
-- @alt rises list par=l[i]
-- @alt cut_masks tup par=N,t[i],i vars=masks:DL,wire:i
-- @alt one_deeper tup par=t[i],t[i]
-- @alt _law_written tup par=t[i],s
theorem atI_last {xs : List V} {v : V} (h : xs[xs.length - 1]? = some v) : atI xs (-1) = some v := by
  have hl := (List.getElem?_eq_some_iff.mp h).1
  unfold atI
  have e : ixN xs.length (-1) = some (xs.length - 1) := by
    unfold ixN
    rw [if_neg (by decide)]
    first
      | rw [if_pos (by omega)]; congr 1; omega
      | simp; omega
  rw [e]
  exact h
section
variable {P : Program} {w : World} {K : PySem.W.Frag} {mg : Str → Option Value} {base : Heap} {Ts : List Addr}
def spStep : Sp := fun vs H Q _ => ∃ (a : Addr) (n : Net) (g o : Addr) (ps : List Addr) (x y : Nat), vs = [.ref a, nV x, nV y] ∧ NetAt H a n g o ps ∧ y < n.many + n.gates.length ∧ ∀ H', Same H H' → Q (.bl (stB n x y)) H'
theorem ok_step {f c : Addr} (D : Dfn K mg "is_step" s_is_step f c) (c_places : Cal P w K mg base 1 "places" spPlaces []) : Cal P w K mg base 2 "is_step" spStep [] := by
  refine cal D (fun _ _ _ _ _ _ us hl => match us, hl with | [_, _, _], _ => rfl) sc_is_step (fun vs H Q E h => ?_) (fun A outer s H vs Q E hr h => ?_)
  · obtain ⟨a, n, g, o, ps, x, y, rfl, _⟩ := h
    rfl
  · obtain ⟨a, n, g, o, ps, x, y, rfl, N, hy, q⟩ := h
    refine ⟨_, (pss_one (ps_ret (pe_and (pe_cmpR op_ge (pv 2) (pe_ix ix_tup (pv 0) pe_int (fun _ _ => rfl)) (nomark _)) (pe_one (pe_cmpR op_in_seq (pv 1) (pe_c c_places hr (by decide) (by rfl) (pa_cons (pv 0) (pa_cons (pv 2) pa_nil))) (by rfl)))))), ?_⟩
    refine ⟨_, rfl, _, rfl, a, _, 0, _, rfl, rfl, SqT.of N.top, at0, _, _, rfl, rfl, _, rfl, ite2 (fun hg => ?_) (fun hg => ?_)⟩
    · have hg' : n.many ≤ y := by
        have := of_decide_eq_true hg
        omega
      obtain ⟨k, hk⟩ : ∃ k, n.gates[y - n.many]? = some k := ⟨_, List.getElem?_eq_getElem (by omega)⟩
      refine ⟨_, rfl, _, rfl, _, rfl, a, n, g, o, ps, y, k, rfl, N, hg', hk, fun p np => ?_⟩
      refine ⟨p, _, rfl, .inr (SqT.of upd_same), rfl, rfl, ?_⟩
      have e : inV (nV x) [nV k.2.1, nV k.2.2] = stB n x y := by
        rw [in2]
        unfold stB
        rw [decide_eq_true hg', hk, Bool.true_and]
      show Q (.bl (inV (nV x) [nV k.2.1, nV k.2.2])) _
      rw [e]
      exact q _ (Same.new np)
    · have hg' : ¬ (n.many ≤ y) := fun z => hg (decide_eq_true (by show ((y : Nat) : Int) ≥ ((n.many : Nat) : Int); omega))
      have e : stB n x y = false := by
        unfold stB
        rw [decide_eq_false hg', Bool.false_and]
      have q' := q H (Same.refl _)
      rw [e] at q'
      exact q'
theorem Rset.short {n : Net} (ok : n.Ok) {st : List Nat} {w : Nat} {xs : List Nat} (hw : w < n.many + n.gates.length) (r : Rset n st w xs) : xs.length ≤ 24 := by
  have := nodup_lt (m := n.many + n.gates.length) (r.1.imp fun h => Nat.ne_of_lt h) fun y hy => by have := ((r.2 y).mp hy).le ok; omega
  have := ok.m8
  have := ok.g16
  omega
def spPast (Ts : List Addr) : Sp := fun vs H Q _ => ∃ (a : Addr) (n : Net) (g o : Addr) (ps : List Addr) (gt : Nat) (sa : Addr) (st : List Nat), vs = [.ref a, nV gt, .ref sa] ∧ NetAt H a n g o ps ∧ n.Ok ∧ gt < n.many + n.gates.length ∧ H sa = some (.tup (st.map nV)) ∧ Tabs Ts H ∧ ∀ v H' xs, Aft Ts H H' → VRep H' v (wpRes n xs) → Rset n st gt xs → Q v H'
theorem ok_past {f c : Addr} (D : Dfn K mg "way_past" s_way_past f c) (T : Txt mg) (c_reached : Cal P w K mg base 2 "reached" (spReached Ts) []) (c_is_step : Cal P w K mg base 2 "is_step" spStep []) : Cal P w K mg base 3 "way_past" (spPast Ts) [] := by
  refine cal D (fun _ _ _ _ _ _ us hl => match us, hl with | [_, _, _], _ => rfl) sc_way_past (fun vs H Q E h => ?_) (fun A outer s H vs Q E hr h => ?_)
  · obtain ⟨a, n, g, o, ps, gt, sa, st, rfl, _⟩ := h
    rfl
  · obtain ⟨a, n, g, o, ps, gt, sa, st, rfl, N, ok, hw, hs, tb, q⟩ := h
    refine ⟨_, (pss_cons (ps_set (i := 3) sc_way_past.nd rfl (by first | exact Or.inl rfl | exact Or.inr rfl) (pe_c c_reached hr (by decide) (by rfl) (pa_cons (pv 0) (pa_cons (pv 1) (pa_cons (pv 2) pa_nil)))))
      (pss_cons (ps_if (PW.pt (pw_or (pt_cmpR op_eq (pe_callB call_len_seq (by rfl) T.b_len (by decide +kernel) (pa_cons (pv 3) pa_nil)) pe_int (nomark _)) (pw_or1 (pt_cmpR op_ge (pe_ix ix_tup (pv 3) pe_int (fun _ _ => rfl)) (pe_ix ix_tup (pv 0) pe_int (fun _ _ => rfl)) (nomark _))))) (pss_one (ps_ret pe_non)) pss_nil)
      (pss_cons (ps_set (i := 4) sc_way_past.nd rfl (by first | exact Or.inl rfl | exact Or.inr rfl) (pe_lst (pa_cons (pe_ix ix_tup (pv 3) pe_int (fun _ _ => rfl)) pa_nil)))
      (pss_cons (ps_for PassesOwn.never rfl (pi_tup (pv 3)) (pg_name (i := 5) sc_way_past.nd rfl (by first | exact Or.inl rfl | exact Or.inr rfl))
        (pss_one (ps_if (pt_val (pe_c c_is_step hr (by decide) (by rfl) (pa_cons (pv 0) (pa_cons (pe_ix ix_list (pv 4) (pe_un un_neg pe_int) (fun _ _ => rfl)) (pa_cons (pv 5) pa_nil))))) (pss_one (ps_expr (pe_bm PySem.F.plainAttrs_list PySem.F.slot_list_append PySem.F.type_list_append mt_append (pv 4) (pa_cons (pv 5) pa_nil)))) pss_nil)))
      (pss_one (ps_ret (pe_callTy call_tuple_of (by rfl) T.b_tuple (by decide +kernel) (pa_cons (pv 4) pa_nil)))))))), ?_⟩
    refine ⟨_, rfl, _, rfl, _, rfl, a, n, g, o, ps, gt, sa, st, rfl, N, ok, hw, hs, tb, fun p H2 xs a2 hp rs => ?_⟩
    have xl := Rset.short ok hw rs
    have N2 := N.aft tb a2
    refine ⟨_, rfl, p, _, rfl, .inr (SqT.of hp), rfl, _, rfl, ite2 (fun h1 => ?_) (fun h1 => ?_)⟩
    · have h1' : xs.length = 0 := by
        have := V.int.inj (of_decide_eq_true h1)
        rw [List.length_map] at this
        omega
      exact q _ H2 xs a2 (by unfold wpRes; rw [if_pos (.inl h1')]; rfl) rs
    · have h1' : 0 < xs.length := by
        rcases Nat.eq_zero_or_pos xs.length with z | z
        · exact absurd (decide_eq_true (by rw [List.length_map, z]; rfl)) h1
        · exact z
      refine ⟨_, rfl, p, _, 0, _, rfl, rfl, SqT.of hp, atI_nat (j := 0) (nat_at h1'), _, rfl, a, _, 0, _, rfl, rfl, SqT.of N2.top, at0, _, _, rfl, rfl, _, rfl, ite2 (fun h2 => ?_) (fun h2 => ?_)⟩
      · have h2' : n.many ≤ xs.getD 0 0 := by
          have := of_decide_eq_true h2
          omega
        exact q _ H2 xs a2 (by unfold wpRes; rw [if_pos (.inr h2')]; rfl) rs
      · have h2' : ¬ (n.many ≤ xs.getD 0 0) := fun z => h2 (decide_eq_true (by show ((xs.getD 0 0 : Nat) : Int) ≥ ((n.many : Nat) : Int); omega))
        have er : wpRes n xs = some (wpOf n xs) := by
          unfold wpRes
          rw [if_neg (fun z => by rcases z with z | z <;> omega)]
        refine ⟨_, rfl, p, _, 0, _, rfl, rfl, SqT.of hp, atI_nat (j := 0) (nat_at h1'), small 1, fun l nl => ?_⟩
        refine ⟨_, rfl, p, rfl, ⟨_, SqT.of (Same.new nl _ _ hp)⟩, ?_⟩
        refine for_tup (K := K) (a := p) (xs := xs.map nV) (fun i σ H' => ∃ x5, σ = [some (.ref a), some (nV gt), some (.ref sa), some (.ref p), some (.ref l), x5] ∧ Own H2 H' l (((xs.take i).foldl (wpStep n) [xs.getD 0 0]).map nV)) ⟨none, rfl, Same.new nl, upd_same, nl⟩ ?_ ?_ ?_
        · rintro i σ H3 _ ⟨_, _, o3⟩
          exact SqT.of (o3.sm _ _ hp)
        · rintro i x σ H3 hx ⟨x5, rfl, o3⟩
          have hi : i < xs.length := by
            have := (List.getElem?_eq_some_iff.mp hx).1
            rwa [List.length_map] at this
          rw [nat_at hi] at hx
          cases hx
          have v := wp_inv (n := n) h1' rs.1 i (by omega)
          rw [wp_take hi]
          generalize (xs.take i).foldl (wpStep n) [xs.getD 0 0] = ys at o3 v ⊢
          have y0 := v.ne
          have yl := v.len
          have hlast : (ys.map nV)[(ys.map nV).length - 1]? = some (nV (lastD ys)) := by
            rw [List.length_map, nat_at (by omega)]
            rfl
          have hxw : xs.getD i 0 < n.many + n.gates.length := by
            have := ((rs.2 _).mp (getD_mem hi)).le ok
            omega
          refine ⟨_, rfl, _, rfl, _, rfl, l, _, -1, _, rfl, rfl, SqL.of o3.at_, atI_last hlast, _, rfl, a, n, g, o, ps, lastD ys, xs.getD i 0, rfl, N2.same o3.sm, hxw, fun H4 s4 => ⟨_, rfl, ?_⟩⟩
          have o4 := Own.same o3 s4
          refine ite2 (fun hb => ?_) (fun hb => ?_)
          · refine ⟨_, rfl, .inl ⟨rfl, _, SqL.of o4.at_⟩, _, rfl, l, _, _, rfl, rfl, o4.at_, by rw [List.length_map]; exact small1000 (by omega), some (nV (xs.getD i 0)), rfl, ?_⟩
            unfold wpStep
            rw [if_pos hb, List.map_append]
            exact o4.app
          · refine ⟨some (nV (xs.getD i 0)), rfl, ?_⟩
            unfold wpStep
            rw [if_neg hb]
            exact o4
        · rintro σ H3 ⟨x5, rfl, o3⟩
          rw [List.length_map, List.take_length] at o3
          refine ⟨_, rfl, l, _, rfl, .inl ⟨SqL.of o3.at_, fun r nr => ?_⟩⟩
          have sm := o3.sm.trans (Same.new (o := .tup ((wpOf n xs).map nV)) nr)
          exact q _ _ xs (a2.trans (Aft.ofSame a2.tb sm)) (by rw [er]; exact ⟨r, rfl, upd_same⟩) rs
end
end K80
set_option Elab.async false
set_option linter.all false
set_option maxRecDepth 100000
set_option maxHeartbeats 4000000
namespace K80
open PySem PySem.Spec PyProof.Rows L2 GX
open C8 (Cal pe_c pe_gc Met Mak)
-- @dict CHANGES
-- @no CHANGES 0 ""
-- @no CHANGES 1 "0"
-- @no CHANGES 2 "way"
-- @no CHANGES 3 "Kind"
-- @no CHANGES 4 "leads"
-- @dict QUESTIONS
-- @no QUESTIONS 0 "gate"
-- @no QUESTIONS 1 "kind"
-- @no QUESTIONS 2 "lead"
-- @no QUESTIONS 3 "less"
-- @no QUESTIONS 4 "outs"
-- @exc NoText
-- @exc NoDepth
-- @exc TooMany
-- @exc NoMatch
-- @exc NoChange made
-- @exc NoRow made
-- @sub NoChange NoChange true
-- @sub NoRow NoRow true
-- @sub NoRow ValueError true
-- @sub NoRow NoText false
-- @sub NoRow NoDepth false
-- @sub NoRow TooMany false
-- @sub NoRow NoMatch false
-- @sub NoRow NoChange false
-- @cls Keeper k:i,held:N,kept:t[t[t[i]]]
-- @cls Desk keeper:OKeeper
-- @alt rises list par=l[i]
-- @alt cut_masks tup par=N,t[i],i vars=masks:DL,wire:i
-- @alt one_deeper tup par=t[i],t[i]
-- @alt _law_written tup par=t[i],s
section
variable {P : Program} {w : World} {K : PySem.W.Frag} {mg : Str → Option Value} {base : Heap} {Ts : List Addr}
def spInside (Ts : List Addr) : Sp := fun vs H Q _ => ∃ (a : Addr) (n : Net) (g o : Addr) (ps : List Addr) (gt : Nat) (sa : Addr) (st : List Nat), vs = [.ref a, nV gt, .ref sa] ∧ NetAt H a n g o ps ∧ n.Ok ∧ gt < n.many + n.gates.length ∧ H sa = some (.tup (st.map nV)) ∧ Tabs Ts H ∧ ∀ p H' xs, Aft Ts H H' → H' p = some (.tup ((xs.filter fun x => decide (n.many ≤ x)).map nV)) → Rset n st gt xs → Q (.ref p) H'
theorem ok_inside {f c PI' : Addr} (D : Dfn K mg "inside" s_inside f c) (T : Txt mg) (c_reached : Cal P w K mg base 2 "reached" (spReached Ts) []) (TB_inside : GxR.TabB base mg c PI') (hP : PI' ∈ Ts) : Cal P w K mg base 3 "inside" (spInside Ts) [] := by
  refine cal D (fun _ _ _ _ _ _ us hl => match us, hl with | [_, _, _], _ => rfl) sc_inside (fun vs H Q E h => ?_) (fun A outer s H vs Q E hr h => ?_)
  · obtain ⟨a, n, g, o, ps, gt, sa, st, rfl, _⟩ := h
    rfl
  · obtain ⟨a, n, g, o, ps, gt, sa, st, rfl, N, ok, hw, hs, tb, q⟩ := h
    refine ⟨_, (pss_one (ps_ret (pe_tupG (own := [("wire", 3)]) hr (by rfl) T.b_tuple TB_inside rfl (gxOk_by (N := ["net", "gate", "cut", "wire"]) (sc := defScope s_inside) (own := [("wire", 3)]) (by decide +kernel)) sc_inside.nd (pi_tup (pe_c c_reached hr (by decide) (by rfl) (pa_cons (pv 0) (pa_cons (pv 1) (pa_cons (pv 2) pa_nil))))) (fun _ _ _ _ => (pg_name (i := 3) sc_inside.nd rfl (by first | exact Or.inl rfl | exact Or.inr rfl))) (fun _ _ _ _ => (pts_one (pt_cmpR op_ge (pv 3) (pe_ix (ix_tupK (K := K)) (pv 0) pe_int (fun _ _ => rfl)) (nomark _)))) (fun _ _ _ _ => (pv 3))))), ?_⟩
    refine ⟨_, rfl, _, rfl, _, rfl, a, n, g, o, ps, gt, sa, st, rfl, N, ok, hw, hs, tb, fun p H2 xs a2 hp rs => ?_⟩
    have xl := Rset.short ok hw rs
    refine ⟨p, rfl, ⟨_, SqT.of hp⟩, a2.tb PI' hP, fun H3 ht => ?_⟩
    have a3 : Aft Ts H2 H3 := ⟨Keep.tabbed hP ht, a2.tb.tabbed ht⟩
    refine turns_it (walk_tup (xs := xs.map nV)) (fun i ys H' => ys = ((xs.take i).filter fun x => decide (n.many ≤ x)).map nV ∧ Aft Ts H2 H') ⟨rfl, a3⟩ (fun i ys H' _ hp' => SqT.of (hp'.2.tup a2.tb hp)) ?_ ?_
    · rintro i x ys H4 H5 hi ⟨rfl, a4⟩ ⟨rfl, hx⟩
      rw [List.length_map] at hi
      rw [nat_at hi] at hx
      cases hx
      have N4 := (N.aft tb a2).aft a2.tb a4
      have ef : (xs.take (i + 1)).filter (fun x => decide (n.many ≤ x)) = (xs.take i).filter (fun x => decide (n.many ≤ x)) ++ (if decide (n.many ≤ xs.getD i 0) = true then [xs.getD i 0] else []) := by
        rw [List.take_add_one, List.filter_append, List.getD_eq_getElem?_getD, List.getElem?_eq_getElem hi, Option.toList_some, List.filter_cons]
        rfl
      refine ⟨rfl, _, rfl, _, rfl, a, _, 0, _, rfl, rfl, SqT.of N4.top, at0, _, _, rfl, rfl, _, rfl, ite2 (fun hg => ?_) (fun hg => ?_)⟩
      · have hg' : n.many ≤ xs.getD i 0 := by
          have := of_decide_eq_true hg
          omega
        refine ⟨_, rfl, ?_, fun _ => ⟨?_, a4⟩⟩
        · show (List.map nV _).length < sizeLine
          rw [List.length_map]
          exact Nat.lt_of_le_of_lt (List.length_filter_le _ _) (by rw [List.length_take]; exact small1000 (by omega))
        · rw [ef, if_pos (decide_eq_true hg'), List.map_append]
          rfl
      · have hg' : ¬ (n.many ≤ xs.getD i 0) := fun z => hg (decide_eq_true (by show ((xs.getD i 0 : Nat) : Int) ≥ ((n.many : Nat) : Int); omega))
        refine ⟨?_, a4⟩
        rw [ef, if_neg (by rw [decide_eq_false hg']; exact Bool.false_ne_true), List.append_nil]
    · rintro ys H4 ⟨rfl, a4⟩
      rw [List.length_map, List.take_length]
      refine ⟨?_, fun p2 hp2 => ?_⟩
      · rw [List.length_map]
        exact Nat.le_trans (List.length_filter_le _ _) (small _ (by omega))
      · exact q p2 _ xs ((a2.trans a4).trans (Aft.new a4.tb hp2)) upd_same rs
end
section
variable {P : Program} {w : World} {K : PySem.W.Frag} {mg : Str → Option Value} {base : Heap} {Ts : List Addr}
/-! ### contents by the program -/
def spGw : Sp := fun vs H Q _ => ∃ k a b : Nat, vs = [nV k, nV a, nV b] ∧ Q (nV (gw k a b)) H
theorem ok_gw {f c : Addr} (D : Dfn K mg "gate_worth" s_gate_worth f c) : Cal P w K mg base 1 "gate_worth" spGw [] := by
  refine cal D (fun _ _ _ _ _ _ us hl => match us, hl with | [_, _, _], _ => rfl) sc_gate_worth (fun vs H Q E h => ?_) (fun A outer s H vs Q E hr h => ?_)
  · obtain ⟨k, a, b, rfl, _⟩ := h
    rfl
  · obtain ⟨k, a, b, rfl, q⟩ := h
    refine ⟨_, (pss_one (ps_ret (pe_op op_and (pe_op op_shr (pv 0) (pe_op op_add (pv 1) (pe_op op_mul pe_int (pv 2)))) pe_int))), ?_⟩
    refine ⟨_, rfl, _, rfl, _, rfl, _, _, rfl, rfl, .inl (by omega), _, _, rfl, rfl, _, _, rfl, rfl, by omega, _, _, rfl, rfl, ?_⟩
    dsimp -proj only
    rw [show ((a : Nat) : Int) + 2 * ((b : Nat) : Int) = ((a + 2 * b : Nat) : Int) by omega, bit_of]
    exact q
def spWorthBy : Sp := fun vs H Q _ => ∃ (a wa ga : Addr) (n : Net) (g o : Addr) (ps : List Addr) (ws xs : List Nat) (wr r : Nat), vs = [.ref a, nV wr, .ref wa, .ref ga, nV r] ∧ NetAt H a n g o ps ∧ n.Ok ∧ wr < n.many + n.gates.length ∧ H wa = some (.tup (ws.map nV)) ∧ H ga = some (.tup (xs.map nV)) ∧ Rset n ws wr xs ∧ Sep n wr ws ∧ ws.Nodup ∧ ws.length ≤ 8 ∧ ∀ H', Same H H' → Q (nV (ev n ws r wr)) H'
theorem ok_worthby {f c : Addr} (D : Dfn K mg "worth_by" s_worth_by f c) (T : Txt mg) (c_gate_worth : Cal P w K mg base 1 "gate_worth" spGw []) : Cal P w K mg base 2 "worth_by" spWorthBy [] := by
  refine cal D (fun _ _ _ _ _ _ us hl => match us, hl with | [_, _, _, _, _], _ => rfl) sc_worth_by (fun vs H Q E h => ?_) (fun A outer s H vs Q E hr h => ?_)
  · obtain ⟨a, wa, ga, n, g, o, ps, ws, xs, wr, r, rfl, _⟩ := h
    rfl
  · obtain ⟨a, wa, ga, n, g, o, ps, ws, xs, wr, r, rfl, N, ok, hw, hwa, hga, rs, sep, nd, wl, q⟩ := h
    have xl : xs.length ≤ 24 := Rset.short ok hw rs
    have big : ∀ y ∈ xs, n.many ≤ y := fun y hy => sep y ((rs.2 y).mp hy)
    have nin : ∀ y ∈ xs, y ∉ ws := fun y hy => by
      cases (rs.2 y).mp hy with
      | here h => exact h
      | step _ _ _ _ _ h => exact h
    refine ⟨_, (pss_cons (ps_setDc (i := 5) (own := [("at", 6), ("held", 7)])  (tt := tYes) rfl sc_worth_by.nd rfl rfl (sw_trueD rfl rfl rfl (by decide +kernel)) (pi_enumT (by rfl) T.b_enumerate (pa_cons (pv 2) pa_nil)) (blkOk_by (own := [("at", 6), ("held", 7)]) (N := ["net", "wire", "wires", "gates", "number", "told", "at", "held", "gate", "kind", "one", "other"]) (sc := defScope s_worth_by) (by decide +kernel)) (fun _ _ _ _ _ => (pg_tupK (K := K) (n := 2) rfl rfl (pgs_cons (pg_name (i := 6) sc_worth_by.nd rfl (by first | exact Or.inl rfl | exact Or.inr rfl)) (pgs_cons (pg_name (i := 7) sc_worth_by.nd rfl (by first | exact Or.inl rfl | exact Or.inr rfl)) pgs_nil)))) (fun _ _ _ _ _ => pts_nil) (fun _ _ _ _ _ => (pv 7)) (fun _ _ _ _ _ => (pe_op op_and (pe_op op_shr (pv 4) (pv 6)) pe_int)))
      (pss_cons (ps_for PassesOwn.never rfl (pi_tup (pv 3)) (pg_name (i := 8) sc_worth_by.nd rfl (by first | exact Or.inl rfl | exact Or.inr rfl))
        (pss_cons (ps_asg (pe_ix ix_tup (pe_ix ix_tup (pv 0) pe_int (fun _ _ => rfl)) (pe_op op_sub (pv 8) (pe_ix ix_tup (pv 0) pe_int (fun _ _ => rfl))) (fun _ _ => rfl)) (pg_tup rfl (pgs_cons (pg_name (i := 9) sc_worth_by.nd rfl (by first | exact Or.inl rfl | exact Or.inr rfl)) (pgs_cons (pg_name (i := 10) sc_worth_by.nd rfl (by first | exact Or.inl rfl | exact Or.inr rfl)) (pgs_cons (pg_name (i := 11) sc_worth_by.nd rfl (by first | exact Or.inl rfl | exact Or.inr rfl)) pgs_nil)))))
      (pss_one (ps_dput (Nat.lt_of_le_of_lt (Nat.add_le_add_left (by decide) _) hr.units) (pv 5) (pv 8) (pe_c c_gate_worth hr (by decide) (by rfl) (pa_cons (pv 9) (pa_cons (pe_dget (Nat.lt_of_le_of_lt (Nat.add_le_add_left (by decide) _) hr.units) (pv 5) (pv 10) (fun _ _ => rfl)) (pa_cons (pe_dget (Nat.lt_of_le_of_lt (Nat.add_le_add_left (by decide) _) hr.units) (pv 5) (pv 11) (fun _ _ => rfl)) pa_nil)))) (by rfl)))))
      (pss_one (ps_ret (pe_dget (Nat.lt_of_le_of_lt (Nat.add_le_add_left (by decide) _) hr.units) (pv 5) (pv 1) (fun _ _ => rfl)))))), ?_⟩
    refine ⟨_, rfl, wa, _, rfl, SqT.of hwa, fun d ndd => ?_⟩
    refine dc_it (walk_enumT (xs := ws.map nV)) (fun i H' => ∃ kvs : List (L2.Key × V), (∀ b u, H b = some u → H' b = some u) ∧ H' d = some (.dK kvs) ∧ kvs.length ≤ i ∧ ∀ j, j < i → valV kvs (nK (ws.getD j 0)) = some (nV (r / 2 ^ j % 2))) ⟨[], fun b u e => Same.new ndd _ _ e, upd_same, Nat.le_refl _, fun j hj => absurd hj (Nat.not_lt_zero _)⟩ (fun i H' _ ⟨_, sm, _⟩ => SqT.of (sm _ _ hwa)) ?_ ?_
    · rintro i x H1 H2 hi ⟨kvs, sm, hd1, kl, km⟩ ⟨T', v1, v2, rfl, nT, rfl, e1, e2⟩
      cases e1
      rw [List.length_map] at hi
      have e2' : (ws.map nV)[i]? = some v2 := e2
      rw [natAt hi] at e2'
      cases e2'
      have s3 := Same.new (o := .tup [.int ((i : Nat) : Int), nV (ws.getD i 0)]) nT
      refine ⟨T', _, rfl, SqT.of upd_same, rfl, _, _, rfl, _, _, rfl, rfl, rfl, ?_⟩
      unfold tYes
      refine iteT ?_
      refine ⟨_, rfl, _, rfl, _, rfl, _, _, rfl, rfl, by omega, _, _, rfl, rfl, ?_⟩
      dsimp -proj only
      rw [bit_of]
      refine ⟨kvs, nK (ws.getD i 0), rfl, s3 _ _ hd1, small256 (by omega), _, fun b u e => ?_, upd_same, by have := length_putK kvs (nK (ws.getD i 0)) (.int ((r / 2 ^ i % 2 : Nat) : Int)); omega, fun j hj => ?_⟩
      · rw [upd_ne (ne_of_none e ndd)]
        exact s3 _ _ (sm b u e)
      · rw [valV_put]
        by_cases e : j = i
        · rw [if_pos (by rw [e]), e]
          rfl
        · rw [if_neg (fun z => e ?_)]
          · exact km j (by omega)
          · have := nK_inj z
            have h1 := ixOf_get nd (j := j) (by omega)
            have h2 := ixOf_get nd (j := i) hi
            rw [this] at h1
            omega
    · rintro H1 ⟨kvs, sm, hd1, kl, km⟩
      rw [List.length_map] at kl km
      have km1 : ∀ x ∈ ws, valV kvs (nK x) = some (nV (ev n ws r x)) := fun x hx => by
        obtain ⟨h1, h2⟩ := ixOf_lt hx
        have := km _ h1
        rw [h2] at this
        rw [this, ev_in hx]
        rfl
      refine ⟨_, rfl, ga, rfl, ⟨_, SqT.of (sm _ _ hga)⟩, ?_⟩
      refine for_tup (K := K) (a := ga) (xs := xs.map nV) (fun i σ H' => ∃ (x6 x7 x8 x9 x10 x11 : Option V) (kvs : List (L2.Key × V)), σ = [some (.ref a), some (nV wr), some (.ref wa), some (.ref ga), some (nV r), some (.ref d), x6, x7, x8, x9, x10, x11] ∧ (∀ b u, H b = some u → H' b = some u) ∧ H' d = some (.dK kvs) ∧ kvs.length ≤ 8 + i ∧ ∀ x, (x ∈ ws ∨ x ∈ xs.take i) → valV kvs (nK x) = some (nV (ev n ws r x))) ⟨none, none, none, none, none, none, kvs, rfl, sm, hd1, by omega, fun x hx => by rcases hx with hx | hx; exact km1 x hx; cases hx⟩ ?_ ?_ ?_
      · rintro i σ H2 _ ⟨_, _, _, _, _, _, _, _, sm2, _⟩
        exact SqT.of (sm2 _ _ hga)
      · rintro i x σ H2 hx ⟨x6, x7, x8, x9, x10, x11, kvs, rfl, sm2, hd2, kl2, km2⟩
        have hi : i < xs.length := by
          have := (List.getElem?_eq_some_iff.mp hx).1
          rwa [List.length_map] at this
        rw [natAt hi] at hx
        cases hx
        have hmem := getD_mem hi
        generalize hgt : xs.getD i 0 = gt at hmem ⊢
        have hb := big gt hmem
        have hni := nin gt hmem
        have hrc := (rs.2 gt).mp hmem
        have hle := hrc.le ok
        have N2 := N.mono fun b zs e => sm2 _ _ e
        have hil : gt - n.many < ps.length := by rw [N2.gs.1]; omega
        obtain ⟨k, hk⟩ : ∃ k, n.gates[gt - n.many]? = some k := ⟨_, List.getElem?_eq_getElem (by omega)⟩
        have hp := N2.gs.2 _ _ _ (List.getElem?_eq_getElem hil) hk
        have g1 : (ps.map V.ref)[gt - n.many]? = some (.ref ps[gt - n.many]) := by rw [List.getElem?_map, List.getElem?_eq_getElem hil]; rfl
        have ahead : ∀ p, (p = k.2.1 ∨ p = k.2.2) → valV kvs (nK p) = some (nV (ev n ws r p)) := fun p hp => by
          by_cases e : p ∈ ws
          · exact km2 p (.inl e)
          · have hpx : p ∈ xs := (rs.2 p).mpr (.step hrc hb hb hk hp e)
            have lt := place_lt ok hb hk hp
            obtain ⟨j, hj, ej⟩ := mem_getD hpx
            have hji : j < i := by
              refine Classical.not_not.mp fun hge => ?_
              by_cases e2 : j = i
              · rw [e2, hgt] at ej
                omega
              · have h1 := List.pairwise_iff_getElem.mp rs.1 i j hi hj (by omega)
                rw [List.getD_eq_getElem?_getD, List.getElem?_eq_getElem hj] at ej
                rw [List.getD_eq_getElem?_getD, List.getElem?_eq_getElem hi] at hgt
                have ej' : xs[j] = p := ej
                have hgt' : xs[i] = gt := hgt
                omega
            refine km2 p (.inr (List.mem_of_getElem? (i := j) ?_))
            rw [List.getElem?_take_of_lt hji, List.getElem?_eq_getElem hj]
            rw [List.getD_eq_getElem?_getD, List.getElem?_eq_getElem hj] at ej
            exact congrArg some ej
        refine ⟨_, rfl, a, _, 1, _, rfl, rfl, SqT.of N2.top, at1, _, rfl, _, rfl, a, _, 0, _, rfl, rfl, SqT.of N2.top, at0, _, _, rfl, rfl, g, _, _, _, rfl, rfl, SqT.of N2.gt, (by rw [show (((gt : Nat) : Int) - ((n.many : Nat) : Int)) = ((gt - n.many : Nat) : Int) by omega]; exact atI_nat g1), ?_⟩
        refine ⟨_, _, rfl, SqT.of hp, rfl, _, _, rfl, _, _, rfl, _, _, rfl, rfl, ?_⟩
        have d1 := DGet.k (k := nK k.2.1) hd2
        have d2 := DGet.k (k := nK k.2.2) hd2
        rw [ahead _ (.inl rfl)] at d1
        rw [ahead _ (.inr rfl)] at d2
        refine ⟨_, rfl, _, rfl, _, rfl, d, _, rfl, d1, _, rfl, _, rfl, d, _, rfl, d2, _, _, _, rfl, ?_⟩
        rw [← ev_gate ok hni hb hk]
        refine ⟨_, rfl, _, rfl, d, _, rfl, DPut.k (k := nK gt) hd2 (small256 (by omega)), ?_⟩
        refine ⟨_, _, _, _, _, _, _, rfl, fun b u e => ?_, upd_same, by have := length_putK kvs (nK gt) (nV (ev n ws r gt)); omega, fun x hx => ?_⟩
        · rw [upd_ne (ne_of_none e ndd)]
          exact sm2 b u e
        · rw [valV_put]
          by_cases e : x = gt
          · rw [if_pos (by rw [e]), e]
          · rw [if_neg (fun z => e (nK_inj z))]
            refine km2 x ?_
            rcases hx with hx | hx
            · exact .inl hx
            · rw [List.take_add_one, List.getElem?_eq_getElem hi, Option.toList_some] at hx
              rcases List.mem_append.mp hx with hx | hx
              · exact .inr hx
              · rw [List.getD_eq_getElem?_getD, List.getElem?_eq_getElem hi] at hgt
                have hgt' : xs[i] = gt := hgt
                rw [List.mem_singleton.mp hx] at e
                exact absurd hgt' e
      · rintro σ H2 ⟨x6, x7, x8, x9, x10, x11, kvs, rfl, sm2, hd2, kl2, km2⟩
        rw [List.length_map, List.take_length] at km2
        have dd := DGet.k (k := nK wr) hd2
        rw [km2 wr (by
          by_cases e : wr ∈ ws
          · exact .inl e
          · exact .inr ((rs.2 wr).mpr (.here e)))] at dd
        exact ⟨_, rfl, _, rfl, d, _, rfl, dd, q H2 fun b u e => sm2 b u e⟩
def spContent (Ts : List Addr) : Sp := fun vs H Q _ => ∃ (a wa : Addr) (n : Net) (g o : Addr) (ps : List Addr) (ws : List Nat) (wr : Nat), vs = [.ref a, nV wr, .ref wa] ∧ NetAt H a n g o ps ∧ n.Ok ∧ wr < n.many + n.gates.length ∧ H wa = some (.tup (ws.map nV)) ∧ Sep n wr ws ∧ ws.Nodup ∧ ws.length ≤ 8 ∧ Tabs Ts H ∧ ∀ p H', Aft Ts H H' → H' p = some (.tup ((contOf n ws wr).map nV)) → Q (.ref p) H'
theorem ok_content {f c PG : Addr} (D : Dfn K mg "content" s_content f c) (T : Txt mg) (c_inside : Cal P w K mg base 3 "inside" (spInside Ts) []) (c_worth_by : Cal P w K mg base 2 "worth_by" spWorthBy []) (TB_content : GxR.TabB base mg c PG) (hP : PG ∈ Ts) : Cal P w K mg base 4 "content" (spContent Ts) [] := by
  refine cal D (fun _ _ _ _ _ _ us hl => match us, hl with | [_, _, _], _ => rfl) sc_content (fun vs H Q E h => ?_) (fun A outer s H vs Q E hr h => ?_)
  · obtain ⟨a, wa, n, g, o, ps, ws, wr, rfl, _⟩ := h
    rfl
  · obtain ⟨a, wa, n, g, o, ps, ws, wr, rfl, N, ok, hw, hwa, sep, nd, wl, tb, q⟩ := h
    have h256 := pow8 wl
    refine ⟨_, (pss_cons (ps_set (i := 3) sc_content.nd rfl (by first | exact Or.inl rfl | exact Or.inr rfl) (pe_c c_inside hr (by decide) (by rfl) (pa_cons (pv 0) (pa_cons (pv 1) (pa_cons (pv 2) pa_nil)))))
      (pss_one (ps_ret (pe_tupG (own := [("number", 4)]) hr (by rfl) T.b_tuple TB_content rfl (gxOk_by (N := ["net", "wire", "wires", "gates", "number"]) (sc := defScope s_content) (own := [("number", 4)]) (by decide +kernel)) sc_content.nd (pi_range1 (by rfl) T.b_range (pa_cons (pe_op op_shl pe_int (pe_callB call_len_seq (by rfl) T.b_len (by decide +kernel) (pa_cons (pv 2) pa_nil))) pa_nil)) (fun _ _ _ _ => (pg_name (i := 4) sc_content.nd rfl (by first | exact Or.inl rfl | exact Or.inr rfl))) (fun _ _ _ _ => pts_nil) (fun _ _ _ _ => (pe_c c_worth_by (GX.Room.gx4 hr) (by decide) (by rfl) (pa_cons (pv 0) (pa_cons (pv 1) (pa_cons (pv 2) (pa_cons (pv 3) (pa_cons (pv 4) pa_nil))))))))))), ?_⟩
    refine ⟨_, rfl, _, rfl, _, rfl, a, n, g, o, ps, wr, wa, ws, rfl, N, ok, hw, hwa, tb, fun ga H1 xs a1 hga rs => ?_⟩
    have ef : (xs.filter fun x => decide (n.many ≤ x)) = xs := List.filter_eq_self.mpr fun x hx => decide_eq_true (sep x ((rs.2 x).mp hx))
    rw [ef] at hga
    have N1 := N.aft tb a1
    have hwa1 := a1.tup tb hwa
    refine ⟨_, rfl, wa, _, rfl, .inr (SqT.of hwa1), _, _, rfl, rfl, ⟨by omega, by rw [List.length_map]; omega, by decide⟩, ?_⟩
    dsimp -proj only
    rw [List.length_map, shl_of]
    refine ⟨_, rfl, by have := Int.natCast_nonneg (2 ^ ws.length); omega, by omega, a1.tb PG hP, fun H2 ht => ?_⟩
    have a2 : Aft Ts H1 H2 := ⟨Keep.tabbed hP ht, a1.tb.tabbed ht⟩
    refine turns_it (walk_range (lo := 0) (n := ((2 ^ ws.length : Nat) : Int).toNat)) (fun i ys H' => ys = ((List.range i).map fun r => ev n ws r wr).map nV ∧ Aft Ts H1 H') ⟨rfl, a2⟩ (fun i ys H' _ _ => trivial) ?_ ?_
    · rintro i x ys H3 H4 hi ⟨rfl, a3⟩ ⟨rfl, rfl⟩
      rw [Int.toNat_natCast] at hi
      refine ⟨rfl, ?_⟩
      unfold tYes
      refine iteT ?_
      refine ⟨_, rfl, _, rfl, _, rfl, _, rfl, _, rfl, a, wa, ga, n, g, o, ps, ws, xs, wr, i, (by show [V.ref a, nV wr, V.ref wa, V.ref ga, V.int (0 + (i : Int))] = [V.ref a, nV wr, V.ref wa, V.ref ga, V.int (i : Int)]; rw [Int.zero_add]), N1.aft a1.tb a3, ok, hw, a3.tup a1.tb hwa1, a3.tup a1.tb hga, rs, sep, nd, wl, fun H5 s5 => ⟨?_, fun _ => ⟨?_, a3.trans (Aft.ofSame a3.tb s5)⟩⟩⟩
      · show (List.map nV _).length < sizeLine
        rw [List.length_map, List.length_map, List.length_range]
        exact small256 (by omega)
      · rw [List.range_succ, List.map_append, List.map_append]
        rfl
    · rintro ys H3 ⟨rfl, a3⟩
      rw [Int.toNat_natCast]
      refine ⟨?_, fun p hp => ?_⟩
      · rw [List.length_map, List.length_map, List.length_range]
        exact small _ (by omega)
      · exact q p _ ((a1.trans a3).trans (Aft.new a3.tb hp)) upd_same
end
end K80
set_option Elab.async false
set_option linter.all false
set_option maxRecDepth 100000
set_option maxHeartbeats 4000000
namespace K80
open PySem PySem.Spec PyProof.Rows L2 GX
open C8 (Cal pe_c pe_gc Met Mak)
-- @dict CHANGES
-- @no CHANGES 0 ""
-- @no CHANGES 1 "0"
-- @no CHANGES 2 "way"
-- @no CHANGES 3 "Kind"
-- @no CHANGES 4 "leads"
-- @dict QUESTIONS
-- @no QUESTIONS 0 "gate"
-- @no QUESTIONS 1 "kind"
-- @no QUESTIONS 2 "lead"
-- @no QUESTIONS 3 "less"
-- @no QUESTIONS 4 "outs"
-- @exc NoText
-- @exc NoDepth
-- @exc TooMany
-- @exc NoMatch
-- @exc NoChange made
-- @exc NoRow made
-- @sub NoChange NoChange true
-- @sub NoRow NoRow true
-- @sub NoRow ValueError true
-- @sub NoRow NoText false
-- @sub NoRow NoDepth false
-- @sub NoRow TooMany false
-- @sub NoRow NoMatch false
-- @sub NoRow NoChange false
-- @cls Keeper k:i,held:N,kept:t[t[t[i]]]
-- @cls Desk keeper:OKeeper
-- @alt rises list par=l[i]
-- @alt cut_masks tup par=N,t[i],i vars=masks:DL,wire:i
-- @alt one_deeper tup par=t[i],t[i]
-- @alt _law_written tup par=t[i],s
section
variable {P : Program} {w : World} {K : PySem.W.Frag} {mg : Str → Option Value} {base : Heap} {Ts : List Addr} {PL CKeeper : Addr}
open TL
theorem spl_len (s : Nat) : ∀ (t acc : List Nat), (spl [s] 0 acc t).length ≤ t.length + 1
  | [], acc => by rw [spl_nil]; exact Nat.le_refl _
  | c :: r, acc => by
    have e : spl [s] 0 acc (c :: r) = if pre [s] (c :: r) = true then acc :: spl [s] 0 [] r else spl [s] 0 (acc ++ [c]) r := rfl
    rw [e]
    split
    · rw [List.length_cons, List.length_cons]
      exact Nat.succ_le_succ (spl_len s r [])
    · rw [List.length_cons]
      exact Nat.le_trans (spl_len s r _) (Nat.le_succ _)
theorem plus_len (x : Str) : (Txt.split x (Str.ofString "+")).length ≤ x.length + 1 := by
  have e : (Txt.split x (Str.ofString "+")).map tl = spl [43] 0 [] (tl x) := split_spl x _ (by decide +kernel) (kind_ok (by decide +kernel))
  have h := congrArg List.length e
  rw [List.length_map] at h
  rw [h]
  exact Nat.le_trans (spl_len 43 (tl x) []) (by rw [len_tl]; exact Nat.le_refl _)
def thO : Option (List Nat) → Th
  | none => .non
  | some xs => thWs xs
theorem tupO_rep {H : Hp} {v : V} : ∀ {o : Option (List Nat)}, TupO H v o → Rep H v (thO o)
  | none, h => by rw [show v = .non from h]; exact .non
  | some xs, h => by
    obtain ⟨a, rfl, h⟩ := h
    exact rep_wsT h
theorem thO_ws {o : Option (List Nat)} {xs : List Nat} (h : thO o = thWs xs) : o = some xs := by
  cases o with
  | none => cases h
  | some ys => rw [thWs_inj h]
theorem cut_join (ns : List Nat) (sep : Str) : Txt.join sep (ns.map fun n => mkS (dgs n)) = mkS (joinL (tl sep) (ns.map dgs)) := by
  have := join_mkS sep (ns.map dgs)
  rw [List.map_map] at this
  exact this
theorem figs_fit {ns : List Nat} (hn : ∀ x ∈ ns, x < 100) (hl : ns.length ≤ 1000) {y : Str} (hy : y.length ≤ 1) : ((ns.map fun n => mkS (dgs n)).map (·.length)).sum + (ns.map fun n => mkS (dgs n)).length * y.length ≤ 16777216 := by
  refine join_fits (b := 2) (c := 1000) (d := y.length) (fun x hx => ?_) (by rw [List.length_map]; exact hl) (by omega)
  obtain ⟨z, hz, rfl⟩ := List.mem_map.mp hx
  rw [len_mkS]
  exact (dgs_100 z (hn z hz)).2.2.2.1
def piecesW (x : Str) : List (List Nat) := (Txt.split x (Str.ofString "+")).map tl
def spWiresW (Ts : List Addr) : Sp := fun vs H Q _ => ∃ x : Str, vs = [.str x] ∧ x.length + 2 ≤ sizeLine ∧ Tabs Ts H ∧ ∀ v H', Aft Ts H H' → TupO H' v (numsW (piecesW x)) → Q v H'
theorem ok_wires_written {f c : Addr} (D : Dfn K mg "wires_written" s_wires_written f c) (T : Txt mg) (c_numbers_in : Cal P w K mg base 4 "numbers_in" (spNumsIn Ts) []) : Cal P w K mg base 5 "wires_written" (spWiresW Ts) [] := by
  refine cal D (fun _ _ _ _ _ _ us hl => match us, hl with | [_], _ => rfl) sc_wires_written (fun vs H Q E h => ?_) (fun A outer s H vs Q E hr h => ?_)
  · obtain ⟨x, rfl, _⟩ := h
    rfl
  · obtain ⟨x, rfl, hx, tb, q⟩ := h
    refine ⟨_, (pss_one (ps_ret (pe_c c_numbers_in hr (by decide) (by rfl) (pa_cons (pe_split (pv 0) pe_str) pa_nil)))), ?_⟩
    clear hr
    refine ⟨_, rfl, ⟨_, rfl⟩, _, _, rfl, rfl, by decide +kernel, hx, fun L nL => ?_⟩
    have a1 := Aft.new (o := .lst (List.map V.str (Txt.split x (Str.ofString "+")))) tb nL
    have hL : upd H L (.lst (List.map V.str (Txt.split x (Str.ofString "+")))) L = some (.lst (List.map V.str (Txt.split x (Str.ofString "+")))) := upd_same
    generalize upd H L (.lst (List.map V.str (Txt.split x (Str.ofString "+")))) = H1 at a1 hL ⊢
    have hlen := plus_len x
    have hsm : ∀ y ∈ Txt.split x (Str.ofString "+"), y.length + 2 ≤ sizeLine := fun y hy => by have := part_short hy; omega
    exact ⟨L, _, rfl, hL, by omega, fun y hy => by have := hsm y hy; omega, a1.tb, fun v H2 a2 ht => q v H2 (a1.trans a2) ht⟩
def IsW (n : Net) (ws : List Str) (gt : Nat) (xs : List Nat) : Prop := ∃ w0 w1, ws = [w0, w1] ∧ numW (tl w0) = some gt ∧ numsW (piecesW w1) = some xs ∧ n.many ≤ gt ∧ gt < n.many + n.gates.length
def wayS (n : Net) (rs : List Nat) : Str := match wpRes n rs with
  | none => "none"
  | some ys => mkS (joinL [32] (ys.map dgs))
def rWay : QRel := fun n k ws v => (∃ gt xs rs, IsW n ws gt xs ∧ 0 < xs.length ∧ (∀ x ∈ xs, x < gt) ∧ xs.Pairwise (· < ·) ∧ Rset n xs gt rs ∧ v = .str (wayS n rs)) ∨ ((¬ ∃ gt xs, IsW n ws gt xs ∧ 0 < xs.length ∧ (∀ x ∈ xs, x < gt) ∧ xs.Pairwise (· < ·)) ∧ v = .non)
def rCont : QRel := fun n k ws v => (∃ gt xs, IsW n ws gt xs ∧ CutOk n gt xs ∧ xs.length ≤ 8 ∧ v = .str (mkS (joinL [] ((contOf n xs gt).map dgs)))) ∨ ((¬ ∃ gt xs, IsW n ws gt xs ∧ CutOk n gt xs ∧ xs.length ≤ 8) ∧ v = .non)
theorem repO (H : Hp) (o : Option Nat) : Rep H (oV o) (match o with | some x => thW x | none => .non) := by
  cases o with
  | none => exact .non
  | some x => exact .int _
theorem thO_w {o : Option Nat} {x : Nat} : (match o with | some x => thW x | none => Th.non) = thW x ↔ o = some x := by
  cases o with
  | none => exact ⟨fun z => (by cases z), fun z => (by cases z)⟩
  | some y => exact ⟨fun z => by rw [thW_inj _ _ z], fun z => by cases z; rfl⟩
theorem way_facts {n : Net} (ok : n.Ok) {st rs ys : List Nat} {gt : Nat} (hg : gt < n.many + n.gates.length) (r : Rset n st gt rs) (e : wpRes n rs = some ys) : Way n gt ys ∧ (∀ y ∈ ys, y ∈ rs) ∧ ys.length ≤ 100 := by
  have m8 := ok.m8
  have g16 := ok.g16
  unfold wpRes at e
  split at e
  · cases e
  · rename_i nz
    cases e
    obtain ⟨W, sub⟩ := wp_way ok hg r (by omega) (by omega)
    refine ⟨W, sub, ?_⟩
    have v := wp_inv (n := n) (show 0 < rs.length by omega) r.1 rs.length (Nat.le_refl _)
    rw [List.take_length] at v
    have h1 := v.len
    have h2 := Rset.short ok hg r
    show (rs.foldl (wpStep n) [rs.getD 0 0]).length ≤ 100
    omega
theorem ok_way_answer {lv : Nat} {f c : Addr} (D : Dfn K mg "way_answer" s_way_answer f c) (T : Txt mg) (m_Keeper_net : Met P w K mg base 1 CKeeper "net" (spKNet CKeeper) []) (c_number_in : Cal P w K mg base 3 "number_in" (spNumIn Ts) []) (c_wires_written : Cal P w K mg base 5 "wires_written" (spWiresW Ts) []) (c_has_gate : Cal P w K mg base 3 "has_gate" spHasGate []) (c_is_rising : Cal P w K mg base 4 "is_rising" (spIsRising Ts) []) (c_way_past : Cal P w K mg base 3 "way_past" (spPast Ts) []) (c_in_figures : Cal P w K mg base 1 "in_figures" spFigs []) : Cal P w K mg base (lv + 9) "way_answer" (spQn Ts CKeeper rWay) [] := by
  refine cal D (fun _ _ _ _ _ _ us hl => match us, hl with | [_, _], _ => rfl) sc_way_answer (fun vs H Q E h => ?_) (fun A outer s H vs Q E hr h => ?_)
  · obtain ⟨kp, a, p, q, n, k, g, o, ps, qs, ws, rfl, _⟩ := h
    rfl
  · obtain ⟨kp, a, p, wp, n, k, gg, o, ps, qs, ws, rfl, KA, ok, hk2, hk4, hw, hl, hx, tb, q⟩ := h
    refine ⟨_, (pss_cons (ps_if (pt_cmpR op_ne (pe_callB call_len_seq (by rfl) T.b_len (by decide +kernel) (pa_cons (pv 1) pa_nil)) pe_int (nomark _)) (pss_one (ps_ret pe_non)) pss_nil)
      (pss_cons (ps_par (i := 2) (j := 3) rfl sc_way_answer.nd rfl rfl (by omega) rfl rfl (pa_cons (pe_c c_number_in hr (by omega) (by rfl) (pa_cons (pe_ix ix_list (pv 1) pe_int (fun _ _ => rfl)) pa_nil)) (pa_cons (pe_c c_wires_written hr (by omega) (by rfl) (pa_cons (pe_ix ix_list (pv 1) pe_int (fun _ _ => rfl)) pa_nil)) pa_nil)) rfl)
      (pss_cons (ps_if (PW.pt (pw_or (pt_not (pt_val (pe_c c_has_gate hr (by omega) (by rfl) (pa_cons (C8.pe_mt0 m_Keeper_net hr (by omega) (pv 0)) (pa_cons (pv 2) pa_nil))))) (pw_or1 (pt_not (pt_val (pe_c c_is_rising hr (by omega) (by rfl) (pa_cons (pv 3) (pa_cons (pv 2) pa_nil)))))))) (pss_one (ps_ret pe_non)) pss_nil)
      (pss_cons (ps_set (i := 4) sc_way_answer.nd rfl (by first | exact Or.inl rfl | exact Or.inr rfl) (pe_c c_way_past hr (by omega) (by rfl) (pa_cons (C8.pe_mt0 m_Keeper_net hr (by omega) (pv 0)) (pa_cons (pv 2) (pa_cons (pv 3) pa_nil)))))
      (pss_one (ps_ret (pe_ifExp (pt_cmpR op_isN (pv 4) pe_non (nomark _)) pe_str (pe_join pe_str (pe_c c_in_figures hr (by omega) (by rfl) (pa_cons (pv 4) pa_nil)))))))))), ?_⟩
    clear hr
    have m8 := ok.m8
    have g16 := ok.g16
    refine ⟨_, rfl, wp, _, rfl, .inl (SqL.of hw), rfl, _, rfl, ite2 (fun h2 => ?_) (fun h2 => ?_)⟩
    · refine q .non H (Aft.refl tb) (.inr ⟨fun ⟨gt, xs, ⟨w0, w1, e, _⟩, _⟩ => ?_, rfl⟩)
      subst e
      have h2 : (!decide (V.int ((2 : Nat) : Int) = V.int 2)) = true := h2
      exact absurd h2 (by decide +kernel)
    obtain ⟨w0, w1, rfl⟩ : ∃ w0 w1, ws = [w0, w1] := by
      match ws with
      | [x, y] => exact ⟨x, y, rfl⟩
      | [] => exact absurd rfl h2
      | [_] => exact absurd rfl h2
      | _ :: _ :: _ :: r =>
        refine absurd ?_ h2
        refine (Bool.not_eq_true' _).mpr (decide_eq_false fun z => ?_)
        have z := V.int.inj z
        rw [List.length_map, List.length_cons, List.length_cons, List.length_cons] at z
        omega
    have hx0 := hx w0 (by simp)
    have hx1 := hx w1 (by simp)
    refine ⟨_, rfl, wp, _, 0, _, rfl, rfl, SqL.of hw, at0, w0, rfl, by omega, tb, fun H1 a1 => ?_⟩
    have hw1 : H1 wp = some (.lst ([w0, w1].map V.str)) := a1.kp _ _ hw (tb.nott hw fun _ z => by cases z)
    refine ⟨_, rfl, wp, _, 1, _, rfl, rfl, SqL.of hw1, at1, w1, rfl, hx1, a1.tb, fun v H2 a12 ht => ?_⟩
    have a2 := a1.trans a12
    have K2 := KA.mono (H' := H2) fun b u e n1 n2 => a2.kp _ _ e (tb.nott e n1)
    obtain ⟨dx, ek⟩ := K2.ins
    refine ⟨_, _, rfl, _, rfl, kp, dx, _, rfl, ek, rfl, kp, a, p, n, k, gg, o, ps, qs, rfl, K2, ?_⟩
    refine ⟨_, rfl, a, n, gg, o, ps, _, _, rfl, K2.net, repO H2 _, fun b hb => ⟨_, rfl, ?_⟩⟩
    have hb : b = true ↔ ∃ x, numW (tl w0) = some x ∧ n.many ≤ x ∧ x < n.many + n.gates.length := hb.trans ⟨fun ⟨x, e, h1, h2⟩ => ⟨x, thO_w.mp e, h1, h2⟩, fun ⟨x, e, h1, h2⟩ => ⟨x, thO_w.mpr e, h1, h2⟩⟩
    cases b with
    | false =>
      refine iteT (iteT ?_)
      refine q .non H2 a2 (.inr ⟨fun ⟨gt, xs, ⟨u0, u1, e, e0, _, g1, g2⟩, _⟩ => ?_, rfl⟩)
      cases e
      cases hb.mpr ⟨gt, e0, g1, g2⟩
    | true =>
      refine iteF ?_
      obtain ⟨gt, e0, g1, g2⟩ := hb.mp rfl
      rw [e0]
      refine ⟨_, rfl, _, rfl, v, thO (numsW (piecesW w1)), gt, rfl, tupO_rep ht, a2.tb, fun r H3 hr3 a23 => ⟨_, rfl, ?_⟩⟩
      have a3 := a2.trans a23
      cases r with
      | false =>
        refine iteT ?_
        refine q .non H3 a3 (.inr ⟨fun ⟨gt', xs, ⟨u0, u1, e, e0', e1, g1', g2'⟩, x0, xl, xp⟩ => ?_, rfl⟩)
        cases e
        rw [e0] at e0'
        cases e0'
        cases hr3.mpr ⟨xs, by rw [e1]; rfl, x0, xl, xp⟩
      | true =>
        refine iteF ?_
        obtain ⟨xs, e1, x0, xl, xp⟩ := hr3.mp rfl
        have e1 := thO_ws e1
        rw [e1] at ht
        obtain ⟨sa, rfl, hsa⟩ := ht
        have hsa3 := a23.tup a2.tb hsa
        have K3 := KA.mono (H' := H3) fun b u e n1 n2 => a3.kp _ _ e (tb.nott e n1)
        obtain ⟨dx3, ek3⟩ := K3.ins
        have W0 : IsW n [w0, w1] gt xs := ⟨w0, w1, rfl, e0, e1, g1, g2⟩
        refine ⟨_, rfl, kp, dx3, _, rfl, ek3, rfl, kp, a, p, n, k, gg, o, ps, qs, rfl, K3, ?_⟩
        refine ⟨_, rfl, _, rfl, a, n, gg, o, ps, gt, sa, xs, rfl, K3.net, ok, g2, hsa3, a3.tb, fun v' H4 rs a34 hv rset => ?_⟩
        have a4 := a3.trans a34
        have fin : ∀ H', Aft Ts H H' → Q (.str (wayS n rs)) H' := fun H' a' => q _ H' a' (.inl ⟨gt, xs, rs, W0, x0, xl, xp, rset, rfl⟩)
        cases hwp : wpRes n rs with
        | none =>
          rw [hwp] at hv
          obtain rfl : v' = .non := hv
          refine ⟨_, rfl, rfl, _, rfl, iteT ?_⟩
          have := fin H4 a4
          unfold wayS at this
          rw [hwp] at this
          exact this
        | some ys =>
          rw [hwp] at hv
          obtain ⟨wy, rfl, hwy⟩ := hv
          refine ⟨_, rfl, rfl, _, rfl, iteF ?_⟩
          obtain ⟨WY, _, y100⟩ := way_facts ok g2 rset hwp
          have ylt : ∀ y ∈ ys, y < 100 := fun y hy => by have := WY.lt y hy; omega
          refine ⟨⟨_, rfl⟩, _, rfl, wy, ys, rfl, hwy, by omega, ylt, fun L8 H8 s8 hL8 => ?_⟩
          refine ⟨_, L8, _, rfl, rfl, .inl (SqL.of hL8), figs_fit ylt (by omega) (by decide +kernel), ?_⟩
          rw [cut_join, show tl (Str.ofString " ") = [32] by decide +kernel]
          have := fin H8 (a4.trans (Aft.ofSame a4.tb s8))
          unfold wayS at this
          rw [hwp] at this
          exact this
theorem ok_content_answer {lv : Nat} {f c : Addr} (D : Dfn K mg "content_answer" s_content_answer f c) (T : Txt mg) (m_Keeper_net : Met P w K mg base 1 CKeeper "net" (spKNet CKeeper) []) (c_number_in : Cal P w K mg base 3 "number_in" (spNumIn Ts) []) (c_wires_written : Cal P w K mg base 5 "wires_written" (spWiresW Ts) []) (c_has_gate : Cal P w K mg base 3 "has_gate" spHasGate []) (c_is_cut : Cal P w K mg base 5 "is_cut" (spIsCut Ts) []) (c_content : Cal P w K mg base 4 "content" (spContent Ts) []) (c_in_figures : Cal P w K mg base 1 "in_figures" spFigs []) : Cal P w K mg base (lv + 9) "content_answer" (spQn Ts CKeeper rCont) [] := by
  refine cal D (fun _ _ _ _ _ _ us hl => match us, hl with | [_, _], _ => rfl) sc_content_answer (fun vs H Q E h => ?_) (fun A outer s H vs Q E hr h => ?_)
  · obtain ⟨kp, a, p, q, n, k, g, o, ps, qs, ws, rfl, _⟩ := h
    rfl
  · obtain ⟨kp, a, p, wp, n, k, gg, o, ps, qs, ws, rfl, KA, ok, hk2, hk4, hw, hl, hx, tb, q⟩ := h
    refine ⟨_, (pss_cons (ps_if (pt_cmpR op_ne (pe_callB call_len_seq (by rfl) T.b_len (by decide +kernel) (pa_cons (pv 1) pa_nil)) pe_int (nomark _)) (pss_one (ps_ret pe_non)) pss_nil)
      (pss_cons (ps_par (i := 2) (j := 3) rfl sc_content_answer.nd rfl rfl (by omega) rfl rfl (pa_cons (pe_c c_number_in hr (by omega) (by rfl) (pa_cons (pe_ix ix_list (pv 1) pe_int (fun _ _ => rfl)) pa_nil)) (pa_cons (pe_c c_wires_written hr (by omega) (by rfl) (pa_cons (pe_ix ix_list (pv 1) pe_int (fun _ _ => rfl)) pa_nil)) pa_nil)) rfl)
      (pss_cons (ps_if (PW.pt (pw_or (pt_not (pt_val (pe_c c_has_gate hr (by omega) (by rfl) (pa_cons (C8.pe_mt0 m_Keeper_net hr (by omega) (pv 0)) (pa_cons (pv 2) pa_nil))))) (pw_or (pt_not (pt_val (pe_c c_is_cut hr (by omega) (by rfl) (pa_cons (C8.pe_mt0 m_Keeper_net hr (by omega) (pv 0)) (pa_cons (pv 2) (pa_cons (pv 3) pa_nil)))))) (pw_or1 (pt_cmpR op_gt (pe_callB call_len_seq (by rfl) T.b_len (by decide +kernel) (pa_cons (pv 3) pa_nil)) (pe_gc (by rfl) T.g_MOST_WIRES_OF_CONTENT) (nomark _)))))) (pss_one (ps_ret pe_non)) pss_nil)
      (pss_one (ps_ret (pe_join pe_str (pe_c c_in_figures hr (by omega) (by rfl) (pa_cons (pe_c c_content hr (by omega) (by rfl) (pa_cons (C8.pe_mt0 m_Keeper_net hr (by omega) (pv 0)) (pa_cons (pv 2) (pa_cons (pv 3) pa_nil)))) pa_nil)))))))), ?_⟩
    clear hr
    have m8 := ok.m8
    have g16 := ok.g16
    refine ⟨_, rfl, wp, _, rfl, .inl (SqL.of hw), rfl, _, rfl, ite2 (fun h2 => ?_) (fun h2 => ?_)⟩
    · refine q .non H (Aft.refl tb) (.inr ⟨fun ⟨gt, xs, ⟨w0, w1, e, _⟩, _⟩ => ?_, rfl⟩)
      subst e
      have h2 : (!decide (V.int ((2 : Nat) : Int) = V.int 2)) = true := h2
      exact absurd h2 (by decide +kernel)
    obtain ⟨w0, w1, rfl⟩ : ∃ w0 w1, ws = [w0, w1] := by
      match ws with
      | [x, y] => exact ⟨x, y, rfl⟩
      | [] => exact absurd rfl h2
      | [_] => exact absurd rfl h2
      | _ :: _ :: _ :: r =>
        refine absurd ?_ h2
        refine (Bool.not_eq_true' _).mpr (decide_eq_false fun z => ?_)
        have z := V.int.inj z
        rw [List.length_map, List.length_cons, List.length_cons, List.length_cons] at z
        omega
    have hx0 := hx w0 (by simp)
    have hx1 := hx w1 (by simp)
    refine ⟨_, rfl, wp, _, 0, _, rfl, rfl, SqL.of hw, at0, w0, rfl, by omega, tb, fun H1 a1 => ?_⟩
    have hw1 : H1 wp = some (.lst ([w0, w1].map V.str)) := a1.kp _ _ hw (tb.nott hw fun _ z => by cases z)
    refine ⟨_, rfl, wp, _, 1, _, rfl, rfl, SqL.of hw1, at1, w1, rfl, hx1, a1.tb, fun v H2 a12 ht => ?_⟩
    have a2 := a1.trans a12
    have K2 := KA.mono (H' := H2) fun b u e n1 n2 => a2.kp _ _ e (tb.nott e n1)
    obtain ⟨dx, ek⟩ := K2.ins
    refine ⟨_, _, rfl, _, rfl, kp, dx, _, rfl, ek, rfl, kp, a, p, n, k, gg, o, ps, qs, rfl, K2, ?_⟩
    refine ⟨_, rfl, a, n, gg, o, ps, _, _, rfl, K2.net, repO H2 _, fun b hb => ⟨_, rfl, ?_⟩⟩
    have hb : b = true ↔ ∃ x, numW (tl w0) = some x ∧ n.many ≤ x ∧ x < n.many + n.gates.length := hb.trans ⟨fun ⟨x, e, h1, h2⟩ => ⟨x, thO_w.mp e, h1, h2⟩, fun ⟨x, e, h1, h2⟩ => ⟨x, thO_w.mpr e, h1, h2⟩⟩
    cases b with
    | false =>
      refine iteT (iteT ?_)
      refine q .non H2 a2 (.inr ⟨fun ⟨gt, xs, ⟨u0, u1, e, e0, _, g1, g2⟩, _⟩ => ?_, rfl⟩)
      cases e
      cases hb.mpr ⟨gt, e0, g1, g2⟩
    | true =>
      refine iteF ?_
      obtain ⟨gt, e0, g1, g2⟩ := hb.mp rfl
      rw [e0]
      refine ⟨_, rfl, kp, dx, _, rfl, ek, rfl, kp, a, p, n, k, gg, o, ps, qs, rfl, K2, ?_⟩
      refine ⟨_, rfl, _, rfl, a, n, gg, o, ps, gt, v, thO (numsW (piecesW w1)), rfl, K2.net, ok, g2, tupO_rep ht, a2.tb, fun r H3 hr3 a23 => ⟨_, rfl, ?_⟩⟩
      have a3 := a2.trans a23
      cases r with
      | false =>
        refine iteT (iteT ?_)
        refine q .non H3 a3 (.inr ⟨fun ⟨gt', xs, ⟨u0, u1, e, e0', e1, g1', g2'⟩, co, l8⟩ => ?_, rfl⟩)
        cases e
        rw [e0] at e0'
        cases e0'
        cases hr3.mpr ⟨xs, by rw [e1]; rfl, co⟩
      | true =>
        refine iteF ?_
        obtain ⟨xs, e1, co⟩ := hr3.mp rfl
        have e1 := thO_ws e1
        rw [e1] at ht
        obtain ⟨sa, rfl, hsa⟩ := ht
        have hsa3 := a23.tup a2.tb hsa
        have K3 := KA.mono (H' := H3) fun b u e n1 n2 => a3.kp _ _ e (tb.nott e n1)
        obtain ⟨dx3, ek3⟩ := K3.ins
        have W0 : IsW n [w0, w1] gt xs := ⟨w0, w1, rfl, e0, e1, g1, g2⟩
        refine ⟨_, rfl, sa, _, rfl, .inr (SqT.of hsa3), _, _, rfl, rfl, _, rfl, ite2 (fun h8 => ?_) (fun h8 => ?_)⟩
        · have h8 := of_decide_eq_true h8
          rw [List.length_map] at h8
          refine q .non H3 a3 (.inr ⟨fun ⟨gt', ys, ⟨u0, u1, e, e0', e1', g1', g2'⟩, co', l8⟩ => ?_, rfl⟩)
          cases e
          rw [e1] at e1'
          cases e1'
          omega
        have h8 : xs.length ≤ 8 := by
          have : ¬ ((8 : Int) < (((xs.map nV).length : Nat) : Int)) := fun z => h8 (decide_eq_true z)
          rw [List.length_map] at this
          omega
        refine ⟨⟨_, rfl⟩, _, rfl, kp, dx3, _, rfl, ek3, rfl, kp, a, p, n, k, gg, o, ps, qs, rfl, K3, ?_⟩
        refine ⟨_, rfl, _, rfl, a, sa, n, gg, o, ps, xs, gt, rfl, K3.net, ok, g2, hsa3, co.sep, co.rise.imp (fun h => Nat.ne_of_lt h), h8, a3.tb, fun p4 H4 a34 hp4 => ?_⟩
        have a4 := a3.trans a34
        have pl : 2 ^ xs.length ≤ 256 := Nat.pow_le_pow_right (by decide) h8
        have cl : (contOf n xs gt).length ≤ 256 := by
          unfold contOf
          rw [List.length_map, List.length_range]
          exact pl
        have clt : ∀ y ∈ contOf n xs gt, y < 100 := fun y hy => by
          unfold contOf at hy
          obtain ⟨r, _, rfl⟩ := List.mem_map.mp hy
          have := ev_lt (n := n) xs r gt
          omega
        refine ⟨p4, contOf n xs gt, rfl, hp4, by omega, clt, fun L8 H8 s8 hL8 => ?_⟩
        refine ⟨_, L8, _, rfl, rfl, .inl (SqL.of hL8), figs_fit clt (by omega) (by decide +kernel), ?_⟩
        rw [cut_join, show tl (Str.ofString "") = [] by decide +kernel]
        exact q _ H8 (a4.trans (Aft.ofSame a4.tb s8)) (.inl ⟨gt, xs, W0, co, h8, rfl⟩)
end
end K80
set_option Elab.async false
set_option linter.all false
set_option maxRecDepth 100000
set_option maxHeartbeats 4000000
namespace K80
open PySem PySem.Spec PyProof.Rows L2 GX
open C8 (Cal pe_c pe_gc Met Mak)
-- @dict CHANGES
-- @no CHANGES 0 ""
-- @no CHANGES 1 "0"
-- @no CHANGES 2 "way"
-- @no CHANGES 3 "Kind"
-- @no CHANGES 4 "leads"
-- @dict QUESTIONS
-- @no QUESTIONS 0 "gate"
-- @no QUESTIONS 1 "kind"
-- @no QUESTIONS 2 "lead"
-- @no QUESTIONS 3 "less"
-- @no QUESTIONS 4 "outs"
-- @exc NoText
-- @exc NoDepth
-- @exc TooMany
-- @exc NoMatch
-- @exc NoChange made
-- @exc NoRow made
-- @sub NoChange NoChange true
-- @sub NoRow NoRow true
-- @sub NoRow ValueError true
-- @sub NoRow NoText false
-- @sub NoRow NoDepth false
-- @sub NoRow TooMany false
-- @sub NoRow NoMatch false
-- @sub NoRow NoChange false
-- @cls Keeper k:i,held:N,kept:t[t[t[i]]]
-- @cls Desk keeper:OKeeper
-- @alt rises list par=l[i]
-- @alt cut_masks tup par=N,t[i],i vars=masks:DL,wire:i
-- @alt one_deeper tup par=t[i],t[i]
-- @alt _law_written tup par=t[i],s
section
variable {P : Program} {w : World} {K : PySem.W.Frag} {mg : Str → Option Value} {base : Heap} {Ts : List Addr} {CTooMany CNoDepth CNoChange CNoMatch CNoRow CNoText CDesk : Addr}
open TL
/-- what a desk says, or the list that stands for a refusal -/
def spHeardD (sp : Sp) (CD CN : Addr) : Sp := fun vs H Q _ => ∃ (D : Addr) (v : V) (dx : Addr) (fs : List (Str × V)), vs = [.ref D, v] ∧ H D = some (.ins CD dx fs) ∧ fs.lookup ("say" : Str) = none ∧
  sp vs H Q fun cls d H1 => cls = .ref CN ∧ d = none ∧ ∀ L H2, Same H1 H2 → H2 L = some (.lst [.str "no", .bl true]) → Q (.ref L) H2
theorem ok_heardD {lv : Nat} {sp : Sp} {f c : Addr} (D : Dfn K mg "_law_heard" s__law_heard f c) (T : Txt mg) (x_NoMatch : ExcT K mg "NoMatch" CNoMatch) (x_NoChange : ExcM K mg "NoChange" CNoChange) (x_NoDepth : ExcT K mg "NoDepth" CNoDepth) (x_NoRow : ExcM K mg "NoRow" CNoRow) (x_NoText : ExcT K mg "NoText" CNoText) (x_TooMany : ExcT K mg "TooMany" CTooMany)
    (su_NoRow_NoRow : PySem.W.subIn K (.ref CNoRow) (.ref CNoRow) = some true) (su_NoRow_ValueError : PySem.W.subIn K (.ref CNoRow) (.type "ValueError") = some true) (su_NoRow_NoDepth : PySem.W.subIn K (.ref CNoRow) (.ref CNoDepth) = some false) (su_NoRow_TooMany : PySem.W.subIn K (.ref CNoRow) (.ref CTooMany) = some false) (su_NoRow_NoMatch : PySem.W.subIn K (.ref CNoRow) (.ref CNoMatch) = some false) (su_NoRow_NoChange : PySem.W.subIn K (.ref CNoRow) (.ref CNoChange) = some false) (su_NoRow_NoText : PySem.W.subIn K (.ref CNoRow) (.ref CNoText) = some false)
    (mono : ∀ vs H (Q Q' : VK) (E E' : XK), (∀ v H', Q v H' → Q' v H') → (∀ c d H', E c d H' → E' c d H') → sp vs H Q E → sp vs H Q' E') (m_Desk_say : MetX P w K mg base lv CDesk "say" sp) : Cal P w K mg base (lv + 1) "_law_heard" (spHeardD sp CDesk CNoRow) [] := by
  refine cal D (fun _ _ _ _ _ _ us hl => match us, hl with | [_, _], _ => rfl) sc__law_heard (fun vs H Q E h => ?_) (fun A outer s H vs Q E hr h => ?_)
  · obtain ⟨D, v, dx, fs, rfl, _⟩ := h
    rfl
  · obtain ⟨Da, v, dx, fs, rfl, eD, hl, q⟩ := h
    refine ⟨_, (pss_cons (ps_set (i := 2) sc__law_heard.nd rfl (by first | exact Or.inl rfl | exact Or.inr rfl) pe_non)
      (pss_cons (ps_set (i := 3) sc__law_heard.nd rfl (by first | exact Or.inl rfl | exact Or.inr rfl) pe_non)
      (pss_cons (ps_tryK (i := 4) rfl rfl rfl sc__law_heard.nd rfl rfl ⟨rfl, by decide, .inl x_NoRow.g⟩ takes0
        (fun W pn xe tk => (pss_one (ps_set (i := 2) sc__law_heard.nd rfl (by first | exact Or.inl rfl | exact Or.inr rfl) (pe_mtX m_Desk_say tk hr (by omega) (pv 0) (pa_cons (pv 1) pa_nil)))))
        (fun a pn => (pss_one (ps_set (i := 3) sc__law_heard.nd rfl (by first | exact Or.inl rfl | exact Or.inr rfl) (pv 4)))) pss_nil)
      (pss_cons (ps_if (pt_cmpR op_isN (pv 3) pe_non (nomark _)) (pss_one (ps_ret (pv 2))) pss_nil)
      (pss_cons (ps_set (i := 5) sc__law_heard.nd rfl (by first | exact Or.inl rfl | exact Or.inr rfl) (pe_callB call_isET (by rfl) T.b_isinstance (by decide +kernel) (pa_cons (pv 3) (pa_cons (pe_tup (pa_cons (pe_gc (v := .ref CNoChange) (by rfl) ⟨_, x_NoChange.g, rfl⟩) (pa_cons (pe_gc (v := .ref CNoDepth) (by rfl) ⟨_, x_NoDepth.g, rfl⟩) (pa_cons (pe_gc (v := .ref CNoMatch) (by rfl) ⟨_, x_NoMatch.g, rfl⟩) (pa_cons (pe_gc (v := .ref CNoText) (by rfl) ⟨_, x_NoText.g, rfl⟩) (pa_cons (pe_gc (v := .ref CTooMany) (by rfl) ⟨_, x_TooMany.g, rfl⟩) pa_nil)))))) pa_nil))))
      (pss_one (ps_ret (pe_lst (pa_cons pe_str (pa_cons (pe_and (pe_callB call_isE1 (by rfl) T.b_isinstance (by decide +kernel) (pa_cons (pv 3) (pa_cons (pe_bltn (v := .ty "ValueError") (by rfl) T.b_ValueError (by decide +kernel) rfl) pa_nil))) (pe_one (pe_not (pv 5)))) pa_nil)))))))))), ?_⟩
    clear hr
    refine ⟨_, rfl, Da, dx, fs, rfl, eD, hl, _, rfl, ?_⟩
    refine mono _ _ _ _ _ _ (fun v' H1 hq => ?_) (fun cls d H1 he => ?_) q
    · refine ⟨_, rfl, rfl, _, rfl, iteT ?_⟩
      exact ⟨_, rfl, hq⟩
    · obtain ⟨rfl, rfl, hQ⟩ := he
      refine ⟨true, exm_of2 x_NoRow.toExcT su_NoRow_NoRow, fun _ e ne => ?_, fun z => by cases z⟩
      have s1 := Same.new (o := XO (.ref CNoRow) none e) ne
      have he : upd H1 e (XO (.ref CNoRow) none e) e = some (XO (.ref CNoRow) none e) := upd_same
      generalize upd H1 e (XO (.ref CNoRow) none e) = H2 at s1 he ⊢
      refine ⟨_, rfl, ?_⟩
      refine ⟨_, rfl, rfl, _, rfl, iteF ?_⟩
      refine ⟨_, rfl, small 5, fun p np => ⟨_, p, _, .ref CNoRow, [.ref CNoChange, .ref CNoDepth, .ref CNoMatch, .ref CNoText, .ref CTooMany], false, rfl, upd_same, .cons (.own _) (.cons (.own _) (.cons (.own _) (.cons (.own _) (.cons (.own _) .nil)))), .e x_NoRow.e ((Same.new np) _ _ he) (fun _ z => by cases z), kit_none _ (fun c hc => ?_), ?_⟩⟩
      · simp only [List.mem_cons, List.not_mem_nil, or_false] at hc
        rcases hc with rfl | rfl | rfl | rfl | rfl
        · exact kit_no x_NoChange.toExcT su_NoRow_NoRow su_NoRow_NoChange
        · exact kit_no x_NoDepth su_NoRow_NoRow su_NoRow_NoDepth
        · exact kit_no x_NoMatch su_NoRow_NoRow su_NoRow_NoMatch
        · exact kit_no x_NoText su_NoRow_NoRow su_NoRow_NoText
        · exact kit_no x_TooMany su_NoRow_NoRow su_NoRow_TooMany
      have s2 := Same.new (o := .tup [.ref CNoChange, .ref CNoDepth, .ref CNoMatch, .ref CNoText, .ref CTooMany]) np
      have he2 := s2 _ _ he
      refine ⟨_, rfl, _, _, .ref CNoRow, _, true, rfl, .ty "ValueError", .e x_NoRow.e he2 (fun _ z => by cases z), kit_ve (by decide +kernel) su_NoRow_ValueError, ?_⟩
      refine ⟨_, rfl, ?_⟩
      rw [if_pos rfl]
      refine ⟨_, rfl, _, rfl, small 2, fun L nL => ?_⟩
      exact hQ L _ ((s1.trans s2).trans (Same.new nL)) upd_same
end
end K80
set_option Elab.async false
set_option linter.all false
set_option maxRecDepth 100000
set_option maxHeartbeats 4000000
namespace K80
open PySem PySem.Spec PyProof.Rows L2 GX
open C8 (Cal pe_c pe_gc Met Mak)
-- @dict CHANGES
-- @no CHANGES 0 ""
-- @no CHANGES 1 "0"
-- @no CHANGES 2 "way"
-- @no CHANGES 3 "Kind"
-- @no CHANGES 4 "leads"
-- @dict QUESTIONS
-- @no QUESTIONS 0 "gate"
-- @no QUESTIONS 1 "kind"
-- @no QUESTIONS 2 "lead"
-- @no QUESTIONS 3 "less"
-- @no QUESTIONS 4 "outs"
-- @exc NoText
-- @exc NoDepth
-- @exc TooMany
-- @exc NoMatch
-- @exc NoChange made
-- @exc NoRow made
-- @sub NoChange NoChange true
-- @sub NoRow NoRow true
-- @sub NoRow ValueError true
-- @sub NoRow NoText false
-- @sub NoRow NoDepth false
-- @sub NoRow TooMany false
-- @sub NoRow NoMatch false
-- @sub NoRow NoChange false
-- @cls Keeper k:i,held:N,kept:t[t[t[i]]]
-- @cls Desk keeper:OKeeper
-- @alt rises list par=l[i]
-- @alt cut_masks tup par=N,t[i],i vars=masks:DL,wire:i
-- @alt one_deeper tup par=t[i],t[i]
-- @alt _law_written tup par=t[i],s
section
variable {P : Program} {w : World} {K : PySem.W.Frag} {mg : Str → Option Value} {base : Heap} {Ts : List Addr}
def spPutIn : Sp := fun vs H Q _ => ∃ (p : Addr) (xs : List V) (i : Nat) (v : V), vs = [.ref p, nV i, v] ∧ H p = some (.tup xs) ∧ i < xs.length ∧ xs.length ≤ 1000 ∧ ∀ r H', Same H H' → H' r = some (.tup (xs.set i v)) → Q (.ref r) H'
theorem ok_putin {f c : Addr} (D : Dfn K mg "_law_put_in" s__law_put_in f c) (T : Txt mg) : Cal P w K mg base 1 "_law_put_in" spPutIn [] := by
  refine cal D (fun _ _ _ _ _ _ us hl => match us, hl with | [_, _, _], _ => rfl) sc__law_put_in (fun vs H Q E h => ?_) (fun A outer s H vs Q E hr h => ?_)
  · obtain ⟨p, xs, i, v, rfl, _⟩ := h
    rfl
  · obtain ⟨p, xs, i, v, rfl, hp, hi, hl, q⟩ := h
    refine ⟨_, (pss_one (ps_ret (pe_op op_catA (pe_op op_catA (pe_slice sl_tupA (pv 0) po_none (po_some (pv 1))) (pe_tup (pa_cons (pv 2) pa_nil))) (pe_slice sl_tupA (pv 0) (po_some (pe_op op_add (pv 1) pe_int)) po_none)))), ?_⟩
    clear hr
    refine ⟨_, rfl, _, rfl, _, rfl, ?_⟩
    refine slA (lo := none) (hi := some ((i : Nat) : Int)) hp fun r1 H1 s1 h1 => ?_
    rw [cut_hi] at h1
    refine ⟨_, rfl, small 1, fun t1 nt1 => ?_⟩
    have s2 := Same.new (o := .tup [v]) nt1
    refine catA (s2 _ _ h1) upd_same (by rw [List.length_take]; exact Nat.le_trans (show _ ≤ 1001 by show min _ _ + 1 ≤ 1001; omega) (small 1001)) fun r2 H2 s3 h2 => ?_
    have s13 := (s1.trans s2).trans s3
    refine ⟨_, rfl, _, rfl, _, _, rfl, rfl, _, rfl, ?_⟩
    have e1 : ((i : Nat) : Int) + 1 = ((i + 1 : Nat) : Int) := by omega
    unfold tNoPart
    refine slA (lo := some (((i : Nat) : Int) + 1)) (hi := none) (s13 _ _ hp) fun r3 H3 s4 h3 => ?_
    rw [e1, cut_lo] at h3
    refine catA (s4 _ _ h2) h3 (by rw [List.length_append, List.length_take, List.length_drop]; exact Nat.le_trans (show _ ≤ 2001 by show min _ _ + 1 + _ ≤ 2001; omega) (small 2001)) fun r4 H4 s5 h4 => ?_
    refine q r4 H4 ((s13.trans s4).trans s5) ?_
    rw [h4, List.set_eq_take_append_cons_drop, if_pos hi, List.append_assoc]
    rfl
end
section
theorem nx_seq {t u : TS} {D D0 : Ends} {σ : L2.St} {H : Hp} (e : D0.nx = tSeq t u D) (h : tSeq t u D σ H) : D0.nx σ H := by rw [e]; exact h
theorem gIf_cut {tt : TT} {a b u : TS} {D : Ends} {σ : L2.St} {H : Hp} {i : Nat} {x : V} (Iv : Bool → Hp → Prop) (h1 : ∀ Q' : Bool → Hp → Prop, (∀ v H', Iv v H' → Q' v H') → tt (σ.set i (some x)) H Q') (h2 : ∀ v H', Iv v H' → if v = true then a { D with nx := u D } (σ.set i (some x)) H' else b { D with nx := u D } (σ.set i (some x)) H') : gName i x σ H (tSeq (tIfS tt a b) u D) := h1 _ h2
/-- the same behind an if that was not taken -/
theorem nIf_cut {tt : TT} {a b u : TS} {D D' : Ends} {σ : L2.St} {H : Hp} (e : D'.nx = tSeq (tIfS tt a b) u D) (Iv : Bool → Hp → Prop) (h1 : ∀ Q' : Bool → Hp → Prop, (∀ v H', Iv v H' → Q' v H') → tt σ H Q') (h2 : ∀ v H', Iv v H' → if v = true then a { D with nx := u D } σ H' else b { D with nx := u D } σ H') : tNext D' σ H := by
  show D'.nx σ H
  rw [e]
  exact h1 _ h2
end
section
variable {P : Program} {w : World} {K : PySem.W.Frag} {mg : Str → Option Value} {base : Heap} {Ts : List Addr}
open TL
/-- a row that changes the net n, and what comes of it: of none, no change; else the changed net -/
def ChRow (n : Net) (H : Hp) (x : Str) (v : V) : Prop := ∃ (h : Str) (ns : List Nat), x = rowS (tl h) ns ∧ h ∈ wordsQ ∧ ns.length ≤ 9 ∧ (∀ y ∈ ns, y < 100) ∧
  ((v = .non ∧ ¬ IsChg n (chgTh h (some ns))) ∨ (∃ ch : Chg, ch.Ok n ∧ ch.th = chgTh h (some ns) ∧ ∃ a g o ps, v = .ref a ∧ NetAt H a (doN n ch) g o ps))
def spLChD : Sp := fun vs H Q _ => ∃ (W C a : Addr) (n : Net) (g o : Addr) (ps : List Addr) (m : Nat), vs = [.ref W, .ref a, nV m] ∧ Wd H W C ∧ NetAt H a n g o ps ∧ n.Ok ∧ m ≤ 16 ∧
  ∀ p H' (x : Str) (v : V), Wk2 W C H H' → H' p = some (.tup [.str x, v]) → ChRow n H' x v → Q (.ref p) H'
theorem ok_lchd {f c : Addr} (D : Dfn K mg "_law_change" s__law_change f c) (T : Txt mg) (c__law_draw : Cal P w K mg base 2 "_law_draw" spDraw []) (c__law_put_in : Cal P w K mg base 1 "_law_put_in" spPutIn []) : Cal P w K mg base 3 "_law_change" spLChD [] := by
  refine cal D (fun _ _ _ _ _ _ us hl => match us, hl with | [_, _, _], _ => rfl) sc__law_change (fun vs H Q E h => ?_) (fun A outer s H vs Q E hr h => ?_)
  · obtain ⟨W, C, a, n, g, o, ps, m, rfl, _⟩ := h
    rfl
  · obtain ⟨W, C, a, n, g, o, ps, m, rfl, hW, N, ok, m16, q⟩ := h
    refine ⟨_, (pss_cons (ps_set (i := 3) sc__law_change.nd rfl (by first | exact Or.inl rfl | exact Or.inr rfl) (pe_c c__law_draw hr (by decide) (by rfl) (pa_cons (pv 0) (pa_cons pe_int pa_nil))))
      (pss_cons (ps_asg (pv 1) (pg_tup rfl (pgs_cons (pg_name (i := 4) sc__law_change.nd rfl (by first | exact Or.inl rfl | exact Or.inr rfl)) (pgs_cons (pg_name (i := 5) sc__law_change.nd rfl (by first | exact Or.inl rfl | exact Or.inr rfl)) (pgs_cons (pg_name (i := 6) sc__law_change.nd rfl (by first | exact Or.inl rfl | exact Or.inr rfl)) pgs_nil)))))
      (pss_cons (ps_if (PW.pt (pw_and (pt_cmpR op_lt (pv 3) pe_int (nomark _)) (pw_and1 (pt_chain op_eq op_lt (pe_callB call_len_seq (by rfl) T.b_len (by decide +kernel) (pa_cons (pv 5) pa_nil)) (pv 2) pe_int)))) (pss_one (ps_set (i := 3) sc__law_change.nd rfl (by first | exact Or.inl rfl | exact Or.inr rfl) (pe_op op_add pe_int (pv 3)))) pss_nil)
      (pss_cons (ps_set (i := 7) sc__law_change.nd rfl (by first | exact Or.inl rfl | exact Or.inr rfl) (pe_op op_add (pv 4) (pe_callB call_len_seq (by rfl) T.b_len (by decide +kernel) (pa_cons (pv 5) pa_nil))))
      (pss_cons (ps_set (i := 8) sc__law_change.nd rfl (by first | exact Or.inl rfl | exact Or.inr rfl) (pe_c c__law_draw hr (by decide) (by rfl) (pa_cons (pv 0) (pa_cons (pe_callB (call_max2 rfl) (by rfl) T.b_max (by decide +kernel) (pa_cons pe_int (pa_cons (pe_callB call_len_seq (by rfl) T.b_len (by decide +kernel) (pa_cons (pv 5) pa_nil)) pa_nil))) pa_nil))))
      (pss_cons (ps_set (i := 9) sc__law_change.nd rfl (by first | exact Or.inl rfl | exact Or.inr rfl) (pe_c c__law_draw hr (by decide) (by rfl) (pa_cons (pv 0) (pa_cons (pe_op op_add (pv 7) pe_int) pa_nil))))
      (pss_cons (ps_set (i := 10) sc__law_change.nd rfl (by first | exact Or.inl rfl | exact Or.inr rfl) (pe_c c__law_draw hr (by decide) (by rfl) (pa_cons (pv 0) (pa_cons (pe_op op_add (pv 7) (pe_ix ix_list (pe_lst (pa_cons pe_int (pa_cons pe_int pa_nil))) (pe_callTy call_int1 (by rfl) T.b_int (by decide +kernel) (pa_cons (pe_cmpR op_eq (pv 3) pe_int (nomark _)) pa_nil)) (fun _ _ => rfl))) pa_nil))))
      (pss_cons (ps_set (i := 11) sc__law_change.nd rfl (by first | exact Or.inl rfl | exact Or.inr rfl) (pe_c c__law_draw hr (by decide) (by rfl) (pa_cons (pv 0) (pa_cons pe_int pa_nil))))
      (pss_cons (ps_if (pt_cmpR op_lt (pv 3) pe_int (nomark _)) (pss_cons (ps_set (i := 12) sc__law_change.nd rfl (by first | exact Or.inl rfl | exact Or.inr rfl) (pe_op op_add_str (pe_op op_add_str (pe_op op_add_str (pe_op op_add_str (pe_op op_add_str pe_str (pe_callTy call_str_int (by rfl) T.b_str (by decide +kernel) (pa_cons (pv 11) pa_nil))) pe_str) (pe_callTy call_str_int (by rfl) T.b_str (by decide +kernel) (pa_cons (pv 9) pa_nil))) pe_str) (pe_callTy call_str_int (by rfl) T.b_str (by decide +kernel) (pa_cons (pv 10) pa_nil))))
      (pss_cons (ps_if (PW.pt (pw_or (pt_cmpR op_gt (pv 11) pe_int (nomark _)) (pw_or (pt_cmpR op_ge (pv 9) (pv 7) (nomark _)) (pw_or (pt_cmpR op_ge (pv 10) (pv 7) (nomark _)) (pw_or1 (pt_cmpR op_eq (pe_callB call_len_seq (by rfl) T.b_len (by decide +kernel) (pa_cons (pv 5) pa_nil)) pe_int (nomark _))))))) (pss_one (ps_ret (pe_tup (pa_cons (pv 12) (pa_cons pe_non pa_nil))))) pss_nil)
      (pss_one (ps_ret (pe_tup (pa_cons (pv 12) (pa_cons (pe_tup (pa_cons (pv 4) (pa_cons (pe_op op_catA (pv 5) (pe_tup (pa_cons (pe_tup (pa_cons (pv 11) (pa_cons (pv 9) (pa_cons (pv 10) pa_nil)))) pa_nil))) (pa_cons (pv 6) pa_nil)))) pa_nil))))))) pss_nil)
      (pss_cons (ps_if (PW.pt (pw_and (pt_cmpR op_eq (pv 3) pe_int (nomark _)) (pw_and1 (PW.pt (pw_or (pt_cmpR (op_eq0 hr.units0) (pv 5) (pe_tup pa_nil) (nomark _)) (pw_or1 (pt_cmpR op_eq (pe_callB (cr_maxTu rfl) (by rfl) T.b_max (by decide +kernel) (pa_cons (pv 6) pa_nil)) (pe_op op_sub (pv 7) pe_int) (nomark _)))))))) (pss_one (ps_ret (pe_tup (pa_cons pe_str (pa_cons pe_non pa_nil))))) pss_nil)
      (pss_cons (ps_if (pt_cmpR op_eq (pv 3) pe_int (nomark _)) (pss_one (ps_ret (pe_tup (pa_cons pe_str (pa_cons (pe_tup (pa_cons (pv 4) (pa_cons (pe_slice sl_tupA (pv 5) po_none (po_some (pe_un un_neg pe_int))) (pa_cons (pv 6) pa_nil)))) pa_nil))))) pss_nil)
      (pss_cons (ps_if (pt_cmpR op_gt (pv 3) pe_int (nomark _)) (pss_cons (ps_set (i := 13) sc__law_change.nd rfl (by first | exact Or.inl rfl | exact Or.inr rfl) (pe_callTy call_tuple_of (by rfl) T.b_tuple (by decide +kernel) (pa_cons (pe_lc (own := [("_law_turn", 14)]) (g := gName 14) (tt := tYes) rfl sc__law_change.nd (pi_range1 (by rfl) T.b_range (pa_cons (pe_c c__law_draw hr (by decide) (by rfl) (pa_cons (pv 0) (pa_cons pe_int pa_nil))) pa_nil)) (blkOk_by (own := [("_law_turn", 14)]) (N := ["_law_deck_here", "_law_net", "_law_most", "_law_way", "_law_many", "_law_gates", "_law_outs", "_law_wires_here", "_law_at", "_law_one", "_law_other", "_law_kind", "_law_text", "_law_led_here", "_law_turn", "_law_wire", "_law_side"]) (sc := defScope s__law_change) (by decide +kernel)) (fun _ _ _ _ _ => (pg_name (i := 14) sc__law_change.nd rfl (by first | exact Or.inl rfl | exact Or.inr rfl))) (fun _ _ _ _ _ => pts_nil) (fun _ _ _ _ _ => (pe_c c__law_draw hr (by decide) (by rfl) (pa_cons (pv 0) (pa_cons (pv 7) pa_nil))))) pa_nil)))
      (pss_cons (ps_set (i := 13) sc__law_change.nd rfl (by first | exact Or.inl rfl | exact Or.inr rfl) (pe_op op_catA (pv 13) (pe_tup (pa_cons (pv 10) pa_nil))))
      (pss_cons (ps_set (i := 12) sc__law_change.nd rfl (by first | exact Or.inl rfl | exact Or.inr rfl) (pe_op op_add_str pe_str (pe_join pe_str (pe_lc (own := [("_law_wire", 15)]) (g := gName 15) (tt := tYes) rfl sc__law_change.nd (pi_tup (pv 13)) (blkOk_by (own := [("_law_wire", 15)]) (N := ["_law_deck_here", "_law_net", "_law_most", "_law_way", "_law_many", "_law_gates", "_law_outs", "_law_wires_here", "_law_at", "_law_one", "_law_other", "_law_kind", "_law_text", "_law_led_here", "_law_turn", "_law_wire", "_law_side"]) (sc := defScope s__law_change) (by decide +kernel)) (fun _ _ _ _ _ => (pg_name (i := 15) sc__law_change.nd rfl (by first | exact Or.inl rfl | exact Or.inr rfl))) (fun _ _ _ _ _ => pts_nil) (fun _ _ _ _ _ => (pe_callTy call_str_int (by rfl) T.b_str (by decide +kernel) (pa_cons (pv 15) pa_nil)))))))
      (pss_cons (ps_if (PW.pt (pw_or (pt_cmpR op_gt (pe_callB call_len_seq (by rfl) T.b_len (by decide +kernel) (pa_cons (pv 13) pa_nil)) pe_int (nomark _)) (pw_or1 (pt_cmpR op_ge (pv 10) (pv 7) (nomark _))))) (pss_one (ps_ret (pe_tup (pa_cons (pv 12) (pa_cons pe_non pa_nil))))) pss_nil)
      (pss_one (ps_ret (pe_tup (pa_cons (pv 12) (pa_cons (pe_tup (pa_cons (pv 4) (pa_cons (pv 5) (pa_cons (pv 13) pa_nil)))) pa_nil))))))))) pss_nil)
      (pss_cons (ps_if (pt_cmpR op_eq (pv 3) pe_int (nomark _)) (pss_cons (ps_set (i := 12) sc__law_change.nd rfl (by first | exact Or.inl rfl | exact Or.inr rfl) (pe_op op_add_str (pe_op op_add_str (pe_op op_add_str pe_str (pe_callTy call_str_int (by rfl) T.b_str (by decide +kernel) (pa_cons (pe_op op_add (pv 4) (pv 8)) pa_nil))) pe_str) (pe_callTy call_str_int (by rfl) T.b_str (by decide +kernel) (pa_cons (pv 11) pa_nil))))
      (pss_cons (ps_if (PW.pt (pw_or (pt_cmpR (op_eq0 hr.units0) (pv 5) (pe_tup pa_nil) (nomark _)) (pw_or1 (pt_cmpR op_gt (pv 11) pe_int (nomark _))))) (pss_one (ps_ret (pe_tup (pa_cons (pv 12) (pa_cons pe_non pa_nil))))) pss_nil)
      (pss_one (ps_ret (pe_tup (pa_cons (pv 12) (pa_cons (pe_tup (pa_cons (pv 4) (pa_cons (pe_c c__law_put_in hr (by decide) (by rfl) (pa_cons (pv 5) (pa_cons (pv 8) (pa_cons (pe_op op_catA (pe_tup (pa_cons (pv 11) pa_nil)) (pe_slice sl_tupA (pe_ix ix_tup (pv 5) (pv 8) (fun _ _ => rfl)) (po_some pe_int) po_none)) pa_nil)))) (pa_cons (pv 6) pa_nil)))) pa_nil))))))) pss_nil)
      (pss_cons (ps_set (i := 16) sc__law_change.nd rfl (by first | exact Or.inl rfl | exact Or.inr rfl) (pe_c c__law_draw hr (by decide) (by rfl) (pa_cons (pv 0) (pa_cons pe_int pa_nil))))
      (pss_cons (ps_set (i := 12) sc__law_change.nd rfl (by first | exact Or.inl rfl | exact Or.inr rfl) (pe_op op_add_str (pe_op op_add_str (pe_op op_add_str (pe_op op_add_str (pe_op op_add_str pe_str (pe_callTy call_str_int (by rfl) T.b_str (by decide +kernel) (pa_cons (pe_op op_add (pv 4) (pv 8)) pa_nil))) pe_str) (pe_callTy call_str_int (by rfl) T.b_str (by decide +kernel) (pa_cons (pv 16) pa_nil))) pe_str) (pe_callTy call_str_int (by rfl) T.b_str (by decide +kernel) (pa_cons (pv 9) pa_nil))))
      (pss_cons (ps_if (PW.pt (pw_or (pt_cmpR (op_eq0 hr.units0) (pv 5) (pe_tup pa_nil) (nomark _)) (pw_or1 (pt_cmpR op_ge (pv 9) (pe_op op_add (pv 4) (pv 8)) (nomark _))))) (pss_one (ps_ret (pe_tup (pa_cons (pv 12) (pa_cons pe_non pa_nil))))) pss_nil)
      (pss_one (ps_ret (pe_tup (pa_cons (pv 12) (pa_cons (pe_tup (pa_cons (pv 4) (pa_cons (pe_c c__law_put_in hr (by decide) (by rfl) (pa_cons (pv 5) (pa_cons (pv 8) (pa_cons (pe_c c__law_put_in hr (by decide) (by rfl) (pa_cons (pe_ix ix_tup (pv 5) (pv 8) (fun _ _ => rfl)) (pa_cons (pe_op op_add pe_int (pv 16)) (pa_cons (pv 9) pa_nil)))) pa_nil)))) (pa_cons (pv 6) pa_nil)))) pa_nil))))))))))))))))))))), ?_⟩
    have m8 := ok.m8
    have m1 := ok.m1
    have g16 := ok.g16
    have o1 := ok.o1
    have o8 := ok.o8
    refine ⟨_, rfl, W, C, 10, rfl, hW, by decide, by decide, fun way H1 w0 w1 k1 => ?_⟩
    obtain ⟨way, rfl⟩ := Int.eq_ofNat_of_zero_le w0
    have N1 : NetAt H1 a n g o ps := N.mono fun b xs e => hW.tup k1 e
    refine ⟨_, rfl, a, _, rfl, SqT.of N1.top, rfl, _, _, rfl, _, _, rfl, _, _, rfl, rfl, ?_⟩
    have gl : (ps.map V.ref).length = n.gates.length := by rw [List.length_map, N.gs.1]
    have egl : V.int (((ps.map V.ref).length : Nat) : Int) = nV n.gates.length := by rw [gl]; rfl
    with_reducible refine nx_seq rfl ?_
    with_reducible refine seq_cut (fun σ H' => H' = H1 ∧ ∃ wy : Nat, wy < 10 ∧ σ = [some (.ref W), some (.ref a), some (nV m), some (nV wy), some (nV n.many), some (.ref g), some (.ref o), none, none, none, none, none, none, none, none, none, none]) (fun B hB => ?_) ?_
    · refine ⟨_, rfl, _, _, rfl, rfl, _, rfl, ite2 (fun h1 => ?_) (fun h1 => hB _ _ ⟨rfl, way, by omega, rfl⟩)⟩
      have h1 := of_decide_eq_true h1
      have hin : B [some (.ref W), some (.ref a), some (nV m), some (nV way), some (nV n.many), some (.ref g), some (.ref o), none, none, none, none, none, none, none, none, none, none] H1 := hB _ _ ⟨rfl, way, by omega, rfl⟩
      refine ⟨_, rfl, g, _, rfl, .inr (SqT.of N1.gt), _, rfl, rfl, _, rfl, ite2 (fun h2 => ?_) (fun h2 => ⟨_, rfl, hin⟩)⟩
      refine ⟨_, _, rfl, rfl, _, rfl, ite2 (fun h3 => ?_) (fun h3 => hin)⟩
      refine ⟨_, rfl, _, _, rfl, rfl, ?_⟩
      exact hB _ _ ⟨rfl, 5 + way, by omega, by rw [show nV (5 + way) = V.int (5 + ((way : Nat) : Int)) from congrArg V.int (by omega)]; rfl⟩
    rintro σ H1' ⟨rfl, wy, wy10, rfl⟩
    have ewr : V.int (((n.many : Nat) : Int) + (((ps.map V.ref).length : Nat) : Int)) = nV (n.many + n.gates.length) := congrArg V.int (by rw [gl]; omega)
    refine ⟨_, rfl, _, rfl, g, _, rfl, .inr (SqT.of N1.gt), _, _, rfl, rfl, ?_⟩
    dsimp -proj only
    rw [ewr]
    generalize hwr : n.many + n.gates.length = wr
    have wr24 : wr ≤ 24 := by omega
    have wr1 : 1 ≤ wr := by omega
    refine ⟨_, rfl, _, rfl, g, _, rfl, .inr (SqT.of N1.gt), _, _, rfl, W, C, _, rfl, k1.wl, by rw [gl]; split <;> omega, by rw [gl]; split <;> omega, fun at0' H2 d0 d1 k2 => ?_⟩
    obtain ⟨at_, rfl⟩ := Int.eq_ofNat_of_zero_le d0
    have hat : at_ = 0 ∨ at_ < n.gates.length := by rw [gl] at d1; split at d1 <;> omega
    have hat24 : n.many + at_ < 24 := by omega
    clear d0 d1
    refine ⟨_, rfl, _, rfl, _, _, rfl, rfl, W, C, _, rfl, k2.wl, by omega, by omega, fun one H3 e0 e1 k3 => ?_⟩
    obtain ⟨one, rfl⟩ := Int.eq_ofNat_of_zero_le e0
    obtain ⟨ex, hex, ex1⟩ : ∃ ex : Nat, atI [V.int 0, V.int 1] (if decide (nV wy = V.int 9) = true then 1 else 0) = some (nV ex) ∧ ex ≤ 1 := by
      cases decide (nV wy = V.int 9)
      · exact ⟨0, rfl, by decide⟩
      · exact ⟨1, rfl, by decide⟩
    refine ⟨_, rfl, _, rfl, small 2, fun L1 nL1 => ⟨_, rfl, rfl, .inr ⟨_, rfl, L1, _, _, _, rfl, rfl, SqL.of upd_same, hex, _, _, rfl, rfl, ?_⟩⟩⟩
    have k3' := k3.new (o := .lst [V.int 0, V.int 1]) nL1
    refine ⟨W, C, _, rfl, k3'.wl, by omega, by omega, fun oth H4 f0 f1 k4 => ?_⟩
    obtain ⟨oth, rfl⟩ := Int.eq_ofNat_of_zero_le f0
    refine ⟨_, rfl, W, C, 17, rfl, k4.wl, by decide, by decide, fun kd H5 g0 g1 k5 => ?_⟩
    obtain ⟨kd, rfl⟩ := Int.eq_ofNat_of_zero_le g0
    have k15 := (((k1.nxt k2).nxt k3').nxt k4).nxt k5
    have one25 : one < 26 := by omega
    have oth26 : oth < 26 := by omega
    have kd17 : kd < 17 := by omega
    clear e0 e1 f0 f1 g0 g1 hex
    have N5 : NetAt H5 a n g o ps := N.mono fun b xs e => hW.tup k15 e
    have wl5 := k15.wl
    have sz : sizeLine = 16777216 := by decide
    have lk : (Str.ofString (toString ((kd : Nat) : Int))).length ≤ 2 := nS_len (by omega)
    have lo : (Str.ofString (toString ((one : Nat) : Int))).length ≤ 2 := nS_len (by omega)
    have lt : (Str.ofString (toString ((oth : Nat) : Int))).length ≤ 2 := nS_len (by omega)
    have la : (Str.ofString (toString ((n.many + at_ : Nat) : Int))).length ≤ 2 := nS_len (by omega)
    have ls : (Str.ofString " ").length = 1 := by decide +kernel
    have l5 : (Str.ofString "gate ").length = 5 ∧ (Str.ofString "kind ").length = 5 ∧ (Str.ofString "lead ").length = 5 ∧ (Str.ofString "outs ").length = 5 := by decide +kernel
    have thI : ∀ {x y : Nat}, thW x = thN y → x = y := fun e => thW_inj _ _ e
    refine ⟨_, rfl, _, _, rfl, rfl, _, rfl, ite2 (fun c1 => ?_) (fun c1 => ?_)⟩
    · refine ⟨_, rfl, _, rfl, lg100 kd (by omega), _, _, rfl, rfl, by omega, _, _, rfl, rfl, by rw [app_len]; omega, _, rfl, _, rfl, lg100 one (by omega), _, _, rfl, rfl, by rw [app_len, app_len]; omega, _, _, rfl, rfl, by rw [app_len, app_len, app_len]; omega, _, rfl, _, rfl, lg100 oth (by omega), _, _, rfl, rfl, by rw [app_len, app_len, app_len, app_len]; omega, ?_⟩
      rw [text3 (h := "gate") (by decide +kernel)]
      with_reducible refine gIf_cut (fun b H' => H' = H5 ∧ (b = true ↔ (15 < kd ∨ wr ≤ one ∨ wr ≤ oth ∨ n.gates.length = 16))) (fun Q' hQ => ?_) ?_
      · refine ⟨_, rfl, _, _, rfl, rfl, _, rfl, ite2 (fun d1 => hQ _ _ ⟨rfl, fun _ => .inl (by have := of_decide_eq_true d1; omega), fun _ => rfl⟩) (fun d1 => ?_)⟩
        have d1 : ¬ 15 < kd := fun z => d1 (decide_eq_true (by omega))
        refine ⟨_, rfl, _, rfl, _, _, rfl, rfl, _, rfl, ite2 (fun d2 => hQ _ _ ⟨rfl, fun _ => .inr (.inl (by have := of_decide_eq_true d2; omega)), fun _ => rfl⟩) (fun d2 => ?_)⟩
        have d2 : ¬ wr ≤ one := fun z => d2 (decide_eq_true (by omega))
        refine ⟨_, rfl, _, rfl, _, _, rfl, rfl, _, rfl, ite2 (fun d3 => hQ _ _ ⟨rfl, fun _ => .inr (.inr (.inl (by have := of_decide_eq_true d3; omega))), fun _ => rfl⟩) (fun d3 => ?_)⟩
        have d3 : ¬ wr ≤ oth := fun z => d3 (decide_eq_true (by omega))
        refine ⟨_, rfl, g, _, rfl, .inr (SqT.of N5.gt), rfl, _, rfl, ?_⟩
        refine hQ _ _ ⟨rfl, fun z => .inr (.inr (.inr ?_)), fun z => ?_⟩
        · have := V.int.inj (of_decide_eq_true z)
          rw [gl] at this
          omega
        · rcases z with z | z | z | z
          · exact absurd z d1
          · exact absurd z d2
          · exact absurd z d3
          · exact decide_eq_true (congrArg V.int (by rw [gl]; omega))
      rintro b H5' ⟨rfl, hb⟩
      have erow : ∀ c : Chg, c.th = chgTh "gate" (some [kd, one, oth]) → c = .more kd one oth := fun c e => by
        have e : c.th = .tup [.str "more", thN kd, thN one, thN oth] := e
        cases c with
        | more x y z =>
          injection e with e
          injection e with e1 e
          injection e with e2 e
          injection e with e3 e
          injection e with e4 e
          rw [thI e2, thI e3, thI e4]
        | _ => injection e with e; injection e with e1 e; injection e1 with e1; exact absurd e1 (by decide +kernel)
      cases b with
      | true =>
        refine iteT ?_
        refine ⟨_, rfl, small 2, fun p np => q p _ _ _ (k15.new np) upd_same ⟨"gate", [kd, one, oth], rfl, by decide +kernel, by show 3 ≤ 9; decide, fun y hy => by simp only [List.mem_cons, List.not_mem_nil, or_false] at hy; omega, .inl ⟨rfl, fun ⟨c, cok, e⟩ => ?_⟩⟩⟩
        rw [erow c e] at cok
        obtain ⟨x1, x2, x3, x4⟩ := cok
        have := hb.mp rfl
        omega
      | false =>
        refine iteF ?_
        have nb : ¬ (15 < kd ∨ wr ≤ one ∨ wr ≤ oth ∨ n.gates.length = 16) := fun z => by have := hb.mpr z; cases this
        refine ⟨_, rfl, _, rfl, _, rfl, _, rfl, _, rfl, _, rfl, small 3, fun t0 nt0 => ⟨small 1, fun t1 nt1 => ?_⟩⟩
        have s1 := Same.new (o := .tup [V.int ((kd : Nat) : Int), V.int ((one : Nat) : Int), V.int ((oth : Nat) : Int)]) nt0
        have h0 : upd H5' t0 (.tup [V.int ((kd : Nat) : Int), V.int ((one : Nat) : Int), V.int ((oth : Nat) : Int)]) t0 = some (.tup (gV (kd, one, oth))) := upd_same
        generalize upd H5' t0 (.tup [V.int ((kd : Nat) : Int), V.int ((one : Nat) : Int), V.int ((oth : Nat) : Int)]) = H6 at s1 h0 nt1 ⊢
        have s2 := Same.new (o := .tup [V.ref t0]) nt1
        refine catA (s2 _ _ (s1 _ _ N5.gt)) upd_same (by rw [gl]; exact Nat.le_trans (show _ ≤ 17 by show _ + 1 ≤ 17; omega) (small 17)) fun r H7 s3 hr => ?_
        have s13 := (s1.trans s2).trans s3
        refine ⟨_, rfl, small 3, fun ta nta => ⟨small 2, fun p np => ?_⟩⟩
        have s4 := Same.new (o := .tup [nV n.many, V.ref r, V.ref o]) nta
        have s5 := Same.new (o := .tup [V.str (rowS (tl ("gate" : Str)) [kd, one, oth]), V.ref ta]) np
        have s45 := s4.trans s5
        refine q p _ _ _ (k15.same (s13.trans s45)) upd_same ⟨"gate", [kd, one, oth], rfl, by decide +kernel, by show 3 ≤ 9; decide, fun y hy => by simp only [List.mem_cons, List.not_mem_nil, or_false] at hy; omega, .inr ⟨.more kd one oth, ⟨by omega, by omega, by omega, by omega⟩, rfl, ta, r, o, ps ++ [t0], rfl, s5 _ _ upd_same, ?_, ?_, s45 _ _ (s13 _ _ N5.ot)⟩⟩
        · rw [s45 _ _ hr, List.map_append]
          rfl
        · exact (N5.gs.mono fun b xs e => s45 _ _ (s13 _ _ e)).push (s45 _ _ ((s2.trans s3) _ _ h0))
    have c1 : ¬ wy < 5 := fun z => c1 (decide_eq_true (Int.ofNat_lt.mpr z))
    have el : tl (Str.ofString "less") = tl ("less" : Str) := rfl
    have rless : Str.ofString "less" = rowS (tl ("less" : Str)) [] := ext_tl rfl
    have eless : ∀ c : Chg, c.th = chgTh "less" (some []) → c = .less := fun c e => by
      have e : c.th = .tup [.str "less"] := e
      cases c with
      | less => rfl
      | _ => injection e with e; injection e with e1 e; injection e1 with e1; exact absurd e1 (by decide +kernel)
    with_reducible refine nIf_cut rfl (fun b H' => Same H5 H' ∧ (b = true ↔ (wy = 5 ∧ (n.gates.length = 0 ∨ ∃ x ∈ n.outs, x + 1 = wr)))) (fun Q' hQ => ?_) ?_
    · refine ⟨_, rfl, rfl, _, rfl, ite2 (fun c2 => ?_) (fun c2 => hQ _ _ ⟨Same.refl _, fun z => (by cases z), fun z => absurd (decide_eq_true (congrArg V.int (congrArg Int.ofNat z.1))) c2⟩)⟩
      have c2 : wy = 5 := by have := V.int.inj (of_decide_eq_true c2); omega
      refine ⟨_, rfl, small 0, fun z nz => ?_⟩
      have s1 := Same.new (o := .tup []) nz
      have hz : upd H5 z (.tup []) z = some (.tup []) := upd_same
      generalize upd H5 z (.tup []) = H6 at s1 hz ⊢
      have N6 := N5.same s1
      refine ⟨g, z, _, rfl, rfl, .inl ⟨SqT.of N6.gt, SqT.of hz⟩, _, rfl, ite2 (fun c3 => ?_) (fun c3 => ?_)⟩
      · have c3 := of_decide_eq_true c3
        rw [gl] at c3
        exact hQ _ _ ⟨s1, fun _ => ⟨c2, .inl c3⟩, fun _ => rfl⟩
      have c3 : n.gates.length ≠ 0 := fun z => c3 (decide_eq_true (by rw [gl]; exact z))
      refine ⟨_, rfl, o, n.outs.map (fun n : Nat => (n : Int)), rfl, by rw [mapV]; exact SqT.of N6.ot, by rw [List.length_map]; exact o1, fun mx hm hb => ⟨_, rfl, _, _, rfl, rfl, rfl, _, rfl, hQ _ _ ⟨s1, fun z => ?_, fun z => ?_⟩⟩⟩
      · have z := V.int.inj (of_decide_eq_true z)
        obtain ⟨x, hx, rfl⟩ := List.mem_map.mp hm
        exact ⟨c2, .inr ⟨x, hx, by omega⟩⟩
      · rcases z.2 with z | ⟨x, hx, ex⟩
        · exact absurd z c3
        · refine decide_eq_true (congrArg V.int ?_)
          have h1 := hb ((x : Nat) : Int) (List.mem_map.mpr ⟨x, hx, rfl⟩)
          obtain ⟨y, hy, rfl⟩ := List.mem_map.mp hm
          have := ok.os y hy
          omega
    rintro b H6 ⟨s6, hb⟩
    have k6 := k15.same s6
    have N6 := N5.same s6
    cases b with
    | true =>
      refine iteT ?_
      refine ⟨small 2, fun p np => q p _ _ _ (k6.new np) upd_same ⟨"less", [], rless, by decide +kernel, by decide, fun y hy => (by cases hy), .inl ⟨rfl, fun ⟨c, cok, e⟩ => ?_⟩⟩⟩
      rw [eless c e] at cok
      obtain ⟨x1, x2⟩ := cok
      rcases (hb.mp rfl).2 with z | ⟨x, hx, ex⟩
      · omega
      · have := x2 x hx
        omega
    | false =>
    refine iteF ?_
    have nb : ¬ (wy = 5 ∧ (n.gates.length = 0 ∨ ∃ x ∈ n.outs, x + 1 = wr)) := fun z => by have := hb.mpr z; cases this
    refine ⟨_, rfl, rfl, _, rfl, ite2 (fun c2 => ?_) (fun c2 => ?_)⟩
    · have c2 : wy = 5 := by have := V.int.inj (of_decide_eq_true c2); omega
      have hg : 0 < n.gates.length := Nat.pos_of_ne_zero fun z => nb ⟨c2, .inl z⟩
      refine ⟨_, rfl, _, rfl, ?_⟩
      unfold tNoPart
      refine ⟨_, rfl, _, rfl, ?_⟩
      refine slA (lo := none) (hi := some (-1)) N6.gt fun r H7 s7 h7 => ?_
      rw [cut_neg _ (by rw [gl]; exact hg), gl, ← List.map_take] at h7
      refine ⟨_, rfl, small 3, fun ta nta => ⟨small 2, fun p np => ?_⟩⟩
      have s8 := Same.new (o := .tup [nV n.many, V.ref r, V.ref o]) nta
      have s9 := s8.trans (Same.new (o := .tup [V.str (Str.ofString "less"), V.ref ta]) np)
      refine q p _ _ _ ((k6.same s7).same s9) upd_same ⟨"less", [], rless, by decide +kernel, by decide, fun y hy => (by cases hy), .inr ⟨.less, ⟨hg, fun x hx => ?_⟩, rfl, ta, r, o, ps.take (n.gates.length - 1), rfl, (Same.new np) _ _ upd_same, s9 _ _ h7, ?_, s9 _ _ (s7 _ _ N6.ot)⟩⟩
      · have := ok.os x hx
        have : x + 1 ≠ wr := fun z => nb ⟨c2, .inr ⟨x, hx, z⟩⟩
        omega
      · have G := (N6.gs.mono fun b xs e => s9 _ _ (s7 _ _ e))
        refine ⟨by show (ps.take _).length = (n.gates.take _).length; rw [List.length_take, List.length_take, G.1], fun i p' g' e1 e2 => ?_⟩
        have e2 : (n.gates.take (n.gates.length - 1))[i]? = some g' := e2
        have hi := (List.getElem?_eq_some_iff.mp e2).1
        rw [List.length_take] at hi
        rw [List.getElem?_take_of_lt (by omega)] at e1 e2
        exact G.2 i p' g' e1 e2
    have c2 : wy ≠ 5 := fun z => c2 (decide_eq_true (congrArg V.int (congrArg Int.ofNat z)))
    refine ⟨_, rfl, _, _, rfl, rfl, _, rfl, ite2 (fun c3 => ?_) (fun c3 => ?_)⟩
    · refine ⟨_, rfl, W, C, 9, rfl, k6.wl, by decide, by decide, fun cnt H7 cn0 cn9 k7 => ⟨_, rfl, by omega, by omega, fun M nM => ?_⟩⟩
      have MW := k7.wl.new nM
      refine lc_range (lo := 0) (n := cnt.toNat) (fun i H' => ∃ ms : List Nat, Wk2 W C H7 H' ∧ H' M = some (.lst (ms.map nV)) ∧ ms.length = i ∧ ∀ x ∈ ms, x < wr) ⟨[], (Wk2.refl k7.wl).new nM, upd_same, rfl, fun x hx => by cases hx⟩ ?_ ?_
      · rintro i H8 hi ⟨ms, k8, hM8, ml, mb⟩
        refine ⟨rfl, ?_⟩
        unfold tYes
        refine iteT ?_
        refine ⟨_, rfl, _, rfl, W, C, _, rfl, k8.wl, by omega, by omega, fun v H9 v0 v1 k9 => ?_⟩
        obtain ⟨x, rfl⟩ := Int.eq_ofNat_of_zero_le v0
        have hM9 := k9.at_ MW hM8
        refine ⟨_, hM9, by rw [List.length_map, ml]; exact small256 (by omega), ms ++ [x], (k8.nxt k9).put nM MW, by rw [upd_same, List.map_append]; rfl, by rw [List.length_append, ml]; rfl, fun y hy => ?_⟩
        rcases List.mem_append.mp hy with h | h
        · exact mb y h
        · rw [List.mem_singleton.mp h]
          omega
      rintro H8 ⟨ms, k8, hM8, ml, mb⟩
      have ml8 : ms.length ≤ 8 := by omega
      refine ⟨M, _, rfl, .inl ⟨SqL.of hM8, fun p1 np1 => ?_⟩⟩
      have s9 := Same.new (o := .tup (ms.map nV)) np1
      have h9 : upd H8 p1 (.tup (ms.map nV)) p1 = some (.tup (ms.map nV)) := upd_same
      have k9 := (k6.nxt (k7.nxt k8)).same s9
      show gName _ _ _ (upd H8 p1 (.tup (ms.map nV))) _
      generalize upd H8 p1 (.tup (ms.map nV)) = H9 at h9 k9 ⊢
      refine ⟨_, rfl, _, rfl, small 1, fun t1 nt1 => ?_⟩
      have s10 := Same.new (o := .tup [V.int ((oth : Nat) : Int)]) nt1
      refine catA (s10 _ _ h9) upd_same (by rw [List.length_map]; exact Nat.le_trans (Nat.add_le_add_right ml8 _) (small 9)) fun r H10 s11 hr => ?_
      have hr : H10 r = some (.tup ((ms ++ [oth]).map nV)) := by rw [hr, List.map_append]; rfl
      have k10 := k9.same (s10.trans s11)
      have ob : ∀ x ∈ ms ++ [oth], x < 100 := fun x hx => by
        rcases List.mem_append.mp hx with h | h
        · have := mb x h; omega
        · rw [List.mem_singleton.mp h]; omega
      have ol : (ms ++ [oth]).length ≤ 9 := by rw [List.length_append]; show _ + 1 ≤ 9; omega
      have hos : (∀ x ∈ ms ++ [oth], x < wr) ↔ ¬ wr ≤ oth := ⟨fun z => by have := z oth (List.mem_append_right _ (List.mem_singleton.mpr rfl)); omega, fun z x hx => by
        rcases List.mem_append.mp hx with h | h
        · exact mb x h
        · rw [List.mem_singleton.mp h]; omega⟩
      have one' : 1 ≤ (ms ++ [oth]).length := by rw [List.length_append]; show 1 ≤ _ + 1; omega
      generalize ms ++ [oth] = os at hr ob ol hos one'
      refine ⟨⟨_, rfl⟩, _, rfl, r, rfl, ⟨_, SqT.of hr⟩, fun M2 nM2 => ?_⟩
      refine lc_tup (K := K) (a := r) (xs := os.map nV) (fun i H' => Own H10 H' M2 (((os.take i).map nS).map V.str)) ⟨Same.new nM2, upd_same, nM2⟩ (fun i H' _ o' => SqT.of (o'.sm _ _ hr)) ?_ ?_
      · rintro i y H11 hy o11
        rw [List.getElem?_map] at hy
        obtain ⟨x, hx, rfl⟩ := Option.map_eq_some_iff.mp hy
        have hi := (List.getElem?_eq_some_iff.mp hx).1
        refine ⟨rfl, ?_⟩
        unfold tYes
        refine iteT ?_
        refine ⟨_, rfl, _, rfl, lg100 x (ob x (List.mem_of_getElem? hx)), _, o11.at_, by rw [List.length_map, List.length_map, List.length_take]; exact small256 (by omega), ?_⟩
        rw [List.take_add_one, hx, List.map_append, List.map_append]
        exact o11.app
      rintro H11 o11
      rw [List.length_map, List.take_length] at o11
      have k11 := k10.same o11.sm
      have hr11 := o11.sm _ _ hr
      obtain ⟨f1, f2⟩ := nS_fit ob ol (by decide)
      refine ⟨_, M2, os.map nS, rfl, rfl, .inl (SqL.of o11.at_), f1, _, _, rfl, rfl, by omega, ?_⟩
      rw [textL (h := "outs") (by decide +kernel) (List.length_pos_iff.mp one')]
      have eouts : ∀ c : Chg, c.th = chgTh "outs" (some os) → c = .outs os := fun c e => by
        have e : c.th = .tup [.str "outs", .tup (os.map thN)] := e
        cases c with
        | outs os' =>
          injection e with e
          injection e with e1 e
          injection e with e2 e
          have e2 : thWs os' = thWs os := e2
          rw [thWs_inj e2]
        | _ => injection e with e; injection e with e1 e; injection e1 with e1; exact absurd e1 (by decide +kernel)
      have N11 : NetAt H11 a n g o ps := N.mono fun b xs e => hW.tup k11 e
      with_reducible refine gIf_cut (fun b H' => H' = H11 ∧ (b = true ↔ (8 < os.length ∨ wr ≤ oth))) (fun Q' hQ => ?_) ?_
      · refine ⟨_, rfl, r, _, rfl, .inr (SqT.of hr11), _, _, rfl, rfl, _, rfl, ite2 (fun d1 => hQ _ _ ⟨rfl, fun _ => .inl ?_, fun _ => rfl⟩) (fun d1 => ?_)⟩
        · have := of_decide_eq_true d1
          rw [List.length_map] at this
          omega
        · refine ⟨_, rfl, _, rfl, _, _, rfl, rfl, _, rfl, hQ _ _ ⟨rfl, fun z => .inr (by have := of_decide_eq_true z; omega), fun z => ?_⟩⟩
          rcases z with z | z
          · exact absurd (decide_eq_true (by rw [List.length_map]; omega)) d1
          · exact decide_eq_true (by omega)
      rintro b H11' ⟨rfl, hb2⟩
      cases b with
      | true =>
        refine iteT ?_
        refine ⟨_, rfl, small 2, fun p np => q p _ _ _ (k11.new np) upd_same ⟨"outs", os, rfl, by decide +kernel, ol, ob, .inl ⟨rfl, fun ⟨c, cok, e⟩ => ?_⟩⟩⟩
        rw [eouts c e] at cok
        obtain ⟨x1, x2, x3⟩ := cok
        rcases hb2.mp rfl with z | z
        · omega
        · rw [hwr] at x3
          exact absurd z (hos.mp x3)
      | false =>
        refine iteF ?_
        have nb2 : ¬ (8 < os.length ∨ wr ≤ oth) := fun z => by have := hb2.mpr z; cases this
        refine ⟨_, rfl, _, rfl, _, rfl, _, rfl, small 3, fun ta nta => ⟨small 2, fun p np => ?_⟩⟩
        have s8 := Same.new (o := .tup [nV n.many, V.ref g, V.ref r]) nta
        have s9 := s8.trans (Same.new (o := .tup [V.str (rowS (tl ("outs" : Str)) os), V.ref ta]) np)
        refine q p _ _ _ (k11.same s9) upd_same ⟨"outs", os, rfl, by decide +kernel, ol, ob, .inr ⟨.outs os, ⟨one', by omega, by rw [hwr]; exact hos.mpr fun z => nb2 (.inr z)⟩, rfl, ta, g, r, ps, rfl, (Same.new np) _ _ upd_same, s9 _ _ N11.gt, N11.gs.mono fun b xs e => s9 _ _ e, s9 _ _ hr11⟩⟩
    have eka : ((n.many : Nat) : Int) + ((at_ : Nat) : Int) = ((n.many + at_ : Nat) : Int) := by omega
    have hold : ∀ {H' : Hp}, NetAt H' a n g o ps → at_ < n.gates.length → ∃ p', (ps.map V.ref)[at_]? = some (.ref p') ∧ H' p' = some (.tup (gV (oldG n (n.many + at_)))) := fun {H'} N' hlt => by
      have hpl := N'.gs.1
      refine ⟨ps[at_], by rw [List.getElem?_map, List.getElem?_eq_getElem (by omega)]; rfl, N'.gs.2 at_ _ _ (List.getElem?_eq_getElem (by omega)) ?_⟩
      unfold oldG
      rw [show n.many + at_ - n.many = at_ by omega, List.getD_eq_getElem?_getD, List.getElem?_eq_getElem hlt]
      rfl
    refine ⟨_, rfl, rfl, _, rfl, ite2 (fun c4 => ?_) (fun c4 => ?_)⟩
    · refine ⟨_, rfl, _, rfl, _, _, rfl, rfl, ((n.many + at_ : Nat) : Int), congrArg (fun z => [V.int z]) eka, lg100 (n.many + at_) (by omega), _, _, rfl, rfl, by omega, _, _, rfl, rfl, by rw [app_len]; omega, _, rfl, _, rfl, lg100 kd (by omega), _, _, rfl, rfl, by rw [app_len, app_len]; omega, ?_⟩
      rw [text2 (h := "kind") (by decide +kernel)]
      have ekind : ∀ c : Chg, c.th = chgTh "kind" (some [n.many + at_, kd]) → c = .kind (n.many + at_) kd := fun c e => by
        have e : c.th = .tup [.str "kind", thN (n.many + at_), thN kd] := e
        cases c with
        | kind x y =>
          injection e with e
          injection e with e1 e
          injection e with e2 e
          injection e with e3 e
          rw [thI e2, thI e3]
        | _ => injection e with e; injection e with e1 e; injection e1 with e1; exact absurd e1 (by decide +kernel)
      with_reducible refine gIf_cut (fun b H' => Same H6 H' ∧ (b = true ↔ (n.gates.length = 0 ∨ 15 < kd))) (fun Q' hQ => ?_) ?_
      · refine ⟨_, rfl, small 0, fun z nz => ?_⟩
        have s1 := Same.new (o := .tup []) nz
        have hz : upd H6 z (.tup []) z = some (.tup []) := upd_same
        generalize upd H6 z (.tup []) = H7 at s1 hz ⊢
        have N7 := N6.same s1
        refine ⟨g, z, _, rfl, rfl, .inl ⟨SqT.of N7.gt, SqT.of hz⟩, _, rfl, ite2 (fun d1 => hQ _ _ ⟨s1, fun _ => .inl (by have := of_decide_eq_true d1; rw [gl] at this; exact this), fun _ => rfl⟩) (fun d1 => ?_)⟩
        refine ⟨_, rfl, _, _, rfl, rfl, _, rfl, hQ _ _ ⟨s1, fun z => .inr (by have := of_decide_eq_true z; omega), fun z => ?_⟩⟩
        rcases z with z | z
        · exact absurd (decide_eq_true (by rw [gl]; exact z)) d1
        · exact decide_eq_true (by omega)
      rintro b H7 ⟨s7, hb2⟩
      have k7 := k6.same s7
      have N7 := N6.same s7
      cases b with
      | true =>
        refine iteT ?_
        refine ⟨_, rfl, small 2, fun p np => q p _ _ _ (k7.new np) upd_same ⟨"kind", [n.many + at_, kd], rfl, by decide +kernel, by show 2 ≤ 9; decide, fun y hy => by simp only [List.mem_cons, List.not_mem_nil, or_false] at hy; omega, .inl ⟨rfl, fun ⟨c, cok, e⟩ => ?_⟩⟩⟩
        rw [ekind c e] at cok
        obtain ⟨x1, x2, x3⟩ := cok
        have := hb2.mp rfl
        omega
      | false =>
        refine iteF ?_
        have nb2 : ¬ (n.gates.length = 0 ∨ 15 < kd) := fun z => by have := hb2.mpr z; cases this
        have hlt : at_ < n.gates.length := by omega
        obtain ⟨po, hpo, hgo⟩ := hold N7 hlt
        refine ⟨_, rfl, _, rfl, _, rfl, _, rfl, _, rfl, small 1, fun t1 nt1 => ?_⟩
        have s8 := Same.new (o := .tup [V.int ((kd : Nat) : Int)]) nt1
        have h8 : upd H7 t1 (.tup [V.int ((kd : Nat) : Int)]) t1 = some (.tup [V.int ((kd : Nat) : Int)]) := upd_same
        generalize upd H7 t1 (.tup [V.int ((kd : Nat) : Int)]) = H8 at s8 h8 ⊢
        have N8 := N7.same s8
        refine ⟨_, rfl, _, rfl, g, _, _, _, rfl, rfl, SqT.of N8.gt, atI_nat hpo, _, rfl, ?_⟩
        unfold tNoPart
        refine slA (lo := some ((1 : Nat) : Int)) (hi := none) (s8 _ _ hgo) fun r1 H9 s9 h9 => ?_
        rw [cut_lo] at h9
        refine catA (s9 _ _ h8) h9 (by show 1 + 2 ≤ _; exact small 3) fun r2 H10 s10 h10 => ?_
        have h10 : H10 r2 = some (.tup (gV (kd, (oldG n (n.many + at_)).2.1, (oldG n (n.many + at_)).2.2))) := h10
        have N10 := (N8.same s9).same s10
        refine ⟨g, ps.map V.ref, at_, .ref r2, rfl, N10.gt, by rw [gl]; exact hlt, by rw [gl]; omega, fun r3 H11 s11 h11 => ?_⟩
        rw [← List.map_set] at h11
        have N11 := N10.same s11
        refine ⟨_, rfl, small 3, fun ta nta => ⟨small 2, fun p np => ?_⟩⟩
        have t1' := Same.new (o := .tup [nV n.many, V.ref r3, V.ref o]) nta
        have t2' := t1'.trans (Same.new (o := .tup [V.str (rowS (tl ("kind" : Str)) [n.many + at_, kd]), V.ref ta]) np)
        refine q p _ _ _ ((((k7.same s8).same s9).same (s10.trans s11)).same t2') upd_same ⟨"kind", [n.many + at_, kd], rfl, by decide +kernel, by show 2 ≤ 9; decide, fun y hy => by simp only [List.mem_cons, List.not_mem_nil, or_false] at hy; omega, .inr ⟨.kind (n.many + at_) kd, ⟨by omega, by omega, by omega⟩, rfl, ta, r3, o, ps.set at_ r2, rfl, (Same.new np) _ _ upd_same, t2' _ _ h11, ?_, t2' _ _ N11.ot⟩⟩
        show GatesAt _ _ (n.gates.set (n.many + at_ - n.many) _)
        rw [show n.many + at_ - n.many = at_ by omega]
        exact GatesAt.set (N11.gs.mono fun b xs e => t2' _ _ e) (t2' _ _ (s11 _ _ h10))
    refine ⟨_, rfl, W, C, 2, rfl, k6.wl, by decide, by decide, fun sd H7 sd0 sd1 k7' => ?_⟩
    obtain ⟨sd, rfl⟩ := Int.eq_ofNat_of_zero_le sd0
    have k7 := k6.nxt k7'
    have N7 : NetAt H7 a n g o ps := N6.mono fun b xs e => k6.wl.tup k7' e
    have sd2 : sd < 2 := by omega
    have lsd : (Str.ofString (toString ((sd : Nat) : Int))).length ≤ 2 := nS_len (by omega)
    refine ⟨_, rfl, _, rfl, _, _, rfl, rfl, ((n.many + at_ : Nat) : Int), congrArg (fun z => [V.int z]) eka, lg100 (n.many + at_) (by omega), _, _, rfl, rfl, by omega, _, _, rfl, rfl, by rw [app_len]; omega, _, rfl, _, rfl, lg100 sd (by omega), _, _, rfl, rfl, by rw [app_len, app_len]; omega, _, _, rfl, rfl, by rw [app_len, app_len, app_len]; omega, _, rfl, _, rfl, lg100 one (by omega), _, _, rfl, rfl, by rw [app_len, app_len, app_len, app_len]; omega, ?_⟩
    rw [text3 (h := "lead") (by decide +kernel)]
    have elead : ∀ c : Chg, c.th = chgTh "lead" (some [n.many + at_, sd, one]) → c = .lead (n.many + at_) sd one := fun c e => by
      have e : c.th = .tup [.str "lead", thN (n.many + at_), thN sd, thN one] := e
      cases c with
      | lead x y z =>
        injection e with e
        injection e with e1 e
        injection e with e2 e
        injection e with e3 e
        injection e with e4 e
        rw [thI e2, thI e3, thI e4]
      | _ => injection e with e; injection e with e1 e; injection e1 with e1; exact absurd e1 (by decide +kernel)
    with_reducible refine gIf_cut (fun b H' => Same H7 H' ∧ (b = true ↔ (n.gates.length = 0 ∨ n.many + at_ ≤ one))) (fun Q' hQ => ?_) ?_
    · refine ⟨_, rfl, small 0, fun z nz => ?_⟩
      have s1 := Same.new (o := .tup []) nz
      have hz : upd H7 z (.tup []) z = some (.tup []) := upd_same
      generalize upd H7 z (.tup []) = H8 at s1 hz ⊢
      have N8 := N7.same s1
      refine ⟨g, z, _, rfl, rfl, .inl ⟨SqT.of N8.gt, SqT.of hz⟩, _, rfl, ite2 (fun d1 => hQ _ _ ⟨s1, fun _ => .inl (by have := of_decide_eq_true d1; rw [gl] at this; exact this), fun _ => rfl⟩) (fun d1 => ?_)⟩
      refine ⟨_, rfl, _, rfl, _, rfl, _, _, rfl, rfl, _, _, rfl, rfl, _, rfl, hQ _ _ ⟨s1, fun z => .inr (by have := of_decide_eq_true z; omega), fun z => ?_⟩⟩
      rcases z with z | z
      · exact absurd (decide_eq_true (by rw [gl]; exact z)) d1
      · exact decide_eq_true (by omega)
    rintro b H8 ⟨s8, hb2⟩
    have k8 := k7.same s8
    have N8 := N7.same s8
    cases b with
    | true =>
      refine iteT ?_
      refine ⟨_, rfl, small 2, fun p np => q p _ _ _ (k8.new np) upd_same ⟨"lead", [n.many + at_, sd, one], rfl, by decide +kernel, by show 3 ≤ 9; decide, fun y hy => by simp only [List.mem_cons, List.not_mem_nil, or_false] at hy; omega, .inl ⟨rfl, fun ⟨c, cok, e⟩ => ?_⟩⟩⟩
      rw [elead c e] at cok
      obtain ⟨x1, x2, x3, x4⟩ := cok
      have := hb2.mp rfl
      omega
    | false =>
      refine iteF ?_
      have nb2 : ¬ (n.gates.length = 0 ∨ n.many + at_ ≤ one) := fun z => by have := hb2.mpr z; cases this
      have hlt : at_ < n.gates.length := by omega
      obtain ⟨po, hpo, hgo⟩ := hold N8 hlt
      have e1s : V.int (1 + ((sd : Nat) : Int)) = nV (1 + sd) := congrArg V.int (by omega)
      refine ⟨_, rfl, _, rfl, _, rfl, _, rfl, _, rfl, _, rfl, g, _, _, _, rfl, rfl, SqT.of N8.gt, atI_nat hpo, _, rfl, _, _, rfl, rfl, _, rfl, po, gV (oldG n (n.many + at_)), 1 + sd, nV one, ?_, hgo, by show 1 + sd < 3; omega, by show 3 ≤ 1000; decide, fun r2 H9 s9 h9 => ?_⟩
      · show [V.ref po, V.int (1 + ((sd : Nat) : Int)), V.int ((one : Nat) : Int)] = _
        rw [e1s]
        rfl
      have N9 := N8.same s9
      refine ⟨g, ps.map V.ref, at_, .ref r2, rfl, N9.gt, by rw [gl]; exact hlt, by rw [gl]; omega, fun r3 H10 s10 h10 => ?_⟩
      rw [← List.map_set] at h10
      have N10 := N9.same s10
      refine ⟨_, rfl, small 3, fun ta nta => ⟨small 2, fun p np => ?_⟩⟩
      have t1' := Same.new (o := .tup [nV n.many, V.ref r3, V.ref o]) nta
      have t2' := t1'.trans (Same.new (o := .tup [V.str (rowS (tl ("lead" : Str)) [n.many + at_, sd, one]), V.ref ta]) np)
      refine q p _ _ _ (((k8.same s9).same s10).same t2') upd_same ⟨"lead", [n.many + at_, sd, one], rfl, by decide +kernel, by show 3 ≤ 9; decide, fun y hy => by simp only [List.mem_cons, List.not_mem_nil, or_false] at hy; omega, .inr ⟨.lead (n.many + at_) sd one, ⟨by omega, by omega, by omega, by omega⟩, rfl, ta, r3, o, ps.set at_ r2, rfl, (Same.new np) _ _ upd_same, t2' _ _ h10, ?_, t2' _ _ N10.ot⟩⟩
      show GatesAt _ _ (n.gates.set (n.many + at_ - n.many) _)
      rw [show n.many + at_ - n.many = at_ by omega]
      refine GatesAt.set (N10.gs.mono fun b xs e => t2' _ _ e) (t2' _ _ (s10 _ _ ?_))
      rw [h9]
      rcases (by omega : sd = 0 ∨ sd = 1) with rfl | rfl
      · rw [if_pos rfl]
        rfl
      · rw [if_neg (by decide)]
        rfl
end
end K80
set_option Elab.async false
set_option linter.all false
set_option maxRecDepth 100000
set_option maxHeartbeats 4000000
namespace K80
open PySem PySem.Spec PyProof.Rows L2 GX
open C8 (Cal pe_c pe_gc Met Mak)
-- @dict CHANGES
-- @no CHANGES 0 ""
-- @no CHANGES 1 "0"
-- @no CHANGES 2 "way"
-- @no CHANGES 3 "Kind"
-- @no CHANGES 4 "leads"
-- @dict QUESTIONS
-- @no QUESTIONS 0 "gate"
-- @no QUESTIONS 1 "kind"
-- @no QUESTIONS 2 "lead"
-- @no QUESTIONS 3 "less"
-- @no QUESTIONS 4 "outs"
-- @exc NoText
-- @exc NoDepth
-- @exc TooMany
-- @exc NoMatch
-- @exc NoChange made
-- @exc NoRow made
-- @sub NoChange NoChange true
-- @sub NoRow NoRow true
-- @sub NoRow ValueError true
-- @sub NoRow NoText false
-- @sub NoRow NoDepth false
-- @sub NoRow TooMany false
-- @sub NoRow NoMatch false
-- @sub NoRow NoChange false
-- @cls Keeper k:i,held:N,kept:t[t[t[i]]]
-- @cls Desk keeper:OKeeper
-- @alt rises list par=l[i]
-- @alt cut_masks tup par=N,t[i],i vars=masks:DL,wire:i
-- @alt one_deeper tup par=t[i],t[i]
-- @alt _law_written tup par=t[i],s
section
variable {Ts : List Addr} {PL CKeeper CDesk CNoRow : Addr}
open TL
theorem KeepAt.draw {H H' : Hp} {W C kp a p : Addr} {n : Net} {k : Nat} {g o : Addr} {ps qs : List Addr} (wd : Wd H W C) (s : Wk2 W C H H') (x : KeepAt CKeeper H kp a p n k g o ps qs) : KeepAt CKeeper H' kp a p n k g o ps qs := x.mono fun b u e n1 n2 => s.kp _ _ e fun z => by
  obtain ⟨ns, i, j, e1, e2, _⟩ := wd.ex
  rcases List.mem_cons.mp z with z | z
  · rw [z, e1] at e; exact n2 _ (Option.some.inj e).symm
  · rw [List.mem_singleton.mp z, e2] at e; exact n2 _ (Option.some.inj e).symm
theorem wd_ins {H H' : Hp} {W C b X dx : Addr} {fs : List (Str × V)} (wd : Wd H W C) (s : Wk2 W C H H') (e : H b = some (.ins X dx fs)) : H' b = some (.ins X dx fs) := s.kp _ _ e fun z => by
  obtain ⟨ns, i, j, e1, e2, _⟩ := wd.ex
  rcases List.mem_cons.mp z with z | z
  · rw [z, e1] at e; cases e
  · rw [List.mem_singleton.mp z, e2] at e; cases e
theorem KeepAt.aft {H H' : Hp} {kp a p : Addr} {n : Net} {k : Nat} {g o : Addr} {ps qs : List Addr} (tb : Tabs Ts H) (s : Aft Ts H H') (x : KeepAt CKeeper H kp a p n k g o ps qs) : KeepAt CKeeper H' kp a p n k g o ps qs := x.mono fun b u e n1 n2 => s.kp _ _ e (tb.nott e n1)
theorem th_inj {c d : Chg} (h : c.th = d.th) : c = d := by
  have hl := congrArg (fun t : Th => match t with | .tup l => l.length | _ => 0) h
  have nw : ∀ {a b : Nat}, thW a = thW b → a = b := fun {a b} e => by
    injection e with e
    exact Int.ofNat_inj.mp e
  cases c <;> cases d
  case less.less => rfl
  case more.more k a b k' a' b' =>
    injection h with h
    injection h with _ h
    injection h with h1 h
    injection h with h2 h
    injection h with h3 h
    rw [nw h1, nw h2, nw h3]
  case outs.outs os os' =>
    injection h with h
    injection h with _ h
    injection h with h1 h
    injection h1 with h1
    have : ∀ {xs ys : List Nat}, xs.map thW = ys.map thW → xs = ys := by
      intro xs
      induction xs with
      | nil => intro ys e; cases ys with
        | nil => rfl
        | cons => cases e
      | cons x r ih => intro ys e; cases ys with
        | nil => cases e
        | cons y s =>
          injection e with e1 e2
          rw [nw e1, ih e2]
    rw [this h1]
  case kind.kind g k g' k' =>
    injection h with h
    injection h with _ h
    injection h with h1 h
    injection h with h2 h
    rw [nw h1, nw h2]
  case lead.lead g s x g' s' x' =>
    injection h with h
    injection h with _ h
    injection h with h1 h
    injection h with h2 h
    injection h with h3 h
    rw [nw h1, nw h2, nw h3]
  case more.lead =>
    injection h with h
    injection h with h _
    injection h with h
    exact absurd h (by decide +kernel)
  case lead.more =>
    injection h with h
    injection h with h _
    injection h with h
    exact absurd h (by decide +kernel)
  all_goals cases hl
/-- a desk of the net n, by k; kp: its keeper -/
structure DkN (CD CK : Addr) (H : Hp) (D kp : Addr) (n : Net) (k : Nat) : Prop where
  ins : ∃ dx, H D = some (.ins CD dx (putF "keeper" (.ref kp) []))
  kp : ∃ a p g o ps qs, KeepAt CK H kp a p n k g o ps qs
theorem DkN.kins {H : Hp} {D kp : Addr} {n : Net} {k : Nat} (x : DkN CDesk CKeeper H D kp n k) : ∃ dx fs, H kp = some (.ins CKeeper dx fs) := by
  obtain ⟨_, a, p, g, o, ps, qs, h⟩ := x
  obtain ⟨dx, e⟩ := h.ins
  exact ⟨dx, _, e⟩
theorem DkN.draw {H H' : Hp} {W C D kp : Addr} {n : Net} {k : Nat} (x : DkN CDesk CKeeper H D kp n k) (wd : Wd H W C) (s : Wk2 W C H H') : DkN CDesk CKeeper H' D kp n k := by
  obtain ⟨⟨dx, e⟩, ⟨a, p, g, o, ps, qs, h1⟩⟩ := x
  exact ⟨⟨dx, wd_ins wd s e⟩, ⟨a, p, g, o, ps, qs, h1.draw wd s⟩⟩
theorem DkN.aft {H H' : Hp} {D kp : Addr} {n : Net} {k : Nat} (x : DkN CDesk CKeeper H D kp n k) (tb : Tabs Ts H) (s : Aft Ts H H') : DkN CDesk CKeeper H' D kp n k := by
  obtain ⟨⟨dx, e⟩, ⟨a, p, g, o, ps, qs, h1⟩⟩ := x
  exact ⟨⟨dx, s.kp _ _ e (tb.nott e fun _ z => by cases z)⟩, ⟨a, p, g, o, ps, qs, h1.aft tb s⟩⟩
theorem DkN.same {H H' : Hp} {D kp : Addr} {n : Net} {k : Nat} (x : DkN CDesk CKeeper H D kp n k) (s : Same H H') : DkN CDesk CKeeper H' D kp n k := by
  obtain ⟨⟨dx, e⟩, ⟨a, p, g, o, ps, qs, h1⟩⟩ := x
  exact ⟨⟨dx, s _ _ e⟩, ⟨a, p, g, o, ps, qs, h1.mono fun b u e _ _ => s _ _ e⟩⟩
theorem DkN.of {H : Hp} {D kp a p : Addr} {n : Net} {k : Nat} {g o : Addr} {ps qs : List Addr} (x : DeskAt CDesk CKeeper H D kp a p n k g o ps qs) : DkN CDesk CKeeper H D kp n k := ⟨x.ins, _, _, _, _, _, _, x.keep⟩
theorem KeepAt.aftL {H H' : Hp} {kp a p : Addr} {n : Net} {k : Nat} {g o : Addr} {ps qs : List Addr} (tb : Tabs Ts H) (tl : LamX.TabS H PL lamQ) (s : AftL Ts PL lamQ H H') (x : KeepAt CKeeper H kp a p n k g o ps qs) : KeepAt CKeeper H' kp a p n k g o ps qs := x.mono fun b u e n1 n2 => s.at_ tb tl e n1
theorem DkN.aftL {H H' : Hp} {D kp : Addr} {n : Net} {k : Nat} (x : DkN CDesk CKeeper H D kp n k) (tb : Tabs Ts H) (tl : LamX.TabS H PL lamQ) (s : AftL Ts PL lamQ H H') : DkN CDesk CKeeper H' D kp n k := by
  obtain ⟨⟨dx, e⟩, ⟨a, p, g, o, ps, qs, h1⟩⟩ := x
  exact ⟨⟨dx, s.at_ tb tl e fun _ z => by cases z⟩, ⟨a, p, g, o, ps, qs, h1.aftL tb tl s⟩⟩
theorem DkN.ne {H : Hp} {D kp : Addr} {n : Net} {k : Nat} {D' kp' : Addr} {n' : Net} {k' : Nat} (x : DkN CDesk CKeeper H D kp n k) (y : DkN CDesk CKeeper H D' kp' n' k') : D ≠ kp' := fun z => by
  obtain ⟨dx, e⟩ := x.ins
  obtain ⟨a, p, g, o, ps, qs, h⟩ := y.kp
  obtain ⟨dy, e2⟩ := h.ins
  rw [z, e2] at e
  injection e with e
  injection e with _ _ e
  injection e with e _
  injection e with e _
  exact absurd e (by decide +kernel)
theorem tabsL {H : Hp} (tb : Tabs Ts H) (tl : LamX.TabS H PL lamQ) : Tabs (PL :: Ts) H := fun b hb => by
  rcases List.mem_cons.mp hb with z | z
  · obtain ⟨ps, h, t, _⟩ := tl
    rw [z]
    exact ⟨ps, h, t⟩
  · exact tb b z
theorem wd_aftL {H H' : Hp} {W C : Addr} (wd : Wd H W C) (tb : Tabs Ts H) (tl : LamX.TabS H PL lamQ) (s : AftL Ts PL lamQ H H') : Wd H' W C := wd.keep s.kp (wd.tabW (tabsL tb tl)) (wd.tabC (tabsL tb tl))
theorem wd_doL {H H' : Hp} {W C kp X dx : Addr} {fs : List (Str × V)} (wd : Wd H W C) (tb : Tabs Ts H) (tl : LamX.TabS H PL lamQ) (e : H kp = some (.ins X dx fs)) (m : DoL Ts PL kp H H') : Wd H' W C := by
  obtain ⟨⟨ns, i, j, e1, e2, l⟩, ne⟩ := wd
  exact ⟨⟨ns, i, j, m.lst (C := X) (dx := dx) (fs := fs) tb tl e _ _ e1, m.lst (C := X) (dx := dx) (fs := fs) tb tl e _ _ e2, l⟩, ne⟩
theorem tl_draw {H H' : Hp} {W C : Addr} (wd : Wd H W C) (tl : LamX.TabS H PL lamQ) (s : Wk2 W C H H') : LamX.TabS H' PL lamQ := by
  obtain ⟨ns, i, j, e1, e2, _⟩ := wd.ex
  refine tabS_keep tl s.kp (fun z => ?_) (fun b hb => .inr (.inr ?_))
  · obtain ⟨ps, h, _⟩ := tl
    rcases List.mem_cons.mp z with z | z
    · rw [z, e1] at h; cases h
    · rw [List.mem_singleton.mp z, e2] at h; cases h
  · rcases List.mem_cons.mp hb with z | z
    · rw [z]; exact ⟨_, e1⟩
    · rw [List.mem_singleton.mp z]; exact ⟨_, e2⟩
theorem chgTh_eq {h : Str} {ns : List Nat} : chgTh h (some ns) = if h = "gate" then .tup (.str "more" :: ns.map thN) else if h = "outs" then .tup [.str "outs", .tup (ns.map thN)] else if h = "kind" ∨ h = "lead" ∨ h = "less" then .tup (.str h :: ns.map thN) else .non := rfl
theorem th_more {k a b : Nat} : (Chg.more k a b).th = chgTh "gate" (some [k, a, b]) := by
  rw [chgTh_eq, if_pos rfl]
  rfl
theorem th_outs {os : List Nat} : (Chg.outs os).th = chgTh "outs" (some os) := by
  rw [chgTh_eq, if_neg (by decide +kernel), if_pos rfl]
  rfl
theorem th_kls {h : Str} (hh : h = "kind" ∨ h = "lead" ∨ h = "less") {ns : List Nat} : chgTh h (some ns) = .tup (.str h :: ns.map thN) := by
  have h1 : h ≠ "gate" := by rcases hh with rfl | rfl | rfl <;> decide +kernel
  have h2 : h ≠ "outs" := by rcases hh with rfl | rfl | rfl <;> decide +kernel
  rw [chgTh_eq, if_neg h1, if_neg h2, if_pos hh]
theorem th_kind {g k : Nat} : (Chg.kind g k).th = chgTh "kind" (some [g, k]) := by
  rw [th_kls (.inl rfl)]
  rfl
theorem th_lead {g s x : Nat} : (Chg.lead g s x).th = chgTh "lead" (some [g, s, x]) := by
  rw [th_kls (.inr (.inl rfl))]
  rfl
/-! ### what a desk is said -/
theorem wordsQ_sh {h : Str} (hh : h ∈ wordsQ) : 32 ∉ tl h ∧ (tl h).length ≤ 10 := by
  simp only [wordsQ, List.mem_cons, List.not_mem_nil, or_false] at hh
  rcases hh with rfl | rfl | rfl | rfl | rfl <;> decide +kernel
theorem row_split {h : Str} (hh : h ∈ wordsQ) {ns : List Nat} (hn : ∀ y ∈ ns, y < 100) : Txt.split (rowS (tl h) ns) (Str.ofString " ") = h :: ns.map fun n => mkS (dgs n) := by
  rw [row_words (wordsQ_sh hh).1 hn, ← mkS_eq (x := h) (l := tl h) rfl]
theorem row_nums {ns : List Nat} (hn : ∀ y ∈ ns, y < 100) : numsW ((ns.map fun n => mkS (dgs n)).map tl) = some ns := by
  rw [List.map_map]
  exact nums_100 hn
theorem say_chg {R : Str → Option QRel} {NQ : Str → Prop} {H : Hp} {D kp : Addr} {n : Net} {k : Nat} {h : Str} {ns : List Nat} {ch : Chg} {Q : VK} {E : XK} (X : DkN CDesk CKeeper H D kp n k) (tb : Tabs Ts H) (tl' : LamX.TabS H PL lamQ) (ok : n.Ok) (k2 : 2 ≤ k) (k4 : k ≤ 4) (hh : h ∈ wordsQ) (nq : NQ h) (hl : ns.length ≤ 100) (hn : ∀ y ∈ ns, y < 100) (cok : ch.Ok n) (ec : ch.th = chgTh h (some ns))
    (q : ∀ H', DkN CDesk CKeeper H' D kp (doN n ch) k → DoL Ts PL kp H H' → Q (.str (okS (othL n (doN n ch) k (doN n ch).gates.length))) H') : spSayL Ts PL CDesk CKeeper CNoRow R NQ [.ref D, .str (rowS (tl h) ns)] H Q E := by
  obtain ⟨ins, a, p, g, o, ps, qs, KA⟩ := X
  refine ⟨D, kp, a, p, n, k, g, o, ps, qs, rowS (tl h) ns, h, ns.map fun n => mkS (dgs n), rfl, ⟨ins, KA⟩, ok, k2, k4, Nat.le_trans (Nat.add_le_add_right (row_sl (wordsQ_sh hh).2 hn hl) 4) (by decide), row_split hh hn, by rw [List.length_map]; omega, tb, tl', .inl ⟨nq, fun ch' cok' ec' H' a' p' g' o' ps' qs' DA m => ?_, fun no => absurd ⟨ch, cok, ?_⟩ no⟩⟩
  · rw [row_nums hn] at ec'
    have := th_inj (ec.trans ec'.symm)
    subst this
    exact q H' (DkN.of DA) m
  · rw [row_nums hn]
    exact ec
/-- what the law hears -/
theorem heard_of {sp : Sp} {H : Hp} {D : Addr} {kp : Addr} {n : Net} {k : Nat} {v : V} {Q : VK} {E : XK} (X : DkN CDesk CKeeper H D kp n k) (h : sp [.ref D, v] H Q fun cls d H1 => cls = .ref CNoRow ∧ d = none ∧ ∀ L H2, Same H1 H2 → H2 L = some (.lst [.str "no", .bl true]) → Q (.ref L) H2) : spHeardD sp CDesk CNoRow [.ref D, v] H Q E := by
  obtain ⟨dx, e⟩ := X.ins
  exact ⟨D, v, dx, _, rfl, e, rfl, h⟩
theorem tnil_of {σ : L2.St} {H : Hp} {k : List V → Hp → Prop} (h : k [] H) : tNil σ H k := h
theorem calm_of {sp : Sp} {a b : V} {H : Hp} {Q : VK} {E : XK} (h : sp [a, b] H Q fun _ _ _ => False) : calm sp (a :: ([b] ++ [])) H Q E := h
end
end K80
set_option Elab.async false
set_option linter.all false
set_option maxRecDepth 100000
set_option maxHeartbeats 4000000
namespace K80
open PySem PySem.Spec PyProof.Rows L2 GX
open C8 (Cal pe_c pe_gc Met Mak)
-- @dict CHANGES
-- @no CHANGES 0 ""
-- @no CHANGES 1 "0"
-- @no CHANGES 2 "way"
-- @no CHANGES 3 "Kind"
-- @no CHANGES 4 "leads"
-- @dict QUESTIONS
-- @no QUESTIONS 0 "gate"
-- @no QUESTIONS 1 "kind"
-- @no QUESTIONS 2 "lead"
-- @no QUESTIONS 3 "less"
-- @no QUESTIONS 4 "outs"
-- @exc NoText
-- @exc NoDepth
-- @exc TooMany
-- @exc NoMatch
-- @exc NoChange made
-- @exc NoRow made
-- @sub NoChange NoChange true
-- @sub NoRow NoRow true
-- @sub NoRow ValueError true
-- @sub NoRow NoText false
-- @sub NoRow NoDepth false
-- @sub NoRow TooMany false
-- @sub NoRow NoMatch false
-- @sub NoRow NoChange false
-- @cls Keeper k:i,held:N,kept:t[t[t[i]]]
-- @cls Desk keeper:OKeeper
-- @alt rises list par=l[i]
-- @alt cut_masks tup par=N,t[i],i vars=masks:DL,wire:i
-- @alt one_deeper tup par=t[i],t[i]
-- @alt _law_written tup par=t[i],s
section
variable {Ts : List Addr} {PL CKeeper CDesk CNoRow : Addr}
open TL
/-- the deck and the tables stand; all else but the keeper is kept -/
structure FrL (Ts : List Addr) (PL W C kp : Addr) (H H' : Hp) : Prop where
  wd : Wd H' W C
  tb : Tabs Ts H'
  tl : LamX.TabS H' PL lamQ
  kp : ∀ b u, b ≠ kp → b ≠ W → b ≠ C → b ∉ PL :: Ts → H b = some u → H' b = some u
theorem FrL.refl {W C kp : Addr} {H : Hp} (wd : Wd H W C) (tb : Tabs Ts H) (tl : LamX.TabS H PL lamQ) : FrL Ts PL W C kp H H := ⟨wd, tb, tl, fun _ _ _ _ _ _ e => e⟩
theorem FrL.trans {W C kp : Addr} {H H1 H2 : Hp} (x : FrL Ts PL W C kp H H1) (y : FrL Ts PL W C kp H1 H2) : FrL Ts PL W C kp H H2 := ⟨y.wd, y.tb, y.tl, fun b u n1 n2 n3 n4 e => y.kp b u n1 n2 n3 n4 (x.kp b u n1 n2 n3 n4 e)⟩
theorem FrL.draw {W C kp : Addr} {H H' : Hp} (wd : Wd H W C) (tb : Tabs Ts H) (tl : LamX.TabS H PL lamQ) (s : Wk2 W C H H') : FrL Ts PL W C kp H H' := ⟨s.wl, s.tabs wd tb, tl_draw wd tl s, fun b u _ n2 n3 _ e => s.at_ ⟨n2, n3⟩ e⟩
theorem FrL.aftL {W C kp : Addr} {H H' : Hp} (wd : Wd H W C) (tb : Tabs Ts H) (tl : LamX.TabS H PL lamQ) (s : AftL Ts PL lamQ H H') : FrL Ts PL W C kp H H' := ⟨wd_aftL wd tb tl s, s.tb, s.tl, fun b u _ _ _ n4 e => s.kp b u e n4⟩
theorem FrL.same {W C kp : Addr} {H H' : Hp} (wd : Wd H W C) (tb : Tabs Ts H) (tl : LamX.TabS H PL lamQ) (s : Same H H') : FrL Ts PL W C kp H H' := FrL.aftL wd tb tl (AftL.same s tb tl)
theorem FrL.doL {W C kp X dx : Addr} {fs : List (Str × V)} {H H' : Hp} (wd : Wd H W C) (tb : Tabs Ts H) (tl : LamX.TabS H PL lamQ) (e : H kp = some (.ins X dx fs)) (m : DoL Ts PL kp H H') : FrL Ts PL W C kp H H' := ⟨wd_doL wd tb tl e m, m.tb, m.tl, fun b u n1 _ _ n4 e => m.kp b u n1 n4 e⟩
theorem FrL.obj {W C kp X dx : Addr} {fs : List (Str × V)} {H H' : Hp} (x : FrL Ts PL W C kp H H') (wd : Wd H W C) (tb : Tabs Ts H) (tl : LamX.TabS H PL lamQ) {b : Addr} {u : HO} (e : H b = some u) (n1 : b ≠ kp) (n2 : ∀ ps, u ≠ .tbl ps) (n3 : b ≠ W ∧ b ≠ C) : H' b = some u := x.kp b u n1 n3.1 n3.2 (fun z => by
  rcases List.mem_cons.mp z with z | z
  · obtain ⟨ps, h, _⟩ := tl
    rw [z, h] at e
    exact n2 _ (Option.some.inj e).symm
  · exact tb.nott e n2 z) e
theorem FrL.tup {W C kp X dx : Addr} {fs : List (Str × V)} {H H' : Hp} (x : FrL Ts PL W C kp H H') (wd : Wd H W C) (tb : Tabs Ts H) (tl : LamX.TabS H PL lamQ) (e : H kp = some (.ins X dx fs)) : ∀ b xs, H b = some (.tup xs) → H' b = some (.tup xs) := fun b xs eb => by
  obtain ⟨ns, i, j, e1, e2, _⟩ := wd.ex
  exact x.obj (X := X) (dx := dx) (fs := fs) wd tb tl eb (fun z => by rw [z, e] at eb; cases eb) (fun _ z => by cases z) ⟨fun z => (by rw [z, e1] at eb; cases eb), fun z => by rw [z, e2] at eb; cases eb⟩
theorem FrL.lst {W C kp X dx : Addr} {fs : List (Str × V)} {H H' : Hp} (x : FrL Ts PL W C kp H H') (wd : Wd H W C) (tb : Tabs Ts H) (tl : LamX.TabS H PL lamQ) (e : H kp = some (.ins X dx fs)) {b : Addr} {xs : List V} (eb : H b = some (.lst xs)) (n : b ≠ W ∧ b ≠ C) : H' b = some (.lst xs) :=
  x.obj (X := X) (dx := dx) (fs := fs) wd tb tl eb (fun z => by rw [z, e] at eb; cases eb) (fun _ z => by cases z) n
end
section
variable {P : Program} {w : World} {K : PySem.W.Frag} {mg : Str → Option Value} {base : Heap} {Ts : List Addr} {PL CKeeper CDesk CNoRow : Addr}
open TL
def spGrown (Ts : List Addr) (PL CD CK : Addr) : Sp := fun vs H Q _ => ∃ (W C D kp : Addr) (n : Net) (k tn m : Nat), vs = [.ref W, .ref D, nV tn, nV m] ∧ Wd H W C ∧ Tabs Ts H ∧ LamX.TabS H PL lamQ ∧ DkN CD CK H D kp n k ∧ n.Ok ∧ 2 ≤ k ∧ k ≤ 4 ∧ m ≤ 16 ∧ tn ≤ 100 ∧
  ∀ H' (n' : Net) (a g o : Addr) (ps : List Addr), FrL Ts PL W C kp H H' → DkN CD CK H' D kp n' k → n'.Ok → n'.many = n.many → NetAt H' a n' g o ps → Q (.ref a) H'
theorem doN_many {n : Net} {c : Chg} : (doN n c).many = n.many := by cases c <;> rfl
theorem ok_grown {lv : Nat} {R : Str → Option QRel} {NQ : Str → Prop} {f c : Addr} (nq : ∀ h ∈ wordsQ, NQ h) (D : Dfn K mg "_law_grown" s__law_grown f c) (T : Txt mg) (c__law_change : Cal P w K mg base 3 "_law_change" spLChD []) (m_Desk_net : Met P w K mg base 2 CDesk "net" (spDNet CDesk CKeeper) []) (n_Desk_say : Met P w K mg base (lv + 10) CDesk "say" (calm (spSayL Ts PL CDesk CKeeper CNoRow R NQ)) []) : Cal P w K mg base (lv + 11) "_law_grown" (spGrown Ts PL CDesk CKeeper) [] := by
  refine cal D (fun _ _ _ _ _ _ us hl => match us, hl with | [_, _, _, _], _ => rfl) sc__law_grown (fun vs H Q E h => ?_) (fun A outer s H vs Q E hr h => ?_)
  · obtain ⟨W, C, D, kp, n, k, tn, m, rfl, _⟩ := h
    rfl
  · obtain ⟨W, C, Da, kp, n, k, tn, m, rfl, wd, tb, tl0, X, ok, k2, k4, m16, tnb, q⟩ := h
    refine ⟨_, (pss_cons (ps_for PassesOwn.never rfl (pi_range1 (by rfl) T.b_range (pa_cons (pv 2) pa_nil)) (pg_name (i := 4) sc__law_grown.nd rfl (by first | exact Or.inl rfl | exact Or.inr rfl))
        (pss_cons (ps_asg (pe_c c__law_change hr (by omega) (by rfl) (pa_cons (pv 0) (pa_cons (C8.pe_mt0 m_Desk_net hr (by omega) (pv 1)) (pa_cons (pv 3) pa_nil)))) (pg_tup rfl (pgs_cons (pg_name (i := 5) sc__law_grown.nd rfl (by first | exact Or.inl rfl | exact Or.inr rfl)) (pgs_cons (pg_name (i := 6) sc__law_grown.nd rfl (by first | exact Or.inl rfl | exact Or.inr rfl)) pgs_nil))))
      (pss_one (ps_if (pt_cmpR op_notN (pv 6) pe_non (nomark _)) (pss_one (ps_expr (C8.pe_mt n_Desk_say hr (by omega) (pv 1) (pa_cons (pv 5) pa_nil)))) pss_nil))))
      (pss_one (ps_ret (C8.pe_mt0 m_Desk_net hr (by omega) (pv 1))))), ?_⟩
    clear hr
    refine ⟨_, rfl, _, rfl, by omega, by omega, ?_⟩
    refine for_range (lo := 0) (fun i σ H' => ∃ (n' : Net) (x4 x5 x6 : Option V), σ = [some (.ref W), some (.ref Da), some (nV tn), some (nV m), x4, x5, x6] ∧ FrL Ts PL W C kp H H' ∧ DkN CDesk CKeeper H' Da kp n' k ∧ n'.Ok ∧ n'.many = n.many) ⟨n, _, _, _, rfl, FrL.refl wd tb tl0, X, ok, rfl⟩ ?_ ?_
    · rintro i σ H1 hi ⟨n1, x4, x5, x6, rfl, F1, X1, ok1, em1⟩
      obtain ⟨⟨dD, eD⟩, a1, p1, g1, o1, ps1, qs1, K1⟩ := X1
      have X1 : DkN CDesk CKeeper H1 Da kp n1 k := ⟨⟨dD, eD⟩, a1, p1, g1, o1, ps1, qs1, K1⟩
      refine ⟨_, rfl, _, rfl, Da, dD, _, rfl, eD, rfl, Da, kp, a1, p1, n1, k, g1, o1, ps1, qs1, rfl, ⟨⟨dD, eD⟩, K1⟩, _, rfl, W, C, a1, n1, g1, o1, ps1, m, rfl, F1.wd, K1.net, ok1, m16, fun p H2 x v w2 hp row => ?_⟩
      have F2 := F1.trans (FrL.draw F1.wd F1.tb F1.tl w2)
      have X2 := X1.draw F1.wd w2
      clear X1 F1 w2
      refine ⟨p, _, rfl, SqT.of hp, rfl, _, _, rfl, _, _, rfl, rfl, ?_⟩
      obtain ⟨hd, rs, rfl, hh, hl, hn, alt⟩ := row
      rcases alt with ⟨rfl, nch⟩ | ⟨ch, cok, ec, an, g', o', ps', rfl, N'⟩
      · refine ⟨_, rfl, rfl, _, rfl, iteF ?_⟩
        exact ⟨n1, _, _, _, rfl, F2, X2, ok1, em1⟩
      · refine ⟨_, rfl, rfl, _, rfl, iteT ?_⟩
        obtain ⟨dD2, eD2⟩ := X2.ins
        refine ⟨_, rfl, Da, dD2, _, rfl, eD2, rfl, _, rfl, ?_⟩
        obtain ⟨dk, fk, ek⟩ := X2.kins
        refine tnil_of ?_
        refine calm_of ?_
        refine say_chg X2 F2.tb F2.tl ok1 k2 k4 hh (nq _ hh) (by omega) hn cok ec fun H3 X3 d3 => ?_
        exact ⟨doN n1 ch, _, _, _, rfl, F2.trans (FrL.doL F2.wd F2.tb F2.tl ek d3), X3, doN_ok ok1 cok, doN_many.trans em1⟩
    · rintro σ H1 ⟨n1, x4, x5, x6, rfl, F1, X1, ok1, em1⟩
      obtain ⟨⟨dD, eD⟩, a1, p1, g1, o1, ps1, qs1, K1⟩ := X1
      exact ⟨_, rfl, Da, dD, _, rfl, eD, rfl, Da, kp, a1, p1, n1, k, g1, o1, ps1, qs1, rfl, ⟨⟨dD, eD⟩, K1⟩, q H1 n1 a1 g1 o1 ps1 F1 ⟨⟨dD, eD⟩, a1, p1, g1, o1, ps1, qs1, K1⟩ ok1 em1 K1.net⟩
end
section
variable {P : Program} {w : World} {K : PySem.W.Frag} {mg : Str → Option Value} {base : Heap} {Ts : List Addr} {PL CKeeper CDesk CNoRow : Addr}
open TL
def spFilled (Ts : List Addr) (PL CD CK : Addr) : Sp := fun vs H Q _ => ∃ (W C D kp : Addr) (n : Net) (k m : Nat), vs = [.ref W, .ref D, nV m] ∧ Wd H W C ∧ Tabs Ts H ∧ LamX.TabS H PL lamQ ∧ DkN CD CK H D kp n k ∧ n.Ok ∧ 2 ≤ k ∧ k ≤ 4 ∧ m ≤ 16 ∧
  ∀ H' (n' : Net) (a g o : Addr) (ps : List Addr), FrL Ts PL W C kp H H' → DkN CD CK H' D kp n' k → n'.Ok → n'.many = n.many → m ≤ n'.gates.length → NetAt H' a n' g o ps → Q (.ref a) H'
def gl4 (σ : L2.St) (H : Hp) : Nat := 16 - (match ((σ[4]? : Option (Option V))) with
  | some (some (V.ref g)) => (match H g with | some (.tup xs) => xs.length | _ => 0)
  | _ => 0)
theorem gl4_eq {σ : L2.St} {H : Hp} {g : Addr} {xs : List V} (h : σ[4]? = some (some (V.ref g))) (e : H g = some (.tup xs)) : gl4 σ H = 16 - xs.length := by
  unfold gl4
  rw [h]
  dsimp only
  rw [e]
theorem ok_filled {lv : Nat} {R : Str → Option QRel} {NQ : Str → Prop} {f c : Addr} (nq : ∀ h ∈ wordsQ, NQ h) (D : Dfn K mg "_law_filled" s__law_filled f c) (T : Txt mg) (c__law_draw : Cal P w K mg base 2 "_law_draw" spDraw []) (m_Desk_net : Met P w K mg base 2 CDesk "net" (spDNet CDesk CKeeper) []) (n_Desk_say : Met P w K mg base (lv + 10) CDesk "say" (calm (spSayL Ts PL CDesk CKeeper CNoRow R NQ)) []) : Cal P w K mg base (lv + 11) "_law_filled" (spFilled Ts PL CDesk CKeeper) [] := by
  refine cal D (fun _ _ _ _ _ _ us hl => match us, hl with | [_, _, _], _ => rfl) sc__law_filled (fun vs H Q E h => ?_) (fun A outer s H vs Q E hr h => ?_)
  · obtain ⟨W, C, D, kp, n, k, m, rfl, _⟩ := h
    rfl
  · obtain ⟨W, C, Da, kp, n, k, m, rfl, wd, tb, tl0, X, ok, k2, k4, m16, q⟩ := h
    refine ⟨_, (pss_cons (ps_asg (C8.pe_mt0 m_Desk_net hr (by omega) (pv 1)) (pg_tup rfl (pgs_cons (pg_name (i := 3) sc__law_filled.nd rfl (by first | exact Or.inl rfl | exact Or.inr rfl)) (pgs_cons (pg_name (i := 4) sc__law_filled.nd rfl (by first | exact Or.inl rfl | exact Or.inr rfl)) (pgs_cons (pg_name (i := 5) sc__law_filled.nd rfl (by first | exact Or.inl rfl | exact Or.inr rfl)) pgs_nil)))))
      (pss_cons (ps_while PassesOwn.never (pt_cmpR op_lt (pe_callB call_len_seq (by rfl) T.b_len (by decide +kernel) (pa_cons (pv 4) pa_nil)) (pv 2) (nomark _)) (pss_cons (ps_set (i := 6) sc__law_filled.nd rfl (by first | exact Or.inl rfl | exact Or.inr rfl) (pe_op op_add (pv 3) (pe_callB call_len_seq (by rfl) T.b_len (by decide +kernel) (pa_cons (pv 4) pa_nil))))
      (pss_cons (ps_set (i := 7) sc__law_filled.nd rfl (by first | exact Or.inl rfl | exact Or.inr rfl) (pe_tup (pa_cons (pe_c c__law_draw hr (by omega) (by rfl) (pa_cons (pv 0) (pa_cons pe_int pa_nil))) (pa_cons (pe_c c__law_draw hr (by omega) (by rfl) (pa_cons (pv 0) (pa_cons (pv 6) pa_nil))) (pa_cons (pe_c c__law_draw hr (by omega) (by rfl) (pa_cons (pv 0) (pa_cons (pv 6) pa_nil))) pa_nil)))))
      (pss_cons (ps_expr (C8.pe_mt n_Desk_say hr (by omega) (pv 1) (pa_cons (pe_op op_add_str pe_str (pe_join pe_str (pe_lc (own := [("_law_word", 8)]) (g := gName 8) (tt := tYes) rfl sc__law_filled.nd (pi_tup (pv 7)) (blkOk_by (own := [("_law_word", 8)]) (N := ["_law_deck_here", "_law_desk", "_law_most", "_law_many", "_law_gates", "_law_outs", "_law_wires_here", "_law_gate", "_law_word"]) (sc := defScope s__law_filled) (by decide +kernel)) (fun _ _ _ _ _ => (pg_name (i := 8) sc__law_filled.nd rfl (by first | exact Or.inl rfl | exact Or.inr rfl))) (fun _ _ _ _ _ => pts_nil) (fun _ _ _ _ _ => (pe_callTy call_str_int (by rfl) T.b_str (by decide +kernel) (pa_cons (pv 8) pa_nil)))))) pa_nil)))
      (pss_one (ps_set (i := 4) sc__law_filled.nd rfl (by first | exact Or.inl rfl | exact Or.inr rfl) (pe_op op_catA (pv 4) (pe_tup (pa_cons (pv 7) pa_nil)))))))))
      (pss_one (ps_ret (pe_tup (pa_cons (pv 3) (pa_cons (pv 4) (pa_cons (pv 5) pa_nil)))))))), ?_⟩
    clear hr
    obtain ⟨⟨dD, eD⟩, a1, p1, g1, o1, ps1, qs1, K1⟩ := X
    have X : DkN CDesk CKeeper H Da kp n k := ⟨⟨dD, eD⟩, a1, p1, g1, o1, ps1, qs1, K1⟩
    refine ⟨_, rfl, Da, dD, _, rfl, eD, rfl, Da, kp, a1, p1, n, k, g1, o1, ps1, qs1, rfl, ⟨⟨dD, eD⟩, K1⟩, ?_⟩
    have N := K1.net
    refine ⟨a1, _, rfl, SqT.of N.top, rfl, _, _, rfl, _, _, rfl, _, _, rfl, rfl, ?_⟩
    refine while_at (fun σ H' => ∃ (n' : Net) (g : Addr) (ps : List Addr) (x6 x7 x8 : Option V), σ = [some (.ref W), some (.ref Da), some (nV m), some (nV n.many), some (.ref g), some (.ref o1), x6, x7, x8] ∧ FrL Ts PL W C kp H H' ∧ DkN CDesk CKeeper H' Da kp n' k ∧ n'.Ok ∧ n'.many = n.many ∧ n'.outs = n.outs ∧ H' g = some (.tup (ps.map V.ref)) ∧ GatesAt H' ps n'.gates ∧ H' o1 = some (.tup (n.outs.map nV))) gl4 ⟨n, g1, ps1, _, _, _, rfl, FrL.refl wd tb tl0, X, ok, rfl, rfl, N.gt, N.gs, N.ot⟩ ?_
    clear K1 X N
    rintro σ H1 ⟨n1, g, ps, x6, x7, x8, rfl, F1, X1, ok1, em, eo, hg, G1, ho⟩
    have gl : ps.length = n1.gates.length := G1.1
    have g16 := ok1.g16
    have m8 := ok1.m8
    have m1 := ok1.m1
    refine ⟨_, rfl, g, _, rfl, .inr (SqT.of hg), _, rfl, _, _, rfl, rfl, _, rfl, ite2 (fun hl => ?_) (fun hl => ?_)⟩
    · have hl : n1.gates.length < m := by
        have := of_decide_eq_true hl
        rw [List.length_map, gl] at this
        omega
      refine ⟨_, whN, ?_⟩
      refine ⟨_, rfl, _, rfl, g, _, rfl, .inr (SqT.of hg), _, _, rfl, rfl, ?_⟩
      have ew : V.int (((n.many : Nat) : Int) + (((ps.map V.ref).length : Nat) : Int)) = nV (n1.many + n1.gates.length) := congrArg V.int (by rw [List.length_map, gl, em]; omega)
      dsimp -proj only
      rw [ew]
      refine ⟨_, rfl, W, C, 16, rfl, F1.wd, by decide, by decide, fun kd H2 a0 a1 w2 => ?_⟩
      obtain ⟨kd, rfl⟩ := Int.eq_ofNat_of_zero_le a0
      refine ⟨_, rfl, _, rfl, W, C, ((n1.many + n1.gates.length : Nat) : Int), rfl, w2.wl, by omega, by omega, fun x H3 b0 b1 w3 => ?_⟩
      obtain ⟨x, rfl⟩ := Int.eq_ofNat_of_zero_le b0
      refine ⟨_, rfl, _, rfl, W, C, ((n1.many + n1.gates.length : Nat) : Int), rfl, w3.wl, by omega, by omega, fun y H4 c0 c1 w4 => ?_⟩
      obtain ⟨y, rfl⟩ := Int.eq_ofNat_of_zero_le c0
      have w14 := (w2.nxt w3).nxt w4
      have kd16 : kd < 16 := by omega
      have xl : x < n1.many + n1.gates.length := by omega
      have yl : y < n1.many + n1.gates.length := by omega
      refine ⟨small 3, fun t nt => ?_⟩
      have s5 := Same.new (o := .tup ([kd, x, y].map nV)) nt
      have F5 := F1.trans ((FrL.draw F1.wd F1.tb F1.tl w14).trans (FrL.same w14.wl (w14.tabs F1.wd F1.tb) (tl_draw F1.wd F1.tl w14) s5))
      have X5 := (X1.draw F1.wd w14).same s5
      have t15 : ∀ b xs, H1 b = some (.tup xs) → upd H4 t (.tup ([kd, x, y].map nV)) b = some (.tup xs) := fun b xs e => s5 _ _ (F1.wd.tup w14 e)
      have ht : upd H4 t (.tup ([kd, x, y].map nV)) t = some (.tup ([kd, x, y].map nV)) := upd_same
      show gName _ _ _ (upd H4 t (.tup ([kd, x, y].map nV))) _
      generalize upd H4 t (.tup ([kd, x, y].map nV)) = H5 at F5 X5 t15 ht ⊢
      obtain ⟨dD5, eD5⟩ := X5.ins
      refine ⟨_, rfl, Da, dD5, _, rfl, eD5, rfl, ⟨_, rfl⟩, _, rfl, t, rfl, ⟨_, SqT.of ht⟩, fun M2 nM2 => ?_⟩
      have cb : ∀ z ∈ [kd, x, y], z < 100 := fun z hz => by
        simp only [List.mem_cons, List.not_mem_nil, or_false] at hz
        omega
      refine lc_tup (K := K) (a := t) (xs := [kd, x, y].map nV) (fun i H' => Own H5 H' M2 ((([kd, x, y].take i).map nS).map V.str)) ⟨Same.new nM2, upd_same, nM2⟩ (fun i H' _ o' => SqT.of (o'.sm _ _ ht)) ?_ ?_
      · rintro i z H6 hz o6
        rw [List.getElem?_map] at hz
        obtain ⟨z, hzz, rfl⟩ := Option.map_eq_some_iff.mp hz
        have hi := (List.getElem?_eq_some_iff.mp hzz).1
        have hi : i < 3 := hi
        refine ⟨rfl, ?_⟩
        unfold tYes
        refine iteT ?_
        refine ⟨_, rfl, _, rfl, lg100 z (cb z (List.mem_of_getElem? hzz)), _, o6.at_, by rw [List.length_map, List.length_map, List.length_take]; exact small256 (by omega), ?_⟩
        rw [List.take_add_one, hzz, List.map_append, List.map_append]
        exact o6.app
      rintro H6 o6
      rw [List.length_map, List.take_length] at o6
      obtain ⟨f1, f2⟩ := nS_fit cb (b := 3) (Nat.le_refl _) (by decide)
      refine ⟨_, M2, [kd, x, y].map nS, rfl, rfl, .inl (SqL.of o6.at_), f1, _, _, rfl, rfl, ?_, ?_⟩
      · have : (Str.ofString "gate ").length ≤ 5 := by decide +kernel
        have : (3005 : Nat) ≤ sizeLine := by decide
        omega
      rw [textL (h := "gate") (by decide +kernel) (by simp)]
      refine tnil_of ?_
      refine calm_of ?_
      have F6 := F5.trans (FrL.same F5.wd F5.tb F5.tl o6.sm)
      have X6 := X5.same o6.sm
      have t16 : ∀ b xs, H1 b = some (.tup xs) → H6 b = some (.tup xs) := fun b xs e => o6.sm _ _ (t15 b xs e)
      have ht6 := o6.sm _ _ ht
      obtain ⟨dk, fk, ek⟩ := X6.kins
      have cok : (Chg.more kd x y).Ok n1 := ⟨by omega, kd16, xl, yl⟩
      refine say_chg X6 F6.tb F6.tl ok1 k2 k4 (h := "gate") (ch := .more kd x y) (by decide +kernel) (nq _ (by decide +kernel)) (by show 3 ≤ 100; decide) cb cok th_more fun H7 X7 d7 => ?_
      have F7 := F6.trans (FrL.doL F6.wd F6.tb F6.tl ek d7)
      have t17 : ∀ b xs, H1 b = some (.tup xs) → H7 b = some (.tup xs) := fun b xs e => d7.tup (C := CKeeper) (dx := dk) (fs := fk) F6.tb F6.tl ek _ _ (t16 b xs e)
      have ht7 := d7.tup (C := CKeeper) (dx := dk) (fs := fk) F6.tb F6.tl ek _ _ ht6
      refine ⟨_, rfl, _, rfl, small 1, fun t1 nt1 => ?_⟩
      have s8 := Same.new (o := .tup [V.ref t]) nt1
      refine catA (s8 _ _ (t17 _ _ hg)) upd_same (by rw [List.length_map, gl]; exact Nat.le_trans (show _ ≤ 17 by show _ + 1 ≤ 17; omega) (small 17)) fun r H9 s9 hr => ?_
      have s79 := s8.trans s9
      refine ⟨⟨doN n1 (.more kd x y), r, ps ++ [t], _, _, _, rfl, F7.trans (FrL.same F7.wd F7.tb F7.tl s79), X7.same s79, doN_ok ok1 cok, em, eo, by rw [hr, List.map_append]; rfl, GatesAt.push (G1.mono fun b xs e => s79 _ _ (t17 b xs e)) (s79 _ _ ht7), s79 _ _ (t17 _ _ ho)⟩, ?_⟩
      rw [gl4_eq rfl hr, gl4_eq rfl hg, List.length_append, List.length_map, gl]
      show 16 - (_ + 1) < _
      omega
    · have hl : ¬ n1.gates.length < m := fun z => hl (decide_eq_true (by rw [List.length_map, gl]; omega))
      refine ⟨_, rfl, _, rfl, _, rfl, small 3, fun a' na => ?_⟩
      have s2 := Same.new (o := .tup [nV n.many, V.ref g, V.ref o1]) na
      refine q _ n1 a' g o1 ps (F1.trans (FrL.same F1.wd F1.tb F1.tl s2)) (X1.same s2) ok1 em (by omega) ⟨?_, s2 _ _ hg, G1.mono fun b xs e => s2 _ _ e, s2 _ _ (by rw [eo]; exact ho)⟩
      rw [em]
      exact upd_same
end
end K80
set_option Elab.async false
set_option linter.all false
set_option maxRecDepth 100000
set_option maxHeartbeats 4000000
namespace K80
open PySem PySem.Spec PyProof.Rows L2 GX
open C8 (Cal pe_c pe_gc Met Mak)
open TL
-- @dict CHANGES
-- @no CHANGES 0 ""
-- @no CHANGES 1 "0"
-- @no CHANGES 2 "way"
-- @no CHANGES 3 "Kind"
-- @no CHANGES 4 "leads"
-- @dict QUESTIONS
-- @no QUESTIONS 0 "gate"
-- @no QUESTIONS 1 "kind"
-- @no QUESTIONS 2 "lead"
-- @no QUESTIONS 3 "less"
-- @no QUESTIONS 4 "outs"
-- @exc NoText
-- @exc NoDepth
-- @exc TooMany
-- @exc NoMatch
-- @exc NoChange made
-- @exc NoRow made
-- @sub NoChange NoChange true
-- @sub NoRow NoRow true
-- @sub NoRow ValueError true
-- @sub NoRow NoText false
-- @sub NoRow NoDepth false
-- @sub NoRow TooMany false
-- @sub NoRow NoMatch false
-- @sub NoRow NoChange false
-- @cls Keeper k:i,held:N,kept:t[t[t[i]]]
-- @cls Desk keeper:OKeeper
-- @alt rises list par=l[i]
-- @alt cut_masks tup par=N,t[i],i vars=masks:DL,wire:i
-- @alt one_deeper tup par=t[i],t[i]
-- @alt _law_written tup par=t[i],s
section
variable {P : Program} {w : World} {K : PySem.W.Frag} {mg : Str → Option Value} {base : Heap} {Ts : List Addr} {PL CKeeper CDesk CNoRow : Addr}
open TL
def spLed (Ts : List Addr) (PL CD CK : Addr) : Sp := fun vs H Q _ => ∃ (W C D kp a : Addr) (n : Net) (k : Nat) (g o : Addr) (ps : List Addr), vs = [.ref W, .ref D, .ref a] ∧ Wd H W C ∧ Tabs Ts H ∧ LamX.TabS H PL lamQ ∧ DkN CD CK H D kp n k ∧ NetAt H a n g o ps ∧ n.Ok ∧ 2 ≤ k ∧ k ≤ 4 ∧
  ∀ H' (n' : Net) (a' g' o' : Addr) (ps' : List Addr), FrL Ts PL W C kp H H' → DkN CD CK H' D kp n' k → n'.Ok → n'.many = n.many → n'.gates.length = n.gates.length → NetAt H' a' n' g' o' ps' → Q (.ref a') H'
theorem old_at {H : Hp} {a : Addr} {n : Net} {g o : Addr} {ps : List Addr} (N : NetAt H a n g o ps) {at_ : Nat} (hlt : at_ < n.gates.length) : ∃ p', (ps.map V.ref)[at_]? = some (.ref p') ∧ H p' = some (.tup (gV (oldG n (n.many + at_)))) := by
  have hpl := N.gs.1
  refine ⟨ps[at_], by rw [List.getElem?_map, List.getElem?_eq_getElem (by omega)]; rfl, N.gs.2 at_ _ _ (List.getElem?_eq_getElem (by omega)) ?_⟩
  unfold oldG
  rw [show n.many + at_ - n.many = at_ by omega, List.getD_eq_getElem?_getD, List.getElem?_eq_getElem hlt]
  rfl
theorem ok_led {lv : Nat} {R : Str → Option QRel} {NQ : Str → Prop} {f c : Addr} (nq : ∀ h ∈ wordsQ, NQ h) (D : Dfn K mg "_law_led" s__law_led f c) (T : Txt mg) (c__law_draw : Cal P w K mg base 2 "_law_draw" spDraw []) (c__law_put_in : Cal P w K mg base 1 "_law_put_in" spPutIn []) (n_Desk_say : Met P w K mg base (lv + 10) CDesk "say" (calm (spSayL Ts PL CDesk CKeeper CNoRow R NQ)) []) : Cal P w K mg base (lv + 11) "_law_led" (spLed Ts PL CDesk CKeeper) [] := by
  refine cal D (fun _ _ _ _ _ _ us hl => match us, hl with | [_, _, _], _ => rfl) sc__law_led (fun vs H Q E h => ?_) (fun A outer s H vs Q E hr h => ?_)
  · obtain ⟨W, C, D, kp, a, n, k, g, o, ps, rfl, _⟩ := h
    rfl
  · obtain ⟨W, C, Da, kp, a, n, k, g, o, ps, rfl, wd, tb, tl0, X, N, ok, k2, k4, q⟩ := h
    refine ⟨_, (pss_cons (ps_asg (pv 2) (pg_tup rfl (pgs_cons (pg_name (i := 3) sc__law_led.nd rfl (by first | exact Or.inl rfl | exact Or.inr rfl)) (pgs_cons (pg_name (i := 4) sc__law_led.nd rfl (by first | exact Or.inl rfl | exact Or.inr rfl)) (pgs_cons (pg_name (i := 5) sc__law_led.nd rfl (by first | exact Or.inl rfl | exact Or.inr rfl)) pgs_nil)))))
      (pss_cons (ps_if (pt_cmpR (op_eq0 hr.units0) (pv 4) (pe_tup pa_nil) (nomark _)) (pss_one (ps_ret (pv 2))) pss_nil)
      (pss_cons (ps_set (i := 6) sc__law_led.nd rfl (by first | exact Or.inl rfl | exact Or.inr rfl) (pe_c c__law_draw hr (by omega) (by rfl) (pa_cons (pv 0) (pa_cons (pe_callB call_len_seq (by rfl) T.b_len (by decide +kernel) (pa_cons (pv 4) pa_nil)) pa_nil))))
      (pss_cons (ps_set (i := 7) sc__law_led.nd rfl (by first | exact Or.inl rfl | exact Or.inr rfl) (pe_c c__law_draw hr (by omega) (by rfl) (pa_cons (pv 0) (pa_cons pe_int pa_nil))))
      (pss_cons (ps_set (i := 8) sc__law_led.nd rfl (by first | exact Or.inl rfl | exact Or.inr rfl) (pe_c c__law_draw hr (by omega) (by rfl) (pa_cons (pv 0) (pa_cons (pe_op op_add (pv 3) (pv 6)) pa_nil))))
      (pss_cons (ps_expr (C8.pe_mt n_Desk_say hr (by omega) (pv 1) (pa_cons (pe_op op_add_str (pe_op op_add_str (pe_op op_add_str (pe_op op_add_str (pe_op op_add_str pe_str (pe_callTy call_str_int (by rfl) T.b_str (by decide +kernel) (pa_cons (pe_op op_add (pv 3) (pv 6)) pa_nil))) pe_str) (pe_callTy call_str_int (by rfl) T.b_str (by decide +kernel) (pa_cons (pv 7) pa_nil))) pe_str) (pe_callTy call_str_int (by rfl) T.b_str (by decide +kernel) (pa_cons (pv 8) pa_nil))) pa_nil)))
      (pss_one (ps_ret (pe_tup (pa_cons (pv 3) (pa_cons (pe_c c__law_put_in hr (by omega) (by rfl) (pa_cons (pv 4) (pa_cons (pv 6) (pa_cons (pe_c c__law_put_in hr (by omega) (by rfl) (pa_cons (pe_ix ix_tup (pv 4) (pv 6) (fun _ _ => rfl)) (pa_cons (pe_op op_add pe_int (pv 7)) (pa_cons (pv 8) pa_nil)))) pa_nil)))) (pa_cons (pv 5) pa_nil)))))))))))), ?_⟩
    clear hr
    have m8 := ok.m8
    have m1 := ok.m1
    have g16 := ok.g16
    have gl : (ps.map V.ref).length = n.gates.length := by rw [List.length_map, N.gs.1]
    refine ⟨_, rfl, a, _, rfl, SqT.of N.top, rfl, _, _, rfl, _, _, rfl, _, _, rfl, rfl, ?_⟩
    refine ⟨_, rfl, small 0, fun z nz => ?_⟩
    have s1 := Same.new (o := .tup []) nz
    have hz : upd H z (.tup []) z = some (.tup []) := upd_same
    generalize upd H z (.tup []) = H1 at s1 hz ⊢
    have F1 := FrL.same (kp := kp) wd tb tl0 s1
    have X1 := X.same s1
    have N1 := N.same s1
    refine ⟨g, z, _, rfl, rfl, .inl ⟨SqT.of N1.gt, SqT.of hz⟩, _, rfl, ite2 (fun d1 => ?_) (fun d1 => ?_)⟩
    · exact ⟨_, rfl, q H1 n a g o ps F1 X1 ok rfl rfl N1⟩
    have gp : 0 < n.gates.length := by
      refine Nat.pos_of_ne_zero fun z => d1 (decide_eq_true ?_)
      rw [gl]
      exact z
    refine ⟨_, rfl, _, rfl, g, _, rfl, .inr (SqT.of N1.gt), W, C, _, rfl, F1.wd, by rw [gl]; omega, by rw [gl]; omega, fun d H2 e0 e1 w2 => ?_⟩
    obtain ⟨at_, rfl⟩ := Int.eq_ofNat_of_zero_le e0
    have hlt : at_ < n.gates.length := by rw [gl] at e1; omega
    refine ⟨_, rfl, W, C, 2, rfl, w2.wl, by decide, by decide, fun sd H3 sd0 sd1 w3 => ?_⟩
    obtain ⟨sd, rfl⟩ := Int.eq_ofNat_of_zero_le sd0
    have sd2 : sd < 2 := by omega
    have eka : ((n.many : Nat) : Int) + ((at_ : Nat) : Int) = ((n.many + at_ : Nat) : Int) := by omega
    refine ⟨_, rfl, _, rfl, _, rfl, _, _, rfl, rfl, W, C, ((n.many + at_ : Nat) : Int), congrArg (fun z => [V.ref W, V.int z]) eka, w3.wl, by omega, by omega, fun one H4 f0 f1 w4 => ?_⟩
    obtain ⟨one, rfl⟩ := Int.eq_ofNat_of_zero_le f0
    have one_lt : one < n.many + at_ := by omega
    have w14 := (w2.nxt w3).nxt w4
    have F4 := F1.trans (FrL.draw F1.wd F1.tb F1.tl w14)
    have X4 := X1.draw F1.wd w14
    have N4 := N1.mono fun b xs e => F1.wd.tup w14 e
    clear w2 w3 w4 w14 F1 X1 N1 s1 hz nz d1 e0 e1 sd0 sd1 f0 f1 X N wd tb tl0
    obtain ⟨dD, eD⟩ := X4.ins
    have l0 : (Str.ofString "lead ").length ≤ 5 := by decide +kernel
    have lb : (Str.ofString " ").length ≤ 1 := by decide +kernel
    have l1 : (Str.ofString (toString ((n.many + at_ : Nat) : Int))).length ≤ 2 := nS_len (by omega)
    have l2 : (Str.ofString (toString ((sd : Nat) : Int))).length ≤ 2 := nS_len (by omega)
    have l3 : (Str.ofString (toString ((one : Nat) : Int))).length ≤ 2 := nS_len (by omega)
    have lz : (100 : Nat) ≤ sizeLine := by decide
    refine ⟨_, rfl, Da, dD, _, rfl, eD, rfl, ?_⟩
    refine ⟨_, rfl, _, rfl, _, _, rfl, rfl, ((n.many + at_ : Nat) : Int), congrArg (fun z => [V.int z]) eka, lg100 (n.many + at_) (by omega), _, _, rfl, rfl, by omega, _, _, rfl, rfl, by rw [app_len]; omega, _, rfl, _, rfl, lg100 sd (by omega), _, _, rfl, rfl, by rw [app_len, app_len]; omega, _, _, rfl, rfl, by rw [app_len, app_len, app_len]; omega, _, rfl, _, rfl, lg100 one (by omega), _, _, rfl, rfl, by rw [app_len, app_len, app_len, app_len]; omega, ?_⟩
    rw [text3 (h := "lead") (by decide +kernel)]
    refine tnil_of ?_
    refine calm_of ?_
    have cok : (Chg.lead (n.many + at_) sd one).Ok n := ⟨by omega, by omega, by omega, by omega⟩
    refine say_chg X4 F4.tb F4.tl ok k2 k4 (h := "lead") (ch := .lead (n.many + at_) sd one) (by decide +kernel) (nq _ (by decide +kernel)) (by show 3 ≤ 100; decide) (fun y hy => ?_) cok th_lead fun H5 X5 d5 => ?_
    · simp only [List.mem_cons, List.not_mem_nil, or_false] at hy
      omega
    obtain ⟨dk, fk, ek⟩ := X4.kins
    have F5 := F4.trans (FrL.doL F4.wd F4.tb F4.tl ek d5)
    have N5 := N4.mono (d5.tup (C := CKeeper) (dx := dk) (fs := fk) F4.tb F4.tl ek)
    obtain ⟨po, hpo, hgo⟩ := old_at N5 hlt
    have e1s : V.int (1 + ((sd : Nat) : Int)) = nV (1 + sd) := congrArg V.int (by omega)
    clear F4 X4 N4 d5 ek l0 lb l1 l2 l3
    refine ⟨_, rfl, _, rfl, _, rfl, _, rfl, _, rfl, g, _, _, _, rfl, rfl, SqT.of N5.gt, atI_nat hpo, _, rfl, _, _, rfl, rfl, _, rfl, po, gV (oldG n (n.many + at_)), 1 + sd, nV one, ?_, hgo, by show 1 + sd < 3; omega, by show 3 ≤ 1000; decide, fun r2 H9 s9 h9 => ?_⟩
    · show [V.ref po, V.int (1 + ((sd : Nat) : Int)), V.int ((one : Nat) : Int)] = _
      rw [e1s]
      rfl
    have N9 := N5.same s9
    refine ⟨g, ps.map V.ref, at_, .ref r2, rfl, N9.gt, by rw [gl]; exact hlt, by rw [gl]; omega, fun r3 H10 s10 h10 => ?_⟩
    rw [← List.map_set] at h10
    have N10 := N9.same s10
    refine ⟨_, rfl, small 3, fun ta nta => ?_⟩
    have t1' := Same.new (o := .tup [nV n.many, V.ref r3, V.ref o]) nta
    have s510 := (s9.trans s10).trans t1'
    refine q _ (doN n (.lead (n.many + at_) sd one)) ta r3 o (ps.set at_ r2) (F5.trans (FrL.same F5.wd F5.tb F5.tl s510)) (X5.same s510) (doN_ok ok cok) rfl (List.length_set ..) ⟨upd_same, t1' _ _ h10, ?_, t1' _ _ N10.ot⟩
    show GatesAt _ _ (n.gates.set (n.many + at_ - n.many) _)
    rw [show n.many + at_ - n.many = at_ by omega]
    refine GatesAt.set (N10.gs.mono fun b xs e => t1' _ _ e) (t1' _ _ (s10 _ _ ?_))
    rw [h9]
    rcases (by omega : sd = 0 ∨ sd = 1) with rfl | rfl
    · rw [if_pos rfl]
      rfl
    · rw [if_neg (by decide)]
      rfl
end
end K80
set_option Elab.async false
set_option linter.all false
set_option maxRecDepth 100000
set_option maxHeartbeats 4000000
namespace K80
open PySem PySem.Spec PyProof.Rows L2 GX
open C8 (Cal pe_c pe_gc Met Mak)
open TL
-- @dict CHANGES
-- @no CHANGES 0 ""
-- @no CHANGES 1 "0"
-- @no CHANGES 2 "way"
-- @no CHANGES 3 "Kind"
-- @no CHANGES 4 "leads"
-- @dict QUESTIONS
-- @no QUESTIONS 0 "gate"
-- @no QUESTIONS 1 "kind"
-- @no QUESTIONS 2 "lead"
-- @no QUESTIONS 3 "less"
-- @no QUESTIONS 4 "outs"
-- @exc NoText
-- @exc NoDepth
-- @exc TooMany
-- @exc NoMatch
-- @exc NoChange made
-- @exc NoRow made
-- @sub NoChange NoChange true
-- @sub NoRow NoRow true
-- @sub NoRow ValueError true
-- @sub NoRow NoText false
-- @sub NoRow NoDepth false
-- @sub NoRow TooMany false
-- @sub NoRow NoMatch false
-- @sub NoRow NoChange false
-- @cls Keeper k:i,held:N,kept:t[t[t[i]]]
-- @cls Desk keeper:OKeeper
-- @alt rises list par=l[i]
-- @alt cut_masks tup par=N,t[i],i vars=masks:DL,wire:i
-- @alt one_deeper tup par=t[i],t[i]
-- @alt _law_written tup par=t[i],s
section
variable {P : Program} {w : World} {K : PySem.W.Frag} {mg : Str → Option Value} {base : Heap} {Ts : List Addr} {PL CKeeper CDesk CNoRow : Addr}
open TL
theorem ok_over {lv : Nat} {R : Str → Option QRel} {NQ : Str → Prop} {f c : Addr} (nq : ∀ h ∈ wordsQ, NQ h) (D : Dfn K mg "_law_turned_over" s__law_turned_over f c) (T : Txt mg) (c__law_draw : Cal P w K mg base 2 "_law_draw" spDraw []) (c__law_put_in : Cal P w K mg base 1 "_law_put_in" spPutIn []) (n_Desk_say : Met P w K mg base (lv + 10) CDesk "say" (calm (spSayL Ts PL CDesk CKeeper CNoRow R NQ)) []) : Cal P w K mg base (lv + 11) "_law_turned_over" (spLed Ts PL CDesk CKeeper) [] := by
  refine cal D (fun _ _ _ _ _ _ us hl => match us, hl with | [_, _, _], _ => rfl) sc__law_turned_over (fun vs H Q E h => ?_) (fun A outer s H vs Q E hr h => ?_)
  · obtain ⟨W, C, D, kp, a, n, k, g, o, ps, rfl, _⟩ := h
    rfl
  · obtain ⟨W, C, Da, kp, a, n, k, g, o, ps, rfl, wd, tb, tl0, X, N, ok, k2, k4, q⟩ := h
    refine ⟨_, (pss_cons (ps_asg (pv 2) (pg_tup rfl (pgs_cons (pg_name (i := 3) sc__law_turned_over.nd rfl (by first | exact Or.inl rfl | exact Or.inr rfl)) (pgs_cons (pg_name (i := 4) sc__law_turned_over.nd rfl (by first | exact Or.inl rfl | exact Or.inr rfl)) (pgs_cons (pg_name (i := 5) sc__law_turned_over.nd rfl (by first | exact Or.inl rfl | exact Or.inr rfl)) pgs_nil)))))
      (pss_cons (ps_if (pt_cmpR (op_ne0 hr.units0) (pv 4) (pe_tup pa_nil) (nomark _)) (pss_cons (ps_set (i := 6) sc__law_turned_over.nd rfl (by first | exact Or.inl rfl | exact Or.inr rfl) (pe_c c__law_draw hr (by omega) (by rfl) (pa_cons (pv 0) (pa_cons (pe_callB call_len_seq (by rfl) T.b_len (by decide +kernel) (pa_cons (pv 4) pa_nil)) pa_nil))))
      (pss_cons (ps_set (i := 7) sc__law_turned_over.nd rfl (by first | exact Or.inl rfl | exact Or.inr rfl) (pe_c c__law_draw hr (by omega) (by rfl) (pa_cons (pv 0) (pa_cons pe_int pa_nil))))
      (pss_cons (ps_set (i := 4) sc__law_turned_over.nd rfl (by first | exact Or.inl rfl | exact Or.inr rfl) (pe_c c__law_put_in hr (by omega) (by rfl) (pa_cons (pv 4) (pa_cons (pv 6) (pa_cons (pe_op op_catA (pe_tup (pa_cons (pv 7) pa_nil)) (pe_slice sl_tupA (pe_ix ix_tup (pv 4) (pv 6) (fun _ _ => rfl)) (po_some pe_int) po_none)) pa_nil)))))
      (pss_one (ps_expr (C8.pe_mt n_Desk_say hr (by omega) (pv 1) (pa_cons (pe_op op_add_str (pe_op op_add_str (pe_op op_add_str pe_str (pe_callTy call_str_int (by rfl) T.b_str (by decide +kernel) (pa_cons (pe_op op_add (pv 3) (pv 6)) pa_nil))) pe_str) (pe_callTy call_str_int (by rfl) T.b_str (by decide +kernel) (pa_cons (pv 7) pa_nil))) pa_nil))))))) pss_nil)
      (pss_cons (ps_set (i := 5) sc__law_turned_over.nd rfl (by first | exact Or.inl rfl | exact Or.inr rfl) (pe_callTy call_tuple_of (by rfl) T.b_tuple (by decide +kernel) (pa_cons (pe_lc (own := [("_law_turn", 8)]) (g := gName 8) (tt := tYes) rfl sc__law_turned_over.nd (pi_range1 (by rfl) T.b_range (pa_cons (pe_op op_add pe_int (pe_c c__law_draw hr (by omega) (by rfl) (pa_cons (pv 0) (pa_cons pe_int pa_nil)))) pa_nil)) (blkOk_by (own := [("_law_turn", 8)]) (N := ["_law_deck_here", "_law_desk", "_law_net", "_law_many", "_law_gates", "_law_outs", "_law_at", "_law_kind", "_law_turn", "_law_wire"]) (sc := defScope s__law_turned_over) (by decide +kernel)) (fun _ _ _ _ _ => (pg_name (i := 8) sc__law_turned_over.nd rfl (by first | exact Or.inl rfl | exact Or.inr rfl))) (fun _ _ _ _ _ => pts_nil) (fun _ _ _ _ _ => (pe_c c__law_draw hr (by omega) (by rfl) (pa_cons (pv 0) (pa_cons (pe_op op_add (pv 3) (pe_callB (len_seqK (K := K)) (by rfl) T.b_len (by decide +kernel) (pa_cons (pv 4) pa_nil))) pa_nil))))) pa_nil)))
      (pss_cons (ps_expr (C8.pe_mt n_Desk_say hr (by omega) (pv 1) (pa_cons (pe_op op_add_str pe_str (pe_join pe_str (pe_lc (own := [("_law_wire", 9)]) (g := gName 9) (tt := tYes) rfl sc__law_turned_over.nd (pi_tup (pv 5)) (blkOk_by (own := [("_law_wire", 9)]) (N := ["_law_deck_here", "_law_desk", "_law_net", "_law_many", "_law_gates", "_law_outs", "_law_at", "_law_kind", "_law_turn", "_law_wire"]) (sc := defScope s__law_turned_over) (by decide +kernel)) (fun _ _ _ _ _ => (pg_name (i := 9) sc__law_turned_over.nd rfl (by first | exact Or.inl rfl | exact Or.inr rfl))) (fun _ _ _ _ _ => pts_nil) (fun _ _ _ _ _ => (pe_callTy call_str_int (by rfl) T.b_str (by decide +kernel) (pa_cons (pv 9) pa_nil)))))) pa_nil)))
      (pss_one (ps_ret (pe_tup (pa_cons (pv 3) (pa_cons (pv 4) (pa_cons (pv 5) pa_nil)))))))))), ?_⟩
    clear hr
    have m8 := ok.m8
    have m1 := ok.m1
    have g16 := ok.g16
    have gl : (ps.map V.ref).length = n.gates.length := by rw [List.length_map, N.gs.1]
    refine ⟨_, rfl, a, _, rfl, SqT.of N.top, rfl, _, _, rfl, _, _, rfl, _, _, rfl, rfl, ?_⟩
    with_reducible refine nx_seq rfl ?_
    with_reducible refine seq_cut (fun σ H' => ∃ (n' : Net) (g' : Addr) (ps' : List Addr) (x6 x7 : Option V), σ = [some (.ref W), some (.ref Da), some (.ref a), some (nV n.many), some (.ref g'), some (.ref o), x6, x7, none, none] ∧ FrL Ts PL W C kp H H' ∧ DkN CDesk CKeeper H' Da kp n' k ∧ n'.Ok ∧ n'.many = n.many ∧ n'.gates.length = n.gates.length ∧ H' g' = some (.tup (ps'.map V.ref)) ∧ GatesAt H' ps' n'.gates) (fun B hB => ?_) ?_
    · refine ⟨_, rfl, small 0, fun z nz => ?_⟩
      have s1 := Same.new (o := .tup []) nz
      have hz : upd H z (.tup []) z = some (.tup []) := upd_same
      generalize upd H z (.tup []) = H1 at s1 hz ⊢
      have F1 := FrL.same (kp := kp) wd tb tl0 s1
      have X1 := X.same s1
      have N1 := N.same s1
      refine ⟨g, z, _, rfl, rfl, .inl ⟨SqT.of N1.gt, SqT.of hz⟩, _, rfl, ite2 (fun d1 => ?_) (fun d1 => hB _ _ ⟨n, g, ps, _, _, rfl, F1, X1, ok, rfl, rfl, N1.gt, N1.gs⟩)⟩
      have gp : 0 < n.gates.length := by
        refine Nat.pos_of_ne_zero fun z => ?_
        rw [gl, decide_eq_true z] at d1
        cases d1
      refine ⟨_, rfl, _, rfl, g, _, rfl, .inr (SqT.of N1.gt), W, C, _, rfl, F1.wd, by rw [gl]; omega, by rw [gl]; omega, fun d H2 e0 e1 w2 => ?_⟩
      obtain ⟨at_, rfl⟩ := Int.eq_ofNat_of_zero_le e0
      have hlt : at_ < n.gates.length := by rw [gl] at e1; omega
      refine ⟨_, rfl, W, C, 16, rfl, w2.wl, by decide, by decide, fun kd H3 sd0 sd1 w3 => ?_⟩
      obtain ⟨kd, rfl⟩ := Int.eq_ofNat_of_zero_le sd0
      have kd16 : kd < 16 := by omega
      have w14 := w2.nxt w3
      have F4 := F1.trans (FrL.draw F1.wd F1.tb F1.tl w14)
      have X4 := X1.draw F1.wd w14
      have N4 := N1.mono fun b xs e => F1.wd.tup w14 e
      clear w2 w3 w14 F1 X1 N1 s1 hz nz d1 e0 e1 sd0 sd1 X N wd tb tl0
      obtain ⟨po, hpo, hgo⟩ := old_at N4 hlt
      refine ⟨_, rfl, _, rfl, _, rfl, small 1, fun t1 nt1 => ?_⟩
      have s8 := Same.new (o := .tup [V.int ((kd : Nat) : Int)]) nt1
      have h8 : upd H3 t1 (.tup [V.int ((kd : Nat) : Int)]) t1 = some (.tup [V.int ((kd : Nat) : Int)]) := upd_same
      generalize upd H3 t1 (.tup [V.int ((kd : Nat) : Int)]) = H8 at s8 h8 ⊢
      have N8 := N4.same s8
      refine ⟨_, rfl, _, rfl, g, _, _, _, rfl, rfl, SqT.of N8.gt, atI_nat hpo, _, rfl, ?_⟩
      unfold tNoPart
      refine slA (lo := some ((1 : Nat) : Int)) (hi := none) (s8 _ _ hgo) fun r1 H9 s9 h9 => ?_
      rw [cut_lo] at h9
      refine catA (s9 _ _ h8) h9 (by show 1 + 2 ≤ _; exact small 3) fun r2 H10 s10 h10 => ?_
      have h10 : H10 r2 = some (.tup (gV (kd, (oldG n (n.many + at_)).2.1, (oldG n (n.many + at_)).2.2))) := h10
      have N10 := (N8.same s9).same s10
      refine ⟨g, ps.map V.ref, at_, .ref r2, rfl, N10.gt, by rw [gl]; exact hlt, by rw [gl]; omega, fun r3 H11 s11 h11 => ?_⟩
      rw [← List.map_set] at h11
      have N11 := N10.same s11
      have s411 := ((s8.trans s9).trans s10).trans s11
      have F11 := F4.trans (FrL.same F4.wd F4.tb F4.tl s411)
      have X11 := X4.same s411
      have G11 : GatesAt H11 (ps.set at_ r2) (n.gates.set at_ (kd, (oldG n (n.many + at_)).2.1, (oldG n (n.many + at_)).2.2)) := GatesAt.set N11.gs (s11 _ _ h10)
      clear F4 X4 N4 N8 N10 s8 s9 s10 s11 s411 h8 h9 hgo
      obtain ⟨dD, eD⟩ := X11.ins
      have eka : ((n.many : Nat) : Int) + ((at_ : Nat) : Int) = ((n.many + at_ : Nat) : Int) := by omega
      have l0 : (Str.ofString "kind ").length ≤ 5 := by decide +kernel
      have lb : (Str.ofString " ").length ≤ 1 := by decide +kernel
      have l1 : (Str.ofString (toString ((n.many + at_ : Nat) : Int))).length ≤ 2 := nS_len (by omega)
      have l2 : (Str.ofString (toString ((kd : Nat) : Int))).length ≤ 2 := nS_len (by omega)
      have lz : (100 : Nat) ≤ sizeLine := by decide
      refine ⟨_, rfl, Da, dD, _, rfl, eD, rfl, ?_⟩
      refine ⟨_, rfl, _, rfl, _, _, rfl, rfl, ((n.many + at_ : Nat) : Int), congrArg (fun z => [V.int z]) eka, lg100 (n.many + at_) (by omega), _, _, rfl, rfl, by omega, _, _, rfl, rfl, by rw [app_len]; omega, _, rfl, _, rfl, lg100 kd (by omega), _, _, rfl, rfl, by rw [app_len, app_len]; omega, ?_⟩
      rw [text2 (h := "kind") (by decide +kernel)]
      refine tnil_of ?_
      refine calm_of ?_
      have cok : (Chg.kind (n.many + at_) kd).Ok n := ⟨by omega, by omega, by omega⟩
      refine say_chg X11 F11.tb F11.tl ok k2 k4 (h := "kind") (ch := .kind (n.many + at_) kd) (by decide +kernel) (nq _ (by decide +kernel)) (by show 2 ≤ 100; decide) (fun y hy => ?_) cok th_kind fun H5 X5 d5 => ?_
      · simp only [List.mem_cons, List.not_mem_nil, or_false] at hy
        omega
      obtain ⟨dk, fk, ek⟩ := X11.kins
      have t5 := d5.tup (C := CKeeper) (dx := dk) (fs := fk) F11.tb F11.tl ek
      refine hB _ _ ⟨doN n (.kind (n.many + at_) kd), r3, ps.set at_ r2, _, _, rfl, F11.trans (FrL.doL F11.wd F11.tb F11.tl ek d5), X5, doN_ok ok cok, rfl, List.length_set .., t5 _ _ h11, ?_⟩
      show GatesAt _ _ (n.gates.set (n.many + at_ - n.many) _)
      rw [show n.many + at_ - n.many = at_ by omega]
      exact G11.mono fun b xs e => t5 _ _ e
    · rintro σ H1 ⟨n1, g1, ps1, x6, x7, rfl, F1, X1, ok1, em, el, hg1, G1⟩
      clear X N
      have gl1 : (ps1.map V.ref).length = n1.gates.length := by rw [List.length_map, G1.1]
      have g161 := ok1.g16
      refine ⟨_, rfl, W, C, 3, rfl, F1.wd, by decide, by decide, fun cnt H2 cn0 cn3 w2 => ⟨_, _, rfl, rfl, _, rfl, by omega, by omega, fun M nM => ?_⟩⟩
      have MW := w2.wl.new nM
      have hg2 := F1.wd.tup w2 hg1
      refine lc_range (lo := 0) (n := (1 + cnt).toNat) (fun i H' => ∃ ms : List Nat, Wk2 W C H2 H' ∧ H' M = some (.lst (ms.map nV)) ∧ ms.length = i ∧ ∀ x ∈ ms, x < n1.many + n1.gates.length) ⟨[], (Wk2.refl w2.wl).new nM, upd_same, rfl, fun x hx => by cases hx⟩ ?_ ?_
      · rintro i H8 hi ⟨ms, k8, hM8, ml, mb⟩
        refine ⟨rfl, ?_⟩
        unfold tYes
        refine iteT ?_
        have hg8 := w2.wl.tup k8 hg2
        refine ⟨_, rfl, _, rfl, _, rfl, g1, _, rfl, .inr (SqT.of hg8), _, _, rfl, rfl, W, C, _, rfl, k8.wl, by omega, by omega, fun v H9 v0 v1 k9 => ?_⟩
        obtain ⟨x, rfl⟩ := Int.eq_ofNat_of_zero_le v0
        have hM9 := k9.at_ MW hM8
        refine ⟨_, hM9, by rw [List.length_map, ml]; exact small256 (by omega), ms ++ [x], (k8.nxt k9).put nM MW, by rw [upd_same, List.map_append]; rfl, by rw [List.length_append, ml]; rfl, fun y hy => ?_⟩
        rcases List.mem_append.mp hy with h | h
        · exact mb y h
        · rw [List.mem_singleton.mp h]
          omega
      rintro H8 ⟨ms, k8, hM8, ml, mb⟩
      have ml8 : ms.length ≤ 8 := by omega
      have ml1 : 1 ≤ ms.length := by omega
      refine ⟨M, _, rfl, .inl ⟨SqL.of hM8, fun p1 np1 => ?_⟩⟩
      have s9 := Same.new (o := .tup (ms.map nV)) np1
      have h9 : upd H8 p1 (.tup (ms.map nV)) p1 = some (.tup (ms.map nV)) := upd_same
      have k9 := (w2.nxt k8).same s9
      show gName _ _ _ (upd H8 p1 (.tup (ms.map nV))) _
      generalize upd H8 p1 (.tup (ms.map nV)) = H9 at h9 k9 ⊢
      have F9 := F1.trans (FrL.draw F1.wd F1.tb F1.tl k9)
      have X9 := X1.draw F1.wd k9
      have hg9 := F1.wd.tup k9 hg1
      have G9 := G1.mono fun b xs e => F1.wd.tup k9 e
      have ob : ∀ x ∈ ms, x < 100 := fun x hx => by have := mb x hx; omega
      clear F1 X1 hg1 G1 w2 k8 hM8 s9 k9 hg2 nM
      obtain ⟨dD, eD⟩ := X9.ins
      refine ⟨_, rfl, Da, dD, _, rfl, eD, rfl, ?_⟩
      refine ⟨⟨_, rfl⟩, _, rfl, p1, rfl, ⟨_, SqT.of h9⟩, fun M2 nM2 => ?_⟩
      refine lc_tup (K := K) (a := p1) (xs := ms.map nV) (fun i H' => Own H9 H' M2 (((ms.take i).map nS).map V.str)) ⟨Same.new nM2, upd_same, nM2⟩ (fun i H' _ o' => SqT.of (o'.sm _ _ h9)) ?_ ?_
      · rintro i y H11 hy o11
        rw [List.getElem?_map] at hy
        obtain ⟨x, hx, rfl⟩ := Option.map_eq_some_iff.mp hy
        have hi := (List.getElem?_eq_some_iff.mp hx).1
        refine ⟨rfl, ?_⟩
        unfold tYes
        refine iteT ?_
        refine ⟨_, rfl, _, rfl, lg100 x (ob x (List.mem_of_getElem? hx)), _, o11.at_, by rw [List.length_map, List.length_map, List.length_take]; exact small256 (by omega), ?_⟩
        rw [List.take_add_one, hx, List.map_append, List.map_append]
        exact o11.app
      rintro H11 o11
      rw [List.length_map, List.take_length] at o11
      have F11 := F9.trans (FrL.same F9.wd F9.tb F9.tl o11.sm)
      have X11 := X9.same o11.sm
      have h11 := o11.sm _ _ h9
      have hg11 := o11.sm _ _ hg9
      have G11 := G9.mono fun b xs e => o11.sm _ _ e
      obtain ⟨f1, f2⟩ := nS_fit ob ml8 (by decide)
      refine ⟨_, M2, ms.map nS, rfl, rfl, .inl (SqL.of o11.at_), f1, _, _, rfl, rfl, ?_, ?_⟩
      · have : (Str.ofString "outs ").length ≤ 5 := by decide +kernel
        have : (3005 : Nat) ≤ sizeLine := by decide
        omega
      rw [textL (h := "outs") (by decide +kernel) (List.length_pos_iff.mp ml1)]
      refine tnil_of ?_
      refine calm_of ?_
      have cok : (Chg.outs ms).Ok n1 := ⟨ml1, ml8, mb⟩
      clear F9 X9 hg9 G9 o11 h9
      refine say_chg X11 F11.tb F11.tl ok1 k2 k4 (h := "outs") (ch := .outs ms) (by decide +kernel) (nq _ (by decide +kernel)) (by omega) ob cok th_outs fun H5 X5 d5 => ?_
      obtain ⟨dk, fk, ek⟩ := X11.kins
      have t5 := d5.tup (C := CKeeper) (dx := dk) (fs := fk) F11.tb F11.tl ek
      have F5 := F11.trans (FrL.doL F11.wd F11.tb F11.tl ek d5)
      refine ⟨_, rfl, _, rfl, _, rfl, small 3, fun ta nta => ?_⟩
      have t1' := Same.new (o := .tup [nV n.many, V.ref g1, V.ref p1]) nta
      refine q _ (doN n1 (.outs ms)) ta g1 p1 ps1 (F5.trans (FrL.same F5.wd F5.tb F5.tl t1')) (X5.same t1') (doN_ok ok1 cok) em el ⟨?_, t1' _ _ (t5 _ _ hg11), G11.mono fun b xs e => t1' _ _ (t5 _ _ e), t1' _ _ (t5 _ _ h11)⟩
      show upd H5 ta _ ta = some (.tup [nV n1.many, _, _])
      rw [em]
      exact upd_same
end
end K80
set_option Elab.async false
set_option linter.all false
set_option maxRecDepth 100000
set_option maxHeartbeats 4000000
/-! Contents by wires in another order, and by a wire more. -/
namespace GX
open PySem PySem.Spec PyProof.Rows L2
end GX
set_option Elab.async false
set_option linter.all false
set_option maxRecDepth 100000
set_option maxHeartbeats 4000000
/-! Rows and worths; nets joined. -/
namespace GX
open PySem PySem.Spec PyProof.Rows L2
end GX
set_option Elab.async false
set_option linter.all false
set_option maxRecDepth 100000
set_option maxHeartbeats 4000000
/-! Covers laid. -/
namespace GX
open PySem PySem.Spec PyProof.Rows L2
end GX
set_option Elab.async false
set_option linter.all false
set_option maxRecDepth 100000
set_option maxHeartbeats 4000000
namespace K80
open PySem PySem.Spec PyProof.Rows L2 GX
open C8 (Cal pe_c pe_gc Met Mak)
-- @dict CHANGES
-- @no CHANGES 0 ""
-- @no CHANGES 1 "0"
-- @no CHANGES 2 "way"
-- @no CHANGES 3 "Kind"
-- @no CHANGES 4 "leads"
-- @dict QUESTIONS
-- @no QUESTIONS 0 "gate"
-- @no QUESTIONS 1 "kind"
-- @no QUESTIONS 2 "lead"
-- @no QUESTIONS 3 "less"
-- @no QUESTIONS 4 "outs"
-- @exc NoText
-- @exc NoDepth
-- @exc TooMany
-- @exc NoMatch
-- @exc NoChange made
-- @exc NoRow made
-- @sub NoChange NoChange true
-- @sub NoRow NoRow true
-- @sub NoRow ValueError true
-- @sub NoRow NoText false
-- @sub NoRow NoDepth false
-- @sub NoRow TooMany false
-- @sub NoRow NoMatch false
-- @sub NoRow NoChange false
-- @cls Keeper k:i,held:N,kept:t[t[t[i]]]
-- @cls Desk keeper:OKeeper
-- @alt rises list par=l[i]
-- @alt cut_masks tup par=N,t[i],i vars=masks:DL,wire:i
-- @alt one_deeper tup par=t[i],t[i]
-- @alt _law_written tup par=t[i],s
section
variable {P : Program} {w : World} {K : PySem.W.Frag} {mg : Str → Option Value} {base : Heap} {Ts : List Addr}
def spLTold : Sp := fun vs H Q _ => ∃ (a : Addr) (n : Net) (g o : Addr) (ps : List Addr) (wr : Nat) (wa : Addr) (st : List Nat), vs = [.ref a, nV wr, .ref wa] ∧ NetAt H a n g o ps ∧ n.Ok ∧ wr < n.many + n.gates.length ∧ H wa = some (.lst (st.map nV)) ∧ ∀ (b : Bool) H', (b = true ↔ Sep n wr st) → Same H H' → Q (.bl b) H'
theorem ok_ltold {f c : Addr} (D : Dfn K mg "_law_told" s__law_told f c) (T : Txt mg) : Cal P w K mg base 1 "_law_told" spLTold [] := by
  refine cal D (fun _ _ _ _ _ _ us hl => match us, hl with | [_, _, _], _ => rfl) sc__law_told (fun vs H Q E h => ?_) (fun A outer s H vs Q E hr h => ?_)
  · obtain ⟨a, n, g, o, ps, wr, wa, st, rfl, _⟩ := h
    rfl
  · obtain ⟨a, n, g, o, ps, wr, wa, st, rfl, N, ok, hw, hwa, q⟩ := h
    have m8 := ok.m8
    have g16 := ok.g16
    refine ⟨_, (pss_cons (ps_set (i := 3) sc__law_told.nd rfl (by first | exact Or.inl rfl | exact Or.inr rfl) (pe_lst pa_nil))
      (pss_cons (ps_for PassesOwn.never rfl (pi_range1 (by rfl) T.b_range (pa_cons (pe_op op_add (pe_ix ix_tup (pv 0) pe_int (fun _ _ => rfl)) (pe_callB call_len_seq (by rfl) T.b_len (by decide +kernel) (pa_cons (pe_ix ix_tup (pv 0) pe_int (fun _ _ => rfl)) pa_nil))) pa_nil)) (pg_name (i := 4) sc__law_told.nd rfl (by first | exact Or.inl rfl | exact Or.inr rfl))
        (pss_cons (ps_set (i := 5) sc__law_told.nd rfl (by first | exact Or.inl rfl | exact Or.inr rfl) (pe_lst (pa_cons (pv 4) pa_nil)))
      (pss_cons (ps_if (pt_cmpR op_ge (pv 4) (pe_ix ix_tup (pv 0) pe_int (fun _ _ => rfl)) (nomark _)) (pss_one (ps_setLc (i := 5) (own := [("_law_place", 6)]) (g := gName 6)  rfl sc__law_told.nd rfl rfl (sw_true rfl rfl rfl (by decide +kernel)) (pi_tup (pe_slice sl_tupA (pe_ix ix_tup (pe_ix ix_tup (pv 0) pe_int (fun _ _ => rfl)) (pe_op op_sub (pv 4) (pe_ix ix_tup (pv 0) pe_int (fun _ _ => rfl))) (fun _ _ => rfl)) (po_some pe_int) po_none)) (blkOk_by (own := [("_law_place", 6)]) (N := ["_law_net", "_law_wire", "_law_wires_here", "_law_free", "_law_one", "_law_ahead", "_law_place"]) (sc := defScope s__law_told) (by decide +kernel)) (fun _ _ _ _ _ => (pg_name (i := 6) sc__law_told.nd rfl (by first | exact Or.inl rfl | exact Or.inr rfl))) (fun _ _ _ _ _ => (pts_one (pt_cmpR (op_in_seqK (K := K)) (pv 6) (pv 3) (by rfl)))) (fun _ _ _ _ _ => (pv 6)))) pss_nil)
      (pss_one (ps_if (PW.pt (pw_and (pt_cmpR op_notIn_seq (pv 4) (pv 2) (by rfl)) (pw_and1 (pt_cmpR (op_neD hr.units) (pv 5) (pe_lst pa_nil) (nomark _))))) (pss_one (ps_expr (pe_bm PySem.F.plainAttrs_list PySem.F.slot_list_append PySem.F.type_list_append mt_append (pv 3) (pa_cons (pv 4) pa_nil)))) pss_nil)))))
      (pss_one (ps_ret (pe_cmpR op_notIn_seq (pv 1) (pv 3) (by rfl)))))), ?_⟩
    refine ⟨small 0, fun F nF => ?_⟩
    have o0 : Own H _ F [] := ⟨Same.new (o := .lst []) nF, upd_same, nF⟩
    generalize upd H F (.lst []) = H1 at o0 ⊢
    have N1 := N.same o0.sm
    refine ⟨_, rfl, a, _, 0, _, rfl, rfl, SqT.of N1.top, at0, _, rfl, a, _, 1, _, rfl, rfl, SqT.of N1.top, at1, g, _, rfl, .inr (SqT.of N1.gt), _, _, rfl, rfl, _, rfl, by omega, by rw [List.length_map, N.gs.1]; omega, ?_⟩
    have en : (((n.many : Nat) : Int) + (((ps.map V.ref).length : Nat) : Int)).toNat = n.many + n.gates.length := by
      rw [List.length_map, N.gs.1]
      omega
    refine for_range (lo := 0) (n := (((n.many : Nat) : Int) + (((ps.map V.ref).length : Nat) : Int)).toNat) (fun i σ H' => ∃ (x4 x5 x6 : Option V) (fr : List Nat), σ = [some (.ref a), some (nV wr), some (.ref wa), some (.ref F), x4, x5, x6] ∧ Own H H' F (fr.map nV) ∧ fr.length ≤ i ∧ ∀ x, x ∈ fr ↔ (x < i ∧ ¬ Det n st x)) ⟨none, none, none, [], rfl, o0, Nat.le_refl _, fun x => ⟨fun z => (by cases z), fun z => absurd z.1 (Nat.not_lt_zero _)⟩⟩ ?_ ?_
    · rintro i σ H2 hi ⟨x4, x5, x6, fr, rfl, o2, fl, hf⟩
      rw [en] at hi
      have ei : V.int (0 + ((i : Nat) : Int)) = nV i := by rw [Int.zero_add]; rfl
      rw [ei]
      refine ⟨_, rfl, small 1, fun L nL => ?_⟩
      have oL := Own.same o2 (Same.new (o := .lst [nV i]) nL)
      have hL3 : upd H2 L (.lst [nV i]) L = some (.lst [nV i]) := upd_same
      have neL : L ≠ F := fun z => by rw [z, o2.at_] at nL; cases nL
      generalize upd H2 L (.lst [nV i]) = H3 at oL hL3 ⊢
      have N3 := N.same oL.sm
      have G : ∀ k, n.gates[i - n.many]? = some k → n.many ≤ i → (Det n st i ↔ (i ∈ st ∨ (Det n st k.2.1 ∧ Det n st k.2.2))) := fun k hk hm => det_gate hm hk
      with_reducible refine seq_cutG (fun σ H' => ∃ (x6 : Option V) (L' : Addr) (ah : List Nat), σ = [some (.ref a), some (nV wr), some (.ref wa), some (.ref F), some (nV i), some (.ref L'), x6] ∧ Own H H' F (fr.map nV) ∧ H' L' = some (.lst (ah.map nV)) ∧ L' ≠ F ∧ (i ∉ st → (ah = [] ↔ Det n st i))) (fun B hB => ?_) ?_
      · refine ⟨_, rfl, _, rfl, a, _, 0, _, rfl, rfl, SqT.of N3.top, at0, _, _, rfl, rfl, _, rfl, ?_⟩
        refine ite2 (fun h => ?_) (fun h => ?_)
        · have hm : n.many ≤ i := by
            have := of_decide_eq_true h
            omega
          have hil : i - n.many < ps.length := by rw [N3.gs.1]; omega
          obtain ⟨k, hk⟩ : ∃ k, n.gates[i - n.many]? = some k := ⟨_, List.getElem?_eq_getElem (by omega)⟩
          have hp := N3.gs.2 _ _ _ (List.getElem?_eq_getElem hil) hk
          have g1 : (ps.map V.ref)[i - n.many]? = some (.ref ps[i - n.many]) := by rw [List.getElem?_map, List.getElem?_eq_getElem hil]; rfl
          have l1 := place_lt ok hm hk (.inl rfl)
          have l2 := place_lt ok hm hk (.inr rfl)
          refine ⟨_, rfl, a, _, 1, _, rfl, rfl, SqT.of N3.top, at1, _, rfl, _, rfl, a, _, 0, _, rfl, rfl, SqT.of N3.top, at0, _, _, rfl, rfl, g, _, _, _, rfl, rfl, SqT.of N3.gt, (by rw [show (((i : Nat) : Int) - ((n.many : Nat) : Int)) = ((i - n.many : Nat) : Int) by omega]; exact atI_nat g1), 1, rfl, ?_⟩
          unfold tNoPart
          refine slA (lo := some ((1 : Nat) : Int)) (hi := none) hp fun r H4 s4 h4 => ?_
          have h4' : H4 r = some (.tup ([k.2.1, k.2.2].map nV)) := h4
          have o4 := Own.same oL s4
          refine ⟨r, rfl, ⟨_, SqT.of h4'⟩, fun M nM => ?_⟩
          have nMF : M ≠ F := fun z => by rw [z, o4.at_] at nM; cases nM
          refine lc_tup (K := K) (a := r) (xs := [k.2.1, k.2.2].map nV) (fun j H' => Own H4 H' M ((([k.2.1, k.2.2].take j).filter fun x => decide (x ∈ fr)).map nV)) ⟨Same.new nM, upd_same, nM⟩ (fun _ H' _ o' => SqT.of (o'.sm _ _ h4')) ?_ ?_
          · rintro j x H5 hx o5
            have hj : j < [k.2.1, k.2.2].length := by
              have := (List.getElem?_eq_some_iff.mp hx).1
              rwa [List.length_map] at this
            rw [natAt hj] at hx
            cases hx
            have ef : ([k.2.1, k.2.2].take (j + 1)).filter (fun x => decide (x ∈ fr)) = ([k.2.1, k.2.2].take j).filter (fun x => decide (x ∈ fr)) ++ (if decide ([k.2.1, k.2.2].getD j 0 ∈ fr) = true then [[k.2.1, k.2.2].getD j 0] else []) := by
              rw [List.take_add_one, List.filter_append, List.getD_eq_getElem?_getD, List.getElem?_eq_getElem hj, Option.toList_some, List.filter_cons]
              rfl
            refine ⟨rfl, ?_⟩
            refine ⟨_, rfl, _, rfl, F, _, rfl, .inl (SqL.of (o5.sm _ _ o4.at_)), rfl, flat_ns fr, _, rfl, ?_⟩
            have ev : (if false = true then !inV (nV ([k.2.1, k.2.2].getD j 0)) (fr.map nV) else inV (nV ([k.2.1, k.2.2].getD j 0)) (fr.map nV)) = decide ([k.2.1, k.2.2].getD j 0 ∈ fr) := by rw [if_neg Bool.false_ne_true, inV_n]
            rw [ev]
            refine ite2 (fun h => ?_) (fun h => ?_)
            · refine ⟨_, rfl, _, o5.at_, ?_, ?_⟩
              · rw [List.length_map]
                exact Nat.lt_of_le_of_lt (List.length_filter_le _ _) (by rw [List.length_take]; exact Nat.lt_of_le_of_lt (Nat.min_le_left _ _) (small256 (by have : j < 2 := hj; omega)))
              · rw [ef, if_pos h, List.map_append]
                exact o5.app
            · rw [ef, if_neg h, List.append_nil]
              exact o5
          rintro H5 o5
          refine hB _ _ ⟨_, M, _, rfl, Own.same o4 o5.sm, o5.at_, nMF, fun hni => ?_⟩
          have tk : ([k.2.1, k.2.2].take ([k.2.1, k.2.2].map nV).length) = [k.2.1, k.2.2] := rfl
          rw [tk, G k hk hm]
          have f1 : (decide (k.2.1 ∈ fr) = true ↔ ¬ Det n st k.2.1) := by rw [decide_eq_true_iff, hf]; exact ⟨fun z => z.2, fun z => ⟨l1, z⟩⟩
          have f2 : (decide (k.2.2 ∈ fr) = true ↔ ¬ Det n st k.2.2) := by rw [decide_eq_true_iff, hf]; exact ⟨fun z => z.2, fun z => ⟨l2, z⟩⟩
          rw [List.filter_eq_nil_iff]
          constructor
          · intro z
            exact .inr ⟨Classical.not_not.mp fun y => z k.2.1 List.mem_cons_self (f1.mpr y), Classical.not_not.mp fun y => z k.2.2 (List.mem_cons_of_mem _ List.mem_cons_self) (f2.mpr y)⟩
          · intro z x hx e
            obtain ⟨d1, d2⟩ := z.resolve_left hni
            rcases List.mem_cons.mp hx with h | h
            · rw [h] at e
              exact f1.mp e d1
            · rw [List.mem_singleton.mp h] at e
              exact f2.mp e d2
        · have hm : i < n.many := Classical.not_not.mp fun z => h (decide_eq_true (by show ((i : Nat) : Int) ≥ ((n.many : Nat) : Int); omega))
          refine hB _ _ ⟨_, L, [i], rfl, oL, hL3, neL, fun hni => ⟨fun z => (by cases z), fun z => absurd ((det_input hm).mp z) hni⟩⟩
      · rintro σ H4 ⟨x6, L', ah, rfl, o4, hL4, neL4, hah⟩
        refine ⟨_, rfl, _, rfl, wa, _, rfl, .inl (SqL.of (o4.sm _ _ hwa)), rfl, flat_ns st, _, rfl, ?_⟩
        have ev : (if true = true then !inV (nV i) (st.map nV) else inV (nV i) (st.map nV)) = !decide (i ∈ st) := by rw [if_pos rfl, inV_n]
        rw [ev]
        refine ite2 (fun h => ?_) (fun h => ?_)
        · have hni : i ∉ st := fun z => by rw [decide_eq_true z] at h; cases h
          refine ⟨_, rfl, small 0, fun Z nZ => ?_⟩
          have s5 := Same.new (o := .lst []) nZ
          have hZ : upd H4 Z (.lst []) Z = some (.lst (([] : List Nat).map nV)) := upd_same
          refine ⟨.list (natsD ah), .list (natsD []), dp_natL (s5 _ _ hL4), dp_natL hZ, natsD_lst _, natsD_lst _, _, rfl, ?_⟩
          rw [natsD_eqL]
          have o5 := Own.same o4 s5
          refine ite2 (fun h5 => ?_) (fun h5 => ?_)
          · have nd : ¬ Det n st i := fun z => by rw [decide_eq_true ((hah hni).mpr z)] at h5; cases h5
            refine ⟨_, rfl, .inl ⟨rfl, _, SqL.of o5.at_⟩, _, rfl, F, _, _, rfl, rfl, o5.at_, by rw [List.length_map]; exact small256 (by omega), ?_⟩
            refine ⟨_, _, _, fr ++ [i], rfl, ?_, by rw [List.length_append]; show _ + 1 ≤ _; omega, fun x => ?_⟩
            · rw [List.map_append]
              exact o5.app
            · rw [List.mem_append, hf, List.mem_singleton]
              constructor
              · rintro (z | z)
                · exact ⟨by omega, z.2⟩
                · rw [z]; exact ⟨by omega, nd⟩
              · rintro ⟨z1, z2⟩
                by_cases e : x = i
                · exact .inr e
                · exact .inl ⟨by omega, z2⟩
          · have dd : Det n st i := (hah hni).mp (Classical.not_not.mp fun z => h5 (by rw [decide_eq_false z]; rfl))
            refine ⟨_, _, _, fr, rfl, o5, by omega, fun x => ?_⟩
            rw [hf]
            exact ⟨fun z => ⟨by omega, z.2⟩, fun z => ⟨by have : x ≠ i := fun e => z.2 (by rw [e]; exact dd); omega, z.2⟩⟩
        · have hin : i ∈ st := Classical.not_not.mp fun z => h (by rw [decide_eq_false z]; rfl)
          refine ⟨_, _, _, fr, rfl, o4, by omega, fun x => ?_⟩
          rw [hf]
          exact ⟨fun z => ⟨by omega, z.2⟩, fun z => ⟨by have : x ≠ i := fun e => z.2 (by rw [e]; exact .held hin); omega, z.2⟩⟩
    · rintro σ H2 ⟨x4, x5, x6, fr, rfl, o2, fl, hf⟩
      rw [en] at hf
      refine ⟨_, rfl, _, rfl, F, _, rfl, .inl (SqL.of o2.at_), rfl, flat_ns fr, ?_⟩
      have ev : (if true = true then !inV (nV wr) (fr.map nV) else inV (nV wr) (fr.map nV)) = !decide (wr ∈ fr) := by rw [if_pos rfl, inV_n]
      rw [ev]
      refine q _ _ ?_ o2.sm
      rw [← det_iff ok hw]
      by_cases h : Det n st wr
      · rw [decide_eq_false (fun z => ((hf wr).mp z).2 h)]
        exact ⟨fun _ => h, fun _ => rfl⟩
      · rw [decide_eq_true ((hf wr).mpr ⟨hw, h⟩)]
        exact ⟨fun z => (by cases z), fun z => absurd z h⟩
end
section
variable {P : Program} {w : World} {K : PySem.W.Frag} {mg : Str → Option Value} {base : Heap} {Ts : List Addr} {PL CKeeper : Addr}
open TL
def spWritten : Sp := fun vs H Q _ => ∃ (p : Addr) (ns : List Nat) (s : Str), vs = [.ref p, .str s] ∧ (H p = some (.lst (ns.map nV)) ∨ H p = some (.tup (ns.map nV))) ∧ ns.length ≤ 1000 ∧ (∀ n ∈ ns, n < 100) ∧ s.length ≤ 1 ∧ ∀ H', Same H H' → Q (.str (mkS (joinL (tl s) (ns.map dgs)))) H'
theorem ok_written {f c : Addr} (D : Dfn K mg "_law_written" s__law_written f c) (T : Txt mg) : Cal P w K mg base 1 "_law_written" spWritten [] := by
  refine cal D (fun _ _ _ _ _ _ us hl => match us, hl with | [_, _], _ => rfl) sc__law_written (fun vs H Q E h => ?_) (fun A outer s H vs Q E hr h => ?_)
  · obtain ⟨p, ns, s, rfl, _⟩ := h
    rfl
  · obtain ⟨p, ns, sg, rfl, hp, hl, hn, hs, q⟩ := h
    rcases hp with hp | hp
    · refine ⟨_, (pss_one (ps_ret (pe_join (pv 1) (pe_lc (own := [("_law_wire", 2)]) (g := gName 2) (tt := tYes) rfl sc__law_written.nd (pi_list (pv 0)) (blkOk_by (own := [("_law_wire", 2)]) (N := ["_law_wires_here", "_law_sign", "_law_wire"]) (sc := defScope s__law_written) (by decide +kernel)) (fun _ _ _ _ _ => (pg_name (i := 2) sc__law_written.nd rfl (by first | exact Or.inl rfl | exact Or.inr rfl))) (fun _ _ _ _ _ => pts_nil) (fun _ _ _ _ _ => (pe_callTy call_str_int (by rfl) T.b_str (by decide +kernel) (pa_cons (pv 2) pa_nil))))))), ?_⟩
      clear hr
      refine ⟨_, rfl, ⟨_, rfl⟩, _, rfl, p, rfl, ⟨_, SqL.of hp⟩, fun M nM => ?_⟩
      refine lc_list (K := K) (a := p) (xs := ns.map nV) (fun i H' => Own H H' M (((ns.take i).map fun n => mkS (dgs n)).map V.str)) ⟨Same.new nM, upd_same, nM⟩ (fun i H' _ o' => SqL.of (o'.sm _ _ hp)) ?_ ?_
      · rintro i y H2 hy o2
        rw [List.getElem?_map] at hy
        obtain ⟨x, hx, rfl⟩ := Option.map_eq_some_iff.mp hy
        have hi := (List.getElem?_eq_some_iff.mp hx).1
        refine ⟨rfl, ?_⟩
        unfold tYes
        refine iteT ?_
        refine ⟨_, rfl, _, rfl, lg100 x (hn x (List.mem_of_getElem? hx)), _, o2.at_, by rw [List.length_map, List.length_map, List.length_take]; exact Nat.lt_of_le_of_lt (Nat.min_le_right _ _) (Nat.lt_of_le_of_lt hl (by decide)), ?_⟩
        rw [List.take_add_one, hx, List.map_append, List.map_append, str_dgs]
        exact o2.app
      · rintro H2 o2
        rw [List.length_map, List.take_length] at o2
        refine ⟨_, M, _, rfl, rfl, .inl (SqL.of o2.at_), figs_fit hn hl hs, ?_⟩
        rw [cut_join]
        exact q H2 o2.sm
    · refine ⟨_, (pss_one (ps_ret (pe_join (pv 1) (pe_lc (own := [("_law_wire", 2)]) (g := gName 2) (tt := tYes) rfl sc__law_written.nd (pi_tup (pv 0)) (blkOk_by (own := [("_law_wire", 2)]) (N := ["_law_wires_here", "_law_sign", "_law_wire"]) (sc := defScope s__law_written) (by decide +kernel)) (fun _ _ _ _ _ => (pg_name (i := 2) sc__law_written.nd rfl (by first | exact Or.inl rfl | exact Or.inr rfl))) (fun _ _ _ _ _ => pts_nil) (fun _ _ _ _ _ => (pe_callTy call_str_int (by rfl) T.b_str (by decide +kernel) (pa_cons (pv 2) pa_nil))))))), ?_⟩
      clear hr
      refine ⟨_, rfl, ⟨_, rfl⟩, _, rfl, p, rfl, ⟨_, SqT.of hp⟩, fun M nM => ?_⟩
      refine lc_tup (K := K) (a := p) (xs := ns.map nV) (fun i H' => Own H H' M (((ns.take i).map fun n => mkS (dgs n)).map V.str)) ⟨Same.new nM, upd_same, nM⟩ (fun i H' _ o' => SqT.of (o'.sm _ _ hp)) ?_ ?_
      · rintro i y H2 hy o2
        rw [List.getElem?_map] at hy
        obtain ⟨x, hx, rfl⟩ := Option.map_eq_some_iff.mp hy
        have hi := (List.getElem?_eq_some_iff.mp hx).1
        refine ⟨rfl, ?_⟩
        unfold tYes
        refine iteT ?_
        refine ⟨_, rfl, _, rfl, lg100 x (hn x (List.mem_of_getElem? hx)), _, o2.at_, by rw [List.length_map, List.length_map, List.length_take]; exact Nat.lt_of_le_of_lt (Nat.min_le_right _ _) (Nat.lt_of_le_of_lt hl (by decide)), ?_⟩
        rw [List.take_add_one, hx, List.map_append, List.map_append, str_dgs]
        exact o2.app
      · rintro H2 o2
        rw [List.length_map, List.take_length] at o2
        refine ⟨_, M, _, rfl, rfl, .inl (SqL.of o2.at_), figs_fit hn hl hs, ?_⟩
        rw [cut_join]
        exact q H2 o2.sm
end
end K80
set_option Elab.async false
set_option linter.all false
set_option maxRecDepth 100000
set_option maxHeartbeats 4000000
namespace K80
open PySem PySem.Spec PyProof.Rows L2 GX
open C8 (Cal pe_c pe_gc Met Mak)
-- @dict CHANGES
-- @no CHANGES 0 ""
-- @no CHANGES 1 "0"
-- @no CHANGES 2 "way"
-- @no CHANGES 3 "Kind"
-- @no CHANGES 4 "leads"
-- @dict QUESTIONS
-- @no QUESTIONS 0 "gate"
-- @no QUESTIONS 1 "kind"
-- @no QUESTIONS 2 "lead"
-- @no QUESTIONS 3 "less"
-- @no QUESTIONS 4 "outs"
-- @exc NoText
-- @exc NoDepth
-- @exc TooMany
-- @exc NoMatch
-- @exc NoChange made
-- @exc NoRow made
-- @sub NoChange NoChange true
-- @sub NoRow NoRow true
-- @sub NoRow ValueError true
-- @sub NoRow NoText false
-- @sub NoRow NoDepth false
-- @sub NoRow TooMany false
-- @sub NoRow NoMatch false
-- @sub NoRow NoChange false
-- @cls Keeper k:i,held:N,kept:t[t[t[i]]]
-- @cls Desk keeper:OKeeper
-- @alt rises list par=l[i]
-- @alt cut_masks tup par=N,t[i],i vars=masks:DL,wire:i
-- @alt one_deeper tup par=t[i],t[i]
-- @alt _law_written tup par=t[i],s
section
variable {P : Program} {w : World} {K : PySem.W.Frag} {mg : Str → Option Value} {base : Heap} {Ts : List Addr} {PL CKeeper : Addr}
open TL
theorem map_nV (xs : List Nat) : (xs.map fun n : Nat => (n : Int)).map V.int = xs.map nV := by
  rw [List.map_map]
  rfl
theorem wk_none {W C l : Addr} {H H1 : Hp} (x : Wk2 W C H H1) (n : H1 l = none) : H l = none := by
  cases e : H l with
  | none => rfl
  | some u =>
    have := x.at_ (x.wl.new n) e
    rw [n] at this
    cases this
def NL (W C : Addr) (H0 : Hp) (l : Addr) : Prop := (l ≠ W ∧ l ≠ C) ∧ H0 l = none
theorem nl_of {W C l : Addr} {H H1 : Hp} (x : Wk2 W C H H1) (n : H1 l = none) : NL W C H l := ⟨x.wl.new n, wk_none x n⟩
def spLWires : Sp := fun vs H Q _ => ∃ (W C a : Addr) (n : Net) (g o : Addr) (ps : List Addr) (gt : Nat), vs = [.ref W, .ref a, nV gt] ∧ Wd H W C ∧ NetAt H a n g o ps ∧ n.Ok ∧ n.many ≤ gt ∧ gt < n.many + n.gates.length ∧
  ∀ p H' (xs : List Nat), H' p = some (.lst (xs.map nV)) → (p ≠ W ∧ p ≠ C) → H p = none → Wk2 W C H H' → 0 < xs.length → xs.length ≤ 60 → (∀ x ∈ xs, x < 100) → Q (.ref p) H'
theorem ok_lwires {f c : Addr} (D : Dfn K mg "_law_wires" s__law_wires f c) (T : Txt mg) (c__law_draw : Cal P w K mg base 2 "_law_draw" spDraw []) : Cal P w K mg base 3 "_law_wires" spLWires [] := by
  refine cal D (fun _ _ _ _ _ _ us hl => match us, hl with | [_, _, _], _ => rfl) sc__law_wires (fun vs H Q E h => ?_) (fun A outer s H vs Q E hr h => ?_)
  · obtain ⟨W, C, a, n, g, o, ps, gt, rfl, _⟩ := h
    rfl
  · obtain ⟨W, C, a, n, g, o, ps, gt, rfl, wd0, N0, ok, hgm, hgw, q⟩ := h
    have m8 := ok.m8
    have g16 := ok.g16
    have gateAt : ∀ {Ha : Hp} (x : Nat), NetAt Ha a n g o ps → n.many ≤ x → x < n.many + n.gates.length → ∃ (k : Nat × Nat × Nat) (p : Addr), n.gates[x - n.many]? = some k ∧ Ha p = some (.tup (gV k)) ∧ atI (ps.map V.ref) (((x : Nat) : Int) - ((n.many : Nat) : Int)) = some (.ref p) := fun x NA h1 h2 => by
      obtain ⟨k, hk⟩ : ∃ k, n.gates[x - n.many]? = some k := ⟨_, List.getElem?_eq_getElem (by omega)⟩
      have hil : x - n.many < ps.length := by rw [NA.gs.1]; omega
      refine ⟨k, ps[x - n.many], hk, NA.gs.2 _ _ _ (List.getElem?_eq_getElem hil) hk, ?_⟩
      rw [show (((x : Nat) : Int) - ((n.many : Nat) : Int)) = ((x - n.many : Nat) : Int) by omega]
      exact atI_nat (by rw [List.getElem?_map, List.getElem?_eq_getElem hil]; rfl)
    refine ⟨_, (pss_cons (ps_set (i := 3) sc__law_wires.nd rfl (by first | exact Or.inl rfl | exact Or.inr rfl) (pe_c c__law_draw hr (by decide) (by rfl) (pa_cons (pv 0) (pa_cons pe_int pa_nil))))
      (pss_cons (ps_set (i := 4) sc__law_wires.nd rfl (by first | exact Or.inl rfl | exact Or.inr rfl) (pe_callB (cr_sortedSet rfl) (by rfl) T.b_sorted (by decide +kernel) (pa_cons (pe_callTy (cr_setN rfl) (by rfl) T.b_set (by decide +kernel) (pa_cons (pe_slice sl_tupA (pe_ix ix_tup (pe_ix ix_tup (pv 1) pe_int (fun _ _ => rfl)) (pe_op op_sub (pv 2) (pe_ix ix_tup (pv 1) pe_int (fun _ _ => rfl))) (fun _ _ => rfl)) (po_some pe_int) po_none) pa_nil)) pa_nil)))
      (pss_cons (ps_for PassesOwn.never rfl (pi_range1 (by rfl) T.b_range (pa_cons (pe_c c__law_draw hr (by decide) (by rfl) (pa_cons (pv 0) (pa_cons pe_int pa_nil))) pa_nil)) (pg_name (i := 5) sc__law_wires.nd rfl (by first | exact Or.inl rfl | exact Or.inr rfl))
        (pss_cons (ps_set (i := 6) sc__law_wires.nd rfl (by first | exact Or.inl rfl | exact Or.inr rfl) (pe_ix ix_list (pv 4) (pe_c c__law_draw hr (by decide) (by rfl) (pa_cons (pv 0) (pa_cons (pe_callB call_len_seq (by rfl) T.b_len (by decide +kernel) (pa_cons (pv 4) pa_nil)) pa_nil))) (fun _ _ => rfl)))
      (pss_one (ps_if (pt_cmpR op_ge (pv 6) (pe_ix ix_tup (pv 1) pe_int (fun _ _ => rfl)) (nomark _)) (pss_one (ps_set (i := 4) sc__law_wires.nd rfl (by first | exact Or.inl rfl | exact Or.inr rfl) (pe_callB (cr_sortedSet rfl) (by rfl) T.b_sorted (by decide +kernel) (pa_cons (pe_callTy (cr_setN rfl) (by rfl) T.b_set (by decide +kernel) (pa_cons (pe_op op_cat (pe_lc (own := [("_law_wire", 7)]) (g := gName 7)  rfl sc__law_wires.nd (pi_list (pv 4)) (blkOk_by (own := [("_law_wire", 7)]) (N := ["_law_deck_here", "_law_net", "_law_gate", "_law_way", "_law_wires_here", "_law_turn", "_law_one", "_law_wire"]) (sc := defScope s__law_wires) (by decide +kernel)) (fun _ _ _ _ _ => (pg_name (i := 7) sc__law_wires.nd rfl (by first | exact Or.inl rfl | exact Or.inr rfl))) (fun _ _ _ _ _ => (pts_one (pt_cmpR op_ne (pv 7) (pv 6) (nomark _)))) (fun _ _ _ _ _ => (pv 7))) (pe_callTy call_list_of (by rfl) T.b_list (by decide +kernel) (pa_cons (pe_slice sl_tupA (pe_ix ix_tup (pe_ix ix_tup (pv 1) pe_int (fun _ _ => rfl)) (pe_op op_sub (pv 6) (pe_ix ix_tup (pv 1) pe_int (fun _ _ => rfl))) (fun _ _ => rfl)) (po_some pe_int) po_none) pa_nil))) pa_nil)) pa_nil)))) pss_nil))))
      (pss_cons (ps_if (pt_cmpR op_lt (pv 3) pe_int (nomark _)) (pss_one (ps_set (i := 4) sc__law_wires.nd rfl (by first | exact Or.inl rfl | exact Or.inr rfl) (pe_callB (cr_sortedSet rfl) (by rfl) T.b_sorted (by decide +kernel) (pa_cons (pe_callTy (cr_setN rfl) (by rfl) T.b_set (by decide +kernel) (pa_cons (pe_op op_cat (pv 4) (pe_lst (pa_cons (pe_c c__law_draw hr (by decide) (by rfl) (pa_cons (pv 0) (pa_cons (pv 2) pa_nil))) pa_nil))) pa_nil)) pa_nil)))) pss_nil)
      (pss_cons (ps_if (pt_cmpR op_eq (pv 3) pe_int (nomark _)) (pss_one (ps_set (i := 4) sc__law_wires.nd rfl (by first | exact Or.inl rfl | exact Or.inr rfl) (pe_revL (pv 4)))) pss_nil)
      (pss_cons (ps_if (pt_cmpR op_eq (pv 3) pe_int (nomark _)) (pss_one (ps_set (i := 4) sc__law_wires.nd rfl (by first | exact Or.inl rfl | exact Or.inr rfl) (pe_op op_cat (pv 4) (pe_lst (pa_cons (pe_op op_add (pv 2) (pe_c c__law_draw hr (by decide) (by rfl) (pa_cons (pv 0) (pa_cons pe_int pa_nil)))) pa_nil))))) pss_nil)
      (pss_cons (ps_if (PW.pt (pw_and (pt_cmpR op_eq (pv 3) pe_int (nomark _)) (pw_and1 (pt_cmpR op_gt (pe_callB call_len_seq (by rfl) T.b_len (by decide +kernel) (pa_cons (pv 4) pa_nil)) pe_int (nomark _))))) (pss_one (ps_set (i := 4) sc__law_wires.nd rfl (by first | exact Or.inl rfl | exact Or.inr rfl) (pe_slice sl_list (pv 4) (po_some pe_int) po_none))) pss_nil)
      (pss_one (ps_ret (pv 4)))))))))), ?_⟩
    clear hr
    refine ⟨_, rfl, W, C, 8, rfl, wd0, by decide, by decide, fun way H0 y0 y1 w0 => ?_⟩
    have N := N0.mono fun b xs e => wd0.tup w0 e
    have wd := w0.wl
    obtain ⟨k, pk, hk, hpk, hat⟩ := gateAt gt N hgm hgw
    refine ⟨_, rfl, a, _, 1, _, rfl, rfl, SqT.of N.top, at1, _, rfl, _, rfl, a, _, 0, _, rfl, rfl, SqT.of N.top, at0, _, _, rfl, rfl, g, _, _, _, rfl, rfl, SqT.of N.gt, hat, 1, rfl, ?_⟩
    unfold tNoPart
    refine slA (lo := some ((1 : Nat) : Int)) (hi := none) hpk fun r H1 s1 h1 => ?_
    rw [cut_lo] at h1
    have h1' : H1 r = some (.tup ([k.2.1, k.2.2].map nV)) := h1
    refine ⟨r, [k.2.1, k.2.2], rfl, .inr (SqT.of h1'), (by show 2 ≤ 60; decide), fun sq c nsq hc => ?_⟩
    have s2 := Same.new (o := SetO w sq (fun j => decide (j ∈ [k.2.1, k.2.2].map fun n : Nat => (n : Int))) c) nsq
    refine ⟨sq, _, c, rfl, upd_same, (by have : c ≤ 2 := hc; omega), fun out l pw hm hl nl => ?_⟩
    obtain ⟨ys, rfl, yr, ym⟩ := sorted_set_nat pw hm
    rw [map_nV]
    have s3 := Same.new (o := .lst (ys.map nV)) nl
    have wk3 : Wk2 W C H0 _ := (Wk2.refl wd).same ((s1.trans s2).trans s3)
    have c3 : CutOk n gt ys := ⟨pos_of_mem ((ym _).mpr List.mem_cons_self), fun y hy => by
      have := (ym y).mp hy
      rcases List.mem_cons.mp this with e | e
      · exact place_lt ok hgm hk (.inl e)
      · exact place_lt ok hgm hk (.inr (List.mem_singleton.mp e)), sep_first hgm hk fun z hz => (ym z).mpr (by rcases hz with rfl | rfl <;> simp), yr⟩
    have nlW : NL W C H0 l := nl_of ((Wk2.refl wd).same (s1.trans s2)) nl
    have hl3 : upd (upd H1 sq (SetO w sq (fun j => decide (j ∈ [k.2.1, k.2.2].map fun n : Nat => (n : Int))) c)) l (.lst (ys.map nV)) l = some (.lst (ys.map nV)) := upd_same
    refine ⟨_, rfl, W, C, 9, rfl, wk3.wl, by decide, by decide, fun d H4 d0 d1 k4 => ⟨_, rfl, by omega, by omega, ?_⟩⟩
    have wk4 := wk3.nxt k4
    have hl4 := k4.at_ nlW.1 hl3
    refine for_range (lo := 0) (n := d.toNat) (fun i σ H' => ∃ l ys x4 x5 x6, σ = [some (.ref W), some (.ref a), some (nV gt), some (.int way), some (.ref l), x4, x5, x6] ∧ Wk2 W C H0 H' ∧ H' l = some (.lst (ys.map nV)) ∧ NL W C H0 l ∧ CutOk n gt ys) ⟨l, ys, none, none, none, rfl, wk4, hl4, nlW, c3⟩ ?_ ?_
    · rintro i σ H5 hi ⟨l, ys, x4, x5, x6, rfl, wk5, hl5, nlW5, c5⟩
      have y0 := c5.ne
      have y24 := c5.short ok hgw
      refine ⟨_, rfl, _, rfl, _, rfl, l, _, rfl, .inl (SqL.of hl5), W, C, _, rfl, wk5.wl, by rw [List.length_map]; omega, by rw [List.length_map]; omega, fun dd H6 e0 e1 k6 => ?_⟩
      rw [List.length_map] at e1
      obtain ⟨m, rfl⟩ := Int.eq_ofNat_of_zero_le e0
      have wk6 := wk5.nxt k6
      have hl6 := k6.at_ nlW5.1 hl5
      have N6 := N.mono fun b xs e => wd.tup wk6 e
      have hm' : m < ys.length := by omega
      refine ⟨l, _, _, _, rfl, rfl, SqL.of hl6, atI_nat (nat_at hm'), ?_⟩
      have hhm := getD_mem hm'
      generalize ys.getD m 0 = h at hhm ⊢
      have hhg := c5.lt h hhm
      refine ⟨_, rfl, _, rfl, a, _, 0, _, rfl, rfl, SqT.of N6.top, at0, _, _, rfl, rfl, _, rfl, ite2 (fun hg => ?_) (fun hg => ?_)⟩
      · have hg' : n.many ≤ h := by
          have := of_decide_eq_true hg
          omega
        refine ⟨_, rfl, l, rfl, ⟨_, SqL.of hl6⟩, fun L nL => ?_⟩
        refine lc_list (K := K) (a := l) (xs := ys.map nV) (fun k H' => Own H6 H' L (((ys.take k).filter fun y => decide (y ≠ h)).map nV)) ⟨Same.new nL, upd_same, nL⟩ (fun k H' _ o => SqL.of (o.sm _ _ hl6)) ?_ ?_
        · rintro j x H7 hx o7
          have hj : j < ys.length := by
            have := (List.getElem?_eq_some_iff.mp hx).1
            rwa [List.length_map] at this
          rw [nat_at hj] at hx
          cases hx
          have ef : (ys.take (j + 1)).filter (fun y => decide (y ≠ h)) = (ys.take j).filter (fun y => decide (y ≠ h)) ++ (if decide (ys.getD j 0 ≠ h) = true then [ys.getD j 0] else []) := by
            rw [List.take_add_one, List.filter_append, List.getD_eq_getElem?_getD, List.getElem?_eq_getElem hj, Option.toList_some, List.filter_cons]
            rfl
          refine ⟨rfl, _, rfl, _, rfl, rfl, _, rfl, ite2 (fun hne => ?_) (fun hne => ?_)⟩
          · have hne' : ys.getD j 0 ≠ h := fun z => by
              rw [z, decide_eq_true (rfl : nV h = nV h)] at hne
              cases hne
            refine ⟨_, rfl, _, o7.at_, ?_, ?_⟩
            · rw [List.length_map]
              exact Nat.lt_of_le_of_lt (List.length_filter_le _ _) (by rw [List.length_take]; exact small1000 (by omega))
            · rw [ef, if_pos (decide_eq_true hne'), List.map_append]
              exact o7.app
          · have hne' : ys.getD j 0 = h := Classical.not_not.mp fun z => hne (by
              rw [decide_eq_false (fun y => z (by have := V.int.inj y; omega))]
              rfl)
            show Own H6 H7 L _
            rw [ef, if_neg (by rw [decide_eq_false (fun z => z hne')]; exact Bool.false_ne_true), List.append_nil]
            exact o7
        · rintro H7 o7
          rw [List.length_map, List.take_length] at o7
          have wk7 := wk6.same o7.sm
          have N7 := N.mono fun b xs e => wd.tup wk7 e
          obtain ⟨k2, pk2, hk2, hpk2, hat2⟩ := gateAt h N7 hg' (by omega)
          refine ⟨_, rfl, a, _, 1, _, rfl, rfl, SqT.of N7.top, at1, _, rfl, _, rfl, a, _, 0, _, rfl, rfl, SqT.of N7.top, at0, _, _, rfl, rfl, g, _, _, _, rfl, rfl, SqT.of N7.gt, hat2, 1, rfl, ?_⟩
          refine slA (lo := some ((1 : Nat) : Int)) (hi := none) hpk2 fun r2 H8 s8 h8 => ?_
          rw [cut_lo] at h8
          have h8' : H8 r2 = some (.tup ([k2.2.1, k2.2.2].map nV)) := h8
          refine ⟨r2, _, rfl, .inr (SqT.of h8'), fun l8 n8 => ?_⟩
          have s9 := Same.new (o := .lst ([k2.2.1, k2.2.2].map nV)) n8
          have fl : (ys.filter fun y => decide (y ≠ h)).length ≤ 24 := Nat.le_trans (List.length_filter_le _ _) y24
          refine ⟨L, l8, _, _, rfl, rfl, s9 _ _ (s8 _ _ o7.at_), upd_same, ?_, fun l9 n9 => ?_⟩
          · rw [List.length_map, List.length_map]
            show _ + 2 ≤ sizeLine
            exact small _ (by omega)
          rw [← List.map_append]
          have s10 := Same.new (o := .lst (((ys.filter fun y => decide (y ≠ h)) ++ [k2.2.1, k2.2.2]).map nV)) n9
          refine ⟨l9, _, rfl, .inl (SqL.of upd_same), by rw [List.length_append]; show _ + 2 ≤ 60; omega, fun sq2 c2 nsq2 hc2 => ?_⟩
          have hc2' : c2 ≤ 26 := by
            rw [List.length_append] at hc2
            have : [k2.2.1, k2.2.2].length = 2 := rfl
            omega
          have s11 := Same.new (o := SetO w sq2 (fun j => decide (j ∈ ((ys.filter fun y => decide (y ≠ h)) ++ [k2.2.1, k2.2.2]).map fun n : Nat => (n : Int))) c2) nsq2
          refine ⟨sq2, _, c2, rfl, upd_same, by omega, fun out2 l12 pw2 hm2 hl2 nl12 => ?_⟩
          obtain ⟨zs, rfl, zr, zm⟩ := sorted_set_nat pw2 hm2
          rw [map_nV]
          have s12 := Same.new (o := .lst (zs.map nV)) nl12
          have wk11 := ((wk7.same s8).same ((s9.trans s10).trans s11))
          have mem : ∀ z, z ∈ zs ↔ (z ∈ ys ∧ z ≠ h) ∨ z = k2.2.1 ∨ z = k2.2.2 := fun z => by
            rw [zm, List.mem_append, List.mem_filter, decide_eq_true_iff, List.mem_cons, List.mem_singleton]
          have p1 := place_lt ok hg' hk2 (.inl rfl)
          have p2 := place_lt ok hg' hk2 (.inr rfl)
          refine ⟨l12, zs, some (.int (0 + (i : Int))), some (nV h), x6, rfl, wk11.same s12, upd_same, nl_of wk11 nl12, pos_of_mem ((mem k2.2.1).mpr (.inr (.inl rfl))), fun y hy => ?_, sep_step c5.sep (fun z => Nat.lt_irrefl _ (c5.lt _ z)) hg' hk2 (fun z hz hne => (mem z).mpr (.inl ⟨hz, hne⟩)) (fun z hz => (mem z).mpr (.inr hz)), zr⟩
          rcases (mem y).mp hy with ⟨h1, _⟩ | rfl | rfl
          · exact c5.lt y h1
          · omega
          · omega
      · exact ⟨l, ys, some (.int (0 + (i : Int))), some (nV h), x6, rfl, wk6, hl6, nlW5, c5⟩
    · rintro σ H5 ⟨l, ys, x4, x5, x6, rfl, wk5, hl5, nlW5, c5⟩
      have st5 : 0 < ys.length ∧ ys.length ≤ 24 ∧ ∀ y ∈ ys, y < 100 := ⟨c5.ne, c5.short ok hgw, fun y hy => by have := c5.lt y hy; omega⟩
      clear c5 wk4 wk3 hl4 hl3 s3 c3 nlW
      with_reducible refine nx_seq rfl ?_
      with_reducible refine seq_cut (fun σ H' => ∃ (l : Addr) (ys : List Nat) (x5 x6 x7 : Option V), σ = [some (.ref W), some (.ref a), some (nV gt), some (.int way), some (.ref l), x5, x6, x7] ∧ Wk2 W C H0 H' ∧ H' l = some (.lst (ys.map nV)) ∧ NL W C H0 l ∧ 0 < ys.length ∧ ys.length ≤ 40 ∧ ∀ y ∈ ys, y < 100) (fun B hB => ?_) ?_
      · obtain ⟨l0, l24, lt⟩ := st5
        refine ⟨_, rfl, _, _, rfl, rfl, _, rfl, ite2 (fun hw3 => ?_) (fun hw3 => hB _ _ ⟨l, ys, _, _, _, rfl, wk5, hl5, nlW5, l0, by omega, lt⟩)⟩
        have m1 := ok.m1
        refine ⟨_, rfl, _, rfl, _, rfl, W, C, _, rfl, wk5.wl, by omega, by omega, fun e H6 e0 e1 k6 => ⟨small 1, fun q1 nq1 => ?_⟩⟩
        obtain ⟨e, rfl⟩ := Int.eq_ofNat_of_zero_le e0
        have wk6 := wk5.nxt k6
        have hl6 := k6.at_ nlW5.1 hl5
        have s7 := Same.new (o := .lst [nV e]) nq1
        refine ⟨l, q1, _, _, rfl, rfl, s7 _ _ hl6, upd_same, ?_, fun q2 nq2 => ?_⟩
        · rw [List.length_map]
          exact Nat.le_trans (show _ ≤ 100 by show _ + 1 ≤ 100; omega) (by decide)
        have ea : ys.map nV ++ [V.int ((e : Nat) : Int)] = (ys ++ [e]).map nV := (List.map_append (f := nV) (l₁ := ys) (l₂ := [e])).symm
        rw [ea]
        have s8 := Same.new (o := .lst ((ys ++ [e]).map nV)) nq2
        refine ⟨q2, ys ++ [e], rfl, .inl (SqL.of upd_same), by rw [List.length_append]; show _ + 1 ≤ 60; omega, fun sq c nsq hc => ?_⟩
        have s9 := Same.new (o := SetO w sq (fun j => decide (j ∈ (ys ++ [e]).map fun n : Nat => (n : Int))) c) nsq
        have hc' : c ≤ 25 := by
          rw [List.length_append] at hc
          have : [e].length = 1 := rfl
          omega
        refine ⟨sq, _, c, rfl, upd_same, by omega, fun out l7 pw hm hl nl7 => ?_⟩
        obtain ⟨zs, rfl, zr, zm⟩ := sorted_set_nat pw hm
        rw [map_nV]
        have s10 := Same.new (o := .lst (zs.map nV)) nl7
        have wk9 := (wk6.same s7).same (s8.trans s9)
        have zl : zs.length = c := by rw [List.length_map] at hl; exact hl
        refine hB _ _ ⟨l7, zs, _, _, _, rfl, wk9.same s10, upd_same, nl_of wk9 nl7, pos_of_mem ((zm e).mpr (List.mem_append.mpr (.inr List.mem_cons_self))), by omega, fun y hy => ?_⟩
        rcases List.mem_append.mp ((zm y).mp hy) with h | h
        · exact lt y h
        · rw [List.mem_singleton.mp h]
          omega
      · clear st5 wk5 hl5 nlW5 l ys x4 x5 x6
        rintro σ H5 ⟨l, ys, x5, x6, x7, rfl, wk5, hl5, nlW5, l0, l24, lt⟩
        with_reducible refine seq_cut (fun σ H' => ∃ (l : Addr) (ys : List Nat) (x5 x6 x7 : Option V), σ = [some (.ref W), some (.ref a), some (nV gt), some (.int way), some (.ref l), x5, x6, x7] ∧ Wk2 W C H0 H' ∧ H' l = some (.lst (ys.map nV)) ∧ NL W C H0 l ∧ 0 < ys.length ∧ ys.length ≤ 40 ∧ ∀ y ∈ ys, y < 100) (fun B hB => ?_) ?_
        · refine ⟨_, rfl, rfl, _, rfl, ite2 (fun hw3 => ?_) (fun hw3 => hB _ _ ⟨l, ys, _, _, _, rfl, wk5, hl5, nlW5, l0, by omega, lt⟩)⟩
          refine ⟨_, rfl, l, _, rfl, SqL.of hl5, fun rp nr => ?_⟩
          have s6 := Same.new (o := .lst (ys.map nV).reverse) nr
          refine hB _ _ ⟨rp, ys.reverse, _, _, _, rfl, wk5.same s6, by rw [upd_same, List.map_reverse], nl_of wk5 nr, by rw [List.length_reverse]; exact l0, by rw [List.length_reverse]; exact l24, fun y hy => lt y (List.mem_reverse.mp hy)⟩
        · clear wk5 hl5 nlW5 l0 l24 lt l ys x5 x6 x7
          rintro σ H5 ⟨l, ys, x5, x6, x7, rfl, wk5, hl5, nlW5, l0, l24, lt⟩
          with_reducible refine seq_cut (fun σ H' => ∃ (l : Addr) (ys : List Nat) (x5 x6 x7 : Option V), σ = [some (.ref W), some (.ref a), some (nV gt), some (.int way), some (.ref l), x5, x6, x7] ∧ Wk2 W C H0 H' ∧ H' l = some (.lst (ys.map nV)) ∧ NL W C H0 l ∧ 0 < ys.length ∧ ys.length ≤ 50 ∧ ∀ y ∈ ys, y < 100) (fun B hB => ?_) ?_
          · refine ⟨_, rfl, rfl, _, rfl, ite2 (fun hw3 => ?_) (fun hw3 => hB _ _ ⟨l, ys, _, _, _, rfl, wk5, hl5, nlW5, l0, by omega, lt⟩)⟩
            refine ⟨_, rfl, _, rfl, _, rfl, W, C, 2, rfl, wk5.wl, by decide, by decide, fun e H6 e0 e1 k6 => ⟨_, _, rfl, rfl, small 1, fun q1 nq1 => ?_⟩⟩
            obtain ⟨e, rfl⟩ := Int.eq_ofNat_of_zero_le e0
            have wk6 := wk5.nxt k6
            have hl6 := k6.at_ nlW5.1 hl5
            have ev : V.int (((gt : Nat) : Int) + ((e : Nat) : Int)) = nV (gt + e) := congrArg V.int (by omega)
            dsimp -proj only
            rw [ev]
            have s7 := Same.new (o := .lst [nV (gt + e)]) nq1
            refine ⟨l, q1, _, _, rfl, rfl, s7 _ _ hl6, upd_same, ?_, fun q2 nq2 => ?_⟩
            · rw [List.length_map]
              exact Nat.le_trans (show _ ≤ 100 by show _ + 1 ≤ 100; omega) (by decide)
            have ea : ys.map nV ++ [nV (gt + e)] = (ys ++ [gt + e]).map nV := (List.map_append (f := nV) (l₁ := ys) (l₂ := [gt + e])).symm
            rw [ea]
            have s8 := Same.new (o := .lst ((ys ++ [gt + e]).map nV)) nq2
            have wk7 := wk6.same s7
            refine hB _ _ ⟨q2, ys ++ [gt + e], _, _, _, rfl, wk7.same s8, upd_same, nl_of wk7 nq2, by rw [List.length_append]; omega, by rw [List.length_append]; show _ + 1 ≤ 50; omega, fun y hy => ?_⟩
            rcases List.mem_append.mp hy with h | h
            · exact lt y h
            · rw [List.mem_singleton.mp h]
              omega
          · clear wk5 hl5 nlW5 l0 l24 lt l ys x5 x6 x7
            rintro σ H5 ⟨l, ys, x5, x6, x7, rfl, wk5, hl5, nlW5, l0, l24, lt⟩
            with_reducible refine seq_cut (fun σ H' => ∃ (l : Addr) (ys : List Nat) (x5 x6 x7 : Option V), σ = [some (.ref W), some (.ref a), some (nV gt), some (.int way), some (.ref l), x5, x6, x7] ∧ Wk2 W C H0 H' ∧ H' l = some (.lst (ys.map nV)) ∧ NL W C H0 l ∧ 0 < ys.length ∧ ys.length ≤ 50 ∧ ∀ y ∈ ys, y < 100) (fun B hB => ?_) ?_
            · refine ⟨_, rfl, rfl, _, rfl, ite2 (fun hw3 => ?_) (fun hw3 => hB _ _ ⟨l, ys, _, _, _, rfl, wk5, hl5, nlW5, l0, by omega, lt⟩)⟩
              refine ⟨_, rfl, l, _, rfl, .inl (SqL.of hl5), _, _, rfl, rfl, _, rfl, ite2 (fun h2 => ?_) (fun h2 => hB _ _ ⟨l, ys, _, _, _, rfl, wk5, hl5, nlW5, l0, by omega, lt⟩)⟩
              have h2 := of_decide_eq_true h2
              rw [List.length_map] at h2
              refine ⟨_, rfl, _, rfl, l, _, rfl, SqL.of hl5, fun R nR => ?_⟩
              have ec : cutV (ys.map nV) (some 1) none = (ys.drop 1).map nV := by
                rw [show (some (1 : Int)) = some ((1 : Nat) : Int) from rfl, cut_lo, ← List.map_drop]
              rw [ec]
              have s6 := Same.new (o := .lst ((ys.drop 1).map nV)) nR
              exact hB _ _ ⟨R, ys.drop 1, _, _, _, rfl, wk5.same s6, upd_same, nl_of wk5 nR, by rw [List.length_drop]; omega, by rw [List.length_drop]; omega, fun y hy => lt y (List.mem_of_mem_drop hy)⟩
            · clear wk5 hl5 nlW5 l0 l24 lt l ys x5 x6 x7
              rintro σ H5 ⟨l, ys, x5, x6, x7, rfl, wk5, hl5, nlW5, l0, l24, lt⟩
              exact ⟨_, rfl, q l H5 ys hl5 nlW5.1 (wk_none ((Wk2.refl wd0).nxt w0) nlW5.2) ((Wk2.refl wd0).nxt w0 |>.nxt wk5) l0 (by omega) lt⟩
end
end K80
set_option Elab.async false
set_option linter.all false
set_option maxRecDepth 100000
set_option maxHeartbeats 4000000
namespace K80
open PySem PySem.Spec PyProof.Rows L2 GX
open C8 (Cal pe_c pe_gc Met Mak)
-- @dict CHANGES
-- @no CHANGES 0 ""
-- @no CHANGES 1 "0"
-- @no CHANGES 2 "way"
-- @no CHANGES 3 "Kind"
-- @no CHANGES 4 "leads"
-- @dict QUESTIONS
-- @no QUESTIONS 0 "gate"
-- @no QUESTIONS 1 "kind"
-- @no QUESTIONS 2 "lead"
-- @no QUESTIONS 3 "less"
-- @no QUESTIONS 4 "outs"
-- @exc NoText
-- @exc NoDepth
-- @exc TooMany
-- @exc NoMatch
-- @exc NoChange made
-- @exc NoRow made
-- @sub NoChange NoChange true
-- @sub NoRow NoRow true
-- @sub NoRow ValueError true
-- @sub NoRow NoText false
-- @sub NoRow NoDepth false
-- @sub NoRow TooMany false
-- @sub NoRow NoMatch false
-- @sub NoRow NoChange false
-- @cls Keeper k:i,held:N,kept:t[t[t[i]]]
-- @cls Desk keeper:OKeeper
-- @alt rises list par=l[i]
-- @alt cut_masks tup par=N,t[i],i vars=masks:DL,wire:i
-- @alt one_deeper tup par=t[i],t[i]
-- @alt _law_written tup par=t[i],s
section
variable {P : Program} {w : World} {K : PySem.W.Frag} {mg : Str → Option Value} {base : Heap} {Ts : List Addr} {PL CKeeper : Addr}
open TL
theorem int_100 : ∀ n, n < 100 → PySem.intText? (mkS (dgs n)) = some ((n : Nat) : Int) ∧ (mkS (dgs n)).length ≤ 640 := by decide +kernel
theorem way_split {ys : List Nat} (h0 : 0 < ys.length) (h : ∀ y ∈ ys, y < 100) : Txt.split (mkS (joinL [32] (ys.map dgs))) (Str.ofString " ") = ys.map fun y => mkS (dgs y) := by
  refine map_tl_inj ?_
  have e : (Txt.split (mkS (joinL [32] (ys.map dgs))) (Str.ofString " ")).map tl = spl [32] 0 [] (tl (mkS (joinL [32] (ys.map dgs)))) := split_spl _ _ (by decide +kernel) (kind_ok (by decide +kernel))
  have e1 : spl [32] 0 [] (joinL [32] (ys.map dgs)) = ys.map dgs := words_join (fun z => by have e := congrArg List.length z; rw [List.length_map] at e; have : ([] : List (List Nat)).length = 0 := rfl; omega) fun w hw => by
    obtain ⟨y, hy, rfl⟩ := List.mem_map.mp hw
    exact (dgs_100 y (h y hy)).2.1
  rw [e, tl_mkS, e1, List.map_map]
  rfl
def spWayR : Sp := fun vs H Q _ => ∃ (a l : Addr) (n : Net) (g o : Addr) (ps : List Addr) (gt : Nat) (xs ys : List Nat), vs = [.ref a, nV gt, .ref l, .str (mkS (joinL [32] (ys.map dgs)))] ∧ NetAt H a n g o ps ∧ n.Ok ∧ gt < n.many + n.gates.length ∧ H l = some (.lst (xs.map nV)) ∧ xs.length ≤ 100 ∧ Way n gt ys ∧ ys.length ≤ 100 ∧ (∀ y ∈ ys, y ≤ gt ∧ y ∉ xs) ∧ ∀ H', Same H H' → Q (.bl true) H'
theorem ok_wayr {f c : Addr} (D : Dfn K mg "_law_way_right" s__law_way_right f c) (T : Txt mg) (c__law_written : Cal P w K mg base 1 "_law_written" spWritten []) : Cal P w K mg base 2 "_law_way_right" spWayR [] := by
  refine cal D (fun _ _ _ _ _ _ us hl => match us, hl with | [_, _, _, _], _ => rfl) sc__law_way_right (fun vs H Q E h => ?_) (fun A outer s H vs Q E hr h => ?_)
  · obtain ⟨a, l, n, g, o, ps, gt, xs, ys, rfl, _⟩ := h
    rfl
  · obtain ⟨a, l, n, g, o, ps, gt, xs, ys, rfl, N, ok, hgt, hl, xl, WY, yl, yx, q⟩ := h
    refine ⟨_, (pss_cons (ps_setLc (i := 4) (own := [("_law_word", 5)]) (g := gName 5) (tt := tYes) rfl sc__law_way_right.nd rfl rfl (sw_true rfl rfl rfl (by decide +kernel)) (pi_list (pe_split (pv 3) pe_str)) (blkOk_by (own := [("_law_word", 5)]) (N := ["_law_net", "_law_gate", "_law_wires_here", "_law_told_here", "_law_way", "_law_word", "_law_ahead", "_law_here", "_law_wire"]) (sc := defScope s__law_way_right) (by decide +kernel)) (fun _ _ _ _ _ => (pg_name (i := 5) sc__law_way_right.nd rfl (by first | exact Or.inl rfl | exact Or.inr rfl))) (fun _ _ _ _ _ => pts_nil) (fun _ _ _ _ _ => (pe_callTy call_int_str (by rfl) T.b_int (by decide +kernel) (pa_cons (pv 5) pa_nil))))
      (pss_cons (ps_if (PW.pt (pw_or (pt_cmpR op_ne (pv 3) (pe_c c__law_written hr (by decide) (by rfl) (pa_cons (pv 4) (pa_cons pe_str pa_nil))) (nomark _)) (pw_or (pt_cmpR op_ge (pe_ix ix_list (pv 4) pe_int (fun _ _ => rfl)) (pe_ix ix_tup (pv 0) pe_int (fun _ _ => rfl)) (nomark _)) (pw_or1 (pt_cmpR op_ne (pe_ix ix_list (pv 4) (pe_un un_neg pe_int) (fun _ _ => rfl)) (pv 1) (nomark _)))))) (pss_one (ps_ret pe_bl)) pss_nil)
      (pss_cons (ps_for PassesOwn.never rfl (pi_zip (by rfl) T.b_zip (pa_cons (pe_slice sl_list (pv 4) po_none (po_some (pe_un un_neg pe_int))) (pa_cons (pe_slice sl_list (pv 4) (po_some pe_int) po_none) pa_nil))) (pg_tup rfl (pgs_cons (pg_name (i := 6) sc__law_way_right.nd rfl (by first | exact Or.inl rfl | exact Or.inr rfl)) (pgs_cons (pg_name (i := 7) sc__law_way_right.nd rfl (by first | exact Or.inl rfl | exact Or.inr rfl)) pgs_nil)))
        (pss_one (ps_if (PW.pt (pw_or (pt_not (pt_chain op_le op_le (pe_ix ix_tup (pv 0) pe_int (fun _ _ => rfl)) (pv 7) (pv 1))) (pw_or1 (pt_cmpR op_notIn_seq (pv 6) (pe_slice sl_tupA (pe_ix ix_tup (pe_ix ix_tup (pv 0) pe_int (fun _ _ => rfl)) (pe_op op_sub (pv 7) (pe_ix ix_tup (pv 0) pe_int (fun _ _ => rfl))) (fun _ _ => rfl)) (po_some pe_int) po_none) (by rfl))))) (pss_one (ps_ret pe_bl)) pss_nil)))
      (pss_one (ps_ret (pe_cmpR (op_eqD hr.units) (pe_lc (own := [("_law_wire", 8)]) (g := gName 8)  rfl sc__law_way_right.nd (pi_list (pv 4)) (blkOk_by (own := [("_law_wire", 8)]) (N := ["_law_net", "_law_gate", "_law_wires_here", "_law_told_here", "_law_way", "_law_word", "_law_ahead", "_law_here", "_law_wire"]) (sc := defScope s__law_way_right) (by decide +kernel)) (fun _ _ _ _ _ => (pg_name (i := 8) sc__law_way_right.nd rfl (by first | exact Or.inl rfl | exact Or.inr rfl))) (fun _ _ _ _ _ => (pts_one (pt_cmpR (op_in_seqK (K := K)) (pv 8) (pv 2) (by rfl)))) (fun _ _ _ _ _ => (pv 8))) (pe_lst pa_nil) (nomark _))))))), ?_⟩
    clear hr
    have m8 := ok.m8
    have g16 := ok.g16
    have ylt : ∀ y ∈ ys, y < 100 := fun y hy => by have := (yx y hy).1; omega
    have hlen : (mkS (joinL [32] (ys.map dgs))).length ≤ 300 := by
      rw [len_mkS]
      refine Nat.le_trans (len_joinL (b := 2) fun w hw => ?_) ?_
      · obtain ⟨y, hy, rfl⟩ := List.mem_map.mp hw
        exact (dgs_100 y (ylt y hy)).2.2.2.1
      · rw [List.length_map]
        show ys.length * 3 ≤ 300
        omega
    have hsz : (302 : Nat) ≤ sizeLine := by decide
    refine ⟨_, rfl, ⟨_, rfl⟩, _, _, rfl, rfl, by decide +kernel, by omega, fun L nL => ?_⟩
    rw [way_split WY.ne ylt]
    have s1 := Same.new (o := .lst ((ys.map fun y => mkS (dgs y)).map V.str)) nL
    have hL : upd H L (.lst ((ys.map fun y => mkS (dgs y)).map V.str)) L = some (.lst ((ys.map fun y => mkS (dgs y)).map V.str)) := upd_same
    generalize upd H L (.lst ((ys.map fun y => mkS (dgs y)).map V.str)) = H1 at s1 hL ⊢
    refine ⟨L, rfl, ⟨_, SqL.of hL⟩, fun M nM => ?_⟩
    refine lc_list (K := K) (a := L) (xs := (ys.map fun y => mkS (dgs y)).map V.str) (fun i H' => Own H1 H' M ((ys.take i).map nV)) ⟨Same.new nM, upd_same, nM⟩ (fun i H' _ o' => SqL.of (o'.sm _ _ hL)) ?_ ?_
    · rintro i z H2 hz o2
      rw [List.getElem?_map, List.getElem?_map] at hz
      obtain ⟨z', hz', rfl⟩ := Option.map_eq_some_iff.mp hz
      obtain ⟨y, hy, rfl⟩ := Option.map_eq_some_iff.mp hz'
      obtain ⟨i1, i2⟩ := int_100 y (ylt y (List.mem_of_getElem? hy))
      refine ⟨rfl, ?_⟩
      unfold tYes
      refine iteT ?_
      refine ⟨_, rfl, _, _, rfl, i1, i2, _, o2.at_, by rw [List.length_map, List.length_take]; exact small256 (by omega), ?_⟩
      rw [List.take_add_one, hy, List.map_append]
      exact o2.app
    rintro H2 o2
    rw [List.length_map, List.length_map, List.take_length] at o2
    have hM := o2.at_
    have s2 := s1.trans o2.sm
    have N2 := N.same s2
    clear o2 nM nL hL s1
    refine ⟨_, rfl, _, rfl, M, ys, _, rfl, .inl hM, by omega, ylt, by decide +kernel, fun H3 s3 => ?_⟩
    have s23 := s2.trans s3
    have N3 := N2.same s3
    have hM3 := s3 _ _ hM
    have hl3 := s23 _ _ hl
    clear N2 hM
    rw [show tl (Str.ofString " ") = [32] by decide +kernel]
    refine ⟨rfl, _, rfl, ?_⟩
    rw [decide_eq_true (show V.str (mkS (joinL [32] (ys.map dgs))) = V.str (mkS (joinL [32] (ys.map dgs))) from rfl)]
    refine iteF ?_
    have y0 : (ys.map nV)[0]? = some (nV (ys.getD 0 0)) := natAt WY.ne
    refine ⟨_, rfl, M, _, 0, _, rfl, rfl, SqL.of hM3, (show atI (ys.map nV) ((0 : Nat) : Int) = _ from atI_nat y0), _, rfl, a, _, 0, _, rfl, rfl, SqT.of N3.top, at0, _, _, rfl, rfl, _, rfl, ?_⟩
    rw [decide_eq_false (show ¬ ((n.many : Nat) : Int) ≤ ((ys.getD 0 0 : Nat) : Int) by have := WY.first; omega)]
    refine iteF ?_
    have hlast : (ys.map nV)[(ys.map nV).length - 1]? = some (nV gt) := by
      have h := natAt (l := ys) (i := ys.length - 1) (by have := WY.ne; omega)
      rw [WY.last] at h
      rw [List.length_map]
      exact h
    refine ⟨_, rfl, _, rfl, M, _, -1, _, rfl, rfl, SqL.of hM3, atI_last hlast, _, rfl, rfl, _, rfl, ?_⟩
    rw [decide_eq_true (show nV gt = nV gt from rfl)]
    refine iteF ?_
    refine ⟨_, rfl, _, rfl, _, rfl, M, _, rfl, SqL.of hM3, fun R1 nR1 => ?_⟩
    rw [show cutV (ys.map nV) none (some (-1)) = (ys.take (ys.length - 1)).map nV from by rw [cut_neg _ (by rw [List.length_map]; exact WY.ne), List.length_map, List.map_take]]
    have s4 := Same.new (o := .lst ((ys.take (ys.length - 1)).map nV)) nR1
    have hR1 : upd H3 R1 (.lst ((ys.take (ys.length - 1)).map nV)) R1 = some (.lst ((ys.take (ys.length - 1)).map nV)) := upd_same
    generalize upd H3 R1 (.lst ((ys.take (ys.length - 1)).map nV)) = H4 at s4 hR1 ⊢
    refine ⟨_, rfl, _, rfl, M, _, rfl, SqL.of (s4 _ _ hM3), fun R2 nR2 => ?_⟩
    rw [show cutV (ys.map nV) (some 1) none = (ys.drop 1).map nV from by rw [show (some (1 : Int)) = some ((1 : Nat) : Int) from rfl, cut_lo, ← List.map_drop]]
    have s5 := Same.new (o := .lst ((ys.drop 1).map nV)) nR2
    have hR2 : upd H4 R2 (.lst ((ys.drop 1).map nV)) R2 = some (.lst ((ys.drop 1).map nV)) := upd_same
    have hR1 := s5 _ _ hR1
    have s45 := s4.trans s5
    generalize upd H4 R2 (.lst ((ys.drop 1).map nV)) = H5 at s45 hR1 hR2 ⊢
    have N5 := N3.same s45
    have hM5 := s45 _ _ hM3
    have hl5 := s45 _ _ hl3
    have s25 := s23.trans s45
    clear s4 s5 nR1 nR2 N3 hM3 hl3 s23 s3 s2 y0 hlast
    refine ⟨R1, R2, _, _, rfl, SqL.of hR1, SqL.of hR2, ?_⟩
    refine for_it (walk_zip (K := K) (a := R1) (b := R2) (n := ys.length - 1) (xs := (ys.take (ys.length - 1)).map nV) (ys := (ys.drop 1).map nV) (by rw [List.length_map, List.length_map, List.length_take, List.length_drop]; omega)) (fun i σ H' => ∃ (x5 x6 x7 x8 : Option V), σ = [some (.ref a), some (nV gt), some (.ref l), some (.str (mkS (joinL [32] (ys.map dgs)))), some (.ref M), x5, x6, x7, x8] ∧ Same H5 H') ⟨_, _, _, _, rfl, Same.refl _⟩ (fun i σ H' _ h => by obtain ⟨_, _, _, _, _, h⟩ := h; exact ⟨SqL.of (h _ _ hR1), SqL.of (h _ _ hR2)⟩) ?_ ?_
    · rintro i y σ H6 H7 hi ⟨x5, x6, x7, x8, rfl, s6⟩ ⟨T', v1, v2, rfl, nT, rfl, e1, e2⟩
      have hi2 : i + 1 < ys.length := by omega
      have ev1 : v1 = nV (ys.getD i 0) := by
        have h := natAt (l := ys) (i := i) (by omega)
        have e1 : ((ys.take (ys.length - 1)).map nV)[i]? = some v1 := e1
        rw [List.map_take, List.getElem?_take, if_pos (by omega), h] at e1
        exact (Option.some.inj e1).symm
      have ev2 : v2 = nV (ys.getD (i + 1) 0) := by
        have h := natAt (l := ys) (i := i + 1) (by omega)
        have e2 : ((ys.drop 1).map nV)[i]? = some v2 := e2
        rw [List.map_drop, List.getElem?_drop, Nat.add_comm, h] at e2
        exact (Option.some.inj e2).symm
      subst ev1 ev2
      have sT := Same.new (o := .tup [nV (ys.getD i 0), nV (ys.getD (i + 1) 0)]) nT
      have hT : upd H6 T' (.tup [nV (ys.getD i 0), nV (ys.getD (i + 1) 0)]) T' = some (.tup [nV (ys.getD i 0), nV (ys.getD (i + 1) 0)]) := upd_same
      have s7 := s6.trans sT
      generalize upd H6 T' (.tup [nV (ys.getD i 0), nV (ys.getD (i + 1) 0)]) = H7 at s7 hT ⊢
      clear sT nT s6
      have N7 := N5.same s7
      obtain ⟨hm, kk, hk, hp⟩ := WY.steps i hi2
      have hle := (yx _ (getD_mem hi2)).1
      have hlt := WY.lt _ (getD_mem hi2)
      refine ⟨T', _, rfl, SqT.of hT, rfl, _, _, rfl, _, _, rfl, rfl, ?_⟩
      refine ⟨_, rfl, a, _, 0, _, rfl, rfl, SqT.of N7.top, at0, _, rfl, _, _, rfl, rfl, _, rfl, ?_⟩
      rw [decide_eq_true (show ((n.many : Nat) : Int) ≤ ((ys.getD (i + 1) 0 : Nat) : Int) by omega)]
      refine iteT ?_
      refine ⟨_, rfl, _, _, rfl, rfl, _, rfl, ?_⟩
      rw [decide_eq_true (show ((ys.getD (i + 1) 0 : Nat) : Int) ≤ ((gt : Nat) : Int) by omega)]
      refine iteF ?_
      have hil : ys.getD (i + 1) 0 - n.many < ps.length := by rw [N7.gs.1]; omega
      have hpk := N7.gs.2 _ _ _ (List.getElem?_eq_getElem hil) hk
      have hat : atI (ps.map V.ref) (((ys.getD (i + 1) 0 : Nat) : Int) - ((n.many : Nat) : Int)) = some (.ref ps[ys.getD (i + 1) 0 - n.many]) := by
        rw [show (((ys.getD (i + 1) 0 : Nat) : Int) - ((n.many : Nat) : Int)) = ((ys.getD (i + 1) 0 - n.many : Nat) : Int) by omega]
        exact atI_nat (by rw [List.getElem?_map, List.getElem?_eq_getElem hil]; rfl)
      refine ⟨_, rfl, _, rfl, a, _, 1, _, rfl, rfl, SqT.of N7.top, at1, _, rfl, _, rfl, a, _, 0, _, rfl, rfl, SqT.of N7.top, at0, _, _, rfl, rfl, g, _, _, _, rfl, rfl, SqT.of N7.gt, hat, 1, rfl, ?_⟩
      unfold tNoPart
      refine slA (lo := some ((1 : Nat) : Int)) (hi := none) hpk fun r H8 s8 h8 => ?_
      rw [cut_lo] at h8
      have h8' : H8 r = some (.tup ([kk.2.1, kk.2.2].map nV)) := h8
      refine ⟨r, _, rfl, .inr (SqT.of h8'), rfl, flat_ns _, _, rfl, ?_⟩
      rw [if_pos rfl, inV_n, decide_eq_true (show ys.getD i 0 ∈ [kk.2.1, kk.2.2] by rw [List.mem_cons, List.mem_singleton]; exact hp)]
      refine iteF ?_
      exact ⟨_, _, _, _, rfl, s7.trans s8⟩
    · rintro σ H6 ⟨x5, x6, x7, x8, rfl, s6⟩
      have hM6 := s6 _ _ hM5
      have hl6 := s6 _ _ hl5
      refine ⟨_, rfl, M, rfl, ⟨_, SqL.of hM6⟩, fun S nS => ?_⟩
      refine lc_list (K := K) (a := M) (xs := ys.map nV) (fun i H' => Own H6 H' S []) ⟨Same.new nS, upd_same, nS⟩ (fun i H' _ o' => SqL.of (o'.sm _ _ hM6)) ?_ ?_
      · rintro i z H7 hz o7
        rw [List.getElem?_map] at hz
        obtain ⟨y, hy, rfl⟩ := Option.map_eq_some_iff.mp hz
        have hn := (yx y (List.mem_of_getElem? hy)).2
        refine ⟨rfl, ?_⟩
        refine ⟨_, rfl, _, rfl, l, _, rfl, .inl (SqL.of (o7.sm _ _ hl6)), rfl, flat_ns xs, _, rfl, ?_⟩
        rw [if_neg Bool.false_ne_true, inV_n, decide_eq_false hn]
        exact iteF o7
      · rintro H7 o7
        refine ⟨small 0, fun z nz => ?_⟩
        have e4 := Same.new (o := .lst []) nz
        refine ⟨_, .list [], .lst (SqL.of (e4 _ _ o7.at_)) .nil, .lst (SqL.of upd_same) .nil, by decide, by decide, ?_⟩
        exact q _ ((s25.trans s6).trans (o7.sm.trans e4))
end
end K80
set_option Elab.async false
set_option linter.all false
set_option maxRecDepth 100000
set_option maxHeartbeats 4000000
namespace K80
open PySem PySem.Spec PyProof.Rows L2 GX
open C8 (Cal pe_c pe_gc Met Mak)
-- @dict CHANGES
-- @no CHANGES 0 ""
-- @no CHANGES 1 "0"
-- @no CHANGES 2 "way"
-- @no CHANGES 3 "Kind"
-- @no CHANGES 4 "leads"
-- @dict QUESTIONS
-- @no QUESTIONS 0 "gate"
-- @no QUESTIONS 1 "kind"
-- @no QUESTIONS 2 "lead"
-- @no QUESTIONS 3 "less"
-- @no QUESTIONS 4 "outs"
-- @exc NoText
-- @exc NoDepth
-- @exc TooMany
-- @exc NoMatch
-- @exc NoChange made
-- @exc NoRow made
-- @sub NoChange NoChange true
-- @sub NoRow NoRow true
-- @sub NoRow ValueError true
-- @sub NoRow NoText false
-- @sub NoRow NoDepth false
-- @sub NoRow TooMany false
-- @sub NoRow NoMatch false
-- @sub NoRow NoChange false
-- @cls Keeper k:i,held:N,kept:t[t[t[i]]]
-- @cls Desk keeper:OKeeper
-- @alt rises list par=l[i]
-- @alt cut_masks tup par=N,t[i],i vars=masks:DL,wire:i
-- @alt one_deeper tup par=t[i],t[i]
-- @alt _law_written tup par=t[i],s
section
variable {P : Program} {w : World} {K : PySem.W.Frag} {mg : Str → Option Value} {base : Heap} {Ts : List Addr} {PL CKeeper CDesk CNoRow : Addr}
open TL
def R80 (h : Str) : Option QRel := if h = "way" then some rWay else if h = "content" then some rCont else none
theorem R80_way : R80 "way" = some rWay := by unfold R80; rw [if_pos rfl]
theorem R80_cont : R80 "content" = some rCont := by unfold R80; rw [if_neg (by decide +kernel), if_pos rfl]
def nq80 (h : Str) : Prop := h ∈ wordsQ
theorem nq80Ok : ∀ h ∈ wordsQ, nq80 h := fun _ h => h
def rowG (h : Str) (gt : Nat) (xs : List Nat) : Str := mkS (joinL [32] [tl h, dgs gt, joinL [43] (xs.map dgs)])
theorem no32 {xs : List Nat} (h : ∀ x ∈ xs, x < 100) : 32 ∉ joinL [43] (xs.map dgs) := fun z => by
  rcases mem_joinL z with z | ⟨u, hu, z⟩
  · exact absurd (List.mem_singleton.mp z) (by decide)
  · obtain ⟨x, hx, rfl⟩ := List.mem_map.mp hu
    exact (dgs_100 x (h x hx)).2.1 z
theorem split_g {h : Str} {gt : Nat} {xs : List Nat} (h32 : 32 ∉ tl h) (hg : gt < 100) (hx : ∀ x ∈ xs, x < 100) : Txt.split (rowG h gt xs) (Str.ofString " ") = [h, mkS (dgs gt), mkS (joinL [43] (xs.map dgs))] := by
  refine map_tl_inj ?_
  have e : (Txt.split (rowG h gt xs) (Str.ofString " ")).map tl = spl [32] 0 [] (tl (rowG h gt xs)) := split_spl _ _ (by decide +kernel) (kind_ok (by decide +kernel))
  have e1 : spl [32] 0 [] (joinL [32] [tl h, dgs gt, joinL [43] (xs.map dgs)]) = [tl h, dgs gt, joinL [43] (xs.map dgs)] := words_join (by simp) fun w hw => by
    simp only [List.mem_cons, List.not_mem_nil, or_false] at hw
    rcases hw with rfl | rfl | rfl
    · exact h32
    · exact (dgs_100 gt hg).2.1
    · exact no32 hx
  unfold rowG at e ⊢
  rw [e, tl_mkS, e1]
  rfl
theorem pieces_g {xs : List Nat} (x0 : 0 < xs.length) (hx : ∀ x ∈ xs, x < 100) : numsW (piecesW (mkS (joinL [43] (xs.map dgs)))) = some xs := by
  have e : piecesW (mkS (joinL [43] (xs.map dgs))) = spl [43] 0 [] (tl (mkS (joinL [43] (xs.map dgs)))) := split_spl _ _ (by decide +kernel) (kind_ok (by decide +kernel))
  have e1 : spl [43] 0 [] (joinL [43] (xs.map dgs)) = xs.map dgs := spl_join (fun z => by have e := congrArg List.length z; rw [List.length_map] at e; have : ([] : List (List Nat)).length = 0 := rfl; omega) fun w hw => by
    obtain ⟨x, hx', rfl⟩ := List.mem_map.mp hw
    exact (dgs_100 x (hx x hx')).2.2.2.2.1
  rw [e, tl_mkS, e1]
  exact nums_100 hx
theorem isW_g {n : Net} {gt : Nat} {xs : List Nat} (x0 : 0 < xs.length) (hx : ∀ x ∈ xs, x < 100) (hg : gt < 100) {gt' : Nat} {xs' : List Nat} (h : IsW n [mkS (dgs gt), mkS (joinL [43] (xs.map dgs))] gt' xs') : gt' = gt ∧ xs' = xs := by
  obtain ⟨w0, w1, e, e0, e1, _⟩ := h
  cases e
  have h0 := (dgs_100 gt hg).1
  rw [tl_mkS, h0] at e0
  rw [pieces_g x0 hx] at e1
  exact ⟨(Option.some.inj e0).symm, (Option.some.inj e1).symm⟩
theorem isW_is {n : Net} {gt : Nat} {xs : List Nat} (x0 : 0 < xs.length) (hx : ∀ x ∈ xs, x < 100) (g1 : n.many ≤ gt) (g2 : gt < n.many + n.gates.length) (hg : gt < 100) : IsW n [mkS (dgs gt), mkS (joinL [43] (xs.map dgs))] gt xs := ⟨_, _, rfl, by rw [tl_mkS]; exact (dgs_100 gt hg).1, pieces_g x0 hx, g1, g2⟩
theorem rowG_len {h : Str} {gt : Nat} {xs : List Nat} (hh : (tl h).length ≤ 8) (hg : gt < 100) (hx : ∀ x ∈ xs, x < 100) (hl : xs.length ≤ 60) : (rowG h gt xs).length ≤ 3000 := by
  unfold rowG
  rw [len_mkS]
  refine Nat.le_trans (len_joinL (b := 180) fun w hw => ?_) (show 3 * (180 + 1) ≤ 3000 by decide)
  simp only [List.mem_cons, List.not_mem_nil, or_false] at hw
  rcases hw with rfl | rfl | rfl
  · omega
  · have := (dgs_100 gt hg).2.2.2.1
    omega
  · refine Nat.le_trans (len_joinL (b := 2) fun w hw => ?_) ?_
    · obtain ⟨x, hx', rfl⟩ := List.mem_map.mp hw
      exact (dgs_100 x (hx x hx')).2.2.2.1
    · rw [List.length_map]
      show xs.length * 3 ≤ 180
      omega
/-- what is heard behind a question that may be refused -/
theorem hear_q {H : Hp} {D kp : Addr} {n : Net} {k : Nat} {x h : Str} {ws : List Str} {r : QRel} {Q : VK} {E : XK} (X : DkN CDesk CKeeper H D kp n k) (tb : Tabs Ts H) (tl' : LamX.TabS H PL lamQ) (ok : n.Ok) (k2 : 2 ≤ k) (k4 : k ≤ 4) (hx : x.length ≤ 3000) (hs : Txt.split x (Str.ofString " ") = h :: ws) (hl : ws.length ≤ 400) (hr : R80 h = some r)
    (q1 : ∀ v H', AftL Ts PL lamQ H H' → r n k ws v → v ≠ .non → Q v H') (q2 : ∀ L H', AftL Ts PL lamQ H H' → r n k ws .non → H' L = some (.lst [.str "no", .bl true]) → Q (.ref L) H') : spHeardD (spSayL Ts PL CDesk CKeeper CNoRow R80 nq80) CDesk CNoRow [.ref D, .str x] H Q E := by
  refine heard_of X ?_
  obtain ⟨ins, a, p, g, o, ps, qs, KA⟩ := X
  exact ⟨D, kp, a, p, n, k, g, o, ps, qs, x, h, ws, rfl, ⟨ins, KA⟩, ok, k2, k4, Nat.le_trans (Nat.add_le_add_right hx 4) (by decide), hs, hl, tb, tl', .inr ⟨r, hr, q1, fun H' a' h1 => ⟨rfl, rfl, fun L H2 s2 e => q2 L H2 (a'.trans (AftL.same s2 a'.tb a'.tl)) h1 e⟩⟩⟩
def Gd (gt : Nat) (xs : List Nat) : Prop := (∀ x ∈ xs, x < gt) ∧ xs.Pairwise (· < ·)
theorem hear_way {H : Hp} {D kp : Addr} {n : Net} {k gt : Nat} {xs : List Nat} {Q : VK} {E : XK} (X : DkN CDesk CKeeper H D kp n k) (tb : Tabs Ts H) (tl' : LamX.TabS H PL lamQ) (ok : n.Ok) (k2 : 2 ≤ k) (k4 : k ≤ 4) (g1 : n.many ≤ gt) (g2 : gt < n.many + n.gates.length) (x0 : 0 < xs.length) (x60 : xs.length ≤ 60) (xlt : ∀ x ∈ xs, x < 100)
    (q1 : Gd gt xs → ∀ rs H', AftL Ts PL lamQ H H' → Rset n xs gt rs → Q (.str (wayS n rs)) H') (q2 : ¬ Gd gt xs → ∀ L H', AftL Ts PL lamQ H H' → H' L = some (.lst [.str "no", .bl true]) → Q (.ref L) H') : spHeardD (spSayL Ts PL CDesk CKeeper CNoRow R80 nq80) CDesk CNoRow [.ref D, .str (rowG "way" gt xs)] H Q E := by
  have m8 := ok.m8
  have g16 := ok.g16
  have hg : gt < 100 := by omega
  refine hear_q X tb tl' ok k2 k4 (rowG_len (by decide +kernel) hg xlt x60) (split_g (by decide +kernel) hg xlt) (show 2 ≤ 400 by decide) R80_way (fun v H' b hv ne => ?_) fun L H' b hv e => ?_
  · rcases hv with ⟨gt', xs', rs, hw, _, h1, h2, h3, rfl⟩ | ⟨_, z⟩
    · obtain ⟨rfl, rfl⟩ := isW_g x0 xlt hg hw
      exact q1 ⟨h1, h2⟩ rs H' b h3
    · exact absurd z ne
  · rcases hv with ⟨_, _, _, _, _, _, _, _, z⟩ | ⟨no, _⟩
    · cases z
    · exact q2 (fun g => no ⟨gt, xs, isW_is x0 xlt g1 g2 hg, x0, g.1, g.2⟩) L H' b e
theorem hear_cont {H : Hp} {D kp : Addr} {n : Net} {k gt : Nat} {xs : List Nat} {Q : VK} {E : XK} (X : DkN CDesk CKeeper H D kp n k) (tb : Tabs Ts H) (tl' : LamX.TabS H PL lamQ) (ok : n.Ok) (k2 : 2 ≤ k) (k4 : k ≤ 4) (g1 : n.many ≤ gt) (g2 : gt < n.many + n.gates.length) (x0 : 0 < xs.length) (x60 : xs.length ≤ 60) (xlt : ∀ x ∈ xs, x < 100)
    (q1 : CutOk n gt xs → xs.length ≤ 8 → ∀ H', AftL Ts PL lamQ H H' → Q (.str (mkS (joinL [] ((contOf n xs gt).map dgs)))) H') (q2 : ¬ (CutOk n gt xs ∧ xs.length ≤ 8) → ∀ L H', AftL Ts PL lamQ H H' → H' L = some (.lst [.str "no", .bl true]) → Q (.ref L) H') : spHeardD (spSayL Ts PL CDesk CKeeper CNoRow R80 nq80) CDesk CNoRow [.ref D, .str (rowG "content" gt xs)] H Q E := by
  have m8 := ok.m8
  have g16 := ok.g16
  have hg : gt < 100 := by omega
  refine hear_q X tb tl' ok k2 k4 (rowG_len (by decide +kernel) hg xlt x60) (split_g (by decide +kernel) hg xlt) (show 2 ≤ 400 by decide) R80_cont (fun v H' b hv ne => ?_) fun L H' b hv e => ?_
  · rcases hv with ⟨gt', xs', hw, h1, h2, rfl⟩ | ⟨_, z⟩
    · obtain ⟨rfl, rfl⟩ := isW_g x0 xlt hg hw
      exact q1 h1 h2 H' b
    · exact absurd z ne
  · rcases hv with ⟨_, _, _, _, _, z⟩ | ⟨no, _⟩
    · cases z
    · exact q2 (fun g => no ⟨gt, xs, isW_is x0 xlt g1 g2 hg, g.1, g.2⟩) L H' b e
theorem text_g (h : Str) (gt : Nat) (xs : List Nat) : h ++ (Str.ofString " " ++ Str.ofString (toString ((gt : Nat) : Int)) ++ Str.ofString " " ++ mkS (joinL (tl (Str.ofString "+")) (xs.map dgs))) = rowG h gt xs := by
  unfold rowG
  rw [str_dgs, show tl (Str.ofString "+") = [43] by decide +kernel]
  refine ext_tl ?_
  rw [tl_append, tl_append, tl_append, tl_append, tl_mkS, tl_mkS, tl_mkS, show tl (Str.ofString " ") = [32] by decide +kernel]
  show _ = tl h ++ ([32] ++ (dgs gt ++ ([32] ++ joinL [43] (xs.map dgs))))
  simp only [List.append_assoc]
theorem map_nV8 (xs : List Nat) : (xs.map fun n : Nat => (n : Int)).map V.int = xs.map nV := by
  rw [List.map_map]
  rfl
theorem no_eq {K : PySem.W.Frag} {σ : L2.St} {H : Hp} {Q : V → Hp → Prop} {i : Nat} {L : Addr} (hσ : σ[i]? = some (some (.ref L))) (hL : H L = some (.lst [V.str "no", V.bl true])) (q : ∀ H', Same H H' → Q (.bl true) H') : tOp (rEqD K) (tVar i) (tLst (tCons (tC (V.str "no")) (tCons (tC (V.bl true)) tNil))) σ H Q := by
  refine ⟨_, hσ, small 2, fun z nz => ?_⟩
  have s1 := Same.new (o := .lst [V.str "no", V.bl true]) nz
  refine ⟨.list [.str "no", .bool true], .list [.str "no", .bool true], .lst (SqL.of (s1 _ _ hL)) (.cons (.str _) (.cons (.bl _) .nil)), .lst (SqL.of upd_same) (.cons (.str _) (.cons (.bl _) .nil)), by decide +kernel, by decide +kernel, ?_⟩
  rw [show PyData.eqv (.list [.str "no", .bool true]) (.list [.str "no", .bool true]) = true by decide +kernel]
  exact q _ s1
theorem last_at {xs : List Nat} (x0 : 0 < xs.length) : (xs.map nV)[(xs.map nV).length - 1]? = some (nV (xs.getD (xs.length - 1) 0)) := by
  rw [List.length_map]
  exact natAt (by omega)
theorem last_ge {xs : List Nat} (x0 : 0 < xs.length) (p : xs.Pairwise (· < ·)) : ∀ x ∈ xs, x ≤ xs.getD (xs.length - 1) 0 := fun x hx => by
  obtain ⟨j, hj⟩ := List.getElem?_of_mem hx
  obtain ⟨hj1, hj2⟩ := List.getElem?_eq_some_iff.mp hj
  rw [List.getD_eq_getElem?_getD, List.getElem?_eq_getElem (show xs.length - 1 < xs.length by omega)]
  show x ≤ xs[xs.length - 1]
  by_cases h : j = xs.length - 1
  · subst h
    rw [hj2]
    exact Nat.le_refl _
  · have := List.pairwise_iff_getElem.mp p j (xs.length - 1) hj1 (by omega) (by omega)
    rw [hj2] at this
    omega
theorem way_none {n : Net} {gt : Nat} {xs rs : List Nat} (s : Sep n gt xs) (r : Rset n xs gt rs) : wayS n rs = "none" := by
  have e : wpRes n rs = none := by
    unfold wpRes
    rw [if_pos]
    by_cases h : rs.length = 0
    · exact .inl h
    · exact .inr (s _ ((r.2 _).mp (getD_mem (by omega))))
  unfold wayS
  rw [e]
theorem way_some {n : Net} {gt : Nat} {xs rs : List Nat} (s : ¬ Sep n gt xs) (r : Rset n xs gt rs) : ∃ ys, wpRes n rs = some ys ∧ wayS n rs = mkS (joinL [32] (ys.map dgs)) := by
  have e : ∃ ys, wpRes n rs = some ys := by
    unfold wpRes
    rw [if_neg]
    · exact ⟨_, rfl⟩
    · intro z
      refine s fun y hy => ?_
      have hm := (r.2 y).mpr hy
      obtain ⟨j, hj⟩ := List.getElem?_of_mem hm
      obtain ⟨hj1, hj2⟩ := List.getElem?_eq_some_iff.mp hj
      rcases z with z | z
      · omega
      · by_cases h : j = 0
        · subst h
          rw [List.getD_eq_getElem?_getD, hj] at z
          exact z
        · have := List.pairwise_iff_getElem.mp r.1 0 j (by omega) hj1 (by omega)
          rw [hj2] at this
          rw [List.getD_eq_getElem?_getD, List.getElem?_eq_getElem (show 0 < rs.length by omega)] at z
          have z : n.many ≤ rs[0] := z
          omega
  obtain ⟨ys, e⟩ := e
  refine ⟨ys, e, ?_⟩
  unfold wayS
  rw [e]
theorem dgs_110 : ∀ n, n < 100 → 110 ∉ dgs n := by decide +kernel
theorem way_ne {ys : List Nat} (h : ∀ y ∈ ys, y < 100) : mkS (joinL [32] (ys.map dgs)) ≠ "none" := fun z => by
  have e := congrArg tl z
  rw [tl_mkS] at e
  have m : 110 ∈ joinL [32] (ys.map dgs) := by rw [e]; decide +kernel
  rcases mem_joinL m with z | ⟨w, hw, z⟩
  · exact absurd (List.mem_singleton.mp z) (by decide)
  · obtain ⟨y, hy, rfl⟩ := List.mem_map.mp hw
    exact dgs_110 y (h y hy) z
theorem sort_ne {K : PySem.W.Frag} {w : World} {σ : L2.St} {H : Hp} {Q : Bool → Hp → Prop} {i : Nat} {l : Addr} {xs : List Nat} (hσ : σ[i]? = some (some (.ref l))) (hl : H l = some (.lst (xs.map nV))) (x60 : xs.length ≤ 60) (q : ∀ zs H5, Same H H5 → zs.Pairwise (· < ·) → (∀ z, z ∈ zs ↔ z ∈ xs) → Q (!decide (xs = zs)) H5) : tTest (tOp (rNeD K) (tVar i) (tCB (rSortedSet w) (tCons (tCB (rSetN K w) (tCons (tVar i) tNil)) tNil))) σ H Q := by
  refine ⟨_, hσ, _, hσ, l, xs, rfl, .inl (SqL.of hl), by omega, fun sq c nsq hc => ?_⟩
  have s4 := Same.new (o := SetO w sq (fun j => decide (j ∈ xs.map fun n : Nat => (n : Int))) c) nsq
  refine ⟨sq, _, c, rfl, upd_same, by omega, fun out l7 pw hm hl7 nl7 => ?_⟩
  obtain ⟨zs, rfl, zr, zm⟩ := sorted_set_nat pw hm
  rw [map_nV8]
  have s5 := Same.new (o := .lst (zs.map nV)) nl7
  have hz5 : upd (upd H sq (SetO w sq (fun j => decide (j ∈ xs.map fun n : Nat => (n : Int))) c)) l7 (.lst (zs.map nV)) l7 = some (.lst (zs.map nV)) := upd_same
  have s45 := s4.trans s5
  refine ⟨.list (natsD xs), .list (natsD zs), dp_natL (s45 _ _ hl), dp_natL hz5, natsD_lst _, natsD_lst _, ?_⟩
  rw [natsD_eqL]
  exact ⟨_, rfl, q zs _ s45 zr zm⟩
def spLRight (Ts : List Addr) (PL CD CK : Addr) : Sp := fun vs H Q _ => ∃ (D kp a l : Addr) (n : Net) (k : Nat) (g o : Addr) (ps : List Addr) (gt : Nat) (xs : List Nat), vs = [.ref D, .ref a, nV gt, .ref l] ∧ DkN CD CK H D kp n k ∧ NetAt H a n g o ps ∧ n.Ok ∧ 2 ≤ k ∧ k ≤ 4 ∧ Tabs Ts H ∧ LamX.TabS H PL lamQ ∧ n.many ≤ gt ∧ gt < n.many + n.gates.length ∧ H l = some (.lst (xs.map nV)) ∧ 0 < xs.length ∧ xs.length ≤ 60 ∧ (∀ x ∈ xs, x < 100) ∧ ∀ H', AftL Ts PL lamQ H H' → Q (.bl true) H'
theorem ok_lright {f c : Addr} (hPL : PL ∉ Ts) (D : Dfn K mg "_law_right" s__law_right f c) (T : Txt mg) (c__law_written : Cal P w K mg base 1 "_law_written" spWritten []) (c__law_heard : Cal P w K mg base 11 "_law_heard" (spHeardD (spSayL Ts PL CDesk CKeeper CNoRow R80 nq80) CDesk CNoRow) []) (c__law_told : Cal P w K mg base 1 "_law_told" spLTold []) (c__law_way_right : Cal P w K mg base 2 "_law_way_right" spWayR []) (c_content : Cal P w K mg base 4 "content" (spContent Ts) []) : Cal P w K mg base 12 "_law_right" (spLRight Ts PL CDesk CKeeper) [] := by
  refine cal D (fun _ _ _ _ _ _ us hl => match us, hl with | [_, _, _, _], _ => rfl) sc__law_right (fun vs H Q E h => ?_) (fun A outer s H vs Q E hr h => ?_)
  · obtain ⟨D, kp, a, l, n, k, g, o, ps, gt, xs, rfl, _⟩ := h
    rfl
  · obtain ⟨Da, kp, a, l, n, k, g, o, ps, gt, xs, rfl, X, N, ok, k2, k4, tb, tl', g1, g2, hl, x0, x60, xlt, q⟩ := h
    refine ⟨_, (pss_cons (ps_set (i := 4) sc__law_right.nd rfl (by first | exact Or.inl rfl | exact Or.inr rfl) (pe_op op_add_str (pe_op op_add_str (pe_op op_add_str pe_str (pe_callTy call_str_int (by rfl) T.b_str (by decide +kernel) (pa_cons (pv 2) pa_nil))) pe_str) (pe_c c__law_written hr (by decide) (by rfl) (pa_cons (pv 3) (pa_cons pe_str pa_nil)))))
      (pss_cons (ps_set (i := 5) sc__law_right.nd rfl (by first | exact Or.inl rfl | exact Or.inr rfl) (pe_c c__law_heard hr (by decide) (by rfl) (pa_cons (pv 0) (pa_cons (pe_op op_add_str pe_str (pv 4)) pa_nil))))
      (pss_cons (ps_set (i := 6) sc__law_right.nd rfl (by first | exact Or.inl rfl | exact Or.inr rfl) (pe_c c__law_heard hr (by decide) (by rfl) (pa_cons (pv 0) (pa_cons (pe_op op_add_str pe_str (pv 4)) pa_nil))))
      (pss_cons (ps_if (PW.pt (pw_or (pt_cmpR (op_neD hr.units) (pv 3) (pe_callB (cr_sortedSet rfl) (by rfl) T.b_sorted (by decide +kernel) (pa_cons (pe_callTy (cr_setN rfl) (by rfl) T.b_set (by decide +kernel) (pa_cons (pv 3) pa_nil)) pa_nil)) (nomark _)) (pw_or1 (pt_cmpR op_ge (pe_ix ix_list (pv 3) (pe_un un_neg pe_int) (fun _ _ => rfl)) (pv 2) (nomark _))))) (pss_one (ps_ret (pe_and (pe_cmpR (op_eqD hr.units) (pv 5) (pe_lst (pa_cons pe_str (pa_cons pe_bl pa_nil))) (nomark _)) (pe_one (pe_cmpR (op_eqD hr.units) (pv 6) (pe_lst (pa_cons pe_str (pa_cons pe_bl pa_nil))) (nomark _)))))) pss_nil)
      (pss_cons (ps_if (pt_not (pt_val (pe_c c__law_told hr (by decide) (by rfl) (pa_cons (pv 1) (pa_cons (pv 2) (pa_cons (pv 3) pa_nil)))))) (pss_one (ps_ret (pe_and (pe_cmpR (op_eqD hr.units) (pv 6) (pe_lst (pa_cons pe_str (pa_cons pe_bl pa_nil))) (nomark _)) (pe_and (pe_callB call_isi (by rfl) T.b_isinstance (by decide +kernel) (pa_cons (pv 5) (pa_cons (pe_bltn (v := .ty "str") (by rfl) T.b_str (by decide +kernel) rfl) pa_nil))) (pe_and (pe_cmpR op_ne (pv 5) pe_str (nomark _)) (pe_one (pe_c c__law_way_right hr (by decide) (by rfl) (pa_cons (pv 1) (pa_cons (pv 2) (pa_cons (pv 3) (pa_cons (pv 5) pa_nil))))))))))) pss_nil)
      (pss_cons (ps_if (pt_cmpR op_gt (pe_callB call_len_seq (by rfl) T.b_len (by decide +kernel) (pa_cons (pv 3) pa_nil)) pe_int (nomark _)) (pss_one (ps_ret (pe_and (pe_cmpR op_eq (pv 5) pe_str (nomark _)) (pe_one (pe_cmpR (op_eqD hr.units) (pv 6) (pe_lst (pa_cons pe_str (pa_cons pe_bl pa_nil))) (nomark _)))))) pss_nil)
      (pss_one (ps_ret (pe_and (pe_cmpR op_eq (pv 5) pe_str (nomark _)) (pe_one (pe_cmpR op_eq (pv 6) (pe_c c__law_written hr (by decide) (by rfl) (pa_cons (pe_c c_content hr (by decide) (by rfl) (pa_cons (pv 1) (pa_cons (pv 2) (pa_cons (pe_callTy call_tuple_of (by rfl) T.b_tuple (by decide +kernel) (pa_cons (pv 3) pa_nil)) pa_nil)))) (pa_cons pe_str pa_nil))) (nomark _)))))))))))), ?_⟩
    clear hr
    have m8 := ok.m8
    have g16 := ok.g16
    have hg : gt < 100 := by omega
    have hsz : (1000 : Nat) ≤ sizeLine := by decide
    have l1 : (Str.ofString " ").length ≤ 1 := by decide +kernel
    have l2 : (Str.ofString (toString ((gt : Nat) : Int))).length ≤ 2 := nS_len hg
    have l3 : (mkS (joinL (tl (Str.ofString "+")) (xs.map dgs))).length ≤ 180 := by
      rw [len_mkS, show tl (Str.ofString "+") = [43] by decide +kernel]
      refine Nat.le_trans (len_joinL (b := 2) fun w hw => ?_) ?_
      · obtain ⟨x, hx', rfl⟩ := List.mem_map.mp hw
        exact (dgs_100 x (xlt x hx')).2.2.2.1
      · rw [List.length_map]
        show xs.length * 3 ≤ 180
        omega
    have l4 : ("way" : Str).length ≤ 3 := by decide +kernel
    have l5 : ("content" : Str).length ≤ 7 := by decide +kernel
    refine ⟨_, rfl, _, rfl, lg100 gt hg, _, _, rfl, rfl, by omega, _, _, rfl, rfl, by rw [app_len]; omega, _, rfl, l, xs, _, rfl, .inl hl, by omega, xlt, by decide +kernel, fun H1 s1 => ?_⟩
    refine ⟨_, _, rfl, rfl, by rw [app_len, app_len]; omega, ?_⟩
    have b1 : AftL Ts PL lamQ H H1 := AftL.same s1 tb tl'
    have X1 := X.same s1
    have N1 := N.same s1
    have hl1 := s1 _ _ hl
    refine ⟨_, rfl, _, rfl, _, _, rfl, rfl, by rw [app_len, app_len, app_len]; omega, ?_⟩
    rw [text_g]
    have tailc : ∀ (H2 : Hp), AftL Ts PL lamQ H H2 → DkN CDesk CKeeper H2 Da kp n k := fun H2 b => X.aftL tb tl' b
    clear X1
    have X1 := tailc H1 b1
    refine hear_way (E := fun _ _ _ => False) X1 b1.tb b1.tl ok k2 k4 g1 g2 x0 x60 xlt (fun G rs H2 b12 rset => ?_) (fun G L H2 b12 hLn => ?_)
    · have b2 := b1.trans b12
      refine ⟨_, rfl, _, rfl, _, _, rfl, rfl, by rw [app_len, app_len, app_len]; omega, ?_⟩
      rw [text_g]
      refine hear_cont (E := fun _ _ _ => False) (tailc H2 b2) b2.tb b2.tl ok k2 k4 g1 g2 x0 x60 xlt (fun co l8 H3 b23 => ?_) (fun nco L2 H3 b23 hLn2 => ?_)
      · have b3 := b2.trans b23
        have hl3 := b3.lst tb tl' hl
        refine sort_ne (i := 3) (l := l) (xs := xs) rfl hl3 x60 fun zs H5 s45 zr zm => ?_
        have hl5 := s45 _ _ hl3
        have b5 := b3.trans (AftL.same s45 b3.tb b3.tl)
        have exz : xs = zs := rise_eq G.2 zr fun z => (zm z).symm
        rw [decide_eq_true exz]
        refine iteF ?_
        refine ⟨_, rfl, _, rfl, l, _, -1, _, rfl, rfl, SqL.of hl5, atI_last (last_at x0), _, rfl, _, _, rfl, rfl, _, rfl, ?_⟩
        rw [decide_eq_false (show ¬ ((gt : Nat) : Int) ≤ ((xs.getD (xs.length - 1) 0 : Nat) : Int) by have := G.1 _ (getD_mem (show xs.length - 1 < xs.length by omega)); omega)]
        refine iteF ?_
        have N5 := N.mono fun b xs e => b5.tup tb tl' e
        refine ⟨_, rfl, _, rfl, _, rfl, a, n, g, o, ps, gt, l, xs, rfl, N5, ok, g2, hl5, fun bt H6 hbt s6 => ⟨_, rfl, ?_⟩⟩
        have b6 := b5.trans (AftL.same s6 b5.tb b5.tl)
        have hl6 := s6 _ _ hl5
        have N6 := N5.same s6
        obtain rfl : bt = true := hbt.mpr co.sep
        refine iteF ?_
        refine ⟨_, rfl, l, _, rfl, .inl (SqL.of hl6), _, _, rfl, rfl, _, rfl, ?_⟩
        rw [decide_eq_false (show ¬ ((8 : Int) < (((xs.map nV).length : Nat) : Int)) by rw [List.length_map]; omega)]
        refine iteF ?_
        rw [way_none co.sep rset]
        refine ⟨_, rfl, rfl, _, rfl, iteT ?_⟩
        refine ⟨_, rfl, _, rfl, _, rfl, _, rfl, l, _, rfl, .inl ⟨SqL.of hl6, fun p np => ?_⟩⟩
        have s7 := Same.new (o := .tup (xs.map nV)) np
        have b7 := b6.trans (AftL.same s7 b6.tb b6.tl)
        refine ⟨a, p, n, g, o, ps, xs, gt, rfl, N6.same s7, ok, g2, upd_same, co.sep, co.rise.imp (fun h => Nat.ne_of_lt h), l8, b7.tb, fun p4 H8 a8 hp4 => ?_⟩
        have b8 := b7.trans (AftL.of a8 b7.tb b7.tl hPL)
        have pl : 2 ^ xs.length ≤ 256 := Nat.pow_le_pow_right (by decide) l8
        have cl : (contOf n xs gt).length ≤ 256 := by
          unfold contOf
          rw [List.length_map, List.length_range]
          exact pl
        have clt : ∀ y ∈ contOf n xs gt, y < 100 := fun y hy => by
          unfold contOf at hy
          obtain ⟨r, _, rfl⟩ := List.mem_map.mp hy
          have := ev_lt (n := n) xs r gt
          omega
        refine ⟨p4, contOf n xs gt, _, rfl, .inr hp4, by omega, clt, by decide +kernel, fun H9 s9 => ⟨rfl, ?_⟩⟩
        rw [show tl (Str.ofString "") = [] by decide +kernel, decide_eq_true (show V.str (mkS (joinL [] ((contOf n xs gt).map dgs))) = V.str (mkS (joinL [] ((contOf n xs gt).map dgs))) from rfl)]
        exact q _ (b8.trans (AftL.same s9 b8.tb b8.tl))
      · have b3 := b2.trans b23
        have hl3 := b3.lst tb tl' hl
        refine sort_ne (i := 3) (l := l) (xs := xs) rfl hl3 x60 fun zs H5 s45 zr zm => ?_
        have hl5 := s45 _ _ hl3
        have b5 := b3.trans (AftL.same s45 b3.tb b3.tl)
        have exz : xs = zs := rise_eq G.2 zr fun z => (zm z).symm
        rw [decide_eq_true exz]
        refine iteF ?_
        refine ⟨_, rfl, _, rfl, l, _, -1, _, rfl, rfl, SqL.of hl5, atI_last (last_at x0), _, rfl, _, _, rfl, rfl, _, rfl, ?_⟩
        rw [decide_eq_false (show ¬ ((gt : Nat) : Int) ≤ ((xs.getD (xs.length - 1) 0 : Nat) : Int) by have := G.1 _ (getD_mem (show xs.length - 1 < xs.length by omega)); omega)]
        refine iteF ?_
        have N5 := N.mono fun b xs e => b5.tup tb tl' e
        refine ⟨_, rfl, _, rfl, _, rfl, a, n, g, o, ps, gt, l, xs, rfl, N5, ok, g2, hl5, fun bt H6 hbt s6 => ⟨_, rfl, ?_⟩⟩
        have b6 := b5.trans (AftL.same s6 b5.tb b5.tl)
        have hl6 := s6 _ _ hl5
        have N6 := N5.same s6
        have hL6 := s6 _ _ (s45 _ _ hLn2)
        cases bt with
        | false =>
          have ns : ¬ Sep n gt xs := fun z => by cases hbt.mpr z
          obtain ⟨ys, hwp, ews⟩ := way_some ns rset
          obtain ⟨WY, sub, y100⟩ := way_facts ok g2 rset hwp
          have ylt : ∀ y ∈ ys, y < 100 := fun y hy => by have := WY.lt y hy; omega
          rw [ews]
          refine iteT ?_
          refine no_eq (i := 6) rfl hL6 fun H7 s7 => ⟨_, rfl, iteT ?_⟩
          refine ⟨_, rfl, _, _, _, _, true, rfl, .ty "str", tyx (Rep.str _), kit_ty (GX.kStr_ok (.str _)), _, rfl, iteT ?_⟩
          refine ⟨_, rfl, rfl, _, rfl, ?_⟩
          rw [decide_eq_false (show ¬ (V.str (mkS (joinL [32] (ys.map dgs))) = V.str "none") from fun z => way_ne ylt (V.str.inj z))]
          refine iteT ?_
          have b7 := b6.trans (AftL.same s7 b6.tb b6.tl)
          exact ⟨_, rfl, _, rfl, _, rfl, _, rfl, a, l, n, g, o, ps, gt, xs, ys, rfl, N6.same s7, ok, g2, s7 _ _ hl6, by omega, WY, y100, fun y hy => ⟨((rset.2 y).mp (sub y hy)).le ok, ((rset.2 y).mp (sub y hy)).free⟩, fun H8 s8 => q _ (b7.trans (AftL.same s8 b7.tb b7.tl))⟩
        | true =>
          have sp := hbt.mp rfl
          have co : CutOk n gt xs := ⟨x0, G.1, sp, G.2⟩
          have l9 : 8 < xs.length := Nat.lt_of_not_le fun z => nco ⟨co, z⟩
          refine iteF ?_
          refine ⟨_, rfl, l, _, rfl, .inl (SqL.of hl6), _, _, rfl, rfl, _, rfl, ?_⟩
          rw [decide_eq_true (show ((8 : Int) < (((xs.map nV).length : Nat) : Int)) by rw [List.length_map]; omega)]
          refine iteT ?_
          rw [way_none sp rset]
          refine ⟨_, rfl, rfl, _, rfl, iteT ?_⟩
          refine no_eq (i := 6) rfl hL6 fun H7 s7 => ?_
          exact q _ (b6.trans (AftL.same s7 b6.tb b6.tl))
    · have b2 := b1.trans b12
      refine ⟨_, rfl, _, rfl, _, _, rfl, rfl, by rw [app_len, app_len, app_len]; omega, ?_⟩
      rw [text_g]
      refine hear_cont (E := fun _ _ _ => False) (tailc H2 b2) b2.tb b2.tl ok k2 k4 g1 g2 x0 x60 xlt (fun co _ => absurd ⟨co.lt, co.rise⟩ G) (fun _ L2 H3 b23 hLn2 => ?_)
      have b3 := b2.trans b23
      have hl3 := b3.lst tb tl' hl
      have hLn3 := b23.lst b2.tb b2.tl hLn
      refine sort_ne (i := 3) (l := l) (xs := xs) rfl hl3 x60 fun zs H5 s45 zr zm => ?_
      have hl5 := s45 _ _ hl3
      have b5 := b3.trans (AftL.same s45 b3.tb b3.tl)
      have hL5 := s45 _ _ hLn3
      have hL25 := s45 _ _ hLn2
      refine ite2 (fun h => ?_) (fun h => ?_)
      · refine no_eq (i := 5) rfl hL5 fun H6 s6 => ⟨_, rfl, iteT ?_⟩
        refine no_eq (i := 6) rfl (s6 _ _ hL25) fun H7 s7 => ?_
        exact q _ (b5.trans (AftL.same (s6.trans s7) b5.tb b5.tl))
      · have exz : xs = zs := Classical.not_not.mp fun z => h (by rw [decide_eq_false z]; rfl)
        have pw : xs.Pairwise (· < ·) := by rw [exz]; exact zr
        have big : gt ≤ xs.getD (xs.length - 1) 0 := Nat.le_of_not_lt fun z => G ⟨fun x hx => Nat.lt_of_le_of_lt (last_ge x0 pw x hx) z, pw⟩
        refine ⟨_, rfl, _, rfl, l, _, -1, _, rfl, rfl, SqL.of hl5, atI_last (last_at x0), _, rfl, _, _, rfl, rfl, _, rfl, ?_⟩
        rw [decide_eq_true (show ((gt : Nat) : Int) ≤ ((xs.getD (xs.length - 1) 0 : Nat) : Int) by omega)]
        refine iteT ?_
        refine no_eq (i := 5) rfl hL5 fun H6 s6 => ⟨_, rfl, iteT ?_⟩
        refine no_eq (i := 6) rfl (s6 _ _ hL25) fun H7 s7 => ?_
        exact q _ (b5.trans (AftL.same (s6.trans s7) b5.tb b5.tl))
end
end K80
set_option Elab.async false
set_option linter.all false
set_option maxRecDepth 100000
set_option maxHeartbeats 4000000
namespace K80
open PySem PySem.Spec PyProof.Rows L2 GX
open C8 (Cal pe_c pe_gc Met Mak)
-- @dict CHANGES
-- @no CHANGES 0 ""
-- @no CHANGES 1 "0"
-- @no CHANGES 2 "way"
-- @no CHANGES 3 "Kind"
-- @no CHANGES 4 "leads"
-- @dict QUESTIONS
-- @no QUESTIONS 0 "gate"
-- @no QUESTIONS 1 "kind"
-- @no QUESTIONS 2 "lead"
-- @no QUESTIONS 3 "less"
-- @no QUESTIONS 4 "outs"
-- @exc NoText
-- @exc NoDepth
-- @exc TooMany
-- @exc NoMatch
-- @exc NoChange made
-- @exc NoRow made
-- @sub NoChange NoChange true
-- @sub NoRow NoRow true
-- @sub NoRow ValueError true
-- @sub NoRow NoText false
-- @sub NoRow NoDepth false
-- @sub NoRow TooMany false
-- @sub NoRow NoMatch false
-- @sub NoRow NoChange false
-- @cls Keeper k:i,held:N,kept:t[t[t[i]]]
-- @cls Desk keeper:OKeeper
-- @alt rises list par=l[i]
-- @alt cut_masks tup par=N,t[i],i vars=masks:DL,wire:i
-- @alt one_deeper tup par=t[i],t[i]
-- @alt _law_written tup par=t[i],s
section
variable {Ts : List Addr} {PL CKeeper CDesk CNoRow : Addr}
open TL
theorem lst_put {H : Hp} {W C l : Addr} {xs ys : List V} (wd : Wd H W C) (tb : Tabs Ts H) (tl : LamX.TabS H PL lamQ) (hl : H l = some (.lst xs)) (n : l ≠ W ∧ l ≠ C) : Wd (upd H l (.lst ys)) W C ∧ Tabs Ts (upd H l (.lst ys)) ∧ LamX.TabS (upd H l (.lst ys)) PL lamQ := by
  have kp : Keep [l] H (upd H l (.lst ys)) := fun b u e nb => by rw [upd_ne (fun z => nb (by rw [z]; exact List.mem_singleton.mpr rfl))]; exact e
  refine ⟨wd.keep kp (fun z => n.1 (List.mem_singleton.mp z).symm) (fun z => n.2 (List.mem_singleton.mp z).symm), tb.upd (tb.lst hl), tabS_keep tl kp (fun z => ?_) fun b hb => .inr (.inr ⟨xs, by rw [List.mem_singleton.mp hb]; exact hl⟩)⟩
  obtain ⟨ps, h, _⟩ := tl
  rw [List.mem_singleton.mp z, hl] at h
  cases h
theorem DkN.put {H : Hp} {D kp l : Addr} {n : Net} {k : Nat} {xs ys : List V} (x : DkN CDesk CKeeper H D kp n k) (hl : H l = some (.lst xs)) : DkN CDesk CKeeper (upd H l (.lst ys)) D kp n k := by
  obtain ⟨⟨dx, e⟩, ⟨a, p, g, o, ps, qs, h1⟩⟩ := x
  refine ⟨⟨dx, by rw [upd_ne (fun z => by rw [z, hl] at e; cases e)]; exact e⟩, ⟨a, p, g, o, ps, qs, h1.mono fun b u e _ nl => ?_⟩⟩
  rw [upd_ne (fun z => nl xs (by rw [z, hl] at e; exact (Option.some.inj e).symm))]
  exact e
/-- what is made new may change -/
theorem AftL.doL {H H1 H2 : Hp} {kp : Addr} (a : AftL Ts PL lamQ H H1) (nk : H kp = none) (d : DoL Ts PL kp H1 H2) : AftL Ts PL lamQ H H2 := ⟨fun b u e n => d.kp b u (fun z => by rw [z, nk] at e; cases e) n (a.kp b u e n), d.tb, d.tl⟩
theorem desk_new {H1 H3 : Hp} {D dx kp : Addr} (hPL : PL ∉ Ts) (tb : Tabs Ts H1) (tl : LamX.TabS H1 PL lamQ) (nD : H1 D = none) (nd : H1 dx = none) (ne : D ≠ dx) (tb3 : Tabs Ts H3) (m3 : ∀ b u, b ≠ D → b ∉ Ts → upd (upd H1 dx (.own D)) D (.ins CDesk dx []) b = some u → H3 b = some u) (nkp : upd (upd H1 dx (.own D)) D (.ins CDesk dx []) kp = none) : AftL Ts PL lamQ H1 H3 ∧ H1 kp = none := by
  have s2 : Same H1 (upd (upd H1 dx (.own D)) D (.ins CDesk dx [])) := (Same.new nd).trans (Same.new (by rw [upd_ne ne]; exact nD))
  have b2 := AftL.same s2 tb tl
  exact ⟨AftL.doL b2 nD (DoL.kdo hPL b2.tb b2.tl upd_same tb3 m3), Same.was s2 nkp⟩
/-- all but the deck and the tables is kept -/
structure FrK (Ts : List Addr) (PL W C : Addr) (H H' : Hp) : Prop where
  wd : Wd H' W C
  tb : Tabs Ts H'
  tl : LamX.TabS H' PL lamQ
  kp : ∀ b u, b ≠ W → b ≠ C → b ∉ PL :: Ts → H b = some u → H' b = some u
section
variable {W C : Addr} {H H1 H2 H' : Hp}
theorem FrK.l (x : FrK Ts PL W C H H') {kp : Addr} : FrL Ts PL W C kp H H' := ⟨x.wd, x.tb, x.tl, fun b u _ n2 n3 n4 e => x.kp b u n2 n3 n4 e⟩
theorem FrK.refl (wd : Wd H W C) (tb : Tabs Ts H) (tl : LamX.TabS H PL lamQ) : FrK Ts PL W C H H := ⟨wd, tb, tl, fun _ _ _ _ _ e => e⟩
theorem FrK.trans (x : FrK Ts PL W C H H1) (y : FrK Ts PL W C H1 H2) : FrK Ts PL W C H H2 := ⟨y.wd, y.tb, y.tl, fun b u n2 n3 n4 e => y.kp b u n2 n3 n4 (x.kp b u n2 n3 n4 e)⟩
theorem FrK.draw (x : FrK Ts PL W C H H1) (s : Wk2 W C H1 H2) : FrK Ts PL W C H H2 := ⟨s.wl, s.tabs x.wd x.tb, tl_draw x.wd x.tl s, fun b u n2 n3 n4 e => s.at_ ⟨n2, n3⟩ (x.kp b u n2 n3 n4 e)⟩
theorem FrK.aftL (x : FrK Ts PL W C H H1) (s : AftL Ts PL lamQ H1 H2) : FrK Ts PL W C H H2 := ⟨wd_aftL x.wd x.tb x.tl s, s.tb, s.tl, fun b u n2 n3 n4 e => s.kp b u (x.kp b u n2 n3 n4 e) n4⟩
theorem FrK.same (x : FrK Ts PL W C H H1) (s : Same H1 H2) : FrK Ts PL W C H H2 := x.aftL (AftL.same s x.tb x.tl)
theorem FrK.put {l : Addr} {xs ys : List V} (x : FrK Ts PL W C H H1) (n0 : H l = none) (hl : H1 l = some (.lst xs)) (n : l ≠ W ∧ l ≠ C) : FrK Ts PL W C H (upd H1 l (.lst ys)) := by
  obtain ⟨w1, t1, l1⟩ := lst_put (ys := ys) x.wd x.tb x.tl hl n
  exact ⟨w1, t1, l1, fun b u n2 n3 n4 e => by rw [upd_ne (ne_of_none e n0)]; exact x.kp b u n2 n3 n4 e⟩
theorem FrK.obj (x : FrK Ts PL W C H H') (wd : Wd H W C) (tb : Tabs Ts H) (tl : LamX.TabS H PL lamQ) {b : Addr} {u : HO} (e : H b = some u) (n2 : ∀ ps, u ≠ .tbl ps) (n3 : b ≠ W ∧ b ≠ C) : H' b = some u := x.kp b u n3.1 n3.2 (fun z => by
  rcases List.mem_cons.mp z with z | z
  · obtain ⟨ps, h, _⟩ := tl
    rw [z, h] at e
    exact n2 _ (Option.some.inj e).symm
  · exact tb.nott e n2 z) e
theorem FrK.tup (x : FrK Ts PL W C H H') (wd : Wd H W C) (tb : Tabs Ts H) (tl : LamX.TabS H PL lamQ) : ∀ b xs, H b = some (.tup xs) → H' b = some (.tup xs) := fun b xs eb => by
  obtain ⟨ns, i, j, e1, e2, _⟩ := wd.ex
  exact x.obj wd tb tl eb (fun _ z => by cases z) ⟨fun z => (by rw [z, e1] at eb; cases eb), fun z => by rw [z, e2] at eb; cases eb⟩
theorem FrK.lst (x : FrK Ts PL W C H H') (wd : Wd H W C) (tb : Tabs Ts H) (tl : LamX.TabS H PL lamQ) {b : Addr} {xs : List V} (eb : H b = some (.lst xs)) (n : b ≠ W ∧ b ≠ C) : H' b = some (.lst xs) := x.obj wd tb tl eb (fun _ z => by cases z) n
end
end
section
variable {P : Program} {w : World} {K : PySem.W.Frag} {mg : Str → Option Value} {base : Heap} {Ts : List Addr} {PL CKeeper CDesk CNoRow : Addr}
open TL
theorem FrK.frL {W C kp : Addr} {H H1 H2 : Hp} (x : FrK Ts PL W C H H1) (nk : H kp = none) (y : FrL Ts PL W C kp H1 H2) : FrK Ts PL W C H H2 := ⟨y.wd, y.tb, y.tl, fun b u n2 n3 n4 e => y.kp b u (ne_of_none e nk) n2 n3 n4 (x.kp b u n2 n3 n4 e)⟩
theorem FrK.was {W C l : Addr} {H H1 : Hp} (x : FrK Ts PL W C H H1) (wd : Wd H W C) (tb : Tabs Ts H) (tl : LamX.TabS H PL lamQ) (n : H1 l = none) : H l = none := by
  cases e : H l with
  | none => rfl
  | some u =>
    obtain ⟨ns, i, j, e1, e2, _⟩ := x.wd.ex
    by_cases hm : l ∈ PL :: Ts
    · rcases List.mem_cons.mp hm with z | z
      · obtain ⟨ps, h, _⟩ := x.tl
        rw [← z, n] at h
        cases h
      · obtain ⟨ps, h, _⟩ := x.tb l z
        rw [n] at h
        cases h
    · rw [x.kp l u (fun z => by rw [z, e1] at n; cases n) (fun z => by rw [z, e2] at n; cases n) hm e] at n
      cases n
theorem rg_nat (b : Nat) : rgV 0 ((b : Nat) : Int) = (List.range b).map nV := by
  unfold rgV
  rw [show (((b : Nat) : Int) - 0).toNat = b by omega]
  exact List.map_congr_left fun i _ => congrArg V.int (by omega)
def spLMany (Ts : List Addr) (PL : Addr) : Sp := fun vs H Q _ => ∃ (W C : Addr), vs = [.ref W] ∧ Wd H W C ∧ Tabs Ts H ∧ LamX.TabS H PL lamQ ∧ ∀ H', FrK Ts PL W C H H' → Q (.bl true) H'
theorem ok_lmanyr {f c : Addr} (hPL : PL ∉ Ts) (D : Dfn K mg "_law_many_right" s__law_many_right f c) (T : Txt mg) (c__law_draw : Cal P w K mg base 2 "_law_draw" spDraw []) (m_Desk : Mak P w K mg base 7 "Desk" CDesk (spDInit Ts CDesk CKeeper) []) (c__law_filled : Cal P w K mg base 11 "_law_filled" (spFilled Ts PL CDesk CKeeper) []) (c__law_right : Cal P w K mg base 12 "_law_right" (spLRight Ts PL CDesk CKeeper) []) : Cal P w K mg base 13 "_law_many_right" (spLMany Ts PL) [] := by
  refine cal D (fun _ _ _ _ _ _ us hl => match us, hl with | [_], _ => rfl) sc__law_many_right (fun vs H Q E h => ?_) (fun A outer s H vs Q E hr h => ?_)
  · obtain ⟨W, C, rfl, _⟩ := h
    rfl
  · obtain ⟨W, C, rfl, wd, tb, tl', q⟩ := h
    refine ⟨_, (pss_cons (ps_set (i := 1) sc__law_many_right.nd rfl (by first | exact Or.inl rfl | exact Or.inr rfl) (C8.pe_mk m_Desk hr (by decide) (by rfl) (pa_cons (pe_op op_add pe_int (pe_c c__law_draw hr (by decide) (by rfl) (pa_cons (pv 0) (pa_cons pe_int pa_nil)))) (pa_cons pe_int pa_nil))))
      (pss_cons (ps_set (i := 2) sc__law_many_right.nd rfl (by first | exact Or.inl rfl | exact Or.inr rfl) (pe_c c__law_filled hr (by decide) (by rfl) (pa_cons (pv 0) (pa_cons (pv 1) (pa_cons pe_int pa_nil)))))
      (pss_cons (ps_for PassesOwn.never rfl (pi_range1 (by rfl) T.b_range (pa_cons pe_int pa_nil)) (pg_name (i := 3) sc__law_many_right.nd rfl (by first | exact Or.inl rfl | exact Or.inr rfl))
        (pss_cons (ps_set (i := 4) sc__law_many_right.nd rfl (by first | exact Or.inl rfl | exact Or.inr rfl) (pe_op op_add (pe_op op_add (pe_ix ix_tup (pv 2) pe_int (fun _ _ => rfl)) pe_int) (pe_c c__law_draw hr (by decide) (by rfl) (pa_cons (pv 0) (pa_cons pe_int pa_nil)))))
      (pss_cons (ps_set (i := 5) sc__law_many_right.nd rfl (by first | exact Or.inl rfl | exact Or.inr rfl) (pe_c c__law_draw hr (by decide) (by rfl) (pa_cons (pv 0) (pa_cons (pv 4) pa_nil))))
      (pss_cons (ps_if (pt_not (pt_val (pe_c c__law_right hr (by decide) (by rfl) (pa_cons (pv 1) (pa_cons (pv 2) (pa_cons (pv 4) (pa_cons (pe_listRg rfl (by rfl) T.b_list (prg_1 (by rfl) T.b_range (pv 4))) pa_nil))))))) (pss_one (ps_ret pe_bl)) pss_nil)
      (pss_one (ps_if (pt_not (pt_val (pe_c c__law_right hr (by decide) (by rfl) (pa_cons (pv 1) (pa_cons (pv 2) (pa_cons (pv 4) (pa_cons (pe_lc (own := [("_law_wire", 6)]) (g := gName 6)  rfl sc__law_many_right.nd (pi_range1 (by rfl) T.b_range (pa_cons (pv 4) pa_nil)) (blkOk_by (own := [("_law_wire", 6)]) (N := ["_law_deck_here", "_law_desk", "_law_net", "_law_turn", "_law_gate", "_law_out", "_law_wire"]) (sc := defScope s__law_many_right) (by decide +kernel)) (fun _ _ _ _ _ => (pg_name (i := 6) sc__law_many_right.nd rfl (by first | exact Or.inl rfl | exact Or.inr rfl))) (fun _ _ _ _ _ => (pts_one (pt_cmpR op_ne (pv 6) (pv 5) (nomark _)))) (fun _ _ _ _ _ => (pv 6))) pa_nil))))))) (pss_one (ps_ret pe_bl)) pss_nil))))))
      (pss_one (ps_ret pe_bl))))), ?_⟩
    clear hr
    refine ⟨_, rfl, W, C, 8, rfl, wd, by decide, by decide, fun e H2 e0 e1 w2 => ⟨_, _, rfl, rfl, ?_⟩⟩
    obtain ⟨m, em, m1, m8⟩ : ∃ m : Nat, 1 + e = ((m : Nat) : Int) ∧ 1 ≤ m ∧ m ≤ 8 := ⟨(1 + e).toNat, by omega, by omega, by omega⟩
    dsimp -proj only
    rw [em]
    have F2 := (FrK.refl wd tb tl').draw w2
    clear w2 e0 e1
    refine fun D2 dx2 nD2 nd2 ne2 => ?_
    refine ⟨D2, dx2, m, 2, rfl, upd_same, m1, m8, by omega, by omega, F2.tb.same ((Same.new nd2).trans (Same.new (by rw [upd_ne (Ne.symm ne2)]; exact nD2))), fun kp2 a2 p2 g2 o2 ps2 qs2 H3 DA tb3 m3 nkp => ⟨rfl, ?_⟩⟩
    obtain ⟨b3, k3⟩ := desk_new hPL F2.tb F2.tl nD2 nd2 (Ne.symm ne2) tb3 m3 nkp
    have Y3 : DkN CDesk CKeeper H3 D2 kp2 ⟨m, [], [0]⟩ 2 := DkN.of DA
    have k0 : H kp2 = none := FrK.was F2 wd tb tl' k3
    have F3 := F2.aftL b3
    clear F2 nD2 nd2 ne2 DA tb3 m3 nkp k3 b3
    have ok3 : Net.Ok ⟨m, [], [0]⟩ := ⟨m1, m8, Nat.zero_le _, fun i g e => by (simp at e), by show 1 ≤ 1; decide, by show 1 ≤ 8; decide, fun x hx => by rw [List.mem_singleton.mp hx]; show 0 < m + 0; omega⟩
    refine ⟨_, rfl, _, rfl, W, C, D2, kp2, ⟨m, [], [0]⟩, 2, 16, rfl, F3.wd, F3.tb, F3.tl, Y3, ok3, by omega, by omega, by omega, fun H5 n a g o ps FL Y5 ok em' gmn N5 => ?_⟩
    have F5 := FrK.frL F3 k0 FL
    clear F3 FL Y3 ok3
    have g16 := ok.g16
    have n8 := ok.m8
    have n1 := ok.m1
    have e16 : n.gates.length = 16 := by omega
    refine ⟨3, rfl, by decide, by decide, ?_⟩
    refine for_range (lo := 0) (n := (3 : Int).toNat) (fun i σ H' => ∃ (x3 x4 x5 x6 : Option V), σ = [some (.ref W), some (.ref D2), some (.ref a), x3, x4, x5, x6] ∧ FrK Ts PL W C H H' ∧ DkN CDesk CKeeper H' D2 kp2 n 2 ∧ NetAt H' a n g o ps) ⟨_, _, _, _, rfl, F5, Y5, N5⟩ ?_ ?_
    · rintro i σ H6 hi ⟨x3, x4, x5, x6, rfl, F6, Y6, N6⟩
      refine ⟨_, rfl, a, _, 0, _, rfl, rfl, SqT.of N6.top, at0, _, _, rfl, rfl, _, rfl, W, C, 5, rfl, F6.wd, by decide, by decide, fun d H7 d0 d1 w7 => ⟨_, _, rfl, rfl, ?_⟩⟩
      obtain ⟨gt, egt, gt1, gt2⟩ : ∃ gt : Nat, ((n.many : Nat) : Int) + 11 + d = ((gt : Nat) : Int) ∧ n.many + 11 ≤ gt ∧ gt < n.many + 16 := ⟨(((n.many : Nat) : Int) + 11 + d).toNat, by omega, by omega, by omega⟩
      dsimp -proj only
      rw [egt]
      have F7 := F6.draw w7
      have Y7 := Y6.draw F6.wd w7
      have N7 := N6.mono fun b xs e => F6.wd.tup w7 e
      refine ⟨_, rfl, _, rfl, W, C, _, rfl, F7.wd, by omega, by omega, fun e H8 e0 e1 w8 => ?_⟩
      obtain ⟨oo, rfl⟩ := Int.eq_ofNat_of_zero_le e0
      have F8 := F7.draw w8
      have Y8 := Y7.draw F7.wd w8
      have N8 := N7.mono fun b xs e => F7.wd.tup w8 e
      clear F6 Y6 N6 F7 Y7 N7 w7 w8 egt d0 d1 e0 e1
      refine ⟨_, rfl, _, rfl, _, rfl, _, rfl, _, rfl, RgOk.of_le (by omega) (by omega) (by omega) (by omega), fun q1 nq1 => ?_⟩
      rw [rg_nat]
      have s9 := Same.new (o := .lst ((List.range gt).map nV)) nq1
      have h9 : upd H8 q1 (.lst ((List.range gt).map nV)) q1 = some (.lst ((List.range gt).map nV)) := upd_same
      have F9 := F8.same s9
      have Y9 := Y8.same s9
      have N9 := N8.same s9
      generalize upd H8 q1 (.lst ((List.range gt).map nV)) = H9 at h9 F9 Y9 N9 ⊢
      clear s9 nq1 F8 Y8 N8
      refine ⟨D2, kp2, a, q1, n, 2, g, o, ps, gt, List.range gt, rfl, Y9, N9, ok, by omega, by omega, F9.tb, F9.tl, by omega, by omega, h9, by rw [List.length_range]; omega, by rw [List.length_range]; omega, fun x hx => by have := List.mem_range.mp hx; omega, fun H10 b10 => ⟨_, rfl, iteF ?_⟩⟩
      have F10 := F9.aftL b10
      have Y10 := Y9.aftL F9.tb F9.tl b10
      have N10 := N9.mono fun b xs e => b10.tup F9.tb F9.tl e
      clear F9 Y9 N9 h9 b10
      refine ⟨_, rfl, _, rfl, _, rfl, _, rfl, _, rfl, by omega, by omega, fun M nM => ?_⟩
      refine lc_range (lo := 0) (n := ((gt : Nat) : Int).toNat) (fun i H' => Own H10 H' M (((List.range i).filter fun x => decide (x ≠ oo)).map nV)) ⟨Same.new nM, upd_same, nM⟩ ?_ ?_
      · rintro j H11 hj o11
        have hj2 : j < gt := by omega
        have ef : (List.range (j + 1)).filter (fun x => decide (x ≠ oo)) = (List.range j).filter (fun x => decide (x ≠ oo)) ++ (if decide (j ≠ oo) = true then [j] else []) := by
          rw [List.range_succ, List.filter_append, List.filter_cons]
          rfl
        have ej : V.int (0 + ((j : Nat) : Int)) = nV j := by rw [Int.zero_add]; rfl
        rw [ej]
        refine ⟨rfl, _, rfl, _, rfl, rfl, _, rfl, ite2 (fun hne => ?_) (fun hne => ?_)⟩
        · have hne' : j ≠ oo := fun z => by
            subst z
            rw [decide_eq_true (show nV j = V.int ((j : Nat) : Int) from rfl)] at hne
            cases hne
          refine ⟨_, rfl, _, o11.at_, ?_, ?_⟩
          · rw [List.length_map]
            exact Nat.lt_of_le_of_lt (List.length_filter_le _ _) (by rw [List.length_range]; exact small256 (by omega))
          · rw [ef, if_pos (decide_eq_true hne'), List.map_append]
            exact o11.app
        · have hne' : j = oo := Classical.not_not.mp fun z => hne (by
            rw [decide_eq_false (fun y => z (by have := V.int.inj y; omega))]
            rfl)
          show Own H10 H11 M _
          rw [ef, if_neg (by rw [decide_eq_false (fun z => z hne')]; exact Bool.false_ne_true), List.append_nil]
          exact o11
      rintro H11 o11
      have F11 := F10.same o11.sm
      have Y11 := Y10.same o11.sm
      have N11 := N10.same o11.sm
      have egt : ((gt : Nat) : Int).toNat = gt := by omega
      rw [egt] at o11
      have sub : ∀ x ∈ (List.range gt).filter (fun x => decide (x ≠ oo)), x < gt := fun x hx => List.mem_range.mp (List.mem_filter.mp hx).1
      have ne0 : 0 < ((List.range gt).filter fun x => decide (x ≠ oo)).length := by
        refine List.length_pos_of_mem (a := if oo = 0 then 1 else 0) (List.mem_filter.mpr ⟨List.mem_range.mpr ?_, decide_eq_true ?_⟩)
        · split <;> omega
        · split <;> omega
      refine ⟨D2, kp2, a, M, n, 2, g, o, ps, gt, (List.range gt).filter fun x => decide (x ≠ oo), rfl, Y11, N11, ok, by omega, by omega, F11.tb, F11.tl, by omega, by omega, o11.at_, ne0, Nat.le_trans (List.length_filter_le _ _) (by rw [List.length_range]; omega), fun x hx => by have := sub x hx; omega, fun H12 b12 => ⟨_, rfl, iteF ?_⟩⟩
      exact ⟨_, _, _, _, rfl, F11.aftL b12, Y11.aftL F11.tb F11.tl b12, N11.mono fun b xs e => b12.tup F11.tb F11.tl e⟩
    · rintro σ H6 ⟨x3, x4, x5, x6, rfl, F6, _, _⟩
      exact q H6 F6
end
end K80
set_option Elab.async false
set_option linter.all false
set_option maxRecDepth 100000
set_option maxHeartbeats 4000000
namespace K80
open PySem PySem.Spec PyProof.Rows L2 GX
open C8 (Cal pe_c pe_gc Met Mak)
-- @dict CHANGES
-- @no CHANGES 0 ""
-- @no CHANGES 1 "0"
-- @no CHANGES 2 "way"
-- @no CHANGES 3 "Kind"
-- @no CHANGES 4 "leads"
-- @dict QUESTIONS
-- @no QUESTIONS 0 "gate"
-- @no QUESTIONS 1 "kind"
-- @no QUESTIONS 2 "lead"
-- @no QUESTIONS 3 "less"
-- @no QUESTIONS 4 "outs"
-- @exc NoText
-- @exc NoDepth
-- @exc TooMany
-- @exc NoMatch
-- @exc NoChange made
-- @exc NoRow made
-- @sub NoChange NoChange true
-- @sub NoRow NoRow true
-- @sub NoRow ValueError true
-- @sub NoRow NoText false
-- @sub NoRow NoDepth false
-- @sub NoRow TooMany false
-- @sub NoRow NoMatch false
-- @sub NoRow NoChange false
-- @cls Keeper k:i,held:N,kept:t[t[t[i]]]
-- @cls Desk keeper:OKeeper
-- @alt rises list par=l[i]
-- @alt cut_masks tup par=N,t[i],i vars=masks:DL,wire:i
-- @alt one_deeper tup par=t[i],t[i]
-- @alt _law_written tup par=t[i],s
section
variable {P : Program} {w : World} {K : PySem.W.Frag} {mg : Str → Option Value} {base : Heap}
def netD (n : Net) : PyData := .tuple [.int ((n.many : Nat) : Int), .tuple (csD (n.gates.map fun g => [g.1, g.2.1, g.2.2])), .tuple (natsD n.outs)]
theorem gl_inj : ∀ {a b : List (Nat × Nat × Nat)}, a.map (fun g => [g.1, g.2.1, g.2.2]) = b.map (fun g => [g.1, g.2.1, g.2.2]) → a = b
  | [], [], _ => rfl
  | [], _ :: _, h => by cases h
  | _ :: _, [], h => by cases h
  | (x, y, z) :: r, (x', y', z') :: s, h => by
    rw [List.map_cons, List.map_cons] at h
    obtain ⟨h1, h2⟩ := List.cons.inj h
    have : x = x' ∧ y = y' ∧ z = z' := by
      injection h1 with e1 e2
      injection e2 with e2 e3
      injection e3 with e3 _
      exact ⟨e1, e2, e3⟩
    rw [this.1, this.2.1, this.2.2, gl_inj h2]
theorem netD_eqv (n m : Net) : PyData.eqv (netD n) (netD m) = true ↔ n = m := by
  show ((((n.many : Nat) : Int) == ((m.many : Nat) : Int)) && (PyData.eqv (.tuple (csD (n.gates.map fun g => [g.1, g.2.1, g.2.2]))) (.tuple (csD (m.gates.map fun g => [g.1, g.2.1, g.2.2]))) && (PyData.eqv (.tuple (natsD n.outs)) (.tuple (natsD m.outs)) && true))) = true ↔ _
  rw [csD_eqT, natsD_eqT, Bool.and_true, Bool.and_eq_true, Bool.and_eq_true, beq_iff_eq, decide_eq_true_iff, decide_eq_true_iff]
  constructor
  · rintro ⟨h1, h2, h3⟩
    have h1 := Int.ofNat_inj.mp h1
    have h2 := gl_inj h2
    cases n; cases m
    simp only at h1 h2 h3
    rw [h1, h2, h3]
  · rintro rfl
    exact ⟨rfl, rfl, rfl⟩
theorem netD_shaped (n : Net) : SeqAt.shaped (netD n) = true := by
  obtain ⟨c1, c2⟩ := csD_can (n.gates.map fun g => [g.1, g.2.1, g.2.2])
  obtain ⟨d1, d2⟩ := canInts (n.outs.map fun n : Nat => (n : Int))
  have d1 : PyData.canLayAll0 (natsD n.outs) = true := d1
  have d2 : PyData.depthAll (natsD n.outs) = 0 := d2
  refine shaped_tup (d := 3) ?_ ?_ (by decide)
  · simp only [PyData.canLayAll0, PyData.canLay0, c1, d1, Bool.and_true]
  · simp only [PyData.depthAll, PyData.depth, d2]
    omega
theorem netD_dp {H : Hp} {a g o : Addr} {ps : List Addr} {n : Net} (N : NetAt H a n g o ps) : Dp K H (.ref a) (netD n) :=
  .tup (SqT.of N.top) (.cons (.int _) (.cons (dp_cs N.gt ⟨by rw [N.gs.1, List.length_map], fun i p c e1 e2 => by
    rw [List.getElem?_map] at e2
    cases e3 : n.gates[i]? with
    | none => rw [e3] at e2; cases e2
    | some k =>
      rw [e3] at e2
      cases e2
      exact N.gs.2 i p k e1 e3⟩) (.cons (dp_natT N.ot) .nil)))
end
section
variable {P : Program} {w : World} {K : PySem.W.Frag} {mg : Str → Option Value} {base : Heap} {Ts : List Addr} {PL CKeeper CDesk CNoRow : Addr}
open TL
theorem DkN.frK {H H' : Hp} {D kp W C : Addr} {n : Net} {k : Nat} (x : DkN CDesk CKeeper H D kp n k) (f : FrK Ts PL W C H H') (wd : Wd H W C) (tb : Tabs Ts H) (tl : LamX.TabS H PL lamQ) : DkN CDesk CKeeper H' D kp n k := by
  obtain ⟨ns, i, j, e1, e2, _⟩ := wd.ex
  obtain ⟨⟨dx, e⟩, ⟨a, p, g, o, ps, qs, h1⟩⟩ := x
  refine ⟨⟨dx, f.obj wd tb tl e (fun _ z => by cases z) ⟨fun z => (by rw [z, e1] at e; cases e), fun z => (by rw [z, e2] at e; cases e)⟩⟩, ⟨a, p, g, o, ps, qs, h1.mono fun b u e n1 nl => ?_⟩⟩
  exact f.obj wd tb tl e n1 ⟨fun z => (by rw [z, e1] at e; exact nl _ (Option.some.inj e).symm), fun z => (by rw [z, e2] at e; exact nl _ (Option.some.inj e).symm)⟩
theorem gates_dp {K : PySem.W.Frag} {H : Hp} {a g o : Addr} {ps : List Addr} {n : Net} (N : NetAt H a n g o ps) : Dp K H (.ref g) (.tuple (csD (n.gates.map fun g => [g.1, g.2.1, g.2.2]))) := dp_cs N.gt ⟨by rw [N.gs.1, List.length_map], fun i p c e1 e2 => by
    rw [List.getElem?_map] at e2
    cases e3 : n.gates[i]? with
    | none => rw [e3] at e2; cases e2
    | some k =>
      rw [e3] at e2
      cases e2
      exact N.gs.2 i p k e1 e3⟩
/-- what is asked of: a gate and wires, in a list of its own -/
def AskR (W C A : Addr) (H : Hp) (u : Addr) (x : Nat × List Nat) : Prop := ∃ l, H u = some (.tup [nV x.1, .ref l]) ∧ H l = some (.lst (x.2.map nV)) ∧ l ≠ W ∧ l ≠ C ∧ l ≠ A
theorem AskR.mono {W C A : Addr} {H H' : Hp} {u : Addr} {x : Nat × List Nat} (h : AskR W C A H u x) (m1 : ∀ b xs, H b = some (.tup xs) → H' b = some (.tup xs)) (m2 : ∀ b xs, b ≠ W ∧ b ≠ C → b ≠ A → H b = some (.lst xs) → H' b = some (.lst xs)) : AskR W C A H' u x := by
  obtain ⟨l, h1, h2, n1, n2, n3⟩ := h
  exact ⟨l, m1 _ _ h1, m2 _ _ ⟨n1, n2⟩ n3 h2, n1, n2, n3⟩
def AskOk (m gl : Nat) (x : Nat × List Nat) : Prop := m ≤ x.1 ∧ x.1 < m + gl ∧ 0 < x.2.length ∧ x.2.length ≤ 60 ∧ ∀ y ∈ x.2, y < 100
def spLaw (K : PySem.W.Frag) (Ts : List Addr) (PL : Addr) : Sp := fun vs H Q _ => ∃ (a : Addr) (ns : List Int), vs = [.ref a] ∧ SqL K H a (ns.map V.int) ∧ ns.length ≤ 63 ∧ Tabs Ts H ∧ LamX.TabS H PL lamQ ∧ ∀ H', Q (.bl true) H'
theorem ok_law {f c : Addr} {oc kV doc pm ct : Value} {od an : Option Addr} {osl : Array (Option Value)} (hPL : PL ∉ Ts)
    (lk : K.lookup f = some ⟨oc, od, .func (PySem.W.fnOf "law" "law" (defArgs s_law) (defBody s_law) (defScope s_law) .none kV doc pm an (.ref c) ct), osl⟩) (hcd : PySem.W.codeIn K (.ref c) "law" = true) (T : Txt mg)
    (c__law_deck : Cal P w K mg base 1 "_law_deck" (spDeck K) []) (c__law_draw : Cal P w K mg base 2 "_law_draw" spDraw []) (m_Desk : Mak P w K mg base 7 "Desk" CDesk (spDInit Ts CDesk CKeeper) []) (c__law_grown : Cal P w K mg base 11 "_law_grown" (spGrown Ts PL CDesk CKeeper) []) (c__law_wires : Cal P w K mg base 3 "_law_wires" spLWires []) (c__law_right : Cal P w K mg base 12 "_law_right" (spLRight Ts PL CDesk CKeeper) []) (m_Desk_net : Met P w K mg base 2 CDesk "net" (spDNet CDesk CKeeper) []) (c__law_led : Cal P w K mg base 11 "_law_led" (spLed Ts PL CDesk CKeeper) []) (c__law_turned_over : Cal P w K mg base 11 "_law_turned_over" (spLed Ts PL CDesk CKeeper) []) (c__law_many_right : Cal P w K mg base 13 "_law_many_right" (spLMany Ts PL) []) :
    FnOk P w K mg base L2.CX0 14 f (PySem.W.fnOf "law" "law" (defArgs s_law) (defBody s_law) (defScope s_law) .none kV doc pm an (.ref c) ct) ["_law_script"] (spLaw K Ts PL) := by
  refine fnok lk hcd sc_law (fun vs H Q E h => ?_) (fun A outer s H vs Q E hr h => ?_)
  · obtain ⟨a, ns, rfl, _⟩ := h
    rfl
  · obtain ⟨a, ns, rfl, hS, hlen, tb, tl', q⟩ := h
    refine ⟨_, (pss_cons (ps_set (i := 1) sc_law.nd rfl (by first | exact Or.inl rfl | exact Or.inr rfl) (pe_c c__law_deck hr (by decide) (by rfl) (pa_cons (pv 0) pa_nil)))
      (pss_cons (ps_set (i := 2) sc_law.nd rfl (by first | exact Or.inl rfl | exact Or.inr rfl) (pe_op op_add pe_int (pe_c c__law_draw hr (by decide) (by rfl) (pa_cons (pv 1) (pa_cons pe_int pa_nil)))))
      (pss_cons (ps_set (i := 3) sc_law.nd rfl (by first | exact Or.inl rfl | exact Or.inr rfl) (C8.pe_mk m_Desk hr (by decide) (by rfl) (pa_cons (pe_op op_add pe_int (pe_c c__law_draw hr (by decide) (by rfl) (pa_cons (pv 1) (pa_cons pe_int pa_nil)))) (pa_cons (pv 2) pa_nil))))
      (pss_cons (ps_set (i := 4) sc_law.nd rfl (by first | exact Or.inl rfl | exact Or.inr rfl) (pe_c c__law_grown hr (by decide) (by rfl) (pa_cons (pv 1) (pa_cons (pv 3) (pa_cons (pe_op op_add pe_int (pe_c c__law_draw hr (by decide) (by rfl) (pa_cons (pv 1) (pa_cons pe_int pa_nil)))) (pa_cons (pe_ix ix_list (pe_lst (pa_cons pe_int (pa_cons pe_int (pa_cons pe_int pa_nil)))) (pe_op op_sub (pv 2) pe_int) (fun _ _ => rfl)) pa_nil))))))
      (pss_cons (ps_set (i := 5) sc_law.nd rfl (by first | exact Or.inl rfl | exact Or.inr rfl) (pe_lst pa_nil))
      (pss_cons (ps_for PassesOwn.never rfl (pi_range1 (by rfl) T.b_range (pa_cons (pe_op op_mul pe_int (pe_callTy call_int1 (by rfl) T.b_int (by decide +kernel) (pa_cons (pe_cmpR (op_neD hr.units) (pe_ix ix_tup (pv 4) pe_int (fun _ _ => rfl)) (pe_tup pa_nil) (nomark _)) pa_nil))) pa_nil)) (pg_name (i := 6) sc_law.nd rfl (by first | exact Or.inl rfl | exact Or.inr rfl))
        (pss_cons (ps_set (i := 7) sc_law.nd rfl (by first | exact Or.inl rfl | exact Or.inr rfl) (pe_op op_add (pe_ix ix_tup (pv 4) pe_int (fun _ _ => rfl)) (pe_c c__law_draw hr (by decide) (by rfl) (pa_cons (pv 1) (pa_cons (pe_callB call_len_seq (by rfl) T.b_len (by decide +kernel) (pa_cons (pe_ix ix_tup (pv 4) pe_int (fun _ _ => rfl)) pa_nil)) pa_nil)))))
      (pss_one (ps_expr (pe_bm PySem.F.plainAttrs_list PySem.F.slot_list_append PySem.F.type_list_append mt_append (pv 5) (pa_cons (pe_tup (pa_cons (pv 7) (pa_cons (pe_c c__law_wires hr (by decide) (by rfl) (pa_cons (pv 1) (pa_cons (pv 4) (pa_cons (pv 7) pa_nil)))) pa_nil))) pa_nil))))))
      (pss_cons (ps_for PassesOwn.never rfl (pi_range1 (by rfl) T.b_range (pa_cons pe_int pa_nil)) (pg_name (i := 8) sc_law.nd rfl (by first | exact Or.inl rfl | exact Or.inr rfl))
        (pss_cons (ps_for PassesOwn.never rfl (pi_list (pv 5)) (pg_tup rfl (pgs_cons (pg_name (i := 7) sc_law.nd rfl (by first | exact Or.inl rfl | exact Or.inr rfl)) (pgs_cons (pg_name (i := 9) sc_law.nd rfl (by first | exact Or.inl rfl | exact Or.inr rfl)) pgs_nil)))
        (pss_one (ps_if (PW.pt (pw_or (pt_not (pt_val (pe_c c__law_right hr (by decide) (by rfl) (pa_cons (pv 3) (pa_cons (pv 4) (pa_cons (pv 7) (pa_cons (pv 9) pa_nil))))))) (pw_or1 (pt_cmpR (op_neD hr.units) (C8.pe_mt0 m_Desk_net hr (by decide) (pv 3)) (pv 4) (nomark _))))) (pss_one (ps_ret pe_bl)) pss_nil)))
      (pss_cons (ps_for PassesOwn.never rfl (pi_range1 (by rfl) T.b_range (pa_cons pe_int pa_nil)) (pg_name (i := 6) sc_law.nd rfl (by first | exact Or.inl rfl | exact Or.inr rfl))
        (pss_one (ps_set (i := 4) sc_law.nd rfl (by first | exact Or.inl rfl | exact Or.inr rfl) (pe_c c__law_led hr (by decide) (by rfl) (pa_cons (pv 1) (pa_cons (pv 3) (pa_cons (pv 4) pa_nil)))))))
      (pss_one (ps_set (i := 4) sc_law.nd rfl (by first | exact Or.inl rfl | exact Or.inr rfl) (pe_c c__law_turned_over hr (by decide) (by rfl) (pa_cons (pv 1) (pa_cons (pv 3) (pa_cons (pv 4) pa_nil)))))))))
      (pss_cons (ps_if (PW.pt (pw_and (pt_cmpR op_eq (pe_c c__law_draw hr (by decide) (by rfl) (pa_cons (pv 1) (pa_cons pe_int pa_nil))) pe_int (nomark _)) (pw_and1 (pt_not (pt_val (pe_c c__law_many_right hr (by decide) (by rfl) (pa_cons (pv 1) pa_nil))))))) (pss_one (ps_ret pe_bl)) pss_nil)
      (pss_one (ps_ret (pe_cmpR (op_eqD hr.units) (C8.pe_mt0 m_Desk_net hr (by decide) (pv 3)) (pv 4) (nomark _)))))))))))), ?_⟩
    clear hr
    refine ⟨_, rfl, a, ns, rfl, hS, hlen, fun W C H1 nW nC wd s1 => ?_⟩
    have tb1 := tb.same s1
    have tl1 : LamX.TabS H1 PL lamQ := tl'.ext fun b o e => s1 b o e
    clear tb tl' hS hlen s1 nW nC
    refine ⟨_, rfl, W, C, 3, rfl, wd, by decide, by decide, fun d H2 d0 d1 w2 => ⟨_, _, rfl, rfl, ?_⟩⟩
    obtain ⟨kw, ekw, kw2, kw4⟩ : ∃ kw : Nat, 2 + d = ((kw : Nat) : Int) ∧ 2 ≤ kw ∧ kw ≤ 4 := ⟨(2 + d).toNat, by omega, by omega, by omega⟩
    dsimp -proj only
    rw [ekw]
    have F2 := (FrK.refl wd tb1 tl1).draw w2
    have wd2 := F2.wd
    have tb2 := F2.tb
    have tl2 := F2.tl
    clear F2 wd tb1 tl1 w2
    refine ⟨_, rfl, W, C, 8, rfl, wd2, by decide, by decide, fun g H5 g0 g1 w5 => ⟨_, _, rfl, rfl, ?_⟩⟩
    obtain ⟨m, em, m1, m8⟩ : ∃ m : Nat, 1 + g = ((m : Nat) : Int) ∧ 1 ≤ m ∧ m ≤ 8 := ⟨(1 + g).toNat, by omega, by omega, by omega⟩
    dsimp -proj only
    rw [em]
    have F5 := (FrK.refl wd2 tb2 tl2).draw w5
    clear w5 g0 g1 em d0 d1 ekw
    refine ⟨_, rfl, fun D2 dx2 nD2 nd2 ne2 => ?_⟩
    refine ⟨D2, dx2, m, kw, rfl, upd_same, m1, m8, kw2, by omega, F5.tb.same ((Same.new nd2).trans (Same.new (by rw [upd_ne (Ne.symm ne2)]; exact nD2))), fun kp2 a2 p2 g2 o2 ps2 qs2 H6 DA tb3 m3 nkp => ⟨rfl, ?_⟩⟩
    obtain ⟨b3, k3⟩ := desk_new hPL F5.tb F5.tl nD2 nd2 (Ne.symm ne2) tb3 m3 nkp
    have Y6 : DkN CDesk CKeeper H6 D2 kp2 ⟨m, [], [0]⟩ kw := DkN.of DA
    have F6 := F5.aftL b3
    have wd6 := F6.wd
    have tb6 := F6.tb
    have tl6 := F6.tl
    clear F5 F6 nD2 nd2 ne2 DA tb3 m3 nkp k3 b3 wd2 tb2 tl2
    have ok6 : Net.Ok ⟨m, [], [0]⟩ := ⟨m1, m8, Nat.zero_le _, fun i g e => by (simp at e), by show 1 ≤ 1; decide, by show 1 ≤ 8; decide, fun x hx => by rw [List.mem_singleton.mp hx]; show 0 < m + 0; omega⟩
    refine ⟨_, rfl, _, rfl, _, rfl, W, C, 17, rfl, wd6, by decide, by decide, fun u H7 u0 u1 w7 => ⟨_, _, rfl, rfl, ?_⟩⟩
    obtain ⟨tn, etn, tn100⟩ : ∃ tn : Nat, 4 + u = ((tn : Nat) : Int) ∧ tn ≤ 100 := ⟨(4 + u).toNat, by omega, by omega⟩
    dsimp -proj only
    rw [etn]
    have F7 := (FrK.refl wd6 tb6 tl6).draw w7
    have Y7 := Y6.draw wd6 w7
    obtain ⟨gm, hgm, gm16⟩ : ∃ gm : Nat, atI [V.int 16, V.int 6, V.int 5] (((kw : Nat) : Int) - 2) = some (nV gm) ∧ gm ≤ 16 := by
      have : kw = 2 ∨ kw = 3 ∨ kw = 4 := by omega
      rcases this with rfl | rfl | rfl
      · exact ⟨16, rfl, by decide⟩
      · exact ⟨6, rfl, by decide⟩
      · exact ⟨5, rfl, by decide⟩
    refine ⟨small 3, fun z4 nz4 => ⟨_, rfl, _, _, rfl, rfl, z4, _, _, _, rfl, rfl, SqL.of upd_same, hgm, ?_⟩⟩
    have s8 := Same.new (o := .lst [V.int 16, V.int 6, V.int 5]) nz4
    have F8 := F7.same s8
    refine ⟨W, C, D2, kp2, ⟨m, [], [0]⟩, kw, tn, gm, rfl, F8.wd, F8.tb, F8.tl, Y7.same s8, ok6, kw2, kw4, gm16, tn100, fun H9 n b g o ps F9 Y9 ok9 em9 N9 => ?_⟩
    have wd9 := F9.wd
    have tb9 := F9.tb
    have tl9 := F9.tl
    clear F9 F8 F7 Y7 Y6 s8 nz4 hgm gm16 w7 u0 u1 etn tn100 tn ok6 em9 wd6 tb6 tl6
    refine ⟨small 0, fun A nA => ?_⟩
    have sA := Same.new (o := .lst []) nA
    have hA : upd H9 A (.lst []) A = some (.lst []) := upd_same
    have AW := wd9.new nA
    have F10 := (FrK.refl wd9 tb9 tl9).same sA
    have Y10 := Y9.same sA
    have N10 := N9.same sA
    show gName _ _ _ (upd H9 A (.lst [])) _
    generalize upd H9 A (.lst []) = H10 at hA F10 Y10 N10 ⊢
    have wd10 := F10.wd
    have tb10 := F10.tb
    have tl10 := F10.tl
    clear F10 Y9 N9 wd9 tb9 tl9 sA nA
    have ok := ok9
    have m8' := ok.m8
    have g16 := ok.g16
    have m1' := ok.m1
    refine ⟨_, rfl, b, _, 1, _, rfl, rfl, SqT.of N10.top, at1, small 0, fun z nz => ?_⟩
    have sz := Same.new (o := .tup []) nz
    have hz : upd H10 z (.tup []) z = some (.tup []) := upd_same
    have F11 := (FrK.refl wd10 tb10 tl10).same sz
    have Y11 := Y10.same sz
    have N11 := N10.same sz
    have hA11 := sz _ _ hA
    generalize upd H10 z (.tup []) = H11 at hz hA11 F11 Y11 N11 ⊢
    have wd11 := F11.wd
    have tb11 := F11.tb
    have tl11 := F11.tl
    clear F11 Y10 N10 wd10 tb10 tl10 sz nz hA
    obtain ⟨c1, c2⟩ := csD_can (n.gates.map fun g => [g.1, g.2.1, g.2.2])
    refine ⟨.tuple (csD (n.gates.map fun g => [g.1, g.2.1, g.2.2])), .tuple [], gates_dp N11, .tup (SqT.of hz) .nil, shaped_tup (d := 1) c1 c2 (by decide), by decide, ?_⟩
    rw [show PyData.eqv (.tuple (csD (n.gates.map fun g => [g.1, g.2.1, g.2.2]))) (.tuple []) = decide ((n.gates.map fun g => [g.1, g.2.1, g.2.2]) = []) from csD_eqT _ []]
    have cpos : ∀ i, i < (6 * (if (!decide ((n.gates.map fun g => [g.1, g.2.1, g.2.2]) = [])) = true then (1 : Int) else 0)).toNat → 0 < n.gates.length := fun i hi => by
      refine Nat.pos_of_ne_zero fun z0 => ?_
      have : (n.gates.map fun g => [g.1, g.2.1, g.2.2]) = [] := List.length_eq_zero_iff.mp (by rw [List.length_map]; exact z0)
      rw [decide_eq_true this] at hi
      have hi : i < 0 := hi
      omega
    have cle : (if (!decide ((n.gates.map fun g => [g.1, g.2.1, g.2.2]) = [])) = true then (1 : Int) else 0) = 0 ∨ (if (!decide ((n.gates.map fun g => [g.1, g.2.1, g.2.2]) = [])) = true then (1 : Int) else 0) = 1 := by
      split
      · exact .inr rfl
      · exact .inl rfl
    refine .inr ⟨_, rfl, _, _, rfl, rfl, .inl ⟨by decide, by decide⟩, _, rfl, ?_, ?_, ?_⟩
    · rcases cle with h | h <;> rw [h] <;> decide
    · rcases cle with h | h <;> rw [h] <;> decide
    have c6 : ∀ i, i ≤ (6 * (if (!decide ((n.gates.map fun g => [g.1, g.2.1, g.2.2]) = [])) = true then (1 : Int) else 0)).toNat → i ≤ 6 := fun i hi => by
      rcases cle with h | h <;> rw [h] at hi <;> omega
    clear c1 c2 hz cle
    generalize (6 * (if (!decide ((n.gates.map fun g => [g.1, g.2.1, g.2.2]) = [])) = true then (1 : Int) else 0)).toNat = cnt at cpos c6 ⊢
    refine for_range (lo := 0) (n := cnt) (fun i σ H' => ∃ (x6 x7 : Option V) (us : List Addr) (xs : List (Nat × List Nat)), σ = [some (.ref a), some (.ref W), some (nV kw), some (.ref D2), some (.ref b), some (.ref A), x6, x7, none, none] ∧ Wd H' W C ∧ Tabs Ts H' ∧ LamX.TabS H' PL lamQ ∧ DkN CDesk CKeeper H' D2 kp2 n kw ∧ NetAt H' b n g o ps ∧ H' A = some (.lst (us.map V.ref)) ∧ PtsAt (AskR W C A) H' us xs ∧ us.length = i ∧ ∀ x ∈ xs, AskOk n.many n.gates.length x) ⟨_, _, [], [], rfl, wd11, tb11, tl11, Y11, N11, hA11, PtsAt.nil _ _, rfl, fun x hx => by cases hx⟩ ?_ ?_
    · clear wd11 tb11 tl11 Y11 N11 hA11
      rintro i σ H1 hi ⟨x6, x7, us, xs, rfl, wd1, tb1, tl1, Y1, N1, hA1, PT, ul, xok⟩
      have gp := cpos i hi
      have i6 := c6 i (by omega)
      have gl : (ps.map V.ref).length = n.gates.length := by rw [List.length_map, N1.gs.1]
      refine ⟨_, rfl, b, _, 0, _, rfl, rfl, SqT.of N1.top, at0, _, rfl, _, rfl, b, _, 1, _, rfl, rfl, SqT.of N1.top, at1, g, _, rfl, .inr (SqT.of N1.gt), W, C, _, rfl, wd1, by rw [gl]; omega, by rw [gl]; omega, fun d H2 d0 d1 w2 => ⟨_, _, rfl, rfl, ?_⟩⟩
      obtain ⟨d, rfl⟩ := Int.eq_ofNat_of_zero_le d0
      rw [gl] at d1
      have eg : V.int (((n.many : Nat) : Int) + ((d : Nat) : Int)) = nV (n.many + d) := congrArg V.int (by omega)
      dsimp -proj only
      rw [eg]
      have N2 := N1.mono fun b xs e => wd1.tup w2 e
      have wd2 := w2.wl
      have F2 := (FrK.refl wd1 tb1 tl1).draw w2
      have Y2 := Y1.draw wd1 w2
      have hA2 := w2.at_ AW hA1
      have PT2 : PtsAt (AskR W C A) H2 us xs := PT.mono fun u x h => h.mono (fun b xs e => wd1.tup w2 e) fun b xs n1 _ e => w2.at_ n1 e
      refine ⟨_, rfl, .inl ⟨rfl, _, SqL.of hA2⟩, _, rfl, _, rfl, _, rfl, _, rfl, W, C, b, n, g, o, ps, n.many + d, rfl, wd2, N2, ok, by omega, by omega, fun l H3 ws hl lW ln w3 l0 l60 lt => ⟨small 2, fun t nt => ⟨A, us.map V.ref, _, rfl, rfl, ?_, ?_, ?_⟩⟩⟩
      · exact (Same.new nt) _ _ (w3.at_ AW hA2)
      · rw [List.length_map, ul]
        exact small256 (by omega)
      have st := Same.new (o := .tup [nV (n.many + d), V.ref l]) nt
      have ht : upd H3 t (.tup [nV (n.many + d), V.ref l]) t = some (.tup [nV (n.many + d), V.ref l]) := upd_same
      have F3 := (F2.draw w3).same st
      have Y3 := (Y2.draw wd2 w3).same st
      have N3 := (N2.mono fun b xs e => wd2.tup w3 e).same st
      have hA3 := st _ _ (w3.at_ AW hA2)
      have hl3 := st _ _ hl
      have PT3 : PtsAt (AskR W C A) (upd H3 t (.tup [nV (n.many + d), V.ref l])) us xs := PT2.mono fun u x h => h.mono (fun b xs e => st _ _ (wd2.tup w3 e)) fun b xs n1 _ e => st _ _ (w3.at_ n1 e)
      generalize upd H3 t (.tup [nV (n.many + d), V.ref l]) = H4 at ht F3 Y3 N3 hA3 hl3 PT3 ⊢
      have lA : l ≠ A := fun z => by rw [z, hA2] at ln; cases ln
      obtain ⟨wd5, tb5, tl5⟩ := lst_put (ys := us.map V.ref ++ [V.ref t]) F3.wd F3.tb F3.tl hA3 AW
      have tp : ∀ b xs, H4 b = some (.tup xs) → upd H4 A (.lst (us.map V.ref ++ [V.ref t])) b = some (.tup xs) := fun b xs e => by rw [upd_ne (fun z => by rw [z, hA3] at e; cases e)]; exact e
      refine ⟨_, _, us ++ [t], xs ++ [(n.many + d, ws)], rfl, wd5, tb5, tl5, Y3.put hA3, N3.mono tp, by rw [upd_same, List.map_append]; rfl, PtsAt.push (PT3.mono fun u x h => h.mono tp fun b xs _ n3 e => by rw [upd_ne n3]; exact e) ⟨l, tp _ _ ht, by rw [upd_ne lA]; exact hl3, lW.1, lW.2, lA⟩, by rw [List.length_append, ul]; rfl, fun x hx => ?_⟩
      rcases List.mem_append.mp hx with h | h
      · exact xok x h
      · rw [List.mem_singleton.mp h]
        exact ⟨Nat.le_add_right _ _, by show n.many + d < _; omega, l0, l60, lt⟩
    · rintro σ H1 ⟨x6, x7, us, xs, rfl, wd1, tb1, tl1, Y1, N1, hA1, PT, ul, xok⟩
      clear cpos c6 ul
      refine ⟨2, rfl, by decide, by decide, ?_⟩
      refine for_range (lo := 0) (n := (2 : Int).toNat) (fun i σ H' => ∃ (x6 x7 x8 x9 : Option V) (n : Net) (b g o : Addr) (ps : List Addr), σ = [some (.ref a), some (.ref W), some (nV kw), some (.ref D2), some (.ref b), some (.ref A), x6, x7, x8, x9] ∧ Wd H' W C ∧ Tabs Ts H' ∧ LamX.TabS H' PL lamQ ∧ DkN CDesk CKeeper H' D2 kp2 n kw ∧ n.Ok ∧ NetAt H' b n g o ps ∧ H' A = some (.lst (us.map V.ref)) ∧ PtsAt (AskR W C A) H' us xs ∧ ∀ x ∈ xs, AskOk n.many n.gates.length x) ⟨_, _, _, _, n, b, g, o, ps, rfl, wd1, tb1, tl1, Y1, ok, N1, hA1, PT, xok⟩ ?_ ?_
      · clear wd1 tb1 tl1 Y1 ok ok9 N1 hA1 PT xok N11 Y11 wd11 tb11 tl11 hA11 m8' g16 m1'
        clear n b g o ps x6 x7
        rintro i σ H1 hi ⟨x6, x7, x8, x9, n, b, g, o, ps, rfl, wd1, tb1, tl1, Y1, ok, N1, hA1, PT, xk⟩
        refine ⟨_, rfl, A, rfl, ⟨_, SqL.of hA1⟩, ?_⟩
        refine for_list (K := K) (a := A) (xs := us.map V.ref) (fun j σ H' => ∃ (x7 x9 : Option V), σ = [some (.ref a), some (.ref W), some (nV kw), some (.ref D2), some (.ref b), some (.ref A), x6, x7, some (V.int (0 + ((i : Nat) : Int))), x9] ∧ AftL Ts PL lamQ H1 H') ⟨_, _, rfl, AftL.refl tb1 tl1⟩ (fun j σ H' _ h => by obtain ⟨_, _, _, h⟩ := h; exact SqL.of (h.lst tb1 tl1 hA1)) ?_ ?_
        · rintro j y σ H2 hy ⟨x7, x9, rfl, b2⟩
          obtain ⟨u, x, rfl, hx, hu⟩ := PT.at_ hy
          obtain ⟨l, h1, h2, n1, n2, n3⟩ := hu
          obtain ⟨k1, k2, k3, k4, k5⟩ := xk x (List.mem_of_getElem? hx)
          have h1 := b2.tup tb1 tl1 h1
          have h2 := b2.lst tb1 tl1 h2
          have Y2 := Y1.aftL tb1 tl1 b2
          have N2 := N1.mono fun b xs e => b2.tup tb1 tl1 e
          refine ⟨u, _, rfl, SqT.of h1, rfl, _, _, rfl, _, _, rfl, rfl, ?_⟩
          refine ⟨_, rfl, _, rfl, _, rfl, _, rfl, D2, kp2, b, l, n, kw, g, o, ps, x.1, x.2, rfl, Y2, N2, ok, kw2, kw4, b2.tb, b2.tl, k1, k2, h2, k3, k4, k5, fun H3 b3 => ⟨_, rfl, iteF ?_⟩⟩
          have b13 := b2.trans b3
          have Y3 := Y1.aftL tb1 tl1 b13
          have N3 := N1.mono fun b xs e => b13.tup tb1 tl1 e
          obtain ⟨⟨dD, eD⟩, a1, p1, g1, o1, ps1, qs1, K1⟩ := Y3
          refine ⟨_, rfl, D2, dD, _, rfl, eD, rfl, D2, kp2, a1, p1, n, kw, g1, o1, ps1, qs1, rfl, ⟨⟨dD, eD⟩, K1⟩, _, rfl, netD n, netD n, netD_dp K1.net, netD_dp N3, netD_shaped _, netD_shaped _, ?_⟩
          rw [(netD_eqv _ _).mpr rfl]
          refine ⟨_, rfl, iteF ?_⟩
          exact ⟨_, _, rfl, b13⟩
        · rintro σ H2 ⟨x7, x9, rfl, b2⟩
          have wd2 := wd_aftL wd1 tb1 tl1 b2
          have Y2 := Y1.aftL tb1 tl1 b2
          have N2 := N1.mono fun b xs e => b2.tup tb1 tl1 e
          have hA2 := b2.lst tb1 tl1 hA1
          have PT2 : PtsAt (AskR W C A) H2 us xs := PT.mono fun u x h => h.mono (fun b xs e => b2.tup tb1 tl1 e) fun b xs _ _ e => b2.lst tb1 tl1 e
          refine ⟨2, rfl, by decide, by decide, ?_⟩
          refine for_range (lo := 0) (n := (2 : Int).toNat) (fun i σ H' => ∃ (x6 x7 x8 x9 : Option V) (n : Net) (b g o : Addr) (ps : List Addr), σ = [some (.ref a), some (.ref W), some (nV kw), some (.ref D2), some (.ref b), some (.ref A), x6, x7, x8, x9] ∧ Wd H' W C ∧ Tabs Ts H' ∧ LamX.TabS H' PL lamQ ∧ DkN CDesk CKeeper H' D2 kp2 n kw ∧ n.Ok ∧ NetAt H' b n g o ps ∧ H' A = some (.lst (us.map V.ref)) ∧ PtsAt (AskR W C A) H' us xs ∧ ∀ x ∈ xs, AskOk n.many n.gates.length x) ⟨_, _, _, _, n, b, g, o, ps, rfl, wd2, b2.tb, b2.tl, Y2, ok, N2, hA2, PT2, xk⟩ ?_ ?_
          · clear wd2 Y2 N2 hA2 PT2 b2 wd1 tb1 tl1 Y1 ok N1 hA1 PT xk x6 x7 x8 x9 n b g o ps
            rintro i σ H1 hi ⟨x6, x7, x8, x9, n, b, g, o, ps, rfl, wd1, tb1, tl1, Y1, ok1, N1, hA1, PT1, xk1⟩
            have ekI := Y1.kins
            obtain ⟨dk, fk, ek⟩ := ekI
            refine ⟨_, rfl, _, rfl, _, rfl, W, C, D2, kp2, b, n, kw, g, o, ps, rfl, wd1, tb1, tl1, Y1, N1, ok1, kw2, kw4, fun H9 n9 b9 g9 o9 ps9 F9 Y9 ok9 em9 el9 N9 => ?_⟩
            have tp9 := F9.tup wd1 tb1 tl1 ek
            have PT9 : PtsAt (AskR W C A) H9 us xs := PT1.mono fun u x h => h.mono tp9 fun c ws n1 _ e => F9.lst wd1 tb1 tl1 ek e n1
            exact ⟨_, _, _, _, n9, b9, g9, o9, ps9, rfl, F9.wd, F9.tb, F9.tl, Y9, ok9, N9, F9.lst wd1 tb1 tl1 ek hA1 AW, PT9, fun x hx => by rw [em9, el9]; exact xk1 x hx⟩
          · clear wd2 Y2 N2 hA2 PT2 b2 wd1 tb1 tl1 Y1 ok N1 hA1 PT xk x6 x7 x8 x9 n b g o ps
            rintro σ H1 ⟨x6, x7, x8, x9, n, b, g, o, ps, rfl, wd1, tb1, tl1, Y1, ok1, N1, hA1, PT1, xk1⟩
            have ekI := Y1.kins
            obtain ⟨dk, fk, ek⟩ := ekI
            refine ⟨_, rfl, _, rfl, _, rfl, W, C, D2, kp2, b, n, kw, g, o, ps, rfl, wd1, tb1, tl1, Y1, N1, ok1, kw2, kw4, fun H9 n9 b9 g9 o9 ps9 F9 Y9 ok9 em9 el9 N9 => ?_⟩
            have tp9 := F9.tup wd1 tb1 tl1 ek
            have PT9 : PtsAt (AskR W C A) H9 us xs := PT1.mono fun u x h => h.mono tp9 fun c ws n1 _ e => F9.lst wd1 tb1 tl1 ek e n1
            exact ⟨_, _, _, _, n9, b9, g9, o9, ps9, rfl, F9.wd, F9.tb, F9.tl, Y9, ok9, N9, F9.lst wd1 tb1 tl1 ek hA1 AW, PT9, fun x hx => by rw [em9, el9]; exact xk1 x hx⟩
      · clear wd1 tb1 tl1 Y1 ok ok9 N1 hA1 PT xok
        rintro σ H1 ⟨x6, x7, x8, x9, n, b, g, o, ps, rfl, wd1, tb1, tl1, Y1, ok, N1, _, _, _⟩
        refine ⟨_, rfl, W, C, 4, rfl, wd1, by decide, by decide, fun e H2 e0 e1 w2 => ?_⟩
        have F2 := (FrK.refl wd1 tb1 tl1).draw w2
        refine ⟨rfl, _, rfl, ite2 (fun g5 => ?_) (fun g5 => ?_)⟩
        · refine ⟨_, rfl, W, C, rfl, F2.wd, F2.tb, F2.tl, fun H3 F23 => ⟨_, rfl, ?_⟩⟩
          have F3 := F2.trans F23
          refine iteF ?_
          have Y3 := Y1.frK F3 wd1 tb1 tl1
          have N3 := N1.mono (F3.tup wd1 tb1 tl1)
          obtain ⟨⟨dD, eD⟩, a1, p1, g1, o1, ps1, qs1, K1⟩ := Y3
          refine ⟨_, rfl, D2, dD, _, rfl, eD, rfl, D2, kp2, a1, p1, n, kw, g1, o1, ps1, qs1, rfl, ⟨⟨dD, eD⟩, K1⟩, _, rfl, netD n, netD n, netD_dp K1.net, netD_dp N3, netD_shaped _, netD_shaped _, ?_⟩
          rw [(netD_eqv _ _).mpr rfl]
          exact q H3
        · refine iteF ?_
          have Y3 := Y1.frK F2 wd1 tb1 tl1
          have N3 := N1.mono (F2.tup wd1 tb1 tl1)
          obtain ⟨⟨dD, eD⟩, a1, p1, g1, o1, ps1, qs1, K1⟩ := Y3
          refine ⟨_, rfl, D2, dD, _, rfl, eD, rfl, D2, kp2, a1, p1, n, kw, g1, o1, ps1, qs1, rfl, ⟨⟨dD, eD⟩, K1⟩, _, rfl, netD n, netD n, netD_dp K1.net, netD_dp N3, netD_shaped _, netD_shaped _, ?_⟩
          rw [(netD_eqv _ _).mpr rfl]
          exact q H2
end
end K80
set_option Elab.async false
set_option linter.all false
set_option maxRecDepth 100000
set_option maxHeartbeats 4000000
namespace K80
open PySem PySem.Spec PyProof.Rows L2 GX
open C8 (Cal pe_c pe_gc)
-- @dict CHANGES
-- @no CHANGES 0 ""
-- @no CHANGES 1 "0"
-- @no CHANGES 2 "way"
-- @no CHANGES 3 "Kind"
-- @no CHANGES 4 "leads"
-- @dict QUESTIONS
-- @no QUESTIONS 0 "gate"
-- @no QUESTIONS 1 "kind"
-- @no QUESTIONS 2 "lead"
-- @no QUESTIONS 3 "less"
-- @no QUESTIONS 4 "outs"
-- @exc NoText
-- @exc NoDepth
-- @exc TooMany
-- @exc NoMatch
-- @exc NoChange made
-- @exc NoRow made
-- @sub NoChange NoChange true
-- @sub NoRow NoRow true
-- @sub NoRow ValueError true
-- @sub NoRow NoText false
-- @sub NoRow NoDepth false
-- @sub NoRow TooMany false
-- @sub NoRow NoMatch false
-- @sub NoRow NoChange false
-- @cls Keeper k:i,held:N,kept:t[t[t[i]]]
-- @cls Desk keeper:OKeeper
-- @alt rises list par=l[i]
-- @alt cut_masks tup par=N,t[i],i vars=masks:DL,wire:i
-- @alt one_deeper tup par=t[i],t[i]
-- @alt _law_written tup par=t[i],s
/-! ### what the top has written -/
theorem all_mk {l : PySem.W.OpenLaw} {w : World} {K : PySem.W.Frag} {h : Heap} {mg : Str → Option Value} {fa : Addr} (X : K.In h) (G : h.Ns mainGlobals mg) (hfa : mg "law" = some (.ref fa)) (c : SaysK hdFn hdTs hdTf hdEx w h K) : LamX.LawAtS l w K L2.CX0 14 63 "_law_script" mg fa h := by
  obtain ⟨f0, c0, D_wires_of, ef0, hc0⟩ := c.fn_ X G 0 (x := "wires_of") (st := s_wires_of)
  obtain ⟨f1, c1, D_fits, ef1, hc1⟩ := c.fn_ X G 1 (x := "fits") (st := s_fits)
  obtain ⟨f2, c2, D_has_part, ef2, hc2⟩ := c.fn_ X G 2 (x := "has_part") (st := s_has_part)
  obtain ⟨f3, c3, D_is_whole, ef3, hc3⟩ := c.fn_ X G 3 (x := "is_whole") (st := s_is_whole)
  obtain ⟨f4, c4, D_is_below, ef4, hc4⟩ := c.fn_ X G 4 (x := "is_below") (st := s_is_below)
  obtain ⟨f5, c5, D_is_many, ef5, hc5⟩ := c.fn_ X G 5 (x := "is_many") (st := s_is_many)
  obtain ⟨f6, c6, D_is_gate, ef6, hc6⟩ := c.fn_ X G 6 (x := "is_gate") (st := s_is_gate)
  obtain ⟨f7, c7, D_are_gates, ef7, hc7⟩ := c.fn_ X G 7 (x := "are_gates") (st := s_are_gates)
  obtain ⟨f8, c8, D_are_outs, ef8, hc8⟩ := c.fn_ X G 8 (x := "are_outs") (st := s_are_outs)
  obtain ⟨f9, c9, D_is_net, ef9, hc9⟩ := c.fn_ X G 9 (x := "is_net") (st := s_is_net)
  obtain ⟨f10, c10, D_wires_in, ef10, hc10⟩ := c.fn_ X G 10 (x := "wires_in") (st := s_wires_in)
  obtain ⟨f11, c11, D_has_gate, ef11, hc11⟩ := c.fn_ X G 11 (x := "has_gate") (st := s_has_gate)
  obtain ⟨f12, c12, D_gate_worth, ef12, hc12⟩ := c.fn_ X G 12 (x := "gate_worth") (st := s_gate_worth)
  obtain ⟨f13, c13, D_worths, ef13, hc13⟩ := c.fn_ X G 13 (x := "worths") (st := s_worths)
  obtain ⟨f14, c14, D_outs_at, ef14, hc14⟩ := c.fn_ X G 14 (x := "outs_at") (st := s_outs_at)
  obtain ⟨f15, c15, D_places, ef15, hc15⟩ := c.fn_ X G 15 (x := "places") (st := s_places)
  obtain ⟨f16, c16, D_is_step, ef16, hc16⟩ := c.fn_ X G 16 (x := "is_step") (st := s_is_step)
  obtain ⟨f17, c17, D_reached, ef17, hc17⟩ := c.fn_ X G 17 (x := "reached") (st := s_reached)
  obtain ⟨f18, c18, D_tells, ef18, hc18⟩ := c.fn_ X G 18 (x := "tells") (st := s_tells)
  obtain ⟨f19, c19, D_rises, ef19, hc19⟩ := c.fn_ X G 19 (x := "rises") (st := s_rises)
  obtain ⟨f20, c20, D_is_rising, ef20, hc20⟩ := c.fn_ X G 20 (x := "is_rising") (st := s_is_rising)
  obtain ⟨f21, c21, D_is_cut, ef21, hc21⟩ := c.fn_ X G 21 (x := "is_cut") (st := s_is_cut)
  obtain ⟨f22, c22, D_gate_masks, ef22, hc22⟩ := c.fn_ X G 22 (x := "gate_masks") (st := s_gate_masks)
  obtain ⟨f23, c23, D_cut_masks, ef23, hc23⟩ := c.fn_ X G 23 (x := "cut_masks") (st := s_cut_masks)
  obtain ⟨f24, c24, D_told_cuts, ef24, hc24⟩ := c.fn_ X G 24 (x := "told_cuts") (st := s_told_cuts)
  obtain ⟨f25, c25, D_all_cuts, ef25, hc25⟩ := c.fn_ X G 25 (x := "all_cuts") (st := s_all_cuts)
  obtain ⟨f26, c26, D_way_past, ef26, hc26⟩ := c.fn_ X G 26 (x := "way_past") (st := s_way_past)
  obtain ⟨f27, c27, D_inside, ef27, hc27⟩ := c.fn_ X G 27 (x := "inside") (st := s_inside)
  obtain ⟨f28, c28, D_worth_by, ef28, hc28⟩ := c.fn_ X G 28 (x := "worth_by") (st := s_worth_by)
  obtain ⟨f29, c29, D_content, ef29, hc29⟩ := c.fn_ X G 29 (x := "content") (st := s_content)
  obtain ⟨f30, c30, D_one_deeper, ef30, hc30⟩ := c.fn_ X G 30 (x := "one_deeper") (st := s_one_deeper)
  obtain ⟨f31, c31, D_depths_by, ef31, hc31⟩ := c.fn_ X G 31 (x := "depths_by") (st := s_depths_by)
  obtain ⟨f32, c32, D_depths, ef32, hc32⟩ := c.fn_ X G 32 (x := "depths") (st := s_depths)
  obtain ⟨f33, c33, D_with_deepest, ef33, hc33⟩ := c.fn_ X G 33 (x := "with_deepest") (st := s_with_deepest)
  obtain ⟨f34, c34, D_cut_choices, ef34, hc34⟩ := c.fn_ X G 34 (x := "cut_choices") (st := s_cut_choices)
  obtain ⟨f35, c35, D_first_needs, ef35, hc35⟩ := c.fn_ X G 35 (x := "first_needs") (st := s_first_needs)
  obtain ⟨f36, c36, D_next_gate, ef36, hc36⟩ := c.fn_ X G 36 (x := "next_gate") (st := s_next_gate)
  obtain ⟨f37, c37, D_fitting_cuts, ef37, hc37⟩ := c.fn_ X G 37 (x := "fitting_cuts") (st := s_fitting_cuts)
  obtain ⟨f38, c38, D_needs_with, ef38, hc38⟩ := c.fn_ X G 38 (x := "needs_with") (st := s_needs_with)
  obtain ⟨f39, c39, D_fewest_tables, ef39, hc39⟩ := c.fn_ X G 39 (x := "fewest_tables") (st := s_fewest_tables)
  obtain ⟨f40, c40, D_count_paper, ef40, hc40⟩ := c.fn_ X G 40 (x := "count_paper") (st := s_count_paper)
  obtain ⟨f41, c41, D_fewest, ef41, hc41⟩ := c.fn_ X G 41 (x := "fewest") (st := s_fewest)
  obtain ⟨f42, c42, D_with_gate, ef42, hc42⟩ := c.fn_ X G 42 (x := "with_gate") (st := s_with_gate)
  obtain ⟨f43, c43, D_kind_changed, ef43, hc43⟩ := c.fn_ X G 43 (x := "kind_changed") (st := s_kind_changed)
  obtain ⟨f44, c44, D_lead_changed, ef44, hc44⟩ := c.fn_ X G 44 (x := "lead_changed") (st := s_lead_changed)
  obtain ⟨f45, c45, D_gate_added, ef45, hc45⟩ := c.fn_ X G 45 (x := "gate_added") (st := s_gate_added)
  obtain ⟨f46, c46, D_gate_taken, ef46, hc46⟩ := c.fn_ X G 46 (x := "gate_taken") (st := s_gate_taken)
  obtain ⟨f47, c47, D_outs_changed, ef47, hc47⟩ := c.fn_ X G 47 (x := "outs_changed") (st := s_outs_changed)
  obtain ⟨f48, c48, D_has_word, ef48, hc48⟩ := c.fn_ X G 48 (x := "has_word") (st := s_has_word)
  obtain ⟨f49, c49, D_changed, ef49, hc49⟩ := c.fn_ X G 49 (x := "changed") (st := s_changed)
  obtain ⟨f50, c50, D_leaned, ef50, hc50⟩ := c.fn_ X G 50 (x := "leaned") (st := s_leaned)
  obtain ⟨f51, c51, D_chosen, ef51, hc51⟩ := c.fn_ X G 51 (x := "chosen") (st := s_chosen)
  obtain ⟨f52, c52, D_all_choices, ef52, hc52⟩ := c.fn_ X G 52 (x := "all_choices") (st := s_all_choices)
  obtain ⟨f53, c53, D_plain_by, ef53, hc53⟩ := c.fn_ X G 53 (x := "plain_by") (st := s_plain_by)
  obtain ⟨f54, c54, D_other_gates, ef54, hc54⟩ := c.fn_ X G 54 (x := "other_gates") (st := s_other_gates)
  obtain ⟨CKeeper, eCKeeper⟩ : ∃ C, C = He.ga K "Keeper" := ⟨_, rfl⟩
  have cl_Keeper : Cls K CKeeper := by rw [eCKeeper]; exact He.cls_ok (c.b 0)
  have cm_Keeper : mg "Keeper" = some (.ref CKeeper) := by rw [eCKeeper]; exact He.glo_ok X G (c.b 1)
  have u1Keeper : PySem.W.makesIn K CKeeper = true := by rw [eCKeeper]; exact (He.mkr_ok (c.b 2)).1
  have u2Keeper : PySem.W.keepIn K (.ref CKeeper) = true := by rw [eCKeeper]; exact He.keep_ok (c.b 3)
  have vKeeper_k : PySem.W.findIn K (.ref CKeeper) "k" = some none := by rw [eCKeeper]; exact He.noat_ok (c.b 4)
  have vKeeper_held : PySem.W.findIn K (.ref CKeeper) "held" = some none := by rw [eCKeeper]; exact He.noat_ok (c.b 5)
  have vKeeper_kept : PySem.W.findIn K (.ref CKeeper) "kept" = some none := by rw [eCKeeper]; exact He.noat_ok (c.b 6)
  obtain ⟨f55, c55, D_Keeper___init__⟩ := c.met_ 55 (C := "Keeper") (m := "__init__") (q := "Keeper.__init__") (st := s_Keeper___init__) (by rw [← eCKeeper]; exact cl_Keeper)
  rw [← eCKeeper] at D_Keeper___init__
  obtain ⟨f56, c56, D_Keeper_net⟩ := c.met_ 56 (C := "Keeper") (m := "net") (q := "Keeper.net") (st := s_Keeper_net) (by rw [← eCKeeper]; exact cl_Keeper)
  rw [← eCKeeper] at D_Keeper_net
  obtain ⟨f57, c57, D_Keeper_cuts⟩ := c.met_ 57 (C := "Keeper") (m := "cuts") (q := "Keeper.cuts") (st := s_Keeper_cuts) (by rw [← eCKeeper]; exact cl_Keeper)
  rw [← eCKeeper] at D_Keeper_cuts
  obtain ⟨f58, c58, D_Keeper_depths⟩ := c.met_ 58 (C := "Keeper") (m := "depths") (q := "Keeper.depths") (st := s_Keeper_depths) (by rw [← eCKeeper]; exact cl_Keeper)
  rw [← eCKeeper] at D_Keeper_depths
  obtain ⟨f59, c59, D_Keeper_cover⟩ := c.met_ 59 (C := "Keeper") (m := "cover") (q := "Keeper.cover") (st := s_Keeper_cover) (by rw [← eCKeeper]; exact cl_Keeper)
  rw [← eCKeeper] at D_Keeper_cover
  obtain ⟨f60, c60, D_Keeper_do⟩ := c.met_ 60 (C := "Keeper") (m := "do") (q := "Keeper.do") (st := s_Keeper_do) (by rw [← eCKeeper]; exact cl_Keeper)
  rw [← eCKeeper] at D_Keeper_do
  obtain ⟨f61, c61, D_show_net, ef61, hc61⟩ := c.fn_ X G 61 (x := "show_net") (st := s_show_net)
  obtain ⟨f62, c62, D_number_in, ef62, hc62⟩ := c.fn_ X G 62 (x := "number_in") (st := s_number_in)
  obtain ⟨f63, c63, D_numbers_in, ef63, hc63⟩ := c.fn_ X G 63 (x := "numbers_in") (st := s_numbers_in)
  obtain ⟨f64, c64, D_in_figures, ef64, hc64⟩ := c.fn_ X G 64 (x := "in_figures") (st := s_in_figures)
  obtain ⟨f65, c65, D_cut_text, ef65, hc65⟩ := c.fn_ X G 65 (x := "cut_text") (st := s_cut_text)
  obtain ⟨f66, c66, D_wires_written, ef66, hc66⟩ := c.fn_ X G 66 (x := "wires_written") (st := s_wires_written)
  obtain ⟨f67, c67, D_number_alone, ef67, hc67⟩ := c.fn_ X G 67 (x := "number_alone") (st := s_number_alone)
  obtain ⟨f68, c68, D_show_answer, ef68, hc68⟩ := c.fn_ X G 68 (x := "show_answer") (st := s_show_answer)
  obtain ⟨f69, c69, D_cuts_answer, ef69, hc69⟩ := c.fn_ X G 69 (x := "cuts_answer") (st := s_cuts_answer)
  obtain ⟨f70, c70, D_depth_answer, ef70, hc70⟩ := c.fn_ X G 70 (x := "depth_answer") (st := s_depth_answer)
  obtain ⟨f71, c71, D_cover_answer, ef71, hc71⟩ := c.fn_ X G 71 (x := "cover_answer") (st := s_cover_answer)
  obtain ⟨f72, c72, D_fewest_answer, ef72, hc72⟩ := c.fn_ X G 72 (x := "fewest_answer") (st := s_fewest_answer)
  obtain ⟨f73, c73, D_content_answer, ef73, hc73⟩ := c.fn_ X G 73 (x := "content_answer") (st := s_content_answer)
  obtain ⟨f74, c74, D_row_answer, ef74, hc74⟩ := c.fn_ X G 74 (x := "row_answer") (st := s_row_answer)
  obtain ⟨f75, c75, D_way_answer, ef75, hc75⟩ := c.fn_ X G 75 (x := "way_answer") (st := s_way_answer)
  obtain ⟨f76, c76, D_change_written, ef76, hc76⟩ := c.fn_ X G 76 (x := "change_written") (st := s_change_written)
  obtain ⟨f77, c77, D_change_answer, ef77, hc77⟩ := c.fn_ X G 77 (x := "change_answer") (st := s_change_answer)
  obtain ⟨CDesk, eCDesk⟩ : ∃ C, C = He.ga K "Desk" := ⟨_, rfl⟩
  have cl_Desk : Cls K CDesk := by rw [eCDesk]; exact He.cls_ok (c.b 7)
  have cm_Desk : mg "Desk" = some (.ref CDesk) := by rw [eCDesk]; exact He.glo_ok X G (c.b 8)
  have u1Desk : PySem.W.makesIn K CDesk = true := by rw [eCDesk]; exact (He.mkr_ok (c.b 9)).1
  have u2Desk : PySem.W.keepIn K (.ref CDesk) = true := by rw [eCDesk]; exact He.keep_ok (c.b 10)
  have vDesk_keeper : PySem.W.findIn K (.ref CDesk) "keeper" = some none := by rw [eCDesk]; exact He.noat_ok (c.b 11)
  obtain ⟨f78, c78, D_Desk___init__⟩ := c.met_ 78 (C := "Desk") (m := "__init__") (q := "Desk.__init__") (st := s_Desk___init__) (by rw [← eCDesk]; exact cl_Desk)
  rw [← eCDesk] at D_Desk___init__
  obtain ⟨f79, c79, D_Desk_say⟩ := c.met_ 79 (C := "Desk") (m := "say") (q := "Desk.say") (st := s_Desk_say) (by rw [← eCDesk]; exact cl_Desk)
  rw [← eCDesk] at D_Desk_say
  obtain ⟨f80, c80, D_Desk_net⟩ := c.met_ 80 (C := "Desk") (m := "net") (q := "Desk.net") (st := s_Desk_net) (by rw [← eCDesk]; exact cl_Desk)
  rw [← eCDesk] at D_Desk_net
  obtain ⟨f81, c81, D__law_deck, ef81, hc81⟩ := c.fn_ X G 81 (x := "_law_deck") (st := s__law_deck)
  obtain ⟨f82, c82, D__law_mixed, ef82, hc82⟩ := c.fn_ X G 82 (x := "_law_mixed") (st := s__law_mixed)
  obtain ⟨f83, c83, D__law_draw, ef83, hc83⟩ := c.fn_ X G 83 (x := "_law_draw") (st := s__law_draw)
  obtain ⟨f84, c84, D__law_heard, ef84, hc84⟩ := c.fn_ X G 84 (x := "_law_heard") (st := s__law_heard)
  obtain ⟨f85, c85, D__law_put_in, ef85, hc85⟩ := c.fn_ X G 85 (x := "_law_put_in") (st := s__law_put_in)
  obtain ⟨f86, c86, D__law_change, ef86, hc86⟩ := c.fn_ X G 86 (x := "_law_change") (st := s__law_change)
  obtain ⟨f87, c87, D__law_grown, ef87, hc87⟩ := c.fn_ X G 87 (x := "_law_grown") (st := s__law_grown)
  obtain ⟨f88, c88, D__law_written, ef88, hc88⟩ := c.fn_ X G 88 (x := "_law_written") (st := s__law_written)
  obtain ⟨f89, c89, D__law_told, ef89, hc89⟩ := c.fn_ X G 89 (x := "_law_told") (st := s__law_told)
  obtain ⟨f90, c90, D__law_wires, ef90, hc90⟩ := c.fn_ X G 90 (x := "_law_wires") (st := s__law_wires)
  obtain ⟨f91, c91, D__law_way_right, ef91, hc91⟩ := c.fn_ X G 91 (x := "_law_way_right") (st := s__law_way_right)
  obtain ⟨f92, c92, D__law_led, ef92, hc92⟩ := c.fn_ X G 92 (x := "_law_led") (st := s__law_led)
  obtain ⟨f93, c93, D__law_turned_over, ef93, hc93⟩ := c.fn_ X G 93 (x := "_law_turned_over") (st := s__law_turned_over)
  obtain ⟨f94, c94, D__law_right, ef94, hc94⟩ := c.fn_ X G 94 (x := "_law_right") (st := s__law_right)
  obtain ⟨f95, c95, D__law_filled, ef95, hc95⟩ := c.fn_ X G 95 (x := "_law_filled") (st := s__law_filled)
  obtain ⟨f96, c96, D__law_many_right, ef96, hc96⟩ := c.fn_ X G 96 (x := "_law_many_right") (st := s__law_many_right)
  obtain ⟨c97, oc97, od97, kV97, dc97, pm97, an97, ct97, sl97, l97, e97⟩ := c.law_ X G 97 (st := s_law) hfa
  obtain ⟨CNoText, eCNoText⟩ : ∃ C, C = He.ga K "NoText" := ⟨_, rfl⟩
  have x_NoText : ExcT K mg "NoText" CNoText := by rw [eCNoText]; exact excT_of X G (c.b 12)
  obtain ⟨CNoDepth, eCNoDepth⟩ : ∃ C, C = He.ga K "NoDepth" := ⟨_, rfl⟩
  have x_NoDepth : ExcT K mg "NoDepth" CNoDepth := by rw [eCNoDepth]; exact excT_of X G (c.b 13)
  obtain ⟨CTooMany, eCTooMany⟩ : ∃ C, C = He.ga K "TooMany" := ⟨_, rfl⟩
  have x_TooMany : ExcT K mg "TooMany" CTooMany := by rw [eCTooMany]; exact excT_of X G (c.b 14)
  obtain ⟨CNoMatch, eCNoMatch⟩ : ∃ C, C = He.ga K "NoMatch" := ⟨_, rfl⟩
  have x_NoMatch : ExcT K mg "NoMatch" CNoMatch := by rw [eCNoMatch]; exact excT_of X G (c.b 15)
  obtain ⟨CNoChange, eCNoChange⟩ : ∃ C, C = He.ga K "NoChange" := ⟨_, rfl⟩
  have x_NoChange : ExcM K mg "NoChange" CNoChange := by rw [eCNoChange]; exact excM_of X G (c.b 16)
  obtain ⟨CNoRow, eCNoRow⟩ : ∃ C, C = He.ga K "NoRow" := ⟨_, rfl⟩
  have x_NoRow : ExcM K mg "NoRow" CNoRow := by rw [eCNoRow]; exact excM_of X G (c.b 17)
  have su_NoChange_NoChange : PySem.W.subIn K (.ref CNoChange) (.ref CNoChange) = some true := by rw [eCNoChange]; exact sub_of (c.b 18)
  have su_NoRow_NoRow : PySem.W.subIn K (.ref CNoRow) (.ref CNoRow) = some true := by rw [eCNoRow]; exact sub_of (c.b 19)
  have su_NoRow_ValueError : PySem.W.subIn K (.ref CNoRow) (.type "ValueError") = some true := by rw [eCNoRow]; exact subT_of (c.b 20)
  have su_NoRow_NoText : PySem.W.subIn K (.ref CNoRow) (.ref CNoText) = some false := by rw [eCNoRow, eCNoText]; exact sub_of (c.b 21)
  have su_NoRow_NoDepth : PySem.W.subIn K (.ref CNoRow) (.ref CNoDepth) = some false := by rw [eCNoRow, eCNoDepth]; exact sub_of (c.b 22)
  have su_NoRow_TooMany : PySem.W.subIn K (.ref CNoRow) (.ref CTooMany) = some false := by rw [eCNoRow, eCTooMany]; exact sub_of (c.b 23)
  have su_NoRow_NoMatch : PySem.W.subIn K (.ref CNoRow) (.ref CNoMatch) = some false := by rw [eCNoRow, eCNoMatch]; exact sub_of (c.b 24)
  have su_NoRow_NoChange : PySem.W.subIn K (.ref CNoRow) (.ref CNoChange) = some false := by rw [eCNoRow, eCNoChange]; exact sub_of (c.b 25)
  obtain ⟨dCHANGES, edCHANGES⟩ : ∃ C, C = He.ga K "CHANGES" := ⟨_, rfl⟩
  obtain ⟨esCHANGES, nnCHANGES, kD_CHANGES⟩ := c.t 0 (t := ("CHANGES", ["kind", "lead", "more", "less", "outs"]))
  rw [show He.ga K ((("CHANGES", ["kind", "lead", "more", "less", "outs"]) : Tb3).1) = dCHANGES from edCHANGES.symm] at kD_CHANGES
  have gD_CHANGES : ∃ u, mg "CHANGES" = some u ∧ RelV (.ref dCHANGES) u := by rw [edCHANGES]; exact ⟨_, He.glo_ok X G (c.b 26), rfl⟩
  have uWCHANGES_kind : PySem.W.nsIn K dCHANGES "kind" = some (some (.ref f43)) := by rw [edCHANGES, ef43]; exact dic_of (c.b 27)
  have uWCHANGES_lead : PySem.W.nsIn K dCHANGES "lead" = some (some (.ref f44)) := by rw [edCHANGES, ef44]; exact dic_of (c.b 28)
  have uWCHANGES_more : PySem.W.nsIn K dCHANGES "more" = some (some (.ref f45)) := by rw [edCHANGES, ef45]; exact dic_of (c.b 29)
  have uWCHANGES_less : PySem.W.nsIn K dCHANGES "less" = some (some (.ref f46)) := by rw [edCHANGES, ef46]; exact dic_of (c.b 30)
  have uWCHANGES_outs : PySem.W.nsIn K dCHANGES "outs" = some (some (.ref f47)) := by rw [edCHANGES, ef47]; exact dic_of (c.b 31)
  have uN43_44 : f43 ≠ f44 := by rw [ef43, ef44]; exact ne_of (c.b 32)
  have uN43_45 : f43 ≠ f45 := by rw [ef43, ef45]; exact ne_of (c.b 33)
  have uN43_46 : f43 ≠ f46 := by rw [ef43, ef46]; exact ne_of (c.b 34)
  have uN43_47 : f43 ≠ f47 := by rw [ef43, ef47]; exact ne_of (c.b 35)
  have uN44_45 : f44 ≠ f45 := by rw [ef44, ef45]; exact ne_of (c.b 36)
  have uN44_46 : f44 ≠ f46 := by rw [ef44, ef46]; exact ne_of (c.b 37)
  have uN44_47 : f44 ≠ f47 := by rw [ef44, ef47]; exact ne_of (c.b 38)
  have uN45_46 : f45 ≠ f46 := by rw [ef45, ef46]; exact ne_of (c.b 39)
  have uN45_47 : f45 ≠ f47 := by rw [ef45, ef47]; exact ne_of (c.b 40)
  have uN46_47 : f46 ≠ f47 := by rw [ef46, ef47]; exact ne_of (c.b 41)
  have uZCHANGES_0 : PySem.W.nsIn K dCHANGES "" = some none := by rw [edCHANGES]; exact dicN_of (c.b 42)
  have uZCHANGES_1 : PySem.W.nsIn K dCHANGES "0" = some none := by rw [edCHANGES]; exact dicN_of (c.b 43)
  have uZCHANGES_2 : PySem.W.nsIn K dCHANGES "way" = some none := by rw [edCHANGES]; exact dicN_of (c.b 44)
  have uZCHANGES_3 : PySem.W.nsIn K dCHANGES "Kind" = some none := by rw [edCHANGES]; exact dicN_of (c.b 45)
  have uZCHANGES_4 : PySem.W.nsIn K dCHANGES "leads" = some none := by rw [edCHANGES]; exact dicN_of (c.b 46)
  obtain ⟨dQUESTIONS, edQUESTIONS⟩ : ∃ C, C = He.ga K "QUESTIONS" := ⟨_, rfl⟩
  obtain ⟨esQUESTIONS, nnQUESTIONS, kD_QUESTIONS⟩ := c.t 1 (t := ("QUESTIONS", ["show", "cuts", "depth", "cover", "fewest", "content", "row", "way"]))
  rw [show He.ga K ((("QUESTIONS", ["show", "cuts", "depth", "cover", "fewest", "content", "row", "way"]) : Tb3).1) = dQUESTIONS from edQUESTIONS.symm] at kD_QUESTIONS
  have gD_QUESTIONS : ∃ u, mg "QUESTIONS" = some u ∧ RelV (.ref dQUESTIONS) u := by rw [edQUESTIONS]; exact ⟨_, He.glo_ok X G (c.b 47), rfl⟩
  have uWQUESTIONS_show : PySem.W.nsIn K dQUESTIONS "show" = some (some (.ref f68)) := by rw [edQUESTIONS, ef68]; exact dic_of (c.b 48)
  have uWQUESTIONS_cuts : PySem.W.nsIn K dQUESTIONS "cuts" = some (some (.ref f69)) := by rw [edQUESTIONS, ef69]; exact dic_of (c.b 49)
  have uWQUESTIONS_depth : PySem.W.nsIn K dQUESTIONS "depth" = some (some (.ref f70)) := by rw [edQUESTIONS, ef70]; exact dic_of (c.b 50)
  have uWQUESTIONS_cover : PySem.W.nsIn K dQUESTIONS "cover" = some (some (.ref f71)) := by rw [edQUESTIONS, ef71]; exact dic_of (c.b 51)
  have uWQUESTIONS_fewest : PySem.W.nsIn K dQUESTIONS "fewest" = some (some (.ref f72)) := by rw [edQUESTIONS, ef72]; exact dic_of (c.b 52)
  have uWQUESTIONS_content : PySem.W.nsIn K dQUESTIONS "content" = some (some (.ref f73)) := by rw [edQUESTIONS, ef73]; exact dic_of (c.b 53)
  have uWQUESTIONS_row : PySem.W.nsIn K dQUESTIONS "row" = some (some (.ref f74)) := by rw [edQUESTIONS, ef74]; exact dic_of (c.b 54)
  have uWQUESTIONS_way : PySem.W.nsIn K dQUESTIONS "way" = some (some (.ref f75)) := by rw [edQUESTIONS, ef75]; exact dic_of (c.b 55)
  have uN68_69 : f68 ≠ f69 := by rw [ef68, ef69]; exact ne_of (c.b 56)
  have uN68_70 : f68 ≠ f70 := by rw [ef68, ef70]; exact ne_of (c.b 57)
  have uN68_71 : f68 ≠ f71 := by rw [ef68, ef71]; exact ne_of (c.b 58)
  have uN68_72 : f68 ≠ f72 := by rw [ef68, ef72]; exact ne_of (c.b 59)
  have uN68_73 : f68 ≠ f73 := by rw [ef68, ef73]; exact ne_of (c.b 60)
  have uN68_74 : f68 ≠ f74 := by rw [ef68, ef74]; exact ne_of (c.b 61)
  have uN68_75 : f68 ≠ f75 := by rw [ef68, ef75]; exact ne_of (c.b 62)
  have uN69_70 : f69 ≠ f70 := by rw [ef69, ef70]; exact ne_of (c.b 63)
  have uN69_71 : f69 ≠ f71 := by rw [ef69, ef71]; exact ne_of (c.b 64)
  have uN69_72 : f69 ≠ f72 := by rw [ef69, ef72]; exact ne_of (c.b 65)
  have uN69_73 : f69 ≠ f73 := by rw [ef69, ef73]; exact ne_of (c.b 66)
  have uN69_74 : f69 ≠ f74 := by rw [ef69, ef74]; exact ne_of (c.b 67)
  have uN69_75 : f69 ≠ f75 := by rw [ef69, ef75]; exact ne_of (c.b 68)
  have uN70_71 : f70 ≠ f71 := by rw [ef70, ef71]; exact ne_of (c.b 69)
  have uN70_72 : f70 ≠ f72 := by rw [ef70, ef72]; exact ne_of (c.b 70)
  have uN70_73 : f70 ≠ f73 := by rw [ef70, ef73]; exact ne_of (c.b 71)
  have uN70_74 : f70 ≠ f74 := by rw [ef70, ef74]; exact ne_of (c.b 72)
  have uN70_75 : f70 ≠ f75 := by rw [ef70, ef75]; exact ne_of (c.b 73)
  have uN71_72 : f71 ≠ f72 := by rw [ef71, ef72]; exact ne_of (c.b 74)
  have uN71_73 : f71 ≠ f73 := by rw [ef71, ef73]; exact ne_of (c.b 75)
  have uN71_74 : f71 ≠ f74 := by rw [ef71, ef74]; exact ne_of (c.b 76)
  have uN71_75 : f71 ≠ f75 := by rw [ef71, ef75]; exact ne_of (c.b 77)
  have uN72_73 : f72 ≠ f73 := by rw [ef72, ef73]; exact ne_of (c.b 78)
  have uN72_74 : f72 ≠ f74 := by rw [ef72, ef74]; exact ne_of (c.b 79)
  have uN72_75 : f72 ≠ f75 := by rw [ef72, ef75]; exact ne_of (c.b 80)
  have uN73_74 : f73 ≠ f74 := by rw [ef73, ef74]; exact ne_of (c.b 81)
  have uN73_75 : f73 ≠ f75 := by rw [ef73, ef75]; exact ne_of (c.b 82)
  have uN74_75 : f74 ≠ f75 := by rw [ef74, ef75]; exact ne_of (c.b 83)
  have uZQUESTIONS_0 : PySem.W.nsIn K dQUESTIONS "gate" = some none := by rw [edQUESTIONS]; exact dicN_of (c.b 84)
  have uZQUESTIONS_1 : PySem.W.nsIn K dQUESTIONS "kind" = some none := by rw [edQUESTIONS]; exact dicN_of (c.b 85)
  have uZQUESTIONS_2 : PySem.W.nsIn K dQUESTIONS "lead" = some none := by rw [edQUESTIONS]; exact dicN_of (c.b 86)
  have uZQUESTIONS_3 : PySem.W.nsIn K dQUESTIONS "less" = some none := by rw [edQUESTIONS]; exact dicN_of (c.b 87)
  have uZQUESTIONS_4 : PySem.W.nsIn K dQUESTIONS "outs" = some none := by rw [edQUESTIONS]; exact dicN_of (c.b 88)
  have T : Txt mg := ⟨He.free_ok X G (c.b 89), He.free_ok X G (c.b 90), He.free_ok X G (c.b 91), He.free_ok X G (c.b 92), He.free_ok X G (c.b 93), He.free_ok X G (c.b 94), He.free_ok X G (c.b 95), He.free_ok X G (c.b 96), He.free_ok X G (c.b 97), He.free_ok X G (c.b 98), He.free_ok X G (c.b 99), He.free_ok X G (c.b 100), He.free_ok X G (c.b 101), He.free_ok X G (c.b 102), He.free_ok X G (c.b 103), He.free_ok X G (c.b 104), He.free_ok X G (c.b 105), He.free_ok X G (c.b 106), He.free_ok X G (c.b 107), SaysK.str X G (c.b 108), SaysK.int X G (c.b 109), SaysK.int X G (c.b 110), SaysK.int X G (c.b 111), SaysK.int X G (c.b 112), SaysK.int X G (c.b 113), SaysK.int X G (c.b 114), SaysK.str X G (c.b 115)⟩
  obtain ⟨P0, eP0⟩ : ∃ P, P = (He.cT K ("wires_of", none)).2 := ⟨_, rfl⟩
  obtain ⟨P7, eP7⟩ : ∃ P, P = (He.cT K ("are_gates", none)).2 := ⟨_, rfl⟩
  obtain ⟨P8, eP8⟩ : ∃ P, P = (He.cT K ("are_outs", none)).2 := ⟨_, rfl⟩
  obtain ⟨P14, eP14⟩ : ∃ P, P = (He.cT K ("outs_at", none)).2 := ⟨_, rfl⟩
  obtain ⟨P17, eP17⟩ : ∃ P, P = (He.cT K ("reached", none)).2 := ⟨_, rfl⟩
  obtain ⟨P18, eP18⟩ : ∃ P, P = (He.cT K ("tells", none)).2 := ⟨_, rfl⟩
  obtain ⟨P19, eP19⟩ : ∃ P, P = (He.cT K ("rises", none)).2 := ⟨_, rfl⟩
  obtain ⟨P20, eP20⟩ : ∃ P, P = (He.cT K ("is_rising", none)).2 := ⟨_, rfl⟩
  obtain ⟨P25, eP25⟩ : ∃ P, P = (He.cT K ("all_cuts", none)).2 := ⟨_, rfl⟩
  obtain ⟨P27, eP27⟩ : ∃ P, P = (He.cT K ("inside", none)).2 := ⟨_, rfl⟩
  obtain ⟨P29, eP29⟩ : ∃ P, P = (He.cT K ("content", none)).2 := ⟨_, rfl⟩
  obtain ⟨P33, eP33⟩ : ∃ P, P = (He.cT K ("with_deepest", none)).2 := ⟨_, rfl⟩
  obtain ⟨P34, eP34⟩ : ∃ P, P = (He.cT K ("cut_choices", none)).2 := ⟨_, rfl⟩
  obtain ⟨P51, eP51⟩ : ∃ P, P = (He.cT K ("chosen", none)).2 := ⟨_, rfl⟩
  obtain ⟨P52, eP52⟩ : ∃ P, P = (He.cT K ("all_choices", none)).2 := ⟨_, rfl⟩
  obtain ⟨P54, eP54⟩ : ∃ P, P = (He.cT K ("other_gates", none)).2 := ⟨_, rfl⟩
  obtain ⟨P62, eP62⟩ : ∃ P, P = (He.cT K ("number_in", none)).2 := ⟨_, rfl⟩
  obtain ⟨P74, eP74⟩ : ∃ P, P = (He.cT K ("row_answer", none)).2 := ⟨_, rfl⟩
  have x51 : P51 ∉ [P0, P7, P8, P14, P17, P18, P19, P20, P25, P27, P29, P33, P34, P52, P54, P62, P74] := by rw [eP51, eP0, eP7, eP8, eP14, eP17, eP18, eP19, eP20, eP25, eP27, eP29, eP33, eP34, eP52, eP54, eP62, eP74]; exact lam_of (p := ("chosen", none)) (ps := [("wires_of", none), ("are_gates", none), ("are_outs", none), ("outs_at", none), ("reached", none), ("tells", none), ("rises", none), ("is_rising", none), ("all_cuts", none), ("inside", none), ("content", none), ("with_deepest", none), ("cut_choices", none), ("all_choices", none), ("other_gates", none), ("number_in", none), ("row_answer", none)]) (c.b 116)
  refine ⟨(PySem.W.fnOf "law" "law" (defArgs s_law) (defBody s_law) (defScope s_law) .none kV97 dc97 pm97 an97 (.ref c97) ct97), [(c0, P0), (c7, P7), (c8, P8), (c14, P14), (c17, P17), (c18, P18), (c19, P19), (c20, P20), (c25, P25), (c27, P27), (c29, P29), (c33, P33), (c34, P34), (c51, P51), (c52, P52), (c54, P54), (c62, P62), (c74, P74)], spLaw K [P0, P7, P8, P14, P17, P18, P19, P20, P25, P27, P29, P33, P34, P52, P54, P62, P74] P51, ?t0, ?t1, ?t2, fun s v => .of_eq rfl, fun H a ns hl _ hH hS => ⟨a, ns, rfl, hS, hl, fun p hp => ?t3, LamX.TabS.nil (hH (c51, P51) (by simp)), fun _ => rfl⟩, fun base _ _ TB => ?t4⟩
  case t0 => 
    intro p hp
    simp only [List.mem_cons, List.not_mem_nil, or_false] at hp
    rcases hp with rfl | rfl | rfl | rfl | rfl | rfl | rfl | rfl | rfl | rfl | rfl | rfl | rfl | rfl | rfl | rfl | rfl | rfl
    · show _ = _
      exact (by rw [eP0]; exact c.empty _ (List.mem_of_getElem? (i := 0) rfl))
    · show _ = _
      exact (by rw [eP7]; exact c.empty _ (List.mem_of_getElem? (i := 1) rfl))
    · show _ = _
      exact (by rw [eP8]; exact c.empty _ (List.mem_of_getElem? (i := 2) rfl))
    · show _ = _
      exact (by rw [eP14]; exact c.empty _ (List.mem_of_getElem? (i := 3) rfl))
    · show _ = _
      exact (by rw [eP17]; exact c.empty _ (List.mem_of_getElem? (i := 4) rfl))
    · show _ = _
      exact (by rw [eP18]; exact c.empty _ (List.mem_of_getElem? (i := 5) rfl))
    · show _ = _
      exact (by rw [eP19]; exact c.empty _ (List.mem_of_getElem? (i := 6) rfl))
    · show _ = _
      exact (by rw [eP20]; exact c.empty _ (List.mem_of_getElem? (i := 7) rfl))
    · show _ = _
      exact (by rw [eP25]; exact c.empty _ (List.mem_of_getElem? (i := 8) rfl))
    · show _ = _
      exact (by rw [eP27]; exact c.empty _ (List.mem_of_getElem? (i := 9) rfl))
    · show _ = _
      exact (by rw [eP29]; exact c.empty _ (List.mem_of_getElem? (i := 10) rfl))
    · show _ = _
      exact (by rw [eP33]; exact c.empty _ (List.mem_of_getElem? (i := 11) rfl))
    · show _ = _
      exact (by rw [eP34]; exact c.empty _ (List.mem_of_getElem? (i := 12) rfl))
    · show _ = _
      exact (by rw [eP51]; exact c.empty _ (List.mem_of_getElem? (i := 13) rfl))
    · show _ = _
      exact (by rw [eP52]; exact c.empty _ (List.mem_of_getElem? (i := 14) rfl))
    · show _ = _
      exact (by rw [eP54]; exact c.empty _ (List.mem_of_getElem? (i := 15) rfl))
    · show _ = _
      exact (by rw [eP62]; exact c.empty _ (List.mem_of_getElem? (i := 16) rfl))
    · show _ = _
      exact (by rw [eP74]; exact c.empty _ (List.mem_of_getElem? (i := 17) rfl))
  case t1 => 
    intro p hp
    simp only [List.mem_cons, List.not_mem_nil, or_false] at hp
    rcases hp with rfl | rfl | rfl | rfl | rfl | rfl | rfl | rfl | rfl | rfl | rfl | rfl | rfl | rfl | rfl | rfl | rfl | rfl
    · show _ = _
      exact (by rw [eP0]; exact c.out _ (List.mem_of_getElem? (i := 0) rfl))
    · show _ = _
      exact (by rw [eP7]; exact c.out _ (List.mem_of_getElem? (i := 1) rfl))
    · show _ = _
      exact (by rw [eP8]; exact c.out _ (List.mem_of_getElem? (i := 2) rfl))
    · show _ = _
      exact (by rw [eP14]; exact c.out _ (List.mem_of_getElem? (i := 3) rfl))
    · show _ = _
      exact (by rw [eP17]; exact c.out _ (List.mem_of_getElem? (i := 4) rfl))
    · show _ = _
      exact (by rw [eP18]; exact c.out _ (List.mem_of_getElem? (i := 5) rfl))
    · show _ = _
      exact (by rw [eP19]; exact c.out _ (List.mem_of_getElem? (i := 6) rfl))
    · show _ = _
      exact (by rw [eP20]; exact c.out _ (List.mem_of_getElem? (i := 7) rfl))
    · show _ = _
      exact (by rw [eP25]; exact c.out _ (List.mem_of_getElem? (i := 8) rfl))
    · show _ = _
      exact (by rw [eP27]; exact c.out _ (List.mem_of_getElem? (i := 9) rfl))
    · show _ = _
      exact (by rw [eP29]; exact c.out _ (List.mem_of_getElem? (i := 10) rfl))
    · show _ = _
      exact (by rw [eP33]; exact c.out _ (List.mem_of_getElem? (i := 11) rfl))
    · show _ = _
      exact (by rw [eP34]; exact c.out _ (List.mem_of_getElem? (i := 12) rfl))
    · show _ = _
      exact (by rw [eP51]; exact c.out _ (List.mem_of_getElem? (i := 13) rfl))
    · show _ = _
      exact (by rw [eP52]; exact c.out _ (List.mem_of_getElem? (i := 14) rfl))
    · show _ = _
      exact (by rw [eP54]; exact c.out _ (List.mem_of_getElem? (i := 15) rfl))
    · show _ = _
      exact (by rw [eP62]; exact c.out _ (List.mem_of_getElem? (i := 16) rfl))
    · show _ = _
      exact (by rw [eP74]; exact c.out _ (List.mem_of_getElem? (i := 17) rfl))
  case t2 => 
    intro p hp
    simp only [List.mem_cons, List.not_mem_nil, or_false] at hp
    rcases hp with rfl | rfl | rfl | rfl | rfl | rfl | rfl | rfl | rfl | rfl | rfl | rfl | rfl | rfl | rfl | rfl | rfl | rfl
    · show PySem.W.CodeHd _ _ _
      exact (by rw [eP0, ← hc0]; exact PySem.W.codeHd_of_K X (c.hd _ (List.mem_of_getElem? (i := 0) rfl)))
    · show PySem.W.CodeHd _ _ _
      exact (by rw [eP7, ← hc7]; exact PySem.W.codeHd_of_K X (c.hd _ (List.mem_of_getElem? (i := 1) rfl)))
    · show PySem.W.CodeHd _ _ _
      exact (by rw [eP8, ← hc8]; exact PySem.W.codeHd_of_K X (c.hd _ (List.mem_of_getElem? (i := 2) rfl)))
    · show PySem.W.CodeHd _ _ _
      exact (by rw [eP14, ← hc14]; exact PySem.W.codeHd_of_K X (c.hd _ (List.mem_of_getElem? (i := 3) rfl)))
    · show PySem.W.CodeHd _ _ _
      exact (by rw [eP17, ← hc17]; exact PySem.W.codeHd_of_K X (c.hd _ (List.mem_of_getElem? (i := 4) rfl)))
    · show PySem.W.CodeHd _ _ _
      exact (by rw [eP18, ← hc18]; exact PySem.W.codeHd_of_K X (c.hd _ (List.mem_of_getElem? (i := 5) rfl)))
    · show PySem.W.CodeHd _ _ _
      exact (by rw [eP19, ← hc19]; exact PySem.W.codeHd_of_K X (c.hd _ (List.mem_of_getElem? (i := 6) rfl)))
    · show PySem.W.CodeHd _ _ _
      exact (by rw [eP20, ← hc20]; exact PySem.W.codeHd_of_K X (c.hd _ (List.mem_of_getElem? (i := 7) rfl)))
    · show PySem.W.CodeHd _ _ _
      exact (by rw [eP25, ← hc25]; exact PySem.W.codeHd_of_K X (c.hd _ (List.mem_of_getElem? (i := 8) rfl)))
    · show PySem.W.CodeHd _ _ _
      exact (by rw [eP27, ← hc27]; exact PySem.W.codeHd_of_K X (c.hd _ (List.mem_of_getElem? (i := 9) rfl)))
    · show PySem.W.CodeHd _ _ _
      exact (by rw [eP29, ← hc29]; exact PySem.W.codeHd_of_K X (c.hd _ (List.mem_of_getElem? (i := 10) rfl)))
    · show PySem.W.CodeHd _ _ _
      exact (by rw [eP33, ← hc33]; exact PySem.W.codeHd_of_K X (c.hd _ (List.mem_of_getElem? (i := 11) rfl)))
    · show PySem.W.CodeHd _ _ _
      exact (by rw [eP34, ← hc34]; exact PySem.W.codeHd_of_K X (c.hd _ (List.mem_of_getElem? (i := 12) rfl)))
    · show PySem.W.CodeHd _ _ _
      exact (by rw [eP51, ← hc51]; exact PySem.W.codeHd_of_K X (c.hd _ (List.mem_of_getElem? (i := 13) rfl)))
    · show PySem.W.CodeHd _ _ _
      exact (by rw [eP52, ← hc52]; exact PySem.W.codeHd_of_K X (c.hd _ (List.mem_of_getElem? (i := 14) rfl)))
    · show PySem.W.CodeHd _ _ _
      exact (by rw [eP54, ← hc54]; exact PySem.W.codeHd_of_K X (c.hd _ (List.mem_of_getElem? (i := 15) rfl)))
    · show PySem.W.CodeHd _ _ _
      exact (by rw [eP62, ← hc62]; exact PySem.W.codeHd_of_K X (c.hd _ (List.mem_of_getElem? (i := 16) rfl)))
    · show PySem.W.CodeHd _ _ _
      exact (by rw [eP74, ← hc74]; exact PySem.W.codeHd_of_K X (c.hd _ (List.mem_of_getElem? (i := 17) rfl)))
  case t3 => 
    simp only [List.mem_cons, List.not_mem_nil, or_false] at hp
    rcases hp with z | z | z | z | z | z | z | z | z | z | z | z | z | z | z | z | z
    · rw [z]; exact ⟨#[], hH (c0, P0) (by simp), trivial⟩
    · rw [z]; exact ⟨#[], hH (c7, P7) (by simp), trivial⟩
    · rw [z]; exact ⟨#[], hH (c8, P8) (by simp), trivial⟩
    · rw [z]; exact ⟨#[], hH (c14, P14) (by simp), trivial⟩
    · rw [z]; exact ⟨#[], hH (c17, P17) (by simp), trivial⟩
    · rw [z]; exact ⟨#[], hH (c18, P18) (by simp), trivial⟩
    · rw [z]; exact ⟨#[], hH (c19, P19) (by simp), trivial⟩
    · rw [z]; exact ⟨#[], hH (c20, P20) (by simp), trivial⟩
    · rw [z]; exact ⟨#[], hH (c25, P25) (by simp), trivial⟩
    · rw [z]; exact ⟨#[], hH (c27, P27) (by simp), trivial⟩
    · rw [z]; exact ⟨#[], hH (c29, P29) (by simp), trivial⟩
    · rw [z]; exact ⟨#[], hH (c33, P33) (by simp), trivial⟩
    · rw [z]; exact ⟨#[], hH (c34, P34) (by simp), trivial⟩
    · rw [z]; exact ⟨#[], hH (c52, P52) (by simp), trivial⟩
    · rw [z]; exact ⟨#[], hH (c54, P54) (by simp), trivial⟩
    · rw [z]; exact ⟨#[], hH (c62, P62) (by simp), trivial⟩
    · rw [z]; exact ⟨#[], hH (c74, P74) (by simp), trivial⟩
  case t4 =>
    have c__law_deck := ok_deck (P := l.prog) (w := w) (base := base) D__law_deck T
    have c__law_mixed := ok_mixed (P := l.prog) (w := w) (base := base) D__law_mixed
    have c__law_draw := ok_draw (P := l.prog) (w := w) (base := base) D__law_draw T c__law_mixed
    have dc : DCls K CDesk := ⟨cl_Desk, vDesk_keeper⟩
    have kc : KCls K CKeeper := ⟨cl_Keeper, vKeeper_k, vKeeper_held, vKeeper_kept⟩
    have c_wires_in := ok_wires (P := l.prog) (w := w) (base := base) D_wires_in T
    have c_places := ok_places (P := l.prog) (w := w) (base := base) D_places
    have c_fits := ok_fits (P := l.prog) (w := w) (base := base) D_fits T
    have c_has_part := ok_haspart (P := l.prog) (w := w) (base := base) D_has_part T
    have c_gate_masks := ok_gatemasks (P := l.prog) (w := w) (base := base) D_gate_masks T c_fits c_has_part
    have c_cut_masks_cutmasks := ok_cutmasks (P := l.prog) (w := w) (base := base) D_cut_masks T c_places c_gate_masks
    have c_wires_of := ok_wiresof (P := l.prog) (w := w) (base := base) (Ts := [P0, P7, P8, P14, P17, P18, P19, P20, P25, P27, P29, P33, P34, P52, P54, P62, P74]) D_wires_of T (tabB_of (TB (c0, P0) (by simp))) (by simp)
    have c_told_cuts := ok_told (P := l.prog) (w := w) (base := base) (Ts := [P0, P7, P8, P14, P17, P18, P19, P20, P25, P27, P29, P33, P34, P52, P54, P62, P74]) D_told_cuts T c_wires_of
    have c_all_cuts := ok_allcuts (P := l.prog) (w := w) (base := base) (Ts := [P0, P7, P8, P14, P17, P18, P19, P20, P25, P27, P29, P33, P34, P52, P54, P62, P74]) D_all_cuts T c_wires_in c_cut_masks_cutmasks c_places c_told_cuts (tabB_of (TB (c25, P25) (by simp))) (by simp)
    have c_Keeper___init__ := ok_kinit (P := l.prog) (w := w) (base := base) (Ts := [P0, P7, P8, P14, P17, P18, P19, P20, P25, P27, P29, P33, P34, P52, P54, P62, P74]) D_Keeper___init__ T kc cm_Keeper u1Keeper u2Keeper c_all_cuts
    have c_Desk___init__ := ok_dinit (P := l.prog) (w := w) (base := base) (Ts := [P0, P7, P8, P14, P17, P18, P19, P20, P25, P27, P29, P33, P34, P52, P54, P62, P74]) D_Desk___init__ T dc cm_Desk u1Desk u2Desk c_Keeper___init__
    have c__law_put_in := ok_putin (P := l.prog) (w := w) (base := base) D__law_put_in T
    have c__law_change := ok_lchd (P := l.prog) (w := w) (base := base) D__law_change T c__law_draw c__law_put_in
    have c_Keeper_net := ok_knet (P := l.prog) (w := w) (base := base) D_Keeper_net T kc
    have c_Desk_net := ok_dnet (P := l.prog) (w := w) (base := base) D_Desk_net T dc c_Keeper_net
    have hq : ∀ x ∈ wordsQ, PySem.W.nsIn K dQUESTIONS x = some none := fun x hx => by
      simp only [wordsQ, List.mem_cons, List.not_mem_nil, or_false] at hx
      rcases hx with rfl | rfl | rfl | rfl | rfl
      · exact uZQUESTIONS_0
      · exact uZQUESTIONS_1
      · exact uZQUESTIONS_2
      · exact uZQUESTIONS_3
      · exact uZQUESTIONS_4
    have c_number_in := ok_number_in (P := l.prog) (w := w) (base := base) (Ts := [P0, P7, P8, P14, P17, P18, P19, P20, P25, P27, P29, P33, P34, P52, P54, P62, P74]) D_number_in T (tabB_of (TB (c62, P62) (by simp))) (by simp)
    have c_numbers_in := ok_numbers_in (P := l.prog) (w := w) (base := base) (Ts := [P0, P7, P8, P14, P17, P18, P19, P20, P25, P27, P29, P33, P34, P52, P54, P62, P74]) D_numbers_in T c_number_in
    have c_wires_written := ok_wires_written (P := l.prog) (w := w) (base := base) (Ts := [P0, P7, P8, P14, P17, P18, P19, P20, P25, P27, P29, P33, P34, P52, P54, P62, P74]) D_wires_written T c_numbers_in
    have c_is_whole := ok_whole (P := l.prog) (w := w) (base := base) D_is_whole T
    have c_is_below := ok_below (P := l.prog) (w := w) (base := base) D_is_below c_is_whole
    have c_has_gate := ok_hasgate (P := l.prog) (w := w) (base := base) D_has_gate T c_is_below c_wires_in
    have c_rises := ok_rises (P := l.prog) (w := w) (base := base) (Ts := [P0, P7, P8, P14, P17, P18, P19, P20, P25, P27, P29, P33, P34, P52, P54, P62, P74]) D_rises T (tabB_of (TB (c19, P19) (by simp))) (by simp)
    have c_is_rising := ok_isrising (P := l.prog) (w := w) (base := base) (Ts := [P0, P7, P8, P14, P17, P18, P19, P20, P25, P27, P29, P33, P34, P52, P54, P62, P74]) D_is_rising T c_is_below c_rises (tabB_of (TB (c20, P20) (by simp))) (by simp)
    have c_reached := ok_reached (P := l.prog) (w := w) (base := base) (Ts := [P0, P7, P8, P14, P17, P18, P19, P20, P25, P27, P29, P33, P34, P52, P54, P62, P74]) D_reached T c_wires_in c_places (tabB_of (TB (c17, P17) (by simp))) (by simp)
    have c_is_step := ok_step (P := l.prog) (w := w) (base := base) D_is_step c_places
    have c_way_past := ok_past (P := l.prog) (w := w) (base := base) (Ts := [P0, P7, P8, P14, P17, P18, P19, P20, P25, P27, P29, P33, P34, P52, P54, P62, P74]) D_way_past T c_reached c_is_step
    have c_in_figures := ok_figs (P := l.prog) (w := w) (base := base) D_in_figures T
    have c_way_answer := ok_way_answer (P := l.prog) (w := w) (base := base) (Ts := [P0, P7, P8, P14, P17, P18, P19, P20, P25, P27, P29, P33, P34, P52, P54, P62, P74]) (lv := 0) D_way_answer T c_Keeper_net c_number_in c_wires_written c_has_gate c_is_rising c_way_past c_in_figures
    have c_tells := ok_ptells (P := l.prog) (w := w) (base := base) (Ts := [P0, P7, P8, P14, P17, P18, P19, P20, P25, P27, P29, P33, P34, P52, P54, P62, P74]) D_tells T c_reached (tabB_of (TB (c18, P18) (by simp))) (by simp)
    have c_is_cut := ok_iscut (P := l.prog) (w := w) (base := base) (Ts := [P0, P7, P8, P14, P17, P18, P19, P20, P25, P27, P29, P33, P34, P52, P54, P62, P74]) D_is_cut T c_is_rising c_tells
    have c_inside := ok_inside (P := l.prog) (w := w) (base := base) (Ts := [P0, P7, P8, P14, P17, P18, P19, P20, P25, P27, P29, P33, P34, P52, P54, P62, P74]) D_inside T c_reached (tabB_of (TB (c27, P27) (by simp))) (by simp)
    have c_gate_worth := ok_gw (P := l.prog) (w := w) (base := base) D_gate_worth
    have c_worth_by := ok_worthby (P := l.prog) (w := w) (base := base) D_worth_by T c_gate_worth
    have c_content := ok_content (P := l.prog) (w := w) (base := base) (Ts := [P0, P7, P8, P14, P17, P18, P19, P20, P25, P27, P29, P33, P34, P52, P54, P62, P74]) D_content T c_inside c_worth_by (tabB_of (TB (c29, P29) (by simp))) (by simp)
    have c_content_answer := ok_content_answer (P := l.prog) (w := w) (base := base) (Ts := [P0, P7, P8, P14, P17, P18, P19, P20, P25, P27, P29, P33, P34, P52, P54, P62, P74]) (lv := 0) D_content_answer T c_Keeper_net c_number_in c_wires_written c_has_gate c_is_cut c_content c_in_figures
    have hSQ : ∀ f sp, (fun f => if f = f75 then some (spQnL ([P0, P7, P8, P14, P17, P18, P19, P20, P25, P27, P29, P33, P34, P52, P54, P62, P74]) P51 CKeeper rWay) else if f = f73 then some (spQnL ([P0, P7, P8, P14, P17, P18, P19, P20, P25, P27, P29, P33, P34, P52, P54, P62, P74]) P51 CKeeper rCont) else none) f = some sp → Held l.prog w K mg base (0 + 9) f sp := fun f sp h => by
      dsimp only at h
      split at h
      · rename_i e
        cases h
        rw [e]
        exact Held.weak (heldOf c_way_answer D_way_answer.mgf) (spQnL_of x51)
      · skip
        split at h
        · rename_i e
          cases h
          rw [e]
          exact Held.weak (heldOf c_content_answer D_content_answer.mgf) (spQnL_of x51)
        · cases h
    have hqw : ∀ x r, R80 x = some r → ∃ f, PySem.W.nsIn K dQUESTIONS x = some (some (.ref f)) ∧ (fun f => if f = f75 then some (spQnL ([P0, P7, P8, P14, P17, P18, P19, P20, P25, P27, P29, P33, P34, P52, P54, P62, P74]) P51 CKeeper rWay) else if f = f73 then some (spQnL ([P0, P7, P8, P14, P17, P18, P19, P20, P25, P27, P29, P33, P34, P52, P54, P62, P74]) P51 CKeeper rCont) else none) f = some (spQnL ([P0, P7, P8, P14, P17, P18, P19, P20, P25, P27, P29, P33, P34, P52, P54, P62, P74]) P51 CKeeper r) := fun x r h => by
      unfold R80 at h
      split at h
      · rename_i e
        subst e
        cases h
        exact ⟨f75, uWQUESTIONS_way, by dsimp only; rw [if_pos rfl]⟩
      · skip
        split at h
        · rename_i e
          subst e
          cases h
          exact ⟨f73, uWQUESTIONS_content, by dsimp only; rw [if_neg uN73_75, if_pos rfl]⟩
        · cases h
    have c_change_written := ok_chgw (P := l.prog) (w := w) (base := base) (Ts := [P0, P7, P8, P14, P17, P18, P19, P20, P25, P27, P29, P33, P34, P52, P54, P62, P74]) D_change_written T c_numbers_in
    have c_with_gate := ok_with (P := l.prog) (w := w) (base := base) D_with_gate T
    have c_kind_changed := ok_kindT (P := l.prog) (w := w) (base := base) D_kind_changed T c_has_gate c_with_gate
    have c_lead_changed := ok_leadT (P := l.prog) (w := w) (base := base) D_lead_changed T c_has_gate c_is_below c_with_gate
    have c_gate_added := ok_addedT (P := l.prog) (w := w) (base := base) D_gate_added T
    have c_gate_taken := ok_takenT (P := l.prog) (w := w) (base := base) D_gate_taken T
    have c_outs_changed := ok_outscT (P := l.prog) (w := w) (base := base) D_outs_changed T
    have hS : ∀ f sp, actS f43 f44 f45 f46 f47 f = some sp → Held l.prog w K mg base 4 f sp := fun f sp h => by
      unfold actS at h
      split at h
      · rename_i e
        cases h
        rw [e]
        exact heldOf c_kind_changed D_kind_changed.mgf
      · skip
        split at h
        · rename_i e
          cases h
          rw [e]
          exact heldOf c_lead_changed D_lead_changed.mgf
        · skip
          split at h
          · rename_i e
            cases h
            rw [e]
            exact heldOf c_gate_added D_gate_added.mgf
          · skip
            split at h
            · rename_i e
              cases h
              rw [e]
              exact heldOf c_gate_taken D_gate_taken.mgf
            · skip
              split at h
              · rename_i e
                cases h
                rw [e]
                exact heldOf c_outs_changed D_outs_changed.mgf
              · cases h
    have hw : ∀ x ∈ wordsC, ∃ f, PySem.W.nsIn K dCHANGES x = some (some (.ref f)) ∧ actS f43 f44 f45 f46 f47 f = some (spActT x) := fun x hx => by
      simp only [wordsC, List.mem_cons, List.not_mem_nil, or_false] at hx
      rcases hx with rfl | rfl | rfl | rfl | rfl
      · exact ⟨f43, uWCHANGES_kind, by unfold actS; rw [if_pos rfl]⟩
      · exact ⟨f44, uWCHANGES_lead, by unfold actS; rw [if_neg (Ne.symm uN43_44), if_pos rfl]⟩
      · exact ⟨f45, uWCHANGES_more, by unfold actS; rw [if_neg (Ne.symm uN43_45), if_neg (Ne.symm uN44_45), if_pos rfl]⟩
      · exact ⟨f46, uWCHANGES_less, by unfold actS; rw [if_neg (Ne.symm uN43_46), if_neg (Ne.symm uN44_46), if_neg (Ne.symm uN45_46), if_pos rfl]⟩
      · exact ⟨f47, uWCHANGES_outs, by unfold actS; rw [if_neg (Ne.symm uN43_47), if_neg (Ne.symm uN44_47), if_neg (Ne.symm uN45_47), if_neg (Ne.symm uN46_47), if_pos rfl]⟩
    have hz : ∀ x ∈ wordsN, PySem.W.nsIn K dCHANGES x = some none := fun x hx => by
      simp only [wordsN, List.mem_cons, List.not_mem_nil, or_false] at hx
      rcases hx with rfl | rfl | rfl | rfl | rfl
      · exact uZCHANGES_0
      · exact uZCHANGES_1
      · exact uZCHANGES_2
      · exact uZCHANGES_3
      · exact uZCHANGES_4
    have c_has_word := ok_haswordT (P := l.prog) (w := w) (base := base) D_has_word T kD_CHANGES gD_CHANGES (fun x hx => let ⟨f, h, _⟩ := hw x hx; ⟨f, h⟩) hz
    have c_is_many := ok_many (P := l.prog) (w := w) (base := base) D_is_many T c_is_whole
    have c_is_gate := ok_isgate (P := l.prog) (w := w) (base := base) D_is_gate T c_is_below
    have c_are_gates := ok_aregates (P := l.prog) (w := w) (base := base) (Ts := [P0, P7, P8, P14, P17, P18, P19, P20, P25, P27, P29, P33, P34, P52, P54, P62, P74]) D_are_gates T c_is_gate (tabB_of (TB (c7, P7) (by simp))) (by simp)
    have c_are_outs := ok_areouts (P := l.prog) (w := w) (base := base) (Ts := [P0, P7, P8, P14, P17, P18, P19, P20, P25, P27, P29, P33, P34, P52, P54, P62, P74]) D_are_outs T c_is_below (tabB_of (TB (c8, P8) (by simp))) (by simp)
    have c_is_net := ok_isnet (P := l.prog) (w := w) (base := base) (Ts := [P0, P7, P8, P14, P17, P18, P19, P20, P25, P27, P29, P33, P34, P52, P54, P62, P74]) D_is_net T c_is_many c_are_gates c_are_outs
    have c_changed := ok_changedT (P := l.prog) (w := w) (base := base) (Ts := [P0, P7, P8, P14, P17, P18, P19, P20, P25, P27, P29, P33, P34, P52, P54, P62, P74]) D_changed T kD_CHANGES gD_CHANGES hS hw x_NoChange c_has_word c_is_net
    have c_other_gates := ok_other (P := l.prog) (w := w) (base := base) (Ts := [P0, P7, P8, P14, P17, P18, P19, P20, P25, P27, P29, P33, P34, P52, P54, P62, P74]) D_other_gates T (tabB_of (TB (c54, P54) (by simp))) (by simp)
    have c_Keeper_do := ok_kdo (P := l.prog) (w := w) (base := base) (Ts := [P0, P7, P8, P14, P17, P18, P19, P20, P25, P27, P29, P33, P34, P52, P54, P62, P74]) D_Keeper_do T kc c_changed c_all_cuts c_other_gates
    have c_change_answer := ok_chga (P := l.prog) (w := w) (base := base) (Ts := [P0, P7, P8, P14, P17, P18, P19, P20, P25, P27, P29, P33, P34, P52, P54, P62, P74]) D_change_answer T x_NoChange su_NoChange_NoChange c_change_written c_in_figures c_Keeper_do
    have c_Desk_say := ok_sayL (P := l.prog) (w := w) (base := base) (Ts := [P0, P7, P8, P14, P17, P18, P19, P20, P25, P27, P29, P33, P34, P52, P54, P62, P74]) (lv := 0) (R := R80) (NQ := nq80) x51 D_Desk_say T dc x_NoRow kD_QUESTIONS gD_QUESTIONS hq hqw hSQ c_change_answer
    have c__law_grown := ok_grown (P := l.prog) (w := w) (base := base) (Ts := [P0, P7, P8, P14, P17, P18, P19, P20, P25, P27, P29, P33, P34, P52, P54, P62, P74]) (R := R80) (NQ := nq80) nq80Ok D__law_grown T c__law_change c_Desk_net (met_calm c_Desk_say)
    have c__law_wires := ok_lwires (P := l.prog) (w := w) (base := base) D__law_wires T c__law_draw
    have c__law_written := ok_written (P := l.prog) (w := w) (base := base) D__law_written T
    have c__law_heard := ok_heardD (P := l.prog) (w := w) (base := base) D__law_heard T x_NoMatch x_NoChange x_NoDepth x_NoRow x_NoText x_TooMany su_NoRow_NoRow su_NoRow_ValueError su_NoRow_NoDepth su_NoRow_TooMany su_NoRow_NoMatch su_NoRow_NoChange su_NoRow_NoText mono_spSayL c_Desk_say
    have c__law_told := ok_ltold (P := l.prog) (w := w) (base := base) D__law_told T
    have c__law_way_right := ok_wayr (P := l.prog) (w := w) (base := base) D__law_way_right T c__law_written
    have c__law_right := ok_lright (P := l.prog) (w := w) (base := base) (Ts := [P0, P7, P8, P14, P17, P18, P19, P20, P25, P27, P29, P33, P34, P52, P54, P62, P74]) x51 D__law_right T c__law_written c__law_heard c__law_told c__law_way_right c_content
    have c__law_led := ok_led (P := l.prog) (w := w) (base := base) (Ts := [P0, P7, P8, P14, P17, P18, P19, P20, P25, P27, P29, P33, P34, P52, P54, P62, P74]) (R := R80) (NQ := nq80) nq80Ok D__law_led T c__law_draw c__law_put_in (met_calm c_Desk_say)
    have c__law_turned_over := ok_over (P := l.prog) (w := w) (base := base) (Ts := [P0, P7, P8, P14, P17, P18, P19, P20, P25, P27, P29, P33, P34, P52, P54, P62, P74]) (R := R80) (NQ := nq80) nq80Ok D__law_turned_over T c__law_draw c__law_put_in (met_calm c_Desk_say)
    have c__law_filled := ok_filled (P := l.prog) (w := w) (base := base) (Ts := [P0, P7, P8, P14, P17, P18, P19, P20, P25, P27, P29, P33, P34, P52, P54, P62, P74]) (R := R80) (NQ := nq80) nq80Ok D__law_filled T c__law_draw c_Desk_net (met_calm c_Desk_say)
    have c__law_many_right := ok_lmanyr (P := l.prog) (w := w) (base := base) (Ts := [P0, P7, P8, P14, P17, P18, P19, P20, P25, P27, P29, P33, P34, P52, P54, P62, P74]) x51 D__law_many_right T c__law_draw c_Desk___init__ c__law_filled c__law_right
    exact ok_law x51 l97 e97 T c__law_deck c__law_draw c_Desk___init__ c__law_grown c__law_wires c__law_right c_Desk_net c__law_led c__law_turned_over c__law_many_right
end K80
open PySem PySem.W PyProof.Rows
set_option maxRecDepth 100000 in
set_option maxHeartbeats 0 in
theorem PySem.Challenge.cw_tablecover_k80_contents_and_ways_holds : PySem.Challenge.rw_tablecover_k80_contents_and_ways.Holds := by
  w_on; o_law
  refine HandSHeadRun.head_any (r := OpenLaw.row PySem.Challenge.rw_tablecover_k80_contents_and_ways) (q := view (OpenLaw.row PySem.Challenge.rw_tablecover_k80_contents_and_ways).prog [123]) (H := K80.hdHk) (ob := K80.hdOb) (M := 8000) (loose := K80.hdNames) (d := HandSHeadRun.topDef (OpenLaw.row PySem.Challenge.rw_tablecover_k80_contents_and_ways).prog 123) (kwd := []) K80.hdOb_eq
    (by kernel_rfl) (fun s => by kernel_rfl) K80.hdRun (by kernel_rfl) (by kernel_rfl) (by kernel_rfl) (by rfl) (by first | assumption | decide +kernel) (by decide +kernel) ⟨rfl, rfl, rfl, rfl, rfl, by decide +kernel⟩ ?hw ?hc
  case hw => w_witness2
  case hc =>
    refine LamX.walk_ofTsE (l := PySem.Challenge.rw_tablecover_k80_contents_and_ways) (n := 63) (k := 14) (x := "_law_script") (CX := fun _ => L2.CX0) rfl (by decide) (by kernel_rfl) ⟨rfl, by decide, by decide⟩ ?F (fun _ _ _ _ _ z => z)
    intro w mg fa h Y G hmg0
    obtain ⟨K, KX, c⟩ := Y
    have hmg : mg ("law" : PySem.Str) = some (.ref fa) := by
      have e : (HandSHeadRun.topDef (OpenLaw.row PySem.Challenge.rw_tablecover_k80_contents_and_ways).prog 123).name = ("law" : PySem.Str) := by kernel_rfl
      rw [← e]
      exact hmg0
    exact ⟨K, KX, K80.all_mk KX G hmg c⟩
