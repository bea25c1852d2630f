import PyProof.Rows.All
import Wide.All
import OpenK.AllK
import Wide.FinOn
import HandS.ForMost
import HandS.AnyAll
import HandS.GenList
import PyProof.TupleOfGen
import HandS.Walk
import HandS.Codes
import HandS.TupAny
import HandS.IsInst
import HandS.EndTab
import HandS.Wide
import HandS.Conv
import KE.GoesMore
import PyProof.EnumMake
import HandS.Style
import HandS.TupMul
import HandS.SetFor
import HandS.Strs
import HandS.Zip
import HandS.NamedTupSort
import HandS.TupSets
import KE.BitLaws
import KE.IntBitsLaws
import HandS.WideBits
import HandS.Rev
import HandS.RevRange
import HandS.Dict
import KE.KIndexOf
import KE.KDictPairs
import HandS.Flow
import PyProof.EqAt
import PyProof.NeKinds
import HandS.Lambda
import KE.KMinKey
import HandS.TupLe
import HandS.DictComp
import HandS.Comp
import HandS.Exc
import HandS.ExcOwn
import HandS.ExcIs
import HandS.ExcField
import KE.KExcIs
import PyProof.EqKinds
import HandS.DictEq
import HandS.Text
import HandS.Replace
import HandS.List
import KE.GoesRev
import KE.KExcSuper
import HandS.ExcSuper
import HandS.ExcInit
import HandS.FStr
import HandS.HotCalls
import HandS.Call
import PyProof.Rows.StrMul
import HandS.TryOnly
import KE.KUnpackStar
import HandS.Iter
import HandS.More
import HandS.SortInts
import HandS.CallLocal
import HandS.RaiseMore
import PySem.Challenge.RW_tablecover_k76_desk_changes
set_option Elab.async false
set_option linter.all false
set_option maxRecDepth 100000
set_option maxHeartbeats 4000000
/-! Generator expressions as arguments of all, any, tuple, over the hand layer: the element may call, make objects, hold further generator expressions. -/
namespace GX
open PySem PySem.Spec PyProof.Rows L2 GenW

/-- the frame of a generator expression made in the state s; A0: what runs around it while it runs -/
abbrev gcx (X : Cx) (A0 : Around) (s : Shared) (H : Hp) (scope : Scope) (code : Value) (fp : List Addr) : Cx :=
  { X with
    A := A0.deeper (genEnv scope (cloFrom X.env.cells scope.names []) s.heap.objs.size code builtinsNs X.env)
    s_0 := s
    H_0 := H
    env := genEnv scope (cloFrom X.env.cells scope.names []) s.heap.objs.size code builtinsNs X.env
    outer := X.stack
    stack := genEnv scope (cloFrom X.env.cells scope.names []) s.heap.objs.size code builtinsNs X.env :: X.stack
    ex := fp
    fn := fun _ => false
    calm := true
    pn := []
    xe := fun _ _ => False }

/-- the names of the generator expression's scope -/
structure GxOk (N : List Str) (sc scope : Scope) (own : List (Str × Nat)) : Prop where
  blk : BlkOk N sc scope own
  co : scope.isCoroutine = false
  cell : ∀ y ∈ scope.names, y.2 ≠ .cell
  dot : scope.names.lookup (".0" : Str) = some NameKind.local

section
variable {X : Cx} {pins : List (Addr × Obj)} {σ : L2.St} {H : Hp} {s : Shared}
theorem gen_start {A0 : Around} {scope : Scope} {own : List (Str × Nat)} {fp : List Addr} {code : Value} {h5 : Heap} {g5 : Array GenState} {t5 : Nat} {m : Str → Option Value}
    (I : Inv X pins σ H s) (ok : GxOk X.N X.env.scope scope own) (hN : X.N.Nodup) (hfp : ∀ b ∈ fp, FpOk X pins H b ∧ b < s.heap.objs.size)
    (hh : A0.handled = none) (hfr : A0.frames = some X.stack)
    (hn : h5.Ns s.heap.objs.size m) (kp : ∀ b o, s.heap.get? b = some o → h5.get? b = some o) (hg : AllBare g5) :
    Inv (gcx X A0 s H scope code fp) [] (wipe σ (own.map (·.2))) H { s with heap := h5, gens := g5, toks := t5 } := by
  have hfree : ∀ y ∈ scope.names, y.2 = .free → ∃ c, X.env.cells.lookup y.1 = some c := fun y hy e => by
    rcases ok.blk.free y hy e with k | k
    · exact I.ok.has _ (.inl k)
    · exact I.ok.has _ (.inr k)
  have cm : ∀ {y c}, (cloFrom X.env.cells scope.names []).lookup y = some c → X.env.cells.lookup y = some c ∧ c < s.heap.objs.size ∧ scope.names.lookup y = some .free := fun {y c} hl => by
    rcases cloFrom_mem (PySem.mem_of_lookup hl) with hm | ⟨h1, rfl⟩
    · cases hm
    · obtain ⟨c, hc⟩ := hfree _ h1 rfl
      rw [hc]
      obtain ⟨w, z⟩ := I.cell _ _ hc
      exact ⟨rfl, z.lt, ok.blk.uniq _ h1⟩
  have look : ∀ {y}, scope.names.lookup y = some .free → ∃ c, (cloFrom X.env.cells scope.names []).lookup y = some c ∧ X.env.cells.lookup y = some c := fun {y} hl => by
    have hy : (y, NameKind.free) ∈ scope.names := PySem.mem_of_lookup hl
    obtain ⟨c', e'⟩ := mem_lookup (cloFrom_has (cells := X.env.cells) (acc := []) hy)
    exact ⟨c', e', (cm e').1⟩
  have okB : (gcx X A0 s H scope code fp).Ok := by
    refine ⟨I.ok.mod, ok.blk.kind, I.ok.glob, rfl, Nat.le_refl _, fun y z c e1 e2 => ?_, fun y hy => ?_, fun y c z e => (by cases z), fun _ => hh, Around.frames_deeper hfr, .inr ⟨rfl, rfl⟩,
      fun b hb => ⟨Nat.ne_of_lt (hfp b hb).2, fun y c e z => ?_⟩, I.bs, Nat.le_trans I.ok.bsz I.sz, fun b o e hb => ?_, fun b hb z => ?_, I.stack, I.stkFree⟩
    · exact I.ok.inj y z c (cm e1).1 (cm e2).1
    · rcases hy with hy | hy
      · exact absurd rfl (ok.cell _ (PySem.mem_of_lookup hy))
      · obtain ⟨c, h1, _⟩ := look hy
        exact ⟨c, h1⟩
    · exact (hfp b hb).1.2.2.2.2.1 y c (cm e).1 z
    · rcases (hfp b hb).1.2.2.2.1 with z | z
      · exact I.ok.noex b o e z
      · exact absurd (Nat.lt_of_lt_of_le (Heap.lt_size e) (Nat.le_trans I.ok.bsz z)) (Nat.lt_irrefl _)
    · rcases List.mem_cons.mp (I.stkSub b z) with z | z
      · exact (hfp b hb).1.2.1 z
      · exact (hfp b hb).1.2.2.1 z
  refine ⟨okB, rfl, hg, Un.kept kp, ⟨m, hn, fun i y av e1 e2 e3 => ?_⟩, fun y c e => ?_, I.hok.fresh (Nat.le_refl _), fun y c e => I.freeC y c (cm e).1, fun p hp => absurd (show p ∈ ([] : List (Addr × Obj)) ++ [] from hp) (by simp), I.hok.kept kp, by rw [wipe_length]; exact I.len⟩
  · obtain ⟨e2, hne⟩ := wipe_some e2
    have no : ∀ k, scope.names.lookup y = some k → ¬ (k = .local ∨ k = .cell) := fun k e hh => by
      rcases ok.blk.own _ (PySem.mem_of_lookup e) hh with e' | e'
      · obtain ⟨p, hp, hpy⟩ := List.mem_map.mp e'
        have e3 := ok.blk.ix p hp
        have : p.1 = y := hpy
        rw [this] at e3
        exact hne (List.mem_map.mpr ⟨p, hp, nodup_ix hN e3 e1⟩)
      · exact e' (List.mem_of_getElem? e1)
    have hfr : scope.names.lookup y = some .free := by
      rcases e3 with e3 | e3 | e3
      · exact absurd (.inl rfl) (no _ e3)
      · exact absurd (.inr rfl) (no _ e3)
      · exact e3
    obtain ⟨m', hn', hl⟩ := I.loc
    have hvis : Vis X.env.scope y := (ok.blk.free _ (PySem.mem_of_lookup hfr) rfl).elim (fun k => .inr (.inl k)) (fun k => .inr (.inr k))
    obtain ⟨w, r, q⟩ := hl i y av e1 e2 hvis
    refine ⟨w, r, .inr ⟨.inr hfr, ?_⟩⟩
    obtain ⟨c, h1, h2⟩ := look hfr
    rcases q with ⟨k, _⟩ | ⟨_, c', e', z⟩
    · have k : X.env.scope.names.lookup y = some .local := k
      rcases ok.blk.free _ (PySem.mem_of_lookup hfr) rfl with k' | k' <;> rw [show X.env.scope.names.lookup y = _ from k'] at k <;> cases k
    · rw [h2] at e'; cases e'
      exact ⟨c, h1, z.keeps kp⟩
  · obtain ⟨w, z⟩ := I.cell y c (cm e).1
    exact ⟨w, z.keeps kp⟩
end

/-! ### asleep -/
/-- while the generator sleeps its consumer changes what stands at B alone -/
structure Slp (B : List Addr) (s s' : Shared) : Prop where
  os : s'.os = s.os
  bare : AllBare s'.gens
  keep : ∀ b o, b ∉ B → s.heap.get? b = some o → s'.heap.get? b = some o
/-- the consumer's own objects -/
structure Aprt (Y : Cx) (B fp : List Addr) (a : Addr) : Prop where
  hi : ∀ b ∈ B, Y.s_0.heap.objs.size ≤ b
  lo : ∀ b ∈ B, b ≠ Y.env.locals
  ce : ∀ b ∈ B, ∀ x c, Y.env.cells.lookup x = some c → c ≠ b
  sf : ∀ b ∈ B, b ∉ Y.fs
  bf : ∀ b ∈ B, b ∉ fp
  na : a ∉ B
  af : a ∉ fp
theorem woken {Y : Cx} {B fp : List Addr} {a : Addr} {go : Obj} {pins pins' : List (Addr × Obj)} {σ : L2.St} {H : Hp} {s s' : Shared} (hpn : Y.pn = []) (hB : Aprt Y B fp a) (I : Inv Y ((a, go) :: pins) σ H s)
    (hHB : ∀ b ∈ B, H b = none) (z : Slp B s s') (hp : ∀ p ∈ pins', p.1 ∈ B ∧ s'.heap.get? p.1 = some p.2 ∧ ∀ v, p.2.data ≠ .cell v) : Inv Y ((a, go) :: pins') σ H s' := by
  have I1 : Inv Y [(a, go)] σ H s := I.pins_of fun p hp => by
    have e : p = (a, go) := List.mem_singleton.mp hp
    rw [e]
    exact I.pin (a, go) (List.mem_append_right _ List.mem_cons_self)
  have nt : ∀ b u, H b = some u → b ∉ B := fun b u q hb => by rw [hHB b hb] at q; cases q
  obtain ⟨z1, z2, z3⟩ := z
  obtain ⟨hh, g, d, t, o⟩ := s'
  have ho : o = s.os := z1
  subst ho
  have J : Inv Y [(a, go)] σ H { s with heap := hh, gens := g, drawn := d, toks := t } := by
    refine I1.step (g' := g) (t' := t) (d' := d) (ch := B) (fun b hb => ?_)
      (fun b ob _ _ hc q _ => z3 b ob hc q) (fun b ob _ _ hc q _ => ⟨ob.slots, z3 b ob hc q⟩) (fun _ _ _ _ n => n) (fun b ob hc q => ⟨ob, z3 b ob hc q⟩)
      (fun _ _ q => q) (fun _ _ _ q => q) (fun b ps q => ⟨#[], by rw [q]; simp⟩) (fun m hm => ?_) (fun b u q => ?_) z2
    · refine ⟨.inr (hB.hi b hb), hB.lo b hb, hB.ce b hb, fun p hp => ?_⟩
      rw [hpn] at hp
      have e : p = (a, go) := by simpa using hp
      rw [e]
      intro e2
      have e3 : a = b := e2
      exact hB.na (by rw [e3]; exact hb)
    · obtain ⟨ob, es, ep, ho, r⟩ := hm
      exact ⟨ob, es, ep, z3 _ ob (fun hb => hB.lo _ hb rfl) ho, r⟩
    · refine (I1.hok b u q).stay (fun c v hc y => z3 c v ?_ y) (fun _ y => y) fun _ _ y => y
      rcases hc with y | y
      · rw [y]; exact nt b u q
      · exact nt c _ y
  refine J.pins_of fun p hp' => ?_
  rcases List.mem_cons.mp hp' with e | hp'
  · rw [e]
    exact J.pin (a, go) (List.mem_append_right _ List.mem_cons_self)
  · obtain ⟨h1, h2, h3⟩ := hp p hp'
    exact ⟨h2, hHB _ h1, hB.lo _ h1, hB.sf _ h1, h3⟩

/-! ### the turns -/
/-- what the consumer holds behind ys: Pn; what is wanted at a yield: Kx; where it goes on: Cn; at the end: Fi -/
structure Con where
  B : List Addr
  Pn : List V → List (Addr × Obj) → Prop
  Kx : List V → V → Hp → Prop
  Cn : List V → V → Prop
  Fi : List V → Hp → Prop
structure Con.Ok (C : Con) : Prop where
  pn : ∀ ys pins, C.Pn ys pins → ∀ p ∈ pins, p.1 ∈ C.B ∧ ∀ v, p.2.data ≠ .cell v
  all : ∀ ys pins, C.Pn ys pins → ∀ b ∈ C.B, ∃ o, (b, o) ∈ pins
def YG (Y : Cx) (C : Con) (a : Addr) (go : Obj) (σ0 : L2.St) : Protocol := fun n s₀ v s kap =>
  ∃ ys x pins H, RelV x v ∧ C.Pn ys pins ∧ Inv Y ((a, go) :: pins) σ0 H s ∧ C.Kx ys x H ∧
    (C.Cn ys x → ∀ s', Slp C.B s s' → (∃ pins', C.Pn (ys ++ [x]) pins' ∧ ∀ p ∈ pins', s'.heap.get? p.1 = some p.2) → kap (.send .none) s')
def RG (Y : Cx) (C : Con) (a : Addr) (go : Obj) (σ0 : L2.St) : Nat → Shared → Shared → Prop := fun n s₀ s => ∃ ys pins H, C.Pn ys pins ∧ Inv Y ((a, go) :: pins) σ0 H s ∧ C.Fi ys H
def GSt (Y : Cx) (C : Con) (fp : List Addr) (tn : Nat → Heap → Prop) (a : Addr) (go : Obj) (σ0 : L2.St) (W : Nat → Nat → List V → Hp → Prop) (i m : Nat) (ys : List V) (s : Shared) : Prop :=
  ∃ pins H, C.Pn ys pins ∧ Inv Y ((a, go) :: pins) σ0 H s ∧ tn i s.heap ∧ (∀ b ∈ fp, H b = none) ∧ W i m ys H
/-- the turns' reading -/
def Turns (J : It) (g : TG) (tt : TT) (te : TE) (vs : List Nat) (σ0 : L2.St) (C : Con) (W : Nat → Nat → List V → Hp → Prop) : Prop := ∀ i m ys H, W i m ys H →
  (J.stop i H ∧ C.Fi ys H) ∨ (J.go i H ∧ ∃ Nx : List V → Hp → Prop, (∀ ys' H', Nx ys' H' → ∃ m', m' < m ∧ W (i + 1) m' ys' H') ∧ ∀ x H', J.yld i H x H' → g x σ0 H' fun σ2 H2 => wipe σ2 vs = σ0 ∧ tt σ2 H2 fun b H3 =>
    if b = true then te σ2 H3 fun y H4 => C.Kx ys y H4 ∧ (C.Cn ys y → Nx (ys ++ [y]) H4) else Nx ys H3)

section
variable {Y : Cx} {C : Con} {A0 : Around} {elt tg iter : Expr} {ifs : List Expr} {scope : Scope} {pos : Pos} {it a : Addr} {fp : List Addr} {tn : Nat → Heap → Prop} {go : Obj} {J : It} {g : TG} {tt : TT} {te : TE} {vs : List Nat} {σ0 : L2.St} {W : Nat → Nat → List V → Hp → Prop}
theorem seg_loop (hA : A0.over (.compLoop (.GeneratorExp elt [⟨tg, iter, ifs, 0⟩] scope pos) 0 (.ref it) .none Y.env) [] = Y.A) (hc : Y.calm = true) (hx : ∀ e s, Y.xe e s → False) (hpn : Y.pn = []) (hco : Y.env.scope.isCoroutine = false)
    (CO : C.Ok) (hB : Aprt Y C.B fp a) (hst : ∀ b ∈ fp, b ≠ Y.env.locals ∧ b ∉ Y.fs ∧ (b ∈ Y.ex ∨ Y.s_0.heap.objs.size ≤ b) ∧ ∀ x c, Y.env.cells.lookup x = some c → c ≠ b)
    (T : Turn Y.prog Y.w Y.K tg J fp it tn) (hg : PG Y tg g) (ht : PTs Y ifs tt) (he : PE Y elt te) (turns : Turns J g tt te vs σ0 C W) :
    ∀ (m i n : Nat) (ys : List V) (s₀ s : Shared), m < n → GSt Y C fp tn a go σ0 W i m ys s →
      Seg (model Y.prog Y.w) A0 (fun n s₀ r s₁ => r = .ok .next ∧ RG Y C a go σ0 n s₀ s₁) (YG Y C a go σ0) n s₀
        (.compLoop (.GeneratorExp elt [⟨tg, iter, ifs, 0⟩] scope pos) 0 (.ref it) .none Y.env)
        ((model Y.prog Y.w).den (.compLoop (.GeneratorExp elt [⟨tg, iter, ifs, 0⟩] scope pos) 0 (.ref it) .none Y.env)) [] s := by
  intro m
  induction m using Nat.strongRecOn with
  | ind m ih =>
    intro i n ys s₀ s hmn ⟨pins, H, hP, I, st, fr, w⟩
    have stat : ∀ {H' : Hp}, (∀ b ∈ fp, H' b = none) → ∀ b ∈ fp, FpOk Y ((a, go) :: pins) H' b := fun hn b hb => by
      obtain ⟨h1, h2, h3, h4⟩ := hst b hb
      refine ⟨hn b hb, h1, h2, h3, h4, fun p hp => ?_⟩
      rw [hpn] at hp
      rcases List.mem_cons.mp (show p ∈ (a, go) :: pins from hp) with e | hp
      · rw [e]; intro e2; have e3 : a = b := e2; exact hB.af (by rw [e3]; exact hb)
      · intro e2; exact hB.bf _ (CO.pn _ _ hP p hp).1 (by rw [e2]; exact hb)
    obtain ⟨k, rfl⟩ : ∃ k, n = k + 1 := ⟨n - 1, by omega⟩
    show Seg _ A0 _ _ _ s₀ _ ((compTurn (.GeneratorExp elt [⟨tg, iter, ifs, 0⟩] scope pos) 0 (.ref it) .none Y.env).onRaise (leaving Y.env)) [] s
    rw [compTurn_gen, Sem.onRaise_eq_wrap]
    refine seg_bind_wrap (wpAny_standAt ?_)
    rcases turns i m ys H w with ⟨stop, q⟩ | ⟨go1, Nx, hN, step⟩
    · refine seg_bind_wrap ?_
      rw [hA]
      refine thn (T.done Y rfl rfl rfl hc i _ s σ0 H _ I (stat fr) st stop) fun r s1 ⟨hr, I1⟩ => ?_
      subst hr
      exact seg_end (.ok .next) ⟨rfl, ys, pins, H, hP, I1, q⟩
    · refine seg_bind_wrap ?_
      rw [hA]
      refine thn (T.item Y rfl rfl rfl hc i _ s σ0 H _ I (stat fr) st go1) fun r s1 ⟨u, hr, h1⟩ => ?_
      subst hr
      refine seg_bind_wrap ?_
      rw [hA]
      refine thn h1 fun _ s2 ⟨x, H2, I2, rx, y2, st2, fr2⟩ => ?_
      have I2' := I2.pinned (stat fr2) (T.obj _ _ st2)
      refine seg_bind_wrap ?_
      rw [hA]
      refine wpAny_mono (hg.run _ s2 σ0 H2 x u _ I2' rx (step x H2 y2)) (fun _ s3 ⟨σ3, H3, I3, hw, q3⟩ => ?_) (fun e s' z => (hx e s' z).elim)
      refine seg_bind_wrap ?_
      rw [hA]
      refine wpAny_mono (ht.run _ s3 σ3 H3 _ I3 q3) (fun b s4 ⟨H4, I4, q4⟩ => ?_) (fun e s' z => (hx e s' z).elim)
      have weak : ∀ {H' : Hp} {s' : Shared}, Inv Y ((a, go) :: pins ++ pinsAt fp s2.heap) σ3 H' s' → Inv Y ((a, go) :: pins ++ pinsAt fp s2.heap) σ0 H' s' := fun I' => by
        refine I'.weak (by rw [← hw, wipe_length]) fun j v e => ?_
        rw [← hw] at e
        exact (wipe_some e).1
      have tnk : ∀ {H' : Hp} {s' : Shared}, Inv Y ((a, go) :: pins ++ pinsAt fp s2.heap) σ3 H' s' → tn (i + 1) s'.heap ∧ ∀ b ∈ fp, H' b = none := fun I' => by
        refine ⟨T.keep _ _ _ st2 fun b hb o e => (I'.pin (b, o) (List.mem_append_right _ (List.mem_append_right _ (mem_pinsAt hb e)))).1, fun b hb => ?_⟩
        obtain ⟨o, e, d⟩ := T.obj _ _ st2 b hb
        exact (I'.pin (b, o) (List.mem_append_right _ (List.mem_append_right _ (mem_pinsAt hb e)))).2.1
      cases b with
      | false =>
        rw [if_neg Bool.false_ne_true] at q4
        obtain ⟨m', hm, w'⟩ := hN _ _ q4
        obtain ⟨t4, f4⟩ := tnk I4
        simp only [Bool.false_eq_true, if_false]
        exact seg_again rfl (ih m' hm (i + 1) (k + 1) ys s₀ s4 (by omega) ⟨pins, H4, hP, (weak I4).unpinned, t4, f4, w'⟩)
      | true =>
        rw [if_pos rfl] at q4
        simp only [if_true]
        have hy : ∀ v, yieldOut Y.env v = yieldValue v := fun v => by simp only [yieldOut, hco, Bool.false_eq_true, if_false]
        simp only [hy]
        rw [Sem.bind_eq_wrap', Sem.bind_eq_wrap', Sem.wrap_wrap, Sem.wrap_wrap]
        refine seg_wrap ?_
        rw [hA]
        refine wpAny_mono (he.run _ s4 σ3 H4 _ I4 q4) (fun v s5 ⟨y, H5, I5, ry, kx, nx⟩ => ?_) (fun e s' z => (hx e s' z).elim)
        obtain ⟨t5, f5⟩ := tnk I5
        have I5' := (weak I5).unpinned
        refine seg_at (seg_yield rfl rfl rfl ⟨ys, y, pins, H5, ry, hP, I5', kx, fun cn s6 z ⟨pins', hP', hp'⟩ => ?_⟩)
        obtain ⟨m', hm, w'⟩ := hN _ _ (nx cn)
        have hHB : ∀ b ∈ C.B, H5 b = none := fun b hb => by
          obtain ⟨o, ho⟩ := CO.all _ _ hP b hb
          exact (I5'.pin (b, o) (List.mem_append_right _ (List.mem_cons_of_mem _ ho))).2.1
        have I6 : Inv Y ((a, go) :: pins') σ0 H5 s6 := woken hpn hB I5' hHB z fun p hp => ⟨(CO.pn _ _ hP' p hp).1, hp' p hp, (CO.pn _ _ hP' p hp).2⟩
        refine seg_again rfl (ih m' hm (i + 1) k (ys ++ [y]) s6 s6 (by omega) ⟨pins', H5, hP', I6, T.keep _ _ _ t5 fun b hb o e => z.keep b o (fun hm => hB.bf b hm hb) e, f5, w'⟩)
end
end GX
set_option Elab.async false
set_option linter.all false
set_option maxRecDepth 100000
set_option maxHeartbeats 4000000
namespace GX
open PySem PySem.Spec PyProof.Rows L2 GenW

section
variable {Y : Cx} {C : Con} {A0 : Around} {elt tg iter : Expr} {ifs : List Expr} {scope : Scope} {pos : Pos} {it a : Addr} {fp : List Addr} {tn : Nat → Heap → Prop} {go : Obj} {J : It} {g : TG} {tt : TT} {te : TE} {vs : List Nat} {σ0 : L2.St} {W : Nat → Nat → List V → Hp → Prop}
theorem seg_start (hA : A0.over (.compLoop (.GeneratorExp elt [⟨tg, iter, ifs, 0⟩] scope pos) 0 (.ref it) .none Y.env) [] = Y.A) (hc : Y.calm = true) (hx : ∀ e s, Y.xe e s → False) (hpn : Y.pn = []) (hco : Y.env.scope.isCoroutine = false)
    (CO : C.Ok) (hB : Aprt Y C.B fp a) (hst : ∀ b ∈ fp, b ≠ Y.env.locals ∧ b ∉ Y.fs ∧ (b ∈ Y.ex ∨ Y.s_0.heap.objs.size ≤ b) ∧ ∀ x c, Y.env.cells.lookup x = some c → c ≠ b)
    (T : Turn Y.prog Y.w Y.K tg J fp it tn) (hg : PG Y tg g) (ht : PTs Y ifs tt) (he : PE Y elt te) (turns : Turns J g tt te vs σ0 C W)
    (m i n : Nat) (ys : List V) (s₀ s : Shared) (hmn : m < n) (h : GSt Y C fp tn a go σ0 W i m ys s) :
      Seg (model Y.prog Y.w) A0 (fun n s₀ r s₁ => r = .ok .next ∧ RG Y C a go σ0 n s₀ s₁) (YG Y C a go σ0) n s₀
        (.compStart (.GeneratorExp elt [⟨tg, iter, ifs, 0⟩] scope pos) 0 (.ref it) .none Y.env)
        ((model Y.prog Y.w).den (.compStart (.GeneratorExp elt [⟨tg, iter, ifs, 0⟩] scope pos) 0 (.ref it) .none Y.env)) [] s := by
  have loop := seg_loop (iter := iter) (scope := scope) (pos := pos) hA hc hx hpn hco CO hB hst T hg ht he turns m i n ys s₀ s hmn h
  obtain ⟨pins, H, hP, I, st, fr, w⟩ := h
  show Seg _ A0 _ _ _ s₀ _ ((compStart (.GeneratorExp elt [⟨tg, iter, ifs, 0⟩] scope pos) 0 (.ref it) .none Y.env).onRaise (leaving Y.env)) [] s
  unfold compStart
  rw [Sem.onRaise_eq_wrap]
  show Seg _ A0 _ _ _ s₀ _ ((ask >>= _).wrap _ _ _ _) [] s
  refine seg_bind_wrap (wpAny_askSetting ?_)
  split
  · exact seg_again rfl loop
  · first
      | exact seg_bind_wrap (wpAny_rule (seg_bind_wrap (wpAny_standAt (seg_bind_wrap (T.self _ i s _ _ st (seg_again rfl loop))))))
      | (refine seg_bind_wrap (wpAny_rule ?_); show Seg _ A0 _ _ _ s₀ _ ((standAt iter.pos >>= _).wrap _ _ _ _) [] s; exact seg_bind_wrap (wpAny_standAt (seg_bind_wrap (T.self _ i s _ _ st (seg_again rfl loop)))))
end

/-! ### the generator, as its consumer sees it -/
def Live (Y : Cx) (C : Con) (A0 : Around) (a : Addr) (go : Obj) (σ0 : L2.St) (g n : Nat) (s : Shared) : Prop :=
  s.heap.IsGen a g ∧ s.heap.NoLimit ∧ ∃ gs, s.gens[g]? = some gs ∧ gs.Goes (model Y.prog Y.w) A0 (fun n s₀ r s₁ => r = .ok .next ∧ RG Y C a go σ0 n s₀ s₁) (YG Y C a go σ0) n (.send .none) (s.setGen g .running)
theorem inv_setGen {Y : Cx} {pins : List (Addr × Obj)} {σ : L2.St} {H : Hp} {s : Shared} {g : Nat} {gs : GenState} (I : Inv Y pins σ H s) (hb : gs.bare = true) : Inv Y pins σ H (s.setGen g gs) :=
  ⟨I.ok, I.os, allBare_setGen I.bare hb, I.base, I.loc, I.cell, I.free, I.freeC, I.pin, I.hok, I.len⟩
/-- one next -/
theorem gx_next {Y : Cx} {C : Con} {A : Around} {a : Addr} {go : Obj} {σ0 : L2.St} {g n : Nat} {s : Shared} {Q : Option Value → Shared → Prop} {E : Value → Shared → Prop} (hh : A.handled = none) (hroom : A.depth < recursionLimit)
    (L : Live Y C A.in1 a go σ0 g n s) (hgo : ∀ h : Heap, h.get? a = some go → h.IsGen a g)
    (hY : ∀ ys x v pins H s₁, RelV x v → C.Pn ys pins → Inv Y ((a, go) :: pins) σ0 H s₁ → C.Kx ys x H →
      (C.Cn ys x → ∀ s', Slp C.B s₁ s' → (∃ pins', C.Pn (ys ++ [x]) pins' ∧ ∀ p ∈ pins', s'.heap.get? p.1 = some p.2) → s'.heap.get? a = some go → s'.heap.NoLimit → s'.gens = s₁.gens → ∃ k, n = k + 1 ∧ Live Y C A.in1 a go σ0 g k s') → Q (some v) s₁)
    (hF : ∀ ys pins H s₁, C.Pn ys pins → Inv Y ((a, go) :: pins) σ0 H s₁ → C.Fi ys H → Q none s₁) :
    wpAny (model Y.prog Y.w) A (pyNext (.ref a)) Q E s := by
  obtain ⟨hg, hl, gs, hgs, hgoes⟩ := L
  have hgl : g < s.gens.size := (Array.getElem?_eq_some_iff.mp hgs).1
  refine wpAny_gsz (n := g + 1) hgl (wpAny_pyNext_genexpQ hh hl hroom hg hgs hgoes (fun v s₁ gs' hb hv => ?_) (fun s₁ hp h' hk => ?_))
  · intro hsz
    obtain ⟨ys, x, pins, H, rv, hP, I, kx, kap⟩ := hv
    have hsz1 : g < s₁.gens.size := by
      have q : (s₁.setGen g gs').gens.size = s₁.gens.size := setGen_size _ _ _
      have hsz' : g + 1 ≤ (s₁.setGen g gs').gens.size := hsz
      omega
    refine hY ys x v pins H _ rv hP (inv_setGen I hb) kx fun cn s' z hp ha hl' hgens => ?_
    have z' : Slp C.B s₁ (s'.setGen g .running) := ⟨z.os, allBare_setGen z.bare rfl, fun b o hb e => z.keep b o hb e⟩
    have q := kap cn _ z' hp
    cases n with
    | zero => exact False.elim q
    | succ k => exact ⟨k, rfl, hgo _ ha, hl', gs', by rw [hgens]; exact setGen_at hsz1, q⟩
  · intro _
    obtain ⟨ys, pins, H, hP, I, fi⟩ := hp
    refine hF ys pins H _ hP ?_ fi
    exact (inv_setGen (gs := .finished) (g := g) I rfl).kept (t' := s₁.toks) hk
end GX
set_option Elab.async false
set_option linter.all false
set_option maxRecDepth 100000
set_option maxHeartbeats 4000000
namespace GX
open PySem PySem.Spec PyProof.Rows L2 GenW

/-- a generator expression has been made -/
structure Made (X : Cx) (pins : List (Addr × Obj)) (σ : L2.St) (A0 : Around) (elt tg iter : Expr) (ifs : List Expr) (scope : Scope) (gpos : Pos) (own : List (Str × Nat)) (it a : Addr) (fp : List Addr) (tn : Nat → Heap → Prop) (J : It) (H4 : Hp) (s4 s5 : Shared) (code : Value) (g : Nat) (go : Obj) : Prop where
  outer : Inv X pins σ H4 s4
  inner : Inv (gcx X A0 s4 H4 scope code fp) [(a, go)] (wipe σ (own.map (·.2))) H4 s5
  turn : Turn X.prog X.w X.K tg J fp it tn
  tn0 : tn 0 s5.heap
  fpk : ∀ b ∈ fp, FpOk X pins H4 b ∧ b < s4.heap.objs.size
  alo : s4.heap.objs.size < a
  asz : s5.heap.objs.size = a + 1
  gen : ∀ h : Heap, h.get? a = some go → h.IsGen a g
  gs : s5.gens[g]? = some (.fresh (.compStart (.GeneratorExp elt [⟨tg, iter, ifs, 0⟩] scope gpos) 0 (.ref it) .none (gcx X A0 s4 H4 scope code fp).env))
  ga : s5.heap.get? a = some go

section
variable {X : Cx} {pins : List (Addr × Obj)} {σ : L2.St} {H : Hp} {s : Shared}
theorem gx_make {A0 : Around} {c P : Addr} {elt tg iter : Expr} {ifs : List Expr} {gpos : Pos} {scope : Scope} {own : List (Str × Nat)} {wi : TI} {k : Nat} {R : It → Hp → Prop} {Q' : Value → Shared → Prop}
    (hA0h : A0.handled = none) (hA0f : A0.frames = X.A.frames) (hr : Room k X.A) (TB : GxR.TabB X.base X.mg c P) (hcode : X.env.code = .ref c) (ok : GxOk X.N X.env.scope scope own) (hN : X.N.Nodup) (hi : PI X tg iter wi)
    (hs : ∀ v, genFold iter X.env v = pure v) (I : Inv X pins σ H s) (h : wi σ H fun J H1 => GxR.TabG H1 P ∧ ∀ H2, GxR.Tabbed P H1 H2 → R J H2)
    (hQ : ∀ it a fp tn J H4 s4 s5 code g go, Made X pins σ A0 elt tg iter ifs scope gpos own it a fp tn J H4 s4 s5 code g go → R J H4 → Q' (.ref a) s5) :
    wpAny (model X.prog X.w) X.A (eval (.GeneratorExp elt [⟨tg, iter, ifs, 0⟩] scope gpos) X.env) Q' X.xe s := by
  have hfree : ∀ y ∈ scope.names, y.2 = .free → ∃ c, X.env.cells.lookup y.1 = some c := fun y hy e => by
    rcases ok.blk.free y hy e with k | k
    · exact I.ok.has _ (.inl k)
    · exact I.ok.has _ (.inr k)
  refine wpAny_GeneratorExp_make ok.co (closure_ok hfree) ok.cell ok.dot ok.blk.kind (by have := hr.dp; omega) ?_ hs
  refine thn (hi.run pins s σ H _ I h) fun xv s1 hx => thn hx fun itv s2 h2 => ?_
  obtain ⟨it, fp, tn, J, H2, e, I2, T, st2, f2, ⟨ps, hP, ht⟩, q⟩ := h2
  subst e
  have hPs : s2.heap.get? P = some { cls := .none, data := .fields ps } := I2.hok P _ hP
  have cd : PySem.W.CodeHd s2.heap c P := TB.code.keeps fun b u e => I2.bk b u e
  have sz : ∀ b ∈ fp, b < s2.heap.objs.size := fun b hb => by
    obtain ⟨o, e, _⟩ := T.obj _ _ st2 b hb
    exact Heap.lt_size e
  have fnP : ∀ b ∈ fp, b ≠ P := fun b hb e => by
    have q := (f2 b hb).1
    rw [e, hP] at q
    cases q
  have cont : ∀ (code : Value) (h3 : Heap) (tk : Nat) (ps' : Array Value), Heap.ExtBut P s2.heap h3 → s2.heap.objs.size ≤ h3.objs.size → h3.get? P = some { cls := .none, data := .fields ps' } → (∃ more, ps' = ps ++ more) → TriplesOk ps'.toList →
      wpAny (model X.prog X.w) X.A (builtinsFor X.env.globals X.env.builtins) (fun bi s₄ =>
        ∀ h', h'.Ns s₄.heap.objs.size (fun y => if y = ".0" then some (Value.ref it) else none) → Heap.SameBut s₄.heap.objs.size (s₄.heap.push { cls := .type "frame", data := .dict #[] }) h' →
          Q' (.ref h'.objs.size) { s₄ with
            gens := s₄.gens.push (.fresh (.compStart (.GeneratorExp elt [⟨tg, iter, ifs, 0⟩] scope gpos) 0 (.ref it) .none (genEnv scope (cloFrom X.env.cells scope.names []) s₄.heap.objs.size code bi X.env))),
            toks := s₄.toks + 1 + 1 + 1,
            heap := h'.push { cls := .type "generator", data := .fields #[.int s₄.gens.size 0, .str "<genexpr>" (s₄.toks + 1), .str (X.env.qual ++ "<genexpr>") (s₄.toks + 1 + 1)] } }) X.xe { s2 with heap := h3, toks := tk } := by
    intro code h3 tk ps' hx hsz hP3 hmore ht3
    obtain ⟨more, em⟩ := hmore
    obtain ⟨bm, ob, e1, e2, e3, e4, e5, e6, e7, e8⟩ := TB.bm
    have keep3 : ∀ b u, b ≠ P → s2.heap.get? b = some u → h3.get? b = some u := fun b u hb e => hx b u hb e
    refine wpAny_builtinsFor (m := X.mg) (by rw [I2.ok.glob]; exact (I2.mod.glob.keeps I2.bk).extBut hx TB.gP) e1 e2 (keep3 _ _ e4 (I2.bk _ _ e5)) e6 e7 e8 ?_
    have I4 : Inv X pins σ (upd H2 P (.tbl (ps ++ more))) { s2 with heap := h3, toks := tk } :=
      GxR.inv_tab (more := more) (h' := h3) (g' := s2.gens) (d' := s2.drawn) (t' := tk) I2 hP (fun b u hb e => keep3 b u hb e) (by rw [← em]; exact hP3) I2.bare
    have hT4 : GxR.Tabbed P H2 (upd H2 P (.tbl (ps ++ more))) := ⟨⟨ps ++ more, upd_same, by rw [← em]; exact ht3⟩, fun b hb => upd_ne hb⟩
    have fk : ∀ b ∈ fp, FpOk X pins (upd H2 P (.tbl (ps ++ more))) b ∧ b < h3.objs.size := fun b hb => by
      refine ⟨⟨?_, (f2 b hb).2⟩, Nat.lt_of_lt_of_le (sz b hb) hsz⟩
      rw [upd_ne (fnP b hb)]
      exact (f2 b hb).1
    intro h' hn' hs'
    have hszh : h'.objs.size = h3.objs.size + 1 := by rw [hs'.1, Heap.size_push]
    have keep' : ∀ b o, h3.get? b = some o → h'.get? b = some o := fun b o e => hs'.extBut b o (Nat.ne_of_lt (Heap.lt_size e)) (Heap.get?_push_of_some _ e)
    have keep5 : ∀ b o, h3.get? b = some o → (h'.push { cls := .type "generator", data := .fields #[.int s2.gens.size 0, .str "<genexpr>" (tk + 1), .str (X.env.qual ++ "<genexpr>") (tk + 1 + 1)] }).get? b = some o := fun b o e => Heap.get?_push_of_some _ (keep' b o e)
    have hat : (h'.push { cls := .type "generator", data := .fields #[.int s2.gens.size 0, .str "<genexpr>" (tk + 1), .str (X.env.qual ++ "<genexpr>") (tk + 1 + 1)] }).get? h'.objs.size = some { cls := .type "generator", data := .fields #[.int s2.gens.size 0, .str "<genexpr>" (tk + 1), .str (X.env.qual ++ "<genexpr>") (tk + 1 + 1)] } := Heap.get?_push_size _ rfl
    have IY : Inv (gcx X A0 { s2 with heap := h3, toks := tk } (upd H2 P (.tbl (ps ++ more))) scope code fp) [] (wipe σ (own.map (·.2))) (upd H2 P (.tbl (ps ++ more)))
        { s2 with heap := h'.push { cls := .type "generator", data := .fields #[.int s2.gens.size 0, .str "<genexpr>" (tk + 1), .str (X.env.qual ++ "<genexpr>") (tk + 1 + 1)] }, gens := s2.gens.push (.fresh (.compStart (.GeneratorExp elt [⟨tg, iter, ifs, 0⟩] scope gpos) 0 (.ref it) .none (genEnv scope (cloFrom X.env.cells scope.names []) h3.objs.size code builtinsNs X.env))), toks := tk + 1 + 1 + 1 } :=
      gen_start (s := { s2 with heap := h3, toks := tk }) I4 ok hN fk hA0h (hA0f.trans I2.ok.frames) (hn'.push _) keep5 (I2.bare.push rfl)
    have ano : ∀ b, b < h3.objs.size → h'.objs.size ≠ b := fun b hb => by rw [hszh]; omega
    refine hQ it h'.objs.size fp tn J _ { s2 with heap := h3, toks := tk } _ code s2.gens.size _ ⟨I4, IY.pins_of fun p hp => ?_, T, ?_, fk, ?_, ?_, ?_, Array.getElem?_push_size .., hat⟩ (q _ hT4)
    · rw [List.mem_singleton.mp hp]
      refine ⟨hat, I4.hok.fresh (by show h3.objs.size ≤ h'.objs.size; omega), ?_, fun hb => ?_, fun v z => by cases z⟩
      · show h'.objs.size ≠ h3.objs.size
        omega
      · obtain ⟨_, o, ho, _⟩ := (I4.stack).mem hb
        exact ano _ (Heap.lt_size ho) rfl
    · exact T.keep _ _ _ st2 fun b hb o e => keep5 b o (keep3 b o (fnP b hb) e)
    · show h3.objs.size < h'.objs.size
      omega
    · show (h'.push _).objs.size = h'.objs.size + 1
      rw [Heap.size_push]
    · intro h hh
      exact ⟨_, _, _, hh, rfl, rfl, rfl⟩
  refine ⟨I2.nolimit, ?_⟩
  cases hf : codeAmong gpos ps.toList with
  | none =>
    refine wpAny_genexprCodeX hcode (cd.code hPs ht) (cd.tab hPs) hf fun c' h' tk hx hge hlt hco' _ htab' _ => ?_
    obtain ⟨o1, vs, f1, tf, fl, tg', inF, tx, tt, op, _, _, _, _, _, _, _, _, _, htr, _⟩ := hco'
    exact cont _ h' tk _ hx (Nat.le_trans hge (Nat.le_of_lt hlt)) htab'.2 ⟨_, rfl⟩ htr
  | some cv =>
    refine wpAny_genexprCode_hit hcode (cd.code hPs ht) hf ?_
    exact cont cv s2.heap s2.toks ps (Heap.ExtBut.refl _ _) (Nat.le_refl _) hPs ⟨#[], by simp⟩ ht
end
end GX
set_option Elab.async false
set_option linter.all false
set_option maxRecDepth 100000
set_option maxHeartbeats 4000000
namespace GX
open PySem PySem.Spec PyProof.Rows L2 GenW

theorem over_comp {A : Around} {elt : Expr} {gs : List Comprehension} {scope : Scope} {pos : Pos} {it acc : Value} {env : Env} : A.over (.compLoop (.GeneratorExp elt gs scope pos) 0 it acc env) [] = A.deeper env := by
  first
    | rfl
    | (obtain ⟨hd, d, fr, gs, u⟩ := A; simp [Around.over, Around.deeper, marksOver, frameCount, unitsOf, envsOf, guardsOf, pushEnvs, pushGuards, Code.envs, Code.env?, Code.isFrame, Code.guards, Code.isGuard, Code.weight, Code.frames, Code.isCreation, Code.isCaller, Code.cUnits])

section
variable {X : Cx} {pins : List (Addr × Obj)} {σ : L2.St} {A0 : Around} {elt tg iter : Expr} {ifs : List Expr} {scope : Scope} {gpos : Pos} {own : List (Str × Nat)} {it a : Addr} {fp : List Addr} {tn : Nat → Heap → Prop} {J : It} {H4 : Hp} {s4 s5 : Shared} {code : Value} {g : Nat} {go : Obj}
/-- behind it: the outer frame again -/
theorem Made.back (M : Made X pins σ A0 elt tg iter ifs scope gpos own it a fp tn J H4 s4 s5 code g go) {pl : List (Addr × Obj)} {σ' : L2.St} {H' : Hp} {s' : Shared} (I : Inv (gcx X A0 s4 H4 scope code fp) pl σ' H' s') : Inv X pins σ H' s' := by
  have os : s'.os = s4.os := I.os
  have un : Un (frs X.stack) fp H4 H' s4.heap s'.heap := I.base
  have hok : HOk X.prog X.w H' s'.heap := I.hok
  have bare := I.bare
  obtain ⟨h', g', d', t', o'⟩ := s'
  obtain rfl : o' = s4.os := os
  exact M.outer.call (h' := h') (g' := g') (d' := d') (t' := t') (ch := fp) un hok bare fun b hb => ⟨(M.fpk b hb).1.2.2.2.1, (M.fpk b hb).1.2.1, (M.fpk b hb).1.2.2.2.2.1, (M.fpk b hb).1.2.2.2.2.2⟩
theorem Made.stat (M : Made X pins σ A0 elt tg iter ifs scope gpos own it a fp tn J H4 s4 s5 code g go) : ∀ b ∈ fp, b ≠ (gcx X A0 s4 H4 scope code fp).env.locals ∧ b ∉ (gcx X A0 s4 H4 scope code fp).fs ∧ (b ∈ (gcx X A0 s4 H4 scope code fp).ex ∨ (gcx X A0 s4 H4 scope code fp).s_0.heap.objs.size ≤ b) ∧ ∀ x c, (gcx X A0 s4 H4 scope code fp).env.cells.lookup x = some c → c ≠ b := fun b hb =>
  ⟨(M.inner.ok.exf b hb).1, M.inner.ok.exfs b hb, .inl hb, fun x c e => (M.inner.ok.exf b hb).2 x c e⟩
/-- the consumer's objects: none, or one that is new -/
theorem Made.apart0 (M : Made X pins σ A0 elt tg iter ifs scope gpos own it a fp tn J H4 s4 s5 code g go) : Aprt (gcx X A0 s4 H4 scope code fp) [] fp a :=
  ⟨fun b hb => (by cases hb), fun b hb => (by cases hb), fun b hb => (by cases hb), fun b hb => (by cases hb), fun b hb => (by cases hb), fun hb => (by cases hb), fun hb =>
    absurd (Nat.lt_trans (M.fpk a hb).2 M.alo) (Nat.lt_irrefl _)⟩
theorem Made.apart1 (M : Made X pins σ A0 elt tg iter ifs scope gpos own it a fp tn J H4 s4 s5 code g go) {S : Addr} (hS : a < S) : Aprt (gcx X A0 s4 H4 scope code fp) [S] fp a := by
  have h1 := M.alo
  have big : ∀ b ∈ [S], s5.heap.objs.size ≤ b := fun b hb => by
    rw [List.mem_singleton.mp hb, M.asz]
    exact hS
  have sz5 : s4.heap.objs.size ≤ s5.heap.objs.size := by rw [M.asz]; omega
  refine ⟨fun b hb => Nat.le_trans sz5 (big b hb), fun b hb => ?_, fun b hb x c e z => ?_, fun b hb => M.inner.nofs (big b hb), fun b hb hb2 => ?_, fun hb => ?_, M.apart0.af⟩
  · exact Nat.ne_of_gt (Nat.lt_of_lt_of_le M.inner.lt (big b hb))
  · obtain ⟨v, q⟩ := M.inner.cell x c e
    have q1 := q.lt
    have q2 := big b hb
    rw [z] at q1
    exact absurd (Nat.lt_of_lt_of_le q1 q2) (Nat.lt_irrefl _)
  · exact absurd (Nat.lt_of_lt_of_le (M.fpk b hb2).2 (Nat.le_trans sz5 (big b hb))) (Nat.lt_irrefl _)
  · exact Nat.ne_of_lt hS (List.mem_singleton.mp hb)
/-- the fresh generator, for a consumer whose objects stand in a later state -/
theorem Made.live (M : Made X pins σ A0 elt tg iter ifs scope gpos own it a fp tn J H4 s4 s5 code g go) {C : Con} {g1 : TG} {tt : TT} {te : TE} {W : Nat → Nat → List V → Hp → Prop} {m : Nat} {s6 : Shared} {pins' : List (Addr × Obj)} (CO : C.Ok) (hB : Aprt (gcx X A0 s4 H4 scope code fp) C.B fp a)
    (co : scope.isCoroutine = false)
    (hg : PG (gcx X A0 s4 H4 scope code fp) tg g1) (ht : PTs (gcx X A0 s4 H4 scope code fp) ifs tt) (he : PE (gcx X A0 s4 H4 scope code fp) elt te) (turns : Turns J g1 tt te (own.map (·.2)) (wipe σ (own.map (·.2))) C W) (w0 : W 0 m [] H4)
    (hHB : ∀ b ∈ C.B, H4 b = none) (z : Slp C.B s5 s6) (hP : C.Pn [] pins') (hp : ∀ p ∈ pins', s6.heap.get? p.1 = some p.2) (hgens : s6.gens = s5.gens) (hl : s6.heap.NoLimit) :
    Live (gcx X A0 s4 H4 scope code fp) C A0 a go (wipe σ (own.map (·.2))) g (m + 1) s6 := by
  have ga6 : s6.heap.get? a = some go := z.keep a go hB.na M.ga
  have z' : Slp C.B s5 (s6.setGen g .running) := ⟨z.os, allBare_setGen z.bare rfl, z.keep⟩
  have I6 : Inv (gcx X A0 s4 H4 scope code fp) ((a, go) :: pins') (wipe σ (own.map (·.2))) H4 (s6.setGen g .running) := woken rfl hB M.inner hHB z' fun p hp' => ⟨(CO.pn _ _ hP p hp').1, hp p hp', (CO.pn _ _ hP p hp').2⟩
  refine ⟨M.gen _ ga6, hl, _, (by rw [hgens]; exact M.gs), ?_⟩
  refine ⟨rfl, ?_⟩
  exact seg_start over_comp rfl (fun _ _ z => z) rfl co CO hB M.stat M.turn hg ht he turns m 0 (m + 1) [] _ _ (Nat.lt_succ_self _)
    ⟨pins', H4, hP, I6, M.turn.keep _ _ _ M.tn0 fun b hb o e => z.keep b o (fun hm => hB.bf b hm hb) e, fun b hb => (M.fpk b hb).1.1, w0⟩
end

/-! ### all, any -/
def conAll (Q : VK) : Con := ⟨[], fun _ pins => pins = [], fun _ y H => ∃ c, y = .bl c ∧ (c = false → Q (.bl false) H), fun _ y => y = .bl true, fun _ H => Q (.bl true) H⟩
def conAny (Q : VK) : Con := ⟨[], fun _ pins => pins = [], fun _ y H => ∃ c, y = .bl c ∧ (c = true → Q (.bl true) H), fun _ y => y = .bl false, fun _ H => Q (.bl false) H⟩
theorem ok_all (Q : VK) : (conAll Q).Ok := ⟨fun _ _ h p hp => (by rw [show _ = [] from h] at hp; cases hp), fun _ _ _ b hb => (by cases hb)⟩
theorem ok_any (Q : VK) : (conAny Q).Ok := ⟨fun _ _ h p hp => (by rw [show _ = [] from h] at hp; cases hp), fun _ _ _ b hb => (by cases hb)⟩
theorem all_loop {Y : Cx} {A : Around} {a : Addr} {go : Obj} {σ0 : L2.St} {g : Nat} {Q : VK} {R : Result → Shared → Prop} (hh : A.handled = none) (hd : A.depth < recursionLimit) (hgo : ∀ h : Heap, h.get? a = some go → h.IsGen a g)
    (hR : ∀ b s' H, Inv Y [(a, go)] σ0 H s' → Q (.bl b) H → R (.ok (.ret (.bool b))) s') : ∀ (n : Nat) (s : Shared), Live Y (conAll Q) A.in1.in1 a go σ0 g n s → codeAny (model Y.prog Y.w) A (.builtin "all.loop" ⟨[.ref a], []⟩) R s := by
  intro n
  induction n with
  | zero =>
    intro s L
    refine codeAny_builtin F.entry_all_loop ?_
    rw [Around.under_plainId F.plain_all_loop _]
    show wpAny _ A.in1 (pyNext (.ref a) >>= _) _ _ s
    refine wpAny_bind (gx_next (A := A.in1) hh hd L hgo (fun ys x v pins H s₁ rv hP I kx kap => ?_) fun ys pins H s₁ hP I fi => ?_)
    · obtain ⟨c, rfl, hc⟩ := kx
      obtain rfl : v = .bool c := rv
      obtain rfl : pins = [] := hP
      refine wpAny_bind (wpAny_holding (wpAny_truthy_bool ?_))
      refine wpAny_bind (wpAny_letGo ?_)
      cases c with
      | true =>
        obtain ⟨k, hk, _⟩ := kap rfl s₁ ⟨rfl, I.bare, fun _ _ _ e => e⟩ ⟨[], rfl, fun p hp => (by cases hp)⟩ (I.pin (a, go) (List.mem_append_right _ List.mem_cons_self)).1 I.nolimit rfl
        cases hk
      | false =>
        simp only [Bool.false_eq_true, if_false]
        exact wpAny_bind (wpAny_rule (wpAny_pure (hR false s₁ H I (hc rfl))))
    · obtain rfl : pins = [] := hP
      exact wpAny_bind (wpAny_rule (wpAny_pure (hR true s₁ H I fi)))
  | succ n ih =>
    intro s L
    refine codeAny_builtin F.entry_all_loop ?_
    rw [Around.under_plainId F.plain_all_loop _]
    show wpAny _ A.in1 (pyNext (.ref a) >>= _) _ _ s
    refine wpAny_bind (gx_next (A := A.in1) hh hd L hgo (fun ys x v pins H s₁ rv hP I kx kap => ?_) fun ys pins H s₁ hP I fi => ?_)
    · obtain ⟨c, rfl, hc⟩ := kx
      obtain rfl : v = .bool c := rv
      obtain rfl : pins = [] := hP
      refine wpAny_bind (wpAny_holding (wpAny_truthy_bool ?_))
      refine wpAny_bind (wpAny_letGo ?_)
      cases c with
      | true =>
        obtain ⟨k, hk, L'⟩ := kap rfl s₁ ⟨rfl, I.bare, fun _ _ _ e => e⟩ ⟨[], rfl, fun p hp => (by cases hp)⟩ (I.pin (a, go) (List.mem_append_right _ List.mem_cons_self)).1 I.nolimit rfl
        cases hk
        simp only [if_true]
        exact wpAny_pure ⟨plainId_quiet F.plain_all_loop _, ih s₁ L'⟩
      | false =>
        simp only [Bool.false_eq_true, if_false]
        exact wpAny_bind (wpAny_rule (wpAny_pure (hR false s₁ H I (hc rfl))))
    · obtain rfl : pins = [] := hP
      exact wpAny_bind (wpAny_rule (wpAny_pure (hR true s₁ H I fi)))
theorem any_loop {Y : Cx} {A : Around} {a : Addr} {go : Obj} {σ0 : L2.St} {g : Nat} {Q : VK} {R : Result → Shared → Prop} (hh : A.handled = none) (hd : A.depth < recursionLimit) (hgo : ∀ h : Heap, h.get? a = some go → h.IsGen a g)
    (hR : ∀ b s' H, Inv Y [(a, go)] σ0 H s' → Q (.bl b) H → R (.ok (.ret (.bool b))) s') : ∀ (n : Nat) (s : Shared), Live Y (conAny Q) A.in1.in1 a go σ0 g n s → codeAny (model Y.prog Y.w) A (.builtin "any.loop" ⟨[.ref a], []⟩) R s := by
  intro n
  induction n with
  | zero =>
    intro s L
    refine codeAny_builtin F.entry_any_loop ?_
    rw [Around.under_plainId F.plain_any_loop _]
    show wpAny _ A.in1 (pyNext (.ref a) >>= _) _ _ s
    refine wpAny_bind (gx_next (A := A.in1) hh hd L hgo (fun ys x v pins H s₁ rv hP I kx kap => ?_) fun ys pins H s₁ hP I fi => ?_)
    · obtain ⟨c, rfl, hc⟩ := kx
      obtain rfl : v = .bool c := rv
      obtain rfl : pins = [] := hP
      refine wpAny_bind (wpAny_holding (wpAny_truthy_bool ?_))
      refine wpAny_bind (wpAny_letGo ?_)
      cases c with
      | false =>
        obtain ⟨k, hk, _⟩ := kap rfl s₁ ⟨rfl, I.bare, fun _ _ _ e => e⟩ ⟨[], rfl, fun p hp => (by cases hp)⟩ (I.pin (a, go) (List.mem_append_right _ List.mem_cons_self)).1 I.nolimit rfl
        cases hk
      | true =>
        simp only [if_true]
        exact wpAny_bind (wpAny_rule (wpAny_pure (hR true s₁ H I (hc rfl))))
    · obtain rfl : pins = [] := hP
      exact wpAny_bind (wpAny_rule (wpAny_pure (hR false s₁ H I fi)))
  | succ n ih =>
    intro s L
    refine codeAny_builtin F.entry_any_loop ?_
    rw [Around.under_plainId F.plain_any_loop _]
    show wpAny _ A.in1 (pyNext (.ref a) >>= _) _ _ s
    refine wpAny_bind (gx_next (A := A.in1) hh hd L hgo (fun ys x v pins H s₁ rv hP I kx kap => ?_) fun ys pins H s₁ hP I fi => ?_)
    · obtain ⟨c, rfl, hc⟩ := kx
      obtain rfl : v = .bool c := rv
      obtain rfl : pins = [] := hP
      refine wpAny_bind (wpAny_holding (wpAny_truthy_bool ?_))
      refine wpAny_bind (wpAny_letGo ?_)
      cases c with
      | false =>
        obtain ⟨k, hk, L'⟩ := kap rfl s₁ ⟨rfl, I.bare, fun _ _ _ e => e⟩ ⟨[], rfl, fun p hp => (by cases hp)⟩ (I.pin (a, go) (List.mem_append_right _ List.mem_cons_self)).1 I.nolimit rfl
        cases hk
        simp only [Bool.false_eq_true, if_false]
        exact wpAny_pure ⟨plainId_quiet F.plain_any_loop _, ih s₁ L'⟩
      | true =>
        simp only [if_true]
        exact wpAny_bind (wpAny_rule (wpAny_pure (hR true s₁ H I (hc rfl))))
    · obtain rfl : pins = [] := hP
      exact wpAny_bind (wpAny_rule (wpAny_pure (hR false s₁ H I fi)))

/-- all(elt for tg in iter if ..) -/
def tAllG (P : Addr) (wi : TI) (g : TG) (tt : TT) (te : TE) (vs : List Nat) : TE := fun σ H Q => wi σ H fun J H1 => GxR.TabG H1 P ∧ ∀ H2, GxR.Tabbed P H1 H2 → ∃ W : Nat → Nat → List V → Hp → Prop, (∃ m, W 0 m [] H2) ∧ Turns J g tt te vs (wipe σ vs) (conAll Q) W
def tAnyG (P : Addr) (wi : TI) (g : TG) (tt : TT) (te : TE) (vs : List Nat) : TE := fun σ H Q => wi σ H fun J H1 => GxR.TabG H1 P ∧ ∀ H2, GxR.Tabbed P H1 H2 → ∃ W : Nat → Nat → List V → Hp → Prop, (∃ m, W 0 m [] H2) ∧ Turns J g tt te vs (wipe σ vs) (conAny Q) W
section
variable {X : Cx} {c P : Addr} {elt tg iter : Expr} {ifs : List Expr} {p pos gpos : Pos} {scope : Scope} {own : List (Str × Nat)} {wi : TI} {g : TG} {tt : TT} {te : TE} {k : Nat}
theorem pe_allG (hr : Room k X.A) (hgl : Gl X "all") (hm : X.mg "all" = none) (TB : GxR.TabB X.base X.mg c P) (hcode : X.env.code = .ref c) (ok : GxOk X.N X.env.scope scope own) (hN : X.N.Nodup) (hi : PI X tg iter wi)
    (hg : ∀ (s : Shared) (H : Hp) (code : Value) (fp : List Addr), PG (gcx X X.A.in1.in1 s H scope code fp) tg g) (ht : ∀ (s : Shared) (H : Hp) (code : Value) (fp : List Addr), PTs (gcx X X.A.in1.in1 s H scope code fp) ifs tt)
    (hel : ∀ (s : Shared) (H : Hp) (code : Value) (fp : List Addr), PE (gcx X X.A.in1.in1 s H scope code fp) elt te) (hs : ∀ v, genFold iter X.env v = pure v := by intro _; rfl)
    (he : starEach [.GeneratorExp elt [⟨tg, iter, ifs, 0⟩] scope gpos] X.env = (false, eval (.GeneratorExp elt [⟨tg, iter, ifs, 0⟩] scope gpos) X.env) :: starEach [] X.env := by rfl) :
    PE X (.Call (.Name "all" p) [.GeneratorExp elt [⟨tg, iter, ifs, 0⟩] scope gpos] [] pos) (tAllG P wi g tt te (own.map (·.2))) := by
  refine ⟨fun pins s σ H Q I h => ?_⟩
  refine wpAny_Call_Name_kw (ld_blt I hgl hm (show bootBuiltins "all" = some (.builtin "all") by decide +kernel) ?_)
  refine PyProof.Rows.callWith_builtin1 ?_ he (by rfl)
  rw [he]
  show wpAny _ _ (spliced ((false, eval (.GeneratorExp elt [⟨tg, iter, ifs, 0⟩] scope gpos) X.env) :: backTo pos (starEach [] X.env))) _ _ s
  refine Calls.spliced_cons (gx_make (A0 := X.A.in1.in1) (own := own) (R := fun J H2 => ∃ W : Nat → Nat → List V → Hp → Prop, (∃ m, W 0 m [] H2) ∧ Turns J g tt te (own.map (fun q : Str × Nat => q.2)) (wipe σ (own.map (fun q : Str × Nat => q.2))) (conAll Q) W) hr.hd rfl hr TB hcode ok hN hi hs I h fun it a fp tn J H4 s4 s5 code gn go M q => ?_)
  obtain ⟨W, ⟨m, w0⟩, turns⟩ := q
  refine Calls.spliced_nil ?_
  have L : Live (gcx X X.A.in1.in1 s4 H4 scope code fp) (conAll Q) X.A.in1.in1 a go (wipe σ (own.map (·.2))) gn (m + 1) s5 :=
    M.live (s6 := s5) (pins' := []) (ok_all Q) M.apart0 ok.co (hg s4 H4 code fp) (ht s4 H4 code fp) (hel s4 H4 code fp) turns w0 (fun b hb => (by cases hb)) ⟨rfl, M.inner.bare, fun _ _ _ e => e⟩ rfl (fun p hp => (by cases hp)) rfl M.inner.nolimit
  refine call_function_tree F.kind_all F.plain_all F.entry_all (F.args_all1 _) ?_
  unfold Builtin.«all»
  refine wpAny_bind (m := oneArg "all" _) (wpAny_pure ?_)
  refine wpAny_bind (wpAny_pyIter_gen (M.gen _ M.ga) ?_)
  refine wpAny_pure ⟨plainId_quiet F.plain_all_loop _, all_loop (Y := gcx X X.A.in1.in1 s4 H4 scope code fp) hr.hd hr.depth M.gen (fun b s' H' I' q' => ?_) (m + 1) s5 L⟩
  exact ⟨.bl b, H', M.back I', rfl, q'⟩
theorem pe_anyG (hr : Room k X.A) (hgl : Gl X "any") (hm : X.mg "any" = none) (TB : GxR.TabB X.base X.mg c P) (hcode : X.env.code = .ref c) (ok : GxOk X.N X.env.scope scope own) (hN : X.N.Nodup) (hi : PI X tg iter wi)
    (hg : ∀ (s : Shared) (H : Hp) (code : Value) (fp : List Addr), PG (gcx X X.A.in1.in1 s H scope code fp) tg g) (ht : ∀ (s : Shared) (H : Hp) (code : Value) (fp : List Addr), PTs (gcx X X.A.in1.in1 s H scope code fp) ifs tt)
    (hel : ∀ (s : Shared) (H : Hp) (code : Value) (fp : List Addr), PE (gcx X X.A.in1.in1 s H scope code fp) elt te) (hs : ∀ v, genFold iter X.env v = pure v := by intro _; rfl)
    (he : starEach [.GeneratorExp elt [⟨tg, iter, ifs, 0⟩] scope gpos] X.env = (false, eval (.GeneratorExp elt [⟨tg, iter, ifs, 0⟩] scope gpos) X.env) :: starEach [] X.env := by rfl) :
    PE X (.Call (.Name "any" p) [.GeneratorExp elt [⟨tg, iter, ifs, 0⟩] scope gpos] [] pos) (tAnyG P wi g tt te (own.map (·.2))) := by
  refine ⟨fun pins s σ H Q I h => ?_⟩
  refine wpAny_Call_Name_kw (ld_blt I hgl hm boot_any ?_)
  refine PyProof.Rows.callWith_builtin1 ?_ he (by rfl)
  rw [he]
  show wpAny _ _ (spliced ((false, eval (.GeneratorExp elt [⟨tg, iter, ifs, 0⟩] scope gpos) X.env) :: backTo pos (starEach [] X.env))) _ _ s
  refine Calls.spliced_cons (gx_make (A0 := X.A.in1.in1) (own := own) (R := fun J H2 => ∃ W : Nat → Nat → List V → Hp → Prop, (∃ m, W 0 m [] H2) ∧ Turns J g tt te (own.map (fun q : Str × Nat => q.2)) (wipe σ (own.map (fun q : Str × Nat => q.2))) (conAny Q) W) hr.hd rfl hr TB hcode ok hN hi hs I h fun it a fp tn J H4 s4 s5 code gn go M q => ?_)
  obtain ⟨W, ⟨m, w0⟩, turns⟩ := q
  refine Calls.spliced_nil ?_
  have L : Live (gcx X X.A.in1.in1 s4 H4 scope code fp) (conAny Q) X.A.in1.in1 a go (wipe σ (own.map (·.2))) gn (m + 1) s5 :=
    M.live (s6 := s5) (pins' := []) (ok_any Q) M.apart0 ok.co (hg s4 H4 code fp) (ht s4 H4 code fp) (hel s4 H4 code fp) turns w0 (fun b hb => (by cases hb)) ⟨rfl, M.inner.bare, fun _ _ _ e => e⟩ rfl (fun p hp => (by cases hp)) rfl M.inner.nolimit
  refine call_function_tree F.kind_any F.plain_any F.entry_any (F.args_any1 _) ?_
  unfold Builtin.«any»
  refine wpAny_bind (m := oneArg "any" _) (wpAny_pure ?_)
  refine wpAny_bind (wpAny_pyIter_gen (M.gen _ M.ga) ?_)
  refine wpAny_pure ⟨plainId_quiet F.plain_any_loop _, any_loop (Y := gcx X X.A.in1.in1 s4 H4 scope code fp) hr.hd hr.depth M.gen (fun b s' H' I' q' => ?_) (m + 1) s5 L⟩
  exact ⟨.bl b, H', M.back I', rfl, q'⟩
end
end GX
set_option Elab.async false
set_option linter.all false
set_option maxRecDepth 100000
set_option maxHeartbeats 4000000
namespace GX
open PySem PySem.Spec PyProof.Rows L2 GenW

/-! ### tuple -/
def conTup0 (Q : VK) : Con := ⟨[], fun _ pins => pins = [], fun ys _ _ => ys.length < sizeLine, fun _ _ => True, fun ys H => ys.length ≤ sizeLine ∧ ∀ p, H p = none → Q (.ref p) (upd H p (.tup ys))⟩
def conTup (Q : VK) (S : Addr) : Con := ⟨[S], fun ys pins => ∃ acc c, Vals ys acc.toList ∧ pins = [(S, lstObj acc c)], fun ys _ _ => ys.length < sizeLine, fun _ _ => True, fun ys H => ys.length ≤ sizeLine ∧ ∀ p, H p = none → Q (.ref p) (upd H p (.tup ys))⟩
theorem ok_tup (Q : VK) (S : Addr) : (conTup Q S).Ok := by
  refine ⟨fun ys pins ⟨acc, c, _, e⟩ p hp => ?_, fun ys pins ⟨acc, c, _, e⟩ b hb => ?_⟩
  · subst e
    rw [List.mem_singleton.mp hp]
    exact ⟨List.mem_singleton.mpr rfl, fun v z => by cases z⟩
  · subst e
    rw [List.mem_singleton.mp hb]
    exact ⟨_, List.mem_singleton.mpr rfl⟩
theorem tup_loop {Y : Cx} {A : Around} {a S : Addr} {go : Obj} {σ0 : L2.St} {g : Nat} {Q : VK} {R : Result → Shared → Prop} {res : Value} (hh : A.handled = none) (hd : A.depth < recursionLimit) (hgo : ∀ h : Heap, h.get? a = some go → h.IsGen a g) (hSa : S ≠ a) (hSc : S ≠ cStatics)
    (hR : ∀ ys acc c s' H, Vals ys acc.toList → Inv Y [(a, go), (S, lstObj acc c)] σ0 H s' → ys.length ≤ sizeLine → (∀ p, H p = none → Q (.ref p) (upd H p (.tup ys))) → R (.ok (.ret res)) s') :
    ∀ (n : Nat) (s : Shared), Live Y (conTup Q S) A.in1.in1 a go σ0 g n s → codeAny (model Y.prog Y.w) A (.builtin "list.extend.loop" ⟨[.ref S, .ref a, res], []⟩) R s := by
  intro n
  induction n with
  | zero =>
    intro s L
    refine codeAny_builtin F.entry_extend_loop ?_
    rw [Around.under_plainId F.plain_extend_loop _]
    show wpAny _ A.in1 (pyNext (.ref a) >>= _) _ _ s
    refine wpAny_bind (gx_next (A := A.in1) hh hd L hgo (fun ys x v pins H s₁ rv hP I kx kap => ?_) fun ys pins H s₁ hP I fi => ?_)
    · obtain ⟨acc, c, hv, rfl⟩ := hP
      have hS1 : s₁.heap.get? S = some (lstObj acc c) := (I.pin (S, lstObj acc c) (List.mem_append_right _ (List.mem_cons_of_mem _ List.mem_cons_self))).1
      have ga : s₁.heap.get? a = some go := (I.pin (a, go) (List.mem_append_right _ List.mem_cons_self)).1
      have keep3 : ∀ b o, b ≠ S → s₁.heap.get? b = some o → (s₁.heap.update S (Obj.mapSeq (·.push v))).get? b = some o := fun b o hbS e => (Heap.get?_update_other _ _ (Ne.symm hbS)).trans e
      obtain ⟨k, hk, _⟩ := kap trivial { s₁ with heap := s₁.heap.update S (Obj.mapSeq (·.push v)) } ⟨rfl, I.bare, fun b o hb e => keep3 b o (fun z => hb (by rw [z]; exact List.mem_singleton.mpr rfl)) e⟩
        ⟨_, ⟨acc.push v, _, by rw [Array.toList_push]; exact hv.append (.cons rv .nil), rfl⟩, fun p hp => by rw [List.mem_singleton.mp hp]; exact Heap.get?_update_self _ hS1 rfl⟩ (keep3 a go (Ne.symm hSa) ga)
        (let ⟨mc, hns, hnn⟩ := I.nolimit; ⟨mc, hns.at' fun o e => keep3 _ o (Ne.symm hSc) e, hnn⟩) rfl
      cases hk
    · obtain ⟨acc, c, hv, rfl⟩ := hP
      exact wpAny_pure (hR ys acc c s₁ H hv I fi.1 fi.2)
  | succ n ih =>
    intro s L
    refine codeAny_builtin F.entry_extend_loop ?_
    rw [Around.under_plainId F.plain_extend_loop _]
    show wpAny _ A.in1 (pyNext (.ref a) >>= _) _ _ s
    refine wpAny_bind (gx_next (A := A.in1) hh hd L hgo (fun ys x v pins H s₁ rv hP I kx kap => ?_) fun ys pins H s₁ hP I fi => ?_)
    · obtain ⟨acc, c, hv, rfl⟩ := hP
      have hS1 : s₁.heap.get? S = some (lstObj acc c) := (I.pin (S, lstObj acc c) (List.mem_append_right _ (List.mem_cons_of_mem _ List.mem_cons_self))).1
      have ga : s₁.heap.get? a = some go := (I.pin (a, go) (List.mem_append_right _ List.mem_cons_self)).1
      have keep3 : ∀ b o, b ≠ S → s₁.heap.get? b = some o → (s₁.heap.update S (Obj.mapSeq (·.push v))).get? b = some o := fun b o hbS e => (Heap.get?_update_other _ _ (Ne.symm hbS)).trans e
      have hl : acc.size < sizeLine := by
        have q1 : ys.length = acc.toList.length := hv.length
        have q2 : ys.length < sizeLine := kx
        have q3 : acc.toList.length = acc.size := Array.length_toList ..
        exact Nat.lt_of_le_of_lt (Nat.le_of_eq (q3.symm.trans q1.symm)) q2
      obtain ⟨k, hk, L'⟩ := kap trivial { s₁ with heap := s₁.heap.update S (Obj.mapSeq (·.push v)) } ⟨rfl, I.bare, fun b o hb e => keep3 b o (fun z => hb (by rw [z]; exact List.mem_singleton.mpr rfl)) e⟩
        ⟨_, ⟨acc.push v, _, by rw [Array.toList_push]; exact hv.append (.cons rv .nil), rfl⟩, fun p hp => by rw [List.mem_singleton.mp hp]; exact Heap.get?_update_self _ hS1 rfl⟩ (keep3 a go (Ne.symm hSa) ga)
        (let ⟨mc, hns, hnn⟩ := I.nolimit; ⟨mc, hns.at' fun o e => keep3 _ o (Ne.symm hSc) e, hnn⟩) rfl
      cases hk
      show wpAny _ A.in1 (updateSeq S (·.push v) >>= _) _ _ _
      refine wpAny_bind ?_
      exact wpAny_updateSeq hS1 rfl (wpAny_pure ⟨plainId_quiet F.plain_extend_loop _, ih _ L'⟩) (Nat.le_of_lt hl) (by show (acc.push v).size ≤ sizeLine + 1; rw [Array.size_push]; omega)
    · obtain ⟨acc, c, hv, rfl⟩ := hP
      exact wpAny_pure (hR ys acc c s₁ H hv I fi.1 fi.2)

section
variable {X : Cx} {pins : List (Addr × Obj)} {σ : L2.St} {A : Around} {elt tg iter : Expr} {ifs : List Expr} {scope : Scope} {gpos : Pos} {own : List (Str × Nat)} {it a : Addr} {fp : List Addr} {tn : Nat → Heap → Prop} {J : It} {H4 : Hp} {s4 s5 : Shared} {code : Value} {g : Nat} {go : Obj}
theorem collect_gx {g1 : TG} {tt : TT} {te : TE} {W : Nat → Nat → List V → Hp → Prop} {m : Nat} {Q : VK} {Q' : List Value → Shared → Prop} {E : Value → Shared → Prop} (hh : A.handled = none) (hd : A.depth < recursionLimit)
    (M : Made X pins σ A.in1.in1 elt tg iter ifs scope gpos own it a fp tn J H4 s4 s5 code g go) (co : scope.isCoroutine = false)
    (hg : PG (gcx X A.in1.in1 s4 H4 scope code fp) tg g1) (ht : PTs (gcx X A.in1.in1 s4 H4 scope code fp) ifs tt) (he : PE (gcx X A.in1.in1 s4 H4 scope code fp) elt te) (turns : Turns J g1 tt te (own.map (·.2)) (wipe σ (own.map (·.2))) (conTup0 Q) W) (w0 : W 0 m [] H4)
    (hQ : ∀ (ys : List V) (acc : Array Value) (s' : Shared) (H' : Hp), Vals ys acc.toList → Inv X pins σ H' s' → ys.length ≤ sizeLine → (∀ p, H' p = none → Q (.ref p) (upd H' p (.tup ys))) → Q' acc.toList s') :
    wpAny (model X.prog X.w) A (collect (.ref a)) Q' E s5 := by
  have hSa : s5.heap.objs.size ≠ a := by rw [M.asz]; exact Nat.succ_ne_self _
  have haS : a < s5.heap.objs.size := by rw [M.asz]; exact Nat.lt_succ_self _
  have hl5 : s5.heap.NoLimit := M.inner.nolimit
  have hcl : cStatics < s5.heap.objs.size := let ⟨_, hn, _⟩ := hl5; hn.lt
  unfold collect
  refine wpAny_bind (wpAny_runValue (codeAny_builtin F.entry_proto_collect ?_))
  rw [Around.under_plainId F.plain_proto_collect _]
  show wpAny _ A.in1 (newList [] >>= fun l => again (.builtin "list.__iadd__" ⟨[l, .ref a], []⟩)) _ _ s5
  refine wpAny_bind (wpAny_newObj_type ?_)
  refine wpAny_pure ⟨plainId_quiet F.plain_list_iadd _, codeAny_builtin F.entry_list_iadd ?_⟩
  rw [Around.under_plainId F.plain_list_iadd _]
  have k1 : ∀ b o, s5.heap.get? b = some o → (s5.heap.push { cls := .type "list", data := .seq ([] : List Value).toArray }).get? b = some o := fun b o e => Heap.get?_push_of_some _ e
  have gen1 := M.gen _ (k1 _ _ M.ga)
  show wpAny _ A.in1 (Builtin.List.listExtendWith (.ref s5.heap.objs.size) (.ref a) (.ref s5.heap.objs.size)) _ _ _
  unfold Builtin.List.listExtendWith
  refine wpAny_bind (wpAny_typeOf (Heap.IsGen.typeIs (s := { s5 with heap := _ }) gen1) ?_)
  have h1 : Builtin.List.listSameRef (.ref s5.heap.objs.size) (.ref a) = false := by simp [Builtin.List.listSameRef, hSa]
  have h2 : (Value.type "generator" == Value.type "list") = false := by decide
  have h3 : (Value.type "generator" == Value.type "tuple") = false := by decide
  simp only [h1, h2, h3, Bool.or_false, Bool.false_eq_true, if_false]
  refine wpAny_bind (wpAny_pyIter_gen (s := { s5 with heap := _ }) gen1 ?_)
  refine wpAny_bind (wpAny_holding ?_)
  unfold Builtin.List.listLengthHint
  refine wpAny_bind (wpAny_specialOf (Heap.IsGen.typeIs (s := { s5 with heap := _ }) gen1) F.gen_no_len ?_)
  show wpAny _ A.in1 (specialOf (Value.ref a) (Str.ofString "__length_hint__") >>= _) _ _ _
  refine wpAny_bind (wpAny_specialOf (Heap.IsGen.typeIs (s := { s5 with heap := _ }) gen1) F.gen_no_hint ?_)
  refine wpAny_pure ?_
  show wpAny _ A.in1 (rule "list.extend.makes-room" >>= fun _ => Builtin.List.listTouch (.ref s5.heap.objs.size) >>= fun _ =>
    again (.builtin "list.extend.loop" ⟨[.ref s5.heap.objs.size, .ref a, .ref s5.heap.objs.size], []⟩)) _ _ _
  refine wpAny_bind (wpAny_rule ?_)
  have hS1 : (s5.heap.push { cls := .type "list", data := .seq ([] : List Value).toArray }).get? s5.heap.objs.size = some { cls := .type "list", data := .seq ([] : List Value).toArray } := Heap.get?_push_size _ rfl
  refine wpAny_bind ?_
  show wpAny _ A.in1 (updateSeq s5.heap.objs.size (·.push .none) >>= fun _ => updateSeq s5.heap.objs.size (·.pop)) _ _ _
  refine wpAny_bind (wpAny_updateSeq hS1 rfl ?_)
  have hS2 := Heap.get?_update_self (Obj.mapSeq (·.push Value.none)) hS1 rfl
  refine wpAny_updateSeq hS2 rfl ?_
  have hS3 := Heap.get?_update_self (Obj.mapSeq (·.pop)) hS2 rfl
  have oth : ∀ b o, b ≠ s5.heap.objs.size → s5.heap.get? b = some o →
      (((s5.heap.push { cls := .type "list", data := .seq ([] : List Value).toArray }).update s5.heap.objs.size (Obj.mapSeq (·.push Value.none))).update s5.heap.objs.size (Obj.mapSeq (·.pop))).get? b = some o :=
    fun b o hb e => (Heap.get?_update_other _ _ (Ne.symm hb)).trans ((Heap.get?_update_other _ _ (Ne.symm hb)).trans (k1 b o e))
  have z : Slp (conTup Q s5.heap.objs.size).B s5 { s5 with heap := ((s5.heap.push { cls := .type "list", data := .seq ([] : List Value).toArray }).update s5.heap.objs.size (Obj.mapSeq (·.push Value.none))).update s5.heap.objs.size (Obj.mapSeq (·.pop)) } :=
    ⟨rfl, M.inner.bare, fun b o hb e => oth b o (fun q => hb (by rw [q]; exact List.mem_singleton.mpr rfl)) e⟩
  have L := M.live (C := conTup Q s5.heap.objs.size) (ok_tup Q _) (M.apart1 haS) co hg ht he turns w0 (fun b hb => by rw [List.mem_singleton.mp hb]; exact M.inner.hok.fresh (Nat.le_refl _)) z
    (pins' := [(s5.heap.objs.size, lstObj #[] _)]) ⟨#[], _, .nil, rfl⟩ (fun p hp => by rw [List.mem_singleton.mp hp]; exact hS3) rfl
    (let ⟨mc, hns, hnn⟩ := hl5; ⟨mc, hns.at' fun o e => oth _ o (Nat.ne_of_lt hcl) e, hnn⟩)
  refine wpAny_pure ⟨plainId_quiet F.plain_extend_loop _, tup_loop (Y := gcx X A.in1.in1 s4 H4 scope code fp) hh hd M.gen hSa (Nat.ne_of_gt hcl) (fun ys acc c s' H' hv I' hle q => ?_) (m + 1) _ L⟩
  have hS' : s'.heap.get? s5.heap.objs.size = some (lstObj acc c) := (I'.pin (s5.heap.objs.size, lstObj acc c) (List.mem_append_right _ (List.mem_cons_of_mem _ List.mem_cons_self))).1
  show wpAny _ A (load s5.heap.objs.size >>= _) _ _ s'
  refine wpAny_bind (wpAny_load hS' ?_)
  exact wpAny_pure (hQ ys acc s' H' hv (M.back I') hle q)
theorem call_tuple_gx {g1 : TG} {tt : TT} {te : TE} {W : Nat → Nat → List V → Hp → Prop} {m : Nat} {Q : VK} {E : Value → Shared → Prop} (hh : A.handled = none) (hd : A.depth < recursionLimit)
    (M : Made X pins σ A.in4 elt tg iter ifs scope gpos own it a fp tn J H4 s4 s5 code g go) (co : scope.isCoroutine = false)
    (hg : PG (gcx X A.in4 s4 H4 scope code fp) tg g1) (ht : PTs (gcx X A.in4 s4 H4 scope code fp) ifs tt) (he : PE (gcx X A.in4 s4 H4 scope code fp) elt te) (turns : Turns J g1 tt te (own.map (·.2)) (wipe σ (own.map (·.2))) (conTup0 Q) W) (w0 : W 0 m [] H4) :
    wpAny (model X.prog X.w) A (call (.type "tuple") [.ref a]) (EP X pins σ Q) E s5 := by
  have new : codeAny (model X.prog X.w) A.in1 (.call (.builtin "tuple.__new__") ⟨[.type "tuple", .ref a], []⟩) (wants (fun obj s₁ => s₁.TypeIs obj "tuple" ∧ EP X pins σ Q obj s₁) E) s5 := by
    refine codeAny_of_tree ?_
    show wpAny _ A.in1.in1 (do checkBuiltinCall "tuple.__new__" ⟨[.type "tuple", .ref a], []⟩; again (.builtin "tuple.__new__" ⟨[.type "tuple", .ref a], []⟩)) _ _ s5
    refine wpAny_bind (wpAny_of_eq (F.newCall_tuple_1 _) (wpAny_pure ⟨plainId_quiet F.plain_tuple_new _, codeAny_builtin F.entry_tuple_new ?_⟩))
    rw [Around.under_plainId F.plain_tuple_new _]
    have hsub := sub_tuple_self
    have hinit := init_tuple_lookup
    have hmh := madeHere_tuple
    have hTI : s5.TypeIs (.ref a) "generator" := Heap.IsGen.typeIs (M.gen _ M.ga)
    wp_walk using wpAny_typeOf hTI, collect_gx (A := A.in1.in1) hh hd M co hg ht he turns w0
    intro ys acc s' H' hv I' hle q
    show wpAny _ _ (Builtin.Tuple.tupleExact acc.toList.toArray >>= fun v => ret v) _ _ _
    unfold Builtin.Tuple.tupleExact
    have hlen := hv.length
    refine wpAny_bind (wpAny_newObj_type ?_ (by show acc.toList.toArray.size ≤ sizeLine; rw [List.size_toArray]; omega))
    refine wpAny_pure ?_
    have hf : H' s'.heap.objs.size = none := I'.hok.fresh (Nat.le_refl _)
    refine ⟨⟨_, Heap.get?_push_size _ rfl, rfl⟩, .ref s'.heap.objs.size, upd H' s'.heap.objs.size (.tup ys), I'.laid (t' := s'.toks) (fun b u e => Heap.get?_push_of_some _ e) (Nat.le_refl _) ?_, rfl, q _ hf⟩
    exact ⟨hle, acc.toList, hv, ⟨_, Heap.get?_push_size _ rfl, rfl, _, rfl⟩⟩
  refine callType_codes (Q₁ := fun obj s₁ => s₁.TypeIs obj "tuple" ∧ EP X pins σ Q obj s₁) F.called_tuple (F.typeCall_tuple_1 _) F.entry_object_init new fun obj s₁ h₁ => ?_
  exact ⟨h₁.1, F.args_object_init_2 obj _, object_init_meets F.called_tuple.init.lookup F.called_tuple.made (by decide) X.prog X.w A.in1 _ s₁ ⟨h₁.1, rfl, h₁.2⟩⟩
end

/-- tuple(elt for tg in iter if ..) -/
def tTupG (P : Addr) (wi : TI) (g : TG) (tt : TT) (te : TE) (vs : List Nat) : TE := fun σ H Q => wi σ H fun J H1 => GxR.TabG H1 P ∧ ∀ H2, GxR.Tabbed P H1 H2 → ∃ W : Nat → Nat → List V → Hp → Prop, (∃ m, W 0 m [] H2) ∧ Turns J g tt te vs (wipe σ vs) (conTup0 Q) W
section
variable {X : Cx} {c P : Addr} {elt tg iter : Expr} {ifs : List Expr} {p pos gpos : Pos} {scope : Scope} {own : List (Str × Nat)} {wi : TI} {g : TG} {tt : TT} {te : TE} {k : Nat}
theorem pe_tupG (hr : Room k X.A) (hgl : Gl X "tuple") (hm : X.mg "tuple" = none) (TB : GxR.TabB X.base X.mg c P) (hcode : X.env.code = .ref c) (ok : GxOk X.N X.env.scope scope own) (hN : X.N.Nodup) (hi : PI X tg iter wi)
    (hg : ∀ (s : Shared) (H : Hp) (code : Value) (fp : List Addr), PG (gcx X X.A.in4 s H scope code fp) tg g) (ht : ∀ (s : Shared) (H : Hp) (code : Value) (fp : List Addr), PTs (gcx X X.A.in4 s H scope code fp) ifs tt)
    (hel : ∀ (s : Shared) (H : Hp) (code : Value) (fp : List Addr), PE (gcx X X.A.in4 s H scope code fp) elt te) (hs : ∀ v, genFold iter X.env v = pure v := by intro _; rfl)
    (he : starEach [.GeneratorExp elt [⟨tg, iter, ifs, 0⟩] scope gpos] X.env = (false, eval (.GeneratorExp elt [⟨tg, iter, ifs, 0⟩] scope gpos) X.env) :: starEach [] X.env := by rfl) :
    PE X (.Call (.Name "tuple" p) [.GeneratorExp elt [⟨tg, iter, ifs, 0⟩] scope gpos] [] pos) (tTupG P wi g tt te (own.map (·.2))) := by
  refine ⟨fun pins s σ H Q I h => ?_⟩
  refine wpAny_Call_Name_kw (ld_blt I hgl hm (show bootBuiltins "tuple" = some (.type "tuple") by decide +kernel) ?_)
  refine PyProof.Rows.callWith_type1 ?_ he (by rfl)
  rw [he]
  show wpAny _ _ (spliced ((false, eval (.GeneratorExp elt [⟨tg, iter, ifs, 0⟩] scope gpos) X.env) :: backTo pos (starEach [] X.env))) _ _ s
  refine Calls.spliced_cons (gx_make (A0 := X.A.in4) (own := own) (R := fun J H2 => ∃ W : Nat → Nat → List V → Hp → Prop, (∃ m, W 0 m [] H2) ∧ Turns J g tt te (own.map (fun q : Str × Nat => q.2)) (wipe σ (own.map (fun q : Str × Nat => q.2))) (conTup0 Q) W) hr.hd rfl hr TB hcode ok hN hi hs I h fun it a fp tn J H4 s4 s5 code gn go M q => ?_)
  obtain ⟨W, ⟨m, w0⟩, turns⟩ := q
  refine Calls.spliced_nil ?_
  exact call_tuple_gx hr.hd hr.depth M ok.co (hg s4 H4 code fp) (ht s4 H4 code fp) (hel s4 H4 code fp) turns w0
end

/-! ### room, scopes, turns -/
theorem Room.gx2 {k : Nat} {X : Cx} (r : Room (k + 1) X.A) {s : Shared} {H : Hp} {scope : Scope} {code : Value} {fp : List Addr} : Room k (gcx X X.A.in1.in1 s H scope code fp).A :=
  ⟨r.hd, by have := r.dp; show X.A.depth + 1 + 3 * k + 5 < _; omega, by have := r.un; show X.A.units + 1 + 1 + 3 + 16 * k + 200 < _; omega⟩
theorem Room.gx4 {k : Nat} {X : Cx} (r : Room (k + 1) X.A) {s : Shared} {H : Hp} {scope : Scope} {code : Value} {fp : List Addr} : Room k (gcx X X.A.in4 s H scope code fp).A :=
  ⟨r.hd, by have := r.dp; show X.A.depth + 1 + 3 * k + 5 < _; omega, by have := r.un; show X.A.units + 1 + 1 + 1 + 1 + 3 + 16 * k + 200 < _; omega⟩
def gxC (N : List Str) (sc scope : Scope) (own : List (Str × Nat)) : Bool :=
  blkC N sc scope own && !scope.isCoroutine && scope.names.all (fun y => match y.2 with | .cell => false | _ => true) && (match scope.names.lookup (".0" : Str) with | some .local => true | _ => false)
theorem gxOk_by {N : List Str} {sc scope : Scope} {own : List (Str × Nat)} (h : gxC N sc scope own = true) : GxOk N sc scope own := by
  unfold gxC at h
  simp only [Bool.and_eq_true] at h
  obtain ⟨⟨⟨h1, h2⟩, h3⟩, h4⟩ := h
  refine ⟨blkOk_by h1, by simpa using h2, fun y hy e => ?_, ?_⟩
  · have q := List.all_eq_true.mp h3 y hy
    rw [e] at q
    cases q
  · split at h4
    · assumption
    · cases h4
/-- the turns over a walk of n: Pv by the turn, what is out, the heap -/
theorem turns_it {J : It} {n : Nat} {G : Hp → Prop} {Yd : Nat → Hp → V → Hp → Prop} (w : Walk J n G Yd) {g : TG} {tt : TT} {te : TE} {vs : List Nat} {σ0 : L2.St} {C : Con} {H : Hp} (Pv : Nat → List V → Hp → Prop) (h0 : Pv 0 [] H) (hG : ∀ i ys H, i ≤ n → Pv i ys H → G H)
    (hs : ∀ i x ys H H', i < n → Pv i ys H → Yd i H x H' → g x σ0 H' fun σ2 H2 => wipe σ2 vs = σ0 ∧ tt σ2 H2 fun b H3 =>
      if b = true then te σ2 H3 fun y H4 => C.Kx ys y H4 ∧ (C.Cn ys y → Pv (i + 1) (ys ++ [y]) H4) else Pv (i + 1) ys H3) (hd : ∀ ys H, Pv n ys H → C.Fi ys H) :
    ∃ W : Nat → Nat → List V → Hp → Prop, (∃ m, W 0 m [] H) ∧ Turns J g tt te vs σ0 C W := by
  refine ⟨fun i m ys H => m = n - i ∧ i ≤ n ∧ Pv i ys H, ⟨n, by simp, Nat.zero_le _, h0⟩, ?_⟩
  rintro i m ys H ⟨rfl, hi, p⟩
  have q := hG i ys H hi p
  by_cases hlt : i < n
  · exact .inr ⟨w.goes i H hlt q, Pv (i + 1), fun ys' H' p' => ⟨n - (i + 1), by omega, rfl, hlt, p'⟩, fun x H' y => hs i x ys H H' hlt p (w.yields i H x H' hlt q y)⟩
  · have e : i = n := by omega
    subst e
    exact .inl ⟨w.stops H q, hd ys H p⟩
end GX
set_option Elab.async false
set_option linter.all false
set_option maxRecDepth 100000
set_option maxHeartbeats 4000000
namespace GX
open PySem PySem.Spec PyProof.Rows L2
open C8 (Cal pe_c)

/-! ### a def of the text with its code object -/
structure Dfn (K : PySem.W.Frag) (mg : Str → Option Value) (x : Str) (st : Stmt) (f c : Addr) : Prop where
  ex : ∃ (oc : Value) (od : Option Addr) (kV doc pm : Value) (an : Option Addr) (ct : Value) (osl : Array (Option Value)),
    K.lookup f = some ⟨oc, od, .func (PySem.W.fnOf x x (defArgs st) (defBody st) (defScope st) .none kV doc pm an (.ref c) ct), osl⟩
  hcd : PySem.W.codeIn K (.ref c) x = true
  kp : PySem.W.keepIn K (.ref f) = true
  mgf : mg x = some (.ref f)
section
variable {P : Program} {w : World} {K : PySem.W.Frag} {mg : Str → Option Value} {base : Heap}
theorem cal {x : Str} {st : Stmt} {f c : Addr} {N ps : List Str} {k : Nat} {sp : Sp} (D : Dfn K mg x st f c)
    (hb : ∀ (kV doc pm : Value) (an : Option Addr) (cdv ct : Value) (us : List Value), us.length = ps.length → bindArgs (PySem.W.fnOf x x (defArgs st) (defBody st) (defScope st) .none kV doc pm an cdv ct) ⟨us, []⟩ = pure (ps.zip us))
    (S : FnScope N ps (defScope st)) (len : ∀ vs H Q E, sp vs H Q E → vs.length = ps.length)
    (hbody : ∀ (A : Around) (outer : List Env) (s : Shared) (H : Hp) (vs : List V) (Q : VK) (E : XK), Room k (A.deeper (envOfC x (defScope st) s.heap.objs.size f (.ref c))) → sp vs H Q E →
      ∃ t, PSs (cxOf CX0 P w K mg base N x (defScope st) f (.ref c) A outer s H E).nox (defBody st) t ∧ t { nx := fun _ H' => Q .non H', rt := Q } (start N vs) H) : Cal P w K mg base (k + 1) x sp [] := by
  obtain ⟨oc, od, kV, doc, pm, an, ct, osl, lk⟩ := D.ex
  refine ⟨f, _, ps, [], fn_of lk D.hcd S len (fun A outer s H vs Q E hr hsp => ?_), D.mgf, D.kp, .all (hb kV doc pm an (.ref c) ct), .nil⟩
  obtain ⟨t, h, q⟩ := hbody A outer s H vs Q E hr hsp
  exact ⟨t, h.nox, q⟩
end

section
variable {P : Program} {w : World} {K : PySem.W.Frag} {mg : Str → Option Value} {base : Heap}
/-- .. for the law itself -/
theorem fnok {x : Str} {st : Stmt} {f c : Addr} {N ps : List Str} {k : Nat} {sp : Sp} {oc kV doc pm ct : Value} {od an : Option Addr} {osl : Array (Option Value)}
    (lk : K.lookup f = some ⟨oc, od, .func (PySem.W.fnOf x x (defArgs st) (defBody st) (defScope st) .none kV doc pm an (.ref c) ct), osl⟩) (hcd : PySem.W.codeIn K (.ref c) x = true)
    (S : FnScope N ps (defScope st)) (len : ∀ vs H Q E, sp vs H Q E → vs.length = ps.length)
    (hbody : ∀ (A : Around) (outer : List Env) (s : Shared) (H : Hp) (vs : List V) (Q : VK) (E : XK), Room k (A.deeper (envOfC x (defScope st) s.heap.objs.size f (.ref c))) → sp vs H Q E →
      ∃ t, PSs (cxOf CX0 P w K mg base N x (defScope st) f (.ref c) A outer s H E).nox (defBody st) t ∧ t { nx := fun _ H' => Q .non H', rt := Q } (start N vs) H) :
    FnOk P w K mg base CX0 (k + 1) f (PySem.W.fnOf x x (defArgs st) (defBody st) (defScope st) .none kV doc pm an (.ref c) ct) ps sp := by
  refine fn_of lk hcd S len (fun A outer s H vs Q E hr hsp => ?_)
  obtain ⟨t, h, q⟩ := hbody A outer s H vs Q E hr hsp
  exact ⟨t, h.nox, q⟩
end

/-! ### heaps: all but X stands -/
def Keep (X : List Addr) (H H' : Hp) : Prop := ∀ b o, H b = some o → b ∉ X → H' b = some o
theorem Keep.refl {X : List Addr} {H : Hp} : Keep X H H := fun _ _ e _ => e
theorem Keep.trans {X : List Addr} {H H1 H2 : Hp} (a : Keep X H H1) (b : Keep X H1 H2) : Keep X H H2 := fun c o e n => b c o (a c o e n) n
theorem Keep.mono {X Y : List Addr} {H H' : Hp} (a : Keep X H H') (h : ∀ b ∈ X, b ∈ Y) : Keep Y H H' := fun c o e n => a c o e fun z => n (h c z)
theorem Keep.new {X : List Addr} {H : Hp} {p : Addr} {o : HO} (n : H p = none) : Keep X H (upd H p o) := fun b u e _ => by rw [upd_ne (ne_of_none e n)]; exact e
theorem Keep.put {X : List Addr} {H : Hp} {p : Addr} {o : HO} (h : p ∈ X) : Keep X H (upd H p o) := fun b u e n => by rw [upd_ne (fun z => n (by rw [z]; exact h))]; exact e
/-- the tables of the defs that hold generator expressions -/
def Tabs (Ts : List Addr) (H : Hp) : Prop := ∀ P ∈ Ts, GxR.TabG H P
theorem Tabs.nott {Ts : List Addr} {H : Hp} (t : Tabs Ts H) {b : Addr} {o : HO} (e : H b = some o) (h : ∀ ps, o ≠ .tbl ps) : b ∉ Ts := fun z => by
  obtain ⟨ps, q, _⟩ := t b z
  rw [e] at q
  exact h ps (Option.some.inj q)
theorem Tabs.none {Ts : List Addr} {H : Hp} (t : Tabs Ts H) {b : Addr} (e : H b = none) : b ∉ Ts := fun z => by
  obtain ⟨ps, q, _⟩ := t b z
  rw [e] at q
  cases q
theorem Tabs.tup {Ts : List Addr} {H : Hp} (t : Tabs Ts H) {b : Addr} {xs : List V} (e : H b = some (.tup xs)) : b ∉ Ts := t.nott e fun _ z => by cases z
theorem Tabs.lst {Ts : List Addr} {H : Hp} (t : Tabs Ts H) {b : Addr} {xs : List V} (e : H b = some (.lst xs)) : b ∉ Ts := t.nott e fun _ z => by cases z
theorem Tabs.upd {Ts : List Addr} {H : Hp} (t : Tabs Ts H) {p : Addr} {o : HO} (h : p ∉ Ts) : Tabs Ts (L2.upd H p o) := fun b hb => by
  obtain ⟨ps, q, r⟩ := t b hb
  exact ⟨ps, by rw [upd_ne (fun z => h (by rw [← z]; exact hb))]; exact q, r⟩
/-- behind a generator expression: its table may have grown -/
theorem Tabs.tabbed {Ts : List Addr} {H H' : Hp} {P : Addr} (t : Tabs Ts H) (h : GxR.Tabbed P H H') : Tabs Ts H' := fun b hb => by
  by_cases e : b = P
  · rw [e]; exact h.1
  · obtain ⟨ps, q, r⟩ := t b hb
    exact ⟨ps, by rw [h.2 b e]; exact q, r⟩
theorem Keep.tabbed {X : List Addr} {H H' : Hp} {P : Addr} (hP : P ∈ X) (h : GxR.Tabbed P H H') : Keep X H H' := fun b o e n => by rw [h.2 b (fun z => n (by rw [z]; exact hP))]; exact e
/-- what a def that reads and makes leaves: the tables may have grown -/
structure Aft (Ts : List Addr) (H H' : Hp) : Prop where
  kp : Keep Ts H H'
  tb : Tabs Ts H'
theorem Aft.trans {Ts : List Addr} {H H1 H2 : Hp} (a : Aft Ts H H1) (b : Aft Ts H1 H2) : Aft Ts H H2 := ⟨a.kp.trans b.kp, b.tb⟩
theorem Aft.refl {Ts : List Addr} {H : Hp} (t : Tabs Ts H) : Aft Ts H H := ⟨Keep.refl, t⟩
theorem Aft.new {Ts : List Addr} {H : Hp} {p : Addr} {o : HO} (t : Tabs Ts H) (n : H p = Option.none) : Aft Ts H (L2.upd H p o) := ⟨Keep.new n, t.upd (t.none n)⟩
theorem Aft.tup {Ts : List Addr} {H H' : Hp} (a : Aft Ts H H') (t : Tabs Ts H) {b : Addr} {xs : List V} (e : H b = some (.tup xs)) : H' b = some (.tup xs) := a.kp b _ e (t.tup e)
theorem Aft.lst {Ts : List Addr} {H H' : Hp} (a : Aft Ts H H') (t : Tabs Ts H) {b : Addr} {xs : List V} (e : H b = some (.lst xs)) : H' b = some (.lst xs) := a.kp b _ e (t.lst e)

/-! ### the law's end with the tables of its defs -/
def TabOf (K : PySem.W.Frag) (mg : Str → Option Value) (h : Heap) (x : Str) : Prop := ∀ (fa c P : Addr) (o : Obj) (fd : FuncData) (e : Value) (dd : Option Addr) (vs : Array Value) (sl : Array (Option Value)),
  mg x = some (.ref fa) → K.lookup fa = some o → o.data = .func fd → fd.code = .ref c → K.lookup c = some ⟨e, dd, .fields vs, sl⟩ → vs[11]? = some (.ref P) → h.get? P = some { cls := .none, data := .fields #[] }
theorem walk_defs {l : PySem.W.OpenLaw} {n k : Nat} {q : Program} {loose : List Str} {XP : (Str → Option Value) → Heap → Prop} {YP : World → Heap → Prop} {d : DefRec} {K : Params → PySem.W.Frag} {CX : World → CXT} {x : Str}
    (hn : l.most = some n) (hn2 : n ≤ sizeLine) (hdf : d.params.defaults = []) (hr : Room k callerA) (hY : ∀ (w : World) (h : Heap), YP w h → (K w.params).In h)
    (F : ∀ (w : World) (mg : Str → Option Value) (fa : Addr) (h : Heap), YP w h → (K w.params).In h → h.Ns mainGlobals mg → mg d.name = some (.ref fa) → (∀ y : Str, ((recsOf q).any fun e => e.name == y) = true → TabOf (K w.params) mg h y) → LamX.LawAtS l w (K w.params) (CX w) k n x mg fa h)
    (hCX : ∀ (w : World) (H : Hp) (s : Shared) (e : Value) (s' : Shared), CX w [] H s (fun _ _ _ => False) e s' → False) :
    PySem.W.WalkO q loose XP YP l.row.toRowW d [] (fun f vs => PySem.call f vs) := by
  refine Att.attach_callB hn hdf fun w s₀ s₁ mg mb fa o pm cd doc a vs ns G Y ho hd hcd hmg hobj hints hlen hbits hg => ?_
  have KX := hY w _ Y
  have own : ∀ y : Str, ((recsOf q).any fun e => e.name == y) = true → TabOf (K w.params) mg s₁.heap y := fun y hrec fa c P o1 fd1 e dd vs1 sl k0 k1 k2 k3 k4 k5 => by
    obtain ⟨dL, hm, hn1⟩ := List.any_eq_true.mp hrec
    have hn2 : dL.name = y := beq_iff_eq.mp hn1
    obtain ⟨a', o', fd', c', P', h1, h2, h3, h4, h5, h6⟩ := G.T.tab dL hm
    rw [hn2, k0] at h1
    cases h1
    have g1 := KX _ _ k1
    rw [g1] at h2
    cases h2
    rw [k2] at h3
    cases h3
    rw [k3] at h4
    cases h4
    obtain ⟨⟨oc, vc, e1, _, e3, e4⟩, hP⟩ := h6
    have g2 := KX _ _ k4
    rw [g2] at e1
    cases e1
    cases e3
    rw [k5] at e4
    cases e4
    exact hP
  obtain ⟨fd, cs, sp, hT, nT, C, hb, hsp, hF⟩ := F w mg fa _ Y KX G.T.g hmg own
  exact LamX.law_callTs KX G.T.g G.T.b G.T.builtins G.T.nolimit hg hT nT C G.T.bmain hobj hints (Nat.le_trans hlen hn2) hr hF hb (fun H hH hS => hsp H a ns hlen hbits hH hS) fun H e s' => hCX w H s₁ e s'
theorem codeHd_of {K : PySem.W.Frag} {h : Heap} (X : K.In h) {c P : Addr} {dd : Option Addr} {vs : Array Value} {sl : Array (Option Value)} {file : Str} {tf tg tt : Tok} {flags text : Int} {inF : Bool} (lc : K.lookup c = some ⟨.type "code", dd, .fields vs, sl⟩)
    (e : vs[11]? = some (.ref P) ∧ vs.getD 11 .none = .ref P ∧ vs.getD 18 .none = .str file tf ∧ vs.getD 7 .none = .int flags tg ∧ vs.getD 9 .none = .bool inF ∧ vs.getD 10 .none = .int text tt ∧ c ≠ P) : PySem.W.CodeHd h c P :=
  ⟨_, vs, file, tf, flags, tg, inF, text, tt, X c _ lc, rfl, rfl, e.1, e.2.1, e.2.2.1, e.2.2.2.1, e.2.2.2.2.1, e.2.2.2.2.2.1, e.2.2.2.2.2.2⟩
theorem tabB_of {base : Heap} {mg : Str → Option Value} {c P : Addr} (t : LamX.TabB base mg c P) : GxR.TabB base mg c P := ⟨t.code, t.bm, t.gP⟩

/-! ### small things -/
theorem small (n : Nat) (h : n ≤ 100000 := by decide) : n ≤ sizeLine := Nat.le_trans h (by decide)
theorem at0 {a : V} {r : List V} : atI (a :: r) 0 = some a := atI_nat (j := 0) rfl
theorem at1 {a b : V} {r : List V} : atI (a :: b :: r) 1 = some b := atI_nat (j := 1) rfl
theorem at2 {a b c : V} {r : List V} : atI (a :: b :: c :: r) 2 = some c := atI_nat (j := 2) rfl
theorem sq_keep {K : PySem.W.Frag} {H H' : Hp} {a W : Addr} {xs : List V} {Ts : List Addr} (h : SqL K H a xs) (t : Tabs Ts H) (k : Keep (W :: Ts) H H') (nW : H W = none) : SqL K H' a xs := by
  have nn : ∀ o, H a = some o → (∀ ps, o ≠ .tbl ps) → a ∉ W :: Ts := fun o e hn z => by
    rcases List.mem_cons.mp z with z | z
    · rw [z, nW] at e
      cases e
    · exact t.nott e hn z
  rcases h with (h | ⟨o, h⟩) | h
  · exact .inl (.inl (k _ _ h (nn _ h fun _ z => by cases z)))
  · exact .inl (.inr ⟨o, k _ _ h (nn _ h fun _ z => by cases z)⟩)
  · exact .inr h
end GX
set_option Elab.async false
set_option linter.all false
set_option maxRecDepth 100000
set_option maxHeartbeats 4000000
/-! Nets as data, and how they stand in the heap. -/
namespace GX
open PySem PySem.Spec PyProof.Rows L2
structure Net where
  many : Nat
  gates : List (Nat × Nat × Nat)
  outs : List Nat
def gateOk (many i : Nat) (g : Nat × Nat × Nat) : Prop := g.1 < 16 ∧ g.2.1 < many + i ∧ g.2.2 < many + i
structure Net.Ok (n : Net) : Prop where
  m1 : 1 ≤ n.many
  m8 : n.many ≤ 8
  g16 : n.gates.length ≤ 16
  gs : ∀ (i : Nat) (g : Nat × Nat × Nat), n.gates[i]? = some g → gateOk n.many i g
  o1 : 1 ≤ n.outs.length
  o8 : n.outs.length ≤ 8
  os : ∀ o ∈ n.outs, o < n.many + n.gates.length
def nV (n : Nat) : V := .int (n : Int)
def gV (g : Nat × Nat × Nat) : List V := [nV g.1, nV g.2.1, nV g.2.2]
/-- the gates at these addresses -/
def GatesAt (H : Hp) (ps : List Addr) (gs : List (Nat × Nat × Nat)) : Prop := ps.length = gs.length ∧ ∀ (i : Nat) (p : Addr) (g : Nat × Nat × Nat), ps[i]? = some p → gs[i]? = some g → H p = some (.tup (gV g))
structure NetAt (H : Hp) (a : Addr) (n : Net) (g o : Addr) (ps : List Addr) : Prop where
  top : H a = some (.tup [nV n.many, .ref g, .ref o])
  gt : H g = some (.tup (ps.map V.ref))
  gs : GatesAt H ps n.gates
  ot : H o = some (.tup (n.outs.map nV))
theorem GatesAt.nil (H : Hp) : GatesAt H [] [] := ⟨rfl, fun i p g e _ => by simp at e⟩
theorem GatesAt.mono {H H' : Hp} {ps : List Addr} {gs : List (Nat × Nat × Nat)} (x : GatesAt H ps gs) (k : ∀ b xs, H b = some (.tup xs) → H' b = some (.tup xs)) : GatesAt H' ps gs := ⟨x.1, fun i p g e1 e2 => k _ _ (x.2 i p g e1 e2)⟩
theorem NetAt.mono {H H' : Hp} {a g o : Addr} {n : Net} {ps : List Addr} (x : NetAt H a n g o ps) (k : ∀ b xs, H b = some (.tup xs) → H' b = some (.tup xs)) : NetAt H' a n g o ps := ⟨k _ _ x.top, k _ _ x.gt, x.gs.mono k, k _ _ x.ot⟩
theorem GatesAt.push {H : Hp} {ps : List Addr} {gs : List (Nat × Nat × Nat)} {p : Addr} {g : Nat × Nat × Nat} (x : GatesAt H ps gs) (h : H p = some (.tup (gV g))) : GatesAt H (ps ++ [p]) (gs ++ [g]) := by
  refine ⟨by rw [List.length_append, List.length_append, x.1]; rfl, fun i q g' e1 e2 => ?_⟩
  by_cases hi : i < ps.length
  · rw [List.getElem?_append_left hi] at e1
    rw [List.getElem?_append_left (by rw [← x.1]; exact hi)] at e2
    exact x.2 i q g' e1 e2
  · rw [List.getElem?_append_right (by omega)] at e1
    rw [List.getElem?_append_right (by rw [← x.1]; omega)] at e2
    have hz : i - ps.length = 0 := by
      obtain ⟨h1, _⟩ := List.getElem?_eq_some_iff.mp e1
      simp at h1
      omega
    rw [hz] at e1
    rw [← x.1, hz] at e2
    cases e1
    cases e2
    exact h
theorem gateOk.at {H : Hp} {ps : List Addr} {gs : List (Nat × Nat × Nat)} (x : GatesAt H ps gs) {i : Nat} {p : Addr} (e : ps[i]? = some p) : ∃ g, gs[i]? = some g ∧ H p = some (.tup (gV g)) := by
  obtain ⟨h1, _⟩ := List.getElem?_eq_some_iff.mp e
  have h2 : i < gs.length := by rw [← x.1]; exact h1
  exact ⟨gs[i], List.getElem?_eq_getElem h2, x.2 i p _ e (List.getElem?_eq_getElem h2)⟩
/-- what a tuple holds it keeps, where but X is kept and X holds none -/
theorem Keep.tups {X : List Addr} {H H' : Hp} (k : Keep X H H') (n : ∀ b ∈ X, ∀ xs, H b ≠ some (.tup xs)) : ∀ b xs, H b = some (.tup xs) → H' b = some (.tup xs) := fun b xs e => k b _ e fun z => n b z xs e
/-! ### the well -/
def Wl (H : Hp) (W : Addr) : Prop := ∃ a b c : Int, H W = some (.lst [.int a, .int b, .int c])
theorem Wl.nt {H : Hp} {W : Addr} (h : Wl H W) : ∀ b ∈ [W], ∀ xs, H b ≠ some (.tup xs) := fun b hb xs e => by
  rw [List.mem_singleton.mp hb] at e
  obtain ⟨_, _, _, q⟩ := h
  rw [e] at q
  cases q
theorem Wl.keep {X : List Addr} {H H' : Hp} {W : Addr} (h : Wl H W) (k : Keep X H H') (n : W ∉ X) : Wl H' W := by
  obtain ⟨a, b, c, e⟩ := h
  exact ⟨a, b, c, k _ _ e n⟩
theorem Wl.tab {Ts : List Addr} {H : Hp} {W : Addr} (h : Wl H W) (t : Tabs Ts H) : W ∉ Ts := by
  obtain ⟨a, b, c, e⟩ := h
  exact t.lst e
theorem Tabs.keep {Ts X : List Addr} {H H' : Hp} (t : Tabs Ts H) (k : Keep X H H') (n : ∀ b ∈ X, b ∉ Ts) : Tabs Ts H' := fun b hb => by
  obtain ⟨ps, q, r⟩ := t b hb
  exact ⟨ps, k b _ q fun z => n b z hb, r⟩
/-! ### words for the readings -/
theorem Same.keep {X : List Addr} {H H' : Hp} (s : Same H H') : Keep X H H' := fun b o e _ => s b o e
theorem Same.new {H : Hp} {p : Addr} {o : HO} (n : H p = none) : Same H (upd H p o) := fun b u e => by rw [upd_ne (ne_of_none e n)]; exact e
theorem catA {K : PySem.W.Frag} {H : Hp} {a b : Addr} {xs ys : List V} {Q : VK} (h1 : H a = some (.tup xs)) (h2 : H b = some (.tup ys)) (hz : xs.length + ys.length ≤ sizeLine) (q : ∀ r H', Same H H' → H' r = some (.tup (xs ++ ys)) → Q (.ref r) H') : rCatA K (.ref a) (.ref b) H Q := by
  refine ⟨a, b, xs, ys, rfl, rfl, SqT.of h1, SqT.of h2, hz, fun e => ?_, fun e1 e2 => ?_, fun e1 e2 p hp => ?_⟩
  · exact q b H (Same.refl _) (by rw [e]; exact h2)
  · exact q a H (Same.refl _) (by rw [e2, List.append_nil]; exact h1)
  · exact q p _ (Same.new hp) upd_same
theorem slA {K : PySem.W.Frag} {H : Hp} {a : Addr} {xs : List V} {lo hi : Option Int} {Q : VK} (h1 : H a = some (.tup xs)) (q : ∀ r H', Same H H' → H' r = some (.tup (cutV xs lo hi)) → Q (.ref r) H') : rSlA K (.ref a) lo hi H Q := by
  refine ⟨a, xs, rfl, SqT.of h1, fun e => ?_, fun e p hp => ?_⟩
  · refine q a H (Same.refl _) ?_
    unfold cutV
    rw [e.1, e.2, List.drop_zero, Nat.sub_zero, List.take_length]
    exact h1
  · exact q p _ (Same.new hp) upd_same
theorem atIf {a b : V} {k : Bool} : atI [a, b] (if k = true then 1 else 0) = some (if k = true then b else a) := by cases k <;> rfl
theorem cut_lo (xs : List V) (n : Nat) : cutV xs (some (n : Int)) none = xs.drop n := by
  unfold cutV
  rw [show HT.sIx xs.length 0 (some (n : Int)) = min n xs.length from HT.sIx_nat xs.length 0 n, HT.sIx_none]
  by_cases h : n ≤ xs.length
  · rw [Nat.min_eq_left h, List.take_of_length_le]
    rw [List.length_drop]
    exact Nat.le_refl _
  · rw [Nat.min_eq_right (by omega), List.drop_of_length_le (Nat.le_refl _), List.drop_of_length_le (by omega), List.take_nil]
theorem cut_hi (xs : List V) (n : Nat) : cutV xs none (some (n : Int)) = xs.take n := by
  unfold cutV
  rw [show HT.sIx xs.length xs.length (some (n : Int)) = min n xs.length from HT.sIx_nat xs.length xs.length n, HT.sIx_none, List.drop_zero, Nat.sub_zero]
  by_cases h : n ≤ xs.length
  · rw [Nat.min_eq_left h]
  · rw [Nat.min_eq_right (by omega), List.take_of_length_le (by omega : xs.length ≤ n), List.take_length]
/-- the well stands, all else is kept -/
structure Wk (W : Addr) (H H' : Hp) : Prop where
  wl : Wl H' W
  kp : Keep [W] H H'
theorem Wk.nxt {W : Addr} {H H1 H2 : Hp} (s : Wk W H H1) (wl : Wl H2 W) (k : Keep [W] H1 H2) : Wk W H H2 := ⟨wl, s.kp.trans k⟩
theorem Wl.same {H H' : Hp} {W : Addr} (h : Wl H W) (s : Same H H') : Wl H' W := by
  obtain ⟨a, b, c, e⟩ := h
  exact ⟨a, b, c, s _ _ e⟩
theorem Wk.same {W : Addr} {H H1 H2 : Hp} (s : Wk W H H1) (e : Same H1 H2) : Wk W H H2 := ⟨s.wl.same e, s.kp.trans (Same.keep e)⟩
theorem Wk.new {W : Addr} {H H1 : Hp} {p : Addr} {o : HO} (s : Wk W H H1) (n : H1 p = none) : Wk W H (upd H1 p o) := s.same (Same.new n)
/-- a tuple stands behind a draw -/
theorem Wl.tup {H H' : Hp} {W : Addr} (h : Wl H W) (k : Keep [W] H H') {b : Addr} {xs : List V} (e : H b = some (.tup xs)) : H' b = some (.tup xs) := k.tups h.nt b xs e
theorem Wl.gates {H H' : Hp} {W : Addr} (h : Wl H W) (k : Keep [W] H H') {ps : List Addr} {gs : List (Nat × Nat × Nat)} (x : GatesAt H ps gs) : GatesAt H' ps gs := x.mono (k.tups h.nt)
theorem Same.gates {H H' : Hp} (s : Same H H') {ps : List Addr} {gs : List (Nat × Nat × Nat)} (x : GatesAt H ps gs) : GatesAt H' ps gs := x.mono fun b xs e => s b _ e
/-- a list of our own, filled behind H: all that was stands -/
structure Own (H H' : Hp) (l : Addr) (xs : List V) : Prop where
  sm : Same H H'
  at_ : H' l = some (.lst xs)
  nw : H l = none
theorem Own.app {H H' : Hp} {l : Addr} {xs : List V} {y : V} (o : Own H H' l xs) : Own H (upd H' l (.lst (xs ++ [y]))) l (xs ++ [y]) :=
  ⟨fun b u e => by rw [upd_ne (ne_of_none e o.nw)]; exact o.sm b u e, upd_same, o.nw⟩
theorem NetAt.same {H H' : Hp} {a g o : Addr} {n : Net} {ps : List Addr} (x : NetAt H a n g o ps) (s : Same H H') : NetAt H' a n g o ps := x.mono fun b xs e => s b _ e
theorem Tabs.same {Ts : List Addr} {H H' : Hp} (t : Tabs Ts H) (s : Same H H') : Tabs Ts H' := fun b hb => by
  obtain ⟨ps, q, r⟩ := t b hb
  exact ⟨ps, s _ _ q, r⟩
theorem Aft.ofSame {Ts : List Addr} {H H' : Hp} (t : Tabs Ts H) (s : Same H H') : Aft Ts H H' := ⟨Same.keep s, Tabs.same t s⟩
theorem NetAt.aft {Ts : List Addr} {H H' : Hp} {a g o : Addr} {n : Net} {ps : List Addr} (x : NetAt H a n g o ps) (t : Tabs Ts H) (s : Aft Ts H H') : NetAt H' a n g o ps := x.mono fun b xs e => s.tup t e
/-! ### rules with the written part named (for generator expressions) -/
section
variable {X : Cx} {K : PySem.W.Frag}
theorem ix_tupK (h : X.K = K := by rfl) : IxR X (rIxT K) := by subst h; exact ix_tup
theorem ix_listK (h : X.K = K := by rfl) : IxR X (rIxL K) := by subst h; exact ix_list
theorem op_in_seqK (h : X.K = K := by rfl) : OpR X (compareOp .In) (rIn K false) := by subst h; exact op_in_seq
theorem op_notIn_seqK (h : X.K = K := by rfl) : OpR X (compareOp .NotIn) (rIn K true) := by subst h; exact op_notIn_seq
theorem len_seqK (h : X.K = K := by rfl) : CallR X (.builtin "len") (fun xs H Q => ∃ p ys, xs = [.ref p] ∧ (SqL K H p ys ∨ SqT K H p ys) ∧ Q (.int ys.length) H) := by subst h; exact call_len_seq
theorem isiK (h : X.K = K := by rfl) : CallR X (.builtin "isinstance") (rIsi K) := by subst h; exact call_isi
theorem op_catAK (h : X.K = K := by rfl) : OpR X (binaryOp .Add) (rCatA K) := by subst h; exact op_catA
theorem sl_tupAK (h : X.K = K := by rfl) : SlR X (rSlA K) := by subst h; exact sl_tupA
end
end GX
set_option Elab.async false
set_option linter.all false
set_option maxRecDepth 100000
set_option maxHeartbeats 4000000
/-! enumerate of a tuple, walked. -/
namespace GX
open PySem PySem.Spec PyProof.Rows L2
open AutoSeq1 (wpAny_loadPart')
theorem enumT_new (l : Addr) (items : Array Value) (n : Nat) (dct : Option Addr) (sl : Array (Option Value)) :
    Meets (Builtin.«enumerate.__new__» ⟨[.type "enumerate", .ref l], []⟩) (fun _ R s => s.heap.get? l = some { cls := .type "tuple", dict := dct, data := .seq items n, slots := sl } ∧
      R (.ok (.ret (.ref (s.heap.push { cls := .type "tuple_iterator", data := .fields #[.ref l, .int 0 0] }).objs.size)))
        { s with heap := (s.heap.push { cls := .type "tuple_iterator", data := .fields #[.ref l, .int 0 0] }).push { cls := .type "enumerate", data := .fields #[.none, .bool false, .ref s.heap.objs.size, rawInt 0, .none, .none] } }) :=
  .of_wp fun prog w A R s h => by
    obtain ⟨hp, g, d, tk, os⟩ := s
    obtain ⟨hl, h⟩ := h
    have hsub := sub_enumerate
    have hL : Heap.IsTuple (Shared.heap ⟨hp, g, d, tk, os⟩) l items := ⟨_, hl, rfl, n, rfl⟩
    wp_walk using wpAny_loadPart' hl
    refine wpAny_stack_any fun st => wpAny_pure ?_
    split
    · rename_i c _ _ _ _ _
      cases (c == Value.type "enumerate") <;>
      · wp_walk using wpAny_loadPart' hl, wpAny_pyIter_tuple hL
        exact ⟨_, rfl, h⟩
    · wp_walk using wpAny_loadPart' hl, wpAny_pyIter_tuple hL
      exact ⟨_, rfl, h⟩
section
variable {prog : Program} {w : World} {A : Around} {E : Value → Shared → Prop} {s : Shared}
theorem enumT_call {l : Addr} {items : Array Value} {Q : Value → Shared → Prop} (hL : s.heap.IsTuple l items)
    (h : ∀ h', IsEnum h' (s.heap.objs.size + 1) s.heap.objs.size 0 .none → h'.IsTupleIter s.heap.objs.size l 0 → (∀ b o, s.heap.get? b = some o → h'.get? b = some o) → Q (.ref (s.heap.objs.size + 1)) { s with heap := h' }) :
    wpAny (model prog w) A (call (.type "enumerate") [.ref l]) Q E s := by
  obtain ⟨⟨c, dct, dt, sl⟩, hl, hc, n, hd⟩ := hL
  replace hc : c = .type "tuple" := hc
  replace hd : dt = .seq items n := hd
  subst hc hd
  refine callType_new F.called_enumerate (by decide) (F.typeCall_enumerate_1 _) (F.newCall_enumerate_1 _) (fun obj => F.args_object_init_2 obj _) F.entry_enumerate_new (enumT_new l items n dct sl) ⟨hl, ?_⟩
  have hz : (s.heap.push { cls := .type "tuple_iterator", data := .fields #[.ref l, .int 0 0] }).objs.size = s.heap.objs.size + 1 := Heap.size_push ..
  show _ ∧ _
  rw [hz]
  have he : IsEnum ((s.heap.push { cls := .type "tuple_iterator", data := .fields #[.ref l, .int 0 0] }).push { cls := .type "enumerate", data := .fields #[.none, .bool false, .ref s.heap.objs.size, rawInt 0, .none, .none] }) (s.heap.objs.size + 1) s.heap.objs.size 0 .none := by
    have q := Heap.get?_push_size (s.heap.push { cls := .type "tuple_iterator", data := .fields #[.ref l, .int 0 0] }) (o := { cls := .type "enumerate", data := .fields #[.none, .bool false, .ref s.heap.objs.size, rawInt 0, .none, .none] }) rfl
    rw [hz] at q
    exact q
  exact ⟨⟨_, he, rfl⟩, h _ he ⟨_, Heap.get?_push_of_some _ (Heap.get?_push_size _ rfl), rfl, rfl⟩ fun b o x => Heap.get?_push_of_some _ (Heap.get?_push_of_some _ x)⟩
end
def Itet (K : PySem.W.Frag) (a : Addr) : It :=
  ⟨fun i H => ∃ (xs : List V) (x : V), SqT K H a xs ∧ xs[i]? = some x, fun i H v H' => ∃ T x, v = .ref T ∧ H T = none ∧ H' = upd H T (.tup [.int (i : Nat), x]) ∧ ∀ xs, SqT K H a xs → xs[i]? = some x, fun i H => ∃ xs : List V, SqT K H a xs ∧ xs.length = i⟩
theorem turn_enumT {P : Program} {w : World} {K : PySem.W.Frag} {elts : List Expr} {kk : Nat} {tpos : Pos} (a e it : Addr) :
    Turn P w K (.Tuple elts kk tpos) (Itet K a) [e, it] e (fun i h => (∃ old, IsEnum h e it ((i : Nat) : Int) old) ∧ h.IsTupleIter it a i ∧ e ≠ it ∧ a ≠ it ∧ a ≠ e) where
  mem := by simp
  obj := fun i h st b hb => by
    obtain ⟨⟨old, he⟩, ⟨o, ho, hc, hd⟩, _⟩ := st
    rcases (show b = e ∨ b = it by simpa using hb) with z | z
    · rw [z]; exact ⟨_, he, fun v q => nomatch q⟩
    · rw [z]; exact ⟨o, ho, fun v q => by rw [hd] at q; cases q⟩
  keep := fun i h h' st k => let ⟨⟨old, he⟩, hi, hne⟩ := st; ⟨⟨old, k e (by simp) _ he⟩, hi.at fun o q => k it (by simp) o q, hne⟩
  item := by
    intro X hP hw hK hc i pins s σ H E I hf st hg
    subst hP hw hK
    obtain ⟨⟨old, he⟩, hit, hne, hai, hae⟩ := st
    obtain ⟨xs, x, hq, hx⟩ := hg
    obtain ⟨its, rv, p, hz⟩ := I.tuple hq
    obtain ⟨u, hu, ru⟩ := rv.get hx
    have hel : e < s.heap.objs.size := Heap.lt_size he
    have hil : it < s.heap.objs.size := by obtain ⟨_, q, _⟩ := hit; exact Heap.lt_size q
    have hu' : its.toArray[i]? = some u := by simpa using hu
    refine wpAny_pyNext_enum_itemD (Draws.tuple (A := X.A.in1) (show X.A.in1.handled = none from I.ok.hd hc) it a hai its.toArray) he ⟨hit, p⟩ (Array.getElem?_eq_some_iff.mp hu').1 hne (by simp [hne, Ne.symm hae]) fun y h' tk hy ho hst hT hsz hk => ?_
    obtain rfl : u = y := Option.some.inj (hu'.symm.trans hy)
    refine ⟨_, rfl, wpAny_letOwnedTupleGo_enum (s := { s with heap := h', toks := tk + 1 }) ho fun h'' he' sb => ?_⟩
    have hT2 : h''.get? s.heap.objs.size = some { cls := .type "tuple", data := .seq #[.int i tk, u] } := (sb.2 _ (Nat.ne_of_gt hel)).trans hT
    have new : ObjOk X.prog X.w (upd H s.heap.objs.size (.tup [.int (i : Nat), x])) h'' s.heap.objs.size (.tup [.int (i : Nat), x]) :=
      ⟨by show 2 ≤ sizeLine; decide, [.int i tk, u], .cons ⟨_, rfl⟩ (.cons ru .nil), ⟨_, hT2, rfl, _, rfl⟩⟩
    have I1 : Inv X pins σ (upd H s.heap.objs.size (.tup [.int (i : Nat), x])) { s with heap := h'', toks := tk + 1 } :=
      I.turnedNew (ch := [e, it]) (fun b ob hb q => (sb.2 b (fun z => hb (by simp [z]))).trans (hk b ob (fun z => hb (by simp [z])) (fun z => hb (by simp [z])) q)) hf (Nat.le_refl _) new
    refine ⟨.ref s.heap.objs.size, _, I1, rfl, ⟨_, x, rfl, I.hok.fresh (Nat.le_refl _), rfl, fun ys hy => by rw [I.tuple_inj hy hq]; exact hx⟩, ⟨⟨u, ?_⟩, hst.1.at fun o q => (sb.2 it (Ne.symm hne)).trans q, hne, hai, hae⟩, fun b hb => ?_⟩
    · rw [show ((i + 1 : Nat) : Int) = (i : Int) + 1 by omega]
      exact he'
    · have hb' : b < s.heap.objs.size := by
        rcases (show b = e ∨ b = it by simpa using hb) with z | z
        · rw [z]; exact hel
        · rw [z]; exact hil
      rw [upd_ne (Nat.ne_of_lt hb')]
      exact (hf b hb).1
  done := by
    intro X hP hw hK hc i pins s σ H E I hf st hg
    subst hP hw hK
    obtain ⟨⟨old, he⟩, hit, hne, hai, hae⟩ := st
    obtain ⟨xs, hq, hx⟩ := hg
    obtain ⟨its, rv, p, hz⟩ := I.tuple hq
    obtain ⟨f0, f1, f2, f3, f4, f5⟩ := hf it (by simp)
    have hl : xs.length = its.length := rv.length
    have hs : its.toArray.size = i := by rw [List.size_toArray]; omega
    exact wpAny_pyNext_enum_endD (Draws.tuple (A := X.A.in1) (show X.A.in1.handled = none from I.ok.hd hc) it a hai its.toArray) he (by rw [hs]; exact ⟨hit, p⟩) fun h' eb => ⟨rfl, I.turned (t' := s.toks) (fun b o hb q => eb b o hb q) f0 f1 f3 f4 f5⟩
  self := fun A i s Q E st h => let ⟨⟨_, he⟩, _⟩ := st; wpAny_pyIter_enum he h
def iEnumT (K : PySem.W.Frag) (ta : TA) : TI := fun σ H R => ta σ H fun vs H1 => ∃ a xs, vs = [.ref a] ∧ SqT K H1 a xs ∧ R (Itet K a) H1
theorem pi_enumT {X : Cx} {e : Expr} {ta : TA} {p pos tpos : Pos} {elts : List Expr} {kk : Nat} (hg : Gl X "enumerate") (hm : X.mg "enumerate" = none) (ha : PA X [e] ta) (hs : starEach [e] X.env = [(false, eval e X.env)] := by rfl) :
    PI X (.Tuple elts kk tpos) (.Call (.Name "enumerate" p) [e] [] pos) (iEnumT X.K ta) := by
  refine ⟨fun pins s σ H R I h => ?_⟩
  refine Call_ (ld_blt I hg hm boot_enumerate (PyProof.Rows.callWith_type1 (thn (ha.run pos pins s σ H _ I h) fun us s1 ⟨vs, H1, I1, r1, q1⟩ => ?_) hs rfl))
  obtain ⟨a, xs, ex, hq, q⟩ := q1
  subst ex
  cases r1 with
  | cons r rr =>
    cases rr
    cases r
    obtain ⟨its, rv, p', hz⟩ := I1.tuple hq
    have hal : a < s1.heap.objs.size := IsTup.lt p'
    refine enumT_call (show s1.heap.IsTuple a its.toArray from p') fun h' he hit hk => wpAny_pyIter_enum he ?_
    have I2 : Inv X pins σ H1 { s1 with heap := h' } := I1.kept (t' := s1.toks) hk
    refine ⟨s1.heap.objs.size + 1, [s1.heap.objs.size + 1, s1.heap.objs.size], _, _, H1, rfl, I2, turn_enumT a (s1.heap.objs.size + 1) s1.heap.objs.size, ⟨⟨.none, he⟩, hit, Nat.succ_ne_self _, Nat.ne_of_lt hal, Nat.ne_of_lt (Nat.lt_succ_of_lt hal)⟩, fun b hb => ?_, q⟩
    have hle : s1.heap.objs.size ≤ b := by
      rcases (show b = s1.heap.objs.size + 1 ∨ b = s1.heap.objs.size by simpa using hb) with z | z
      · rw [z]; exact Nat.le_add_right _ _
      · rw [z]; exact Nat.le_refl _
    exact I1.fpOk hle (I1.hok.fresh hle)
theorem walk_enumT {K : PySem.W.Frag} {a : Addr} {xs : List V} : Walk (Itet K a) xs.length (fun H => SqT K H a xs) (YPair (fun i => some (.int (i : Nat))) (fun i => xs[i]?)) := by
  refine ⟨fun i _ hi q => ⟨xs, xs[i], q, by simp [hi]⟩, fun _ q => ⟨xs, q, rfl⟩, fun i H v H' _ q y => ?_⟩
  obtain ⟨T, x, h1, h2, h3, h4⟩ := y
  exact ⟨T, .int (i : Nat), x, h1, h2, h3, rfl, h4 xs q⟩
end GX
set_option Elab.async false
set_option linter.all false
set_option maxRecDepth 100000
set_option maxHeartbeats 4000000
/-! t[::-1] of a tuple. -/
namespace GX
open PySem PySem.Spec PyProof.Rows L2 HT
section
variable {prog : Program} {w : World} {A : Around} {E : Value → Shared → Prop} {s : Shared}
theorem adj_rev (n : Nat) : Builtin.Slice.sliceAdjust none none (-1) (n : Int) = ((n : Int) - 1, -1) := by
  unfold Builtin.Slice.sliceAdjust
  rfl
theorem plc_rev (n : Nat) : Builtin.Slice.slicePlaces ((n : Int) - 1) (-1) (-1) = n := by
  unfold Builtin.Slice.slicePlaces
  rw [if_neg (by decide), show (-(-1 : Int)) = 1 by decide, Int.ediv_one]
  split <;> omega
theorem applied_rev {sl : Addr} {vl vu vs : Value} {n : Nat} {Q : Int × Int × Nat → Shared → Prop} (hs : s.heap.IsSliceOf sl vl vu vs) (pl : IsPart vl none) (pu : IsPart vu none) (ps : IsPart vs (some (-1)))
    (h : Q ((n : Int) - 1, -1, n) s) : wpAny (model prog w) A (Builtin.Slice.sliceApplied (.ref sl) (pure (n : Int))) Q E s := by
  obtain ⟨os, hos, hcs, hds⟩ := id hs
  unfold Builtin.Slice.sliceApplied Builtin.Slice.sliceFields
  refine wpAny_bind (wpAny_bind (wpAny_field hos hds (x := vl) rfl (wpAny_bind (wpAny_field hos hds (x := vu) rfl (wpAny_bind (wpAny_field hos hds (x := vs) rfl (wpAny_pure ?_)))))))
  refine wpAny_bind (slicePart_ ps ?_)
  show wpAny _ _ (if ((-1 : Int) == 0) = true then _ else _) _ _ s
  rw [if_neg (by decide)]
  refine wpAny_bind (slicePart_ pl (wpAny_bind (slicePart_ pu (wpAny_bind (wpAny_pure ?_)))))
  show wpAny _ _ (match Builtin.Slice.sliceAdjust none none (-1) (n : Int) with | (lo, hi) => pure (lo, (-1 : Int), Builtin.Slice.slicePlaces lo hi (-1))) _ _ s
  rw [adj_rev n]
  show wpAny _ _ (pure ((n : Int) - 1, (-1 : Int), Builtin.Slice.slicePlaces ((n : Int) - 1) (-1) (-1))) _ _ s
  rw [plc_rev]
  exact wpAny_pure h
theorem fm_congr {α β : Type} {f g : α → Option β} : ∀ {l : List α}, (∀ x ∈ l, f x = g x) → l.filterMap f = l.filterMap g
  | [], _ => rfl
  | a :: r, h => by
    rw [List.filterMap_cons, List.filterMap_cons, h a List.mem_cons_self, fm_congr fun x hx => h x (List.mem_cons_of_mem _ hx)]
theorem pick_rev (xs : Array Value) : ((List.range xs.size).filterMap fun (k : Nat) => xs[((xs.size : Int) - 1 + (k : Int) * (-1)).toNat]?).toArray = xs.toList.reverse.toArray := by
  have e : ((List.range xs.size).filterMap fun (k : Nat) => xs[((xs.size : Int) - 1 + (k : Int) * (-1)).toNat]?) = (((List.range xs.size).map fun k => xs.size - 1 - k).filterMap (xs[·]?)) := by
    rw [List.filterMap_map]
    refine fm_congr fun k hk => ?_
    have hk' := List.mem_range.mp hk
    show xs[((xs.size : Int) - 1 + (k : Int) * (-1)).toNat]? = xs[xs.size - 1 - k]?
    rw [show ((xs.size : Int) - 1 + (k : Int) * (-1)).toNat = xs.size - 1 - k by omega]
  rw [e, PySem.W.krv_range, List.filterMap_reverse, PySem.W.krv_all]
theorem item_rev {t sl : Addr} {items : Array Value} {vl vu vs : Value} {Q : Value → Shared → Prop} (ht : IsTup s.heap t items) (hs : s.heap.IsSliceOf sl vl vu vs) (pl : IsPart vl none) (pu : IsPart vu none) (ps : IsPart vs (some (-1)))
    (h : Q (.ref s.heap.objs.size) { s with heap := s.heap.push { cls := .type "tuple", data := .seq items.toList.reverse.toArray } })
    (hsz : items.size ≤ sizeLine) : wpAny (model prog w) A (getItem (.ref t) (.ref sl)) Q E s := by
  have htake : sizeOk (.seq items.toList.reverse.toArray) := by
    show items.toList.reverse.toArray.size ≤ sizeLine
    rw [List.size_toArray, List.length_reverse, Array.length_toList]
    exact hsz
  obtain ⟨os, hos, hcs, hds⟩ := id hs
  have hTs : s.TypeIs (.ref sl) "slice" := ⟨os, hos, hcs⟩
  unfold getItem
  try with_reducible refine wpAny_holding ?_
  first | refine wpAny_bind (wpAny_pure ?_) | skip
  refine wpAny_bind (wpAny_sequenceKey ht.typeIs (by decide) ?_)
  refine wpAny_bind (wpAny_callSpecial?_slot (name := Str.ofString "__getitem__") ht.typeIs PyProof.Rows.slot_tuple_getitem
    (wpAny_call_entry PyProof.Rows.slot_tuple_getitem ht.typeIs entry_tuple_getitem ?_ (args_tuple_getitem _ _)))
  show wpAny _ _ (Builtin.Tuple.tupleItemsOf (.ref t) >>= _) _ _ s
  refine wpAny_bind (tupleItemsOf_ ht ?_)
  refine wpAny_bind (wpAny_typeOf hTs ?_)
  rw [if_pos (by decide)]
  refine wpAny_bind (applied_rev hs pl pu ps ?_)
  have hno : ¬ (((((items.size : Int) - 1) == 0 && (-1 : Int) == 1) && items.size == items.size) = true) := by simp
  show wpAny _ _ (if ((((items.size : Int) - 1) == 0 && (-1 : Int) == 1) && items.size == items.size) = true then _ else _) _ _ s
  rw [if_neg hno, pick_rev]
  first
    | exact wpAny_bind (m := Builtin.Tuple.tupleExact _) (wpAny_newObj_type (wpAny_pure ⟨_, rfl, wpAny_pure h⟩) htake)
    | exact wpAny_bind (m := Builtin.Tuple.tupleExact _) (wpAny_newObj_type (wpAny_bind (wpAny_pure (wpAny_pure ⟨_, rfl, wpAny_pure h⟩))) htake)
    | exact wpAny_bind (wpAny_bind (m := Builtin.Tuple.tupleExact _) (wpAny_newObj_type (wpAny_pure (wpAny_pure ⟨_, rfl, wpAny_pure h⟩)) htake))
    | exact wpAny_bind (wpAny_bind (m := Builtin.Tuple.tupleExact _) (wpAny_newObj_type (wpAny_pure ⟨_, rfl, wpAny_pure h⟩) htake))
end
def tRevT (K : PySem.W.Frag) (te : TE) : TE := fun σ H Q => te σ H fun x H1 => ∃ a xs, x = .ref a ∧ SqT K H1 a xs ∧ ∀ p, H1 p = none → Q (.ref p) (upd H1 p (.tup xs.reverse))
theorem pe_revT {X : Cx} {e : Expr} {te : TE} {k : Nat} {p1 p2 p3 pos : Pos} (he : PE X e te) : PE X (.Subscript e (.Slice none none (some (.UnaryOp .USub (.Constant (.int 1) k p1) p2)) p3) pos) (tRevT X.K te) := by
  refine ⟨fun pins s σ H Q I h => ?_⟩
  refine Subscript_ (thn (he.run pins s σ H _ I h) fun v s1 ⟨x, H1, I1, r1, q1⟩ => ?_)
  obtain ⟨a, xs, ex, hx, q⟩ := q1
  subst ex
  cases r1
  have hst : PO X (some (.UnaryOp .USub (.Constant (.int 1) k p1) p2)) (tPart (tUn (rU fun i => .int (-i)) (tC (.int 1)))) := po_some (pe_un un_neg pe_int)
  refine wpAny_Slice (thn (po_none.run pins s1 σ H1 (fun o H2 => o = none ∧ H2 = H1) I1 ⟨rfl, rfl⟩) fun vl s2 ⟨l, H2, I2, pl, el, e2⟩ => ?_)
  subst el e2
  refine thn (po_none.run pins s2 σ H2 (fun o H3 => o = none ∧ H3 = H2) I2 ⟨rfl, rfl⟩) fun vu s3 ⟨u, H3, I3, pu, eu, e3⟩ => ?_
  subst eu e3
  refine thn (hst.run pins s3 σ H3 (fun o H4 => o = some (-1) ∧ H4 = H3) I3 ⟨1, rfl, -1, rfl, rfl, rfl⟩) fun vs s4 ⟨o, H4, I4, ps, eo, e4⟩ => ?_
  subst eo e4
  have I5 : Inv X pins σ H4 { s4 with heap := s4.heap.push { cls := .type "slice", data := .fields #[vl, vu, vs] } } := I4.kept (t' := s4.toks) fun b ob q => Heap.get?_push_of_some _ q
  obtain ⟨its, r, ht, hz⟩ := I5.tuple hx
  have hlen := r.length
  show wpAny (model X.prog X.w) X.A (subscriptTail e (.Slice none none (some (.UnaryOp .USub (.Constant (.int 1) k p1) p2)) p3) (.ref a) (.ref s4.heap.objs.size)) (EP X pins σ Q) X.xe { s4 with heap := s4.heap.push { cls := .type "slice", data := .fields #[vl, vu, vs] } }
  refine tail_any (ops := [.ref a, .ref s4.heap.objs.size]) ht.typeIs (PyProof.Rows.slot_tuple_getitem.lookup) ?_ (by with_unfolding_all rfl)
  refine item_rev ht (Heap.IsSliceOf.new _ vl vu vs) pl pu ps ?_ (by rw [List.size_toArray]; omega)
  refine ⟨.ref _, _, I5.laid (t' := s4.toks) (o := .tup xs.reverse) (fun b ob q => Heap.get?_push_of_some _ q) (Nat.le_refl _) ?_, rfl, q _ (I5.hok.fresh (Nat.le_refl _))⟩
  exact ⟨by rw [List.length_reverse]; exact hz, _, r.reverse, ⟨_, Heap.get?_push_size _ rfl, rfl, _, rfl⟩⟩
end GX
set_option Elab.async false
set_option linter.all false
set_option maxRecDepth 100000
set_option maxHeartbeats 4000000
/-! A tuple times an int of one or more. -/
namespace GX
open PySem PySem.Spec PyProof.Rows L2
open AutoSeq1 (wpAny_loadPart')
theorem tuple_mul1 (l : Addr) (items : Array Value) (n : Nat) (dd : Option Addr) (sl : Array (Option Value)) (u : Tok) :
    Meets (Builtin.«tuple.__mul__» ⟨[.ref l, .int 1 u], []⟩) (fun _ R s => s.heap.get? l = some { cls := .type "tuple", dict := dd, data := .seq items n, slots := sl } ∧ R (.ok (.ret (Value.ref l))) s) :=
  .of_wp fun prog w A R s h => by
    obtain ⟨hp, g, d, tk, os⟩ := s
    obtain ⟨hl, h⟩ := h
    have f1 := AutoSeq1.idx_int
    have c1 : (items.isEmpty || (1 : Int) == 1) = true := by cases items.isEmpty <;> rfl
    wp_walk using wpAny_loadPart' hl
    repeat (first
      | (refine wpAny_ite_true (decide_eq_true c1) ?_; wp_walk using wpAny_loadPart' hl))
    exact ⟨_, rfl, h⟩
/-- .. times k: itself by one, else a new one -/
def rRepA (K : PySem.W.Frag) : R2 := fun x y H Q => ∃ l k xs, x = .ref l ∧ y = .int k ∧ SqT K H l xs ∧ xs ≠ [] ∧ 1 ≤ k ∧ k ≤ 1000 ∧ xs.length ≤ 1000 ∧ (k = 1 → Q (.ref l) H) ∧ (2 ≤ k → ∀ p, H p = none → Q (.ref p) (upd H p (.tup (List.replicate k.toNat xs).flatten)))
theorem op_repA {X : Cx} : OpR X (binaryOp .Mult) (rRepA X.K) := by
  intro pins s σ H x y v u Q I rx ry h
  obtain ⟨l, k, xs, rfl, rfl, hT, hne, h1, h2, hz, q1, q2⟩ := h
  by_cases hk : k = 1
  · subst hk
    cases rx
    obtain ⟨t, rfl⟩ := ry
    obtain ⟨its, r, ⟨⟨cls, dd, data, sl⟩, ho, hc, n, hd⟩, hs⟩ := I.tuple hT
    simp only at hc hd
    subst hc hd
    refine wpAny_binaryOp_repeat_ref (T := "tuple") (U := "int") (by decide) ⟨_, ho, rfl⟩ (fun s' => typeIs_int s' 1 t) noFill_tuple_mul F.fills_int_mul F.slot_int_rmul repeat_tuple F.slot_int_index.lookup
      (call_meets F.slot_int_rmul (typeIs_int s 1 t) F.entry_int_rmul (F.args_int_rmul_2 _ _) (int_rmul_tuple 1 t l its.toArray n dd sl)
        ⟨ho, rfl, ⟨_, ho, rfl⟩, call_meets F.slot_tuple_mul ⟨_, ho, rfl⟩ F.entry_tuple_mul (F.args_tuple_mul_2 _ _) (tuple_mul1 l its.toArray n dd sl t) ⟨ho, ?_⟩⟩)
    exact ⟨.ref l, H, I, rfl, q1 rfl⟩
  · exact op_repT pins s σ H _ _ v u Q I rx ry ⟨l, k, xs, rfl, rfl, hT, hne, by omega, h2, hz, q2 (by omega)⟩
end GX
set_option Elab.async false
set_option linter.all false
set_option maxRecDepth 100000
set_option maxHeartbeats 4000000
/-! set(xs) of whole numbers, xs a list or a tuple; sorted of it. -/
namespace GX
open PySem PySem.Spec PyProof.Rows L2
/-- a set as it is made, empty -/
def fset (w : World) : Obj := { cls := .type "set", dict := none, data := .set #[] 0 (.fresh 0 0 (!w.params.followText "set-order")) }
section
variable {P : Program} {w : World} {A : Around} {E : Value → Shared → Prop} {s : Shared}
/-- what set(l) leaves: the set of ns at the next address -/
def Left (w : World) (s : Shared) (ns : List Int) (r : Value) (t : Shared) : Prop :=
  r = .none ∧ ∃ g tk c, t = { s with heap := g, toks := tk } ∧ SetR w g s.heap.objs.size (fun j => decide (j ∈ ns)) c ∧ c ≤ ns.length ∧ ∀ b o, s.heap.get? b = some o → g.get? b = some o
theorem init_list {l : Addr} {its : Array Value} {ns : List Int} (hh : A.handled = none) (hl : s.heap.IsList l its) (hi : IntsAre its.toList ns) (hb : ns.length + 1 < scanBound) :
    codeAny (model P w) A (.call (.builtin "set.__init__") ⟨[.ref s.heap.objs.size, .ref l], []⟩) (wants (Left w s ns) E) { s with heap := s.heap.push (fset w) } := by
  have eN : its.size = ns.length := by
    have z := IntsAre.length hi
    rwa [Array.length_toList] at z
  have atS : (s.heap.push (fset w)).get? s.heap.objs.size = some (fset w) := Heap.get?_push_size _ rfl
  refine codeAny_call_builtin F.called_set.init.plain F.entry_set_init (check_set_init_1 ⟨_, atS, rfl⟩ ?_)
  obtain ⟨⟨k1, k2, k3, k4⟩, hol, e1, m, e2⟩ := hl
  dsimp only at e1 e2
  subst e1
  subst e2
  have on : (s.heap.push (fset w)).get? l = some ⟨.type "list", k2, .seq its m, k4⟩ := Heap.get?_push_of_some _ hol
  have u1 := F.sub_list_set
  have u2 := F.sub_list_frozenset
  have u3 : (Value.type "list" == Value.type "dict") = false := by decide
  have isL : (s.heap.push (fset w)).IsList l its := ⟨_, on, rfl, m, rfl⟩
  unfold Builtin.«set.__init__» noKeywords Builtin.Frozenset.updateFrom
  generalize eP : pyIter = PI
  wp_walk
  subst eP
  refine wpAny_pyIter_list isL (wpAny_bind (wpAny_runValue ?_))
  have lt : l < s.heap.objs.size := Heap.lt_size hol
  have zz : (s.heap.push (fset w)).objs.size = s.heap.objs.size + 1 := Heap.size_push ..
  have ne1 : l ≠ (s.heap.push (fset w)).objs.size := by rw [zz]; exact Nat.ne_of_lt (Nat.lt_succ_of_lt lt)
  have ne2 : s.heap.objs.size ∉ [(s.heap.push (fset w)).objs.size, l] := by
    intro z
    rcases List.mem_cons.mp z with z | z
    · rw [zz] at z
      exact Nat.ne_of_lt (Nat.lt_succ_self _) z
    · exact Nat.ne_of_gt lt (List.mem_singleton.mp z)
  have vals : ∀ (i : Nat) (v : Value), its[i]? = some v → ∃ k t, ns[i]? = some k ∧ v = .int k t := fun i v hv => by
    have hlt : i < ns.length := by rw [← eN]; exact (Array.getElem?_eq_some_iff.mp hv).1
    obtain ⟨t, e⟩ := IntsAre.int_at hi i v (by rw [Array.getElem?_toList]; exact hv)
    refine ⟨ns[i], t, List.getElem?_eq_getElem hlt, e.trans ?_⟩
    show Value.int (ns.getD i 0) t = _
    rw [List.getD_eq_getElem?_getD, List.getElem?_eq_getElem hlt]
    rfl
  have h3 : A.in1.in1.handled = none := by simp [hh]
  refine set_update_ints (Walks.list h3 _ l ne1 its).toS s.heap.objs.size ne2 ns eN hb vals (its.size - 0) 0 _ (by omega) (Nat.zero_le _) ?st ?s0 ?rest
  case st => exact ⟨⟨_, Heap.get?_push_size _ rfl, rfl, rfl⟩, isL.push _⟩
  case s0 => exact ⟨0, Nat.le_refl 0, setR_new_at (Heap.get?_push_of_some _ atS)⟩
  intro t c mv hc hS
  obtain ⟨h', g2, d2, tk, o2⟩ := t
  obtain rfl : g2 = s.gens := mv.gens
  obtain rfl : d2 = s.drawn := mv.drawn
  obtain rfl : o2 = s.os := mv.os
  show wpAny _ _ _ _ _ _
  refine wpAny_pure ?_
  show wpAny _ _ (ret Value.none) _ _ _
  refine wpAny_pure ⟨rfl, h', tk, c, rfl, hS, by omega, fun b o e => ?_⟩
  have lb : b < s.heap.objs.size := Heap.lt_size e
  refine mv.heap b o (fun z => ?_) (Heap.get?_push_of_some _ (Heap.get?_push_of_some _ e))
  rcases List.mem_cons.mp z with z | z
  · exact Nat.ne_of_lt lb z
  · have z' := List.mem_singleton.mp z
    rw [zz] at z'
    exact Nat.ne_of_lt (Nat.lt_succ_of_lt lb) z'
theorem call_set_of {l : Addr} {ns : List Int} {Q : Value → Shared → Prop}
    (hin : codeAny (model P w) A.in1 (.call (.builtin "set.__init__") ⟨[.ref s.heap.objs.size, .ref l], []⟩) (wants (Left w s ns) E) { s with heap := s.heap.push (fset w) })
    (h : ∀ g tk c, SetR w g s.heap.objs.size (fun j => decide (j ∈ ns)) c → c ≤ ns.length → (∀ b o, s.heap.get? b = some o → g.get? b = some o) → Q (.ref s.heap.objs.size) { s with heap := g, toks := tk }) :
    wpAny (model P w) A (call (.type "set") [.ref l]) Q E s := by
  obtain ⟨c, tl, q1⟩ := F.called_set.mro
  have q2 := F.called_set.made
  have q3 := F.called_set.sub
  refine wpAny_call (codeAny_of_tree ?_)
  show wpAny _ _ (callAny (.type "set") ⟨[.ref l], []⟩) _ _ s
  refine wpAny_pure ⟨Code.quiet_builtin _ (by decide +kernel), codeAny_builtin F.entry_type_call ?_⟩
  rw [Around.under_plain (weight_type_call_type "set" [.ref l] []) rfl]
  have q4 := F.called_set.notType
  have q5 := F.called_set.canCreate
  have q6 := F.typeCall_set_1 (.ref l)
  repeat (any_goals (first | assumption | wp_step))
  refine codeAny_mono (code_set_led1 (.ref l) (E := E) (Q₁ := fun v t => v = .ref s.heap.objs.size ∧ t = { s with heap := s.heap.push (fset w) }) ⟨rfl, rfl⟩) fun r t hr => ?_
  cases r with
  | error e => exact hr
  | ok f =>
    cases f with
    | ret v =>
      obtain ⟨rfl, rfl⟩ := hr
      have q7 : Shared.TypeIs { s with heap := s.heap.push (fset w) } (.ref s.heap.objs.size) "set" := ⟨fset w, Heap.get?_push_size _ rfl, rfl⟩
      have q8 := F.called_set.init.lookup
      have q9 := F.called_set.init.bind (.ref s.heap.objs.size)
      repeat (any_goals (first | assumption | wp_step))
      refine codeAny_mono hin fun r2 t2 hr2 => ?_
      cases r2 with
      | error e => exact hr2
      | ok f2 =>
        cases f2 with
        | ret v2 =>
          obtain ⟨rfl, g, tk, c2, rfl, k1, k2, k3⟩ := hr2
          repeat (any_goals (first | assumption | wp_step))
          exact h g tk c2 k1 k2 k3
        | _ => exact hr2.elim
    | _ => exact hr.elim
theorem set_of_list {l : Addr} {its : Array Value} {ns : List Int} {Q : Value → Shared → Prop} (hh : A.handled = none) (hl : s.heap.IsList l its) (hi : IntsAre its.toList ns) (hb : ns.length + 1 < scanBound)
    (h : ∀ g tk c, SetR w g s.heap.objs.size (fun j => decide (j ∈ ns)) c → c ≤ ns.length → (∀ b o, s.heap.get? b = some o → g.get? b = some o) → Q (.ref s.heap.objs.size) { s with heap := g, toks := tk }) :
    wpAny (model P w) A (call (.type "set") [.ref l]) Q E s := call_set_of (init_list (by simp [hh]) hl hi hb) h
end
/-- set(xs) -/
def rSetN (K : PySem.W.Frag) (w : World) : List V → Hp → VK → Prop := fun xs H Q => ∃ (p : Addr) (ns : List Nat), xs = [.ref p] ∧ (SqL K H p (ns.map nV) ∨ SqT K H p (ns.map nV)) ∧ ns.length ≤ 60 ∧
  ∀ (q : Addr) (c : Nat), H q = none → c ≤ ns.length → Q (.ref q) (upd H q (SetO w q (fun j => decide (j ∈ ns.map fun n : Nat => (n : Int))) c))
theorem vals_n : ∀ {ns : List Nat} {us : List Value}, Vals (ns.map nV) us → IntsAre us (ns.map fun n : Nat => (n : Int))
  | [], _, .nil => .nil
  | n :: ns, _, .cons r t => by
    obtain ⟨k, rfl⟩ := r
    exact .cons n k (vals_n t)
theorem cr_setN {X : Cx} (hc : X.calm = true) : CallR X (.type "set") (rSetN X.K X.w) := by
  intro pins s σ H xs us Q I r h
  obtain ⟨p, ns, rfl, hq, hn, q⟩ := h
  rw [Vals.ref1 r]
  have hln : (ns.map fun n : Nat => (n : Int)).length = ns.length := List.length_map ..
  have hb : (ns.map fun n : Nat => (n : Int)).length + 1 < scanBound := by rw [hln]; unfold scanBound; omega
  have fin : ∀ (g : Heap) (tk c : Nat), SetR X.w g s.heap.objs.size (fun j => decide (j ∈ ns.map fun n : Nat => (n : Int))) c → c ≤ (ns.map fun n : Nat => (n : Int)).length → (∀ b o, s.heap.get? b = some o → g.get? b = some o) →
      EP X pins σ Q (.ref s.heap.objs.size) { s with heap := g, toks := tk } := fun g tk c hS hcl hk =>
    ⟨.ref s.heap.objs.size, _, I.laid (t' := tk) (o := SetO X.w s.heap.objs.size (fun j => decide (j ∈ ns.map fun n : Nat => (n : Int))) c) hk (Nat.le_refl _) (setO_new hS), rfl, q _ _ (I.hok.fresh (Nat.le_refl _)) (by rw [← hln]; exact hcl)⟩
  rcases hq with hq | hq
  · obtain ⟨its, rv, p1, _⟩ := I.list hq
    exact set_of_list (I.ok.hd hc) p1.isList (by simpa using vals_n rv) hb fin
  · obtain ⟨its, rv, p1, _⟩ := I.tuple hq
    exact call_set_tupI _ (I.ok.hd hc) p1 (by simpa using vals_n rv) hb fin
/-- sorted(set(xs)): the unlike ones, rising -/
theorem sorted_set_nat {ns : List Nat} {out : List Int} (pw : out.Pairwise (· < ·)) (hm : ∀ k : Int, k ∈ out ↔ decide (k ∈ ns.map fun n : Nat => (n : Int)) = true) : ∃ ys : List Nat, out = (ys.map fun n : Nat => (n : Int)) ∧ ys.Pairwise (· < ·) ∧ ∀ z, z ∈ ys ↔ z ∈ ns := by
  have hm' : ∀ k : Int, k ∈ out ↔ k ∈ ns.map fun n : Nat => (n : Int) := fun k => (hm k).trans decide_eq_true_iff
  have hnn : ∀ i ∈ out, 0 ≤ i := fun i hi => by
    obtain ⟨x, _, rfl⟩ := List.mem_map.mp ((hm' i).mp hi)
    omega
  refine ⟨out.map Int.toNat, ?_, ?_, fun z => ⟨fun h => ?_, fun h => ?_⟩⟩
  · rw [List.map_map]
    conv => lhs; rw [← List.map_id out]
    refine List.map_congr_left fun i hi => ?_
    show i = ((i.toNat : Nat) : Int)
    rw [Int.toNat_of_nonneg (hnn i hi)]
  · rw [List.pairwise_map]
    refine List.Pairwise.imp_of_mem (fun {a b} ha hb h => ?_) pw
    have := hnn a ha
    have := hnn b hb
    omega
  · obtain ⟨i, hi, rfl⟩ := List.mem_map.mp h
    obtain ⟨x, hx, rfl⟩ := List.mem_map.mp ((hm' i).mp hi)
    rw [Int.toNat_natCast]
    exact hx
  · exact List.mem_map.mpr ⟨(z : Int), (hm' _).mpr (List.mem_map.mpr ⟨z, h, rfl⟩), Int.toNat_natCast z⟩
end GX
set_option Elab.async false
set_option linter.all false
set_option maxRecDepth 100000
set_option maxHeartbeats 4000000
/-! sorted(l), l a list of tuples of ints, of any lengths from 1 on. -/
namespace GX
open PySem PySem.Spec PyProof.Rows L2 Srt
open SrtO (Cmp SortableO lt2 Srtd Stb)
section
variable {prog : Program} {w : World} {A : Around} {E : Value → Shared → Prop} {s : Shared}
theorem lex_any {b R fin : Bool} : ∀ {xs ys : List Value} {ns ms : List Int} (i : Nat), IntsAre xs ns → IntsAre ys ms → fin = decide (ns.length < ms.length) → R = HT.lexLt ns ms → PySem.W.KatLex prog w A b fin (fun r s' => s' = s ∧ r = R) (xs.zip ys) i s
  | _, _, _, _, i, .nil, hy, hf, hR => by
    rw [List.zip_nil_left]
    refine PySem.W.kat_nil ⟨rfl, ?_⟩
    rw [hf, hR]
    cases hy with
    | nil => rfl
    | cons m u r => rfl
  | _, _, _, _, i, .cons n t r, hy, hf, hR => by
    cases hy with
    | nil =>
      rw [List.zip_nil_right]
      refine PySem.W.kat_nil ⟨rfl, ?_⟩
      rw [hf, hR]
      rfl
    | cons m u r' =>
      rw [List.zip_cons_cons]
      refine PySem.W.kat_cons (SeqAt.EqAt.int_int n t m u prog w _ _ ?_)
      rw [HT.lexLt_cons] at hR
      refine PySem.W.kat_go (fun e1 => ?_) (fun e1 => ?_)
      · have ex : n = m := by simpa using e1
        rw [if_pos ex] at hR
        refine PySem.W.kat_yes (lex_any (i + 1) r r' ?_ hR)
        rw [hf]
        exact decide_eq_decide.mpr ⟨Nat.lt_of_succ_lt_succ, Nat.succ_lt_succ⟩
      · have ex : ¬ n = m := by simpa using e1
        rw [if_neg ex] at hR
        exact PySem.W.kat_no (TS.oneLt_ints _ ⟨rfl, hR.symm⟩)
theorem tups_cmp {vs : List Value} {k : Value → List Int} (hp : ∀ v ∈ vs, TS.TupInts s.heap v (k v)) : Cmp prog w A s (tuples' true) (fun p => p.1 ∈ vs) (lt2 fun v u => HT.lexLt (k v) (k u)) := by
  intro p q hm hm'
  obtain ⟨a, xs, e, ⟨o, ho, hc, n, hd⟩, hi⟩ := hp _ hm
  obtain ⟨a', ys, e', ⟨o', ho', hc', n', hd'⟩, hi'⟩ := hp _ hm'
  show wpAny (model prog w) A (keyLt' (tuples' true) p.1 q.1) (fun r s' => s' = s ∧ r = HT.lexLt (k p.1) (k q.1)) (fun _ _ => False) s
  generalize k p.1 = ns at hi ⊢
  generalize k q.1 = ms at hi' ⊢
  rw [e, e']
  refine PySem.W.kat_lt ho hd ho' hd' (lex_any 0 hi hi' ?_ rfl)
  have z1 : xs.size = ns.length := by rw [← hi.length]; simp
  have z2 : ys.size = ms.length := by rw [← hi'.length]; simp
  rw [z1, z2]
theorem tups_firsts {h : Heap} {k : Value → List Int} : ∀ {vs : List Value}, (∀ v ∈ vs, TS.TupInts h v (k v) ∧ k v ≠ []) → ∃ fs, PySem.W.KatTups h vs fs ∧ fs.length = vs.length ∧ ∀ f ∈ fs, ∃ x t, f = Value.int x t
  | [], _ => ⟨[], PySem.W.KatTups.nil, rfl, fun f hf => absurd hf (by simp)⟩
  | v :: vs, hp => by
    obtain ⟨fs, h1, h2, h3⟩ := tups_firsts fun u hu => hp u (List.mem_cons_of_mem _ hu)
    obtain ⟨⟨a, xs, e, ⟨o, ho, hc, n, hd⟩, hi⟩, hne⟩ := hp v List.mem_cons_self
    cases hk : k v with
    | nil => exact absurd hk hne
    | cons x r =>
      rw [hk] at hi
      generalize hxs : xs.toList = l at hi
      cases hi with
      | cons n0 t0 r0 =>
        have h0 : xs[0]? = some (Value.int x t0) := by
          have : xs.toList[0]? = some (Value.int x t0) := by rw [hxs]; rfl
          simpa using this
        subst e
        refine ⟨Value.int x t0 :: fs, PySem.W.KatTups.cons ho hc hd h0 h1, by rw [List.length_cons, List.length_cons, h2], fun f hf => ?_⟩
        rcases List.mem_cons.mp hf with rfl | hf
        · exact ⟨_, _, rfl⟩
        · exact h3 f hf
theorem tups_sortable {a : Addr} {vs : List Value} {k : Value → List Int} (h0 : 0 < vs.length) (hp : ∀ v ∈ vs, TS.TupInts s.heap v (k v) ∧ k v ≠ []) (ha : ∀ o, s.heap.get? a = some o → o.cls ≠ .type "tuple") : SortableO prog w A s a vs fun v u => HT.lexLt (k v) (k u) := by
  intro h' keep
  have hp' : ∀ v ∈ vs, TS.TupInts h' v (k v) ∧ k v ≠ [] := fun v hm => ⟨(hp v hm).1.keeps fun b o e c => keep b o (fun z => by subst z; exact ha o e c) e, (hp v hm).2⟩
  obtain ⟨fs, h1, h2, h3⟩ := tups_firsts hp'
  refine ⟨tuples' true, fun Q E hq => ?_, tups_cmp fun v hv => (hp' v hv).1⟩
  refine PySem.W.kat_kind (T := .type "int") h1 (by omega) (fun f hm => ?_) (by rfl) ?_
  · obtain ⟨x, t, rfl⟩ := h3 f hm
    exact PySem.W.Looks.now
  · have e : (Value.type "int" != Value.type "tuple") = true := by first | decide +kernel | rfl | decide
    rw [e]
    exact hq
end
def rSortTup (K : PySem.W.Frag) : List V → Hp → VK → Prop := fun vs H Q => ∃ (a : Addr) (xs : List V) (k : V → List Int), vs = [V.ref a] ∧ SqL K H a xs ∧ (∀ x ∈ xs, (∃ t, x = V.ref t ∧ H t = some (.tup ((k x).map V.int))) ∧ k x ≠ []) ∧
  ∀ ys p, Srtd (fun x y => HT.lexLt (k x) (k y)) ys → ys.Perm xs → H p = none → Q (.ref p) (upd H p (.lst ys))
theorem cr_sortTup {X : Cx} : CallR X (.builtin "sorted") (rSortTup X.K) := by
  intro pins s σ H vs us Q I r h
  obtain ⟨a, xs, k, rfl, hs, hx, q⟩ := h
  obtain ⟨its, rv, hl, hz⟩ := I.list hs
  rw [Vals.ref1 r]
  obtain ⟨e1, e2⟩ := refs_back rv fun x m => by
    obtain ⟨⟨t, e, _⟩, _⟩ := hx x m
    exact ⟨t, e⟩
  have hp : ∀ v ∈ its, TS.TupInts s.heap v (k (backV v)) ∧ k (backV v) ≠ [] := fun v hv => by
    obtain ⟨t, rfl⟩ := e2 v hv
    have hm : V.ref t ∈ xs := by rw [e1]; exact List.mem_map.mpr ⟨_, hv, rfl⟩
    obtain ⟨⟨t', e, ht⟩, hne⟩ := hx _ hm
    cases e
    exact ⟨tupI_raw I (SqT.of ht), hne⟩
  refine SrtO.sorted_ord (ltv := fun v u => HT.lexLt (k (backV v)) (k (backV u))) (NtL.swo_lexL fun v => k (backV v)) hl.isList (by rw [← rv.length]; exact hz) (fun h2 h₁ a' ha kk => ?_) fun out hs hb => ?_
  · refine tups_sortable (s := { s with heap := h₁ }) (by omega) (fun v hm => ⟨(hp v hm).1.keeps fun b o e _ => (kk b o e).2, (hp v hm).2⟩) fun o e => ?_
    have e' : some o = some (seqObj "list" its.toArray 0) := e.symm.trans ha
    cases e'
    intro c
    exact absurd (Value.type.inj c) (by decide)
  · obtain ⟨ep, he'⟩ := PyProof.Rows.sortedAll_at s.heap its out.toArray
    have h3 : ∀ u ∈ out, ∃ a, u = Value.ref a := fun u hu => e2 u (hb.perm.mem_iff.mp hu)
    have hpm : (out.map backV).Perm xs := by
      rw [e1]
      exact hb.perm.map backV
    have hlen : (out.map backV).length ≤ sizeLine := by
      rw [hpm.length_eq]
      exact hz
    exact ⟨.ref _, upd H (s.heap.objs.size + 1) (.lst (out.map backV)), I.laid (t' := s.toks) (fun _ _ => PyProof.Rows.sortedAll_old) (Nat.le_succ _) ⟨hlen, out, ep, vals_back h3, he'⟩, rfl, q _ _ (SrtO.srtd_map hs) hpm (I.hok.fresh (Nat.le_succ _))⟩
end GX
set_option Elab.async false
set_option linter.all false
set_option maxRecDepth 100000
set_option maxHeartbeats 4000000
/-! What leads from a wire down, past no stop. -/
namespace GX
open PySem PySem.Spec PyProof.Rows L2
inductive Rc (n : Net) (st : List Nat) (w j : Nat) : Nat → Prop
  | here : w ∉ st → Rc n st w j w
  | step {g p : Nat} {k : Nat × Nat × Nat} : Rc n st w j g → n.many ≤ g → j ≤ g → n.gates[g - n.many]? = some k → (p = k.2.1 ∨ p = k.2.2) → p ∉ st → Rc n st w j p
theorem place_lt {n : Net} (ok : n.Ok) {g p : Nat} {k : Nat × Nat × Nat} (hg : n.many ≤ g) (hk : n.gates[g - n.many]? = some k) (hp : p = k.2.1 ∨ p = k.2.2) : p < g := by
  obtain ⟨_, h1, h2⟩ := ok.gs _ _ hk
  rcases hp with rfl | rfl <;> omega
theorem Rc.le {n : Net} (ok : n.Ok) {st : List Nat} {w j y : Nat} (h : Rc n st w j y) : y ≤ w := by
  induction h with
  | here _ => exact Nat.le_refl _
  | step _ hg _ hk hp _ ih => exact Nat.le_trans (Nat.le_of_lt (place_lt ok hg hk hp)) ih
theorem Rc.free {n : Net} {st : List Nat} {w j y : Nat} (h : Rc n st w j y) : y ∉ st := by cases h <;> assumption
theorem Rc.mono {n : Net} {st : List Nat} {w j i y : Nat} (h : Rc n st w j y) (l : i ≤ j) : Rc n st w i y := by
  induction h with
  | here e => exact .here e
  | step _ hg hj hk hp hs ih => exact .step ih hg (Nat.le_trans l hj) hk hp hs
theorem Rc.low {n : Net} {st : List Nat} {w j y : Nat} (h : Rc n st w j y) : Rc n st w n.many y := by
  induction h with
  | here e => exact .here e
  | step _ hg hj hk hp hs ih => exact .step ih hg hg hk hp hs
theorem Rc.low_iff {n : Net} {st : List Nat} {w j y : Nat} (l : j ≤ n.many) : Rc n st w j y ↔ Rc n st w n.many y := ⟨Rc.low, fun h => h.mono l⟩
theorem Rc.down {n : Net} (ok : n.Ok) {st : List Nat} {w g y : Nat} {k : Nat × Nat × Nat} (hg : n.many ≤ g) (hk : n.gates[g - n.many]? = some k) :
    Rc n st w g y ↔ Rc n st w (g + 1) y ∨ (Rc n st w (g + 1) g ∧ (y = k.2.1 ∨ y = k.2.2) ∧ y ∉ st) := by
  refine ⟨fun h => ?_, fun h => ?_⟩
  · induction h with
    | here e => exact .inl (.here e)
    | @step g' p k' h1 hg' hj hk' hp hs ih =>
      by_cases e : g' = g
      · subst e
        have ek : k' = k := by
          rw [hk] at hk'
          exact (Option.some.inj hk').symm
        subst ek
        rcases ih with ih | ⟨_, ih, _⟩
        · exact .inr ⟨ih, hp, hs⟩
        · exact absurd (place_lt ok hg hk ih) (Nat.lt_irrefl _)
      · rcases ih with ih | ⟨_, ih, _⟩
        · exact .inl (.step ih hg' (by omega) hk' hp hs)
        · have := place_lt ok hg hk ih
          omega
  · rcases h with h | ⟨h, hp, hs⟩
    · exact h.mono (Nat.le_succ g)
    · exact .step (h.mono (Nat.le_succ g)) hg (Nat.le_refl _) hk hp hs
/-- an input, or below the last gate: nothing goes on above -/
theorem Rc.high {n : Net} (ok : n.Ok) {st : List Nat} {w y : Nat} : Rc n st w (w + 1) y ↔ y = w ∧ w ∉ st := by
  refine ⟨fun h => ?_, fun h => by rw [h.1]; exact .here h.2⟩
  cases h with
  | here e => exact ⟨rfl, e⟩
  | step h1 hg hj hk hp hs =>
    have := h1.le ok
    omega
theorem inV_n (x : Nat) (st : List Nat) : inV (nV x) (st.map nV) = decide (x ∈ st) := by
  unfold inV
  rw [List.any_map]
  induction st with
  | nil => rfl
  | cons y r ih =>
    rw [List.any_cons, ih]
    have e : ((fun y => eqV y (nV x)) ∘ nV) y = decide (x = y) := by
      show eqV (nV y) (nV x) = decide (x = y)
      unfold eqV
      by_cases h : x = y
      · subst h
        rw [decide_eq_true (rfl : x = x)]
        exact decide_eq_true rfl
      · rw [decide_eq_false h]
        refine decide_eq_false fun z => h ?_
        have z' : ((y : Nat) : Int) = (x : Int) := z
        omega
    rw [e, ← Bool.decide_or]
    congr 1
    exact propext List.mem_cons.symm
theorem flat_ns (st : List Nat) : (st.map nV).all flatV = true := by
  rw [List.all_map, List.all_eq_true]
  intro x _
  rfl
theorem ix_n {len x : Nat} (h : x < len) : ixN len (x : Int) = some x := by
  have e := atI_nat (xs := List.range len) (j := x) (v := x) (by rw [List.getElem?_range h])
  unfold atI at e
  rw [List.length_range] at e
  cases q : ixN len (x : Int) with
  | none => rw [q] at e; cases e
  | some j =>
    rw [q] at e
    have e' : (List.range len)[j]? = some x := e
    obtain ⟨h1, h2⟩ := List.getElem?_eq_some_iff.mp e'
    rw [List.getElem_range] at h2
    rw [h2]
/-- rising, unlike: told by its members -/
theorem rise_eq : ∀ {xs ys : List Nat}, xs.Pairwise (· < ·) → ys.Pairwise (· < ·) → (∀ z, z ∈ xs ↔ z ∈ ys) → xs = ys
  | [], [], _, _, _ => rfl
  | [], y :: ys, _, _, h => by cases (h y).mpr List.mem_cons_self
  | x :: xs, [], _, _, h => by cases (h x).mp List.mem_cons_self
  | x :: xs, y :: ys, hx, hy, h => by
    have hx1 := List.pairwise_cons.mp hx
    have hy1 := List.pairwise_cons.mp hy
    have e : x = y := by
      rcases List.mem_cons.mp ((h x).mp List.mem_cons_self) with e | e
      · exact e
      · rcases List.mem_cons.mp ((h y).mpr List.mem_cons_self) with e' | e'
        · exact e'.symm
        · have := hy1.1 _ e
          have := hx1.1 _ e'
          omega
    subst e
    refine congrArg _ (rise_eq hx1.2 hy1.2 fun z => ⟨fun hz => ?_, fun hz => ?_⟩)
    · rcases List.mem_cons.mp ((h z).mp (List.mem_cons_of_mem _ hz)) with e | e
      · have := hx1.1 _ hz
        omega
      · exact e
    · rcases List.mem_cons.mp ((h z).mpr (List.mem_cons_of_mem _ hz)) with e | e
      · have := hy1.1 _ hz
        omega
      · exact e
/-- the wires reached, rising -/
def Rset (n : Net) (st : List Nat) (w : Nat) (xs : List Nat) : Prop := xs.Pairwise (· < ·) ∧ ∀ y, y ∈ xs ↔ Rc n st w n.many y
theorem Rset.eq {n : Net} {st : List Nat} {w : Nat} {xs ys : List Nat} (a : Rset n st w xs) (b : Rset n st w ys) : xs = ys := rise_eq a.1 b.1 fun z => (a.2 z).trans (b.2 z).symm
/-- marks -/
def MarkOk (n : Net) (st : List Nat) (w j : Nat) (ms : List Bool) : Prop := ms.length = n.many + n.gates.length ∧ ∀ y, y < ms.length → (ms.getD y false = true ↔ Rc n st w j y)
theorem getD_set {ms : List Bool} {i y : Nat} {b : Bool} (h : i < ms.length) : (ms.set i b).getD y false = if y = i then b else ms.getD y false := by
  rw [List.getD_eq_getElem?_getD, List.getD_eq_getElem?_getD]
  by_cases e : y = i
  · subst e
    rw [if_pos rfl, List.getElem?_set_self h]
    rfl
  · rw [if_neg e, List.getElem?_set_ne (fun z => e z.symm)]
theorem mark_at {ms : List Bool} {i : Nat} (h : i < ms.length) : (ms.map V.bl)[i]? = some (.bl (ms.getD i false)) := by
  rw [List.getElem?_map, List.getD_eq_getElem?_getD, List.getElem?_eq_getElem h]
  rfl
def picked (ms : List Bool) : List Nat := (List.range ms.length).filter fun i => ms.getD i false
theorem picked_rise (ms : List Bool) : (picked ms).Pairwise (· < ·) := List.Pairwise.filter _ List.pairwise_lt_range
theorem picked_take (ms : List Bool) (i : Nat) : ((List.range (i + 1)).filter fun i => ms.getD i false) = ((List.range i).filter fun i => ms.getD i false) ++ (if ms.getD i false = true then [i] else []) := by
  rw [List.range_succ, List.filter_append]
  congr 1
  rw [List.filter_cons]
  rfl
theorem mark_set {n : Net} (ok : n.Ok) {st : List Nat} {w : Nat} {ms : List Bool} (hw : w < n.many + n.gates.length) (h : MarkOk n st w n.many ms) : Rset n st w (picked ms) := by
  refine ⟨picked_rise ms, fun y => ?_⟩
  unfold picked
  rw [List.mem_filter, List.mem_range]
  refine ⟨fun ⟨h1, h2⟩ => (h.2 y h1).mp h2, fun r => ?_⟩
  have := r.le ok
  have hl : y < ms.length := by rw [h.1]; omega
  exact ⟨hl, (h.2 y hl).mpr r⟩
theorem mark_down {n : Net} (ok : n.Ok) {st : List Nat} {w g : Nat} {k : Nat × Nat × Nat} {ms : List Bool} (hg : n.many ≤ g) (hk : n.gates[g - n.many]? = some k) (h : MarkOk n st w (g + 1) ms) (hm : ms.getD g false = true) :
    MarkOk n st w g ((ms.set k.2.1 (!decide (k.2.1 ∈ st))).set k.2.2 (!decide (k.2.2 ∈ st))) := by
  have hgl : g < ms.length := by
    rw [h.1]
    have := (List.getElem?_eq_some_iff.mp hk).1
    omega
  have p1 := place_lt ok hg hk (.inl rfl)
  have p2 := place_lt ok hg hk (.inr rfl)
  have rg := (h.2 g hgl).mp hm
  have flip : ∀ y, (y = k.2.1 ∨ y = k.2.2) → ((!decide (y ∈ st)) = true ↔ Rc n st w g y) := fun y hy => by
    rw [Rc.down ok hg hk]
    by_cases e : y ∈ st
    · rw [decide_eq_true e]
      refine ⟨fun z => (by cases z), fun z => ?_⟩
      rcases z with z | ⟨_, _, z⟩
      · exact absurd e z.free
      · exact absurd e z
    · rw [decide_eq_false e]
      exact ⟨fun _ => .inr ⟨rg, hy, e⟩, fun _ => rfl⟩
  refine ⟨by rw [List.length_set, List.length_set]; exact h.1, fun y hy => ?_⟩
  rw [List.length_set, List.length_set] at hy
  rw [getD_set (by rw [List.length_set]; omega)]
  by_cases e2 : y = k.2.2
  · rw [if_pos e2, e2]
    exact flip _ (.inr rfl)
  · rw [if_neg e2, getD_set (by omega)]
    by_cases e1 : y = k.2.1
    · rw [if_pos e1, e1]
      exact flip _ (.inl rfl)
    · rw [if_neg e1, h.2 y hy, Rc.down ok hg hk]
      refine ⟨.inl, fun z => ?_⟩
      rcases z with z | ⟨_, z, _⟩
      · exact z
      · rcases z with z | z
        · exact absurd z e1
        · exact absurd z e2
theorem mark_skip {n : Net} (ok : n.Ok) {st : List Nat} {w g : Nat} {k : Nat × Nat × Nat} {ms : List Bool} (hg : n.many ≤ g) (hk : n.gates[g - n.many]? = some k) (h : MarkOk n st w (g + 1) ms) (hm : ¬ ms.getD g false = true) :
    MarkOk n st w g ms := by
  have hgl : g < ms.length := by
    rw [h.1]
    have := (List.getElem?_eq_some_iff.mp hk).1
    omega
  refine ⟨h.1, fun y hy => ?_⟩
  rw [h.2 y hy, Rc.down ok hg hk]
  refine ⟨.inl, fun z => ?_⟩
  rcases z with z | ⟨z, _, _⟩
  · exact z
  · exact absurd ((h.2 g hgl).mpr z) hm
theorem mark_first {n : Net} (ok : n.Ok) {st : List Nat} {w : Nat} (hw : w < n.many + n.gates.length) : MarkOk n st w (w + 1) ((List.replicate (n.many + n.gates.length) false).set w (!decide (w ∈ st))) := by
  refine ⟨by rw [List.length_set, List.length_replicate], fun y hy => ?_⟩
  rw [getD_set (by rw [List.length_replicate]; exact hw), Rc.high ok]
  by_cases e : y = w
  · subst e
    rw [if_pos rfl]
    by_cases h : y ∈ st
    · rw [decide_eq_true h]
      exact ⟨fun z => (by cases z), fun z => absurd h z.2⟩
    · rw [decide_eq_false h]
      exact ⟨fun _ => ⟨rfl, h⟩, fun _ => rfl⟩
  · rw [if_neg e, List.getD_eq_getElem?_getD, List.getElem?_replicate]
    refine ⟨fun z => ?_, fun z => absurd z.1 e⟩
    split at z <;> cases z
/-- ways -/
structure Way (n : Net) (w : Nat) (xs : List Nat) : Prop where
  ne : 0 < xs.length
  lt : ∀ x ∈ xs, x < n.many + n.gates.length
  first : xs.getD 0 0 < n.many
  last : xs.getD (xs.length - 1) 0 = w
  steps : ∀ i, i + 1 < xs.length → n.many ≤ xs.getD (i + 1) 0 ∧ ∃ k, n.gates[xs.getD (i + 1) 0 - n.many]? = some k ∧ (xs.getD i 0 = k.2.1 ∨ xs.getD i 0 = k.2.2)
theorem walk_zipT {K : PySem.W.Frag} {a b : Addr} {xs ys : List V} {n : Nat} (hn : n = min xs.length ys.length) : Walk (RZ.ItzT K a b) n (fun H => SqT K H a xs ∧ SqT K H b ys) (YPair (fun i => xs[i]?) (fun i => ys[i]?)) := by
  subst hn
  refine ⟨fun i _ hi q => ?_, fun _ q => ⟨xs, ys, q.1, q.2, by omega⟩, fun i H v H' _ q y => ?_⟩
  · exact ⟨xs, ys, xs[i]'(by omega), ys[i]'(by omega), q.1, q.2, List.getElem?_eq_getElem _, List.getElem?_eq_getElem _⟩
  · obtain ⟨T, x, z, g1, g2, g3, g4, g5⟩ := y
    exact ⟨T, x, z, g1, g2, g3, g4 xs q.1, g5 ys q.2⟩
end GX
set_option Elab.async false
set_option linter.all false
set_option maxRecDepth 100000
set_option maxHeartbeats 4000000
/-! Lists of the wires reached; ways put together. -/
namespace GX
open PySem PySem.Spec PyProof.Rows L2
theorem nodup_len : ∀ {xs ys : List Nat}, xs.Nodup → (∀ x ∈ xs, x ∈ ys) → xs.length ≤ ys.length
  | [], _, _, _ => Nat.zero_le _
  | x :: xs, ys, h, s => by
    have h1 := List.nodup_cons.mp h
    have hx := s x List.mem_cons_self
    have ih := nodup_len (ys := ys.erase x) h1.2 fun z hz => (List.mem_erase_of_ne (fun e => h1.1 (by rw [← e]; exact hz))).mpr (s z (List.mem_cons_of_mem _ hz))
    rw [List.length_erase_of_mem hx] at ih
    have : 0 < ys.length := List.length_pos_of_mem hx
    rw [List.length_cons]
    omega
theorem nodup_lt {xs : List Nat} {m : Nat} (h : xs.Nodup) (s : ∀ x ∈ xs, x < m) : xs.length ≤ m := by
  have := nodup_len (ys := List.range m) h fun x hx => List.mem_range.mpr (s x hx)
  rwa [List.length_range] at this
theorem nodup_snoc {xs : List Nat} {x : Nat} (h : xs.Nodup) (n : x ∉ xs) : (xs ++ [x]).Nodup := by
  rw [List.nodup_append]
  refine ⟨h, by simp, fun a ha b hb => ?_⟩
  rw [List.mem_singleton.mp hb]
  exact fun e => n (by rw [← e]; exact ha)
theorem getD_pre {xs t : List Nat} {i : Nat} (h : i < xs.length) : (xs ++ t).getD i 0 = xs.getD i 0 := by
  rw [List.getD_eq_getElem?_getD, List.getD_eq_getElem?_getD, List.getElem?_append_left h]
theorem getD_mem {xs : List Nat} {i : Nat} (h : i < xs.length) : xs.getD i 0 ∈ xs := by
  rw [List.getD_eq_getElem?_getD, List.getElem?_eq_getElem h]
  exact List.getElem_mem h
theorem mem_getD {xs : List Nat} {x : Nat} (h : x ∈ xs) : ∃ i, i < xs.length ∧ xs.getD i 0 = x := by
  obtain ⟨i, hi, e⟩ := List.getElem_of_mem h
  exact ⟨i, hi, by rw [List.getD_eq_getElem?_getD, List.getElem?_eq_getElem hi]; exact e⟩
/-- found so far; the first k have been gone on from -/
structure LedOk (n : Net) (st : List Nat) (w : Nat) (xs : List Nat) (k : Nat) : Prop where
  nd : xs.Nodup
  rc : ∀ y ∈ xs, Rc n st w n.many y
  self : w ∉ st → w ∈ xs
  le : k ≤ xs.length
  done : ∀ j, j < k → n.many ≤ xs.getD j 0 → ∀ g, n.gates[xs.getD j 0 - n.many]? = some g → ∀ p, (p = g.2.1 ∨ p = g.2.2) → p ∉ st → p ∈ xs
theorem LedOk.all {n : Net} {st : List Nat} {w : Nat} {xs : List Nat} (h : LedOk n st w xs xs.length) (y : Nat) : y ∈ xs ↔ Rc n st w n.many y := by
  refine ⟨h.rc y, fun r => ?_⟩
  induction r with
  | here e => exact h.self e
  | step _ hg _ hk hp hs ih =>
    obtain ⟨i, hi, e⟩ := mem_getD ih
    exact h.done i hi (by rw [e]; exact hg) _ (by rw [e]; exact hk) _ hp hs
theorem LedOk.short {n : Net} (ok : n.Ok) {st : List Nat} {w : Nat} {xs : List Nat} {k : Nat} (hw : w < n.many + n.gates.length) (h : LedOk n st w xs k) : xs.length ≤ 24 := by
  have := nodup_lt (m := n.many + n.gates.length) h.nd fun x hx => by have := (h.rc x hx).le ok; omega
  have := ok.m8
  have := ok.g16
  omega
def isSt (n : Net) (x y : Nat) : Prop := n.many ≤ y ∧ ∃ k, n.gates[y - n.many]? = some k ∧ (x = k.2.1 ∨ x = k.2.2)
/-- from x (left out) up to w -/
structure Up (n : Net) (x w : Nat) (zs : List Nat) : Prop where
  lt : ∀ z ∈ zs, z < n.many + n.gates.length
  last : (x :: zs).getD zs.length 0 = w
  ch : ∀ i, i + 1 < (x :: zs).length → isSt n ((x :: zs).getD i 0) ((x :: zs).getD (i + 1) 0)
theorem Up.nil (n : Net) (w : Nat) : Up n w w [] := ⟨fun z hz => (by cases hz), rfl, fun i hi => (by simp at hi)⟩
theorem Up.cons {n : Net} {p x w : Nat} {zs : List Nat} (s : isSt n p x) (hx : x < n.many + n.gates.length) (u : Up n x w zs) : Up n p w (x :: zs) := by
  refine ⟨fun z hz => ?_, ?_, fun i hi => ?_⟩
  · rcases List.mem_cons.mp hz with rfl | hz
    · exact hx
    · exact u.lt z hz
  · exact u.last
  · cases i with
    | zero => exact s
    | succ i => exact u.ch i (by simpa using hi)
/-- from some wire down to w, upward -/
structure Down (n : Net) (w : Nat) (xs : List Nat) : Prop where
  ne : 0 < xs.length
  lt : ∀ x ∈ xs, x < n.many + n.gates.length
  last : xs.getD (xs.length - 1) 0 = w
  steps : ∀ i, i + 1 < xs.length → isSt n (xs.getD i 0) (xs.getD (i + 1) 0)
theorem Down.one {n : Net} {w : Nat} (h : w < n.many + n.gates.length) : Down n w [w] := ⟨Nat.zero_lt_one, fun x hx => (by rw [List.mem_singleton.mp hx]; exact h), rfl, fun i hi => (by simp at hi)⟩
theorem Down.cons {n : Net} {w p : Nat} {xs : List Nat} (d : Down n w xs) (hp : p < n.many + n.gates.length) (s : isSt n p (xs.getD 0 0)) : Down n w (p :: xs) := by
  have h0 := d.ne
  refine ⟨by rw [List.length_cons]; omega, fun x hx => ?_, ?_, fun i hi => ?_⟩
  · rcases List.mem_cons.mp hx with rfl | hx
    · exact hp
    · exact d.lt x hx
  · rw [List.length_cons, show xs.length + 1 - 1 = (xs.length - 1) + 1 by omega]
    exact d.last
  · cases i with
    | zero => exact s
    | succ i => exact d.steps i (by simpa using hi)
theorem Down.way {n : Net} {w : Nat} {xs : List Nat} (d : Down n w xs) (h : xs.getD 0 0 < n.many) : Way n w xs := ⟨d.ne, d.lt, h, d.last, d.steps⟩
theorem getD_post {xs t : List Nat} {i : Nat} (h : xs.length ≤ i) : (xs ++ t).getD i 0 = t.getD (i - xs.length) 0 := by
  rw [List.getD_eq_getElem?_getD, List.getD_eq_getElem?_getD, List.getElem?_append_right h]
theorem Way.join {n : Net} {x w : Nat} {ys zs : List Nat} (a : Way n x ys) (u : Up n x w zs) : Way n w (ys ++ zs) := by
  have h0 := a.ne
  refine ⟨by rw [List.length_append]; omega, fun z hz => ?_, ?_, ?_, fun i hi => ?_⟩
  · rcases List.mem_append.mp hz with hz | hz
    · exact a.lt z hz
    · exact u.lt z hz
  · rw [getD_pre h0]
    exact a.first
  · have ul := u.last
    rw [List.length_append]
    cases zs with
    | nil =>
      rw [List.append_nil, List.length_nil, Nat.add_zero]
      have : x = w := ul
      rw [← this]
      exact a.last
    | cons z r =>
      rw [getD_post (by rw [List.length_cons]; omega), List.length_cons]
      rw [show ys.length + (r.length + 1) - 1 - ys.length = r.length by omega]
      exact ul
  · rw [List.length_append] at hi
    by_cases h1 : i + 1 < ys.length
    · rw [getD_pre h1, getD_pre (by omega)]
      exact a.steps i h1
    · by_cases h2 : i + 1 = ys.length
      · have e : ys.getD i 0 = x := by
          rw [show i = ys.length - 1 by omega]
          exact a.last
        have e1 : (ys ++ zs).getD i 0 = x := by rw [getD_pre (by omega), e]
        have e2 : (ys ++ zs).getD (i + 1) 0 = zs.getD 0 0 := by rw [getD_post (by omega), h2, Nat.sub_self]
        rw [e1, e2]
        cases zs with
        | nil => simp at hi; omega
        | cons z r => exact u.ch 0 (by simp)
      · have e1 : (ys ++ zs).getD i 0 = zs.getD (i - ys.length) 0 := getD_post (by omega)
        have e2 : (ys ++ zs).getD (i + 1) 0 = zs.getD (i + 1 - ys.length) 0 := getD_post (by omega)
        rw [e1, e2]
        have := u.ch (i - ys.length + 1) (by rw [List.length_cons]; omega)
        rw [show i + 1 - ys.length = i - ys.length + 1 by omega]
        exact this
end GX
set_option Elab.async false
set_option linter.all false
set_option maxRecDepth 100000
set_option maxHeartbeats 4000000
/-! Wires that tell a gate: going back from a cut. -/
namespace GX
open PySem PySem.Spec PyProof.Rows L2
theorem Rc.sub {n : Net} {st st' : List Nat} {w j y : Nat} (h : Rc n st' w j y) (s : ∀ z ∈ st, z ∈ st') : Rc n st w j y := by
  induction h with
  | here e => exact .here fun z => e (s _ z)
  | step _ hg hj hk hp hs ih => exact .step ih hg hj hk hp fun z => hs (s _ z)
/-- no input leads past them -/
def Sep (n : Net) (w : Nat) (st : List Nat) : Prop := ∀ y, Rc n st w n.many y → n.many ≤ y
theorem Sep.more {n : Net} {w : Nat} {st st' : List Nat} (h : Sep n w st) (s : ∀ z ∈ st, z ∈ st') : Sep n w st' := fun y r => h y (r.sub s)
theorem sep_first {n : Net} {w : Nat} {st : List Nat} {k : Nat × Nat × Nat} (hw : n.many ≤ w) (hk : n.gates[w - n.many]? = some k) (h : ∀ z, (z = k.2.1 ∨ z = k.2.2) → z ∈ st) : Sep n w st := by
  have all : ∀ y, Rc n st w n.many y → y = w := fun y r => by
    induction r with
    | here _ => rfl
    | step _ _ _ hk' hp hs ih =>
      subst ih
      rw [hk] at hk'
      cases hk'
      exact absurd (h _ hp) hs
  exact fun y r => by rw [all y r]; exact hw
theorem sep_step {n : Net} {w h : Nat} {st st' : List Nat} {k : Nat × Nat × Nat} (sep : Sep n w st) (hws : w ∉ st) (hh : n.many ≤ h) (hk : n.gates[h - n.many]? = some k) (keep : ∀ z ∈ st, z ≠ h → z ∈ st') (pl : ∀ z, (z = k.2.1 ∨ z = k.2.2) → z ∈ st') : Sep n w st' := by
  have all : ∀ y, Rc n st' w n.many y → Rc n st w n.many y ∨ y = h := fun y r => by
    induction r with
    | here _ => exact .inl (.here hws)
    | @step g p k' _ hg hj hk' hp hs ih =>
      rcases ih with ih | ih
      · by_cases e : p ∈ st
        · refine .inr (Classical.not_not.mp fun z => hs (keep p e z))
        · exact .inl (.step ih hg hj hk' hp e)
      · subst ih
        rw [hk] at hk'
        cases hk'
        exact absurd (pl _ hp) hs
  intro y r
  rcases all y r with a | a
  · exact sep y a
  · rw [a]
    exact hh
structure CutOk (n : Net) (gt : Nat) (ys : List Nat) : Prop where
  ne : 0 < ys.length
  lt : ∀ y ∈ ys, y < gt
  sep : Sep n gt ys
  rise : ys.Pairwise (· < ·)
theorem CutOk.short {n : Net} (ok : n.Ok) {gt : Nat} {ys : List Nat} (hg : gt < n.many + n.gates.length) (c : CutOk n gt ys) : ys.length ≤ 24 := by
  have := nodup_lt (m := n.many + n.gates.length) (c.rise.imp fun h => Nat.ne_of_lt h) fun y hy => by have := c.lt y hy; omega
  have := ok.m8
  have := ok.g16
  omega
theorem pos_of_mem {ys : List Nat} {y : Nat} (h : y ∈ ys) : 0 < ys.length := List.length_pos_of_mem h
end GX
set_option Elab.async false
set_option linter.all false
set_option maxRecDepth 100000
set_option maxHeartbeats 4000000
/-! Bits of numbers, as the texts write them. -/
namespace GX
open PySem PySem.Spec PyProof.Rows L2
theorem pt_truthK {X : Cx} {K : PySem.W.Frag} {a : Expr} {ta : TE} (ha : PE X a ta) (he : ∀ whole, isTrue a X.env whole = (do let v ← whole; standAt a.pos; holding [v] (truthy v))) (h : X.K = K := by rfl) : PT X a (fun σ H Q => ta σ H fun x H' => ∃ k, TruV K x H' k ∧ Q k H') := by subst h; exact pt_truth ha he
theorem natAt {l : List Nat} {i : Nat} (h : i < l.length) : (l.map nV)[i]? = some (nV (l.getD i 0)) := by
  rw [List.getElem?_map, List.getD_eq_getElem?_getD, List.getElem?_eq_getElem h]
  rfl
theorem mapV (xs : List Nat) : (xs.map fun n : Nat => (n : Int)).map V.int = xs.map nV := by
  rw [List.map_map]
  rfl
theorem dpNat (K : PySem.W.Frag) (H : Hp) : ∀ xs : List Nat, DpAll K H (xs.map nV) ((xs.map fun n : Nat => (n : Int)).map PyData.int)
  | [] => .nil
  | x :: r => .cons (.int _) (dpNat K H r)
theorem getSnoc {xs : List Nat} {x i : Nat} (h : i < xs.length) : (xs ++ [x]).getD i 0 = xs.getD i 0 := getD_pre h
theorem getLastN {xs : List Nat} {x : Nat} : (xs ++ [x]).getD xs.length 0 = x := by
  rw [List.getD_eq_getElem?_getD, List.getElem?_append_right (Nat.le_refl _), Nat.sub_self]
  rfl
theorem eqNats {xs ys : List Nat} (hl : xs.length = ys.length) (h : ∀ i, i < xs.length → xs.getD i 0 = ys.getD i 0) : xs = ys := by
  apply List.ext_getElem hl
  intro i h1 h2
  have := h i h1
  rw [List.getD_eq_getElem?_getD, List.getD_eq_getElem?_getD, List.getElem?_eq_getElem h1, List.getElem?_eq_getElem h2] at this
  exact this
/-- number >> place & 1 -/
theorem bit_of (r p : Nat) : Builtin.bitAnd (((r : Nat) : Int) / 2 ^ ((p : Nat) : Int).toNat) 1 = ((r / 2 ^ p % 2 : Nat) : Int) := by
  rw [bitAnd_m1, Int.toNat_natCast]
  norm_cast
theorem shl_of (p : Nat) : (1 : Int) * 2 ^ ((p : Nat) : Int).toNat = ((2 ^ p : Nat) : Int) := by
  rw [Int.toNat_natCast, Int.one_mul]
  norm_cast
theorem shl_of' (x p : Nat) : ((x : Nat) : Int) * 2 ^ ((p : Nat) : Int).toNat = ((x * 2 ^ p : Nat) : Int) := by
  rw [Int.toNat_natCast]
  norm_cast
theorem xor_of (x y : Nat) : Builtin.bitXor ((x : Nat) : Int) ((y : Nat) : Int) = ((x ^^^ y : Nat) : Int) := by
  have e : Builtin.bitAnd ((x : Nat) : Int) ((y : Nat) : Int) = ((x &&& y : Nat) : Int) := bitAnd_pp (by omega) (by omega)
  rw [bitXor_and, e]
  have h : x + y = (x ^^^ y) + 2 * (x &&& y) := by
    exact (Bits.nat_xor_add_and x y).symm
  omega
theorem bits_pow (m : Nat) : Builtin.Int.intBits (((2 ^ m : Nat)) : Int) = m + 1 := by
  apply Nat.le_antisymm
  · rw [intBits_le_iff, Int.natAbs_natCast]
    exact Nat.pow_lt_pow_right (by decide) (by omega)
  · refine Nat.lt_of_not_le fun h => ?_
    rw [intBits_le_iff, Int.natAbs_natCast] at h
    exact Nat.lt_irrefl _ h
/-- a number by its bit p: below, itself, above -/
theorem xor_pow (r p : Nat) : r ^^^ 2 ^ p = if r / 2 ^ p % 2 = 0 then r + 2 ^ p else r - 2 ^ p := by
  have hp : 0 < 2 ^ p := Nat.pow_pos (by decide)
  have hr : r % 2 ^ p < 2 ^ p := Nat.mod_lt _ hp
  have er : 2 ^ p * (r / 2 ^ p) + r % 2 ^ p = r := Nat.div_add_mod r (2 ^ p)
  generalize ha : r / 2 ^ p = a at er ⊢
  generalize hb : r % 2 ^ p = b at er hr
  have e2 : (if a % 2 = 0 then r + 2 ^ p else r - 2 ^ p) = 2 ^ p * (if a % 2 = 0 then a + 1 else a - 1) + b := by
    split
    · rw [Nat.mul_add, Nat.mul_one]
      omega
    · rename_i h
      obtain ⟨c, rfl⟩ : ∃ c, a = c + 1 := ⟨a - 1, by omega⟩
      rw [Nat.add_sub_cancel]
      rw [Nat.mul_add, Nat.mul_one] at er
      omega
  rw [e2]
  apply Nat.eq_of_testBit_eq
  intro j
  rw [Nat.testBit_xor, Nat.testBit_two_pow, Nat.testBit_two_pow_mul_add _ hr]
  conv => lhs; rw [← er, Nat.testBit_two_pow_mul_add _ hr]
  by_cases hj : j < p
  · rw [if_pos hj, if_pos hj, decide_eq_false (by omega), Bool.xor_false]
  · rw [if_neg hj, if_neg hj]
    by_cases hj2 : p = j
    · subst hj2
      rw [decide_eq_true rfl, Nat.sub_self, Nat.testBit_zero, Nat.testBit_zero]
      by_cases h0 : a % 2 = 0
      · rw [if_pos h0, decide_eq_false (by omega), decide_eq_true (by omega)]
        rfl
      · rw [if_neg h0, decide_eq_true (by omega), decide_eq_false (by omega)]
        rfl
    · rw [decide_eq_false hj2, Bool.xor_false]
      obtain ⟨k, hk⟩ : ∃ k, j - p = k + 1 := ⟨j - p - 1, by omega⟩
      rw [hk, Nat.testBit_add_one, Nat.testBit_add_one]
      congr 1
      split <;> omega
/-- a number with its bit p out -/
def clr (b p : Nat) : Nat := b - b / 2 ^ p % 2 * 2 ^ p
theorem clr_bit (b p j : Nat) : (clr b p).testBit j = (b.testBit j && decide (j ≠ p)) := by
  unfold clr
  have e := xor_pow b p
  by_cases h : b / 2 ^ p % 2 = 0
  · rw [h, Nat.zero_mul, Nat.sub_zero]
    by_cases hj : j = p
    · subst hj
      rw [Nat.testBit_eq_decide_div_mod_eq, decide_eq_false (by omega), Bool.false_and]
    · rw [decide_eq_true hj, Bool.and_true]
  · rw [if_neg h] at e
    rw [show b / 2 ^ p % 2 = 1 by omega, Nat.one_mul, ← e, Nat.testBit_xor, Nat.testBit_two_pow]
    by_cases hj : j = p
    · subst hj
      rw [decide_eq_true rfl, Nat.testBit_eq_decide_div_mod_eq, decide_eq_true (by omega), decide_eq_false (fun z => z rfl)]
      rfl
    · rw [decide_eq_false (fun z => hj z.symm), decide_eq_true hj, Bool.xor_false, Bool.and_true]
def clrs (st : List Nat) (b : Nat) : Nat := st.foldl clr b
theorem clrs_bit (st : List Nat) : ∀ b j : Nat, (clrs st b).testBit j = (b.testBit j && decide (j ∉ st)) := by
  induction st with
  | nil =>
    intro b j
    rw [decide_eq_true (List.not_mem_nil), Bool.and_true]
    rfl
  | cons p r ih =>
    intro b j
    show (clrs r (clr b p)).testBit j = _
    rw [ih, clr_bit, Bool.and_assoc]
    congr 1
    by_cases h1 : j = p
    · subst h1
      rw [decide_eq_false (fun z => z rfl), decide_eq_false (p := j ∉ j :: r) (fun z => z List.mem_cons_self), Bool.false_and]
    · rw [decide_eq_true h1, Bool.true_and]
      by_cases h2 : j ∈ r
      · rw [decide_eq_false (p := j ∉ r) (fun z => z h2), decide_eq_false (p := j ∉ p :: r) (fun z => z (List.mem_cons_of_mem _ h2))]
      · rw [decide_eq_true h2, decide_eq_true (p := j ∉ p :: r) (fun z => by rcases List.mem_cons.mp z with z | z <;> contradiction)]
theorem clr_le (b p : Nat) : clr b p ≤ b := Nat.sub_le _ _
theorem clrs_le (st : List Nat) : ∀ b, clrs st b ≤ b := by
  induction st with
  | nil => exact fun b => Nat.le_refl _
  | cons p r ih => exact fun b => Nat.le_trans (ih (clr b p)) (clr_le b p)
theorem clrs_idem (st : List Nat) (b : Nat) : clrs st (clrs st b) = clrs st b := by
  apply Nat.eq_of_testBit_eq
  intro j
  rw [clrs_bit, clrs_bit, Bool.and_assoc, Bool.and_self]
theorem clrs_xor {st : List Nat} {p : Nat} (h : p ∈ st) (b : Nat) : clrs st (b ^^^ 2 ^ p) = clrs st b := by
  apply Nat.eq_of_testBit_eq
  intro j
  rw [clrs_bit, clrs_bit, Nat.testBit_xor, Nat.testBit_two_pow]
  by_cases e : p = j
  · subst e
    rw [decide_eq_false (p := p ∉ st) (fun z => z h), Bool.and_false, Bool.and_false]
  · rw [decide_eq_false e, Bool.xor_false]
/-! ### idle places -/
def idleAt (xs : List Nat) (p : Nat) : Bool := (List.range xs.length).all fun r => decide (xs.getD r 0 = xs.getD (r ^^^ 2 ^ p) 0)
theorem idleAt_iff {xs : List Nat} {p : Nat} : idleAt xs p = true ↔ ∀ r, r < xs.length → xs.getD r 0 = xs.getD (r ^^^ 2 ^ p) 0 := by
  unfold idleAt
  rw [List.all_eq_true]
  exact ⟨fun h r hr => of_decide_eq_true (h r (List.mem_range.mpr hr)), fun h r hr => decide_eq_true (h r (List.mem_range.mp hr))⟩
def idles (xs : List Nat) (m : Nat) : List Nat := (List.range m).filter fun p => idleAt xs p
/-- .. by the lower ones alone -/
theorem idleAt_low {xs : List Nat} {m p : Nat} (hl : xs.length = 2 ^ m) (hp : p < m) : idleAt xs p = true ↔ ∀ r, r < xs.length → r / 2 ^ p % 2 = 0 → xs.getD r 0 = xs.getD (r + 2 ^ p) 0 := by
  rw [idleAt_iff]
  refine ⟨fun h r hr h0 => ?_, fun h r hr => ?_⟩
  · have := h r hr
    rw [xor_pow, if_pos h0] at this
    exact this
  · by_cases h0 : r / 2 ^ p % 2 = 0
    · rw [xor_pow, if_pos h0]
      exact h r hr h0
    · have e := xor_pow r p
      rw [if_neg h0] at e
      have lt : r ^^^ 2 ^ p < xs.length := by
        rw [hl] at hr ⊢
        exact Nat.xor_lt_two_pow hr (Nat.pow_lt_pow_right (by decide) hp)
      have hb : (r ^^^ 2 ^ p) / 2 ^ p % 2 = 0 := by
        have t : (r ^^^ 2 ^ p).testBit p = false := by
          rw [Nat.testBit_xor, Nat.testBit_two_pow, decide_eq_true rfl, Nat.testBit_eq_decide_div_mod_eq, decide_eq_true (by omega)]
          rfl
        rw [Nat.testBit_eq_decide_div_mod_eq] at t
        have := of_decide_eq_false t
        omega
      have q := h _ lt hb
      have back : (r ^^^ 2 ^ p) + 2 ^ p = r := by
        have h1 := xor_pow (r ^^^ 2 ^ p) p
        rw [if_pos hb, Nat.xor_assoc, Nat.xor_self, Nat.xor_zero] at h1
        exact h1.symm
      rw [back] at q
      exact q.symm
theorem add_pow_lt {r m p : Nat} (hr : r < 2 ^ m) (hp : p < m) (h0 : r / 2 ^ p % 2 = 0) : r + 2 ^ p < 2 ^ m := by
  have e := xor_pow r p
  rw [if_pos h0] at e
  rw [← e]
  exact Nat.xor_lt_two_pow hr (Nat.pow_lt_pow_right (by decide) hp)
theorem pow8 {m : Nat} (h : m ≤ 8) : 2 ^ m ≤ 256 := Nat.pow_le_pow_right (by decide) h
theorem small256 {n : Nat} (h : n ≤ 10000) : n < sizeLine := Nat.lt_of_le_of_lt h (by decide)
end GX
set_option Elab.async false
set_option linter.all false
set_option maxRecDepth 100000
set_option maxHeartbeats 4000000
/-! Tuples at a list of addresses. -/
namespace GX
open PySem PySem.Spec PyProof.Rows L2
def RefsAt {α : Type} (f : α → List V) (H : Hp) (ps : List Addr) (xs : List α) : Prop := ps.length = xs.length ∧ ∀ (i : Nat) (p : Addr) (x : α), ps[i]? = some p → xs[i]? = some x → H p = some (.tup (f x))
theorem atLast {xs : List V} {v : V} (h : xs[xs.length - 1]? = some v) : atI xs (-1) = some v := by
  have hl := (List.getElem?_eq_some_iff.mp h).1
  unfold atI
  have e : ixN xs.length (-1) = some (xs.length - 1) := by
    unfold ixN
    rw [if_neg (by decide)]
    first
      | rw [if_pos (by omega)]; congr 1; omega
      | simp; omega
  rw [e]
  exact h
section
variable {α : Type} {f : α → List V} {H H' : Hp} {ps : List Addr} {xs : List α}
theorem RefsAt.nil (f : α → List V) (H : Hp) : RefsAt f H [] [] := ⟨rfl, fun i p g e _ => by simp at e⟩
theorem RefsAt.mono (x : RefsAt f H ps xs) (k : ∀ b zs, H b = some (.tup zs) → H' b = some (.tup zs)) : RefsAt f H' ps xs := ⟨x.1, fun i p g e1 e2 => k _ _ (x.2 i p g e1 e2)⟩
theorem RefsAt.push {q : Addr} {y : α} (x : RefsAt f H ps xs) (h : H q = some (.tup (f y))) : RefsAt f H (ps ++ [q]) (xs ++ [y]) := by
  refine ⟨by rw [List.length_append, List.length_append, x.1]; rfl, fun i r g e1 e2 => ?_⟩
  by_cases hi : i < ps.length
  · rw [List.getElem?_append_left hi] at e1
    rw [List.getElem?_append_left (by rw [← x.1]; exact hi)] at e2
    exact x.2 i r g e1 e2
  · rw [List.getElem?_append_right (by omega)] at e1
    rw [List.getElem?_append_right (by rw [← x.1]; omega)] at e2
    have hz : i - ps.length = 0 := by
      obtain ⟨h1, _⟩ := List.getElem?_eq_some_iff.mp e1
      simp at h1
      omega
    rw [hz] at e1
    rw [← x.1, hz] at e2
    cases e1
    cases e2
    exact h
theorem RefsAt.at_ (x : RefsAt f H ps xs) {i : Nat} {v : V} (e : (ps.map V.ref)[i]? = some v) : ∃ q y, v = .ref q ∧ xs[i]? = some y ∧ H q = some (.tup (f y)) := by
  rw [List.getElem?_map] at e
  cases h : ps[i]? with
  | none => rw [h] at e; cases e
  | some q =>
    rw [h] at e
    cases e
    have h2 : i < xs.length := by rw [← x.1]; exact (List.getElem?_eq_some_iff.mp h).1
    exact ⟨q, xs[i], rfl, List.getElem?_eq_getElem h2, x.2 i q _ h (List.getElem?_eq_getElem h2)⟩
theorem RefsAt.get (x : RefsAt f H ps xs) {i : Nat} {y : α} (e : xs[i]? = some y) : ∃ q, (ps.map V.ref)[i]? = some (.ref q) ∧ H q = some (.tup (f y)) := by
  have h2 : i < ps.length := by rw [x.1]; exact (List.getElem?_eq_some_iff.mp e).1
  exact ⟨ps[i], by rw [List.getElem?_map, List.getElem?_eq_getElem h2]; rfl, x.2 i _ y (List.getElem?_eq_getElem h2) e⟩
end
end GX
namespace GX
open PySem PySem.Spec PyProof.Rows L2
/-- things of any make at a list of addresses -/
def PtsAt {α : Type} (R : Hp → Addr → α → Prop) (H : Hp) (ps : List Addr) (xs : List α) : Prop := ps.length = xs.length ∧ ∀ (i : Nat) (p : Addr) (x : α), ps[i]? = some p → xs[i]? = some x → R H p x
section
variable {α : Type} {R : Hp → Addr → α → Prop} {H H' : Hp} {ps : List Addr} {xs : List α}
theorem PtsAt.nil (R : Hp → Addr → α → Prop) (H : Hp) : PtsAt R H [] [] := ⟨rfl, fun i p g e _ => by simp at e⟩
theorem PtsAt.mono (x : PtsAt R H ps xs) (k : ∀ p y, R H p y → R H' p y) : PtsAt R H' ps xs := ⟨x.1, fun i p g e1 e2 => k _ _ (x.2 i p g e1 e2)⟩
theorem PtsAt.cons {q : Addr} {y : α} (x : PtsAt R H ps xs) (h : R H q y) : PtsAt R H (q :: ps) (y :: xs) := by
  refine ⟨by rw [List.length_cons, List.length_cons, x.1], fun i r g e1 e2 => ?_⟩
  cases i with
  | zero =>
    cases e1
    cases e2
    exact h
  | succ i => exact x.2 i r g e1 e2
theorem PtsAt.push {q : Addr} {y : α} (x : PtsAt R H ps xs) (h : R H q y) : PtsAt R H (ps ++ [q]) (xs ++ [y]) := by
  refine ⟨by rw [List.length_append, List.length_append, x.1]; rfl, fun i r g e1 e2 => ?_⟩
  by_cases hi : i < ps.length
  · rw [List.getElem?_append_left hi] at e1
    rw [List.getElem?_append_left (by rw [← x.1]; exact hi)] at e2
    exact x.2 i r g e1 e2
  · rw [List.getElem?_append_right (by omega)] at e1
    rw [List.getElem?_append_right (by rw [← x.1]; omega)] at e2
    have hz : i - ps.length = 0 := by
      obtain ⟨h1, _⟩ := List.getElem?_eq_some_iff.mp e1
      simp at h1
      omega
    rw [hz] at e1
    rw [← x.1, hz] at e2
    cases e1
    cases e2
    exact h
theorem PtsAt.at_ (x : PtsAt R H ps xs) {i : Nat} {v : V} (e : (ps.map V.ref)[i]? = some v) : ∃ q y, v = .ref q ∧ xs[i]? = some y ∧ R H q y := by
  rw [List.getElem?_map] at e
  cases h : ps[i]? with
  | none => rw [h] at e; cases e
  | some q =>
    rw [h] at e
    cases e
    have h2 : i < xs.length := by rw [← x.1]; exact (List.getElem?_eq_some_iff.mp h).1
    exact ⟨q, xs[i], rfl, List.getElem?_eq_getElem h2, x.2 i q _ h (List.getElem?_eq_getElem h2)⟩
theorem PtsAt.get (x : PtsAt R H ps xs) {i : Nat} {y : α} (e : xs[i]? = some y) : ∃ q, (ps.map V.ref)[i]? = some (.ref q) ∧ R H q y := by
  have h2 : i < ps.length := by rw [x.1]; exact (List.getElem?_eq_some_iff.mp e).1
  exact ⟨ps[i], by rw [List.getElem?_map, List.getElem?_eq_getElem h2]; rfl, x.2 i _ y (List.getElem?_eq_getElem h2) e⟩
end
end GX
set_option Elab.async false
set_option linter.all false
set_option maxRecDepth 100000
set_option maxHeartbeats 4000000
namespace GX
open PySem PySem.Spec PyProof.Rows L2
/-- the well, the tables stand; all else is kept -/
structure Dk (W : Addr) (Ts : List Addr) (H H' : Hp) : Prop where
  wl : Wl H' W
  tb : Tabs Ts H'
  kp : Keep (W :: Ts) H H'
theorem Dk.aft {W : Addr} {Ts : List Addr} {H H1 H2 : Hp} (d : Dk W Ts H H1) (a : Aft Ts H1 H2) : Dk W Ts H H2 := ⟨d.wl.keep a.kp (d.wl.tab d.tb), a.tb, d.kp.trans (a.kp.mono fun b hb => List.mem_cons_of_mem _ hb)⟩
theorem Dk.same {W : Addr} {Ts : List Addr} {H H1 H2 : Hp} (d : Dk W Ts H H1) (s : Same H1 H2) : Dk W Ts H H2 := d.aft (Aft.ofSame d.tb s)
theorem Wk.tabs {W : Addr} {Ts : List Addr} {H H1 : Hp} (wl : Wl H W) (tb : Tabs Ts H) (s : Wk W H H1) : Tabs Ts H1 := tb.keep s.kp fun b hb => by rw [List.mem_singleton.mp hb]; exact wl.tab tb
theorem Dk.draw {W : Addr} {Ts : List Addr} {H H1 H2 : Hp} (d : Dk W Ts H H1) (s : Wk W H1 H2) : Dk W Ts H H2 := ⟨s.wl, s.tabs d.wl d.tb, d.kp.trans (s.kp.mono fun b hb => by rw [List.mem_singleton.mp hb]; exact List.mem_cons_self)⟩
/-- a list of our own, made behind H, is changed -/
theorem Dk.put {W : Addr} {Ts : List Addr} {H H1 : Hp} {l : Addr} {o : HO} {xs : List V} (d : Dk W Ts H H1) (nl : H l = none) (hl : H1 l = some (.lst xs)) (nW : l ≠ W) : Dk W Ts H (upd H1 l o) :=
  ⟨by obtain ⟨x, y, z, e⟩ := d.wl; exact ⟨x, y, z, by rw [upd_ne (fun z => nW z.symm)]; exact e⟩, d.tb.upd (d.tb.lst hl), fun b u e n => by rw [upd_ne (ne_of_none e nl)]; exact d.kp b u e n⟩
theorem Dk.was {W : Addr} {Ts : List Addr} {H H1 : Hp} {l : Addr} (d : Dk W Ts H H1) (n : H1 l = none) : H l = none ∧ l ≠ W := by
  have hW : l ≠ W := fun z => by
    obtain ⟨_, _, _, e⟩ := d.wl
    rw [← z, n] at e
    cases e
  refine ⟨?_, hW⟩
  cases e : H l with
  | none => rfl
  | some u =>
    have := d.kp _ _ e fun z => by
      rcases List.mem_cons.mp z with z | z
      · exact hW z
      · exact d.tb.none n z
    rw [n] at this
    cases this
theorem Wk.put' {W : Addr} {H H' : Hp} {l : Addr} {o : HO} (s : Wk W H H') (nl : H l = none) (nW : l ≠ W) : Wk W H (upd H' l o) := by
  obtain ⟨⟨a, b, c, e⟩, k⟩ := s
  exact ⟨⟨a, b, c, by rw [upd_ne (Ne.symm nW)]; exact e⟩, fun b u e hb => by rw [upd_ne (ne_of_none e nl)]; exact k b u e hb⟩
theorem Wk.was' {W : Addr} {H H' : Hp} {l : Addr} (s : Wk W H H') (n : H' l = none) : H l = none ∧ l ≠ W := by
  obtain ⟨⟨a, b, c, e⟩, k⟩ := s
  have hW : l ≠ W := fun z => by
    rw [← z, n] at e
    cases e
  refine ⟨?_, hW⟩
  cases e : H l with
  | none => rfl
  | some u =>
    have := k _ _ e fun z => hW (List.mem_singleton.mp z)
    rw [n] at this
    cases this
theorem Wk.ats {W : Addr} {H H' : Hp} {l : Addr} {o : HO} (k : Keep [W] H H') (nW : l ≠ W) (e : H l = some o) : H' l = some o := k _ _ e fun z => nW (List.mem_singleton.mp z)
def natOf (σ : L2.St) (i : Nat) : Nat := match σ[i]? with
  | some (some (V.int z)) => z.toNat
  | _ => 0
def lenOf (σ : L2.St) (H : Hp) (i : Nat) : Nat := match σ[i]? with
  | some (some (V.ref l)) => match H l with
    | some (HO.lst xs) => xs.length
    | _ => 0
  | _ => 0
end GX
set_option Elab.async false
set_option linter.all false
set_option maxRecDepth 100000
set_option maxHeartbeats 4000000
/-! list(reversed(xs)), xs a list. -/
namespace GX
open PySem PySem.Spec PyProof.Rows L2 RT
section
variable {P : Program} {w : World} {A : Around} {E : Value → Shared → Prop} {s : Shared}
/-- what is taken off a list from behind -/
abbrev BackOf (its : Array Value) (i : Nat) (v : Value) : Prop := its[its.size - 1 - i]? = some v
theorem ext_rev {R : Result → Shared → Prop} {it l S : Addr} {its : Array Value} {res : Value} {c0 : Nat} (hh : A.handled = none) (r : s.heap.IsRevIter it l ((its.size : Int) - 1)) (hl : s.heap.IsList l its) (ne : l ≠ it) (hz : its.size ≤ sizeLine)
    (nI : S ≠ it) (nl : S ≠ l) (hS : s.heap.get? S = some { cls := .type "list", data := .seq #[] c0 })
    (q : ∀ g tk acc c, (∀ b o, b ≠ S → b ≠ it → s.heap.get? b = some o → g.get? b = some o) → g.get? S = some { cls := .type "list", dict := none, data := .seq acc c, slots := #[] } → ItemsOf (BackOf its) acc its.size → R (.ok (.ret res)) { s with heap := g, toks := tk }) :
    wpAny (model P w) A.in1 (Builtin.List.listExtendWith (.ref S) (.ref it) res)
      (fun fin t => match fin with | .done f => R (.ok f) t | .again c' => c'.quiet = true ∧ codeAny (model P w) A c' R t) (fun e t => R (.error e) t) s := by
  have wk := (Walks.listRev (prog := P) (w := w) (A := A.in1) hh it l ne its).toS
  have ty : s.TypeIs (.ref it) "list_reverseiterator" := r.typeIs
  have nf : S ∉ [it, l] := fun z => by
    rcases List.mem_cons.mp z with z | z
    · exact nI z
    · exact nl (List.mem_singleton.mp z)
  have ns : Builtin.List.listSameRef (.ref S) (.ref it) = false := by simp [Builtin.List.listSameRef, nI]
  unfold Builtin.List.listExtendWith
  refine wpAny_bind (wpAny_typeOf ty ?_)
  rw [if_neg (by rw [ns]; decide)]
  refine wpAny_bind (wpAny_pyIter_revIter r ?_)
  refine wpAny_bind (wpAny_holding ?_)
  unfold Builtin.List.listLengthHint
  refine wpAny_bind (wpAny_specialOf ty nolen_lri ?_)
  show wpAny _ A.in1 (specialOf (Value.ref it) (Str.ofString "__length_hint__") >>= _) _ _ s
  refine wpAny_bind (wpAny_specialOf ty hint_lri ?_)
  generalize hj : ("list_reverseiterator.__length_hint__" : String) = j
  wp_delta
  rw [show splitId j = some ("list_reverseiterator", "__length_hint__") from by subst hj; decide +kernel]
  subst hj
  refine wpAny_bind (wpAny_isInstance (b := true) ty (by rw [isSubtype_type]; kernel_rfl) ?_)
  refine wpAny_pure ?_
  rw [if_neg (by decide)]
  have z0 : ((its.size : Nat) : Int) - 1 - ((0 : Nat) : Int) = (its.size : Int) - 1 := by omega
  refine wpAny_pure ⟨plainId_quiet F.plain_extend_loop _, codeAny_extend_loopS wk hz S nf res its.size 0 s #[] c0 rfl (Nat.zero_le _) ⟨Nat.zero_le _, by rw [z0]; exact r, hl⟩ hS (ItemsOf.nil _) fun t acc c mv hS' hi => ?_⟩
  rw [Moved.eq_with mv]
  refine q t.heap t.toks acc c (fun b o h1 h2 e => mv.heap b o (fun z => ?_) e) hS' hi
  rcases List.mem_cons.mp z with z | z
  · exact h1 z
  · exact h2 (List.mem_singleton.mp z)
theorem call_list_rev {it l : Addr} {its : Array Value} {Q : Value → Shared → Prop} (hh : A.handled = none) (r : s.heap.IsRevIter it l ((its.size : Int) - 1)) (hl : s.heap.IsList l its) (ne : l ≠ it) (hz : its.size ≤ sizeLine)
    (q : ∀ g tk acc c, (∀ b o, b ≠ it → s.heap.get? b = some o → g.get? b = some o) → g.get? s.heap.objs.size = some { cls := .type "list", dict := none, data := .seq acc c, slots := #[] } → ItemsOf (BackOf its) acc its.size → Q (.ref s.heap.objs.size) { s with heap := g, toks := tk }) :
    wpAny (model P w) A (call (.type "list") [.ref it]) Q E s := by
  have n1 : s.heap.objs.size ≠ it := by obtain ⟨o, h, _⟩ := id r; exact Nat.ne_of_gt (Heap.lt_size h)
  have n2 : s.heap.objs.size ≠ l := by obtain ⟨o, h, _⟩ := id hl; exact Nat.ne_of_gt (Heap.lt_size h)
  refine callType_codes (Q₁ := fun v t => v = .ref s.heap.objs.size ∧ t = { s with heap := s.heap.push { cls := .type "list", data := .seq #[] } }) F.called_list (F.typeCall_list_1 _) F.entry_list_init
    (code_list_new _ ⟨rfl, rfl⟩) fun v t ht => ?_
  obtain ⟨rfl, rfl⟩ := ht
  have e0 : (s.heap.push { cls := .type "list", data := .seq #[] }).get? s.heap.objs.size = some { cls := .type "list", data := .seq #[] } := Heap.get?_push_size _ rfl
  refine ⟨⟨_, e0, rfl⟩, F.args_list_init_2 _ _, ?_⟩
  show wpAny _ A.in1.in1 (do let x ← Builtin.List.listItems (.ref s.heap.objs.size); Builtin.List.listUpdate (.ref s.heap.objs.size) (fun _ => #[]); letGo x.toList.reverse; Builtin.List.listExtendWith (.ref s.heap.objs.size) (.ref it) .none) _ _ _
  refine wpAny_bind ?_
  unfold Builtin.List.listItems
  refine wpAny_bind (wpAny_seqItems e0 rfl (wpAny_pure ?_))
  show wpAny _ A.in1.in1 (updateSeq s.heap.objs.size (fun _ => #[]) >>= fun _ => letGo (#[] : Array Value).toList.reverse >>= fun _ => Builtin.List.listExtendWith (.ref s.heap.objs.size) (.ref it) .none) _ _ _
  refine wpAny_bind (wpAny_updateSeq e0 rfl ?_)
  have e1 := Heap.get?_update_self (Obj.mapSeq (fun _ => (#[] : Array Value))) e0 rfl
  have up : ∀ b o, b ≠ s.heap.objs.size → s.heap.get? b = some o → ((s.heap.push { cls := .type "list", data := .seq #[] }).update s.heap.objs.size (Obj.mapSeq (fun _ => (#[] : Array Value)))).get? b = some o := fun b o hb e =>
    (Heap.get?_update_other _ _ (Ne.symm hb)).trans (Heap.get?_push_of_some _ e)
  refine wpAny_bind (wpAny_letGo ?_)
  refine ext_rev (A := A.in1) hh ?_ ?_ ne hz n1 n2 e1 fun g tk acc c kp hS hi => ⟨rfl, q g tk acc c (fun b o hb e => ?_) hS hi⟩
  · exact r.at fun o e => up _ o (Ne.symm n1) e
  · obtain ⟨o, h, k⟩ := id hl
    exact ⟨o, up _ o (Ne.symm n2) h, k⟩
  · have hb' : b ≠ s.heap.objs.size := Nat.ne_of_lt (Heap.lt_size e)
    exact kp b o hb' hb (up b o hb' e)
end
section
variable {X : Cx}
def tLstRev (K : PySem.W.Frag) (te : TE) : TE := fun σ H Q => te σ H fun v H1 => ∃ (a : Addr) (xs : List V), v = .ref a ∧ SqL K H1 a xs ∧ ∀ l, H1 l = none → Q (.ref l) (upd H1 l (.lst xs.reverse))
theorem pe_lstRev {e : Expr} {te : TE} {p p2 pos pos2 : Pos} (hc : X.calm = true) (g1 : Gl X "list") (m1 : X.mg "list" = none) (g2 : Gl X "reversed") (m2 : X.mg "reversed" = none) (he : PE X e te)
    (s1 : starEach [e] X.env = (false, eval e X.env) :: starEach [] X.env := by rfl)
    (s2 : starEach [.Call (.Name "reversed" p2) [e] [] pos2] X.env = (false, eval (.Call (.Name "reversed" p2) [e] [] pos2) X.env) :: starEach [] X.env := by rfl) :
    PE X (.Call (.Name "list" p) [.Call (.Name "reversed" p2) [e] [] pos2] [] pos) (tLstRev X.K te) := by
  refine ⟨fun pins s σ H Q I h => ?_⟩
  refine Call_ (ld_blt I g1 m1 boot_list (PyProof.Rows.callWith_type1 (args_cons (Call_ (ld_blt I g2 m2 PyProof.Rows.boot_reversed (PyProof.Rows.callWith_type1 (args_cons (thn (he.run pins s σ H _ I h) fun u t ⟨v, H1, I1, r1, q1⟩ => args_nil ?_) s1) s1 rfl))) s2) s2 rfl))
  obtain ⟨a, xs, ev, hq, q⟩ := q1
  subst ev
  obtain rfl : u = Value.ref a := r1
  obtain ⟨its, rv, pl, hz⟩ := I1.list hq
  refine call_reversed_list pl.isList (args_nil ?_)
  have hl := pl.isList
  have ne : a ≠ t.heap.objs.size := by obtain ⟨o, ho, _⟩ := id hl; exact Nat.ne_of_lt (Heap.lt_size ho)
  have hn : its.toArray.size ≤ sizeLine := by rw [List.size_toArray, ← rv.length]; exact hz
  refine call_list_rev (s := { t with heap := t.heap.push (revObj a ((its.toArray.size : Int) - 1)) }) (I1.ok.hd hc) ⟨_, Heap.get?_push_size _ rfl, rfl, rfl⟩ (hl.push _) ne hn fun g tk acc c kp hS hi => ?_
  have le : t.heap.objs.size ≤ (t.heap.push (revObj a ((its.toArray.size : Int) - 1))).objs.size := by rw [Heap.size_push]; exact Nat.le_succ _
  refine ⟨.ref (t.heap.push (revObj a ((its.toArray.size : Int) - 1))).objs.size, _, I1.laid (t' := tk) (fun b o e => kp b o (Nat.ne_of_lt (Heap.lt_size e)) (Heap.get?_push_of_some _ e)) le (show ObjOk X.prog X.w _ g _ (.lst xs.reverse) from ⟨by rw [List.length_reverse]; exact hz, acc.toList, c, vals_rev rv hi, ?_⟩), rfl, q _ (I1.hok.fresh le)⟩
  rw [Array.toArray_toList]
  exact hS
end
end GX
set_option Elab.async false
set_option linter.all false
set_option maxRecDepth 100000
set_option maxHeartbeats 4000000
/-! A deck: a list with a list of cells, a seed and a count. -/
namespace GX
open PySem PySem.Spec PyProof.Rows L2
structure Wd (H : Hp) (W C : Addr) : Prop where
  ex : ∃ (ns : List Int) (a b : Int), H W = some (.lst [.ref C, .int a, .int b]) ∧ H C = some (.lst (ns.map V.int)) ∧ ns.length ≤ 64
  ne : W ≠ C
theorem Wd.nt {H : Hp} {W C : Addr} (h : Wd H W C) : ∀ b ∈ [W, C], ∀ xs, H b ≠ some (.tup xs) := fun b hb xs e => by
  obtain ⟨ns, a, c, e1, e2, _⟩ := h.ex
  rcases List.mem_cons.mp hb with z | z
  · rw [z, e1] at e
    cases e
  · rw [List.mem_singleton.mp z, e2] at e
    cases e
theorem Wd.same {H H' : Hp} {W C : Addr} (h : Wd H W C) (s : Same H H') : Wd H' W C := by
  obtain ⟨⟨ns, a, c, e1, e2, l⟩, ne⟩ := h
  exact ⟨⟨ns, a, c, s _ _ e1, s _ _ e2, l⟩, ne⟩
theorem Wd.keep {X : List Addr} {H H' : Hp} {W C : Addr} (h : Wd H W C) (k : Keep X H H') (n : W ∉ X) (m : C ∉ X) : Wd H' W C := by
  obtain ⟨⟨ns, a, c, e1, e2, l⟩, ne⟩ := h
  exact ⟨⟨ns, a, c, k _ _ e1 n, k _ _ e2 m, l⟩, ne⟩
theorem Wd.tabW {Ts : List Addr} {H : Hp} {W C : Addr} (h : Wd H W C) (t : Tabs Ts H) : W ∉ Ts := by
  obtain ⟨ns, a, c, e1, e2, _⟩ := h.ex
  exact t.lst e1
theorem Wd.tabC {Ts : List Addr} {H : Hp} {W C : Addr} (h : Wd H W C) (t : Tabs Ts H) : C ∉ Ts := by
  obtain ⟨ns, a, c, e1, e2, _⟩ := h.ex
  exact t.lst e2
/-- the deck stands, all else is kept -/
structure Wk2 (W C : Addr) (H H' : Hp) : Prop where
  wl : Wd H' W C
  kp : Keep [W, C] H H'
theorem Wk2.nxt {W C : Addr} {H H1 H2 : Hp} (s : Wk2 W C H H1) (t : Wk2 W C H1 H2) : Wk2 W C H H2 := ⟨t.wl, s.kp.trans t.kp⟩
theorem Wk2.same {W C : Addr} {H H1 H2 : Hp} (s : Wk2 W C H H1) (e : Same H1 H2) : Wk2 W C H H2 := ⟨s.wl.same e, s.kp.trans (Same.keep e)⟩
theorem Wk2.new {W C : Addr} {H H1 : Hp} {p : Addr} {o : HO} (s : Wk2 W C H H1) (n : H1 p = none) : Wk2 W C H (upd H1 p o) := s.same (Same.new n)
theorem Wk2.refl {W C : Addr} {H : Hp} (h : Wd H W C) : Wk2 W C H H := ⟨h, Keep.refl⟩
theorem Wd.tup {H H' : Hp} {W C : Addr} (h : Wd H W C) (k : Wk2 W C H H') {b : Addr} {xs : List V} (e : H b = some (.tup xs)) : H' b = some (.tup xs) := k.kp.tups h.nt b xs e
theorem Wd.new {H : Hp} {W C l : Addr} (h : Wd H W C) (n : H l = none) : l ≠ W ∧ l ≠ C := by
  obtain ⟨ns, a, c, e1, e2, _⟩ := h.ex
  refine ⟨fun z => ?_, fun z => ?_⟩
  · rw [← z, n] at e1
    cases e1
  · rw [← z, n] at e2
    cases e2
theorem Wk2.at_ {W C : Addr} {H H' : Hp} {l : Addr} {o : HO} (k : Wk2 W C H H') (n : l ≠ W ∧ l ≠ C) (e : H l = some o) : H' l = some o := k.kp _ _ e fun z => by
  rcases List.mem_cons.mp z with z | z
  · exact n.1 z
  · exact n.2 (List.mem_singleton.mp z)
theorem Wk2.was {W C : Addr} {H H' : Hp} {l : Addr} (k : Wk2 W C H H') (n : H' l = none) : H l = none := by
  obtain ⟨n1, n2⟩ := k.wl.new n
  cases e : H l with
  | none => rfl
  | some u =>
    have := k.at_ ⟨n1, n2⟩ e
    rw [n] at this
    cases this
/-- a list of our own is changed -/
theorem Wk2.put {W C : Addr} {H H' : Hp} {l : Addr} {o : HO} (s : Wk2 W C H H') (nl : H l = none) (n : l ≠ W ∧ l ≠ C) : Wk2 W C H (upd H' l o) := by
  obtain ⟨⟨⟨ns, a, c, e1, e2, z⟩, ne⟩, k⟩ := s
  exact ⟨⟨⟨ns, a, c, by rw [upd_ne (Ne.symm n.1)]; exact e1, by rw [upd_ne (Ne.symm n.2)]; exact e2, z⟩, ne⟩, fun b u e hb => by rw [upd_ne (ne_of_none e nl)]; exact k b u e hb⟩
theorem tupPut {H : Hp} {l : Addr} {xs ys : List V} (h : H l = some (.lst xs)) : ∀ b zs, H b = some (.tup zs) → upd H l (.lst ys) b = some (.tup zs) := fun b zs e => by
  rw [upd_ne (fun z => by rw [z, h] at e; cases e)]
  exact e
/-- the deck, the tables stand; all else is kept -/
structure Dk2 (W C : Addr) (Ts : List Addr) (H H' : Hp) : Prop where
  wl : Wd H' W C
  tb : Tabs Ts H'
  kp : Keep (W :: C :: Ts) H H'
theorem Dk2.aft {W C : Addr} {Ts : List Addr} {H H1 H2 : Hp} (d : Dk2 W C Ts H H1) (a : Aft Ts H1 H2) : Dk2 W C Ts H H2 := ⟨d.wl.keep a.kp (d.wl.tabW d.tb) (d.wl.tabC d.tb), a.tb, d.kp.trans (a.kp.mono fun b hb => List.mem_cons_of_mem _ (List.mem_cons_of_mem _ hb))⟩
theorem Dk2.same {W C : Addr} {Ts : List Addr} {H H1 H2 : Hp} (d : Dk2 W C Ts H H1) (s : Same H1 H2) : Dk2 W C Ts H H2 := d.aft (Aft.ofSame d.tb s)
theorem Wk2.tabs {W C : Addr} {Ts : List Addr} {H H1 : Hp} (wl : Wd H W C) (tb : Tabs Ts H) (s : Wk2 W C H H1) : Tabs Ts H1 := tb.keep s.kp fun b hb => by
  rcases List.mem_cons.mp hb with z | z
  · rw [z]; exact wl.tabW tb
  · rw [List.mem_singleton.mp z]; exact wl.tabC tb
theorem Dk2.draw {W C : Addr} {Ts : List Addr} {H H1 H2 : Hp} (d : Dk2 W C Ts H H1) (s : Wk2 W C H1 H2) : Dk2 W C Ts H H2 := ⟨s.wl, s.tabs d.wl d.tb, d.kp.trans (s.kp.mono fun b hb => by
  rcases List.mem_cons.mp hb with z | z
  · rw [z]; exact List.mem_cons_self
  · rw [List.mem_singleton.mp z]; exact List.mem_cons_of_mem _ List.mem_cons_self)⟩
theorem Dk2.put {W C : Addr} {Ts : List Addr} {H H1 : Hp} {l : Addr} {o : HO} {xs : List V} (d : Dk2 W C Ts H H1) (nl : H l = none) (hl : H1 l = some (.lst xs)) (n : l ≠ W ∧ l ≠ C) : Dk2 W C Ts H (upd H1 l o) :=
  ⟨by obtain ⟨⟨ns, x, y, e, e2, z⟩, ne⟩ := d.wl; exact ⟨⟨ns, x, y, by rw [upd_ne (Ne.symm n.1)]; exact e, by rw [upd_ne (Ne.symm n.2)]; exact e2, z⟩, ne⟩, d.tb.upd (d.tb.lst hl), fun b u e m => by rw [upd_ne (ne_of_none e nl)]; exact d.kp b u e m⟩
theorem Dk2.was {W C : Addr} {Ts : List Addr} {H H1 : Hp} {l : Addr} (d : Dk2 W C Ts H H1) (n : H1 l = none) : H l = none := by
  obtain ⟨n1, n2⟩ := d.wl.new n
  cases e : H l with
  | none => rfl
  | some u =>
    have := d.kp _ _ e fun z => by
      rcases List.mem_cons.mp z with z | z
      · exact n1 z
      · rcases List.mem_cons.mp z with z | z
        · exact n2 z
        · exact d.tb.none n z
    rw [n] at this
    cases this
theorem Own.same' {H H1 H2 : Hp} {l : Addr} {xs : List V} (o : Own H H1 l xs) (s : Same H1 H2) : Own H H2 l xs := ⟨o.sm.trans s, s _ _ o.at_, o.nw⟩
/-- a while by a measure, its test read once -/
theorem while_at {c : TT} {tb : TS} {D : Ends} {σ : L2.St} {H : Hp} (Pv : L2.St → Hp → Prop) (μ : L2.St → Hp → Nat) (h0 : Pv σ H)
    (hs : ∀ σ H, Pv σ H → c σ H fun b H1 => if b = true then ∃ N : L2.St → Hp → Prop, (∀ σ' H', N σ' H' → ∃ m', m' < μ σ H ∧ (m' = μ σ' H' ∧ Pv σ' H')) ∧ tb { D with nx := N, ct := N, bk := D.nx } σ H1 else D.nx σ H1) : tWhile c tb D σ H := by
  refine ⟨fun m σ H => m = μ σ H ∧ Pv σ H, ⟨_, rfl, h0⟩, ?_⟩
  rintro m σ H ⟨rfl, p⟩
  exact hs σ H p
theorem whN {Pv : L2.St → Hp → Prop} {μ : L2.St → Hp → Nat} {m : Nat} : ∀ σ' H', (Pv σ' H' ∧ μ σ' H' < m) → ∃ m', m' < m ∧ (m' = μ σ' H' ∧ Pv σ' H') := fun σ' H' h => ⟨_, h.2, rfl, h.1⟩
theorem dpInt (K : PySem.W.Frag) (H : Hp) : ∀ xs : List Int, DpAll K H (xs.map V.int) (xs.map PyData.int)
  | [] => .nil
  | x :: r => .cons (.int _) (dpInt K H r)
theorem eqvAllN {xs : List PyData} : PyData.eqvAll xs [] = decide (xs.length = 0) := by cases xs <;> rfl
theorem len64 {n : Nat} (h : n ≤ 100000) : n < sizeLine := Nat.lt_of_le_of_lt h (by decide)
end GX
set_option Elab.async false
set_option linter.all false
set_option maxRecDepth 100000
set_option maxHeartbeats 4000000
/-! Covers as data, and how they stand in the heap; dicts of wires. -/
namespace GX
open PySem PySem.Spec PyProof.Rows L2
theorem Same.was {H H' : Hp} {l : Addr} (s : Same H H') (n : H' l = none) : H l = none := by
  cases e : H l with
  | none => rfl
  | some u => cases ((s _ _ e).symm.trans n)
abbrev Tb := Nat × List Nat
def TbAt (H : Hp) (p : Addr) (t : Tb) : Prop := ∃ c, H p = some (.tup [nV t.1, .ref c]) ∧ H c = some (.tup (t.2.map nV))
theorem TbAt.mono {H H' : Hp} (k : ∀ b xs, H b = some (.tup xs) → H' b = some (.tup xs)) (p : Addr) (t : Tb) (x : TbAt H p t) : TbAt H' p t := by
  obtain ⟨c, h1, h2⟩ := x
  exact ⟨c, k _ _ h1, k _ _ h2⟩
structure CovAt (H : Hp) (a : Addr) (cv : List Tb) (ps : List Addr) : Prop where
  top : H a = some (.tup (ps.map V.ref))
  ts : PtsAt TbAt H ps cv
theorem CovAt.mono {H H' : Hp} {a : Addr} {cv : List Tb} {ps : List Addr} (x : CovAt H a cv ps) (k : ∀ b xs, H b = some (.tup xs) → H' b = some (.tup xs)) : CovAt H' a cv ps := ⟨k _ _ x.top, x.ts.mono (TbAt.mono k)⟩
theorem CovAt.same {H H' : Hp} {a : Addr} {cv : List Tb} {ps : List Addr} (x : CovAt H a cv ps) (s : Same H H') : CovAt H' a cv ps := x.mono fun b xs e => s _ _ e
inductive Need (n : Net) (cv : List Tb) : Nat → Prop
  | out {o : Nat} : o ∈ n.outs → n.many ≤ o → Need n cv o
  | step {t : Tb} {x : Nat} : t ∈ cv → Need n cv t.1 → x ∈ t.2 → n.many ≤ x → Need n cv x
theorem Need.more {n : Net} {cv cv' : List Tb} (s : ∀ t ∈ cv, t ∈ cv') {x : Nat} (h : Need n cv x) : Need n cv' x := by
  induction h with
  | out h1 h2 => exact .out h1 h2
  | step ht _ hx hm ih => exact .step (s _ ht) ih hx hm
structure CovOk (n : Net) (k : Nat) (cv : List Tb) : Prop where
  rise : cv.Pairwise (fun a b => a.1 < b.1)
  gt : ∀ t ∈ cv, n.many ≤ t.1 ∧ t.1 < n.many + n.gates.length
  cut : ∀ t ∈ cv, CutOk n t.1 t.2 ∧ t.2.length ≤ k
  outs : ∀ o ∈ n.outs, n.many ≤ o → ∃ t ∈ cv, t.1 = o
  clo : ∀ t ∈ cv, ∀ x ∈ t.2, n.many ≤ x → ∃ u ∈ cv, u.1 = x
theorem rise_uniq {cv : List Tb} (h : cv.Pairwise (fun a b => a.1 < b.1)) {t u : Tb} (ht : t ∈ cv) (hu : u ∈ cv) (e : t.1 = u.1) : t = u := by
  induction cv with
  | nil => cases ht
  | cons a r ih =>
    obtain ⟨h1, h2⟩ := List.pairwise_cons.mp h
    rcases List.mem_cons.mp ht with e1 | e1
    · rcases List.mem_cons.mp hu with e2 | e2
      · rw [e1, e2]
      · have := h1 u e2
        rw [e1] at e
        omega
    · rcases List.mem_cons.mp hu with e2 | e2
      · have := h1 t e1
        rw [e2] at e
        omega
      · exact ih h2 e1 e2
theorem CovOk.len {n : Net} (ok : n.Ok) {k : Nat} {cv : List Tb} (c : CovOk n k cv) : cv.length ≤ 24 := by
  have h1 : (cv.map fun t : Tb => t.1).Nodup := by
    rw [List.nodup_iff_pairwise_ne, List.pairwise_map]
    exact c.rise.imp fun h => Nat.ne_of_lt h
  have := nodup_lt (m := n.many + n.gates.length) h1 fun y hy => by
    obtain ⟨t, ht, rfl⟩ := List.mem_map.mp hy
    exact (c.gt t ht).2
  rw [List.length_map] at this
  have := ok.m8
  have := ok.g16
  omega
/-! ### a dict whose keys are these numbers -/
def nK (x : Nat) : L2.Key := .inl (x : Int)
theorem nK_inj {x y : Nat} (h : nK x = nK y) : x = y := by
  have := Sum.inl.inj h
  omega
def KeysAt (H : Hp) (d : Addr) (S : Nat → Prop) (b : Nat) : Prop := ∃ kvs : List (L2.Key × V), H d = some (.dK kvs) ∧ kvs.length ≤ b ∧ ∀ x : Nat, (valV kvs (nK x)).isSome = true ↔ S x
theorem KeysAt.nil {H : Hp} {d : Addr} (h : H d = some (.dK [])) : KeysAt H d (fun _ => False) 0 := ⟨[], h, Nat.le_refl _, fun x => by rw [valV_nil]; exact ⟨fun z => (by cases z), fun z => z.elim⟩⟩
theorem put_isSome (kvs : List (L2.Key × V)) (x y : Nat) (v : V) : (valV (putK kvs (nK x) v) (nK y)).isSome = true ↔ (y = x ∨ (valV kvs (nK y)).isSome = true) := by
  rw [valV_put]
  by_cases e : nK y = nK x
  · rw [if_pos e]
    exact ⟨fun _ => .inl (nK_inj e), fun _ => rfl⟩
  · rw [if_neg e]
    exact ⟨fun z => .inr z, fun z => by rcases z with z | z; exact absurd (by rw [z]) e; exact z⟩
end GX
set_option Elab.async false
set_option linter.all false
set_option maxRecDepth 100000
set_option maxHeartbeats 4000000
/-! Least cuts, as lists and as masks. -/
namespace GX
open PySem PySem.Spec PyProof.Rows L2
/-! ### what tells -/
theorem Rc.via {n : Net} {st : List Nat} {g a y : Nat} {k : Nat × Nat × Nat} (hg : n.many ≤ g) (hk : n.gates[g - n.many]? = some k) (hp : a = k.2.1 ∨ a = k.2.2) (gs : g ∉ st) (r : Rc n st a n.many y) : Rc n st g n.many y := by
  induction r with
  | here h => exact .step (.here gs) hg hg hk hp h
  | step _ hg' hj hk' hp' hs ih => exact .step ih hg' hj hk' hp' hs
theorem Rc.split {n : Net} {st : List Nat} {g y : Nat} {k : Nat × Nat × Nat} (hk : n.gates[g - n.many]? = some k) (r : Rc n st g n.many y) : y = g ∨ Rc n st k.2.1 n.many y ∨ Rc n st k.2.2 n.many y := by
  induction r with
  | here h => exact .inl rfl
  | @step g' p k' _ hg' hj hk' hp' hs ih =>
    rcases ih with e | h | h
    · subst e
      rw [hk] at hk'
      cases hk'
      rcases hp' with rfl | rfl
      · exact .inr (.inl (.here hs))
      · exact .inr (.inr (.here hs))
    · exact .inr (.inl (.step h hg' hj hk' hp' hs))
    · exact .inr (.inr (.step h hg' hj hk' hp' hs))
theorem sep_gate {n : Net} {st : List Nat} {g : Nat} {k : Nat × Nat × Nat} (hg : n.many ≤ g) (hk : n.gates[g - n.many]? = some k) (gs : g ∉ st) : Sep n g st ↔ (Sep n k.2.1 st ∧ Sep n k.2.2 st) := by
  refine ⟨fun h => ⟨fun y r => h y (r.via hg hk (.inl rfl) gs), fun y r => h y (r.via hg hk (.inr rfl) gs)⟩, fun h y r => ?_⟩
  rcases r.split hk with e | r | r
  · rw [e]; exact hg
  · exact h.1 y r
  · exact h.2 y r
theorem sep_in {n : Net} {w : Nat} {st : List Nat} (h : w ∈ st) : Sep n w st := fun y r => by
  exfalso
  induction r with
  | here z => exact z h
  | step _ _ _ _ _ _ ih => exact ih
theorem sep_input {n : Net} {w : Nat} {st : List Nat} (h : w < n.many) : Sep n w st ↔ w ∈ st := by
  refine ⟨fun s => Classical.not_not.mp fun z => ?_, sep_in⟩
  have := s w (.here z)
  omega
theorem sep_none {n : Net} (ok : n.Ok) : ∀ b w, w ≤ b → w < n.many + n.gates.length → ¬ Sep n w []
  | b, w, hb, hw => fun s => by
    by_cases h : w < n.many
    · exact absurd ((sep_input h).mp s) List.not_mem_nil
    · obtain ⟨k, hk⟩ : ∃ k, n.gates[w - n.many]? = some k := ⟨_, List.getElem?_eq_getElem (by omega)⟩
      have lt := place_lt ok (by omega) hk (.inl rfl)
      cases b with
      | zero => omega
      | succ b => exact sep_none ok b k.2.1 (by omega) (by omega) ((sep_gate (by omega) hk List.not_mem_nil).mp s).1
theorem sep_congr {n : Net} {w : Nat} {st st' : List Nat} (h : ∀ x, x ∈ st ↔ x ∈ st') : Sep n w st ↔ Sep n w st' := ⟨fun s => s.more fun z hz => (h z).mp hz, fun s => s.more fun z hz => (h z).mpr hz⟩
/-- only wires up to w matter -/
theorem sep_low {n : Net} (ok : n.Ok) {w : Nat} {st st' : List Nat} (h : ∀ x, x ≤ w → x ∈ st → x ∈ st') (s : Sep n w st) : Sep n w st' := fun y r => by
  refine s y ?_
  induction r with
  | here z => exact .here fun z' => z (h _ (Nat.le_refl _) z')
  | step r hg hj hk hp hs ih => exact .step ih hg hj hk hp fun z' => hs (h _ ((Rc.step r hg hj hk hp hs).le ok) z')
/-! ### masks -/
def bitsOf (M : Nat) : List Nat := (List.range (Builtin.Int.intBits ((M : Nat) : Int))).filter fun x => M.testBit x
theorem mem_bits {M x : Nat} : x ∈ bitsOf M ↔ M.testBit x = true := by
  unfold bitsOf
  rw [List.mem_filter, List.mem_range]
  refine ⟨fun h => h.2, fun h => ⟨?_, h⟩⟩
  refine Nat.lt_of_not_le fun hle => ?_
  rw [intBits_le_iff, Int.natAbs_natCast] at hle
  rw [Nat.testBit_lt_two_pow hle] at h
  cases h
theorem bits_rise (M : Nat) : (bitsOf M).Pairwise (· < ·) := List.Pairwise.filter _ List.pairwise_lt_range
theorem bits_nodup (M : Nat) : (bitsOf M).Nodup := (bits_rise M).imp fun h => Nat.ne_of_lt h
theorem bits_inj {M N : Nat} (h : bitsOf M = bitsOf N) : M = N := by
  apply Nat.eq_of_testBit_eq
  intro j
  have : j ∈ bitsOf M ↔ j ∈ bitsOf N := by rw [h]
  rw [mem_bits, mem_bits] at this
  cases e : M.testBit j <;> cases e2 : N.testBit j <;> simp_all
def maskOf (c : List Nat) : Nat := c.foldr (fun x acc => 2 ^ x ||| acc) 0
theorem mask_bit (c : List Nat) (j : Nat) : (maskOf c).testBit j = decide (j ∈ c) := by
  induction c with
  | nil => exact Nat.zero_testBit j
  | cons x r ih =>
    show (2 ^ x ||| maskOf r).testBit j = _
    rw [Nat.testBit_or, ih, Nat.testBit_two_pow]
    rw [Bool.eq_iff_iff, Bool.or_eq_true, decide_eq_true_iff, decide_eq_true_iff, decide_eq_true_iff, List.mem_cons]
    exact ⟨fun h => h.imp Eq.symm id, fun h => h.imp Eq.symm id⟩
theorem bits_mask {c : List Nat} (h : c.Pairwise (· < ·)) : bitsOf (maskOf c) = c := rise_eq (bits_rise _) h fun z => by rw [mem_bits, mask_bit, decide_eq_true_iff]
theorem mask_bits (M : Nat) : maskOf (bitsOf M) = M := bits_inj (bits_mask (bits_rise M))
def Sub (f M : Nat) : Prop := ∀ j, f.testBit j = true → M.testBit j = true
theorem Sub.refl (M : Nat) : Sub M M := fun _ h => h
theorem Sub.trans {a b c : Nat} (h : Sub a b) (g : Sub b c) : Sub a c := fun j x => g j (h j x)
theorem sub_and {f M : Nat} : f &&& M = f ↔ Sub f M := by
  refine ⟨fun h j hj => ?_, fun h => ?_⟩
  · rw [← h, Nat.testBit_and, Bool.and_eq_true] at hj
    exact hj.2
  · apply Nat.eq_of_testBit_eq
    intro j
    rw [Nat.testBit_and]
    cases e : f.testBit j with
    | false => rfl
    | true => rw [h j e]; rfl
theorem Sub.le {f M : Nat} (h : Sub f M) : f ≤ M := by
  rw [← sub_and.mpr h]
  exact Nat.and_le_right
theorem Sub.anti {f M : Nat} (h : Sub f M) (g : Sub M f) : f = M := Nat.le_antisymm h.le g.le
theorem sub_zero {M : Nat} : Sub 0 M := fun j h => by rw [Nat.zero_testBit] at h; cases h
def pop (M : Nat) : Nat := (bitsOf M).length
theorem pop_sub {f M : Nat} (h : Sub f M) : pop f ≤ pop M := nodup_len (bits_nodup f) fun x hx => mem_bits.mpr (h x (mem_bits.mp hx))
theorem sub_or_left (f s : Nat) : Sub f (f ||| s) := fun j h => by rw [Nat.testBit_or, h]; rfl
theorem sub_or_right (f s : Nat) : Sub s (f ||| s) := fun j h => by rw [Nat.testBit_or, h, Bool.or_true]
theorem or_sub {f s M : Nat} (h : Sub f M) (g : Sub s M) : Sub (f ||| s) M := fun j hj => by
  rw [Nat.testBit_or, Bool.or_eq_true] at hj
  exact hj.elim (h j) (g j)
def Tm (n : Net) (w M : Nat) : Prop := Sep n w (bitsOf M)
theorem Tm.more {n : Net} {w M N : Nat} (h : Tm n w M) (s : Sub M N) : Tm n w N := Sep.more h fun z hz => mem_bits.mpr (s z (mem_bits.mp hz))
structure MinT (n : Net) (w M : Nat) : Prop where
  tl : Tm n w M
  min : ∀ f, Sub f M → Tm n w f → f = M
theorem min_ex {n : Net} {w : Nat} : ∀ b M, M ≤ b → Tm n w M → ∃ f, Sub f M ∧ MinT n w f
  | b, M, hb, h => by
    by_cases hm : ∀ f, Sub f M → Tm n w f → f = M
    · exact ⟨M, Sub.refl M, h, hm⟩
    · obtain ⟨f, hf⟩ := Classical.not_forall.mp hm
      obtain ⟨h1, h2⟩ := Classical.not_imp.mp hf
      obtain ⟨h3, h4⟩ := Classical.not_imp.mp h2
      have := h1.le
      cases b with
      | zero => omega
      | succ b =>
        obtain ⟨e, e1, e2⟩ := min_ex b f (by omega) h3
        exact ⟨e, e1.trans h1, e2⟩
theorem tm_zero {n : Net} (ok : n.Ok) {w : Nat} (hw : w < n.many + n.gates.length) : ¬ Tm n w 0 := by
  have : bitsOf 0 = [] := List.eq_nil_iff_forall_not_mem.mpr fun x hx => by
    have := mem_bits.mp hx
    rw [Nat.zero_testBit] at this
    cases this
  unfold Tm
  rw [this]
  exact sep_none ok w w (Nat.le_refl _) hw
/-- no greater wires -/
theorem MinT.low {n : Net} (ok : n.Ok) {w M : Nat} (h : MinT n w M) : ∀ x, M.testBit x = true → x ≤ w := fun x hx => by
  have e : M % 2 ^ (w + 1) = M := h.min _ (fun j hj => by
      rw [Nat.testBit_mod_two_pow, Bool.and_eq_true] at hj
      exact hj.2) (sep_low ok (fun y hy hm => mem_bits.mpr (by
        rw [Nat.testBit_mod_two_pow, decide_eq_true (by omega), Bool.true_and]
        exact mem_bits.mp hm)) h.tl)
  rw [← e, Nat.testBit_mod_two_pow, Bool.and_eq_true] at hx
  have := of_decide_eq_true hx.1
  omega
theorem bit_self (w : Nat) : (2 ^ w).testBit w = true := by rw [Nat.testBit_two_pow]; exact decide_eq_true rfl
theorem tm_self {n : Net} {w M : Nat} (h : M.testBit w = true) : Tm n w M := sep_in (mem_bits.mpr h)
theorem sub_pow {f w : Nat} (h : Sub f (2 ^ w)) : f = 0 ∨ f = 2 ^ w := by
  by_cases e : f.testBit w = true
  · right
    exact h.anti fun j hj => by
      rw [Nat.testBit_two_pow] at hj
      rw [← of_decide_eq_true hj]
      exact e
  · left
    apply Nat.eq_of_testBit_eq
    intro j
    rw [Nat.zero_testBit]
    cases e2 : f.testBit j with
    | false => rfl
    | true =>
      have := h j e2
      rw [Nat.testBit_two_pow] at this
      rw [of_decide_eq_true this] at e
      exact absurd e2 e
theorem min_pow {n : Net} (ok : n.Ok) {w : Nat} (hw : w < n.many + n.gates.length) : MinT n w (2 ^ w) := by
  refine ⟨tm_self (bit_self w), fun f hf ht => ?_⟩
  rcases sub_pow hf with e | e
  · rw [e] at ht
    exact absurd ht (tm_zero ok hw)
  · exact e
theorem min_has {n : Net} {w M : Nat} (h : MinT n w M) (e : M.testBit w = true) : M = 2 ^ w := by
  refine (h.min (2 ^ w) (fun j hj => ?_) (tm_self (bit_self w))).symm
  rw [Nat.testBit_two_pow] at hj
  rw [← of_decide_eq_true hj]
  exact e
theorem pop_pow (w : Nat) : pop (2 ^ w) = 1 := by
  have : bitsOf (2 ^ w) = [w] := rise_eq (bits_rise _) (List.pairwise_singleton _ _) fun z => by
    rw [mem_bits, Nat.testBit_two_pow, decide_eq_true_iff, List.mem_singleton]
    exact eq_comm
  unfold pop
  rw [this]
  rfl
/-- the masks of a wire -/
def ML (n : Net) (k w : Nat) (ms : List Nat) : Prop := ∀ M, M ∈ ms ↔ (MinT n w M ∧ pop M ≤ k ∧ M.testBit w = false)
theorem ML.input {n : Net} {k w : Nat} (h : w < n.many) : ML n k w [] := fun M => ⟨fun z => (by cases z), fun z => by
  have := mem_bits.mp ((sep_input h).mp z.1.tl)
  rw [z.2.2] at this
  cases this⟩
theorem ML.full {n : Net} (ok : n.Ok) {k w : Nat} {ms : List Nat} (hw : w < n.many + n.gates.length) (hk : 1 ≤ k) (h : ML n k w ms) (M : Nat) : M ∈ ms ++ [2 ^ w] ↔ (MinT n w M ∧ pop M ≤ k) := by
  rw [List.mem_append, List.mem_singleton, h]
  constructor
  · rintro (z | rfl)
    · exact ⟨z.1, z.2.1⟩
    · exact ⟨min_pow ok hw, by rw [pop_pow]; exact hk⟩
  · rintro ⟨h1, h2⟩
    cases e : M.testBit w with
    | false => exact .inl ⟨h1, h2, rfl⟩
    | true => exact .inr (min_has h1 e)
/-- what is found for a gate -/
def Found (k : Nat) (fs ss F : List Nat) : Prop := ∀ M, M ∈ F ↔ ∃ f ∈ fs, ∃ s ∈ ss, M = f ||| s ∧ pop M ≤ k
def hasPart (F : List Nat) (M : Nat) : Bool := F.any fun p => decide (0 < p ∧ p ≠ M ∧ p &&& M = p)
theorem hasPart_iff {F : List Nat} {M : Nat} : hasPart F M = true ↔ ∃ p ∈ F, 0 < p ∧ p ≠ M ∧ Sub p M := by
  unfold hasPart
  rw [List.any_eq_true]
  constructor
  · rintro ⟨p, hp, h⟩
    obtain ⟨h1, h2, h3⟩ := of_decide_eq_true h
    exact ⟨p, hp, h1, h2, sub_and.mp h3⟩
  · rintro ⟨p, hp, h1, h2, h3⟩
    exact ⟨p, hp, decide_eq_true ⟨h1, h2, sub_and.mpr h3⟩⟩
theorem gate_found {n : Net} (ok : n.Ok) {k g : Nat} {kk : Nat × Nat × Nat} {fs ss F : List Nat} (hg : n.many ≤ g) (hw : g < n.many + n.gates.length) (hkk : n.gates[g - n.many]? = some kk)
    (hf : ∀ M, M ∈ fs ↔ (MinT n kk.2.1 M ∧ pop M ≤ k)) (hs : ∀ M, M ∈ ss ↔ (MinT n kk.2.2 M ∧ pop M ≤ k)) (hF : Found k fs ss F) : ML n k g (F.filter fun M => !hasPart F M) := by
  have l1 := place_lt ok hg hkk (.inl rfl)
  have l2 := place_lt ok hg hkk (.inr rfl)
  have nog : ∀ M ∈ F, M.testBit g = false := fun M hM => by
    obtain ⟨f, h1, s, h2, rfl, _⟩ := (hF M).mp hM
    rw [Nat.testBit_or]
    cases e1 : f.testBit g with
    | true =>
      have := ((hf f).mp h1).1.low ok g e1
      omega
    | false =>
      cases e2 : s.testBit g with
      | true =>
        have := ((hs s).mp h2).1.low ok g e2
        omega
      | false => rfl
  have tell : ∀ M ∈ F, Tm n g M := fun M hM => by
    have hn : g ∉ bitsOf M := fun z => by
      have := mem_bits.mp z
      rw [nog M hM] at this
      cases this
    obtain ⟨f, h1, s, h2, rfl, _⟩ := (hF M).mp hM
    exact (sep_gate hg hkk hn).mpr ⟨((hf f).mp h1).1.tl.more (sub_or_left f s), ((hs s).mp h2).1.tl.more (sub_or_right f s)⟩
  have below : ∀ M, Tm n g M → M.testBit g = false → pop M ≤ k → ∃ M' ∈ F, Sub M' M := fun M ht hb hp => by
    have hn : g ∉ bitsOf M := fun z => by
      have := mem_bits.mp z
      rw [hb] at this
      cases this
    obtain ⟨t1, t2⟩ := (sep_gate hg hkk hn).mp ht
    obtain ⟨f, f1, f2⟩ := min_ex M M (Nat.le_refl _) t1
    obtain ⟨s, s1, s2⟩ := min_ex M M (Nat.le_refl _) t2
    have hsub := or_sub f1 s1
    exact ⟨f ||| s, (hF _).mpr ⟨f, (hf f).mpr ⟨f2, Nat.le_trans (pop_sub f1) hp⟩, s, (hs s).mpr ⟨s2, Nat.le_trans (pop_sub s1) hp⟩, rfl, Nat.le_trans (pop_sub hsub) hp⟩, hsub⟩
  have popF : ∀ M ∈ F, pop M ≤ k := fun M hM => by
    obtain ⟨_, _, _, _, _, h⟩ := (hF M).mp hM
    exact h
  intro M
  rw [List.mem_filter]
  constructor
  · rintro ⟨hM, hp⟩
    refine ⟨⟨tell M hM, fun f hf ht => Classical.not_not.mp fun ne => ?_⟩, popF M hM, nog M hM⟩
    have fb : f.testBit g = false := by
      cases e : f.testBit g with
      | false => rfl
      | true =>
        have := hf g e
        rw [nog M hM] at this
        cases this
    obtain ⟨M', h1, h2⟩ := below f ht fb (Nat.le_trans (pop_sub hf) (popF M hM))
    have hpart : hasPart F M = true := hasPart_iff.mpr ⟨M', h1, Nat.pos_of_ne_zero fun z => tm_zero ok hw (by rw [← z]; exact tell M' h1), fun z => ne (hf.anti (by rw [← z]; exact h2)), h2.trans hf⟩
    rw [hpart] at hp
    cases hp
  · rintro ⟨hm, hp, hb⟩
    obtain ⟨M', h1, h2⟩ := below M hm.tl hb hp
    have e : M' = M := hm.min M' h2 (tell M' h1)
    rw [e] at h1
    refine ⟨h1, ?_⟩
    cases hh : hasPart F M with
    | false => rfl
    | true =>
      obtain ⟨p, p1, p2, p3, p4⟩ := hasPart_iff.mp hh
      exact absurd (hm.min p p4 (tell p p1)) p3
/-! ### cuts as lists -/
structure LC (n : Net) (k g : Nat) (c : List Nat) : Prop where
  rise : c.Pairwise (· < ·)
  lt : ∀ x ∈ c, x < g
  sep : Sep n g c
  len : c.length ≤ k
  least : ∀ x ∈ c, ¬ Sep n g (c.filter fun y => decide (y ≠ x))
theorem lc_bits {n : Net} (ok : n.Ok) {k g M : Nat} (h : MinT n g M ∧ pop M ≤ k ∧ M.testBit g = false) : LC n k g (bitsOf M) := by
  obtain ⟨h1, h2, h3⟩ := h
  refine ⟨bits_rise M, fun x hx => ?_, h1.tl, h2, fun x hx hs => ?_⟩
  · have e := mem_bits.mp hx
    have := h1.low ok x e
    refine Nat.lt_of_le_of_ne this fun z => ?_
    rw [z, h3] at e
    cases e
  · have hr : ((bitsOf M).filter fun y => decide (y ≠ x)).Pairwise (· < ·) := (bits_rise M).filter _
    have ht : Tm n g (maskOf ((bitsOf M).filter fun y => decide (y ≠ x))) := by
      unfold Tm
      rw [bits_mask hr]
      exact hs
    have e := h1.min _ (fun j hj => by
      rw [mask_bit, decide_eq_true_iff] at hj
      exact mem_bits.mp (List.mem_filter.mp hj).1) ht
    have := mem_bits.mp hx
    rw [← e, mask_bit, decide_eq_true_iff] at this
    exact of_decide_eq_true (List.mem_filter.mp this).2 rfl
theorem bits_lc {n : Net} {k g : Nat} {c : List Nat} (h : LC n k g c) : MinT n g (maskOf c) ∧ pop (maskOf c) ≤ k ∧ (maskOf c).testBit g = false := by
  refine ⟨⟨by unfold Tm; rw [bits_mask h.rise]; exact h.sep, fun f hf ht => ?_⟩, by unfold pop; rw [bits_mask h.rise]; exact h.len, ?_⟩
  · refine Classical.not_not.mp fun ne => ?_
    obtain ⟨x, hx1, hx2⟩ : ∃ x, x ∈ c ∧ f.testBit x = false := by
      refine Classical.not_not.mp fun z => ne (hf.anti fun j hj => ?_)
      rw [mask_bit, decide_eq_true_iff] at hj
      cases e : f.testBit j with
      | true => rfl
      | false => exact absurd ⟨j, hj, e⟩ z
    refine h.least x hx1 (Sep.more ht fun z hz => List.mem_filter.mpr ⟨?_, decide_eq_true fun e => ?_⟩)
    · have := hf z (mem_bits.mp hz)
      rw [mask_bit, decide_eq_true_iff] at this
      exact this
    · have := mem_bits.mp hz
      rw [e, hx2] at this
      cases this
  · rw [mask_bit]
    exact decide_eq_false fun z => absurd (h.lt g z) (Nat.lt_irrefl _)
/-- the cuts of a gate, in order -/
abbrev lexN (a b : List Nat) : Bool := HT.lexLt (a.map fun n : Nat => (n : Int)) (b.map fun n : Nat => (n : Int))
structure CutsAre (n : Net) (k g : Nat) (cs : List (List Nat)) : Prop where
  mem : ∀ c, c ∈ cs ↔ LC n k g c
  nd : cs.Nodup
  srt : cs.Pairwise fun a b => lexN b a = false
theorem lex_tri : ∀ a b : List Nat, lexN a b = false → lexN b a = false → a = b
  | [], [], _, _ => rfl
  | [], y :: b, h, _ => by cases h
  | x :: a, [], _, h => by cases h
  | x :: a, y :: b, h1, h2 => by
    have h1' : (if ((x : Nat) : Int) = ((y : Nat) : Int) then lexN a b else decide (((x : Nat) : Int) < ((y : Nat) : Int))) = false := h1
    have h2' : (if ((y : Nat) : Int) = ((x : Nat) : Int) then lexN b a else decide (((y : Nat) : Int) < ((x : Nat) : Int))) = false := h2
    by_cases e : x = y
    · subst e
      rw [if_pos rfl] at h1' h2'
      rw [lex_tri a b h1' h2']
    · rw [if_neg (by omega)] at h1' h2'
      have := of_decide_eq_false h1'
      have := of_decide_eq_false h2'
      omega
theorem lex_uniq : ∀ {l m : List (List Nat)}, l.Nodup → m.Nodup → l.Pairwise (fun a b => lexN b a = false) → m.Pairwise (fun a b => lexN b a = false) → (∀ c, c ∈ l ↔ c ∈ m) → l = m
  | [], m, _, _, _, _, h => (List.eq_nil_iff_forall_not_mem.mpr fun x hx => by cases (h x).mpr hx).symm
  | x :: l, [], _, _, _, _, h => by cases (h x).mp List.mem_cons_self
  | x :: l, y :: m, n1, n2, s1, s2, h => by
    obtain ⟨a1, a2⟩ := List.pairwise_cons.mp s1
    obtain ⟨b1, b2⟩ := List.pairwise_cons.mp s2
    obtain ⟨c1, c2⟩ := List.nodup_cons.mp n1
    obtain ⟨d1, d2⟩ := List.nodup_cons.mp n2
    have e : x = y := by
      refine Classical.not_not.mp fun ne => ne ?_
      have hx := (List.mem_cons.mp ((h x).mp List.mem_cons_self)).resolve_left ne
      have hy := (List.mem_cons.mp ((h y).mpr List.mem_cons_self)).resolve_left (Ne.symm ne)
      exact lex_tri x y (b1 x hx) (a1 y hy)
    subst e
    rw [lex_uniq c2 d2 a2 b2 fun c => ?_]
    refine ⟨fun hc => ?_, fun hc => ?_⟩
    · exact (List.mem_cons.mp ((h c).mp (List.mem_cons_of_mem _ hc))).resolve_left fun z => c1 (by rw [← z]; exact hc)
    · exact (List.mem_cons.mp ((h c).mpr (List.mem_cons_of_mem _ hc))).resolve_left fun z => d1 (by rw [← z]; exact hc)
theorem CutsAre.uniq {n : Net} {k g : Nat} {cs ds : List (List Nat)} (h : CutsAre n k g cs) (d : CutsAre n k g ds) : cs = ds := lex_uniq h.nd d.nd h.srt d.srt fun c => (h.mem c).trans (d.mem c).symm
theorem cuts_of_masks {n : Net} (ok : n.Ok) {k g : Nat} {ms : List Nat} (h : ML n k g ms) (nd : ms.Nodup) {cs : List (List Nat)} (pm : cs.Perm (ms.map bitsOf)) (srt : cs.Pairwise fun a b => lexN b a = false) : CutsAre n k g cs := by
  refine ⟨fun c => ?_, ?_, srt⟩
  · rw [pm.mem_iff, List.mem_map]
    constructor
    · rintro ⟨M, hM, rfl⟩
      exact lc_bits ok ((h M).mp hM)
    · intro hc
      exact ⟨maskOf c, (h _).mpr (bits_lc hc), bits_mask hc.rise⟩
  · refine pm.nodup_iff.mpr ?_
    rw [List.nodup_iff_pairwise_ne, List.pairwise_map]
    exact (List.nodup_iff_pairwise_ne.mp nd).imp fun h e => h (bits_inj e)
/-! ### taking bits away -/
theorem clow_bit : ∀ b x, x ≤ b → x ≠ 0 → ∃ l, x.testBit l = true ∧ ∀ j, (x &&& (x - 1)).testBit j = (x.testBit j && decide (j ≠ l))
  | 0, x, hb, h0 => absurd (Nat.le_zero.mp hb) h0
  | b + 1, x, hb, h0 => by
    by_cases e : x % 2 = 1
    · refine ⟨0, by rw [Nat.testBit_zero]; exact decide_eq_true e, fun j => ?_⟩
      cases j with
      | zero => rw [Nat.testBit_and, Nat.testBit_zero, Nat.testBit_zero, decide_eq_false (p := (x - 1) % 2 = 1) (by omega), Bool.and_false, decide_eq_false (p := 0 ≠ 0) (fun z => z rfl), Bool.and_false]
      | succ j => rw [Nat.testBit_and, Nat.testBit_add_one, Nat.testBit_add_one, show (x - 1) / 2 = x / 2 by omega, Bool.and_self, decide_eq_true (by omega), Bool.and_true]
    · obtain ⟨l, h1, h2⟩ := clow_bit b (x / 2) (by omega) (by omega)
      refine ⟨l + 1, by rw [Nat.testBit_add_one]; exact h1, fun j => ?_⟩
      cases j with
      | zero => rw [Nat.testBit_and, Nat.testBit_zero, decide_eq_false e, Bool.false_and, Bool.false_and]
      | succ j =>
        rw [Nat.testBit_and, Nat.testBit_add_one, Nat.testBit_add_one, show (x - 1) / 2 = x / 2 - 1 by omega, ← Nat.testBit_and, h2 j]
        congr 1
        exact decide_eq_decide.mpr (by omega)
theorem pop_clow {x : Nat} (h : x ≠ 0) : pop (x &&& (x - 1)) + 1 = pop x := by
  obtain ⟨l, h1, h2⟩ := clow_bit x x (Nat.le_refl _) h
  have hb : ∀ j, j ∈ bitsOf (x &&& (x - 1)) ↔ (j ∈ bitsOf x ∧ j ≠ l) := fun j => by rw [mem_bits, h2, Bool.and_eq_true, decide_eq_true_iff, mem_bits]
  have pm : (l :: bitsOf (x &&& (x - 1))).Perm (bitsOf x) := by
    refine (List.perm_ext_iff_of_nodup (List.nodup_cons.mpr ⟨fun z => ((hb l).mp z).2 rfl, bits_nodup _⟩) (bits_nodup _)).mpr fun j => ?_
    rw [List.mem_cons, hb]
    constructor
    · rintro (rfl | h)
      · exact mem_bits.mpr h1
      · exact h.1
    · intro h
      by_cases e : j = l
      · exact .inl e
      · exact .inr ⟨h, e⟩
  exact pm.length_eq
theorem pop_zero_iff {x : Nat} : pop x = 0 ↔ x = 0 := by
  constructor
  · intro h
    refine Classical.not_not.mp fun z => ?_
    have := pop_clow z
    omega
  · rintro rfl
    have : bitsOf 0 = [] := List.eq_nil_iff_forall_not_mem.mpr fun x hx => by
      have := mem_bits.mp hx
      rw [Nat.zero_testBit] at this
      cases this
    unfold pop
    rw [this]
    rfl
def clows : Nat → Nat → Nat
  | 0, x => x
  | i + 1, x => let y := clows i x; y &&& (y - 1)
theorem clows_pop (x : Nat) : ∀ i, pop (clows i x) = pop x - i
  | 0 => rfl
  | i + 1 => by
    show pop (clows i x &&& (clows i x - 1)) = _
    have ih := clows_pop x i
    by_cases e : clows i x = 0
    · rw [e] at ih ⊢
      have z := pop_zero_iff.mpr (rfl : (0 : Nat) = 0)
      rw [Nat.zero_and]
      omega
    · have := pop_clow e
      omega
theorem fits_iff (x k : Nat) : clows k x = 0 ↔ pop x ≤ k := by
  rw [← pop_zero_iff, clows_pop]
  omega
/-- the next part below -/
theorem next_part : ∀ b p m q, p ≤ b → 0 < p → Sub p m → Sub q m → q < p → q ≤ (p - 1) &&& m
  | 0, p, m, q, hb, h0, _, _, _ => absurd (Nat.le_zero.mp hb) (Nat.ne_of_gt h0)
  | b + 1, p, m, q, hb, h0, hp, hq, hlt => by
    have half : ∀ {x y : Nat}, Sub x y → Sub (x / 2) (y / 2) := fun {x y} h j hj => by
      rw [← Nat.testBit_add_one] at hj ⊢
      exact h _ hj
    have low : ∀ {x y : Nat}, Sub x y → x % 2 ≤ y % 2 := fun {x y} h => by
      have := h 0
      rw [Nat.testBit_zero, Nat.testBit_zero, decide_eq_true_iff, decide_eq_true_iff] at this
      omega
    have hand : ∀ x y : Nat, x &&& y = 2 * (x / 2 &&& y / 2) + (x % 2) * (y % 2) := fun x y => by
      apply Nat.eq_of_testBit_eq
      intro j
      have hm : x % 2 * (y % 2) = 0 ∨ x % 2 * (y % 2) = 1 := by
        rcases Nat.mod_two_eq_zero_or_one x with h | h <;> rcases Nat.mod_two_eq_zero_or_one y with h' | h' <;> rw [h, h'] <;> simp
      cases j with
      | zero =>
        rw [Nat.testBit_and, Nat.testBit_zero, Nat.testBit_zero, Nat.testBit_zero, show (2 * (x / 2 &&& y / 2) + x % 2 * (y % 2)) % 2 = x % 2 * (y % 2) by omega]
        rcases Nat.mod_two_eq_zero_or_one x with h | h <;> rcases Nat.mod_two_eq_zero_or_one y with h' | h' <;> rw [h, h'] <;> rfl
      | succ j => rw [Nat.testBit_and, Nat.testBit_add_one, Nat.testBit_add_one, Nat.testBit_add_one, show (2 * (x / 2 &&& y / 2) + x % 2 * (y % 2)) / 2 = (x / 2 &&& y / 2) by omega, Nat.testBit_and]
    rw [hand]
    by_cases e : p % 2 = 1
    · have h1 := sub_and.mpr (half hp)
      rw [show (p - 1) / 2 = p / 2 by omega, h1]
      have := low hq
      have := low hp
      omega
    · have ih := next_part b (p / 2) (m / 2) (q / 2) (by omega) (by omega) (half hp) (half hq)
      rw [show (p - 1) / 2 = p / 2 - 1 by omega, show (p - 1) % 2 = 1 by omega, Nat.one_mul]
      have h3 := low hq
      by_cases e2 : q / 2 < p / 2
      · have := ih e2
        omega
      · omega
end GX
set_option Elab.async false
set_option linter.all false
set_option maxRecDepth 100000
set_option maxHeartbeats 4000000
/-! t.index(x), t a tuple of whole numbers from 0 on. -/
namespace GX
open PySem PySem.Spec PyProof.Rows L2
def rIdxT (K : PySem.W.Frag) : V → List V → Hp → VK → Prop := fun x xs H Q => ∃ (a : Addr) (ns : List Nat) (y : Nat), x = .ref a ∧ xs = [nV y] ∧ SqT K H a (ns.map nV) ∧ y ∈ ns ∧ Q (nV (ns.idxOf y)) H
theorem idx_cast (y : Nat) : ∀ ns : List Nat, (ns.map fun n : Nat => (n : Int)).idxOf (y : Int) = ns.idxOf y
  | [] => rfl
  | x :: r => by
    rw [List.map_cons, List.idxOf_cons, List.idxOf_cons, idx_cast y r]
    by_cases h : x = y
    · rw [h, beq_self_eq_true, beq_self_eq_true]
    · rw [beq_false_of_ne h, beq_false_of_ne (fun z => h (Int.ofNat_inj.mp z))]
theorem mt_idxT {X : Cx} : MtR X "tuple.index" (rIdxT X.K) := by
  intro pins s σ H x xs v us Q I rx r h
  obtain ⟨a, ns, y, rfl, rfl, hq, hm, q⟩ := h
  obtain rfl : v = .ref a := rx
  cases r with
  | cons r1 t1 =>
    obtain ⟨t, rfl⟩ := r1
    cases t1
    obtain ⟨its, rv, p1, _⟩ := I.tuple hq
    refine SeqAt.tuple_index_ints p1 (by simpa using vals_n rv) (List.mem_map.mpr ⟨y, hm, rfl⟩) ?_
    refine ⟨_, H, I.tok _, ?_, q⟩
    rw [idx_cast]
    exact ⟨_, rfl⟩
end GX
set_option Elab.async false
set_option linter.all false
set_option maxRecDepth 100000
set_option maxHeartbeats 4000000
/-! Tuples held as just made (frozen), so that their methods can be called; and let go again. -/
namespace GX
open PySem PySem.Spec PyProof.Rows L2
/-- a tuple that is known to hold no dict -/
def FzT (H : Hp) (p : Addr) (xs : List V) : Prop := ∃ o : Obj, H p = some (.frz o (.tup xs)) ∧ o.cls = .type "tuple" ∧ o.dict = none
theorem FzT.sq {K : PySem.W.Frag} {H : Hp} {p : Addr} {xs : List V} (h : FzT H p xs) : SqT K H p xs := by
  obtain ⟨o, h1, _⟩ := h
  exact .inl (.inr ⟨o, h1⟩)
theorem FzT.mono {H H' : Hp} {p : Addr} {xs : List V} (h : FzT H p xs) (k : ∀ u, H p = some u → H' p = some u) : FzT H' p xs := by
  obtain ⟨o, h1, h2⟩ := h
  exact ⟨o, k _ h1, h2⟩
/-- tuple(l), l a list: held frozen -/
theorem call_tupF {X : Cx} : CallR X (.type "tuple") fun xs H Q => ∃ (p : Addr) (ys : List V), xs = [.ref p] ∧ SqL X.K H p ys ∧ ∀ (l : Addr) (H' : Hp), H l = none → (∀ b, b ≠ l → H' b = H b) → FzT H' l ys → Q (.ref l) H' := by
  intro pins s σ H xs us Q I r h
  obtain ⟨p, ys, rfl, hq, q⟩ := h
  rw [Vals.ref1 r]
  obtain ⟨its, rv, p1, hl⟩ := I.list hq
  have el : its.toArray.size ≤ sizeLine := by
    rw [List.size_toArray, ← rv.length]
    exact hl
  refine call_tuple_list p1.isList (fun h' hk => ?_) el
  have I2 := I.kept (t' := s.toks) hk
  have hat : (h'.push { cls := .type "tuple", data := .seq its.toArray }).get? h'.objs.size = some { cls := .type "tuple", data := .seq its.toArray } := Heap.get?_push_size _ rfl
  refine ⟨.ref h'.objs.size, _, I2.laid (t' := s.toks) (o := .frz { cls := .type "tuple", data := .seq its.toArray } (.tup ys)) (fun b u e => Heap.get?_push_of_some _ e) (Nat.le_refl _) ⟨hat, hl, its, rv, _, hat, rfl, _, rfl⟩, rfl, q _ _ (I2.hok.fresh (Nat.le_refl _)) (fun b hb => upd_ne hb) ⟨_, upd_same, rfl, rfl⟩⟩
/-- behind an expression a frozen thing may be let go -/
def tLetGo (H0 : Hp) (t : TE) : TE := fun σ H Q => t σ H fun v H1 => ∃ (p : Addr) (xs : List V), FzT H1 p xs ∧ H0 p = none ∧ Q v (upd H1 p (.tup xs))
theorem pe_letgo {X : Cx} {e : Expr} {t : TE} {H0 : Hp} (h : PE X e t) (h0 : X.H_0 = H0 := by rfl) : PE X e (tLetGo H0 t) := by
  subst h0
  refine ⟨fun pins s σ H Q I q => ?_⟩
  refine thn (h.run pins s σ H _ I q) fun a s1 ⟨v, H1, I1, rv, p, xs, ⟨o, hf, _⟩, hn, q1⟩ => ?_
  exact ⟨v, _, I1.unlock hf (fun o' u' z => by rw [hn] at z; cases z), rv, q1⟩
/-- t.index(y), t held frozen -/
def tIdx (to : TE) (t : TA) : TE := fun σ H Q => to σ H fun x H1 => ∃ (p : Addr) (xs : List V), x = .ref p ∧ FzT H1 p xs ∧ t σ H1 fun ys H2 => ∃ (ns : List Nat) (y : Nat), ys = [nV y] ∧ FzT H2 p (ns.map nV) ∧ y ∈ ns ∧ Q (nV (ns.idxOf y)) H2
theorem pe_idx {X : Cx} {o e : Expr} {to : TE} {t : TA} {apos cpos : Pos} (ho : PE X o to) (ha : PA X [e] t)
    (h1 : attributeBase o "index" X.env (eval o X.env) = eval o X.env := by rfl)
    (h2 : (((((backTo cpos (starEach [e] X.env)).all fun x => !x.fst) && (backToKw cpos (keywordEach [] X.env)).all fun x => x.fst.isSome) && decide (([e].length + ([] : List Keyword).length + if ([] : List Keyword).isEmpty = true then 0 else 1) < 30)) = true) := by rfl)
    (h3 : (apos.endLine == cpos.line) = true := by rfl)
    (h4 : starEach [e] X.env = (false, eval e X.env) :: starEach [] X.env := by rfl) :
    PE X ((o.Attribute "index" apos).Call [e] [] cpos) (tIdx to t) := by
  refine ⟨fun pins s σ H Q I q => ?_⟩
  refine wpAny_Call_method_late h1 h2 h3 rfl ?_
  refine thn (ho.run pins s σ H _ I q) fun ov s1 ⟨x, H1, I1, rx, p, xs, ex, fz, q1⟩ => ?_
  subst ex
  obtain rfl : ov = .ref p := rx
  obtain ⟨ob, hf, hc, hd⟩ := fz
  have hg : s1.heap.get? p = some ob := (I1.hok p _ hf).1
  refine ⟨"tuple", "tuple.index", F.plainAttrs_tuple, F.slot_tuple_index, F.type_tuple_index, ⟨ob, hg, hc⟩, fun a z => ?_, ?_⟩
  · cases z
    exact ⟨ob, hg, hd⟩
  refine Calls.callWith_builtin (by rw [h4]; rfl) ?_
  have e5 : ∃ x rest, backTo cpos (starEach [e] X.env) = (false, x) :: rest := by
    rw [h4]
    exact ⟨_, _, rfl⟩
  obtain ⟨x, rest, e5⟩ := e5
  rw [e5]
  refine Calls.evalArgs_plain ?_
  rw [← e5]
  refine thn (ha.run cpos pins s1 σ H1 _ I1 q1) fun us s2 ⟨ys, H2, I2, rv, ns, y, ey, fz2, hm, q2⟩ => ?_
  subst ey
  exact mt_idxT pins s2 σ H2 (.ref p) [nV y] (.ref p) us Q I2 rfl rv ⟨p, ns, y, rfl, rfl, fz2.sq, hm, q2⟩
end GX
set_option Elab.async false
set_option linter.all false
set_option maxRecDepth 100000
set_option maxHeartbeats 4000000
/-! Tuples that are held frozen from their making: displays, sums, and dict() of them. -/
namespace GX
open PySem PySem.Spec PyProof.Rows L2
/-- what stands now stood not ahead, if it is none there -/
def Was (H H' : Hp) : Prop := ∀ b, H' b = none → H b = none
theorem Was.refl {H : Hp} : Was H H := fun _ e => e
theorem Was.trans {H H1 H2 : Hp} (a : Was H H1) (b : Was H1 H2) : Was H H2 := fun c e => a c (b c e)
theorem Same.wasAll {H H' : Hp} (s : Same H H') : Was H H' := fun b e => by
  cases h : H b with
  | none => rfl
  | some u => cases ((s _ _ h).symm.trans e)
theorem FzT.same {H H' : Hp} {p : Addr} {xs : List V} (h : FzT H p xs) (s : Same H H') : FzT H' p xs := h.mono fun u e => s _ _ e
def tTupF (t : TA) : TE := fun σ H Q => t σ H fun xs H1 => xs.length ≤ sizeLine ∧ ∀ p H', H1 p = none → (∀ b, b ≠ p → H' b = H1 b) → FzT H' p xs → Q (.ref p) H'
theorem pe_tupF {X : Cx} {es : List Expr} {t : TA} {pos : Pos} {x1 : Nat} (h : PA X es t) : PE X (.Tuple es x1 pos) (tTupF t) := by
  refine ⟨fun pins s σ H Q I hq => ?_⟩
  refine wpAny_Tuple_spliced (thn (h.run pos pins s σ H _ I hq) fun us s1 ⟨xs, H1, I1, r, z, q⟩ => ⟨by rw [← r.length]; exact z, ?_⟩)
  have hat : (s1.heap.push { cls := .type "tuple", data := .seq us.toArray }).get? s1.heap.objs.size = some { cls := .type "tuple", data := .seq us.toArray } := Heap.get?_push_size _ rfl
  exact ⟨.ref s1.heap.objs.size, _, I1.laid (t' := s1.toks) (o := .frz { cls := .type "tuple", data := .seq us.toArray } (.tup xs)) (fun b u e => Heap.get?_push_of_some _ e) (Nat.le_refl _) ⟨hat, z, us, r, _, hat, rfl, _, rfl⟩, rfl, q _ _ (I1.hok.fresh (Nat.le_refl _)) (fun b hb => upd_ne hb) ⟨_, upd_same, rfl, rfl⟩⟩
def rCatF (K : PySem.W.Frag) : V → V → Hp → VK → Prop := fun x y H Q => ∃ (a b : Addr) (xs ys : List V), x = .ref a ∧ y = .ref b ∧ SqT K H a xs ∧ SqT K H b ys ∧ xs ≠ [] ∧ xs.length + ys.length ≤ sizeLine ∧ (ys = [] → Q (.ref a) H) ∧ (ys ≠ [] → ∀ p H', H p = none → (∀ c, c ≠ p → H' c = H c) → FzT H' p (xs ++ ys) → Q (.ref p) H')
theorem op_catF {X : Cx} : OpR X (binaryOp .Add) (rCatF X.K) := by
  intro pins s σ H x y v u Q I rx ry h
  obtain ⟨a, b, xs, ys, rfl, rfl, ha, hb, hx, hz, q1, q2⟩ := h
  cases rx
  cases ry
  obtain ⟨its, r1, p1, _⟩ := I.tuple ha
  obtain ⟨its2, r2, p2, _⟩ := I.tuple hb
  refine HT.cat_tup p1 p2 (fun z => hx (r1.nil_iff.mp z)) (fun z => ⟨.ref a, H, I, rfl, q1 (r2.nil_iff.mp z)⟩) (fun z => ?_) (by rw [← r1.length, ← r2.length]; exact hz)
  have hat := Heap.get?_push_size s.heap (o := { cls := .type "tuple", data := .seq (its ++ its2).toArray }) rfl
  exact ⟨.ref s.heap.objs.size, _, I.laid (t' := s.toks) (o := .frz { cls := .type "tuple", data := .seq (its ++ its2).toArray } (.tup (xs ++ ys))) (fun b ob q => Heap.get?_push_of_some _ q) (Nat.le_refl _) ⟨hat, by rw [List.length_append]; exact hz, _, r1.append r2, _, hat, rfl, _, rfl⟩, rfl, q2 (fun w => z (r2.nil_iff.mpr w)) _ _ (I.hok.fresh (Nat.le_refl _)) (fun b hb => upd_ne hb) ⟨_, upd_same, rfl, rfl⟩⟩
/-- both cases at once -/
theorem catF_any {K : PySem.W.Frag} {x y : V} {H H0 : Hp} {Q : VK} {a b : Addr} {xs ys : List V} (ex : x = .ref a) (ey : y = .ref b) (hx : FzT H a xs) (a0 : H0 a = none) (hy : SqT K H b ys) (nx : xs ≠ []) (w : Was H0 H) (hl : xs.length + ys.length ≤ sizeLine)
    (h : ∀ p H', Same H H' → H0 p = none → FzT H' p (xs ++ ys) → Q (.ref p) H') : rCatF K x y H Q := by
  refine ⟨a, b, xs, ys, ex, ey, hx.sq, hy, nx, hl, fun e => h a H (Same.refl _) a0 (by rw [e, List.append_nil]; exact hx), fun _ p H' np hr hf => h p H' (fun c u e => ?_) (w p np) hf⟩
  rw [hr c (ne_of_none e np)]
  exact e
/-- dict(t), t a tuple of pairs, held frozen -/
theorem call_dictF {X : Cx} (hcalm : X.calm = true) : CallR X (.type "dict") (fun xs H Q => ∃ (a : Addr) (ps : List Addr) (kvs : List (L2.Key × V)), xs = [.ref a] ∧ FzT H a (ps.map V.ref) ∧ Paired (fun p kv => SqT X.K H p [kV kv.1, kv.2]) ps kvs ∧
    ∀ p, H p = none → Q (.ref p) (upd H p (.dK (mergeK [] kvs)))) := by
  intro pins s σ H xs us Q I r q
  obtain ⟨a, ps, kvs, rfl, hq, hp, q⟩ := q
  rw [Vals.ref1 r]
  obtain ⟨its, rv, pt, hz⟩ := I.tuple (hq.sq (K := X.K))
  have ei := refs_at rv
  subst ei
  rw [List.length_map] at hz
  obtain ⟨prs, rel, hl, hpr⟩ := pairs_of I hp
  obtain ⟨ob, hf, hc, hd⟩ := hq
  have hg : s.heap.get? a = some ob := (I.hok a _ hf).1
  obtain ⟨ob', hg', hc', n, hdat⟩ := pt
  rw [hg] at hg'
  cases hg'
  have hlen : prs.length = (ps.map Value.ref).toArray.size := by rw [List.size_toArray, List.length_map, hl]
  -- the values of the keys, as they stand
  have hex : ∃ kus : List Value, kus.length = prs.length ∧ ∀ (j : Nat) (q : L2.Key × Value) (u : Value), prs[j]? = some q → kus[j]? = some u → ∃ b : Addr, ps[j]? = some b ∧ IsTup s.heap b #[u, q.2] ∧ keyIs q.1 u = true := by
    have key : ∀ (m : Nat) (qs : List (L2.Key × Value)) (d : Nat), qs.length = m → (∀ (j : Nat) (q : L2.Key × Value), qs[j]? = some q → ∃ (b : Addr) (u : Value), ps[d + j]? = some b ∧ IsTup s.heap b #[u, q.2] ∧ keyIs q.1 u = true) →
        ∃ kus : List Value, kus.length = m ∧ ∀ (j : Nat) (q : L2.Key × Value) (u : Value), qs[j]? = some q → kus[j]? = some u → ∃ b : Addr, ps[d + j]? = some b ∧ IsTup s.heap b #[u, q.2] ∧ keyIs q.1 u = true := by
      intro m
      induction m with
      | zero =>
        intro qs d hm _
        rw [List.length_eq_zero_iff.mp hm]
        exact ⟨[], rfl, fun j q u e => by simp at e⟩
      | succ m ih =>
        intro qs d hm hh
        cases qs with
        | nil => cases hm
        | cons q0 r0 =>
          obtain ⟨b, u, e1, e2, e3⟩ := hh 0 q0 rfl
          obtain ⟨kus, kl, kh⟩ := ih r0 (d + 1) (by simpa using hm) fun j q e => by
            have := hh (j + 1) q (by simpa using e)
            rw [show d + (j + 1) = d + 1 + j by omega] at this
            exact this
          refine ⟨u :: kus, by rw [List.length_cons, kl], fun j q u' e f => ?_⟩
          cases j with
          | zero =>
            cases e
            cases f
            exact ⟨b, e1, e2, e3⟩
          | succ j =>
            have := kh j q u' (by simpa using e) (by simpa using f)
            rw [show d + 1 + j = d + (j + 1) by omega] at this
            exact this
    obtain ⟨kus, kl, kh⟩ := key prs.length prs 0 rfl fun j q e => by rw [Nat.zero_add]; exact hpr j q e
    exact ⟨kus, kl, fun j q u e f => by have := kh j q u e f; rwa [Nat.zero_add] at this⟩
  obtain ⟨kus, kl, kh⟩ := hex
  have zl : (kus.zip (prs.map fun q : L2.Key × Value => q.2)).length = prs.length := by rw [List.length_zip, List.length_map, kl, Nat.min_self]
  have zat : ∀ (j : Nat) (k v : Value), (kus.zip (prs.map fun q : L2.Key × Value => q.2))[j]? = some (k, v) → ∃ q, prs[j]? = some q ∧ kus[j]? = some k ∧ q.2 = v := fun j k v e => by
    obtain ⟨e1, e2⟩ := List.getElem?_zip_eq_some.mp e
    rw [List.getElem?_map] at e2
    cases h : prs[j]? with
    | none => rw [h] at e2; cases e2
    | some q =>
      rw [h] at e2
      exact ⟨q, rfl, e1, Option.some.inj e2⟩
  refine PySem.call_dict_pairs (knd := mixKind X.prog X.w) (kvs := prs) (PairArg.tuple a (ps.map Value.ref).toArray (fun j => ps.getD j 0) (kus.zip (prs.map fun q : L2.Key × Value => q.2))) (I.ok.hd hcalm) ⟨⟨ob, n, hg, hc, hd, hdat⟩, by rw [zl]; exact hlen.symm, fun j k v e => ?_⟩ ⟨zl.symm, fun j key v e => ?_⟩ (by rw [zl, hl]; exact hz) fun h' tk hd' k => ?_
  · obtain ⟨q', h1, h2, h3⟩ := zat j k v e
    obtain ⟨b, e1, e2, e3⟩ := kh j q' k h1 h2
    have eg : ps.getD j 0 = b := by rw [List.getD_eq_getElem?_getD, e1]; rfl
    refine ⟨?_, ?_⟩
    · show (ps.map Value.ref).toArray[j]? = some (Value.ref (ps.getD j 0))
      rw [eg]
      simp [e1]
    · show PairAt s.heap (ps.getD j 0) k v
      rw [eg, ← h3]
      exact .inl e2
  · obtain ⟨q', h1, h2, h3⟩ := zat j key v e
    obtain ⟨b, e1, e2, e3⟩ := kh j q' key h1 h2
    exact ⟨q'.1, by rw [h1, ← h3], e3⟩
  · have hm : (s.heap.objs.size == sysModules) = false := beq_eq_false_iff_ne.mpr (Nat.ne_of_gt I.big)
    have hlen2 : (mergeK [] kvs).length ≤ sizeLine := by
      refine Nat.le_trans (length_mergeK kvs []) ?_
      rw [List.length_nil, Nat.zero_add, rel.length, hl]
      exact hz
    exact ⟨.ref s.heap.objs.size, upd H s.heap.objs.size (.dK (mergeK [] kvs)), I.laid (t' := tk) (fun b o e => k b o (by simp) e) (Nat.le_refl _) (show ObjOk X.prog X.w _ _ _ (.dK (mergeK [] kvs)) from ⟨hlen2, hm, merged [] prs, KV.merge rel .nil, hd'⟩), rfl, q _ (I.hok.fresh (Nat.le_refl _))⟩
end GX
set_option Elab.async false
set_option linter.all false
set_option maxRecDepth 100000
set_option maxHeartbeats 4000000
/-! Things of any make, as they stand in the heap, and what is a net of them. -/
namespace GX
open PySem PySem.Spec PyProof.Rows L2
theorem pg_tupK {X : Cx} {K : PySem.W.Frag} {es : List Expr} {k : Nat} {t : TGs} {n : Nat} {pos : _} (h : X.K = K) (hc : X.calm = true) (hh : PGs X es t) (hn : (assignEach es X.env).length = n := by rfl) (hst : (assignEach es X.env).findIdx? (·.1) = none := by rfl) : PG X (.Tuple es k pos) (gTup K n t) := by subst h; exact pg_tup hc hh hn hst
inductive Th where
  | non | bl (b : Bool) | int (i : Int) | str (x : Str) | oth (l : Bool) | tup (ts : List Th)
mutual
inductive Rep (H : Hp) : V → Th → Prop
  | non : Rep H .non .non
  | bl (b : Bool) : Rep H (.bl b) (.bl b)
  | int (i : Int) : Rep H (.int i) (.int i)
  | str (x : Str) : Rep H (.str x) (.str x)
  | lst {a : Addr} {xs : List V} (e : H a = some (.lst xs)) : Rep H (.ref a) (.oth true)
  | dic {a : Addr} {kvs : List (Key × V)} (e : H a = some (.dK kvs)) : Rep H (.ref a) (.oth false)
  | tup {a : Addr} {vs : List V} {ts : List Th} (e : H a = some (.tup vs)) (r : RepAll H vs ts) : Rep H (.ref a) (.tup ts)
inductive RepAll (H : Hp) : List V → List Th → Prop
  | nil : RepAll H [] []
  | cons {v : V} {vs : List V} {t : Th} {ts : List Th} : Rep H v t → RepAll H vs ts → RepAll H (v :: vs) (t :: ts)
end
/-- lists, dicts and tuples stand -/
def KeepT (H H' : Hp) : Prop := ∀ b o, H b = some o → (∀ ps, o ≠ .tbl ps) → H' b = some o
mutual
theorem Rep.mono {H H' : Hp} (k : KeepT H H') : ∀ {v : V} {t : Th}, Rep H v t → Rep H' v t
  | _, _, .non => .non
  | _, _, .bl b => .bl b
  | _, _, .int i => .int i
  | _, _, .str x => .str x
  | _, _, .lst e => .lst (k _ _ e fun _ z => by cases z)
  | _, _, .dic e => .dic (k _ _ e fun _ z => by cases z)
  | _, _, .tup e r => .tup (k _ _ e fun _ z => by cases z) (r.mono k)
theorem RepAll.mono {H H' : Hp} (k : KeepT H H') : ∀ {vs : List V} {ts : List Th}, RepAll H vs ts → RepAll H' vs ts
  | _, _, .nil => .nil
  | _, _, .cons a b => .cons (a.mono k) (b.mono k)
end
theorem KeepT.same {H H' : Hp} (s : Same H H') : KeepT H H' := fun b o e _ => s b o e
theorem KeepT.aft {Ts : List Addr} {H H' : Hp} (t : Tabs Ts H) (a : Aft Ts H H') : KeepT H H' := fun b o e n => a.kp b o e (t.nott e n)
theorem RepAll.length {H : Hp} : ∀ {vs : List V} {ts : List Th}, RepAll H vs ts → vs.length = ts.length
  | _, _, .nil => rfl
  | _, _, .cons _ b => by rw [List.length_cons, List.length_cons, b.length]
theorem RepAll.get {H : Hp} : ∀ {vs : List V} {ts : List Th} {i : Nat} {v : V}, RepAll H vs ts → vs[i]? = some v → ∃ t, ts[i]? = some t ∧ Rep H v t
  | _, _, _, _, .nil, h => by simp at h
  | _, _, 0, _, .cons a _, h => by cases h; exact ⟨_, rfl, a⟩
  | _, _, i + 1, _, .cons _ b, h => RepAll.get (i := i) b h
theorem RepAll.append {H : Hp} : ∀ {vs ws : List V} {ts us : List Th}, RepAll H vs ts → RepAll H ws us → RepAll H (vs ++ ws) (ts ++ us)
  | _, _, _, _, .nil, s => s
  | _, _, _, _, .cons a b, s => .cons a (b.append s)
theorem RepAll.drop {H : Hp} : ∀ {vs : List V} {ts : List Th} (n : Nat), RepAll H vs ts → RepAll H (vs.drop n) (ts.drop n)
  | _, _, 0, r => r
  | _, _, _ + 1, .nil => .nil
  | _, _, n + 1, .cons _ b => b.drop n
theorem RepAll.take {H : Hp} : ∀ {vs : List V} {ts : List Th} (n : Nat), RepAll H vs ts → RepAll H (vs.take n) (ts.take n)
  | _, _, 0, _ => .nil
  | _, _, _ + 1, .nil => .nil
  | _, _, n + 1, .cons a b => .cons a (b.take n)
theorem RepAll.reverse {H : Hp} : ∀ {vs : List V} {ts : List Th}, RepAll H vs ts → RepAll H vs.reverse ts.reverse
  | _, _, .nil => .nil
  | _, _, .cons a b => by
    rw [List.reverse_cons, List.reverse_cons]
    exact b.reverse.append (.cons a .nil)
def tyN : Th → String
  | .non => "NoneType"
  | .bl _ => "bool"
  | .int _ => "int"
  | .str _ => "str"
  | .oth true => "list"
  | .oth false => "dict"
  | .tup _ => "tuple"
theorem tyx {K : PySem.W.Frag} {H : Hp} {v : V} {t : Th} (r : Rep H v t) : TyX K H v (.type (tyN t)) := by
  cases r with
  | non => exact .base .non
  | bl b => exact .base (.bl b)
  | int i => exact .base (.int i)
  | str x => exact .base (.str x)
  | lst e => exact .base (.lst e)
  | dic e => exact .base (.dK e)
  | tup e _ => exact .base (.tup e)
def Th.kInt : Th → Bool
  | .bl _ => true
  | .int _ => true
  | _ => false
def Th.kBool : Th → Bool
  | .bl _ => true
  | _ => false
def Th.kTup : Th → Bool
  | .tup _ => true
  | _ => false
theorem kInt_ok : ∀ t : Th, kitB (tyN t) "int" = some t.kInt
  | .non => by decide +kernel
  | .bl _ => by show kitB "bool" "int" = some true; decide +kernel
  | .int _ => by show kitB "int" "int" = some true; decide +kernel
  | .str _ => by show kitB "str" "int" = some false; decide +kernel
  | .oth true => by show kitB "list" "int" = some false; decide +kernel
  | .oth false => by show kitB "dict" "int" = some false; decide +kernel
  | .tup _ => by show kitB "tuple" "int" = some false; decide +kernel
theorem kBool_ok : ∀ t : Th, kitB (tyN t) "bool" = some t.kBool
  | .non => by decide +kernel
  | .bl _ => by show kitB "bool" "bool" = some true; decide +kernel
  | .int _ => by show kitB "int" "bool" = some false; decide +kernel
  | .str _ => by show kitB "str" "bool" = some false; decide +kernel
  | .oth true => by show kitB "list" "bool" = some false; decide +kernel
  | .oth false => by show kitB "dict" "bool" = some false; decide +kernel
  | .tup _ => by show kitB "tuple" "bool" = some false; decide +kernel
theorem kTup_ok : ∀ t : Th, kitB (tyN t) "tuple" = some t.kTup
  | .non => by decide +kernel
  | .bl _ => by show kitB "bool" "tuple" = some false; decide +kernel
  | .int _ => by show kitB "int" "tuple" = some false; decide +kernel
  | .str _ => by show kitB "str" "tuple" = some false; decide +kernel
  | .oth true => by show kitB "list" "tuple" = some false; decide +kernel
  | .oth false => by show kitB "dict" "tuple" = some false; decide +kernel
  | .tup _ => by show kitB "tuple" "tuple" = some true; decide +kernel
/-! ### what is a net -/
def Th.whole : Th → Bool
  | .int _ => true
  | _ => false
def Th.isB (b : Int) : Th → Bool
  | .int i => decide (0 ≤ i) && decide (i < b)
  | _ => false
def Th.many : Th → Bool
  | .int i => decide (1 ≤ i) && decide (i ≤ 8)
  | _ => false
def Th.gate (w : Int) : Th → Bool
  | .tup [k, a, b] => k.isB 16 && a.isB w && b.isB w
  | _ => false
def gatesFrom (w : Int) : List Th → Bool
  | [] => true
  | t :: r => t.gate w && gatesFrom (w + 1) r
def Th.gates (m : Int) : Th → Bool
  | .tup ts => decide (ts.length ≤ 16) && gatesFrom m ts
  | _ => false
def Th.outs (c : Int) : Th → Bool
  | .tup ts => decide (1 ≤ ts.length) && decide (ts.length ≤ 8) && ts.all (Th.isB c)
  | _ => false
def Th.val : Th → Int
  | .int i => i
  | _ => 0
def Th.len : Th → Nat
  | .tup ts => ts.length
  | _ => 0
def Th.net : Th → Bool
  | .tup [m, g, o] => m.many && g.gates m.val && o.outs (m.val + g.len)
  | _ => false
theorem gatesFrom_split (w : Int) : ∀ (ts : List Th) (i : Nat), gatesFrom w ts = (gatesFrom w (ts.take i) && gatesFrom (w + min i ts.length) (ts.drop i))
  | [], i => by simp [gatesFrom]
  | t :: r, 0 => by simp [gatesFrom]
  | t :: r, i + 1 => by
    show (t.gate w && gatesFrom (w + 1) r) = ((t.gate w && gatesFrom (w + 1) (r.take i)) && gatesFrom (w + ((min (i + 1) (r.length + 1) : Nat) : Int)) (r.drop i))
    rw [gatesFrom_split (w + 1) r i, Bool.and_assoc, show (w + 1 + ((min i r.length : Nat) : Int)) = w + ((min (i + 1) (r.length + 1) : Nat) : Int) by omega]
theorem gatesFrom_snoc {w : Int} {ts : List Th} {i : Nat} {t : Th} (h : ts[i]? = some t) : gatesFrom w (ts.take (i + 1)) = (gatesFrom w (ts.take i) && t.gate (w + i)) := by
  obtain ⟨hl, _⟩ := List.getElem?_eq_some_iff.mp h
  rw [gatesFrom_split w (ts.take (i + 1)) i, List.take_take, Nat.min_eq_left (Nat.le_succ i)]
  congr 1
  rw [List.take_add_one, h, List.drop_append_of_le_length (by rw [List.length_take]; omega), List.drop_of_length_le (by rw [List.length_take]; omega), Option.toList_some, List.nil_append]
  show (t.gate _ && gatesFrom _ []) = _
  rw [show gatesFrom (w + ((min i (ts.take i ++ [t]).length : Nat) : Int) + 1) [] = true from rfl, Bool.and_true, List.length_append, List.length_take]
  congr 1
  simp only [List.length_cons, List.length_nil]
  omega
theorem gatesFrom_bad {w : Int} {ts : List Th} {i : Nat} {t : Th} (h : ts[i]? = some t) (hf : t.gate (w + i) = false) : gatesFrom w ts = false := by
  rw [gatesFrom_split w ts (i + 1), gatesFrom_snoc h, hf, Bool.and_false, Bool.false_and]
end GX
set_option Elab.async false
set_option linter.all false
set_option maxRecDepth 100000
set_option maxHeartbeats 4000000
/-! Things of whole numbers and tuples alone, no longer than n, no deeper than d. -/
namespace GX
open PySem PySem.Spec PyProof.Rows L2
def Th.pl (n : Nat) : Nat → Th → Bool
  | 0, _ => false
  | _ + 1, .int _ => true
  | d + 1, .tup ts => decide (ts.length ≤ n) && ts.all (Th.pl n d)
  | _ + 1, _ => false
/-- tuples stand -/
def KeepU (H H' : Hp) : Prop := ∀ b xs, H b = some (.tup xs) → H' b = some (.tup xs)
theorem KeepU.trans {H H1 H2 : Hp} (a : KeepU H H1) (b : KeepU H1 H2) : KeepU H H2 := fun c xs e => b c xs (a c xs e)
theorem KeepU.same {H H' : Hp} (s : Same H H') : KeepU H H' := fun b xs e => s b _ e
theorem KeepU.well {H H' : Hp} {W : Addr} (h : Wl H W) (k : Keep [W] H H') : KeepU H H' := k.tups h.nt
theorem pl_monoAll {H H' : Hp} {n d : Nat} (ih : ∀ v t, Th.pl n d t = true → Rep H v t → Rep H' v t) : ∀ {vs : List V} {ts : List Th}, ts.all (Th.pl n d) = true → RepAll H vs ts → RepAll H' vs ts
  | _, _, _, .nil => .nil
  | _, _, p, .cons a b => by
    rw [List.all_cons, Bool.and_eq_true] at p
    exact .cons (ih _ _ p.1 a) (pl_monoAll ih p.2 b)
theorem pl_mono {H H' : Hp} {n : Nat} (k : KeepU H H') : ∀ (d : Nat) (v : V) (t : Th), Th.pl n d t = true → Rep H v t → Rep H' v t
  | 0, _, _, p, _ => by cases p
  | d + 1, v, t, p, r => by
    cases r with
    | int i => exact .int i
    | @tup a vs ts e ra =>
      have p' : (decide (ts.length ≤ n) && ts.all (Th.pl n d)) = true := p
      rw [Bool.and_eq_true] at p'
      exact .tup (k _ _ e) (pl_monoAll (pl_mono k d) p'.2 ra)
    | _ => cases p
theorem pl_le {n m : Nat} (h : n ≤ m) : ∀ (d : Nat) (t : Th), Th.pl n d t = true → Th.pl m d t = true
  | 0, _, p => by cases p
  | d + 1, t, p => by
    cases t with
    | int i => rfl
    | tup ts =>
      have p' : (decide (ts.length ≤ n) && ts.all (Th.pl n d)) = true := p
      rw [Bool.and_eq_true] at p'
      show (decide (ts.length ≤ m) && ts.all (Th.pl m d)) = true
      rw [Bool.and_eq_true]
      refine ⟨decide_eq_true (Nat.le_trans (of_decide_eq_true p'.1) h), ?_⟩
      rw [List.all_eq_true]
      intro x hx
      exact pl_le h d x (List.all_eq_true.mp p'.2 x hx)
    | _ => cases p
theorem pl_dpAll {K : PySem.W.Frag} {H : Hp} {n d : Nat} (ih : ∀ v t, Th.pl n d t = true → Rep H v t → ∃ x, Dp K H v x ∧ x.canLay0 = true ∧ x.depth ≤ d) :
    ∀ {vs : List V} {ts : List Th}, ts.all (Th.pl n d) = true → RepAll H vs ts → ∃ xs, DpAll K H vs xs ∧ PyData.canLayAll0 xs = true ∧ PyData.depthAll xs ≤ d ∧ xs.length = vs.length
  | _, _, _, .nil => ⟨[], .nil, rfl, Nat.zero_le _, rfl⟩
  | _, _, p, .cons a b => by
    rw [List.all_cons, Bool.and_eq_true] at p
    obtain ⟨x, h1, h2, h3⟩ := ih _ _ p.1 a
    obtain ⟨xs, g1, g2, g3, g4⟩ := pl_dpAll ih p.2 b
    refine ⟨x :: xs, .cons h1 g1, ?_, ?_, by rw [List.length_cons, List.length_cons, g4]⟩
    · show (x.canLay0 && PyData.canLayAll0 xs) = true
      rw [h2, g2]
      rfl
    · show max x.depth (PyData.depthAll xs) ≤ d
      omega
theorem pl_dp {K : PySem.W.Frag} {H : Hp} {n : Nat} : ∀ (d : Nat) (v : V) (t : Th), Th.pl n d t = true → Rep H v t → ∃ x, Dp K H v x ∧ x.canLay0 = true ∧ x.depth ≤ d
  | 0, v, t, p, r => by cases p
  | d + 1, v, t, p, r => by
    cases r with
    | int i => exact ⟨.int i, .int i, rfl, Nat.zero_le _⟩
    | @tup a vs ts e ra =>
      have p' : (decide (ts.length ≤ n) && ts.all (Th.pl n d)) = true := p
      rw [Bool.and_eq_true] at p'
      obtain ⟨xs, g1, g2, g3, _⟩ := pl_dpAll (pl_dp d) p'.2 ra
      exact ⟨.tuple xs, .tup (SqT.of e) g1, g2, Nat.succ_le_succ g3⟩
    | _ => cases p
/-- things of the values: whole numbers and tuples -/
def Pl (n d : Nat) (H : Hp) (v : V) : Prop := ∃ t, Rep H v t ∧ Th.pl n d t = true
def PlAll (n d : Nat) (H : Hp) (vs : List V) : Prop := ∃ ts, RepAll H vs ts ∧ ts.all (Th.pl n d) = true
theorem Pl.mono {n d : Nat} {H H' : Hp} {v : V} (h : Pl n d H v) (k : KeepU H H') : Pl n d H' v := let ⟨t, r, p⟩ := h; ⟨t, pl_mono k d v t p r, p⟩
theorem PlAll.mono {n d : Nat} {H H' : Hp} {vs : List V} (h : PlAll n d H vs) (k : KeepU H H') : PlAll n d H' vs := let ⟨ts, r, p⟩ := h; ⟨ts, pl_monoAll (pl_mono k d) p r, p⟩
theorem all_sub {α : Type} {f : α → Bool} {xs ys : List α} (h : xs.all f = true) (s : ∀ x ∈ ys, x ∈ xs) : ys.all f = true := by
  rw [List.all_eq_true] at h ⊢
  exact fun x hx => h x (s x hx)
theorem PlAll.drop {n d : Nat} {H : Hp} {vs : List V} (i : Nat) (h : PlAll n d H vs) : PlAll n d H (vs.drop i) := let ⟨ts, r, p⟩ := h; ⟨ts.drop i, r.drop i, all_sub p fun _ hx => List.mem_of_mem_drop hx⟩
theorem PlAll.take {n d : Nat} {H : Hp} {vs : List V} (i : Nat) (h : PlAll n d H vs) : PlAll n d H (vs.take i) := let ⟨ts, r, p⟩ := h; ⟨ts.take i, r.take i, all_sub p fun _ hx => List.mem_of_mem_take hx⟩
theorem PlAll.cut {n d : Nat} {H : Hp} {vs : List V} (lo hi : Option Int) (h : PlAll n d H vs) : PlAll n d H (cutV vs lo hi) := by
  unfold cutV
  exact (h.drop _).take _
theorem PlAll.reverse {n d : Nat} {H : Hp} {vs : List V} (h : PlAll n d H vs) : PlAll n d H vs.reverse := let ⟨ts, r, p⟩ := h; ⟨ts.reverse, r.reverse, all_sub p fun _ hx => List.mem_reverse.mp hx⟩
theorem PlAll.append {n d : Nat} {H : Hp} {vs ws : List V} (h : PlAll n d H vs) (g : PlAll n d H ws) : PlAll n d H (vs ++ ws) := let ⟨ts, r, p⟩ := h; let ⟨us, s, q⟩ := g; ⟨ts ++ us, r.append s, by rw [List.all_append, p, q]; rfl⟩
theorem PlAll.one {n d : Nat} {H : Hp} {v : V} (h : Pl n d H v) : PlAll n d H [v] := let ⟨t, r, p⟩ := h; ⟨[t], .cons r .nil, by rw [List.all_cons, p]; rfl⟩
theorem PlAll.get {n d : Nat} {H : Hp} {vs : List V} {i : Nat} {v : V} (h : PlAll n d H vs) (e : vs[i]? = some v) : Pl n d H v := by
  obtain ⟨ts, r, p⟩ := h
  obtain ⟨t, ht, rt⟩ := r.get e
  exact ⟨t, rt, List.all_eq_true.mp p t (List.mem_of_getElem? ht)⟩
theorem PlAll.le {n m d : Nat} {H : Hp} {vs : List V} (h : PlAll n d H vs) (l : n ≤ m) : PlAll m d H vs := let ⟨ts, r, p⟩ := h; ⟨ts, r, by
  rw [List.all_eq_true] at p ⊢
  exact fun x hx => pl_le l d x (p x hx)⟩
theorem Pl.tup {n d : Nat} {H : Hp} {a : Addr} {vs : List V} (e : H a = some (.tup vs)) (hl : vs.length ≤ n) (h : PlAll n d H vs) : Pl n (d + 1) H (.ref a) := by
  obtain ⟨ts, r, p⟩ := h
  refine ⟨.tup ts, .tup e r, ?_⟩
  show (decide (ts.length ≤ n) && ts.all (Th.pl n d)) = true
  rw [p, Bool.and_true]
  exact decide_eq_true (by rw [← r.length]; exact hl)
theorem Pl.int {n d : Nat} {H : Hp} (i : Int) : Pl n (d + 1) H (.int i) := ⟨.int i, .int i, rfl⟩
/-- what it is: a number or a tuple -/
theorem Pl.inv {n d : Nat} {H : Hp} {v : V} (h : Pl n (d + 1) H v) : (∃ i, v = .int i) ∨ ∃ a vs, v = .ref a ∧ H a = some (.tup vs) ∧ vs.length ≤ n ∧ PlAll n d H vs := by
  obtain ⟨t, r, p⟩ := h
  cases r with
  | int i => exact .inl ⟨i, rfl⟩
  | @tup a vs ts e ra =>
    have p' : (decide (ts.length ≤ n) && ts.all (Th.pl n d)) = true := p
    rw [Bool.and_eq_true] at p'
    exact .inr ⟨a, vs, rfl, e, by rw [ra.length]; exact of_decide_eq_true p'.1, ts, ra, p'.2⟩
  | _ => cases p
theorem cut_len (xs : List V) (lo hi : Option Int) : (cutV xs lo hi).length ≤ xs.length := by
  unfold cutV
  rw [List.length_take, List.length_drop]
  omega
theorem PlAll.dp {K : PySem.W.Frag} {n d : Nat} {H : Hp} {vs : List V} (h : PlAll n d H vs) : ∃ xs, DpAll K H vs xs ∧ PyData.canLayAll0 xs = true ∧ PyData.depthAll xs ≤ d ∧ xs.length = vs.length := let ⟨_, r, p⟩ := h; pl_dpAll (pl_dp d) p r
theorem eqvAll_nil (xs : List PyData) : PyData.eqvAll xs [] = decide (xs.length = 0) := by
  cases xs with
  | nil => rfl
  | cons x r => rfl
/-- t == () and l == [] -/
theorem shaped_tup {xs : List PyData} {d : Nat} (h1 : PyData.canLayAll0 xs = true) (h2 : PyData.depthAll xs ≤ d) (h3 : d < 64) : SeqAt.shaped (.tuple xs) = true := by
  show (PyData.canLayAll0 xs && decide (PyData.depthAll xs + 1 ≤ 64)) = true
  rw [h1, decide_eq_true (by omega)]
  rfl
theorem shaped_lst {xs : List PyData} {d : Nat} (h1 : PyData.canLayAll0 xs = true) (h2 : PyData.depthAll xs ≤ d) (h3 : d < 64) : SeqAt.shaped (.list xs) = true := by
  show (PyData.canLayAll0 xs && decide (PyData.depthAll xs + 1 ≤ 64)) = true
  rw [h1, decide_eq_true (by omega)]
  rfl
end GX
set_option Elab.async false
set_option linter.all false
set_option maxRecDepth 100000
set_option maxHeartbeats 4000000
/-! Dicts whose keys are wires; dicts of covers. -/
namespace GX
open PySem PySem.Spec PyProof.Rows L2
def dlenOf (σ : L2.St) (H : Hp) (i : Nat) : Nat := match σ[i]? with
  | some (some (V.ref l)) => match H l with
    | some (HO.dK xs) => xs.length
    | _ => 0
  | _ => 0
/-- a dict with True for each of these -/
def kvF (F : List Nat) : List (L2.Key × V) := F.map fun x : Nat => (nK x, V.bl true)
theorem kvF_len (F : List Nat) : (kvF F).length = F.length := List.length_map _
theorem kvF_some (F : List Nat) (x : Nat) : (valV (kvF F) (nK x)).isSome = decide (x ∈ F) := by
  rw [← valV_any]
  unfold kvF
  rw [List.any_map, Bool.eq_iff_iff, List.any_eq_true, decide_eq_true_iff]
  constructor
  · rintro ⟨y, hy, e⟩
    have e' : nK y = nK x := of_decide_eq_true e
    rw [← nK_inj e']
    exact hy
  · intro h
    exact ⟨x, h, decide_eq_true rfl⟩
theorem kvF_put {F : List Nat} {x : Nat} (h : x ∉ F) : putK (kvF F) (nK x) (.bl true) = kvF (F ++ [x]) := by
  have : valV (kvF F) (nK x) = none := by
    have := kvF_some F x
    rw [decide_eq_false h] at this
    cases e : valV (kvF F) (nK x) with
    | none => rfl
    | some v => rw [e] at this; cases this
  rw [putK_new _ this]
  unfold kvF
  rw [List.map_append]
  rfl
theorem kvF_keys (F : List Nat) : (kvF F).map (·.1) = (F.map fun x : Nat => (x : Int)).map Sum.inl := by
  unfold kvF
  rw [List.map_map, List.map_map]
  rfl
theorem merge_none {k : L2.Key} : ∀ (more acc : List (L2.Key × V)), (∀ q ∈ more, q.1 ≠ k) → valV (mergeK acc more) k = valV acc k
  | [], acc, _ => rfl
  | p :: r, acc, u => by
    show valV (mergeK (putK acc p.1 p.2) r) k = _
    rw [merge_none r _ (fun q hq => u q (List.mem_cons_of_mem _ hq)), valV_put, if_neg (fun e => u p List.mem_cons_self e.symm)]
theorem merge_some {k : L2.Key} : ∀ (more acc : List (L2.Key × V)), (∃ q ∈ more, q.1 = k) → ∃ q ∈ more, q.1 = k ∧ valV (mergeK acc more) k = some q.2
  | [], acc, h => by
    obtain ⟨q, hq, _⟩ := h
    cases hq
  | p :: r, acc, h => by
    by_cases e : ∃ q ∈ r, q.1 = k
    · obtain ⟨q, hq, h1, h2⟩ := merge_some r (putK acc p.1 p.2) e
      exact ⟨q, List.mem_cons_of_mem _ hq, h1, h2⟩
    · have hp : p.1 = k := by
        obtain ⟨q, hq, h1⟩ := h
        rcases List.mem_cons.mp hq with rfl | hq
        · exact h1
        · exact absurd ⟨q, hq, h1⟩ e
      refine ⟨p, List.mem_cons_self, hp, ?_⟩
      show valV (mergeK (putK acc p.1 p.2) r) k = _
      rw [merge_none r _ (fun q hq z => e ⟨q, hq, z⟩), valV_put, if_pos hp.symm]
theorem pairs_cov {K : PySem.W.Frag} {H : Hp} : ∀ {qs : List Addr} {cv : List Tb}, PtsAt TbAt H qs cv → ∃ kvs : List (L2.Key × V), Paired (fun p kv => SqT K H p [kV kv.1, kv.2]) qs kvs ∧ (∀ q ∈ kvs, ∃ t ∈ cv, ∃ c, q = (nK t.1, V.ref c) ∧ H c = some (.tup (t.2.map nV))) ∧ ∀ t ∈ cv, ∃ q ∈ kvs, q.1 = nK t.1
  | [], cv, x => by
    have : cv = [] := List.length_eq_zero_iff.mp x.1.symm
    subst this
    exact ⟨[], .nil, fun q hq => by (cases hq), fun t ht => by (cases ht)⟩
  | p :: r, [], x => by cases x.1
  | p :: r, t :: cv, x => by
    obtain ⟨c, h1, h2⟩ := x.2 0 p t rfl rfl
    obtain ⟨kvs, g1, g2, g3⟩ := pairs_cov (K := K) (H := H) (qs := r) (cv := cv) ⟨by simpa using x.1, fun i p' t' e1 e2 => x.2 (i + 1) p' t' (by simpa using e1) (by simpa using e2)⟩
    refine ⟨(nK t.1, V.ref c) :: kvs, .cons (SqT.of h1) g1, fun q hq => ?_, fun t' ht => ?_⟩
    · rcases List.mem_cons.mp hq with rfl | hq
      · exact ⟨t, List.mem_cons_self, c, rfl, h2⟩
      · obtain ⟨t', ht', c', e, h⟩ := g2 q hq
        exact ⟨t', List.mem_cons_of_mem _ ht', c', e, h⟩
    · rcases List.mem_cons.mp ht with rfl | ht
      · exact ⟨_, List.mem_cons_self, rfl⟩
      · obtain ⟨q, hq, e⟩ := g3 t' ht
        exact ⟨q, List.mem_cons_of_mem _ hq, e⟩
/-- what the dict of a cover tells -/
theorem cov_get {H : Hp} {n : Net} {k : Nat} {cv : List Tb} {kvs : List (L2.Key × V)} (c : CovOk n k cv) (g2 : ∀ q ∈ kvs, ∃ t ∈ cv, ∃ c, q = (nK t.1, V.ref c) ∧ H c = some (.tup (t.2.map nV))) (g3 : ∀ t ∈ cv, ∃ q ∈ kvs, q.1 = nK t.1) {t : Tb} (ht : t ∈ cv) : ∃ c, valV (mergeK [] kvs) (nK t.1) = some (.ref c) ∧ H c = some (.tup (t.2.map nV)) := by
  obtain ⟨q, hq, h1, h2⟩ := merge_some kvs [] (g3 t ht)
  obtain ⟨t', ht', c', e, h⟩ := g2 q hq
  rw [e] at h1 h2
  have := rise_uniq c.rise ht' ht (nK_inj h1)
  subst this
  exact ⟨c', h2, h⟩
theorem merge_len (kvs : List (L2.Key × V)) : (mergeK [] kvs).length ≤ kvs.length := by
  have := length_mergeK kvs []
  rwa [List.length_nil, Nat.zero_add] at this
/-- a cover as data -/
def covD (cv : List Tb) : List PyData := cv.map fun t : Tb => .tuple [.int ((t.1 : Nat) : Int), .tuple ((t.2.map fun n : Nat => (n : Int)).map PyData.int)]
theorem canInts : ∀ xs : List Int, PyData.canLayAll0 (xs.map PyData.int) = true ∧ PyData.depthAll (xs.map PyData.int) = 0
  | [] => ⟨rfl, rfl⟩
  | x :: r => by
    obtain ⟨h1, h2⟩ := canInts r
    refine ⟨?_, ?_⟩
    · show ((PyData.int x).canLay0 && PyData.canLayAll0 (r.map PyData.int)) = true
      rw [h1]
      rfl
    · show max (PyData.int x).depth (PyData.depthAll (r.map PyData.int)) = 0
      rw [h2]
      rfl
theorem covD_can : ∀ cv : List Tb, PyData.canLayAll0 (covD cv) = true ∧ PyData.depthAll (covD cv) ≤ 2
  | [] => ⟨rfl, Nat.zero_le _⟩
  | t :: r => by
    obtain ⟨h1, h2⟩ := covD_can r
    obtain ⟨g1, g2⟩ := canInts (t.2.map fun n : Nat => (n : Int))
    refine ⟨?_, ?_⟩
    · show ((true && (PyData.canLayAll0 ((t.2.map fun n : Nat => (n : Int)).map PyData.int) && true)) && PyData.canLayAll0 (covD r)) = true
      rw [g1, h1]
      rfl
    · show max (max 0 (max (PyData.depthAll ((t.2.map fun n : Nat => (n : Int)).map PyData.int) + 1) 0) + 1) (PyData.depthAll (covD r)) ≤ 2
      rw [g2]
      omega
theorem covD_shaped (cv : List Tb) : SeqAt.shaped (.tuple (covD cv)) = true := shaped_tup (covD_can cv).1 (covD_can cv).2 (by decide)
theorem dpCovAll {K : PySem.W.Frag} {H : Hp} : ∀ {qs : List Addr} {cv : List Tb}, PtsAt TbAt H qs cv → DpAll K H (qs.map V.ref) (covD cv)
  | [], cv, x => by
    have : cv = [] := List.length_eq_zero_iff.mp x.1.symm
    subst this
    exact .nil
  | p :: r, [], x => by cases x.1
  | p :: r, t :: cv, x => by
    obtain ⟨c, h1, h2⟩ := x.2 0 p t rfl rfl
    exact .cons (.tup (SqT.of h1) (.cons (.int _) (.cons (.tup (SqT.of h2) (dpNat K _ _)) .nil))) (dpCovAll (K := K) (H := H) (qs := r) (cv := cv) ⟨by simpa using x.1, fun i p' t' e1 e2 => x.2 (i + 1) p' t' (by simpa using e1) (by simpa using e2)⟩)
theorem CovAt.dp {K : PySem.W.Frag} {H : Hp} {a : Addr} {cv : List Tb} {qs : List Addr} (x : CovAt H a cv qs) : Dp K H (.ref a) (.tuple (covD cv)) := .tup (SqT.of x.top) (dpCovAll x.ts)
theorem covD_eq (cv : List Tb) : PyData.eqv (.tuple (covD cv)) (.tuple (covD cv)) = true := SeqAt.eqv_refl _ (SeqAt.canLay_of_shaped (covD_shaped cv))
end GX
set_option Elab.async false
set_option linter.all false
set_option maxRecDepth 100000
set_option maxHeartbeats 4000000
/-! Masks as whole numbers. -/
namespace GX
open PySem PySem.Spec PyProof.Rows L2
theorem ip_and {X : Cx} : PIp X .BitAnd (ipI fun i j => Builtin.bitAnd i j) := by
  intro pins s σ H x y v u Q I r1 r2 h
  obtain ⟨i, j, e1, e2, q⟩ := h
  subst e1; subst e2
  obtain ⟨t, rfl⟩ := r1
  obtain ⟨t', rfl⟩ := r2
  exact iand_int ⟨.int _, H, I.tok _, ⟨_, rfl⟩, q⟩
theorem and_of (a b : Nat) : Builtin.bitAnd ((a : Nat) : Int) ((b : Nat) : Int) = ((a &&& b : Nat) : Int) := by
  rw [bitAnd_pp (Int.natCast_nonneg a) (Int.natCast_nonneg b), Int.toNat_natCast, Int.toNat_natCast]
theorem or_of (a b : Nat) : Builtin.bitOr ((a : Nat) : Int) ((b : Nat) : Int) = ((a ||| b : Nat) : Int) := by
  rw [bitOr_nn (Int.natCast_nonneg a) (Int.natCast_nonneg b), Int.toNat_natCast, Int.toNat_natCast]
theorem and_low (a : Nat) : Builtin.bitAnd ((a : Nat) : Int) (((a : Nat) : Int) - 1) = ((a &&& (a - 1) : Nat) : Int) := by
  cases a with
  | zero => rfl
  | succ a =>
    rw [show (((a + 1 : Nat) : Nat) : Int) - 1 = ((a : Nat) : Int) by omega, and_of]
    rfl
theorem and_next {p M : Nat} (h : 0 < p) : Builtin.bitAnd (((p : Nat) : Int) - 1) ((M : Nat) : Int) = (((p - 1) &&& M : Nat) : Int) := by
  rw [show ((p : Nat) : Int) - 1 = ((p - 1 : Nat) : Int) by omega, and_of]
theorem kvF_again {F : List Nat} {x : Nat} (h : x ∈ F) : putK (kvF F) (nK x) (.bl true) = kvF F := by
  have ha : ((kvF F).any fun kv => decide (kv.1 = nK x)) = true := by
    rw [List.any_eq_true]
    exact ⟨(nK x, .bl true), List.mem_map.mpr ⟨x, h, rfl⟩, decide_eq_true rfl⟩
  unfold putK
  rw [if_pos ha]
  conv => rhs; rw [← List.map_id (kvF F)]
  refine List.map_congr_left fun kv hkv => ?_
  obtain ⟨y, _, rfl⟩ := List.mem_map.mp hkv
  by_cases e : nK y = nK x
  · rw [if_pos e]; rfl
  · rw [if_neg e]; rfl
/-- what is found so far -/
def FoundW (k : Nat) (fs ss : List Nat) (i j : Nat) (F : List Nat) : Prop := ∀ M, M ∈ F ↔ ((∃ f ∈ fs.take i, ∃ s ∈ ss, M = f ||| s ∧ pop M ≤ k) ∨ ∃ s ∈ ss.take j, M = fs.getD i 0 ||| s ∧ pop M ≤ k)
theorem FoundW.zero (k : Nat) (fs ss : List Nat) : FoundW k fs ss 0 0 [] := fun M => ⟨fun h => (by cases h), fun h => by
  rcases h with ⟨f, hf, _⟩ | ⟨s, hs, _⟩
  · cases hf
  · cases hs⟩
theorem mem_take_succ {l : List Nat} {i : Nat} (h : i < l.length) (x : Nat) : x ∈ l.take (i + 1) ↔ (x ∈ l.take i ∨ x = l.getD i 0) := by
  rw [List.take_add_one, List.getElem?_eq_getElem h, Option.toList_some, List.mem_append, List.mem_singleton, List.getD_eq_getElem?_getD, List.getElem?_eq_getElem h]
  rfl
theorem FoundW.row {k : Nat} {fs ss : List Nat} {i : Nat} {F : List Nat} (hi : i < fs.length) (h : FoundW k fs ss i ss.length F) : FoundW k fs ss (i + 1) 0 F := fun M => by
  rw [h M, List.take_length]
  constructor
  · rintro (⟨f, hf, r⟩ | r)
    · exact .inl ⟨f, (mem_take_succ hi f).mpr (.inl hf), r⟩
    · exact .inl ⟨_, (mem_take_succ hi _).mpr (.inr rfl), r⟩
  · rintro (⟨f, hf, r⟩ | ⟨s, hs, _⟩)
    · rcases (mem_take_succ hi f).mp hf with hf | rfl
      · exact .inl ⟨f, hf, r⟩
      · exact .inr r
    · cases hs
theorem FoundW.no {k : Nat} {fs ss : List Nat} {i j : Nat} {F : List Nat} (hj : j < ss.length) (h : FoundW k fs ss i j F) (np : ¬ pop (fs.getD i 0 ||| ss.getD j 0) ≤ k) : FoundW k fs ss i (j + 1) F := fun M => by
  rw [h M]
  constructor
  · rintro (r | ⟨s, hs, r⟩)
    · exact .inl r
    · exact .inr ⟨s, (mem_take_succ hj s).mpr (.inl hs), r⟩
  · rintro (r | ⟨s, hs, rfl, r2⟩)
    · exact .inl r
    · rcases (mem_take_succ hj s).mp hs with hs | rfl
      · exact .inr ⟨s, hs, rfl, r2⟩
      · exact absurd r2 np
theorem FoundW.yes {k : Nat} {fs ss : List Nat} {i j : Nat} {F F' : List Nat} (hj : j < ss.length) (h : FoundW k fs ss i j F) (np : pop (fs.getD i 0 ||| ss.getD j 0) ≤ k) (hF : ∀ M, M ∈ F' ↔ (M ∈ F ∨ M = fs.getD i 0 ||| ss.getD j 0)) : FoundW k fs ss i (j + 1) F' := fun M => by
  rw [hF M, h M]
  constructor
  · rintro ((r | ⟨s, hs, r⟩) | rfl)
    · exact .inl r
    · exact .inr ⟨s, (mem_take_succ hj s).mpr (.inl hs), r⟩
    · exact .inr ⟨_, (mem_take_succ hj _).mpr (.inr rfl), rfl, np⟩
  · rintro (r | ⟨s, hs, rfl, r2⟩)
    · exact .inl (.inl r)
    · rcases (mem_take_succ hj s).mp hs with hs | rfl
      · exact .inl (.inr ⟨s, hs, rfl, r2⟩)
      · exact .inr rfl
theorem FoundW.all {k : Nat} {fs ss F : List Nat} (h : FoundW k fs ss fs.length 0 F) : Found k fs ss F := fun M => by
  rw [h M, List.take_length]
  constructor
  · rintro (r | ⟨s, hs, _⟩)
    · exact r
    · cases hs
  · exact fun r => .inl r
theorem or_lt23 {a b : Nat} (h : a < 2 ^ 23) (g : b < 2 ^ 23) : a ||| b < 2 ^ 23 := Nat.or_lt_two_pow h g
theorem nodup_lt23 {F : List Nat} (nd : F.Nodup) (h : ∀ M ∈ F, M < 2 ^ 23) : F.length < sizeLine := by
  have := nd.length_le_of_subset (l₂ := List.range (2 ^ 23)) fun x hx => List.mem_range.mpr (h x hx)
  rw [List.length_range] at this
  exact Nat.lt_of_le_of_lt this (by decide)
end GX
namespace GX
open PySem PySem.Spec PyProof.Rows L2
theorem bits_small {M : Nat} (h : M < 2 ^ 23) : Builtin.Int.intBits ((M : Nat) : Int) ≤ 10000 := by
  refine Nat.le_trans (m := 23) ?_ (by decide)
  rw [intBits_le_iff, Int.natAbs_natCast]
  exact h
end GX
namespace GX
open PySem PySem.Spec PyProof.Rows L2
theorem putK_le (kvs : List (L2.Key × V)) (k : L2.Key) (v : V) : (putK kvs k v).length ≤ kvs.length + 1 := by
  unfold putK
  by_cases h : (kvs.any fun kv => decide (kv.1 = k)) = true
  · rw [if_pos h, List.length_map]
    omega
  · rw [if_neg h, List.length_append]
    exact Nat.le_refl _
theorem mem_take_lt {ws : List Nat} (r : ws.Pairwise (· < ·)) {i y : Nat} (hi : i < ws.length) (hy : y ∈ ws) (h : y < ws.getD i 0) : y ∈ ws.take i := by
  obtain ⟨j, hj, rfl⟩ := List.mem_iff_getElem.mp hy
  have e : ws.getD i 0 = ws[i] := by rw [List.getD_eq_getElem?_getD, List.getElem?_eq_getElem hi]; rfl
  rw [e] at h
  refine List.mem_take_iff_getElem.mpr ⟨j, ?_, rfl⟩
  by_cases hji : j < i
  · omega
  · by_cases he : i = j
    · subst he
      omega
    · have := List.pairwise_iff_getElem.mp r i j hi hj (by omega)
      omega
theorem not_mem_take {ws : List Nat} (r : ws.Pairwise (· < ·)) {i y : Nat} (hi : i < ws.length) (hy : y ∈ ws.take i) : y < ws.getD i 0 := by
  obtain ⟨j, hj, rfl⟩ := List.mem_take_iff_getElem.mp hy
  have e : ws.getD i 0 = ws[i] := by rw [List.getD_eq_getElem?_getD, List.getElem?_eq_getElem hi]; rfl
  rw [e]
  exact List.pairwise_iff_getElem.mp r j i (by omega) hi (by omega)
/-- the cuts of a wire, as they lie in the dict -/
def CutsIn (n : Net) (k : Nat) (H : Hp) (kvs : List (L2.Key × V)) (x : Nat) : Prop := ∃ (p : Addr) (ms : List Nat), valV kvs (nK x) = some (.ref p) ∧ H p = some (.lst (ms.map nV)) ∧ ML n k x ms ∧ ms.Nodup
theorem CutsIn.mono {n : Net} {k x : Nat} {H H' : Hp} {kvs : List (L2.Key × V)} (h : CutsIn n k H kvs x) (m : ∀ b zs, H b = some (.lst zs) → H' b = some (.lst zs)) : CutsIn n k H' kvs x := by
  obtain ⟨p, ms, h1, h2, h3⟩ := h
  exact ⟨p, ms, h1, m _ _ h2, h3⟩
theorem CutsIn.put {n : Net} {k x y : Nat} {H : Hp} {kvs : List (L2.Key × V)} {v : V} (h : CutsIn n k H kvs x) (ne : x ≠ y) : CutsIn n k H (putK kvs (nK y) v) x := by
  obtain ⟨p, ms, h1, h2, h3⟩ := h
  exact ⟨p, ms, by rw [valV_put, if_neg (fun e => ne (nK_inj e))]; exact h1, h2, h3⟩
theorem ML.lt23 {n : Net} (ok : n.Ok) {k w M : Nat} {ms : List Nat} (hw : w < n.many + n.gates.length) (h : ML n k w ms) (hM : M ∈ ms) : 0 < M ∧ M < 2 ^ 23 := by
  obtain ⟨h1, h2, h3⟩ := (h M).mp hM
  have m8 := ok.m8
  have g16 := ok.g16
  refine ⟨Nat.pos_of_ne_zero fun z => tm_zero ok hw (by rw [← z]; exact h1.tl), ?_⟩
  refine Nat.lt_pow_two_of_testBit M fun j hj => ?_
  cases e : M.testBit j with
  | false => rfl
  | true =>
    have := h1.low ok j e
    have e2 : j = w := by omega
    rw [e2, h3] at e
    cases e
theorem pow_lt23 {x : Nat} (h : x < 23) : 0 < 2 ^ x ∧ 2 ^ x < 2 ^ 23 := ⟨Nat.two_pow_pos x, Nat.pow_lt_pow_right (by decide) h⟩
end GX
namespace GX
open PySem PySem.Spec PyProof.Rows L2
/-- with two wires a gate is told: so it has a least cut -/
theorem ML.some_ {n : Net} (ok : n.Ok) {k g : Nat} {kk : Nat × Nat × Nat} {ms : List Nat} (hk : 2 ≤ k) (hg : n.many ≤ g) (hkk : n.gates[g - n.many]? = some kk) (h : ML n k g ms) : ms ≠ [] := by
  have l1 := place_lt ok hg hkk (.inl rfl)
  have l2 := place_lt ok hg hkk (.inr rfl)
  have bit : ∀ j, (2 ^ kk.2.1 ||| 2 ^ kk.2.2).testBit j = true ↔ (j = kk.2.1 ∨ j = kk.2.2) := fun j => by
    rw [Nat.testBit_or, Nat.testBit_two_pow, Nat.testBit_two_pow, Bool.or_eq_true, decide_eq_true_iff, decide_eq_true_iff]
    omega
  have ht : Tm n g (2 ^ kk.2.1 ||| 2 ^ kk.2.2) := sep_first hg hkk fun z hz => mem_bits.mpr ((bit z).mpr hz)
  obtain ⟨f, f1, f2⟩ := min_ex _ _ (Nat.le_refl _) ht
  have hp : pop (2 ^ kk.2.1 ||| 2 ^ kk.2.2) ≤ 2 := by
    have := (bits_nodup (2 ^ kk.2.1 ||| 2 ^ kk.2.2)).length_le_of_subset (l₂ := [kk.2.1, kk.2.2]) fun x hx => by
      rcases (bit x).mp (mem_bits.mp hx) with e | e
      · rw [e]; exact List.mem_cons_self
      · rw [e]; exact List.mem_cons_of_mem _ List.mem_cons_self
    exact this
  have hm : f ∈ ms := (h f).mpr ⟨f2, Nat.le_trans (pop_sub f1) (by omega), by
    cases e : f.testBit g with
    | false => rfl
    | true =>
      rcases (bit g).mp (f1 g e) with e | e <;> omega⟩
  exact fun z => by
    rw [z] at hm
    cases hm
end GX
set_option Elab.async false
set_option linter.all false
set_option maxRecDepth 100000
set_option maxHeartbeats 4000000
/-! Slices of tuples and tuples put together, whatever object they are. -/
namespace GX
open PySem PySem.Spec PyProof.Rows L2
theorem slA_any {K : PySem.W.Frag} {x : V} {lo hi : Option Int} {H : Hp} {Q : VK} {a : Addr} {xs ys : List V} (ex : x = .ref a) (hs : H a = some (.tup xs)) (hc : cutV xs lo hi = ys) (h : ∀ p H', Same H H' → H' p = some (.tup ys) → Q (.ref p) H') : rSlA K x lo hi H Q := by
  refine ⟨a, xs, ex, SqT.of hs, fun c => h a H (Same.refl _) ?_, fun _ p np => h p _ (Same.new np) (by rw [hc]; exact upd_same)⟩
  have : cutV xs lo hi = xs := by
    unfold cutV
    rw [c.1, c.2, Nat.sub_zero, List.drop_zero, List.take_length]
  rw [← hc, this]
  exact hs
theorem catA_any {K : PySem.W.Frag} {x y : V} {H : Hp} {Q : VK} {a b : Addr} {xs ys : List V} (ex : x = .ref a) (ey : y = .ref b) (hx : H a = some (.tup xs)) (hy : H b = some (.tup ys)) (hl : xs.length + ys.length ≤ sizeLine) (h : ∀ p H', Same H H' → H' p = some (.tup (xs ++ ys)) → Q (.ref p) H') : rCatA K x y H Q := by
  refine ⟨a, b, xs, ys, ex, ey, SqT.of hx, SqT.of hy, hl, fun e => h b H (Same.refl _) (by rw [e, List.nil_append]; exact hy), fun _ e => h a H (Same.refl _) (by rw [e, List.append_nil]; exact hx), fun _ _ p np => h p _ (Same.new np) upd_same⟩
theorem six_nat {L d s : Nat} (h : s ≤ L) : HT.sIx L d (some ((s : Nat) : Int)) = s := by
  have h0 : ¬ ((s : Nat) : Int) < 0 := by omega
  unfold HT.sIx
  simp [h0]
  omega
theorem cut_take {ws : List Nat} {s : Nat} (h : s ≤ ws.length) : cutV (ws.map nV) none (some ((s : Nat) : Int)) = (ws.take s).map nV := by
  unfold cutV
  rw [six_nat (by rw [List.length_map]; exact h), List.map_take]
  show List.take (s - 0) (List.drop 0 _) = _
  rw [Nat.sub_zero, List.drop_zero]
theorem cut_drop {ws : List Nat} {s : Nat} (h : s ≤ ws.length) : cutV (ws.map nV) (some ((s : Nat) : Int)) none = (ws.drop s).map nV := by
  unfold cutV
  rw [six_nat (by rw [List.length_map]; exact h), List.map_drop]
  show List.take ((ws.map nV).length - s) _ = _
  rw [← List.length_drop, List.take_length]
end GX
set_option Elab.async false
set_option linter.all false
set_option maxRecDepth 100000
set_option maxHeartbeats 4000000
/-! A net that stands in the heap, as a thing. -/
namespace GX
open PySem PySem.Spec PyProof.Rows L2
def thN (n : Nat) : Th := .int (n : Int)
def thG (g : Nat × Nat × Nat) : Th := .tup [thN g.1, thN g.2.1, thN g.2.2]
def thNet (n : Net) : Th := .tup [thN n.many, .tup (n.gates.map thG), .tup (n.outs.map thN)]
theorem rep_ns {H : Hp} : ∀ (os : List Nat), RepAll H (os.map nV) (os.map thN)
  | [] => .nil
  | o :: r => .cons (.int _) (rep_ns r)
theorem GatesAt.tail {H : Hp} {p : Addr} {ps : List Addr} {g : Nat × Nat × Nat} {gs : List (Nat × Nat × Nat)} (x : GatesAt H (p :: ps) (g :: gs)) : GatesAt H ps gs :=
  ⟨by have := x.1; simpa using this, fun i p g e1 e2 => x.2 (i + 1) p g e1 e2⟩
theorem rep_gs {H : Hp} : ∀ (ps : List Addr) (gs : List (Nat × Nat × Nat)), GatesAt H ps gs → RepAll H (ps.map V.ref) (gs.map thG)
  | [], [], _ => .nil
  | [], _ :: _, x => by have := x.1; simp at this
  | _ :: _, [], x => by have := x.1; simp at this
  | p :: ps, g :: gs, x => .cons (.tup (x.2 0 p g rfl rfl) (.cons (.int _) (.cons (.int _) (.cons (.int _) .nil)))) (rep_gs ps gs x.tail)
theorem NetAt.rep {H : Hp} {a g o : Addr} {n : Net} {ps : List Addr} (N : NetAt H a n g o ps) : Rep H (.ref a) (thNet n) :=
  .tup N.top (.cons (.int _) (.cons (.tup N.gt (rep_gs _ _ N.gs)) (.cons (.tup N.ot (rep_ns _)) .nil)))
theorem isB_n {k : Nat} {b : Int} (h : (k : Int) < b) : Th.isB b (thN k) = true := by
  show (decide ((0 : Int) ≤ (k : Int)) && decide ((k : Int) < b)) = true
  rw [decide_eq_true (by omega), decide_eq_true h]
  rfl
theorem gates_ok : ∀ (gs : List (Nat × Nat × Nat)) (w : Nat), (∀ (i : Nat) (g : Nat × Nat × Nat), gs[i]? = some g → gateOk w i g) → gatesFrom (w : Int) (gs.map thG) = true
  | [], _, _ => rfl
  | g :: r, w, h => by
    show ((thG g).gate (w : Int) && gatesFrom ((w : Int) + 1) (r.map thG)) = true
    obtain ⟨h1, h2, h3⟩ := h 0 g rfl
    have e : (thG g).gate (w : Int) = true := by
      show (Th.isB 16 (thN g.1) && Th.isB (w : Int) (thN g.2.1) && Th.isB (w : Int) (thN g.2.2)) = true
      rw [isB_n (by omega), isB_n (by omega), isB_n (by omega)]
      rfl
    rw [e, Bool.true_and, show ((w : Int) + 1) = ((w + 1 : Nat) : Int) by omega]
    refine gates_ok r (w + 1) fun i g' e => ?_
    obtain ⟨g1, g2, g3⟩ := h (i + 1) g' e
    exact ⟨g1, by omega, by omega⟩
theorem Net.Ok.net {n : Net} (ok : n.Ok) : (thNet n).net = true := by
  show ((thN n.many).many && (Th.tup (n.gates.map thG)).gates (n.many : Int) && (Th.tup (n.outs.map thN)).outs ((n.many : Int) + (((n.gates.map thG).length : Nat) : Int))) = true
  have m1 := ok.m1
  have m8 := ok.m8
  have e1 : (thN n.many).many = true := by
    show (decide ((1 : Int) ≤ (n.many : Int)) && decide ((n.many : Int) ≤ 8)) = true
    rw [decide_eq_true (by omega), decide_eq_true (by omega)]
    rfl
  have e2 : (Th.tup (n.gates.map thG)).gates (n.many : Int) = true := by
    show (decide ((n.gates.map thG).length ≤ 16) && gatesFrom (n.many : Int) (n.gates.map thG)) = true
    rw [gates_ok n.gates n.many ok.gs, decide_eq_true (by rw [List.length_map]; exact ok.g16)]
    rfl
  have e3 : (Th.tup (n.outs.map thN)).outs ((n.many : Int) + (((n.gates.map thG).length : Nat) : Int)) = true := by
    show (decide (1 ≤ (n.outs.map thN).length) && decide ((n.outs.map thN).length ≤ 8) && (n.outs.map thN).all (Th.isB ((n.many : Int) + (((n.gates.map thG).length : Nat) : Int)))) = true
    rw [List.length_map, List.length_map, decide_eq_true ok.o1, decide_eq_true ok.o8, Bool.true_and, Bool.true_and, List.all_eq_true]
    intro x hx
    obtain ⟨o, ho, rfl⟩ := List.mem_map.mp hx
    have := ok.os o ho
    exact isB_n (by omega)
  rw [e1, e2, e3]
  rfl
theorem all_pl {α : Type} {n d : Nat} {f : α → Th} {xs : List α} (h : ∀ x ∈ xs, Th.pl n d (f x) = true) : (xs.map f).all (Th.pl n d) = true := by
  rw [List.all_eq_true]
  intro x hx
  obtain ⟨y, hy, rfl⟩ := List.mem_map.mp hx
  exact h y hy
theorem Net.Ok.pl {n : Net} (ok : n.Ok) : Th.pl 16 4 (thNet n) = true := by
  have e1 : Th.pl 16 3 (.tup (n.gates.map thG)) = true := by
    show (decide ((n.gates.map thG).length ≤ 16) && (n.gates.map thG).all (Th.pl 16 2)) = true
    rw [decide_eq_true (by rw [List.length_map]; exact ok.g16), all_pl fun _ _ => rfl]
    rfl
  have e2 : Th.pl 16 3 (.tup (n.outs.map thN)) = true := by
    show (decide ((n.outs.map thN).length ≤ 16) && (n.outs.map thN).all (Th.pl 16 2)) = true
    rw [decide_eq_true (by rw [List.length_map]; have := ok.o8; omega), all_pl fun _ _ => rfl]
    rfl
  show (decide (3 ≤ 16) && (true && (Th.pl 16 3 (.tup (n.gates.map thG)) && (Th.pl 16 3 (.tup (n.outs.map thN)) && true)))) = true
  rw [e1, e2]
  rfl
end GX
set_option Elab.async false
set_option linter.all false
set_option maxRecDepth 100000
set_option maxHeartbeats 4000000
/-! The worth of a wire where some wires are held. -/
namespace GX
open PySem PySem.Spec PyProof.Rows L2
def gw (k a b : Nat) : Nat := k / 2 ^ (a + 2 * b) % 2
theorem gw_lt (k a b : Nat) : gw k a b < 2 := Nat.mod_lt _ (by decide)
/-- where a wire stands -/
def ixOf (x : Nat) : List Nat → Nat
  | [] => 0
  | y :: r => if y = x then 0 else ixOf x r + 1
theorem ixOf_get {ws : List Nat} (nd : ws.Nodup) : ∀ {j : Nat}, j < ws.length → ixOf (ws.getD j 0) ws = j := by
  induction ws with
  | nil => intro j h; exact absurd h (Nat.not_lt_zero _)
  | cons y r ih =>
    intro j h
    obtain ⟨n1, n2⟩ := List.nodup_cons.mp nd
    cases j with
    | zero =>
      show (if y = y then 0 else _) = 0
      rw [if_pos rfl]
    | succ j =>
      have hj : j < r.length := Nat.lt_of_succ_lt_succ h
      show (if y = r.getD j 0 then 0 else ixOf (r.getD j 0) r + 1) = j + 1
      rw [if_neg (fun e => n1 (by rw [e]; exact getD_mem hj)), ih n2 hj]
theorem ixOf_lt {ws : List Nat} {x : Nat} (h : x ∈ ws) : ixOf x ws < ws.length ∧ ws.getD (ixOf x ws) 0 = x := by
  induction ws with
  | nil => cases h
  | cons y r ih =>
    unfold ixOf
    by_cases e : y = x
    · rw [if_pos e]
      exact ⟨Nat.succ_pos _, e⟩
    · rw [if_neg e]
      rcases List.mem_cons.mp h with h | h
      · exact absurd h.symm e
      · obtain ⟨h1, h2⟩ := ih h
        exact ⟨Nat.succ_lt_succ h1, h2⟩
def bitIn (ws : List Nat) (r x : Nat) : Nat := r / 2 ^ ixOf x ws % 2
/-- what a wire has, by those ahead -/
def valOf (n : Net) (ws : List Nat) (r : Nat) (acc : List Nat) (x : Nat) : Nat :=
  if x ∈ ws then bitIn ws r x else if x < n.many then 0 else match n.gates[x - n.many]? with
    | some k => gw k.1 (acc.getD k.2.1 0) (acc.getD k.2.2 0)
    | none => 0
def evl (n : Net) (ws : List Nat) (r : Nat) : Nat → List Nat
  | 0 => []
  | m + 1 => evl n ws r m ++ [valOf n ws r (evl n ws r m) m]
theorem evl_len (n : Net) (ws : List Nat) (r : Nat) : ∀ m, (evl n ws r m).length = m
  | 0 => rfl
  | m + 1 => by
    show (evl n ws r m ++ [_]).length = m + 1
    rw [List.length_append, evl_len n ws r m]
    rfl
def ev (n : Net) (ws : List Nat) (r x : Nat) : Nat := valOf n ws r (evl n ws r x) x
theorem evl_at (n : Net) (ws : List Nat) (r : Nat) : ∀ m x, x < m → (evl n ws r m).getD x 0 = ev n ws r x
  | 0, x, h => absurd h (Nat.not_lt_zero _)
  | m + 1, x, h => by
    have hl := evl_len n ws r m
    show (evl n ws r m ++ [_]).getD x 0 = _
    by_cases e : x = m
    · subst e
      have := getLastN (xs := evl n ws r x) (x := valOf n ws r (evl n ws r x) x)
      rw [hl] at this
      exact this
    · rw [getSnoc (by omega)]
      exact evl_at n ws r m x (by omega)
theorem ev_in {n : Net} {ws : List Nat} {r x : Nat} (h : x ∈ ws) : ev n ws r x = bitIn ws r x := by
  unfold ev valOf
  rw [if_pos h]
theorem ev_gate {n : Net} (ok : n.Ok) {ws : List Nat} {r x : Nat} {k : Nat × Nat × Nat} (h : x ∉ ws) (hm : n.many ≤ x) (hk : n.gates[x - n.many]? = some k) : ev n ws r x = gw k.1 (ev n ws r k.2.1) (ev n ws r k.2.2) := by
  have h1 := place_lt ok hm hk (.inl rfl)
  have h2 := place_lt ok hm hk (.inr rfl)
  conv => lhs; unfold ev valOf
  rw [if_neg h, if_neg (by omega), hk]
  show gw k.1 ((evl n ws r x).getD k.2.1 0) ((evl n ws r x).getD k.2.2 0) = _
  rw [evl_at n ws r x _ h1, evl_at n ws r x _ h2]
theorem ev_lt {n : Net} (ws : List Nat) (r x : Nat) : ev n ws r x < 2 := by
  unfold ev valOf
  by_cases h : x ∈ ws
  · rw [if_pos h]
    exact Nat.mod_lt _ (by decide)
  · rw [if_neg h]
    by_cases h2 : x < n.many
    · rw [if_pos h2]
      decide
    · rw [if_neg h2]
      cases n.gates[x - n.many]? with
      | none => exact Nat.two_pos
      | some k => exact gw_lt _ _ _
/-- what can be told from the held ones -/
inductive Det (n : Net) (ws : List Nat) : Nat → Prop
  | held {x : Nat} : x ∈ ws → Det n ws x
  | gate {x : Nat} {k : Nat × Nat × Nat} : n.many ≤ x → n.gates[x - n.many]? = some k → Det n ws k.2.1 → Det n ws k.2.2 → Det n ws x
theorem det_of {n : Net} (ok : n.Ok) {ws : List Nat} {w : Nat} (hw : w < n.many + n.gates.length) (sep : Sep n w ws) : ∀ b y, y ≤ b → Rc n ws w n.many y → Det n ws y
  | b, y, hb, r => by
    have hm := sep y r
    have hy := r.le ok
    obtain ⟨k, hk⟩ : ∃ k, n.gates[y - n.many]? = some k := ⟨_, List.getElem?_eq_getElem (by omega)⟩
    have pl : ∀ p, (p = k.2.1 ∨ p = k.2.2) → Det n ws p := fun p hp => by
      by_cases e : p ∈ ws
      · exact .held e
      · have lt := place_lt ok hm hk hp
        cases b with
        | zero => omega
        | succ b => exact det_of ok hw sep b p (by omega) (.step r hm hm hk hp e)
    exact .gate hm hk (pl _ (.inl rfl)) (pl _ (.inr rfl))
termination_by b => b
theorem det_top {n : Net} (ok : n.Ok) {ws : List Nat} {w : Nat} (hw : w < n.many + n.gates.length) (sep : Sep n w ws) : Det n ws w := by
  by_cases e : w ∈ ws
  · exact .held e
  · exact det_of ok hw sep w w (Nat.le_refl _) (.here e)
/-- wider: a gate goes, its places come -/
theorem sep_wide {n : Net} {w h : Nat} {st st' : List Nat} {k : Nat × Nat × Nat} (sep : Sep n w st) (hm : n.many ≤ h) (hk : n.gates[h - n.many]? = some k) (keep : ∀ z ∈ st, z ≠ h → z ∈ st') (pl : ∀ z, (z = k.2.1 ∨ z = k.2.2) → z ∈ st') : Sep n w st' := by
  by_cases e : w ∈ st
  · by_cases e2 : w = h
    · subst e2
      exact sep_first hm hk pl
    · have hin := keep w e e2
      intro y r
      exfalso
      induction r with
      | here z => exact z hin
      | step _ _ _ _ _ _ ih => exact ih
  · exact sep_step sep e hm hk keep pl
/-- a content -/
def contOf (n : Net) (ws : List Nat) (w : Nat) : List Nat := (List.range (2 ^ ws.length)).map fun r => ev n ws r w
end GX
set_option Elab.async false
set_option linter.all false
set_option maxRecDepth 100000
set_option maxHeartbeats 4000000
/-! Contents with a place more, or one less. -/
namespace GX
open PySem PySem.Spec PyProof.Rows L2
def del (p n : Nat) : Nat := n / (2 * 2 ^ p) * 2 ^ p + n % 2 ^ p
def ins (p r : Nat) : Nat := r / 2 ^ p * (2 * 2 ^ p) + r % 2 ^ p
theorem two_pow (p : Nat) : 2 * 2 ^ p = 2 ^ (p + 1) := by rw [Nat.pow_succ, Nat.mul_comm]
theorem del_bit (p n j : Nat) : (del p n).testBit j = if j < p then n.testBit j else n.testBit (j + 1) := by
  unfold del
  rw [Nat.mul_comm _ (2 ^ p), Nat.testBit_two_pow_mul_add _ (Nat.mod_lt _ (Nat.pow_pos (by decide)))]
  by_cases h : j < p
  · rw [if_pos h, if_pos h, Nat.testBit_mod_two_pow, decide_eq_true h, Bool.true_and]
  · rw [if_neg h, if_neg h, two_pow, Nat.testBit_div_two_pow]
    congr 1
    omega
theorem ins_bit (p r j : Nat) : (ins p r).testBit j = if j < p then r.testBit j else if j = p then false else r.testBit (j - 1) := by
  unfold ins
  have hp : 0 < 2 ^ p := Nat.pow_pos (by decide)
  rw [two_pow, Nat.mul_comm _ (2 ^ (p + 1)), Nat.testBit_two_pow_mul_add _ (Nat.lt_of_lt_of_le (Nat.mod_lt _ hp) (Nat.pow_le_pow_right (by decide) (by omega)))]
  by_cases h : j < p
  · rw [if_pos (by omega), if_pos h, Nat.testBit_mod_two_pow, decide_eq_true h, Bool.true_and]
  · rw [if_neg h]
    by_cases h2 : j = p
    · rw [if_pos h2, if_pos (by omega), Nat.testBit_mod_two_pow, decide_eq_false h, Bool.false_and]
    · rw [if_neg h2, if_neg (by omega), Nat.testBit_div_two_pow]
      congr 1
      omega
theorem del_ins (p r : Nat) : del p (ins p r) = r := by
  apply Nat.eq_of_testBit_eq
  intro j
  rw [del_bit]
  by_cases h : j < p
  · rw [if_pos h, ins_bit, if_pos h]
  · rw [if_neg h, ins_bit, if_neg (by omega), if_neg (by omega), Nat.add_sub_cancel]
theorem ins_del {p n : Nat} (h0 : n / 2 ^ p % 2 = 0) : ins p (del p n) = n := by
  apply Nat.eq_of_testBit_eq
  intro j
  rw [ins_bit]
  by_cases h : j < p
  · rw [if_pos h, del_bit, if_pos h]
  · rw [if_neg h]
    by_cases h2 : j = p
    · rw [if_pos h2, h2, Nat.testBit_eq_decide_div_mod_eq, decide_eq_false (by omega)]
    · rw [if_neg h2, del_bit, if_neg (by omega)]
      congr 1
      omega
theorem del_xor (p n : Nat) : del p (n ^^^ 2 ^ p) = del p n := by
  apply Nat.eq_of_testBit_eq
  intro j
  rw [del_bit, del_bit]
  by_cases h : j < p
  · rw [if_pos h, if_pos h, Nat.testBit_xor, Nat.testBit_two_pow, decide_eq_false (by omega), Bool.xor_false]
  · rw [if_neg h, if_neg h, Nat.testBit_xor, Nat.testBit_two_pow, decide_eq_false (by omega), Bool.xor_false]
/-- a place behind p moves up by one -/
def mov (p q : Nat) : Nat := if q > p then q - 1 else q
theorem ins_xor {p q r : Nat} (h : q ≠ p) : ins p (r ^^^ 2 ^ mov p q) = ins p r ^^^ 2 ^ q := by
  apply Nat.eq_of_testBit_eq
  intro j
  unfold mov
  rw [Nat.testBit_xor, ins_bit, ins_bit, Nat.testBit_two_pow, Nat.testBit_xor, Nat.testBit_xor, Nat.testBit_two_pow, Nat.testBit_two_pow]
  by_cases hj : j < p
  · rw [if_pos hj, if_pos hj]
    congr 1
    by_cases hq : q > p
    · rw [if_pos hq, decide_eq_false (by omega), decide_eq_false (by omega)]
    · rw [if_neg hq]
  · rw [if_neg hj, if_neg hj]
    by_cases hj2 : j = p
    · rw [if_pos hj2, if_pos hj2, decide_eq_false (by omega)]
      rfl
    · rw [if_neg hj2, if_neg hj2]
      congr 1
      by_cases hq : q > p
      · rw [if_pos hq]
        by_cases e : q = j
        · rw [decide_eq_true (by omega), decide_eq_true e]
        · rw [decide_eq_false (by omega), decide_eq_false e]
      · rw [if_neg hq, decide_eq_false (by omega), decide_eq_false (by omega)]
theorem del_lt {p n m : Nat} (hn : n < 2 ^ (m + 1)) (hp : p ≤ m) : del p n < 2 ^ m := by
  apply Nat.lt_pow_two_of_testBit
  intro j hj
  rw [del_bit, if_neg (by omega)]
  exact Nat.testBit_lt_two_pow (Nat.lt_of_lt_of_le hn (Nat.pow_le_pow_right (by decide) (by omega)))
theorem ins_lt {p r m : Nat} (hr : r < 2 ^ m) (hp : p ≤ m) : ins p r < 2 ^ (m + 1) := by
  apply Nat.lt_pow_two_of_testBit
  intro j hj
  rw [ins_bit, if_neg (by omega), if_neg (by omega)]
  exact Nat.testBit_lt_two_pow (Nat.lt_of_lt_of_le hr (Nat.pow_le_pow_right (by decide) (by omega)))
theorem ins_mono {p r s : Nat} (h : r < s) : ins p r < ins p s := by
  unfold ins
  have hp : 0 < 2 ^ p := Nat.pow_pos (by decide)
  have e1 := Nat.div_add_mod r (2 ^ p)
  have e2 := Nat.div_add_mod s (2 ^ p)
  have b1 := Nat.mod_lt r hp
  have b2 := Nat.mod_lt s hp
  generalize r / 2 ^ p = a at e1 ⊢
  generalize s / 2 ^ p = c at e2 ⊢
  generalize r % 2 ^ p = b at e1 b1 ⊢
  generalize s % 2 ^ p = d at e2 b2 ⊢
  generalize 2 ^ p = X at *
  by_cases hac : a < c
  · have : a * (2 * X) + 2 * X ≤ c * (2 * X) := by
      rw [← Nat.succ_mul]
      exact Nat.mul_le_mul_right _ hac
    omega
  · by_cases hac2 : a = c
    · subst hac2
      omega
    · have : X * c + X ≤ X * a := by
        rw [← Nat.mul_succ]
        exact Nat.mul_le_mul_left _ (by omega)
      omega
theorem ins_low (p r : Nat) : ins p r / 2 ^ p % 2 = 0 := by
  have t : (ins p r).testBit p = false := by rw [ins_bit, if_neg (Nat.lt_irrefl _), if_pos rfl]
  rw [Nat.testBit_eq_decide_div_mod_eq] at t
  have := of_decide_eq_false t
  omega
theorem low_range {p m : Nat} (hp : p ≤ m) : ((List.range (2 ^ (m + 1))).filter fun n => decide (n / 2 ^ p % 2 = 0)) = (List.range (2 ^ m)).map (ins p) := by
  refine rise_eq (List.Pairwise.filter _ List.pairwise_lt_range) ?_ fun z => ?_
  · rw [List.pairwise_map]
    exact List.pairwise_lt_range.imp fun h => ins_mono h
  · rw [List.mem_filter, List.mem_range, List.mem_map]
    refine ⟨fun ⟨h1, h2⟩ => ⟨del p z, List.mem_range.mpr (del_lt h1 hp), ins_del (of_decide_eq_true h2)⟩, ?_⟩
    rintro ⟨r, hr, rfl⟩
    exact ⟨ins_lt (List.mem_range.mp hr) hp, decide_eq_true (ins_low p r)⟩
/-- with a place more -/
def wd (xs : List Nat) (p : Nat) : List Nat := (List.range (2 * xs.length)).map fun n => xs.getD (del p n) 0
/-- without a place -/
def wo (xs : List Nat) (p : Nat) : List Nat := ((List.range xs.length).filter fun n => decide (n / 2 ^ p % 2 = 0)).map fun n => xs.getD n 0
theorem wd_len (xs : List Nat) (p : Nat) : (wd xs p).length = 2 * xs.length := by unfold wd; rw [List.length_map, List.length_range]
theorem getD_map {f : Nat → Nat} {n i : Nat} (h : i < n) : ((List.range n).map f).getD i 0 = f i := by
  rw [List.getD_eq_getElem?_getD, List.getElem?_map, List.getElem?_range h]
  rfl
theorem wd_at {xs : List Nat} {p n : Nat} (h : n < 2 * xs.length) : (wd xs p).getD n 0 = xs.getD (del p n) 0 := getD_map h
theorem wo_eq {xs : List Nat} {p m : Nat} (hl : xs.length = 2 ^ (m + 1)) (hp : p ≤ m) : wo xs p = (List.range (2 ^ m)).map fun r => xs.getD (ins p r) 0 := by
  unfold wo
  rw [hl, low_range hp, List.map_map]
  rfl
theorem wo_len {xs : List Nat} {p m : Nat} (hl : xs.length = 2 ^ (m + 1)) (hp : p ≤ m) : (wo xs p).length = 2 ^ m := by rw [wo_eq hl hp, List.length_map, List.length_range]
theorem wo_at {xs : List Nat} {p m r : Nat} (hl : xs.length = 2 ^ (m + 1)) (hp : p ≤ m) (hr : r < 2 ^ m) : (wo xs p).getD r 0 = xs.getD (ins p r) 0 := by rw [wo_eq hl hp, getD_map hr]
theorem wd_idle {xs : List Nat} {p m : Nat} (hl : xs.length = 2 ^ m) (hp : p ≤ m) : idleAt (wd xs p) p = true := by
  rw [idleAt_iff]
  intro r hr
  rw [wd_len, hl, two_pow] at hr
  have lt : r ^^^ 2 ^ p < 2 ^ (m + 1) := Nat.xor_lt_two_pow hr (Nat.pow_lt_pow_right (by decide) (by omega))
  rw [wd_at (by rw [hl, two_pow]; exact hr), wd_at (by rw [hl, two_pow]; exact lt), del_xor]
theorem wo_wd {xs : List Nat} {p m : Nat} (hl : xs.length = 2 ^ m) (hp : p ≤ m) : wo (wd xs p) p = xs := by
  have h2 : (wd xs p).length = 2 ^ (m + 1) := by rw [wd_len, hl, two_pow]
  refine eqNats (by rw [wo_len h2 hp, hl]) fun r hr => ?_
  rw [wo_len h2 hp] at hr
  rw [wo_at h2 hp hr, wd_at (by rw [hl, two_pow]; exact ins_lt hr hp), del_ins]
theorem wo_idle {xs : List Nat} {p q m : Nat} (hl : xs.length = 2 ^ (m + 1)) (hp : p ≤ m) (hq : q ≤ m) (ne : q ≠ p) (h : idleAt xs q = true) : idleAt (wo xs p) (mov p q) = true := by
  rw [idleAt_iff] at h ⊢
  intro r hr
  rw [wo_len hl hp] at hr
  have hmq : mov p q < m := by
    unfold mov
    split <;> omega
  have lt : r ^^^ 2 ^ mov p q < 2 ^ m := Nat.xor_lt_two_pow hr (Nat.pow_lt_pow_right (by decide) hmq)
  rw [wo_at hl hp hr, wo_at hl hp lt, ins_xor ne]
  exact h _ (by rw [hl]; exact ins_lt hr hp)
theorem mov_lt {p q m : Nat} (hp : p ≤ m) (hq : q ≤ m) (ne : q ≠ p) : mov p q < m := by
  unfold mov
  split <;> omega
theorem mov_inj {p q r : Nat} (h1 : q ≠ p) (h2 : r ≠ p) (h : mov p q = mov p r) : q = r := by
  unfold mov at h
  split at h <;> split at h <;> omega
end GX
set_option Elab.async false
set_option linter.all false
set_option maxRecDepth 100000
set_option maxHeartbeats 4000000
/-! Lists of tuples of whole numbers, sorted. -/
namespace GX
open PySem PySem.Spec PyProof.Rows L2
def natV : V → Nat
  | .int i => i.toNat
  | _ => 0
/-- the whole numbers of a tuple -/
def tupN (H : Hp) : V → List Nat
  | .ref t => match H t with
    | some (.tup xs) => xs.map natV
    | _ => []
  | _ => []
theorem tupN_at {H : Hp} {t : Addr} {c : List Nat} (h : H t = some (.tup (c.map nV))) : tupN H (.ref t) = c := by
  show (match H t with | some (HO.tup xs) => xs.map natV | _ => []) = c
  rw [h]
  show (c.map nV).map natV = c
  rw [List.map_map]
  conv => rhs; rw [← List.map_id c]
  refine List.map_congr_left fun x _ => ?_
  show ((x : Nat) : Int).toNat = x
  exact Int.toNat_natCast x
abbrev TupsAt (H : Hp) (qs : List Addr) (cs : List (List Nat)) : Prop := RefsAt (fun c : List Nat => c.map nV) H qs cs
theorem TupsAt.map {H : Hp} : ∀ {qs : List Addr} {cs : List (List Nat)}, TupsAt H qs cs → (qs.map V.ref).map (tupN H) = cs
  | [], cs, h => (List.length_eq_zero_iff.mp h.1.symm).symm
  | q :: qs, [], h => by cases h.1
  | q :: qs, c :: cs, h => by
    have h1 := h.2 0 q c rfl rfl
    have h2 : TupsAt H qs cs := ⟨Nat.succ.inj h.1, fun i p x e1 e2 => h.2 (i + 1) p x e1 e2⟩
    show tupN H (.ref q) :: _ = _
    rw [tupN_at h1, TupsAt.map h2]
theorem TupsAt.all {H : Hp} {qs : List Addr} {cs : List (List Nat)} (h : TupsAt H qs cs) {x : V} (hx : x ∈ qs.map V.ref) : ∃ t c, x = .ref t ∧ c ∈ cs ∧ H t = some (.tup (c.map nV)) := by
  obtain ⟨i, hi, e⟩ := List.mem_iff_getElem.mp hx
  obtain ⟨t, c, e1, e2, e3⟩ := h.at_ (i := i) (v := x) (by rw [List.getElem?_eq_getElem hi, e])
  exact ⟨t, c, e1, List.mem_of_getElem? e2, e3⟩
/-- sorted: the tuples again -/
theorem tups_sorted {H : Hp} {qs : List Addr} {cs : List (List Nat)} (h : TupsAt H qs cs) {ys : List V} (srt : SrtO.Srtd (fun x y => HT.lexLt ((tupN H x).map fun n : Nat => (n : Int)) ((tupN H y).map fun n : Nat => (n : Int))) ys) (pm : ys.Perm (qs.map V.ref)) :
    ∃ (rs : List Addr) (ds : List (List Nat)), ys = rs.map V.ref ∧ TupsAt H rs ds ∧ ds.Perm cs ∧ ds.Pairwise fun a b => lexN b a = false := by
  have hall : ∀ y ∈ ys, ∃ t c, y = .ref t ∧ c ∈ cs ∧ H t = some (.tup (c.map nV)) := fun y hy => h.all (pm.mem_iff.mp hy)
  have mk : ∀ zs : List V, (∀ y ∈ zs, ∃ t c, y = .ref t ∧ c ∈ cs ∧ H t = some (.tup (c.map nV))) → ∃ rs : List Addr, zs = rs.map V.ref ∧ TupsAt H rs (zs.map (tupN H)) := by
    intro zs
    induction zs with
    | nil => exact fun _ => ⟨[], rfl, RefsAt.nil _ _⟩
    | cons y zs ih =>
      intro hz
      obtain ⟨t, c, rfl, _, ht⟩ := hz y List.mem_cons_self
      obtain ⟨rs, e, hr⟩ := ih fun y hy => hz y (List.mem_cons_of_mem _ hy)
      refine ⟨t :: rs, by rw [e]; rfl, ⟨congrArg Nat.succ hr.1, fun i p x e1 e2 => ?_⟩⟩
      cases i with
      | zero =>
        cases e1
        have e2' : some (tupN H (.ref t)) = some x := e2
        rw [tupN_at ht] at e2'
        cases e2'
        exact ht
      | succ i => exact hr.2 i p x e1 e2
  obtain ⟨rs, e, hr⟩ := mk ys hall
  refine ⟨rs, ys.map (tupN H), e, hr, ?_, ?_⟩
  · have := pm.map (tupN H)
    rw [TupsAt.map h] at this
    exact this
  · exact List.pairwise_map.mpr srt
end GX
set_option Elab.async false
set_option linter.all false
set_option maxRecDepth 100000
set_option maxHeartbeats 4000000
/-! All sets of some wires; the least that tell among them. -/
namespace GX
open PySem PySem.Spec PyProof.Rows L2
def setStep (m : Nat) (acc : List (List Nat)) (x : Nat) : List (List Nat) := acc ++ (acc.filter fun c => decide (c.length < m)).map fun c => c ++ [x]
def setsOf (m : Nat) (xs : List Nat) : List (List Nat) := xs.foldl (setStep m) [[]]
theorem sets_snoc (m : Nat) (xs : List Nat) (x : Nat) : setsOf m (xs ++ [x]) = setStep m (setsOf m xs) x := by
  unfold setsOf
  rw [List.foldl_append]
  rfl
theorem sets_take {m : Nat} {xs : List Nat} {i : Nat} (h : i < xs.length) : setsOf m (xs.take (i + 1)) = setStep m (setsOf m (xs.take i)) (xs.getD i 0) := by
  rw [List.take_add_one, List.getElem?_eq_getElem h, Option.toList_some, sets_snoc, List.getD_eq_getElem?_getD, List.getElem?_eq_getElem h]
  rfl
theorem rev_indN {P : List Nat → Prop} (h0 : P []) (h1 : ∀ xs x, P xs → P (xs ++ [x])) : ∀ xs, P xs := fun xs => by
  have : ∀ ys : List Nat, P ys.reverse := fun ys => by
    induction ys with
    | nil => exact h0
    | cons y ys ih => rw [List.reverse_cons]; exact h1 _ _ ih
  have h := this xs.reverse
  rwa [List.reverse_reverse] at h
theorem sets_len (m : Nat) : ∀ xs, (setsOf m xs).length ≤ 2 ^ xs.length := by
  refine rev_indN (by exact Nat.le_refl _) fun xs x ih => ?_
  rw [sets_snoc, List.length_append]
  unfold setStep
  rw [List.length_append, List.length_map]
  have := List.length_filter_le (fun c : List Nat => decide (c.length < m)) (setsOf m xs)
  rw [show [x].length = 1 from rfl, Nat.pow_succ]
  omega
theorem sets_mem {m : Nat} : ∀ (xs c : List Nat), c ∈ setsOf m xs ↔ (c.Sublist xs ∧ c.length ≤ m) := by
  refine rev_indN (fun c => ?_) fun xs x ih c => ?_
  · show c ∈ [[]] ↔ _
    rw [List.mem_singleton, List.sublist_nil]
    exact ⟨fun h => ⟨h, by rw [h]; exact Nat.zero_le _⟩, fun h => h.1⟩
  · rw [sets_snoc]
    unfold setStep
    rw [List.mem_append, ih, List.mem_map, List.sublist_append_iff]
    constructor
    · rintro (⟨h1, h2⟩ | ⟨b, hb, rfl⟩)
      · exact ⟨⟨c, [], (List.append_nil c).symm, h1, List.nil_sublist _⟩, h2⟩
      · obtain ⟨h1, h2⟩ := List.mem_filter.mp hb
        have h3 := of_decide_eq_true h2
        refine ⟨⟨b, [x], rfl, ((ih b).mp h1).1, List.Sublist.refl _⟩, ?_⟩
        rw [List.length_append]
        exact h3
    · rintro ⟨⟨l1, l2, rfl, h1, h2⟩, h3⟩
      have h2' : l2 = [] ∨ l2 = [x] := by
        cases h2 with
        | cons _ h => exact .inl (List.sublist_nil.mp h)
        | cons_cons _ h => exact .inr (by rw [List.sublist_nil.mp h])
      rcases h2' with rfl | rfl
      · rw [List.append_nil] at h3 ⊢
        exact .inl ⟨h1, h3⟩
      · rw [List.length_append] at h3
        have h3' : l1.length + 1 ≤ m := h3
        exact .inr ⟨l1, List.mem_filter.mpr ⟨(ih l1).mpr ⟨h1, by omega⟩, decide_eq_true (by omega)⟩, rfl⟩
theorem sets_nodup {m : Nat} : ∀ xs : List Nat, xs.Nodup → (setsOf m xs).Nodup := by
  refine rev_indN (fun _ => ?_) fun xs x ih nd => ?_
  · show [[]].Nodup
    exact List.nodup_cons.mpr ⟨fun z => (by cases z), List.nodup_nil⟩
  · have nd' : xs.Nodup ∧ x ∉ xs := by
      have := List.nodup_append.mp nd
      exact ⟨this.1, fun z => this.2.2 x z x List.mem_cons_self rfl⟩
    rw [sets_snoc]
    unfold setStep
    rw [List.nodup_append]
    refine ⟨ih nd'.1, ?_, fun a ha b hb e => ?_⟩
    · rw [List.nodup_iff_pairwise_ne, List.pairwise_map]
      have := ((ih nd'.1).filter fun c => decide (c.length < m))
      exact this.imp fun h e => h (List.append_cancel_right e)
    · obtain ⟨b', hb', rfl⟩ := List.mem_map.mp hb
      have := ((sets_mem xs a).mp ha).1.subset (a := x) (by rw [e]; exact List.mem_append.mpr (.inr List.mem_cons_self))
      exact nd'.2 this
/-- a rising list among a rising one -/
theorem rise_sub {c xs : List Nat} (hc : c.Pairwise (· < ·)) (hx : xs.Pairwise (· < ·)) (h : ∀ x ∈ c, x ∈ xs) : c.Sublist xs := by
  have e : c = xs.filter fun x => decide (x ∈ c) := rise_eq hc (hx.filter _) fun z => by
    rw [List.mem_filter, decide_eq_true_iff]
    exact ⟨fun hz => ⟨h z hz, hz⟩, fun hz => hz.2⟩
  rw [e]
  exact List.filter_sublist
theorem lc_cone {n : Net} {k g : Nat} {c : List Nat} (h : LC n k g c) : ∀ x ∈ c, Rc n [] g n.many x := fun x hx => Classical.not_not.mp fun z => by
  refine h.least x hx fun y r => h.sep y ?_
  have key : ∀ y, Rc n (c.filter fun y => decide (y ≠ x)) g n.many y → Rc n [] g n.many y ∧ Rc n c g n.many y := by
    intro y r
    have out : ∀ {y : Nat}, Rc n [] g n.many y → y ∉ (c.filter fun y => decide (y ≠ x)) → y ∉ c := fun {y} ry hn hc => by
      by_cases e : y = x
      · rw [e] at ry
        exact z ry
      · exact hn (List.mem_filter.mpr ⟨hc, decide_eq_true e⟩)
    induction r with
    | here hn =>
      have r0 : Rc n [] g n.many g := .here fun z => by cases z
      exact ⟨r0, .here (out r0 hn)⟩
    | step _ hm hj hk hp hn ih =>
      have r0 := Rc.step ih.1 hm hj hk hp (fun z => by cases z)
      exact ⟨r0, .step ih.2 hm hj hk hp (out r0 hn)⟩
  exact (key y r).2
/-- what is least: told, and not without any one -/
def Lst (n : Net) (g : Nat) (c : List Nat) : Prop := Sep n g c ∧ ∀ j, j < c.length → ¬ Sep n g (c.take j ++ c.drop (j + 1))
theorem drop_one {c : List Nat} (nd : c.Nodup) {j : Nat} (h : j < c.length) (y : Nat) : y ∈ c.take j ++ c.drop (j + 1) ↔ y ∈ c.filter fun y => decide (y ≠ c.getD j 0) := by
  have ew : c.getD j 0 = c[j] := by rw [List.getD_eq_getElem?_getD, List.getElem?_eq_getElem h]; rfl
  have e : c = c.take j ++ c[j] :: c.drop (j + 1) := by
    rw [List.getElem_cons_drop, List.take_append_drop]
  have pm : c.Perm (c[j] :: (c.take j ++ c.drop (j + 1))) := by
    conv => lhs; rw [e]
    exact List.perm_middle
  have nd2 := pm.nodup_iff.mp nd
  obtain ⟨n1, n2⟩ := List.nodup_cons.mp nd2
  rw [List.mem_filter, decide_eq_true_iff, ew, pm.mem_iff, List.mem_cons]
  constructor
  · exact fun h => ⟨.inr h, fun z => n1 (by rw [← z]; exact h)⟩
  · rintro ⟨h1 | h1, h2⟩
    · exact absurd h1 h2
    · exact h1
theorem lst_lc {n : Net} {k g : Nat} {some_ c : List Nat} (hs : some_.Pairwise (· < ·)) (hm : ∀ x, x ∈ some_ ↔ (Rc n [] g n.many x ∧ x < g)) : ((c.Sublist some_ ∧ c.length ≤ k) ∧ Lst n g c) ↔ LC n k g c := by
  constructor
  · rintro ⟨⟨h1, h2⟩, h3, h4⟩
    have ris := hs.sublist h1
    refine ⟨ris, fun x hx => ((hm x).mp (h1.subset hx)).2, h3, h2, fun x hx hsep => ?_⟩
    obtain ⟨j, hj, e⟩ := mem_getD hx
    refine h4 j hj ((sep_congr fun y => ?_).mp hsep)
    rw [drop_one (ris.imp fun h => Nat.ne_of_lt h) hj y, e]
  · intro h
    refine ⟨⟨rise_sub h.rise hs fun x hx => (hm x).mpr ⟨lc_cone h x hx, h.lt x hx⟩, h.len⟩, h.sep, fun j hj hsep => ?_⟩
    refine h.least _ (getD_mem hj) ((sep_congr fun y => ?_).mp hsep)
    exact drop_one (h.rise.imp fun h => Nat.ne_of_lt h) hj y
end GX
namespace GX
open PySem PySem.Spec PyProof.Rows L2
theorem cuts_filter {n : Net} {g : Nat} {some_ : List Nat} (hs : some_.Pairwise (· < ·)) (hm : ∀ x, x ∈ some_ ↔ (Rc n [] g n.many x ∧ x < g)) {ls : List (List Nat)} {B : List Nat → Bool} (hB : ∀ c, B c = true ↔ Lst n g c) (pm : ls.Perm ((setsOf 4 some_).filter B)) (srt : ls.Pairwise fun a b => lexN b a = false) {k : Nat} (hk : k ≤ 4) :
    CutsAre n k g (ls.filter fun c => decide (c.length ≤ k)) := by
  have nd : some_.Nodup := hs.imp fun h => Nat.ne_of_lt h
  have mem : ∀ c, c ∈ ls ↔ LC n 4 g c := fun c => by
    rw [pm.mem_iff, List.mem_filter, sets_mem, hB]
    exact lst_lc hs hm
  refine ⟨fun c => ?_, (pm.nodup_iff.mpr ((sets_nodup some_ nd).filter _)).filter _, srt.filter _⟩
  rw [List.mem_filter, mem, decide_eq_true_iff]
  exact ⟨fun h => ⟨h.1.rise, h.1.lt, h.1.sep, h.2, h.1.least⟩, fun h => ⟨⟨h.rise, h.lt, h.sep, Nat.le_trans h.len hk, h.least⟩, h.len⟩⟩
end GX
namespace GX
open PySem PySem.Spec PyProof.Rows L2
def tupsD (cs : List (List Nat)) : List PyData := cs.map fun c : List Nat => .tuple ((c.map fun n : Nat => (n : Int)).map PyData.int)
theorem tupsD_can : ∀ cs : List (List Nat), PyData.canLayAll0 (tupsD cs) = true ∧ PyData.depthAll (tupsD cs) ≤ 1
  | [] => ⟨rfl, Nat.zero_le _⟩
  | c :: r => by
    obtain ⟨h1, h2⟩ := tupsD_can r
    obtain ⟨g1, g2⟩ := canInts (c.map fun n : Nat => (n : Int))
    refine ⟨?_, ?_⟩
    · show (PyData.canLayAll0 ((c.map fun n : Nat => (n : Int)).map PyData.int) && PyData.canLayAll0 (tupsD r)) = true
      rw [g1, h1]
      rfl
    · show max (PyData.depthAll ((c.map fun n : Nat => (n : Int)).map PyData.int) + 1) (PyData.depthAll (tupsD r)) ≤ 1
      rw [g2]
      omega
theorem tupsD_shaped (cs : List (List Nat)) : SeqAt.shaped (.tuple (tupsD cs)) = true := shaped_tup (tupsD_can cs).1 (tupsD_can cs).2 (by decide)
theorem tupsD_eq (cs : List (List Nat)) : PyData.eqv (.tuple (tupsD cs)) (.tuple (tupsD cs)) = true := SeqAt.eqv_refl _ (SeqAt.canLay_of_shaped (tupsD_shaped cs))
theorem dpTups {K : PySem.W.Frag} {H : Hp} : ∀ {qs : List Addr} {cs : List (List Nat)}, TupsAt H qs cs → DpAll K H (qs.map V.ref) (tupsD cs)
  | [], cs, x => by
    have : cs = [] := List.length_eq_zero_iff.mp x.1.symm
    subst this
    exact .nil
  | p :: r, [], x => by cases x.1
  | p :: r, c :: cs, x => by
    have h1 := x.2 0 p c rfl rfl
    exact .cons (.tup (SqT.of h1) (dpNat K _ _)) (dpTups (K := K) (H := H) (qs := r) (cs := cs) ⟨by simpa using x.1, fun i p' t' e1 e2 => x.2 (i + 1) p' t' (by simpa using e1) (by simpa using e2)⟩)
end GX
namespace GX
open PySem PySem.Spec PyProof.Rows L2
/-- among all the wires below -/
theorem lst_lc2 {n : Net} {k g : Nat} {c : List Nat} : ((c.Sublist (List.range g) ∧ c.length ≤ k) ∧ Lst n g c) ↔ LC n k g c := by
  constructor
  · rintro ⟨⟨h1, h2⟩, h3, h4⟩
    have ris := List.pairwise_lt_range.sublist h1
    refine ⟨ris, fun x hx => List.mem_range.mp (h1.subset hx), h3, h2, fun x hx hsep => ?_⟩
    obtain ⟨j, hj, e⟩ := mem_getD hx
    refine h4 j hj ((sep_congr fun y => ?_).mp hsep)
    rw [drop_one (ris.imp fun h => Nat.ne_of_lt h) hj y, e]
  · intro h
    refine ⟨⟨rise_sub h.rise List.pairwise_lt_range fun x hx => List.mem_range.mpr (h.lt x hx), h.len⟩, h.sep, fun j hj hsep => ?_⟩
    refine h.least _ (getD_mem hj) ((sep_congr fun y => ?_).mp hsep)
    exact drop_one (h.rise.imp fun h => Nat.ne_of_lt h) hj y
theorem cuts_filter2 {n : Net} {g m : Nat} {ls : List (List Nat)} {B : List Nat → Bool} (hB : ∀ c, B c = true ↔ Lst n g c) (pm : ls.Perm ((setsOf m (List.range g)).filter B)) (srt : ls.Pairwise fun a b => lexN b a = false) {k : Nat} (hk : k ≤ m) :
    CutsAre n k g (ls.filter fun c => decide (c.length ≤ k)) := by
  have mem : ∀ c, c ∈ ls ↔ LC n m g c := fun c => by
    rw [pm.mem_iff, List.mem_filter, sets_mem, hB]
    exact lst_lc2
  refine ⟨fun c => ?_, (pm.nodup_iff.mpr ((sets_nodup _ List.nodup_range).filter _)).filter _, srt.filter _⟩
  rw [List.mem_filter, mem, decide_eq_true_iff]
  exact ⟨fun h => ⟨h.1.rise, h.1.lt, h.1.sep, h.2, h.1.least⟩, fun h => ⟨⟨h.rise, h.lt, h.sep, Nat.le_trans h.len hk, h.least⟩, h.len⟩⟩
/-- a least cut lies within each that tells -/
theorem lc_within {n : Net} (ok : n.Ok) {k g : Nat} {xs : List Nat} (ris : xs.Pairwise (· < ·)) (lt : ∀ x ∈ xs, x < g) (sep : Sep n g xs) (hl : xs.length ≤ k) : ∃ c, LC n k g c ∧ ∀ x ∈ c, x ∈ xs := by
  have hb := bits_mask ris
  have ht : Tm n g (maskOf xs) := by
    unfold Tm
    rw [hb]
    exact sep
  obtain ⟨f, f1, f2⟩ := min_ex (maskOf xs) (maskOf xs) (Nat.le_refl _) ht
  have hp : pop f ≤ k := Nat.le_trans (pop_sub f1) (by unfold pop; rw [hb]; exact hl)
  have fg : f.testBit g = false := by
    cases e : f.testBit g with
    | false => rfl
    | true =>
      have h1 := f1 g e
      rw [mask_bit, decide_eq_true_iff] at h1
      exact absurd (lt g h1) (Nat.lt_irrefl _)
  refine ⟨bitsOf f, lc_bits ok ⟨f2, hp, fg⟩, fun x hx => ?_⟩
  have h1 := f1 x (mem_bits.mp hx)
  rwa [mask_bit, decide_eq_true_iff] at h1
end GX
namespace GX
open PySem PySem.Spec PyProof.Rows L2
theorem tupsD_shapedL (cs : List (List Nat)) : SeqAt.shaped (.list (tupsD cs)) = true := shaped_tup (tupsD_can cs).1 (tupsD_can cs).2 (by decide)
end GX
set_option Elab.async false
set_option linter.all false
/-! Comprehensions within comprehensions. -/
namespace GX
open PySem PySem.Spec PyProof.Rows L2
theorem pi_tupK {X : Cx} {tg l : Expr} {tl : TE} {K : PySem.W.Frag} (hl : PE X l tl) (h : X.K = K := by rfl) : PI X tg l (iTup K tl) := by subst h; exact pi_tup hl
theorem pi_listK {X : Cx} {tg l : Expr} {tl : TE} {K : PySem.W.Frag} (hl : PE X l tl) (h : X.K = K := by rfl) : PI X tg l (iList K tl) := by subst h; exact pi_list hl
theorem op_eqDK {X : Cx} {K : PySem.W.Frag} (hu : X.A.units + 64 < cLine) (h : X.K = K := by rfl) : OpR X (compareOp .Eq) (rEqD K) := by subst h; exact op_eqD hu
theorem cr_maxK {X : Cx} {K : PySem.W.Frag} (hc : X.calm = true) (h : X.K = K := by rfl) : CallR X (.builtin "max") (rMax K) := by subst h; exact cr_max hc
theorem cr_minK {X : Cx} {K : PySem.W.Frag} (hc : X.calm = true) (h : X.K = K := by rfl) : CallR X (.builtin "min") (rMin K) := by subst h; exact cr_min hc
theorem cr_sumK {X : Cx} {K : PySem.W.Frag} (hc : X.calm = true) (h : X.K = K := by rfl) : CallR X (.builtin "sum") (rSum K) := by subst h; exact cr_sum hc
end GX
set_option Elab.async false
set_option linter.all false
set_option maxRecDepth 100000
set_option maxHeartbeats 4000000
namespace GX
open PySem PySem.Spec PyProof.Rows L2
theorem repA {K : PySem.W.Frag} {H : Hp} {l : Addr} {k : Int} {xs : List V} {Q : VK} (h : H l = some (.tup xs)) (ne : xs ≠ []) (k1 : 1 ≤ k) (k2 : k ≤ 1000) (hl : xs.length ≤ 1000) (q : ∀ r H', Same H H' → H' r = some (.tup (List.replicate k.toNat xs).flatten) → Q (.ref r) H') : rRepA K (.ref l) (.int k) H Q := by
  refine ⟨l, k, xs, rfl, rfl, SqT.of h, ne, k1, k2, hl, fun e => ?_, fun _ p np => ?_⟩
  · refine q l H (Same.refl _) ?_
    rw [h, e]
    show _ = some (HO.tup (xs ++ []))
    rw [List.append_nil]
  · exact q p _ (Same.new np) upd_same
theorem rep1 (x m : Nat) : (List.replicate m [nV x]).flatten = (List.replicate m x).map nV := by
  induction m with
  | zero => rfl
  | succ m ih =>
    rw [List.replicate_succ, List.flatten_cons, ih, List.replicate_succ]
    rfl
end GX
set_option Elab.async false
set_option linter.all false
set_option maxRecDepth 100000
set_option maxHeartbeats 4000000
/-! Depths in covers; lean covers. -/
namespace GX
open PySem PySem.Spec PyProof.Rows L2
def maxL : List Nat → Nat
  | [] => 0
  | x :: r => max x (maxL r)
theorem le_maxL {xs : List Nat} {x : Nat} (h : x ∈ xs) : x ≤ maxL xs := by
  induction xs with
  | nil => cases h
  | cons y r ih =>
    unfold maxL
    rcases List.mem_cons.mp h with h | h
    · omega
    · have := ih h
      omega
theorem maxL_mem {xs : List Nat} (h : 0 < xs.length) : maxL xs ∈ xs := by
  induction xs with
  | nil => cases h
  | cons y r ih =>
    unfold maxL
    cases r with
    | nil =>
      show max y 0 ∈ _
      rw [Nat.max_eq_left (Nat.zero_le _)]
      exact List.mem_cons_self
    | cons z t =>
      have := ih (Nat.succ_pos _)
      by_cases e : maxL (z :: t) ≤ y
      · rw [Nat.max_eq_left e]
        exact List.mem_cons_self
      · rw [Nat.max_eq_right (by omega)]
        exact List.mem_cons_of_mem _ this
theorem max_eq {xs : List Nat} {m : Int} (hm : m ∈ xs.map fun n : Nat => (n : Int)) (hb : ∀ y ∈ xs.map (fun n : Nat => (n : Int)), y ≤ m) : V.int m = nV (maxL xs) := by
  obtain ⟨x, hx, rfl⟩ := List.mem_map.mp hm
  have h1 := le_maxL hx
  have h2 := hb _ (List.mem_map.mpr ⟨_, maxL_mem (List.length_pos_of_mem hx), rfl⟩)
  show V.int _ = V.int _
  congr 1
  have h2' : ((maxL xs : Nat) : Int) ≤ ((x : Nat) : Int) := h2
  omega
theorem maxL_congr {ws : List Nat} {f g : Nat → Nat} (h : ∀ x ∈ ws, f x = g x) : maxL (ws.map f) = maxL (ws.map g) := by rw [List.map_congr_left h]
/-- depths, table by table -/
def dStep (f : Nat → Nat) (t : Tb) : Nat → Nat := fun x => if x = t.1 then 1 + maxL (t.2.map f) else f x
def dMap (cv : List Tb) : Nat → Nat := cv.foldl dStep (fun _ => 0)
theorem dMap_snoc (cv : List Tb) (t : Tb) : dMap (cv ++ [t]) = dStep (dMap cv) t := by
  unfold dMap
  rw [List.foldl_append]
  rfl
theorem dMap_take {cv : List Tb} {i : Nat} {t : Tb} (h : cv[i]? = some t) : dMap (cv.take (i + 1)) = dStep (dMap (cv.take i)) t := by
  rw [List.take_add_one, h, Option.toList_some, dMap_snoc]
/-- tables rising, their wires lesser -/
structure Ris (cv : List Tb) : Prop where
  rise : cv.Pairwise (fun a b => a.1 < b.1)
  lt : ∀ t ∈ cv, ∀ x ∈ t.2, x < t.1
theorem Ris.init {cv : List Tb} {t : Tb} (h : Ris (cv ++ [t])) : Ris cv ∧ (∀ u ∈ cv, u.1 < t.1) ∧ ∀ x ∈ t.2, x < t.1 := by
  obtain ⟨h1, _, h3⟩ := List.pairwise_append.mp h.rise
  exact ⟨⟨h1, fun u hu => h.lt u (List.mem_append.mpr (.inl hu))⟩, fun u hu => h3 u hu t List.mem_cons_self, h.lt t (List.mem_append.mpr (.inr List.mem_cons_self))⟩
theorem rev_ind {P : List Tb → Prop} (h0 : P []) (h1 : ∀ cv t, P cv → P (cv ++ [t])) : ∀ cv, P cv := fun cv => by
  rw [← List.reverse_reverse cv]
  induction cv.reverse with
  | nil => exact h0
  | cons t r ih =>
    rw [List.reverse_cons]
    exact h1 _ _ ih
theorem dMap_out {cv : List Tb} : ∀ x, (∀ t ∈ cv, t.1 ≠ x) → dMap cv x = 0 := by
  refine rev_ind (P := fun cv => ∀ x, (∀ t ∈ cv, t.1 ≠ x) → dMap cv x = 0) (fun x _ => rfl) (fun cv t ih x h => ?_) cv
  rw [dMap_snoc]
  unfold dStep
  rw [if_neg (fun e => h t (List.mem_append.mpr (.inr List.mem_cons_self)) e.symm)]
  exact ih x fun u hu => h u (List.mem_append.mpr (.inl hu))
theorem dMap_in {cv : List Tb} : Ris cv → ∀ t ∈ cv, dMap cv t.1 = 1 + maxL (t.2.map (dMap cv)) := by
  refine rev_ind (P := fun cv => Ris cv → ∀ t ∈ cv, dMap cv t.1 = 1 + maxL (t.2.map (dMap cv))) (fun _ t ht => by cases ht) (fun cv t ih h u hu => ?_) cv
  obtain ⟨r, h1, h2⟩ := h.init
  rw [dMap_snoc]
  rcases List.mem_append.mp hu with hu | hu
  · have lt := h1 u hu
    have e : ∀ x ∈ u.2, dStep (dMap cv) t x = dMap cv x := fun x hx => by
      have := r.lt u hu x hx
      unfold dStep
      rw [if_neg (by omega)]
    rw [maxL_congr e]
    unfold dStep
    rw [if_neg (by omega)]
    exact ih r u hu
  · rw [List.mem_singleton.mp hu]
    have e : ∀ x ∈ t.2, dStep (dMap cv) t x = dMap cv x := fun x hx => by
      have := h2 x hx
      unfold dStep
      rw [if_neg (by omega)]
    rw [maxL_congr e]
    unfold dStep
    rw [if_pos rfl]
/-- needed or not -/
noncomputable def needB (n : Net) (cv : List Tb) (x : Nat) : Bool := @decide (Need n cv x) (Classical.propDecidable _)
theorem needB_iff {n : Net} {cv : List Tb} {x : Nat} : needB n cv x = true ↔ Need n cv x := by
  unfold needB
  exact @decide_eq_true_iff _ (Classical.propDecidable _)
noncomputable def leanOf (n : Net) (cv : List Tb) : List Tb := cv.filter fun t => needB n cv t.1
theorem leanOf_mem {n : Net} {cv : List Tb} {t : Tb} : t ∈ leanOf n cv ↔ t ∈ cv ∧ Need n cv t.1 := by
  unfold leanOf
  rw [List.mem_filter, needB_iff]
theorem Need.big {n : Net} {cv : List Tb} {x : Nat} (h : Need n cv x) : n.many ≤ x := by
  cases h with
  | out _ h => exact h
  | step _ _ _ h => exact h
theorem CovOk.ris {n : Net} {k : Nat} {cv : List Tb} (c : CovOk n k cv) : Ris cv := ⟨c.rise, fun t ht x hx => (c.cut t ht).1.lt x hx⟩
theorem Need.tab {n : Net} {k : Nat} {cv : List Tb} (c : CovOk n k cv) {x : Nat} (h : Need n cv x) : ∃ t ∈ cv, t.1 = x := by
  cases h with
  | out h1 h2 => exact c.outs _ h1 h2
  | step ht _ hx hm => exact c.clo _ ht _ hx hm
theorem Need.lean {n : Net} {cv : List Tb} {x : Nat} (h : Need n cv x) : Need n (leanOf n cv) x := by
  induction h with
  | out h1 h2 => exact .out h1 h2
  | step ht hn hx hm ih => exact .step (leanOf_mem.mpr ⟨ht, hn⟩) ih hx hm
theorem lean_ok {n : Net} {k : Nat} {cv : List Tb} (c : CovOk n k cv) : CovOk n k (leanOf n cv) := by
  refine ⟨c.rise.filter _, fun t ht => c.gt t (leanOf_mem.mp ht).1, fun t ht => c.cut t (leanOf_mem.mp ht).1, fun o ho hm => ?_, fun t ht x hx hm => ?_⟩
  · obtain ⟨t, ht, e⟩ := c.outs o ho hm
    exact ⟨t, leanOf_mem.mpr ⟨ht, by rw [e]; exact .out ho hm⟩, e⟩
  · obtain ⟨h1, h2⟩ := leanOf_mem.mp ht
    obtain ⟨u, hu, e⟩ := c.clo t h1 x hx hm
    exact ⟨u, leanOf_mem.mpr ⟨hu, by rw [e]; exact .step h1 h2 hx hm⟩, e⟩
/-- a needed gate has its depth in the lean cover, too -/
theorem lean_depth {n : Net} {k : Nat} {cv : List Tb} (c : CovOk n k cv) : ∀ b x, x ≤ b → (Need n cv x ∨ x < n.many) → dMap (leanOf n cv) x = dMap cv x
  | b, x, hb, h => by
    rcases h with h | h
    · obtain ⟨t, ht, rfl⟩ := h.tab c
      rw [dMap_in c.ris t ht, dMap_in (lean_ok c).ris t (leanOf_mem.mpr ⟨ht, h⟩)]
      congr 1
      refine maxL_congr fun y hy => ?_
      have lt := (c.cut t ht).1.lt y hy
      cases b with
      | zero => omega
      | succ b =>
        refine lean_depth c b y (by omega) ?_
        by_cases e : y < n.many
        · exact .inr e
        · exact .inl (.step ht h hy (by omega))
    · rw [dMap_out x fun t ht e => ?_, dMap_out x fun t ht e => ?_]
      · have := (c.gt t ht).1
        omega
      · have := ((lean_ok c).gt t ht).1
        omega
termination_by b => b
end GX
namespace GX
open PySem PySem.Spec PyProof.Rows L2
/-- a dict comprehension over anything walked -/
theorem dc_it {J : It} {n : Nat} {G : Hp → Prop} {Y : Nat → Hp → V → Hp → Prop} (wk : Walk J n G Y) {g : TG} {tt : TT} {tk tv : TE} {vs : List Nat} {σ : L2.St} {H1 : Hp} {D : Addr} {Qd : Hp → Prop} (Pv : Nat → Hp → Prop) (h0 : Pv 0 (upd H1 D (.dK []))) (hG : ∀ i H, i ≤ n → Pv i H → G H)
    (hs : ∀ i x H H', i < n → Pv i H → Y i H x H' → g x (wipe σ vs) H' fun σ2 H2 => wipe σ2 vs = wipe σ vs ∧ tt σ2 H2 fun b H3 =>
      if b = true then tk σ2 H3 fun y H4 => tv σ2 H4 fun z H5 => ∃ kvs k, y = kV k ∧ H5 D = some (.dK kvs) ∧ kvs.length < sizeLine ∧ Pv (i + 1) (upd H5 D (.dK (putK kvs k z))) else Pv (i + 1) H3) (hd : ∀ H, Pv n H → Qd H) :
    ∃ W : Nat → Nat → Hp → Prop, (∃ m, W 0 m (upd H1 D (.dK []))) ∧ ∀ i m H, W i m H →
      (J.stop i H ∧ Qd H) ∨ (J.go i H ∧ ∃ Nx : Hp → Prop, (∀ H', Nx H' → ∃ m', m' < m ∧ W (i + 1) m' H') ∧ ∀ x H', J.yld i H x H' → g x (wipe σ vs) H' fun σ2 H2 => wipe σ2 vs = wipe σ vs ∧ tt σ2 H2 fun b H3 =>
        if b = true then tk σ2 H3 fun y H4 => tv σ2 H4 fun z H5 => ∃ kvs k, y = kV k ∧ H5 D = some (.dK kvs) ∧ kvs.length < sizeLine ∧ Nx (upd H5 D (.dK (putK kvs k z))) else Nx H3) := by
  refine ⟨fun i m H => m = n - i ∧ i ≤ n ∧ Pv i H, ⟨n, by simp, Nat.zero_le _, h0⟩, ?_⟩
  rintro i m H ⟨rfl, hi, p⟩
  have q := hG i H hi p
  by_cases hlt : i < n
  · exact .inr ⟨wk.goes i H hlt q, Pv (i + 1), fun H' p' => ⟨n - (i + 1), by omega, rfl, hlt, p'⟩, fun x H' y => hs i x H H' hlt p (wk.yields i H x H' hlt q y)⟩
  · have e : i = n := by omega
    subst e
    exact .inl ⟨wk.stops H q, hd H p⟩
end GX
set_option Elab.async false
set_option linter.all false
/-! A statement by what stands behind it. -/
namespace GX
open PySem PySem.Spec PyProof.Rows L2
theorem seq_cut {t u : TS} {D : Ends} {σ : L2.St} {H : Hp} (Iv : L2.St → Hp → Prop) (h1 : ∀ B : L2.St → Hp → Prop, (∀ σ' H', Iv σ' H' → B σ' H') → t { D with nx := B } σ H) (h2 : ∀ σ' H', Iv σ' H' → u D σ' H') : tSeq t u D σ H := h1 (u D) h2
theorem seq_cutG {t u : TS} {D : Ends} {σ : L2.St} {H : Hp} {i : Nat} {x : V} (Iv : L2.St → Hp → Prop) (h1 : ∀ B : L2.St → Hp → Prop, (∀ σ' H', Iv σ' H' → B σ' H') → t { D with nx := B } (σ.set i (some x)) H) (h2 : ∀ σ' H', Iv σ' H' → u D σ' H') : gName i x σ H (tSeq t u D) := h1 (u D) h2
theorem te_cut {te : TE} {σ : L2.St} {H : Hp} {Q : VK} (Iv : V → Hp → Prop) (h1 : ∀ Q' : VK, (∀ v H', Iv v H' → Q' v H') → te σ H Q') (h2 : ∀ v H', Iv v H' → Q v H') : te σ H Q := h1 Q h2
theorem tt_cut {tt : TT} {σ : L2.St} {H : Hp} {Q : Bool → Hp → Prop} (Iv : Bool → Hp → Prop) (h1 : ∀ Q' : Bool → Hp → Prop, (∀ v H', Iv v H' → Q' v H') → tt σ H Q') (h2 : ∀ v H', Iv v H' → Q v H') : tt σ H Q := h1 Q h2
end GX
set_option Elab.async false
set_option linter.all false
set_option maxRecDepth 100000
set_option maxHeartbeats 4000000
/-! All rising rows; what tells by what is held. -/
namespace GX
open PySem PySem.Spec PyProof.Rows L2
theorem det_sep {n : Net} {ws : List Nat} {w : Nat} (d : Det n ws w) : Sep n w ws := by
  induction d with
  | held h => exact sep_in h
  | @gate x k hm hk _ _ i1 i2 =>
    by_cases e : x ∈ ws
    · exact sep_in e
    · exact (sep_gate hm hk e).mpr ⟨i1, i2⟩
theorem det_iff {n : Net} (ok : n.Ok) {ws : List Nat} {w : Nat} (hw : w < n.many + n.gates.length) : Det n ws w ↔ Sep n w ws := ⟨det_sep, det_top ok hw⟩
theorem det_input {n : Net} {ws : List Nat} {w : Nat} (h : w < n.many) : Det n ws w ↔ w ∈ ws := ⟨fun d => by
  cases d with
  | held h => exact h
  | gate hm _ _ _ => omega, .held⟩
theorem det_gate {n : Net} {ws : List Nat} {w : Nat} {k : Nat × Nat × Nat} (hm : n.many ≤ w) (hk : n.gates[w - n.many]? = some k) : Det n ws w ↔ (w ∈ ws ∨ (Det n ws k.2.1 ∧ Det n ws k.2.2)) := by
  refine ⟨fun d => ?_, fun d => ?_⟩
  · cases d with
    | held h => exact .inl h
    | gate hm' hk' d1 d2 =>
      rw [hk] at hk'
      cases hk'
      exact .inr ⟨d1, d2⟩
  · rcases d with d | ⟨d1, d2⟩
    · exact .held d
    · exact .gate hm hk d1 d2
/-- where a row goes on -/
def begOf (r : List Nat) : Nat := if r = [] then 0 else r.getD (r.length - 1) 0 + 1
theorem begOf_snoc (r : List Nat) (x : Nat) : begOf (r ++ [x]) = x + 1 := by
  unfold begOf
  rw [if_neg (by simp), List.length_append, List.getD_eq_getElem?_getD]
  show ((r ++ [x])[r.length + 1 - 1]?).getD 0 + 1 = _
  rw [Nat.add_sub_cancel, List.getElem?_append_right (Nat.le_refl _), Nat.sub_self]
  rfl
def extR (m : Nat) (r : List Nat) : List (List Nat) := (List.range (m - begOf r)).map fun i => r ++ [begOf r + i]
def rowsK (m : Nat) : Nat → List (List Nat)
  | 0 => [[]]
  | j + 1 => (rowsK m j).flatMap (extR m)
def setsK (m : Nat) : Nat → List (List Nat)
  | 0 => []
  | j + 1 => setsK m j ++ rowsK m (j + 1)
theorem mem_extR {m : Nat} {r c : List Nat} : c ∈ extR m r ↔ ∃ x, begOf r ≤ x ∧ x < m ∧ c = r ++ [x] := by
  unfold extR
  rw [List.mem_map]
  constructor
  · rintro ⟨i, hi, rfl⟩
    have := List.mem_range.mp hi
    exact ⟨_, by omega, by omega, rfl⟩
  · rintro ⟨x, h1, h2, rfl⟩
    exact ⟨x - begOf r, List.mem_range.mpr (by omega), by rw [show begOf r + (x - begOf r) = x by omega]⟩
theorem lt_begOf {r : List Nat} (h : r.Pairwise (· < ·)) : ∀ y ∈ r, y < begOf r := fun y hy => by
  rcases List.eq_nil_or_concat r with e | ⟨q, x, e⟩
  · rw [e] at hy; cases hy
  · have e' : r = q ++ [x] := by rw [e, List.concat_eq_append]
    subst e'
    rw [begOf_snoc]
    rcases List.mem_append.mp hy with h1 | h1
    · have := (List.pairwise_append.mp h).2.2 y h1 x List.mem_cons_self
      omega
    · rw [List.mem_singleton.mp h1]
      omega
theorem rowsK_mem {m : Nat} : ∀ j c, c ∈ rowsK m j ↔ (c.Pairwise (· < ·) ∧ (∀ x ∈ c, x < m) ∧ c.length = j)
  | 0, c => by
    unfold rowsK
    rw [List.mem_singleton]
    constructor
    · rintro rfl
      exact ⟨.nil, fun x hx => (by cases hx), rfl⟩
    · rintro ⟨_, _, h⟩
      exact List.length_eq_zero_iff.mp h
  | j + 1, c => by
    unfold rowsK
    rw [List.mem_flatMap]
    constructor
    · rintro ⟨r, hr, hc⟩
      obtain ⟨h1, h2, h3⟩ := (rowsK_mem j r).mp hr
      obtain ⟨x, x1, x2, rfl⟩ := mem_extR.mp hc
      refine ⟨List.pairwise_append.mpr ⟨h1, List.pairwise_singleton _ _, fun y hy z hz => ?_⟩, fun y hy => ?_, by rw [List.length_append, h3]; rfl⟩
      · rw [List.mem_singleton.mp hz]
        have := lt_begOf h1 y hy
        omega
      · rcases List.mem_append.mp hy with h | h
        · exact h2 y h
        · rw [List.mem_singleton.mp h]; exact x2
    · rintro ⟨h1, h2, h3⟩
      rcases List.eq_nil_or_concat c with e | ⟨q, x, e⟩
      · rw [e] at h3; cases h3
      · have e' : c = q ++ [x] := by rw [e, List.concat_eq_append]
        subst e'
        obtain ⟨p1, p2, p3⟩ := List.pairwise_append.mp h1
        refine ⟨q, (rowsK_mem j q).mpr ⟨p1, fun y hy => h2 y (List.mem_append.mpr (.inl hy)), by rw [List.length_append] at h3; exact Nat.succ.inj h3⟩, mem_extR.mpr ⟨x, ?_, h2 x (List.mem_append.mpr (.inr List.mem_cons_self)), rfl⟩⟩
        unfold begOf
        split
        · exact Nat.zero_le _
        · next hne =>
          have : q.getD (q.length - 1) 0 ∈ q := getD_mem (by have := List.length_pos_iff.mpr hne; omega)
          exact p3 _ this x List.mem_cons_self
theorem setsK_mem {m : Nat} : ∀ j c, c ∈ setsK m j ↔ (c.Pairwise (· < ·) ∧ (∀ x ∈ c, x < m) ∧ 1 ≤ c.length ∧ c.length ≤ j)
  | 0, c => by
    unfold setsK
    constructor
    · intro h; cases h
    · rintro ⟨_, _, h1, h2⟩; omega
  | j + 1, c => by
    unfold setsK
    rw [List.mem_append, setsK_mem j c, rowsK_mem (j + 1) c]
    constructor
    · rintro (⟨h1, h2, h3, h4⟩ | ⟨h1, h2, h3⟩)
      · exact ⟨h1, h2, h3, by omega⟩
      · exact ⟨h1, h2, by omega, by omega⟩
    · rintro ⟨h1, h2, h3, h4⟩
      by_cases e : c.length = j + 1
      · exact .inr ⟨h1, h2, e⟩
      · exact .inl ⟨h1, h2, h3, by omega⟩
theorem flatMap_le {f : List Nat → List (List Nat)} {b : Nat} (h : ∀ r, (f r).length ≤ b) : ∀ l : List (List Nat), (l.flatMap f).length ≤ l.length * b
  | [] => by simp
  | r :: l => by
    rw [List.flatMap_cons, List.length_append, List.length_cons, Nat.succ_mul]
    have := flatMap_le h l
    have := h r
    omega
theorem extR_len (m : Nat) (r : List Nat) : (extR m r).length ≤ m := by
  unfold extR
  rw [List.length_map, List.length_range]
  omega
theorem rowsK_len (m : Nat) : ∀ j, (rowsK m j).length ≤ m ^ j
  | 0 => by unfold rowsK; exact Nat.le_refl _
  | j + 1 => by
    unfold rowsK
    refine Nat.le_trans (flatMap_le (extR_len m) _) ?_
    rw [Nat.pow_succ]
    exact Nat.mul_le_mul_right _ (rowsK_len m j)
theorem setsK_len {m : Nat} (hm : 1 ≤ m) : ∀ j, (setsK m j).length ≤ j * m ^ j
  | 0 => by unfold setsK; exact Nat.le_refl _
  | j + 1 => by
    unfold setsK
    rw [List.length_append]
    have h1 := setsK_len hm j
    have h2 := rowsK_len m (j + 1)
    have h3 : m ^ j ≤ m ^ (j + 1) := Nat.pow_le_pow_right hm (Nat.le_succ j)
    have h4 : j * m ^ j ≤ j * m ^ (j + 1) := Nat.mul_le_mul_left _ h3
    rw [Nat.succ_mul]
    omega
theorem flatMap_take {l : List (List Nat)} {f : List Nat → List (List Nat)} {i : Nat} {r : List Nat} (h : l[i]? = some r) : (l.take (i + 1)).flatMap f = (l.take i).flatMap f ++ f r := by
  rw [List.take_add_one, h, Option.toList_some, List.flatMap_append]
  simp
/-- a least depth over all sets that tell -/
structure DueTo (n : Net) (k : Nat) (ds : List Nat) : Prop where
  low : ∀ x, x < n.many → x < ds.length → ds.getD x 0 = 0
  at_ : ∀ g, n.many ≤ g → g < ds.length → (∃ c, (c ∈ setsK g k ∧ Sep n g c) ∧ ds.getD g 0 = 1 + maxL (c.map fun x => ds.getD x 0)) ∧ ∀ c, (c ∈ setsK g k ∧ Sep n g c) → ds.getD g 0 ≤ 1 + maxL (c.map fun x => ds.getD x 0)
end GX
set_option Elab.async false
set_option linter.all false
set_option maxRecDepth 100000
set_option maxHeartbeats 4000000
/-! A list or a tuple of anything, held against an empty one. -/
namespace GX
open PySem PySem.Spec PyProof.Rows L2
def rEq0 (K : PySem.W.Frag) : R2 := fun x y H Q => ∃ (a b : Addr) (xs : List V), x = .ref a ∧ y = .ref b ∧ ((SqT K H a xs ∧ SqT K H b []) ∨ (SqL K H a xs ∧ SqL K H b [])) ∧ Q (.bl (decide (xs.length = 0))) H
def rNe0 (K : PySem.W.Frag) : R2 := fun x y H Q => ∃ (a b : Addr) (xs : List V), x = .ref a ∧ y = .ref b ∧ ((SqT K H a xs ∧ SqT K H b []) ∨ (SqL K H a xs ∧ SqL K H b [])) ∧ Q (.bl (!decide (xs.length = 0))) H
theorem vals_nil {its : List Value} (h : Vals [] its) : its = [] := by cases h; rfl
theorem op_eq0 {X : Cx} (hu : X.A.units < cLine) : OpR X (compareOp .Eq) (rEq0 X.K) := by
  intro pins s σ H x y v u Q I rx ry h
  obtain ⟨a, b, xs, rfl, rfl, hh, q⟩ := h
  cases rx
  cases ry
  rcases hh with ⟨ha, hb⟩ | ⟨ha, hb⟩
  · obtain ⟨its, r, ⟨o, e, c, n, d⟩, _⟩ := I.tuple ha
    obtain ⟨its2, r2, ⟨o2, e2, c2, n2, d2⟩, _⟩ := I.tuple hb
    obtain rfl := vals_nil r2
    have hl : its.length = xs.length := r.length.symm
    refine PySem.SeqAt.eq_tupleAt (items := its.toArray) (items2 := #[]) (e := fun _ => true) ⟨o, e, c, n, d⟩ ⟨o2, e2, c2, n2, d2⟩ hu (fun j h1 h2 => by simp at h2) ⟨.bl (decide (xs.length = 0)), H, I, ?_, q⟩
    show Value.bool _ = Value.bool _
    congr 1
    cases xs with
    | nil => simp [hl]
    | cons _ _ => simp [hl]
  · obtain ⟨its, r, ⟨o, n, e, c, d0, d⟩, _⟩ := I.list ha
    obtain ⟨its2, r2, ⟨o2, n2, e2, c2, d02, d2⟩, _⟩ := I.list hb
    obtain rfl := vals_nil r2
    have hl : its.length = xs.length := r.length.symm
    by_cases h0 : xs.length = 0
    · refine PySem.SeqAt.eq_listAt (items := its.toArray) (items2 := #[]) (e := fun _ => true) ⟨o, e, c, n, d⟩ ⟨o2, e2, c2, n2, d2⟩ (by simp [hl, h0]) hu (fun j h1 h2 => by simp at h2) ⟨.bl (decide (xs.length = 0)), H, I, ?_, q⟩
      show Value.bool _ = Value.bool _
      simp [h0]
    · refine PySem.SeqAt.eq_list_lengthsAt (items := its.toArray) (items2 := #[]) ⟨o, e, c, n, d⟩ ⟨o2, e2, c2, n2, d2⟩ (by simp [hl, h0]) hu ⟨.bl (decide (xs.length = 0)), H, I, ?_, q⟩
      show Value.bool _ = Value.bool _
      simp [h0]
theorem op_ne0 {X : Cx} (hu : X.A.units < cLine) : OpR X (compareOp .NotEq) (rNe0 X.K) := by
  intro pins s σ H x y v u Q I rx ry h
  obtain ⟨a, b, xs, rfl, rfl, hh, q⟩ := h
  cases rx
  cases ry
  rcases hh with ⟨ha, hb⟩ | ⟨ha, hb⟩
  · obtain ⟨its, r, ⟨o, e, c, n, d⟩, _⟩ := I.tuple ha
    obtain ⟨its2, r2, ⟨o2, e2, c2, n2, d2⟩, _⟩ := I.tuple hb
    obtain rfl := vals_nil r2
    have hl : its.length = xs.length := r.length.symm
    refine PySem.SeqAt.RcNeAt.tuples (items := its.toArray) (items2 := #[]) (e := fun _ => true) ⟨o, e, c, n, d⟩ ⟨o2, e2, c2, n2, d2⟩ hu (fun j h1 h2 => by simp at h2) X.prog X.w _ _ ⟨.bl (!decide (xs.length = 0)), H, I, ?_, q⟩
    show Value.bool _ = Value.bool _
    congr 1
    cases xs with
    | nil => simp [hl]
    | cons _ _ => simp [hl]
  · obtain ⟨its, r, ⟨o, n, e, c, d0, d⟩, _⟩ := I.list ha
    obtain ⟨its2, r2, ⟨o2, n2, e2, c2, d02, d2⟩, _⟩ := I.list hb
    obtain rfl := vals_nil r2
    have hl : its.length = xs.length := r.length.symm
    by_cases h0 : xs.length = 0
    · refine PySem.SeqAt.RcNeAt.lists (items := its.toArray) (items2 := #[]) (e := fun _ => true) ⟨o, e, c, n, d⟩ ⟨o2, e2, c2, n2, d2⟩ (by simp [hl, h0]) hu (fun j h1 h2 => by simp at h2) X.prog X.w _ _ ⟨.bl (!decide (xs.length = 0)), H, I, ?_, q⟩
      show Value.bool _ = Value.bool _
      simp [h0]
    · refine PySem.SeqAt.RcNeAt.lists_lengths (items := its.toArray) (items2 := #[]) ⟨o, e, c, n, d⟩ ⟨o2, e2, c2, n2, d2⟩ (by simp [hl, h0]) hu X.prog X.w _ _ ⟨.bl (!decide (xs.length = 0)), H, I, ?_, q⟩
      show Value.bool _ = Value.bool _
      simp [h0]
theorem op_eq0K {X : Cx} {K : PySem.W.Frag} (hu : X.A.units < cLine) (h : X.K = K := by rfl) : OpR X (compareOp .Eq) (rEq0 K) := by subst h; exact op_eq0 hu
theorem op_ne0K {X : Cx} {K : PySem.W.Frag} (hu : X.A.units < cLine) (h : X.K = K := by rfl) : OpR X (compareOp .NotEq) (rNe0 K) := by subst h; exact op_ne0 hu
end GX
set_option Elab.async false
set_option linter.all false
set_option maxRecDepth 100000
set_option maxHeartbeats 4000000
/-! min(xs, key=lambda x: ..) where the lambda may call and capture names. -/
namespace GX
open PySem PySem.Spec PyProof.Rows L2

section
variable {X : Cx} {pins : List (Addr × Obj)} {σ : L2.St} {H : Hp} {s : Shared}
/-- what is at ch changes, which nobody tracks -/
theorem inv_raw {ch : List Addr} {h' : Heap} {t' : Nat} (I : Inv X pins σ H s) (hch : ∀ b ∈ ch, FpOk X pins H b) (k : ∀ b o, b ∉ ch → s.heap.get? b = some o → h'.get? b = some o) : Inv X pins σ H { s with heap := h', toks := t' } := by
  have nt : ∀ b u, H b = some u → b ∉ ch := fun b u q hb => by rw [(hch b hb).1] at q; cases q
  refine I.step (g' := s.gens) (t' := t') (d' := s.drawn) (ch := ch) (fun b hb => ⟨(hch b hb).2.2.2.1, (hch b hb).2.1, (hch b hb).2.2.2.2.1, (hch b hb).2.2.2.2.2⟩)
      (fun b ob _ _ hc q _ => k b ob hc q) (fun b ob _ _ hc q _ => ⟨ob.slots, k b ob hc q⟩) (fun _ _ _ _ n => n) (fun b ob hc q => ⟨ob, k b ob hc q⟩)
      (fun _ _ q => q) (fun _ _ _ q => q) (fun b ps q => ⟨#[], by rw [q]; simp⟩) (fun m hm => ?_) (fun b u q => ?_) I.bare
  · obtain ⟨ob, es, ep, ho, r⟩ := hm
    exact ⟨ob, es, ep, k _ ob (fun hb => (hch _ hb).2.1 rfl) ho, r⟩
  · refine (I.hok b u q).stay (fun c v hc y => k c v ?_ y) (fun _ y => y) fun _ _ y => y
    rcases hc with y | y
    · rw [y]; exact nt b u q
    · exact nt c _ y
/-- what stays true of a place when pins are added that are elsewhere -/
theorem FpOk.add {b : Addr} {p : Addr × Obj} (h : FpOk X pins H b) (n : p.1 ≠ b) : FpOk X (p :: pins) H b :=
  ⟨h.1, h.2.1, h.2.2.1, h.2.2.2.1, h.2.2.2.2.1, fun q hq => (List.mem_append.mp hq).elim (fun z => h.2.2.2.2.2 q (List.mem_append_left _ z)) fun z => (List.mem_cons.mp z).elim (fun e => by rw [e]; exact n) fun z => h.2.2.2.2.2 q (List.mem_append_right _ z)⟩
theorem FpOk.heap {b : Addr} {H' : Hp} (h : FpOk X pins H b) (n : H' b = none) : FpOk X pins H' b := ⟨n, h.2⟩
theorem FpOk.tail {b : Addr} {p : Addr × Obj} (h : FpOk X (p :: pins) H b) : FpOk X pins H b :=
  ⟨h.1, h.2.1, h.2.2.1, h.2.2.2.1, h.2.2.2.2.1, fun q hq => h.2.2.2.2.2 q ((List.mem_append.mp hq).elim (fun z => List.mem_append_left _ z) fun z => List.mem_append_right _ (List.mem_cons_of_mem _ z))⟩
theorem Inv.pin1 {b : Addr} {o : Obj} (I : Inv X pins σ H s) (h : FpOk X pins H b) (e : s.heap.get? b = some o) (d : ∀ v, o.data ≠ .cell v) : Inv X ((b, o) :: pins) σ H s :=
  I.pins_of fun p hp => (List.mem_cons.mp hp).elim (fun z => by rw [z]; exact ⟨e, h.1, h.2.1, h.2.2.1, d⟩) fun z => I.pin p (List.mem_append_right _ z)
theorem Inv.unpin1 {p : Addr × Obj} (I : Inv X (p :: pins) σ H s) : Inv X pins σ H s := I.pins_of fun q hq => I.pin q (List.mem_append_right _ (List.mem_cons_of_mem _ hq))

theorem iter_ne {h : Heap} {l a : Addr} {its : Array Value} {i : Nat} (hl : h.IsList l its) (hi : h.IsListIter a l i) : l ≠ a := fun z => by
  obtain ⟨o, ho, hc, _⟩ := hl
  obtain ⟨o2, ho2, hc2, _⟩ := hi
  rw [z, ho2] at ho
  cases ho
  rw [hc2] at hc
  injection hc with hc
  exact absurd hc (by decide)
theorem iter_neT {h : Heap} {l a : Addr} {its : Array Value} {i : Nat} (hl : h.IsTuple l its) (hi : h.IsTupleIter a l i) : l ≠ a := fun z => by
  obtain ⟨o, ho, hc, _⟩ := hl
  obtain ⟨o2, ho2, hc2, _⟩ := hi
  rw [z, ho2] at ho
  cases ho
  rw [hc2] at hc
  injection hc with hc
  exact absurd hc (by decide)
/-- a list or a tuple walked by an iterator of its own -/
structure SeqK (X : Cx) (pins : List (Addr × Obj)) (σ : L2.St) (l : Addr) (xs : List V) (Sq : Hp → Prop) (It : Heap → Addr → Nat → Prop) : Prop where
  obj : ∀ {h : Heap} {a : Addr} {i : Nat}, It h a i → ∃ o, h.get? a = some o ∧ (∀ v, o.data ≠ .cell v) ∧ ∀ h' : Heap, h'.get? a = some o → It h' a i
  start : ∀ (s : Shared) (H : Hp) (Q E : Value → Shared → Prop), Inv X pins σ H s → Sq H → (∀ o, It (s.heap.push o) s.heap.objs.size 0 → Q (.ref s.heap.objs.size) { s with heap := s.heap.push o }) → wpAny (model X.prog X.w) X.A.in1 (pyIter (.ref l)) Q E s
  item : ∀ (s : Shared) (H : Hp) (a : Addr) (j : Nat) (x : V) (Q : Option Value → Shared → Prop) (E : Value → Shared → Prop), X.A.handled = none → Inv X pins σ H s → Sq H → It s.heap a j → xs[j]? = some x →
    (∀ v h' tk', RelV x v → It h' a (j + 1) → (∀ b o, b ∉ [a] → s.heap.get? b = some o → h'.get? b = some o) → Q (some v) { s with heap := h', toks := tk' }) → wpAny (model X.prog X.w) X.A.in1 (pyNext (.ref a)) Q E s
  done : ∀ (s : Shared) (H : Hp) (a : Addr) (Q : Option Value → Shared → Prop) (E : Value → Shared → Prop), X.A.handled = none → Inv X pins σ H s → Sq H → It s.heap a xs.length →
    (∀ h' tk', (∀ b o, b ∉ [a] → s.heap.get? b = some o → h'.get? b = some o) → Q none { s with heap := h', toks := tk' }) → wpAny (model X.prog X.w) X.A.in1 (pyNext (.ref a)) Q E s
theorem seqL {l : Addr} {xs : List V} : SeqK X pins σ l xs (fun H => SqL X.K H l xs) (fun h a i => h.IsListIter a l i) where
  obj := fun ⟨o, e, hc, hd⟩ => ⟨o, e, fun v z => (by rw [hd] at z; cases z), fun h' e' => ⟨o, e', hc, hd⟩⟩
  start := fun s H Q E I hs q => by
    obtain ⟨its, rv, hl, hz⟩ := I.list hs
    exact wpAny_pyIter_list hl.isList (q _ ⟨_, Heap.get?_push_size _ rfl, rfl, rfl⟩)
  item := fun s H a j x Q E hh I hs hit hx q => by
    obtain ⟨its, rv, hl, hz⟩ := I.list hs
    have hlen : its.toArray.size = xs.length := by rw [List.size_toArray]; exact rv.length.symm
    refine (Walks.list (prog := X.prog) (w := X.w) (A := X.A.in1) hh a l (iter_ne hl.isList hit) its.toArray).item j _ _ _ (by rw [hlen]; exact (List.getElem?_eq_some_iff.mp hx).1) ⟨hit, hl.isList⟩ fun v h' tk' hP hst' hk' => ?_
    obtain ⟨v', hv', rx⟩ := rv.get hx
    obtain rfl : v' = v := by
      have e : its.toArray[j]? = some v := hP
      rw [List.getElem?_toArray, hv'] at e
      exact Option.some.inj e
    exact q v' h' tk' rx hst'.1 hk'
  done := fun s H a Q E hh I hs hit q => by
    obtain ⟨its, rv, hl, hz⟩ := I.list hs
    have hlen : its.toArray.size = xs.length := by rw [List.size_toArray]; exact rv.length.symm
    exact (Walks.list (prog := X.prog) (w := X.w) (A := X.A.in1) hh a l (iter_ne hl.isList hit) its.toArray).done _ _ _ ⟨by rw [hlen]; exact hit, hl.isList⟩ q
theorem seqT {l : Addr} {xs : List V} : SeqK X pins σ l xs (fun H => SqT X.K H l xs) (fun h a i => h.IsTupleIter a l i) where
  obj := fun ⟨o, e, hc, hd⟩ => ⟨o, e, fun v z => (by rw [hd] at z; cases z), fun h' e' => ⟨o, e', hc, hd⟩⟩
  start := fun s H Q E I hs q => by
    obtain ⟨its, rv, hl, hz⟩ := I.tuple hs
    exact wpAny_pyIter_tuple hl (q _ ⟨_, Heap.get?_push_size _ rfl, rfl, rfl⟩)
  item := fun s H a j x Q E hh I hs hit hx q => by
    obtain ⟨its, rv, hl, hz⟩ := I.tuple hs
    have hlen : its.toArray.size = xs.length := by rw [List.size_toArray]; exact rv.length.symm
    refine (Walks.tuple (prog := X.prog) (w := X.w) (A := X.A.in1) hh a l (iter_neT hl hit) its.toArray).item j _ _ _ (by rw [hlen]; exact (List.getElem?_eq_some_iff.mp hx).1) ⟨hit, hl⟩ fun v h' tk' hP hst' hk' => ?_
    obtain ⟨v', hv', rx⟩ := rv.get hx
    obtain rfl : v' = v := by
      have e : its.toArray[j]? = some v := hP
      rw [List.getElem?_toArray, hv'] at e
      exact Option.some.inj e
    exact q v' h' tk' rx hst'.1 hk'
  done := fun s H a Q E hh I hs hit q => by
    obtain ⟨its, rv, hl, hz⟩ := I.tuple hs
    have hlen : its.toArray.size = xs.length := by rw [List.size_toArray]; exact rv.length.symm
    exact (Walks.tuple (prog := X.prog) (w := X.w) (A := X.A.in1) hh a l (iter_neT hl hit) its.toArray).done _ _ _ ⟨by rw [hlen]; exact hit, hl⟩ q
/-! ### the loop of min -/
/-- a function value called with one value -/
def KeyR (X : Cx) (pl : List (Addr × Obj)) (q : Value) (σ : L2.St) (kt : V → Hp → VK → Prop) : Prop :=
  ∀ (pins : List (Addr × Obj)) (s : Shared) (H : Hp) (x : V) (u : Value) (Q : VK), (∀ p ∈ pl, p ∈ pins) → Inv X pins σ H s → RelV x u → kt x H Q → wpAny (model X.prog X.w) X.A.in1 (call q [u]) (EP X pins σ Q) (fun _ _ => False) s
def LtR (X : Cx) (σ : L2.St) (lt : R2) : Prop :=
  ∀ (pins : List (Addr × Obj)) (s : Shared) (H : Hp) (x y : V) (u v : Value) (Q : VK), Inv X pins σ H s → RelV x u → RelV y v → lt x y H Q → wpAny (model X.prog X.w) X.A.in1 (richCompare .Lt u v) (EP X pins σ Q) (fun _ _ => False) s
/-- the walk: what is known behind j items, the best one, its key -/
structure MinW (kt : V → Hp → VK → Prop) (lt : R2) (Sq : Hp → Prop) (xs : List V) (Q : VK) (W : Nat → V → V → Hp → Prop) : Prop where
  at_ : ∀ j b k H, W j b k H → Sq H
  step : ∀ j b k H x, W j b k H → xs[j]? = some x → kt x H fun k' H1 => lt k' k H1 fun r H2 => ∃ c, r = .bl c ∧ W (j + 1) (if c then x else b) (if c then k' else k) H2
  done : ∀ b k H, W xs.length b k H → Q b H
theorem min_loop {pl : List (Addr × Obj)} {q : Value} {kt : V → Hp → VK → Prop} {lt : R2} {l IA SA : Addr} {xs : List V} {Sq : Hp → Prop} {It : Heap → Addr → Nat → Prop} {Q : VK} {W : Nat → V → V → Hp → Prop} (SK : SeqK X pins σ l xs Sq It) (hh : X.A.handled = none) (hq : KeyR X pl q σ kt) (hlt : LtR X σ lt) (M : MinW kt lt Sq xs Q W) (hpl : ∀ p ∈ pl, p ∈ pins)
    (hSI : SA ≠ IA) (hqn : (∃ f, q = .ref f) ∨ ∃ id, q = .builtin id) :
    ∀ (r j : Nat) (s : Shared) (H : Hp) (b k : V) (ub uk : Value) (c : Nat), xs.length - j = r → j ≤ xs.length → Inv X pins σ H s → FpOk X pins H IA → FpOk X pins H SA → s.heap.get? SA = some (seqObj "list" #[ub, uk] c) → It s.heap IA j → RelV b ub → RelV k uk → W j b k H →
      codeAny (model X.prog X.w) X.A (.builtin "min.loop" ⟨[.ref IA, q, .ref SA], []⟩) (fun r s' => ∃ v, r = .ok (.ret v) ∧ EP X pins σ Q v s') s := by
  have hname : (toString "min" ++ toString ".loop" : String) = "min.loop" := by decide
  rcases hqn with ⟨f, rfl⟩ | ⟨id, rfl⟩
  all_goals
    intro r
    induction r with
    | zero =>
      intro j s H b k ub uk c hr hj I fI fS gS hit rb rk w
      obtain rfl : j = xs.length := by omega
      refine codeAny_builtin PySem.F.entry_min_loop ?_
      rw [Around.under_plainId PySem.F.plain_min_loop _]
      show wpAny _ X.A.in1 (seqItems? (.ref SA) >>= _) _ _ _
      refine wpAny_bind (wpAny_seqItems gS rfl ?_)
      show wpAny _ X.A.in1 (tryCatch (pyNext (.ref IA)) _ >>= _) _ _ _
      refine wpAny_bind (wpAny_tryCatch (SK.done s H IA _ _ hh I (M.at_ _ _ _ _ w) hit fun h' tk' hk' => ?_))
      have gS' := hk' SA _ (by simpa using hSI) gS
      have k2 : ∀ b o, b ∉ [IA, SA] → s.heap.get? b = some o → (h'.update SA (Obj.mapSeq fun _ => (#[] : Array Value))).get? b = some o := fun b o hb e =>
        (Heap.get?_update_other _ _ (fun z => hb (by rw [z]; simp))).trans (hk' b o (fun z => hb (by rw [List.mem_singleton.mp z]; simp)) e)
      show wpAny _ X.A.in1 (updateSeq SA (fun _ => #[]) >>= _) _ _ _
      refine wpAny_bind ?_
      refine wpAny_updateSeq gS' rfl (wpAny_bind (wpAny_letGo (wpAny_pure ?_)))
      exact ⟨_, rfl, b, H, inv_raw (s := s) (t' := tk') I (ch := [IA, SA]) (fun b hb => by
        rcases List.mem_cons.mp hb with z | z
        · rw [z]; exact fI
        · rw [List.mem_singleton.mp z]; exact fS) k2, rb, M.done _ _ _ w⟩
    | succ r ih =>
      intro j s H b k ub uk c hr hj I fI fS gS hit rb rk w
      have hlt' : j < xs.length := by omega
      refine codeAny_builtin PySem.F.entry_min_loop ?_
      rw [Around.under_plainId PySem.F.plain_min_loop _]
      show wpAny _ X.A.in1 (seqItems? (.ref SA) >>= _) _ _ _
      refine wpAny_bind (wpAny_seqItems gS rfl ?_)
      show wpAny _ X.A.in1 (tryCatch (pyNext (.ref IA)) _ >>= _) _ _ _
      obtain ⟨x, hx⟩ : ∃ x, xs[j]? = some x := ⟨_, List.getElem?_eq_getElem hlt'⟩
      refine wpAny_bind (wpAny_tryCatch (SK.item s H IA j x _ _ hh I (M.at_ _ _ _ _ w) hit hx fun v' h' tk' rx hst' hk' => ?_))
      obtain ⟨oI', hoI', nI, hoc⟩ := SK.obj hst'
      have gS1 := hk' SA _ (by simpa using hSI) gS
      have I1 : Inv X pins σ H { s with heap := h', toks := tk' } := inv_raw I (ch := [IA]) (fun b hb => by rw [List.mem_singleton.mp hb]; exact fI) fun b o hb e => hk' b o hb e
      have I2 := Inv.pin1 I1 fI hoI' nI
      have I3 := Inv.pin1 I2 (FpOk.add fS hSI.symm) gS1 (fun v z => by cases z)
      show wpAny _ X.A.in1 (tryCatch (holding [v'] (call _ [v'])) _ >>= _) _ _ _
      refine wpAny_bind (wpAny_tryCatch (wpAny_holding (wpAny_mono (hq _ _ _ x v' _ (fun p hp => List.mem_cons_of_mem _ (List.mem_cons_of_mem _ (hpl p hp))) I3 rx (M.step j b k H x w hx)) (fun u s2 ⟨k', H2, I4, rk', q2⟩ => ?_) fun _ _ hF => hF.elim)))
      show wpAny _ X.A.in1 (tryCatch (holding [v', u] (richCompare .Lt u uk >>= _)) _ >>= _) _ _ _
      refine wpAny_bind (wpAny_tryCatch (wpAny_holding (wpAny_bind (wpAny_mono (hlt _ _ _ k' k u uk _ I4 rk' rk q2) (fun bv s3 ⟨rv', H3, I5, rr, q3⟩ => ?_) fun _ _ hF => hF.elim))))
      obtain ⟨cb, rfl, w'⟩ := q3
      obtain rfl : bv = .bool cb := rr
      refine wpAny_bind (wpAny_holding (wpAny_truthy_bool ?_))
      refine wpAny_bind (wpAny_letGo (wpAny_pure ?_))
      have pS := I5.pin (SA, seqObj "list" #[ub, uk] c) (List.mem_append_right _ List.mem_cons_self)
      have pI := I5.pin (IA, oI') (List.mem_append_right _ (List.mem_cons_of_mem _ List.mem_cons_self))
      have I6 := Inv.unpin1 (Inv.unpin1 I5)
      have fI6 : FpOk X pins H3 IA := FpOk.heap fI pI.2.1
      have fS6 : FpOk X pins H3 SA := FpOk.heap fS pS.2.1
      have hit3 : It s3.heap IA (j + 1) := hoc _ pI.1
      cases cb with
      | true =>
        obtain ⟨c2, hc2⟩ : ∃ c2, (s3.heap.update SA (Obj.mapSeq fun _ => #[v', u])).get? SA = some (seqObj "list" #[v', u] c2) := ⟨_, get?_update_seq pS.1 fun _ => #[v', u]⟩
        simp only [if_true] at w' ⊢
        have k3 : ∀ b o, b ∉ [SA] → s3.heap.get? b = some o → (s3.heap.update SA (Obj.mapSeq fun _ => #[v', u])).get? b = some o := fun b o hb e =>
          (Heap.get?_update_other _ _ (fun z => hb (by rw [z]; simp))).trans e
        refine wpAny_bind ?_
        refine wpAny_updateSeq pS.1 rfl (wpAny_bind (wpAny_letGo ?_))
        rw [hname]
        refine wpAny_pure ⟨plainId_quiet PySem.F.plain_min_loop _, ih (j + 1) _ H3 x k' v' u c2 (by omega) hlt' (inv_raw I6 (ch := [SA]) (fun b hb => by rw [List.mem_singleton.mp hb]; exact fS6) k3) fI6 fS6 hc2 (hoc _ (k3 _ _ (fun z => hSI (List.mem_singleton.mp z).symm) pI.1)) rx rk' w'⟩
      | false =>
        simp only [Bool.false_eq_true, if_false] at w' ⊢
        refine wpAny_bind (wpAny_letGo ?_)
        rw [hname]
        exact wpAny_pure ⟨plainId_quiet PySem.F.plain_min_loop _, ih (j + 1) _ H3 b k ub uk c (by omega) hlt' I6 fI6 fS6 pS.1 hit3 rb rk w'⟩
theorem min_run {E : Value → Shared → Prop} {pl : List (Addr × Obj)} {q : Value} {kt : V → Hp → VK → Prop} {lt : R2} {l : Addr} {xs : List V} {Sq : Hp → Prop} {It : Heap → Addr → Nat → Prop} {Q : VK} {W : Nat → V → V → Hp → Prop} {x0 : V} (SK : SeqK X pins σ l xs Sq It) (hh : X.A.handled = none) (hq : KeyR X pl q σ kt) (hlt : LtR X σ lt) (M : MinW kt lt Sq xs Q W) (hpl : ∀ p ∈ pl, p ∈ pins)
    (hqn : (∃ f, q = .ref f) ∨ ∃ id, q = .builtin id) (I : Inv X pins σ H s) (hs : Sq H) (hx : xs[0]? = some x0) (first : kt x0 H fun k H1 => W 1 x0 k H1) :
    wpAny (model X.prog X.w) X.A (call (.builtin "min") [.ref l] [(Str.ofString "key", q)]) (EP X pins σ Q) E s := by
  have hname : (toString "min" ++ toString ".loop" : String) = "min.loop" := by decide
  have hne : 0 < xs.length := (List.getElem?_eq_some_iff.mp hx).1
  refine kmk_tree PySem.F.kind_min PySem.F.plain_min PySem.F.entry_min (kmk_min_key _ _) ?_
  rcases hqn with ⟨f, rfl⟩ | ⟨id, rfl⟩
  all_goals
    show wpAny _ X.A.in1 (Builtin.Builtins.bindParams "min" ["key", "default"] 0 ⟨[], [(Str.ofString "key", _)]⟩ >>= _) _ _ s
    refine wpAny_bind (wpAny_of_eq (show Builtin.Builtins.bindParams "min" ["key", "default"] 0 ⟨[], [(Str.ofString "key", _)]⟩ = pure [some _, none] from rfl) ?_)
    refine wpAny_bind (wpAny_pure ?_)
    refine wpAny_bind (SK.start s H _ _ I hs fun oi hit0 => ?_)
    refine wpAny_bind (wpAny_newList ?_ (Nat.zero_le _))
    rw [hname]
    have hS : (s.heap.push oi).objs.size = s.heap.objs.size + 1 := size_push' ..
    have hSI : (s.heap.push oi).objs.size ≠ s.heap.objs.size := by rw [hS]; exact Nat.ne_of_gt (Nat.lt_succ_self _)
    refine wpAny_pure ⟨plainId_quiet PySem.F.plain_min_loop _, ?_⟩
    obtain ⟨o0, ho0, _, hk0⟩ := SK.obj hit0
    have hit : It ((s.heap.push oi).push (seqObj "list" #[] 0)) s.heap.objs.size 0 := hk0 _ (Heap.get?_push_of_some _ ho0)
    have gS : ((s.heap.push oi).push (seqObj "list" #[] 0)).get? (s.heap.push oi).objs.size = some (seqObj "list" #[] 0) := Heap.get?_push_size _ rfl
    have I0 : Inv X pins σ H { s with heap := (s.heap.push oi).push (seqObj "list" #[] 0), toks := s.toks } := I.kept (t' := s.toks) fun b o e => Heap.get?_push_of_some _ (Heap.get?_push_of_some _ e)
    have fI : FpOk X pins H s.heap.objs.size := I.fpOk (Nat.le_refl _) (I.hok.fresh (Nat.le_refl _))
    have fS : FpOk X pins H (s.heap.push oi).objs.size := I.fpOk (by rw [hS]; omega) (I.hok.fresh (by rw [hS]; omega))
    clear ho0 hk0 hit0 hS
    generalize (s.heap.push oi).objs.size = SA at hSI gS fS ⊢
    have I00 : Inv X pins σ H { s with heap := (s.heap.push oi).push (seqObj "list" #[] 0) } := I0
    generalize (s.heap.push oi).push (seqObj "list" #[] 0) = h0 at hit gS I00 ⊢
    clear I0
    generalize s.heap.objs.size = IA at hSI hit fI ⊢
    refine codeAny_builtin PySem.F.entry_min_loop ?_
    rw [Around.under_plainId PySem.F.plain_min_loop _]
    show wpAny _ X.A.in1 (seqItems? (.ref SA) >>= _) _ _ _
    refine wpAny_bind (wpAny_seqItems gS rfl ?_)
    show wpAny _ X.A.in1 (tryCatch (pyNext (.ref IA)) _ >>= _) _ _ _
    refine wpAny_bind (wpAny_tryCatch (SK.item { s with heap := h0 } H IA 0 x0 _ _ hh I00 hs hit hx fun v' h' tk' rx hst' hk' => ?_))
    obtain ⟨oI', hoI', nI, hoc⟩ := SK.obj hst'
    have gS1 := hk' SA _ (by simpa using hSI) gS
    have I1 : Inv X pins σ H { s with heap := h', toks := tk' } := inv_raw (s := { s with heap := h0 }) (t' := tk') I00 (ch := [IA]) (fun b hb => by rw [List.mem_singleton.mp hb]; exact fI) fun b o hb e => hk' b o hb e
    have I2 := Inv.pin1 I1 fI hoI' nI
    have I3 := Inv.pin1 I2 (FpOk.add fS hSI.symm) gS1 (fun v z => by cases z)
    show wpAny _ X.A.in1 (tryCatch (holding [v'] (call _ [v'])) _ >>= _) _ _ _
    refine wpAny_bind (wpAny_tryCatch (wpAny_holding (wpAny_mono (hq _ _ _ x0 v' _ (fun p hp => List.mem_cons_of_mem _ (List.mem_cons_of_mem _ (hpl p hp))) I3 rx first) (fun u s2 ⟨k', H2, I4, rk', w1⟩ => ?_) fun _ _ hF => hF.elim)))
    have pS := I4.pin (SA, seqObj "list" #[] 0) (List.mem_append_right _ List.mem_cons_self)
    have pI := I4.pin (IA, oI') (List.mem_append_right _ (List.mem_cons_of_mem _ List.mem_cons_self))
    have I6 := Inv.unpin1 (Inv.unpin1 I4)
    have fI6 : FpOk X pins H2 IA := FpOk.heap fI pI.2.1
    have fS6 : FpOk X pins H2 SA := FpOk.heap fS pS.2.1
    obtain ⟨c2, hc2⟩ : ∃ c2, (s2.heap.update SA (Obj.mapSeq fun _ => #[v', u])).get? SA = some (seqObj "list" #[v', u] c2) := ⟨_, get?_update_seq pS.1 fun _ => #[v', u]⟩
    have k3 : ∀ b o, b ∉ [SA] → s2.heap.get? b = some o → (s2.heap.update SA (Obj.mapSeq fun _ => #[v', u])).get? b = some o := fun b o hb e =>
      (Heap.get?_update_other _ _ (fun z => hb (by rw [z]; simp))).trans e
    show wpAny _ X.A.in1 (updateSeq SA (fun _ => #[v', u]) >>= _) _ _ _
    refine wpAny_bind ?_
    refine wpAny_updateSeq pS.1 rfl ?_
    rw [hname]
    refine wpAny_pure ⟨plainId_quiet PySem.F.plain_min_loop _, codeAny_mono (min_loop SK hh hq hlt M hpl hSI (by first | exact .inl ⟨_, rfl⟩ | exact .inr ⟨_, rfl⟩) _ 1 _ H2 x0 k' v' u c2 rfl hne (inv_raw I6 (ch := [SA]) (fun b hb => by rw [List.mem_singleton.mp hb]; exact fS6) k3) fI6 fS6 hc2 (hoc _ (k3 _ _ (fun z => hSI (List.mem_singleton.mp z).symm) pI.1)) rx rk' w1) fun r s' ⟨v, e, h⟩ => ?_⟩
    subst e
    exact h
end

/-! ### the lambda: its names, its frame -/
/-- one parameter, no other name of its own: captured ones and globals -/
structure LamOk (N : List Str) (sc scope : Scope) (p : Str) (ix : Nat) : Prop where
  blk : BlkOk N sc scope [(p, ix)]
  co : scope.isCoroutine = false
  gen : scope.isGenerator = false
  cell : ∀ y ∈ scope.names, y.2 ≠ .cell
  par : scope.names.lookup p = some NameKind.local
def lamC (N : List Str) (sc scope : Scope) (p : Str) (ix : Nat) : Bool :=
  blkC N sc scope [(p, ix)] && !scope.isCoroutine && !scope.isGenerator && scope.names.all (fun y => match y.2 with | .cell => false | _ => true) && (match scope.names.lookup p with | some .local => true | _ => false)
theorem lamOk_by {N : List Str} {sc scope : Scope} {p : Str} {ix : Nat} (h : lamC N sc scope p ix = true) : LamOk N sc scope p ix := by
  unfold lamC at h
  simp only [Bool.and_eq_true] at h
  obtain ⟨⟨⟨⟨h1, h2⟩, h3⟩, h4⟩, h5⟩ := h
  refine ⟨blkOk_by h1, by simpa using h2, by simpa using h3, fun y hy e => ?_, ?_⟩
  · have q := List.all_eq_true.mp h4 y hy
    rw [e] at q
    cases q
  · split at h5
    · assumption
    · cases h5
abbrev lamE (X : Cx) (scope : Scope) (L f c' : Addr) : Env := PySem.W.envX (X.env.qual ++ "<lambda>") scope L f (.ref c') (cloFrom X.env.cells scope.names [])
/-- the context of the lambda's body -/
def lamX (X : Cx) (A : Around) (s : Shared) (H : Hp) (scope : Scope) (f c' : Addr) : Cx :=
  { X with
    A := A.deeper (lamE X scope s.heap.objs.size f c')
    s_0 := s
    H_0 := H
    env := lamE X scope s.heap.objs.size f c'
    outer := X.stack
    stack := lamE X scope s.heap.objs.size f c' :: X.stack
    ex := []
    fn := fun _ => false
    calm := true
    pn := []
    xe := fun _ _ => False }
section
variable {X : Cx} {pins : List (Addr × Obj)} {σ : L2.St} {H : Hp} {s : Shared}
theorem lam_in {A : Around} {scope : Scope} {p : Str} {ix : Nat} {f c' : Addr} {v : V} {u : Value} {h₁ : Heap} {tk : Nat} (I : Inv X pins σ H s) (L : LamOk X.N X.env.scope scope p ix) (hN : X.N.Nodup) (hh : A.handled = none) (hfr : A.frames = some X.stack) (r : RelV v u)
    (hns : h₁.Ns s.heap.objs.size fun y => [(p, u)].reverse.lookup y) (kp : ∀ b o, s.heap.get? b = some o → h₁.get? b = some o) :
    Inv (lamX X A s H scope f c') [] (σ.set ix (some v)) H { s with heap := h₁, toks := tk } := by
  have e0 := I.env0
  have hfree : ∀ y ∈ scope.names, y.2 = .free → ∃ c, X.env.cells.lookup y.1 = some c := fun y hy e => by
    rcases L.blk.free y hy e with k | k
    · exact I.ok.has _ (.inl k)
    · exact I.ok.has _ (.inr k)
  have cm : ∀ {y c}, (cloFrom X.env.cells scope.names []).lookup y = some c → X.env.cells.lookup y = some c := fun {y c} e => by
    rcases cloFrom_mem (PySem.mem_of_lookup e) with hm | ⟨h1, h2⟩
    · cases hm
    · obtain ⟨c1, hc⟩ := hfree _ h1 rfl
      have hc : X.env.cells.lookup y = some c1 := hc
      have e2 : c = c1 := by
        rw [h2, hc] <;> rfl
      rw [e2]
      exact hc
  have look : ∀ {y}, scope.names.lookup y = some .free → ∃ c, (cloFrom X.env.cells scope.names []).lookup y = some c := fun {y} hl => by
    have hy : (y, NameKind.free) ∈ scope.names := PySem.mem_of_lookup hl
    exact mem_lookup (cloFrom_has (cells := X.env.cells) (acc := []) hy)
  have cellK : ∀ {c : Addr} {v : Option Value}, s.heap.IsCell c v → h₁.IsCell c v := fun {c v} ⟨o, ho, hd⟩ => ⟨o, kp _ _ ho, hd⟩
  have noA : ∀ b : Addr, b ∉ (lamX X A s H scope f c').ex := fun b z => absurd (show b ∈ ([] : List Addr) from z) (by simp)
  refine ⟨⟨e0.mod, L.blk.kind, rfl, rfl, Nat.le_refl _, fun y z c e1 e2 => I.ok.inj y z c (cm e1) (cm e2), fun y hy => ?_, fun y c z _ => ?_, fun _ => hh, Around.frames_deeper hfr, .inr ⟨rfl, rfl⟩, fun b z => absurd z (noA b), e0.bs, e0.bsz, fun b _ _ => noA b,
      fun b z => absurd z (noA b), e0.funs, e0.frf⟩,
    rfl, e0.bare, Un.kept kp, ⟨_, hns, fun i y w e1 e2 e3 => ?_⟩, fun y c e => ?_, e0.hok.fresh (Nat.le_refl _), fun y c e => ?_, fun q hq => absurd (show q ∈ ([] : List (Addr × Obj)) ++ [] from hq) (by simp), e0.hok.kept kp, (List.length_set ..).trans I.len⟩
  · have hy : scope.names.lookup y = some .cell ∨ scope.names.lookup y = some .free := hy
    rcases hy with hy | hy
    · exact absurd rfl (L.cell _ (PySem.mem_of_lookup hy))
    · exact look hy
  · have z : false = true := z
    cases z
  · have e3 : Vis scope y := e3
    have e1 : X.N[i]? = some y := e1
    have hix : X.N[ix]? = some p := L.blk.ix (p, ix) List.mem_cons_self
    rcases e3 with k | k | k
    · rcases L.blk.own _ (PySem.mem_of_lookup k) (.inl rfl) with z | z
      · have hy : y = p := by simpa using z
        subst hy
        obtain rfl : i = ix := nodup_ix hN e1 hix
        have hl : i < σ.length := by rw [I.len]; exact (List.getElem?_eq_some_iff.mp e1).1
        rw [List.getElem?_set_self hl] at e2
        obtain rfl : v = w := by cases e2; rfl
        exact ⟨u, r, .inl ⟨k, by simp⟩⟩
      · exact absurd (List.mem_of_getElem? e1) z
    · exact absurd rfl (L.cell _ (PySem.mem_of_lookup k))
    · have hne : ix ≠ i := fun z => by
        subst z
        rw [hix] at e1
        cases e1
        rw [L.par] at k
        cases k
      rw [List.getElem?_set_ne hne] at e2
      obtain ⟨m, hn, hl⟩ := I.loc
      have hvis : Vis X.env.scope y := (L.blk.free _ (PySem.mem_of_lookup k) rfl).elim (fun k => .inr (.inl k)) (fun k => .inr (.inr k))
      obtain ⟨w', rw', q⟩ := hl i y w e1 e2 hvis
      obtain ⟨c2, h2⟩ := look k
      refine ⟨w', rw', .inr ⟨.inr k, c2, h2, ?_⟩⟩
      have c1 := cm h2
      rcases q with ⟨k', _⟩ | ⟨_, c3, e', z⟩
      · have k' : X.env.scope.names.lookup y = some .local := k'
        rcases L.blk.free _ (PySem.mem_of_lookup k) rfl with k2 | k2 <;> rw [show X.env.scope.names.lookup y = _ from k2] at k' <;> cases k'
      · rw [c1] at e'
        cases e'
        exact cellK z
  · obtain ⟨w', z⟩ := I.cell y c (cm e)
    exact ⟨w', cellK z⟩
  · exact I.freeC y c (cm e)
/-- the lambda called -/
theorem lam_key {params : Arguments} {body : Expr} {scope : Scope} {p : Str} {ix k : Nat} {f c' : Addr} {pm ctv : Value} {tb : TE} {fo : Obj} (hfo : fo = PySem.W.kla_obj "<lambda>" (X.env.qual ++ "<lambda>") params body scope (cloFrom X.env.cells scope.names []) pm c' ctv)
    (L : LamOk X.N X.env.scope scope p ix) (hN : X.N.Nodup) (hr : Room (k + 2) X.A) 
    (hbind : ∀ u, bindArgs (PySem.W.kla_fn "<lambda>" (X.env.qual ++ "<lambda>") params body scope (cloFrom X.env.cells scope.names []) pm (.ref c') ctv) ⟨[u], []⟩ = pure [(p, u)])
    (hbody : ∀ (s : Shared) (H : Hp), PE (lamX X X.A.in1 s H scope f c') body tb) :
    KeyR X [(f, fo)] (.ref f) σ fun x H Q => H c' = some (LamX.CodeO c' (X.env.qual ++ "<lambda>")) ∧ tb (σ.set ix (some x)) H Q := by
  intro pl s H x u Q hpl I rx ⟨hc, h⟩
  obtain ⟨⟨oc, vs, t, hoc, hdc, hvc⟩, _, _⟩ := I.hok c' _ hc
  have hf := (I.pin (f, fo) (List.mem_append_right _ (hpl _ List.mem_cons_self))).1
  subst hfo
  have hp1 : Around.depth X.A.in1 < recursionLimit := by have := hr.dp; show X.A.depth < _; omega
  have rc : codeAny (model X.prog X.w) X.A.in1 (.call (.ref f) ⟨[u], []⟩) (fun r s' => ∃ w, r = .ok (.ret w) ∧ CE X.stack X.prog X.w H s Q w s') s := by
    refine PySem.W.kla_callFunE hp1 hf rfl L.co L.gen rfl ⟨c', oc, vs, t, rfl, hoc, hdc, hvc⟩ ?_
    rw [hbind]
    refine wpAny_pure (wpAny_newFunctionEnv L.cell (fun y hy => ?_) (fun h₁ hns hsb => ⟨I.nolimit.fresh _ hsb, ?_⟩) L.blk.kind)
    · have hy : y ∈ [(p, u)] := hy
      rw [List.mem_singleton.mp hy]
      exact L.par
    show codeAny _ _ (.expr body (lamE X scope s.heap.objs.size f c')) _ _
    have kp : ∀ b o, s.heap.get? b = some o → h₁.get? b = some o := fun b o e => hsb.extBut b o (Nat.ne_of_lt (Heap.lt_size e)) (Heap.get?_push_of_some _ e)
    have J : Inv (lamX X X.A.in1 s H scope f c') [] (σ.set ix (some x)) H { s with heap := h₁, toks := s.toks + ([(p, u)] : List (Str × Value)).length } := lam_in I L hN hr.hd I.ok.frames rx hns kp
    refine PySem.W.kla_codeExpr (wpAny_mono ((hbody s H).run [] _ _ H Q J h) (fun v s' hq => ?_) fun e s' hq => False.elim hq)
    obtain ⟨w', H', J', rv, q⟩ := hq
    exact ⟨v, rfl, w', H', J'.os, J'.bare, J'.base, J'.hok, rv, q⟩
  refine wpAny_call (codeAny_mono rc fun r s' hq => ?_)
  obtain ⟨w, rfl, hq⟩ := hq
  exact I.after hq
/-- the lambda made: the table tells code objects of its name alone, all else stays -/
theorem lam_made {c P : Addr} {q : Str} {params : Arguments} {body : Expr} {scope : Scope} {pos : Pos} {E Q : Value → Shared → Prop} (I : Inv X pins σ H s) (TB : GxR.TabB X.base X.mg c P) (hcode : X.env.code = .ref c) (hq : X.env.qual ++ "<lambda>" = q)
    (hT : LamX.TabS H P q) (hdef : defaultsOf params X.env = ([], [])) (hfree : ∀ y ∈ scope.names, y.2 = .free → ∃ c, X.env.cells.lookup y.1 = some c)
    (h : ∀ (f c' : Addr) (pm ctv : Value) (H1 : Hp) (s' : Shared), Inv X pins σ H1 s' → (∀ b o, b ≠ P → H b = some o → H1 b = some o) → LamX.TabS H1 P q →
      s'.heap.get? f = some (PySem.W.kla_obj "<lambda>" (X.env.qual ++ "<lambda>") params body scope (cloFrom X.env.cells scope.names []) pm c' ctv) → FpOk X pins H1 f → H1 c' = some (LamX.CodeO c' q) → Q (.ref f) s') :
    wpAny (model X.prog X.w) X.A (eval (.Lambda params body scope pos) X.env) Q E s := by
  subst hq
  obtain ⟨ps, hP, ht, ha⟩ := hT
  refine PySem.W.kla_eval hdef ?_
  have bP : s.heap.BuiltinsAt X.mg P := TB.bm.keeps I.bk
  have hP' : s.heap.get? P = some { cls := .none, data := .fields ps } := I.hok P _ hP
  have old : ∀ (h' : Heap) (fo : Obj) (H' : Hp), s.heap.objs.size ≤ h'.objs.size → H' h'.objs.size = none → FpOk X pins H' h'.objs.size := fun h' fo H' hsz hn => I.fpOk hsz hn
  cases hc : codeAmong pos ps.toList with
  | none =>
    refine PySem.W.kla_makeFunction (mg := X.mg) (c := c) (P := P) (ps := ps) (closure_ok hfree) I.ok.glob (I.mod.glob.keeps I.bk) hcode (TB.code.keeps I.bk) hP' ht hc TB.gP bP fun c' ctv h' tk hx hge hlt hrec htb => ?_
    obtain ⟨c2, oc, vs, t, e2, hoc, hd, hv⟩ := hrec
    cases e2
    have hsz : s.heap.objs.size ≤ h'.objs.size := Nat.le_trans hge (Nat.le_of_lt hlt)
    have nC : H c' = none := I.hok.fresh hge
    have I1 := LamX.inv_table (t' := tk) (more := #[rawInt pos.line, rawInt pos.col, .ref c']) (h' := h'.push (PySem.W.kla_obj "<lambda>" (X.env.qual ++ "<lambda>") params body scope (cloFrom X.env.cells scope.names []) ((X.mg "__name__").getD .none) c' ctv)) I hP
      (fun b o hb e => Heap.get?_push_of_some _ (hx b o hb e)) (Heap.get?_push_of_some _ htb) hge ⟨oc, vs, t, Heap.get?_push_of_some _ hoc, hd, hv⟩
    have kE : ∀ b o, b ≠ P → H b = some o → upd (upd H P (.tbl (ps ++ #[rawInt pos.line, rawInt pos.col, .ref c']))) c' (LamX.CodeO c' (X.env.qual ++ "<lambda>")) b = some o := fun b o hb e => by
      rw [upd_ne (ne_of_none e nC), upd_ne hb]
      exact e
    have eL : (ps ++ #[rawInt pos.line, rawInt pos.col, .ref c']).toList = ps.toList ++ [rawInt pos.line, rawInt pos.col, .ref c'] := by simp
    refine h h'.objs.size c' ((X.mg "__name__").getD .none) ctv _ _ I1 kE ?_ (Heap.get?_push_size _ rfl) (old h' (PySem.W.kla_obj "" "" params body scope [] .none c' .none) _ hsz ?_) upd_same
    · refine ⟨_, by rw [upd_ne (ne_of_none hP nC), upd_same], by rw [eL]; exact PySem.TriplesOk_snoc _ _ _ _ ht, fun p' cv hcv => ?_⟩
      rw [eL] at hcv
      rcases LamX.among_app _ ht hcv with z | z
      · obtain ⟨c0, e1, e2⟩ := ha p' cv z
        exact ⟨c0, e1, kE _ _ (fun z => by rw [z, hP] at e2; exact LamX.codeO_ne ps (Option.some.inj e2).symm) e2⟩
      · exact ⟨c', z, upd_same⟩
    · have n1 : h'.objs.size ≠ c' := Nat.ne_of_gt hlt
      have n2 : h'.objs.size ≠ P := Nat.ne_of_gt (Nat.lt_of_lt_of_le (Heap.lt_size hP') hsz)
      rw [upd_ne n1, upd_ne n2]
      exact I.hok.fresh hsz
  | some cv =>
    obtain ⟨c', e, hco⟩ := ha pos cv hc
    subst e
    refine PySem.W.kla_makeFunctionHit (mg := X.mg) (c := c) (P := P) (ps := ps) (closure_ok hfree) I.ok.glob (I.mod.glob.keeps I.bk) hcode (TB.code.keeps I.bk) hP' ht hc bP fun ctv h' tk hx hsz => ?_
    have I1 : Inv X pins σ H { s with heap := h'.push (PySem.W.kla_obj "<lambda>" (X.env.qual ++ "<lambda>") params body scope (cloFrom X.env.cells scope.names []) ((X.mg "__name__").getD .none) c' ctv), toks := tk } := I.kept fun b o e => Heap.get?_push_of_some _ (hx b o e)
    exact h h'.objs.size c' ((X.mg "__name__").getD .none) ctv H _ I1 (fun b o _ e => e) ⟨ps, hP, ht, ha⟩ (Heap.get?_push_size _ rfl) (old h' (PySem.W.kla_obj "" "" params body scope [] .none c' .none) _ hsz (I.hok.fresh hsz)) hco

theorem sqL_keep {K : PySem.W.Frag} {H H' : Hp} {P l : Addr} {q : Str} {xs : List V} (T : LamX.TabS H P q) (k : ∀ b o, b ≠ P → H b = some o → H' b = some o) (h : SqL K H l xs) : SqL K H' l xs := by
  obtain ⟨ps, hP, _⟩ := T
  have nn : ∀ o, H l = some o → (∀ ps, o ≠ .tbl ps) → l ≠ P := fun o e hn z => by
    rw [z, hP] at e
    exact hn ps (Option.some.inj e).symm
  rcases h with (h | ⟨o, h⟩) | h
  · exact .inl (.inl (k _ _ (nn _ h fun _ z => by cases z) h))
  · exact .inl (.inr ⟨o, k _ _ (nn _ h fun _ z => by cases z) h⟩)
  · exact .inr h
theorem sqT_keep {K : PySem.W.Frag} {H H' : Hp} {P l : Addr} {q : Str} {xs : List V} (T : LamX.TabS H P q) (k : ∀ b o, b ≠ P → H b = some o → H' b = some o) (h : SqT K H l xs) : SqT K H' l xs := by
  obtain ⟨ps, hP, _⟩ := T
  have nn : ∀ o, H l = some o → (∀ ps, o ≠ .tbl ps) → l ≠ P := fun o e hn z => by
    rw [z, hP] at e
    exact hn ps (Option.some.inj e).symm
  rcases h with (h | ⟨o, h⟩) | h
  · exact .inl (.inl (k _ _ (nn _ h fun _ z => by cases z) h))
  · exact .inl (.inr ⟨o, k _ _ (nn _ h fun _ z => by cases z) h⟩)
  · exact .inr h
end
/-! ### in a built-in -/
abbrev in1X (X : Cx) : Cx := { X with A := X.A.in1, xe := fun _ _ => False }
section
variable {X : Cx} {pins : List (Addr × Obj)} {σ : L2.St} {H : Hp} {s : Shared}
theorem inv_in1 (I : Inv X pins σ H s) : Inv (in1X X) pins σ H s :=
  ⟨⟨I.ok.mod, I.ok.kind, I.ok.glob, I.ok.blt, I.ok.above, I.ok.inj, I.ok.has, I.ok.cab, I.ok.hd, I.ok.frames, I.ok.stk, I.ok.exf, I.ok.bs, I.ok.bsz, I.ok.noex, I.ok.exfs, I.ok.funs, I.ok.frf⟩, I.os, I.bare, I.base, I.loc, I.cell, I.free, I.freeC, I.pin, I.hok, I.len⟩
theorem of_in1 (I : Inv (in1X X) pins σ H s) : Inv X pins σ H s :=
  ⟨⟨I.ok.mod, I.ok.kind, I.ok.glob, I.ok.blt, I.ok.above, I.ok.inj, I.ok.has, I.ok.cab, I.ok.hd, I.ok.frames, I.ok.stk, I.ok.exf, I.ok.bs, I.ok.bsz, I.ok.noex, I.ok.exfs, I.ok.funs, I.ok.frf⟩, I.os, I.bare, I.base, I.loc, I.cell, I.free, I.freeC, I.pin, I.hok, I.len⟩
theorem ltR_of {lt : R2} (h : OpR (in1X X) (compareOp .Lt) lt) : ∀ σ, LtR X σ lt := fun σ pins s H x y u v Q I rx ry q =>
  wpAny_mono (h pins s σ H x y u v Q (inv_in1 I) rx ry q) (fun w s' ⟨z, H', I', r, q'⟩ => ⟨z, H', of_in1 I', r, q'⟩) fun _ _ z => z
theorem keyR_of {q : Value} {r : List V → Hp → VK → Prop} (h : CallR (in1X X) q r) : ∀ σ, KeyR X [] q σ (fun x H Q => r [x] H Q) := fun σ pins s H x u Q _ I rx q' =>
  wpAny_mono (h pins s σ H [x] [u] Q (inv_in1 I) (.cons rx .nil) q') (fun w s' ⟨z, H', I', r, q'⟩ => ⟨z, H', of_in1 I', r, q'⟩) fun _ _ z => z

/-! ### min(xs, key=..) -/
/-- at_: what a walk needs of the heap at each turn -/
def rMinK (Sq : Hp → Addr → List V → Prop) (kt : V → Hp → VK → Prop) (lt : R2) (at_ : Hp → Prop) (l : Addr) (xs : List V) (H : Hp) (Q : VK) : Prop :=
  ∃ (x0 : V) (W : Nat → V → V → Hp → Prop), xs[0]? = some x0 ∧ kt x0 H (fun k H1 => W 1 x0 k H1) ∧ (∀ j b k H, W j b k H → Sq H l xs ∧ at_ H) ∧
    (∀ j b k H x, W j b k H → xs[j]? = some x → kt x H fun k' H1 => lt k' k H1 fun r H2 => ∃ c, r = .bl c ∧ W (j + 1) (if c then x else b) (if c then k' else k) H2) ∧ ∀ b k H, W xs.length b k H → Q b H
def tMinK (Sq : Hp → Addr → List V → Prop) (P : Addr) (q : Str) (ix : Nat) (ta tb : TE) (lt : R2) : TE := fun σ H Q => tCons ta tNil σ H fun vs H1 => ∃ (l : Addr) (xs : List V), vs = [.ref l] ∧ Sq H1 l xs ∧ LamX.TabS H1 P q ∧
  ∀ (c' : Addr) (H2 : Hp), (∀ b o, b ≠ P → H1 b = some o → H2 b = some o) → LamX.TabS H2 P q → H2 c' = some (LamX.CodeO c' q) →
    rMinK Sq (fun x H Q => tb (σ.set ix (some x)) H Q) lt (fun H => H c' = some (LamX.CodeO c' q)) l xs H2 Q
theorem pe_minK {Sq : Hp → Addr → List V → Prop} {It : Addr → Heap → Addr → Nat → Prop} {c P : Addr} {q : Str} {params : Arguments} {body e : Expr} {scope : Scope} {x : Str} {ix k : Nat} {lpos kpos p1 pos : Pos} {ta tb : TE} {lt : R2} (SK : ∀ (pins : List (Addr × Obj)) (σ : L2.St) (l : Addr) (xs : List V), SeqK X pins σ l xs (fun H => Sq H l xs) (It l))
    (kS : ∀ {H H' : Hp} {l : Addr} {xs : List V}, LamX.TabS H P q → (∀ b o, b ≠ P → H b = some o → H' b = some o) → Sq H l xs → Sq H' l xs)
    (hr : Room (k + 2) X.A) (hgl : Gl X "min") (hm : X.mg "min" = none) (TB : GxR.TabB X.base X.mg c P) (hcode : X.env.code = .ref c) (hq : X.env.qual ++ "<lambda>" = q) (L : LamOk X.N X.env.scope scope x ix) (hN : X.N.Nodup)
    (hlt : ∀ σ, LtR X σ lt) (ha : PA X [e] (tCons ta tNil)) (hbody : ∀ (s : Shared) (H : Hp) (f c' : Addr), PE (lamX X X.A.in1 s H scope f c') body tb)
    (hdef : defaultsOf params X.env = ([], []) := by rfl)
    (hbind : ∀ (qn : Str) (cl : List (Str × Addr)) (pm cv ctv u : Value), bindArgs (PySem.W.kla_fn "<lambda>" qn params body scope cl pm cv ctv) ⟨[u], []⟩ = pure [(x, u)] := by intros; rfl)
    (he : backTo pos (starEach [e] X.env) = (false, eval e X.env) :: backTo pos (starEach [] X.env) := by rfl) (hpl : (backTo pos (starEach [e] X.env)).any (·.1) = false := by rfl) :
    PE X (.Call (.Name "min" p1) [e] [⟨some (Str.ofString "key"), .Lambda params body scope lpos, kpos⟩] pos) (tMinK Sq P q ix ta tb lt) := by
  have hfree : ∀ {pins : List (Addr × Obj)} {σ : L2.St} {H : Hp} {s : Shared}, Inv X pins σ H s → ∀ y ∈ scope.names, y.2 = .free → ∃ c, X.env.cells.lookup y.1 = some c := fun I y hy e => by
    rcases L.blk.free y hy e with k | k
    · exact I.ok.has _ (.inl k)
    · exact I.ok.has _ (.inr k)
  refine ⟨fun pins s σ H Q I h => ?_⟩
  refine wpAny_Call_Name_kw (ld_blt I hgl hm (show bootBuiltins "min" = some (.builtin "min") by decide +kernel) ?_)
  refine PyProof.Rows.callWith_kw (thn (ha.run pos pins s σ H _ I h) fun us s1 ⟨vs, H1, I1, r1, q1⟩ => ?_) he hpl
  obtain ⟨l, xs, rfl, hs, hT, q2⟩ := q1
  obtain rfl := Vals.ref1 r1
  show wpAny _ _ (evalAll [(do let v ← eval (.Lambda params body scope lpos) X.env; standAt pos; pure v)]) _ _ s1
  refine wpAny_evalAll_cons (wpAny_bind (lam_made I1 TB hcode hq hT hdef (hfree I1) fun f c' pm ctv H2 s2 I2 k2 T2 hf ff hc => ?_))
  refine wpAny_bind (wpAny_standAt (wpAny_pure (wpAny_evalAll_nil ?_)))
  obtain ⟨x0, W, hx0, first, wat, step, fin⟩ := q2 c' H2 k2 T2 hc
  have I3 := Inv.pin1 I2 ff hf (fun v z => by cases z)
  have hk := lam_key (σ := σ) (k := k) (ix := ix) (tb := tb) (p := x) (f := f) (c' := c') (params := params) (body := body) (pm := pm) (ctv := ctv) rfl L hN hr (fun u => hbind _ _ _ _ _ u) (fun s H => hbody s H f c')
  subst hq
  refine wpAny_mono (min_run (W := fun j b k H => W j b k H) (E := X.xe) (pins := (f, PySem.W.kla_obj "<lambda>" (X.env.qual ++ "<lambda>") params body scope (cloFrom X.env.cells scope.names []) pm c' ctv) :: pins) (SK _ σ l xs) hr.hd hk (hlt σ) ⟨fun j b k H w => (wat j b k H w).1, fun j b k H x w hx => ⟨(wat j b k H w).2, step j b k H x w hx⟩, fin⟩ (fun p hp => by rw [List.mem_singleton.mp hp]; exact List.mem_cons_self) (.inl ⟨f, rfl⟩) I3 (kS hT k2 hs) hx0 ⟨hc, first⟩) (fun u s' ⟨v, H', I', rv, q'⟩ => ⟨v, H', Inv.unpin1 I', rv, q'⟩) fun _ _ z => z
/-- min(xs, key=f), f a built-in's name -/
def tMinB (Sq : Hp → Addr → List V → Prop) (ta : TE) (r : List V → Hp → VK → Prop) (lt : R2) : TE := fun σ H Q => tCons ta tNil σ H fun vs H1 => ∃ (l : Addr) (xs : List V), vs = [.ref l] ∧ Sq H1 l xs ∧ rMinK Sq (fun x H Q => r [x] H Q) lt (fun _ => True) l xs H1 Q
theorem pe_minB {Sq : Hp → Addr → List V → Prop} {It : Addr → Heap → Addr → Nat → Prop} {e : Expr} {id : String} {fn : Str} {kpos p1 p2 pos : Pos} {ta : TE} {r : List V → Hp → VK → Prop} {lt : R2} (SK : ∀ (pins : List (Addr × Obj)) (σ : L2.St) (l : Addr) (xs : List V), SeqK X pins σ l xs (fun H => Sq H l xs) (It l))
    (hh : X.A.handled = none) (hgl : Gl X "min") (hm : X.mg "min" = none) (hgf : Gl X fn) (hmf : X.mg fn = none) (hvf : bootBuiltins fn = some (.builtin id)) (hc : CallR (in1X X) (.builtin id) r) (hlt : ∀ σ, LtR X σ lt) (ha : PA X [e] (tCons ta tNil)) (hn : fn ≠ "__name__" := by decide) (hdb : (fn == ("__debug__" : Str)) = false := by decide)
    (he : backTo pos (starEach [e] X.env) = (false, eval e X.env) :: backTo pos (starEach [] X.env) := by rfl) (hpl : (backTo pos (starEach [e] X.env)).any (·.1) = false := by rfl) :
    PE X (.Call (.Name "min" p1) [e] [⟨some (Str.ofString "key"), .Name fn p2, kpos⟩] pos) (tMinB Sq ta r lt) := by
  refine ⟨fun pins s σ H Q I h => ?_⟩
  refine wpAny_Call_Name_kw (ld_blt I hgl hm (show bootBuiltins "min" = some (.builtin "min") by decide +kernel) ?_)
  refine PyProof.Rows.callWith_kw (thn (ha.run pos pins s σ H _ I h) fun us s1 ⟨vs, H1, I1, r1, q1⟩ => ?_) he hpl
  obtain ⟨l, xs, rfl, hs, x0, W, hx0, first, wat, step, fin⟩ := q1
  obtain rfl := Vals.ref1 r1
  show wpAny _ _ (evalAll [(do let v ← eval (.Name fn p2) X.env; standAt pos; pure v)]) _ _ s1
  refine wpAny_evalAll_cons (wpAny_bind ?_)
  refine ld_blt I1 hgf hmf hvf ?_ hn hdb
  refine wpAny_bind (wpAny_standAt (wpAny_pure (wpAny_evalAll_nil ?_)))
  exact min_run (W := fun j b k H => W j b k H) (E := X.xe) (pl := []) (SK _ σ l xs) hh (keyR_of hc σ) (hlt σ) ⟨fun j b k H w => (wat j b k H w).1, fun j b k H x w hx => step j b k H x w hx, fin⟩ (fun p hp => by cases hp) (.inr ⟨id, rfl⟩) I1 hs hx0 first
theorem Room.lam {k : Nat} {X : Cx} (r : Room (k + 1) X.A) {s : Shared} {H : Hp} {scope : Scope} {f c' : Addr} : Room k (lamX X X.A.in1 s H scope f c').A :=
  ⟨r.hd, by have := r.dp; show X.A.depth + 1 + 3 * k + 5 < _; omega, by have := r.un; show X.A.units + 1 + 3 + 16 * k + 200 < _; omega⟩
theorem Room.u4 {k : Nat} {X : Cx} (r : Room k X.A) : (in1X X).A.units + 4 < cLine := by have := r.un; show X.A.units + 1 + 4 < _; omega
/-- min of a tuple by a lambda -/
theorem pe_minKT {K : PySem.W.Frag} {c P : Addr} {q : Str} {params : Arguments} {body e : Expr} {scope : Scope} {x : Str} {ix k : Nat} {lpos kpos p1 pos : Pos} {ta tb : TE} {lt : R2} (hK : X.K = K)
    (hr : Room (k + 2) X.A) (hgl : Gl X "min") (hm : X.mg "min" = none) (TB : GxR.TabB X.base X.mg c P) (hcode : X.env.code = .ref c) (hq : X.env.qual ++ "<lambda>" = q) (L : LamOk X.N X.env.scope scope x ix) (hN : X.N.Nodup)
    (hlt : ∀ σ, LtR X σ lt) (ha : PA X [e] (tCons ta tNil)) (hbody : ∀ (s : Shared) (H : Hp) (f c' : Addr), PE (lamX X X.A.in1 s H scope f c') body tb)
    (hdef : defaultsOf params X.env = ([], []) := by rfl)
    (hbind : ∀ (qn : Str) (cl : List (Str × Addr)) (pm cv ctv u : Value), bindArgs (PySem.W.kla_fn "<lambda>" qn params body scope cl pm cv ctv) ⟨[u], []⟩ = pure [(x, u)] := by intros; rfl)
    (he : backTo pos (starEach [e] X.env) = (false, eval e X.env) :: backTo pos (starEach [] X.env) := by rfl) (hpl : (backTo pos (starEach [e] X.env)).any (·.1) = false := by rfl) :
    PE X (.Call (.Name "min" p1) [e] [⟨some (Str.ofString "key"), .Lambda params body scope lpos, kpos⟩] pos) (tMinK (SqT K) P q ix ta tb lt) := by
  subst hK
  exact pe_minK (It := fun l h a i => h.IsTupleIter a l i) (fun _ _ _ _ => seqT) (fun T k h => sqT_keep T k h) hr hgl hm TB hcode hq L hN hlt ha hbody hdef hbind he hpl
/-- min of a list by a built-in -/
theorem pe_minBL {K : PySem.W.Frag} {e : Expr} {id : String} {fn : Str} {kpos p1 p2 pos : Pos} {ta : TE} {r : List V → Hp → VK → Prop} {lt : R2} (hK : X.K = K)
    (hh : X.A.handled = none) (hgl : Gl X "min") (hm : X.mg "min" = none) (hgf : Gl X fn) (hmf : X.mg fn = none) (hvf : bootBuiltins fn = some (.builtin id)) (hc : CallR (in1X X) (.builtin id) r) (hlt : ∀ σ, LtR X σ lt) (ha : PA X [e] (tCons ta tNil)) (hn : fn ≠ "__name__" := by decide) (hdb : (fn == ("__debug__" : Str)) = false := by decide)
    (he : backTo pos (starEach [e] X.env) = (false, eval e X.env) :: backTo pos (starEach [] X.env) := by rfl) (hpl : (backTo pos (starEach [e] X.env)).any (·.1) = false := by rfl) :
    PE X (.Call (.Name "min" p1) [e] [⟨some (Str.ofString "key"), .Name fn p2, kpos⟩] pos) (tMinB (SqL K) ta r lt) := by
  subst hK
  exact pe_minB (It := fun l h a i => h.IsListIter a l i) (fun _ _ _ _ => seqL) hh hgl hm hgf hmf hvf hc hlt ha hn hdb he hpl
end
/-! ### tables of lambdas beside those of generator expressions -/
/-- all but the tables stays; the tables of Ts and the lambda's at P are tables -/
structure AftL (Ts : List Addr) (P : Addr) (q : Str) (H H' : Hp) : Prop where
  kp : Keep (P :: Ts) H H'
  tb : Tabs Ts H'
  tl : LamX.TabS H' P q
section
variable {Ts : List Addr} {P : Addr} {q : Str} {H H1 H2 : Hp}
theorem AftL.trans (a : AftL Ts P q H H1) (b : AftL Ts P q H1 H2) : AftL Ts P q H H2 := ⟨a.kp.trans b.kp, b.tb, b.tl⟩
theorem AftL.refl (t : Tabs Ts H) (l : LamX.TabS H P q) : AftL Ts P q H H := ⟨Keep.refl, t, l⟩
theorem tabS_keep {X : List Addr} (l : LamX.TabS H P q) (k : Keep X H H1) (hP : P ∉ X) (hX : ∀ b ∈ X, (∃ ps, H b = some (.tbl ps)) ∨ H b = none ∨ ∃ xs, H b = some (.lst xs)) : LamX.TabS H1 P q := by
  obtain ⟨ps, h1, h2, h3⟩ := l
  refine ⟨ps, k _ _ h1 hP, h2, fun pos cv hc => ?_⟩
  obtain ⟨c, e1, e2⟩ := h3 pos cv hc
  refine ⟨c, e1, k _ _ e2 fun hc => ?_⟩
  rcases hX c hc with ⟨ps', z⟩ | z | ⟨xs, z⟩
  · rw [e2] at z
    exact LamX.codeO_ne ps' (Option.some.inj z)
  · rw [e2] at z
    cases z
  · rw [e2] at z
    unfold LamX.CodeO at z
    cases z
theorem AftL.of (a : Aft Ts H H1) (t : Tabs Ts H) (l : LamX.TabS H P q) (hP : P ∉ Ts) : AftL Ts P q H H1 :=
  ⟨a.kp.mono fun b hb => List.mem_cons_of_mem _ hb, a.tb, tabS_keep l a.kp hP fun b hb => .inl (by obtain ⟨ps, h, _⟩ := t b hb; exact ⟨ps, h⟩)⟩
theorem AftL.lam (k : ∀ b o, b ≠ P → H b = some o → H1 b = some o) (t : Tabs Ts H) (l : LamX.TabS H1 P q) (hP : P ∉ Ts) : AftL Ts P q H H1 :=
  ⟨fun b o e n => k b o (fun z => n (by rw [z]; exact List.mem_cons_self)) e, fun b hb => by
    obtain ⟨ps, h, r⟩ := t b hb
    exact ⟨ps, k _ _ (fun z => hP (by rw [← z]; exact hb)) h, r⟩, l⟩
theorem AftL.same (s : Same H H1) (t : Tabs Ts H) (l : LamX.TabS H P q) : AftL Ts P q H H1 :=
  ⟨fun b o e _ => s b o e, fun b hb => by
    obtain ⟨ps, h, r⟩ := t b hb
    exact ⟨ps, s _ _ h, r⟩, l.ext fun b o e => s b o e⟩
theorem AftL.at_ (a : AftL Ts P q H H1) (t : Tabs Ts H) (l : LamX.TabS H P q) {b : Addr} {o : HO} (e : H b = some o) (hn : ∀ ps, o ≠ .tbl ps) : H1 b = some o := a.kp b o e fun z => by
  rcases List.mem_cons.mp z with z | z
  · obtain ⟨ps, h, _⟩ := l
    rw [← z, e] at h
    exact hn ps (Option.some.inj h)
  · exact t.nott e hn z
theorem AftL.tup (a : AftL Ts P q H H1) (t : Tabs Ts H) (l : LamX.TabS H P q) {b : Addr} {xs : List V} (e : H b = some (.tup xs)) : H1 b = some (.tup xs) := a.at_ t l e fun _ z => by cases z
theorem AftL.lst (a : AftL Ts P q H H1) (t : Tabs Ts H) (l : LamX.TabS H P q) {b : Addr} {xs : List V} (e : H b = some (.lst xs)) : H1 b = some (.lst xs) := a.at_ t l e fun _ z => by cases z
end
end GX
set_option Elab.async false
set_option linter.all false
set_option maxRecDepth 100000
set_option maxHeartbeats 4000000
/-! `<` of tuples of two ints and a tuple of ints. -/
namespace GX
open PySem PySem.Spec PyProof.Rows L2 PySem.SeqAt
section
variable {A : Around} {s : Shared}
/-- two tuples of ints are equal -/
theorem eqAt_ints {l b : Addr} {its its2 : List Value} {ns ms : List Int} (hl : s.heap.IsTuple l its.toArray) (hb : s.heap.IsTuple b its2.toArray) (hi : IntsAre its ns) (hj : IntsAre its2 ms) (hu : A.units < cLine) : EqAt A s (.ref l) (.ref b) (decide (ns = ms)) := by
  by_cases hlb : l = b
  · subst hlb
    obtain ⟨o, e, _, n, d⟩ := hl
    obtain ⟨o', e', _, n', d'⟩ := hb
    rw [e] at e'
    cases e'
    rw [d] at d'
    obtain ⟨h1, _⟩ : its.toArray = its2.toArray ∧ True := ⟨by injection d', trivial⟩
    have h2 : its = its2 := by simpa using h1
    subst h2
    have : ns = ms := by
      have : ∀ {us : List Value} {xs ys : List Int}, IntsAre us xs → IntsAre us ys → xs = ys := by
        intro us
        induction us with
        | nil => intro xs ys h1 h2; cases h1; cases h2; rfl
        | cons u us ih =>
          intro xs ys h1 h2
          cases h1 with | cons _ _ h1 =>
          cases h2 with | cons _ _ h2 => rw [ih h1 h2]
      exact this hi hj
    rw [decide_eq_true this]
    exact EqAt.same _
  · have h := RcAt.tuples (A := A) (e := fun j => ns.getD j 0 == ms.getD j 0) hl hb hu (fun j h1 h2 => ?_)
    · have l1 := hi.length
      have l2 := hj.length
      have e : ((List.range (min its.toArray.size its2.toArray.size)).all (fun j => ns.getD j 0 == ms.getD j 0) && its.toArray.size == its2.toArray.size) = decide (ns = ms) := by
        rw [List.size_toArray, List.size_toArray, Bool.eq_iff_iff, Bool.and_eq_true, List.all_eq_true, beq_iff_eq, decide_eq_true_iff]
        constructor
        · rintro ⟨h1, h2⟩
          refine List.ext_getElem (by omega) fun i a b => ?_
          have := h1 i (List.mem_range.mpr (by omega))
          rw [beq_iff_eq] at this
          simpa [a, b] using this
        · rintro rfl
          exact ⟨fun j _ => by simp, by omega⟩
      rw [← e]
      exact EqAt.of_refs hlb h
    · have h1' : j < its.length := by simpa using h1
      have h2' : j < its2.length := by simpa using h2
      have l1 := hi.length
      have l2 := hj.length
      obtain ⟨t, ht⟩ := hi.get j (ns.getD j 0) (by rw [List.getD_eq_getElem?_getD, List.getElem?_eq_getElem (by omega : j < ns.length)]; rfl)
      obtain ⟨u, hu2⟩ := hj.get j (ms.getD j 0) (by rw [List.getD_eq_getElem?_getD, List.getElem?_eq_getElem (by omega : j < ms.length)]; rfl)
      have e1 : its.toArray[j] = .int (ns.getD j 0) t := by
        rw [List.getElem_toArray]
        rw [List.getElem?_eq_getElem h1'] at ht
        exact Option.some.inj ht
      have e2 : its2.toArray[j] = .int (ms.getD j 0) u := by
        rw [List.getElem_toArray]
        rw [List.getElem?_eq_getElem h2'] at hu2
        exact Option.some.inj hu2
      rw [e1, e2]
      exact EqAt.int_int _ _ _ _
end
/-- a key: two ints and a tuple of ints, told as one list -/
def KeyAt (K : PySem.W.Frag) (H : Hp) (v : V) (ks : List Int) : Prop := ∃ (a c : Addr) (d l : Int) (ns : List Int), v = .ref a ∧ ks = d :: l :: ns ∧ SqT K H a [.int d, .int l, .ref c] ∧ SqT K H c (ns.map V.int)
theorem sqT_same {K : PySem.W.Frag} {H H' : Hp} {a : Addr} {xs : List V} (s : Same H H') (h : SqT K H a xs) : SqT K H' a xs := by
  rcases h with (h | ⟨o, h⟩) | h
  · exact .inl (.inl (s _ _ h))
  · exact .inl (.inr ⟨o, s _ _ h⟩)
  · exact .inr h
theorem KeyAt.same {K : PySem.W.Frag} {H H' : Hp} {v : V} {ks : List Int} (s : Same H H') (h : KeyAt K H v ks) : KeyAt K H' v ks := by
  obtain ⟨ka, kc, d, l, ns, e1, e2, a1, a2⟩ := h
  exact ⟨ka, kc, d, l, ns, e1, e2, sqT_same s a1, sqT_same s a2⟩
def rLtK3 (K : PySem.W.Frag) : R2 := fun x y H Q => ∃ k1 k2, KeyAt K H x k1 ∧ KeyAt K H y k2 ∧ Q (.bl (HT.lexLt k1 k2)) H
theorem op_ltK3 {X : Cx} {K : PySem.W.Frag} (hu : X.A.units + 4 < cLine) (h : X.K = K := by rfl) : OpR X (compareOp .Lt) (rLtK3 K) := by
  subst h
  intro pins s σ H x y v u Q I rx ry h
  obtain ⟨_, _, ⟨a, c, d, l, ns, rfl, rfl, ha, hc⟩, ⟨a2, c2, d2, l2, ms, rfl, rfl, ha2, hc2⟩, q⟩ := h
  cases rx
  cases ry
  obtain ⟨ia, ra, pa, _⟩ := I.tuple ha
  obtain ⟨ia2, ra2, pa2, _⟩ := I.tuple ha2
  obtain ⟨ic, rc, pc, _⟩ := I.tuple hc
  obtain ⟨ic2, rc2, pc2, _⟩ := I.tuple hc2
  have jc : IntsAre ic ns := intsAre_of rc
  have jc2 : IntsAre ic2 ms := intsAre_of rc2
  obtain ⟨u1, w1, rfl, r1, rw1⟩ : ∃ u w, ia = u :: w ∧ RelV (.int d) u ∧ Vals [.int l, .ref c] w := by cases ra with | cons h1 h2 => exact ⟨_, _, rfl, h1, h2⟩
  obtain ⟨u2, u3, rfl, r2, r3⟩ := vals2 rw1
  obtain ⟨v1, w2, rfl, q1, rw2⟩ : ∃ u w, ia2 = u :: w ∧ RelV (.int d2) u ∧ Vals [.int l2, .ref c2] w := by cases ra2 with | cons h1 h2 => exact ⟨_, _, rfl, h1, h2⟩
  obtain ⟨v2, v3, rfl, q2, q3⟩ := vals2 rw2
  obtain ⟨t1, rfl⟩ := r1
  obtain ⟨t2, rfl⟩ := r2
  cases r3
  obtain ⟨t3, rfl⟩ := q1
  obtain ⟨t4, rfl⟩ := q2
  cases q3
  have hu1 : X.A.in1.units < cLine := by show X.A.units + 1 < _; omega
  have R : Ob.RcOp .Lt X.A s (.ref a) (.ref a2) (HT.lexLt (d :: l :: ns) (d2 :: l2 :: ms)) := by
    have h := Ob.RcOp.tuples_lt (A := X.A) (s := s) (e := fun j => match j with | 0 => decide (d = d2) | 1 => decide (l = l2) | _ => decide (ns = ms)) (r := fun j => match j with | 0 => decide (d < d2) | 1 => decide (l < l2) | _ => HT.lexLt ns ms) pa pa2 (by omega) (fun j h1 h2 => ?_) (fun j h1 h2 he => ?_)
    · have e : Ob.lexAt (fun j => match j with | 0 => decide (d = d2) | 1 => decide (l = l2) | _ => decide (ns = ms)) (fun j => match j with | 0 => decide (d < d2) | 1 => decide (l < l2) | _ => HT.lexLt ns ms) (decide ([Value.int d t1, .int l t2, .ref c].toArray.size < [Value.int d2 t3, .int l2 t4, .ref c2].toArray.size)) 0 (min [Value.int d t1, .int l t2, .ref c].toArray.size [Value.int d2 t3, .int l2 t4, .ref c2].toArray.size) = HT.lexLt (d :: l :: ns) (d2 :: l2 :: ms) := by
        show Ob.lexAt _ _ false 0 3 = _
        rw [Ob.lexAt_succ, Ob.lexAt_succ, Ob.lexAt_succ, Ob.lexAt_zero]
        rw [HT.lexLt_cons, HT.lexLt_cons]
        simp only [decide_eq_true_eq]
        split
        · split
          · split
            · rename_i h3
              subst h3
              have lexSelf : ∀ xs : List Int, HT.lexLt xs xs = false := fun xs => by
                induction xs with
                | nil => rfl
                | cons x xs ih => rw [HT.lexLt_cons, if_pos rfl, ih]
              exact (lexSelf _).symm
            · rfl
          · rfl
        · rfl
      rw [e] at h
      exact h
    · match j, h1, h2 with
      | 0, _, _ => exact (show (d == d2) = decide (d = d2) by rw [Bool.eq_iff_iff]; simp) ▸ EqAt.int_int d t1 d2 t3
      | 1, _, _ => exact (show (l == l2) = decide (l = l2) by rw [Bool.eq_iff_iff]; simp) ▸ EqAt.int_int l t2 l2 t4
      | 2, _, _ => exact eqAt_ints pc pc2 jc jc2 hu1
    · match j, h1, h2 with
      | 0, _, _ => exact Ob.RcOp.lt_int d d2 t1 t3
      | 1, _, _ => exact Ob.RcOp.lt_int l l2 t2 t4
      | 2, _, _ => exact fun prog w E Q h => HT.lt_tupInts pc pc2 (by simpa using jc) (by simpa using jc2) hu1 h
  exact R X.prog X.w _ _ ⟨.bl (HT.lexLt (d :: l :: ns) (d2 :: l2 :: ms)), H, I, rfl, q⟩
end GX
set_option Elab.async false
set_option linter.all false
set_option maxRecDepth 100000
set_option maxHeartbeats 4000000
/-! Layouts as data, and how they stand in the heap. -/
namespace GX
open PySem PySem.Spec PyProof.Rows L2
structure Lay where
  many : Nat
  tabs : List (List Nat × List Nat)
  outs : List Nat
structure tabOk (w : Nat) (t : List Nat × List Nat) : Prop where
  p1 : 1 ≤ t.1.length
  p4 : t.1.length ≤ 4
  lt : ∀ x ∈ t.1, x < w
  rise : t.1.Pairwise (· < ·)
  len : t.2.length = 2 ^ t.1.length
  bit : ∀ x ∈ t.2, x < 2
structure Lay.Ok (l : Lay) : Prop where
  m1 : 1 ≤ l.many
  m8 : l.many ≤ 8
  t16 : l.tabs.length ≤ 16
  ts : ∀ (i : Nat) (t : List Nat × List Nat), l.tabs[i]? = some t → tabOk (l.many + i) t
  o1 : 1 ≤ l.outs.length
  o8 : l.outs.length ≤ 8
  os : ∀ o ∈ l.outs, o < l.many + l.tabs.length
/-- a table in the heap -/
def TabAt (H : Hp) (p : Addr) (t : List Nat × List Nat) : Prop := ∃ a b, H p = some (.tup [.ref a, .ref b]) ∧ H a = some (.tup (t.1.map nV)) ∧ H b = some (.tup (t.2.map nV))
theorem TabAt.mono {H H' : Hp} {p : Addr} {t : List Nat × List Nat} (x : TabAt H p t) (k : ∀ b xs, H b = some (.tup xs) → H' b = some (.tup xs)) : TabAt H' p t := by
  obtain ⟨a, b, h1, h2, h3⟩ := x
  exact ⟨a, b, k _ _ h1, k _ _ h2, k _ _ h3⟩
def TabsAt (H : Hp) (ps : List Addr) (ts : List (List Nat × List Nat)) : Prop := ps.length = ts.length ∧ ∀ (i : Nat) (p : Addr) (t : List Nat × List Nat), ps[i]? = some p → ts[i]? = some t → TabAt H p t
theorem TabsAt.nil (H : Hp) : TabsAt H [] [] := ⟨rfl, fun i p g e _ => by simp at e⟩
theorem TabsAt.mono {H H' : Hp} {ps : List Addr} {ts : List (List Nat × List Nat)} (x : TabsAt H ps ts) (k : ∀ b xs, H b = some (.tup xs) → H' b = some (.tup xs)) : TabsAt H' ps ts := ⟨x.1, fun i p g e1 e2 => (x.2 i p g e1 e2).mono k⟩
theorem TabsAt.push {H : Hp} {ps : List Addr} {ts : List (List Nat × List Nat)} {q : Addr} {y : List Nat × List Nat} (x : TabsAt H ps ts) (h : TabAt H q y) : TabsAt H (ps ++ [q]) (ts ++ [y]) := by
  refine ⟨by rw [List.length_append, List.length_append, x.1]; rfl, fun i r g e1 e2 => ?_⟩
  by_cases hi : i < ps.length
  · rw [List.getElem?_append_left hi] at e1
    rw [List.getElem?_append_left (by rw [← x.1]; exact hi)] at e2
    exact x.2 i r g e1 e2
  · rw [List.getElem?_append_right (by omega)] at e1
    rw [List.getElem?_append_right (by rw [← x.1]; omega)] at e2
    have hz : i - ps.length = 0 := by
      obtain ⟨h1, _⟩ := List.getElem?_eq_some_iff.mp e1
      simp at h1
      omega
    rw [hz] at e1
    rw [← x.1, hz] at e2
    cases e1
    cases e2
    exact h
theorem TabsAt.at_ {H : Hp} {ps : List Addr} {ts : List (List Nat × List Nat)} (x : TabsAt H ps ts) {i : Nat} {v : V} (e : (ps.map V.ref)[i]? = some v) : ∃ q y, v = .ref q ∧ ts[i]? = some y ∧ TabAt H q y := by
  rw [List.getElem?_map] at e
  cases h : ps[i]? with
  | none => rw [h] at e; cases e
  | some q =>
    rw [h] at e
    cases e
    have h2 : i < ts.length := by rw [← x.1]; exact (List.getElem?_eq_some_iff.mp h).1
    exact ⟨q, ts[i], rfl, List.getElem?_eq_getElem h2, x.2 i q _ h (List.getElem?_eq_getElem h2)⟩
structure LayAt (H : Hp) (a : Addr) (l : Lay) (g o : Addr) (ps : List Addr) : Prop where
  top : H a = some (.tup [nV l.many, .ref g, .ref o])
  gt : H g = some (.tup (ps.map V.ref))
  ts : TabsAt H ps l.tabs
  ot : H o = some (.tup (l.outs.map nV))
theorem LayAt.mono {H H' : Hp} {a g o : Addr} {l : Lay} {ps : List Addr} (x : LayAt H a l g o ps) (k : ∀ b xs, H b = some (.tup xs) → H' b = some (.tup xs)) : LayAt H' a l g o ps := ⟨k _ _ x.top, k _ _ x.gt, x.ts.mono k, k _ _ x.ot⟩
/-- the number that the worths of some wires make -/
def idxOf (told : List Nat) : List Nat → Nat
  | [] => 0
  | w :: r => told.getD w 0 + 2 * idxOf told r
theorem idxOf_lt {told : List Nat} (h : ∀ x ∈ told, x < 2) : ∀ ws : List Nat, idxOf told ws < 2 ^ ws.length
  | [] => Nat.one_pos
  | w :: r => by
    have ih := idxOf_lt h r
    have hw : told.getD w 0 < 2 := by
      by_cases e : w < told.length
      · exact h _ (getD_mem e)
      · rw [List.getD_eq_getElem?_getD, List.getElem?_eq_none (by omega)]
        exact Nat.two_pos
    show told.getD w 0 + 2 * idxOf told r < 2 ^ (r.length + 1)
    rw [Nat.pow_succ]
    omega
theorem idxOf_snoc (told : List Nat) (w : Nat) : ∀ ws : List Nat, idxOf told (ws ++ [w]) = idxOf told ws + told.getD w 0 * 2 ^ ws.length
  | [] => by show told.getD w 0 + 2 * 0 = 0 + told.getD w 0 * 1; omega
  | v :: r => by
    show told.getD v 0 + 2 * idxOf told (r ++ [w]) = told.getD v 0 + 2 * idxOf told r + told.getD w 0 * 2 ^ (r.length + 1)
    rw [idxOf_snoc told w r, Nat.pow_succ, Nat.mul_add, ← Nat.mul_assoc (told.getD w 0), Nat.mul_comm _ 2, Nat.add_assoc]
/-- the worths of all wires, table by table -/
def tellL (told : List Nat) (t : List Nat × List Nat) : List Nat := told ++ [t.2.getD (idxOf told t.1) 0]
def toldL (row : List Nat) (ts : List (List Nat × List Nat)) : List Nat := ts.foldl tellL row
theorem tellL_len (told : List Nat) (t : List Nat × List Nat) : (tellL told t).length = told.length + 1 := by unfold tellL; rw [List.length_append]; rfl
theorem toldL_take {row : List Nat} {ts : List (List Nat × List Nat)} {i : Nat} {t : List Nat × List Nat} (h : ts[i]? = some t) : toldL row (ts.take (i + 1)) = tellL (toldL row (ts.take i)) t := by
  unfold toldL
  rw [List.take_add_one, h, Option.toList_some, List.foldl_append]
  rfl
theorem toldL_len (row : List Nat) : ∀ (ts : List (List Nat × List Nat)) , (toldL row ts).length = row.length + ts.length := by
  intro ts
  induction ts generalizing row with
  | nil => rfl
  | cons t r ih =>
    show (toldL (tellL row t) r).length = _
    rw [ih, tellL_len, List.length_cons]
    omega
theorem tellL_bit {told : List Nat} {t : List Nat × List Nat} (h : ∀ x ∈ told, x < 2) (ht : ∀ x ∈ t.2, x < 2) (hl : t.2.length = 2 ^ t.1.length) : ∀ x ∈ tellL told t, x < 2 := fun x hx => by
  rcases List.mem_append.mp hx with hx | hx
  · exact h x hx
  · rw [List.mem_singleton.mp hx]
    exact ht _ (getD_mem (by rw [hl]; exact idxOf_lt h _))
theorem toldL_bit {l : Lay} (ok : l.Ok) {row : List Nat} (h : ∀ x ∈ row, x < 2) : ∀ i, i ≤ l.tabs.length → ∀ x ∈ toldL row (l.tabs.take i), x < 2
  | 0, _ => h
  | i + 1, hi => by
    have e : l.tabs[i]? = some l.tabs[i] := List.getElem?_eq_getElem (by omega)
    rw [toldL_take e]
    have t := ok.ts _ _ e
    exact tellL_bit (toldL_bit ok h i (by omega)) t.bit t.len
def outsL (row : List Nat) (l : Lay) : List Nat := l.outs.map fun o => (toldL row l.tabs).getD o 0
end GX
set_option Elab.async false
set_option linter.all false
set_option maxRecDepth 100000
set_option maxHeartbeats 4000000
/-! Contents at rows. -/
namespace GX
open PySem PySem.Spec PyProof.Rows L2
theorem sumCast : ∀ ms : List Nat, (ms.map fun n : Nat => (n : Int)).sum = ((ms.sum : Nat) : Int)
  | [] => rfl
  | x :: r => by
    rw [List.map_cons, List.sum_cons, List.sum_cons, sumCast r]
    omega
theorem sumSnoc (ms : List Nat) (x : Nat) : (ms ++ [x]).sum = ms.sum + x := by
  rw [List.sum_append]
  show ms.sum + (x + 0) = _
  rfl
theorem idxOf_bit {told : List Nat} (h : ∀ x, told.getD x 0 < 2) : ∀ (ws : List Nat) (j : Nat), j < ws.length → idxOf told ws / 2 ^ j % 2 = told.getD (ws.getD j 0) 0
  | [], j, hj => absurd hj (Nat.not_lt_zero _)
  | w :: r, 0, _ => by
    have := h w
    show (told.getD w 0 + 2 * idxOf told r) / 2 ^ 0 % 2 = told.getD w 0
    rw [Nat.pow_zero, Nat.div_one]
    omega
  | w :: r, j + 1, hj => by
    have := h w
    have ih := idxOf_bit h r j (Nat.lt_of_succ_lt_succ hj)
    show (told.getD w 0 + 2 * idxOf told r) / 2 ^ (j + 1) % 2 = told.getD (r.getD j 0) 0
    rw [← ih, Nat.pow_succ, Nat.mul_comm (2 ^ j) 2, ← Nat.div_div_eq_div_mul, show (told.getD w 0 + 2 * idxOf told r) / 2 = idxOf told r by omega]
theorem evl_bit (n : Net) (ws : List Nat) (r m x : Nat) : (evl n ws r m).getD x 0 < 2 := by
  by_cases h : x < m
  · rw [evl_at n ws r m x h]
    exact ev_lt ws r x
  · rw [List.getD_eq_getElem?_getD, List.getElem?_eq_none (by rw [evl_len]; omega)]
    exact Nat.two_pos
/-- held wires that have the worths of a row: so have all that they tell -/
theorem ev_through {n : Net} (ok : n.Ok) {ws is : List Nat} {r N : Nat} (hin : ∀ x ∈ ws, bitIn ws N x = ev n is r x) (hsmall : ∀ x ∈ is, x < n.many) {x : Nat} (d : Det n ws x) : ev n ws N x = ev n is r x := by
  induction d with
  | held h => rw [ev_in h, hin _ h]
  | @gate x k hm hk _ _ i1 i2 =>
    by_cases e : x ∈ ws
    · rw [ev_in e, hin _ e]
    · rw [ev_gate ok e hm hk, ev_gate ok (fun z => by have := hsmall _ z; omega) hm hk, i1, i2]
theorem ixOf_range {m x : Nat} (h : x < m) : ixOf x (List.range m) = x := by
  have := ixOf_get (List.nodup_range (n := m)) (j := x) (by rw [List.length_range]; exact h)
  rwa [show (List.range m).getD x 0 = x by rw [List.getD_eq_getElem?_getD, List.getElem?_range h]; rfl] at this
theorem det_all {n : Net} (ok : n.Ok) : ∀ b x, x ≤ b → x < n.many + n.gates.length → Det n (List.range n.many) x
  | b, x, hb, hx => by
    by_cases h : x < n.many
    · exact .held (List.mem_range.mpr h)
    · obtain ⟨k, hk⟩ : ∃ k, n.gates[x - n.many]? = some k := ⟨_, List.getElem?_eq_getElem (by omega)⟩
      have h1 := place_lt ok (by omega) hk (.inl rfl)
      have h2 := place_lt ok (by omega) hk (.inr rfl)
      cases b with
      | zero => omega
      | succ b => exact .gate (by omega) hk (det_all ok b _ (by omega) (by omega)) (det_all ok b _ (by omega) (by omega))
termination_by b => b
theorem sep_range {n : Net} (w : Nat) : Sep n w (List.range n.many) := fun y r => by
  have : y ∉ List.range n.many := by
    cases r with
    | here h => exact h
    | step _ _ _ _ _ h => exact h
  refine Classical.not_not.mp fun z => this (List.mem_range.mpr (by omega))
end GX
set_option Elab.async false
set_option linter.all false
set_option maxRecDepth 100000
set_option maxHeartbeats 4000000
/-! Tables without their idle places. -/
namespace GX
open PySem PySem.Spec PyProof.Rows L2
/-- bit j of r goes to place K[j] -/
def spread : List Nat → Nat → Nat
  | [], _ => 0
  | k :: K, r => 2 ^ k * (r % 2) + spread K (r / 2)
/-- bit K[j] of N comes to place j -/
def pick : List Nat → Nat → Nat
  | [], _ => 0
  | k :: K, N => N / 2 ^ k % 2 + 2 * pick K N
theorem ins_low2 (p r : Nat) : ins (p + 1) r % 2 = r % 2 := by
  have h : (ins (p + 1) r).testBit 0 = r.testBit 0 := by rw [ins_bit, if_pos (Nat.succ_pos _)]
  rw [Nat.testBit_zero, Nat.testBit_zero] at h
  have h' := decide_eq_decide.mp h
  omega
theorem ins_half (p r : Nat) : ins (p + 1) r / 2 = ins p (r / 2) := by
  apply Nat.eq_of_testBit_eq
  intro j
  rw [← Nat.testBit_add_one, ins_bit, ins_bit]
  by_cases h : j < p
  · rw [if_pos (by omega), if_pos h, Nat.testBit_add_one]
  · rw [if_neg (by omega), if_neg h]
    by_cases e : j = p
    · rw [if_pos (by omega), if_pos e]
    · rw [if_neg (by omega), if_neg e, ← Nat.testBit_add_one]
      congr 1
      omega
theorem ins_zero (r : Nat) : ins 0 r = 2 * r := by
  unfold ins
  rw [Nat.pow_zero, Nat.div_one, Nat.mod_one]
  omega
theorem spread_ins : ∀ (K : List Nat) (p r : Nat), p < K.length → spread K (ins p r) = spread (K.eraseIdx p) r
  | [], p, r, h => absurd h (Nat.not_lt_zero _)
  | k :: K, 0, r, _ => by
    show 2 ^ k * (ins 0 r % 2) + spread K (ins 0 r / 2) = spread K r
    rw [ins_zero, Nat.mul_mod_right, Nat.mul_zero, Nat.zero_add, Nat.mul_div_cancel_left _ (by decide)]
  | k :: K, p + 1, r, h => by
    show 2 ^ k * (ins (p + 1) r % 2) + spread K (ins (p + 1) r / 2) = 2 ^ k * (r % 2) + spread (K.eraseIdx p) (r / 2)
    rw [ins_low2, ins_half, spread_ins K p (r / 2) (Nat.lt_of_succ_lt_succ h)]
theorem spread_range' : ∀ (m b r : Nat), r < 2 ^ m → spread (List.range' b m) r = 2 ^ b * r
  | 0, b, r, h => by
    have : r = 0 := by rw [Nat.pow_zero] at h; omega
    rw [this]
    rfl
  | m + 1, b, r, h => by
    rw [List.range'_succ]
    show 2 ^ b * (r % 2) + spread (List.range' (b + 1) m) (r / 2) = _
    rw [spread_range' m (b + 1) (r / 2) (by rw [Nat.pow_succ] at h; omega), Nat.pow_succ, Nat.mul_assoc, ← Nat.mul_add]
    congr 1
    omega
theorem spread_range {m r : Nat} (h : r < 2 ^ m) : spread (List.range m) r = r := by
  rw [List.range_eq_range', spread_range' m 0 r h, Nat.pow_zero, Nat.one_mul]
theorem spread_dvd : ∀ (K : List Nat) (b r : Nat), (∀ x ∈ K, b ≤ x) → ∃ T, spread K r = 2 ^ b * T
  | [], b, r, _ => ⟨0, rfl⟩
  | k :: K, b, r, h => by
    obtain ⟨T, e⟩ := spread_dvd K b (r / 2) fun x hx => h x (List.mem_cons_of_mem _ hx)
    obtain ⟨d, hd⟩ : ∃ d, k = b + d := ⟨k - b, by have := h k List.mem_cons_self; omega⟩
    refine ⟨2 ^ d * (r % 2) + T, ?_⟩
    show 2 ^ k * (r % 2) + spread K (r / 2) = _
    rw [e, hd, Nat.pow_add, Nat.mul_add, Nat.mul_assoc]
theorem spread_bit : ∀ (K : List Nat) (r j : Nat), K.Pairwise (· < ·) → (spread K r).testBit j = (decide (j ∈ K) && r.testBit (ixOf j K))
  | [], r, j, _ => by
    rw [decide_eq_false List.not_mem_nil, Bool.false_and]
    exact Nat.zero_testBit j
  | k :: K, r, j, h => by
    obtain ⟨h1, h2⟩ := List.pairwise_cons.mp h
    obtain ⟨T, eT⟩ := spread_dvd K (k + 1) (r / 2) fun x hx => h1 x hx
    have ih := spread_bit K (r / 2) j h2
    have e1 : spread (k :: K) r = 2 ^ k * (r % 2 + 2 * T) := by
      show 2 ^ k * (r % 2) + spread K (r / 2) = _
      rw [eT, Nat.pow_succ, Nat.mul_add, Nat.mul_assoc]
    rw [e1, Nat.testBit_two_pow_mul]
    rw [eT, Nat.testBit_two_pow_mul] at ih
    by_cases hj : j < k
    · rw [decide_eq_false (by omega), Bool.false_and, decide_eq_false, Bool.false_and]
      intro z
      rcases List.mem_cons.mp z with z | z
      · omega
      · have := h1 j z
        omega
    · rw [decide_eq_true (by omega), Bool.true_and]
      by_cases e : k = j
      · subst e
        rw [Nat.sub_self, Nat.testBit_zero, decide_eq_true List.mem_cons_self, Bool.true_and]
        show _ = r.testBit (if k = k then 0 else _)
        rw [if_pos rfl, Nat.testBit_zero, show (r % 2 + 2 * T) % 2 = r % 2 by omega]
      · obtain ⟨d, hd⟩ : ∃ d, j - k = d + 1 := ⟨j - k - 1, by omega⟩
        rw [hd, Nat.testBit_add_one, show (r % 2 + 2 * T) / 2 = T by omega]
        rw [decide_eq_true (by omega), Bool.true_and, show j - (k + 1) = d by omega] at ih
        rw [ih]
        show _ = (decide (j ∈ k :: K) && r.testBit (if k = j then 0 else ixOf j K + 1))
        rw [if_neg e, ← Nat.testBit_add_one]
        congr 1
        rw [decide_eq_decide]
        exact ⟨fun z => List.mem_cons_of_mem _ z, fun z => (List.mem_cons.mp z).resolve_left (Ne.symm e)⟩
theorem pick_lt : ∀ (K : List Nat) (N : Nat), pick K N < 2 ^ K.length
  | [], _ => Nat.one_pos
  | k :: K, N => by
    have := pick_lt K N
    show N / 2 ^ k % 2 + 2 * pick K N < 2 ^ (K.length + 1)
    rw [Nat.pow_succ]
    omega
theorem pick_bit : ∀ (K : List Nat) (N i : Nat), i < K.length → (pick K N).testBit i = N.testBit (K.getD i 0)
  | [], N, i, h => absurd h (Nat.not_lt_zero _)
  | k :: K, N, 0, _ => by
    show (N / 2 ^ k % 2 + 2 * pick K N).testBit 0 = N.testBit k
    rw [Nat.testBit_zero, Nat.testBit_eq_decide_div_mod_eq, show (N / 2 ^ k % 2 + 2 * pick K N) % 2 = N / 2 ^ k % 2 by omega]
  | k :: K, N, i + 1, h => by
    show (N / 2 ^ k % 2 + 2 * pick K N).testBit (i + 1) = N.testBit (K.getD i 0)
    rw [Nat.testBit_add_one, show (N / 2 ^ k % 2 + 2 * pick K N) / 2 = pick K N by omega]
    exact pick_bit K N i (Nat.lt_of_succ_lt_succ h)
theorem spread_pick {K : List Nat} (h : K.Pairwise (· < ·)) (N j : Nat) : (spread K (pick K N)).testBit j = (decide (j ∈ K) && N.testBit j) := by
  rw [spread_bit K _ j h]
  by_cases e : j ∈ K
  · obtain ⟨h1, h2⟩ := ixOf_lt e
    rw [pick_bit K N _ h1, h2]
  · rw [decide_eq_false e, Bool.false_and, Bool.false_and]
/-- what stays -/
def keptK (m : Nat) (bits : List Nat) : List Nat := (List.range m).filter fun p => !idleAt bits p
def trimK (m : Nat) (bits : List Nat) : List Nat := if keptK m bits = [] then [0] else keptK m bits
def selB (K bits : List Nat) : List Nat := (List.range (2 ^ K.length)).map fun r => bits.getD (spread K r) 0
def trimT (t : List Nat × List Nat) : List Nat × List Nat := ((trimK t.1.length t.2).map fun k => t.1.getD k 0, selB (trimK t.1.length t.2) t.2)
theorem selB_len (K bits : List Nat) : (selB K bits).length = 2 ^ K.length := by unfold selB; rw [List.length_map, List.length_range]
theorem selB_at {K bits : List Nat} {r : Nat} (h : r < 2 ^ K.length) : (selB K bits).getD r 0 = bits.getD (spread K r) 0 := getD_map h
theorem trimK_rise (m : Nat) (bits : List Nat) : (trimK m bits).Pairwise (· < ·) := by
  unfold trimK
  split
  · exact List.pairwise_singleton _ _
  · exact List.Pairwise.filter _ List.pairwise_lt_range
theorem trimK_lt {m : Nat} (hm : 1 ≤ m) (bits : List Nat) : ∀ x ∈ trimK m bits, x < m := by
  unfold trimK
  split
  · intro x hx
    rw [List.mem_singleton.mp hx]
    omega
  · intro x hx
    exact List.mem_range.mp (List.mem_filter.mp hx).1
theorem trimK_ne (m : Nat) (bits : List Nat) : 1 ≤ (trimK m bits).length := by
  unfold trimK
  split
  · exact Nat.le_refl _
  · rename_i h
    exact List.length_pos_iff.mpr h
theorem trimK_len {m : Nat} (hm : 1 ≤ m) (bits : List Nat) : (trimK m bits).length ≤ m := nodup_lt ((trimK_rise m bits).imp fun h => Nat.ne_of_lt h) (trimK_lt hm bits)
theorem idle_of {m : Nat} {bits : List Nat} {p : Nat} (hp : p < m) (h : p ∉ trimK m bits) : idleAt bits p = true := by
  unfold trimK at h
  cases e : idleAt bits p with
  | true => rfl
  | false =>
    exfalso
    have hk : p ∈ keptK m bits := List.mem_filter.mpr ⟨List.mem_range.mpr hp, by rw [e]; rfl⟩
    rw [if_neg (fun z => by rw [z] at hk; cases hk)] at h
    exact h hk
theorem idle_clrs {bits : List Nat} {m : Nat} (hl : bits.length = 2 ^ m) : ∀ (G : List Nat) (N : Nat), (∀ p ∈ G, idleAt bits p = true) → N < 2 ^ m → bits.getD N 0 = bits.getD (clrs G N) 0
  | [], N, _, _ => rfl
  | p :: G, N, h, hN => by
    show _ = bits.getD (clrs G (clr N p)) 0
    have hlt : clr N p < 2 ^ m := Nat.lt_of_le_of_lt (clr_le N p) hN
    rw [← idle_clrs hl G (clr N p) (fun x hx => h x (List.mem_cons_of_mem _ hx)) hlt]
    unfold clr
    by_cases e : N / 2 ^ p % 2 = 0
    · rw [e, Nat.zero_mul, Nat.sub_zero]
    · have := idleAt_iff.mp (h p List.mem_cons_self) N (by rw [hl]; exact hN)
      rw [xor_pow, if_neg e] at this
      rw [show N / 2 ^ p % 2 = 1 by omega, Nat.one_mul]
      exact this
theorem trim_val {bits : List Nat} {m N : Nat} (hl : bits.length = 2 ^ m) (hm : 1 ≤ m) (hN : N < 2 ^ m) : (selB (trimK m bits) bits).getD (pick (trimK m bits) N) 0 = bits.getD N 0 := by
  rw [selB_at (pick_lt _ _), idle_clrs hl ((List.range m).filter fun p => decide (p ∉ trimK m bits)) N (fun p hp => ?_) hN]
  · congr 1
    apply Nat.eq_of_testBit_eq
    intro j
    rw [spread_pick (trimK_rise m bits), clrs_bit]
    by_cases hj : j < m
    · by_cases e : j ∈ trimK m bits
      · rw [decide_eq_true e, Bool.true_and, decide_eq_true, Bool.and_true]
        intro z
        exact of_decide_eq_true (List.mem_filter.mp z).2 e
      · rw [decide_eq_false e, Bool.false_and, decide_eq_false, Bool.and_false]
        exact fun z => z (List.mem_filter.mpr ⟨List.mem_range.mpr hj, decide_eq_true e⟩)
    · rw [Nat.testBit_lt_two_pow (Nat.lt_of_lt_of_le hN (Nat.pow_le_pow_right (by decide) (by omega))), Bool.and_false, Bool.false_and]
  · obtain ⟨h1, h2⟩ := List.mem_filter.mp hp
    exact idle_of (List.mem_range.mp h1) (of_decide_eq_true h2)
theorem map_range_self (xs : List Nat) : (List.range xs.length).map (fun k => xs.getD k 0) = xs := by
  apply eqNats (by rw [List.length_map, List.length_range])
  intro i hi
  rw [List.length_map, List.length_range] at hi
  exact getD_map hi
theorem selB_range {bits : List Nat} {m : Nat} (hl : bits.length = 2 ^ m) : selB (List.range m) bits = bits := by
  apply eqNats (by rw [selB_len, List.length_range, hl])
  intro i hi
  rw [selB_len, List.length_range] at hi
  rw [selB_at (by rw [List.length_range]; exact hi), spread_range hi]
theorem pick_xor {K : List Nat} (h : K.Pairwise (· < ·)) {i : Nat} (hi : i < K.length) (N : Nat) : pick K (N ^^^ 2 ^ K.getD i 0) = pick K N ^^^ 2 ^ i := by
  have nd : K.Nodup := h.imp fun h => Nat.ne_of_lt h
  apply Nat.eq_of_testBit_eq
  intro j
  by_cases hj : j < K.length
  · rw [pick_bit K _ j hj, Nat.testBit_xor, Nat.testBit_xor, pick_bit K _ j hj, Nat.testBit_two_pow, Nat.testBit_two_pow]
    congr 1
    rw [decide_eq_decide]
    refine ⟨fun e => ?_, fun e => by rw [e]⟩
    have h1 := ixOf_get nd hi
    have h2 := ixOf_get nd hj
    rw [e] at h1
    omega
  · have p1 : ∀ M, (pick K M).testBit j = false := fun M => Nat.testBit_lt_two_pow (Nat.lt_of_lt_of_le (pick_lt K M) (Nat.pow_le_pow_right (by decide) (by omega)))
    rw [Nat.testBit_xor, p1, p1, Nat.testBit_two_pow, decide_eq_false (by omega)]
    rfl
theorem trimK_again {bits : List Nat} {m : Nat} (hl : bits.length = 2 ^ m) (hm : 1 ≤ m) : trimK (trimK m bits).length (selB (trimK m bits) bits) = List.range (trimK m bits).length := by
  by_cases e : keptK m bits = []
  · have e1 : trimK m bits = [0] := if_pos e
    rw [e1]
    show (if keptK 1 _ = [] then [0] else keptK 1 _) = [0]
    by_cases e2 : keptK 1 (selB [0] bits) = []
    · rw [if_pos e2]
    · rw [if_neg e2]
      unfold keptK at e2 ⊢
      rw [show List.range 1 = [0] from rfl] at e2 ⊢
      rw [List.filter_cons] at e2 ⊢
      split
      · rfl
      · rename_i h
        rw [if_neg h] at e2
        exact absurd rfl e2
  · have e1 : trimK m bits = keptK m bits := if_neg e
    have ri := trimK_rise m bits
    have ln := trimK_ne m bits
    have lt := trimK_lt hm bits
    have all : ∀ i, i < (trimK m bits).length → idleAt (selB (trimK m bits) bits) i = false := fun i hi => by
      cases hid : idleAt (selB (trimK m bits) bits) i with
      | false => rfl
      | true =>
        exfalso
        have hp := getD_mem hi
        have hpl := lt _ hp
        have hn : idleAt bits ((trimK m bits).getD i 0) = false := by
          have h3 := hp
          rw [e1] at h3
          have := (List.mem_filter.mp h3).2
          rw [← e1] at this
          cases h4 : idleAt bits ((trimK m bits).getD i 0) with
          | false => rfl
          | true => rw [h4] at this; cases this
        have : idleAt bits ((trimK m bits).getD i 0) = true := idleAt_iff.mpr fun N hN => by
          rw [hl] at hN
          have hN1 : N ^^^ 2 ^ (trimK m bits).getD i 0 < 2 ^ m := Nat.xor_lt_two_pow hN (Nat.pow_lt_pow_right (by decide) hpl)
          rw [← trim_val hl hm hN, ← trim_val hl hm hN1, pick_xor ri hi]
          exact idleAt_iff.mp hid _ (by rw [selB_len]; exact pick_lt _ _)
        rw [hn] at this
        cases this
    have ek : keptK (trimK m bits).length (selB (trimK m bits) bits) = List.range (trimK m bits).length := List.filter_eq_self.mpr fun i hi => by rw [all i (List.mem_range.mp hi)]; rfl
    have : trimK (trimK m bits).length (selB (trimK m bits) bits) = keptK (trimK m bits).length (selB (trimK m bits) bits) := if_neg (by rw [ek]; intro z; have := congrArg List.length z; rw [List.length_range, List.length_nil] at this; omega)
    rw [this, ek]
theorem trim_again {w : Nat} {t : List Nat × List Nat} (h : tabOk w t) : trimT (trimT t) = trimT t := by
  have ea := trimK_again h.len h.p1
  have e1 : (trimT t).1.length = (trimK t.1.length t.2).length := List.length_map _
  have e2 : trimK (trimT t).1.length (trimT t).2 = List.range (trimT t).1.length := by
    rw [e1]
    exact ea
  show (_, _) = _
  rw [e2, map_range_self, selB_range (by rw [e1]; exact selB_len _ _)]
theorem trim_ok {w : Nat} {t : List Nat × List Nat} (h : tabOk w t) : tabOk w (trimT t) := by
  have e1 : (trimT t).1.length = (trimK t.1.length t.2).length := List.length_map _
  have lt := trimK_lt h.p1 t.2
  refine ⟨by rw [e1]; exact trimK_ne _ _, by rw [e1]; exact Nat.le_trans (trimK_len h.p1 _) h.p4, fun x hx => ?_, ?_, by rw [e1]; exact selB_len _ _, fun x hx => ?_⟩
  · obtain ⟨k, hk, rfl⟩ := List.mem_map.mp hx
    exact h.lt _ (getD_mem (lt k hk))
  · show ((trimK t.1.length t.2).map fun k => t.1.getD k 0).Pairwise (· < ·)
    rw [List.pairwise_map]
    refine (trimK_rise _ _).imp_of_mem fun {a b} ha hb hab => ?_
    have la := lt a ha
    have lb := lt b hb
    rw [List.getD_eq_getElem?_getD, List.getD_eq_getElem?_getD, List.getElem?_eq_getElem la, List.getElem?_eq_getElem lb]
    exact List.pairwise_iff_getElem.mp h.rise a b la lb hab
  · obtain ⟨r, _, rfl⟩ := List.mem_map.mp hx
    by_cases e : spread (trimK t.1.length t.2) r < t.2.length
    · exact h.bit _ (getD_mem e)
    · rw [List.getD_eq_getElem?_getD, List.getElem?_eq_none (by omega)]
      exact Nat.two_pos
def trimL (l : Lay) : Lay := ⟨l.many, l.tabs.map trimT, l.outs⟩
theorem trimL_ok {l : Lay} (ok : l.Ok) : (trimL l).Ok := by
  refine ⟨ok.m1, ok.m8, by show (l.tabs.map trimT).length ≤ 16; rw [List.length_map]; exact ok.t16, fun i t ht => ?_, ok.o1, ok.o8, fun o ho => by show o < l.many + (l.tabs.map trimT).length; rw [List.length_map]; exact ok.os o ho⟩
  have ht' : (l.tabs.map trimT)[i]? = some t := ht
  rw [List.getElem?_map] at ht'
  cases e : l.tabs[i]? with
  | none => rw [e] at ht'; cases ht'
  | some u =>
    rw [e] at ht'
    cases ht'
    exact trim_ok (ok.ts i u e)
theorem trimL_again {l : Lay} (ok : l.Ok) : trimL (trimL l) = trimL l := by
  show Lay.mk l.many ((l.tabs.map trimT).map trimT) l.outs = Lay.mk l.many (l.tabs.map trimT) l.outs
  congr 1
  rw [List.map_map]
  apply List.map_congr_left
  intro t ht
  obtain ⟨i, hi⟩ := List.getElem?_of_mem ht
  exact trim_again (ok.ts i t hi)
theorem idx_pick {told : List Nat} (h : ∀ x, told.getD x 0 < 2) (ws : List Nat) : ∀ K : List Nat, (∀ k ∈ K, k < ws.length) → idxOf told (K.map fun k => ws.getD k 0) = pick K (idxOf told ws)
  | [], _ => rfl
  | k :: K, hk => by
    show told.getD (ws.getD k 0) 0 + 2 * idxOf told (K.map fun k => ws.getD k 0) = idxOf told ws / 2 ^ k % 2 + 2 * pick K (idxOf told ws)
    rw [idx_pick h ws K fun x hx => hk x (List.mem_cons_of_mem _ hx), idxOf_bit h ws k (hk k List.mem_cons_self)]
theorem getD_bit {told : List Nat} (h : ∀ x ∈ told, x < 2) (x : Nat) : told.getD x 0 < 2 := by
  by_cases e : x < told.length
  · exact h _ (getD_mem e)
  · rw [List.getD_eq_getElem?_getD, List.getElem?_eq_none (by omega)]
    exact Nat.two_pos
theorem tell_trim {w : Nat} {t : List Nat × List Nat} (h : tabOk w t) {told : List Nat} (hb : ∀ x ∈ told, x < 2) : tellL told (trimT t) = tellL told t := by
  unfold tellL
  have e1 := idx_pick (getD_bit hb) t.1 (trimK t.1.length t.2) (trimK_lt h.p1 t.2)
  show told ++ [(selB (trimK t.1.length t.2) t.2).getD (idxOf told ((trimK t.1.length t.2).map fun k => t.1.getD k 0)) 0] = _
  rw [e1, trim_val h.len h.p1 (idxOf_lt hb _)]
theorem told_trim : ∀ (ts : List (List Nat × List Nat)) (b : Nat) (row : List Nat), (∀ i t, ts[i]? = some t → tabOk (b + i) t) → (∀ x ∈ row, x < 2) → toldL row (ts.map trimT) = toldL row ts
  | [], _, _, _, _ => rfl
  | t :: ts, b, row, h, hb => by
    have h0 := h 0 t rfl
    show toldL (tellL row (trimT t)) (ts.map trimT) = toldL (tellL row t) ts
    rw [tell_trim h0 hb]
    refine told_trim ts (b + 1) _ (fun i u hu => ?_) (tellL_bit hb h0.bit h0.len)
    have := h (i + 1) u (by simpa using hu)
    rwa [show b + (i + 1) = b + 1 + i by omega] at this
theorem outs_trim {l : Lay} (ok : l.Ok) {row : List Nat} (hb : ∀ x ∈ row, x < 2) : outsL row (trimL l) = outsL row l := by
  unfold outsL
  show (l.outs.map fun o => (toldL row (l.tabs.map trimT)).getD o 0) = _
  rw [told_trim l.tabs l.many row ok.ts hb]
/-! ### how the program goes: from the last one down -/
theorem erase_range {m p : Nat} {f : Nat → Bool} (hp : p < m) (h : ∀ x, x ≤ p → f x = true) : ((List.range m).filter f).eraseIdx p = (List.range m).filter fun x => f x && decide (x ≠ p) := by
  obtain ⟨d, rfl⟩ : ∃ d, m = p + (1 + d) := ⟨m - p - 1, by omega⟩
  have e0 : List.range (p + (1 + d)) = List.range p ++ ([p] ++ (List.range d).map (p + 1 + ·)) := by
    rw [List.range_add, List.range_add, List.map_append]
    congr 1
    congr 1
    · rw [List.map_map]
      apply List.map_congr_left
      intro x _
      show p + (1 + x) = p + 1 + x
      omega
  rw [e0, List.filter_append, List.filter_append, List.filter_append, List.filter_append]
  have f1 : (List.range p).filter f = List.range p := List.filter_eq_self.mpr fun x hx => h x (Nat.le_of_lt (List.mem_range.mp hx))
  have f2 : [p].filter f = [p] := List.filter_eq_self.mpr fun x hx => h x (by rw [List.mem_singleton.mp hx]; exact Nat.le_refl _)
  have f3 : (List.range p).filter (fun x => f x && decide (x ≠ p)) = List.range p := List.filter_eq_self.mpr fun x hx => by
    have := List.mem_range.mp hx
    rw [h x (by omega), decide_eq_true (by omega)]
    rfl
  have f4 : [p].filter (fun x => f x && decide (x ≠ p)) = [] := List.filter_eq_nil_iff.mpr fun x hx => by
    rw [List.mem_singleton.mp hx, decide_eq_false (fun z => z rfl), Bool.and_false]
    exact Bool.false_ne_true
  have f5 : ((List.range d).map (p + 1 + ·)).filter (fun x => f x && decide (x ≠ p)) = ((List.range d).map (p + 1 + ·)).filter f := List.filter_congr fun x hx => by
    obtain ⟨y, _, rfl⟩ := List.mem_map.mp hx
    rw [decide_eq_true (by omega), Bool.and_true]
  rw [f1, f2, f3, f4, f5, List.eraseIdx_append_of_length_le (by rw [List.length_range]; exact Nat.le_refl _), List.length_range, Nat.sub_self]
  rfl
theorem wo_sel {K bits : List Nat} {p : Nat} (hp : p < K.length) : wo (selB K bits) p = selB (K.eraseIdx p) bits := by
  obtain ⟨m, hm⟩ : ∃ m, K.length = m + 1 := ⟨K.length - 1, by omega⟩
  have el : (K.eraseIdx p).length = m := by rw [List.length_eraseIdx_of_lt hp, hm]; rfl
  rw [wo_eq (m := m) (by rw [selB_len, hm]) (by omega)]
  unfold selB
  rw [el]
  apply List.map_congr_left
  intro r hr
  have hr' := List.mem_range.mp hr
  rw [getD_map (by rw [hm]; exact ins_lt hr' (by omega)), spread_ins K p r hp]
/-- those that go -/
def goG (m : Nat) (bits : List Nat) : List Nat := (List.range m).filter fun p => decide (p ∉ trimK m bits)
theorem go_rest (m : Nat) (bits : List Nat) (hm : 1 ≤ m) : ((List.range m).filter fun p => decide (p ∉ goG m bits)) = trimK m bits := by
  refine rise_eq (List.Pairwise.filter _ List.pairwise_lt_range) (trimK_rise m bits) fun z => ?_
  rw [List.mem_filter, decide_eq_true_iff, List.mem_range]
  unfold goG
  constructor
  · rintro ⟨h1, h2⟩
    refine Classical.not_not.mp fun h => h2 (List.mem_filter.mpr ⟨List.mem_range.mpr h1, decide_eq_true h⟩)
  · intro h
    exact ⟨trimK_lt hm bits z h, fun h2 => of_decide_eq_true (List.mem_filter.mp h2).2 h⟩
theorem go_idles {m : Nat} (bits : List Nat) (hm : 1 ≤ m) : goG m bits = if (idles bits m).length = m then (idles bits m).drop 1 else idles bits m := by
  have ei : idles bits m = (List.range m).filter fun p => idleAt bits p := rfl
  by_cases e : keptK m bits = []
  · have all : ∀ p ∈ List.range m, idleAt bits p = true := fun p hp => by
      have := List.filter_eq_nil_iff.mp e p hp
      cases h : idleAt bits p with
      | true => rfl
      | false => rw [h] at this; exact absurd rfl this
    have e2 : idles bits m = List.range m := by rw [ei]; exact List.filter_eq_self.mpr all
    have e1 : trimK m bits = [0] := if_pos e
    rw [e2, if_pos List.length_range]
    refine rise_eq (List.Pairwise.filter _ List.pairwise_lt_range) (List.Pairwise.drop List.pairwise_lt_range) fun z => ?_
    unfold goG
    rw [List.mem_filter, decide_eq_true_iff, e1, List.mem_singleton, List.mem_range]
    obtain ⟨d, rfl⟩ : ∃ d, m = 1 + d := ⟨m - 1, by omega⟩
    rw [List.range_add]
    show _ ↔ z ∈ (List.range d).map (1 + ·)
    rw [List.mem_map]
    constructor
    · rintro ⟨h1, h2⟩
      exact ⟨z - 1, List.mem_range.mpr (by omega), by omega⟩
    · rintro ⟨y, hy, rfl⟩
      have := List.mem_range.mp hy
      omega
  · have e1 : trimK m bits = keptK m bits := if_neg e
    have hne : (idles bits m).length ≠ m := fun z => by
      obtain ⟨p, hp⟩ := List.exists_mem_of_ne_nil _ e
      obtain ⟨h1, h2⟩ := List.mem_filter.mp hp
      have h3 : (List.range m).filter (fun p => idleAt bits p) = List.range m := List.Sublist.eq_of_length List.filter_sublist (by rw [← ei, z, List.length_range])
      have h4 := List.filter_eq_self.mp h3 p h1
      rw [h4] at h2
      cases h2
    rw [if_neg hne, ei]
    unfold goG
    apply List.filter_congr
    intro p hp
    rw [e1]
    unfold keptK
    cases h : idleAt bits p with
    | true => exact decide_eq_true fun z => by have := (List.mem_filter.mp z).2; rw [h] at this; cases this
    | false => exact decide_eq_false fun z => z (List.mem_filter.mpr ⟨hp, by rw [h]; rfl⟩)
theorem gone_step {m : Nat} {G : List Nat} (r : G.Pairwise (· < ·)) (lt : ∀ x ∈ G, x < m) {i pl : Nat} (hi : i < G.length) (hp : G[G.length - 1 - i]? = some pl) :
    ((List.range m).filter fun x => decide (x ∉ G.drop (G.length - i))).eraseIdx pl = ((List.range m).filter fun x => decide (x ∉ G.drop (G.length - (i + 1)))) ∧ pl < ((List.range m).filter fun x => decide (x ∉ G.drop (G.length - i))).length := by
  have ed : G.drop (G.length - (i + 1)) = pl :: G.drop (G.length - i) := by
    have h1 : G.length - (i + 1) < G.length := by omega
    rw [List.drop_eq_getElem_cons h1]
    rw [show G.length - 1 - i = G.length - (i + 1) by omega, List.getElem?_eq_getElem h1] at hp
    rw [Option.some.inj hp, show G.length - (i + 1) + 1 = G.length - i by omega]
  have hpw : (pl :: G.drop (G.length - i)).Pairwise (· < ·) := by rw [← ed]; exact r.drop
  have hgt := (List.pairwise_cons.mp hpw).1
  have plm : pl < m := lt pl (List.mem_of_getElem? hp)
  have hf : ∀ x, x ≤ pl → decide (x ∉ G.drop (G.length - i)) = true := fun x hx => decide_eq_true fun z => by have := hgt x z; omega
  refine ⟨?_, ?_⟩
  · rw [erase_range plm hf, ed]
    apply List.filter_congr
    intro x _
    rw [Bool.eq_iff_iff, Bool.and_eq_true, decide_eq_true_iff, decide_eq_true_iff, decide_eq_true_iff, List.mem_cons]
    exact ⟨fun h z => by rcases z with z | z; exact h.2 z; exact h.1 z, fun h => ⟨fun z => h (.inr z), fun z => h (.inl z)⟩⟩
  · have := nodup_len (ys := (List.range m).filter fun x => decide (x ∉ G.drop (G.length - i))) (List.nodup_range (n := pl + 1)) fun x hx => by
      have := List.mem_range.mp hx
      exact List.mem_filter.mpr ⟨List.mem_range.mpr (by omega), hf x (by omega)⟩
    rw [List.length_range] at this
    omega
theorem erase_map (f : Nat → Nat) (K : List Nat) (p : Nat) : (K.map f).take p ++ (K.map f).drop (p + 1) = (K.eraseIdx p).map f := by
  rw [List.eraseIdx_eq_take_drop_succ, List.map_append, List.map_take, List.map_drop]
theorem spread_snoc : ∀ (K : List Nat) (k r : Nat), spread (K ++ [k]) r = spread K r + 2 ^ k * (r / 2 ^ K.length % 2)
  | [], k, r => by
    show 2 ^ k * (r % 2) + 0 = 0 + 2 ^ k * (r / 2 ^ 0 % 2)
    rw [Nat.pow_zero, Nat.div_one]
    omega
  | x :: K, k, r => by
    show 2 ^ x * (r % 2) + spread (K ++ [k]) (r / 2) = 2 ^ x * (r % 2) + spread K (r / 2) + 2 ^ k * (r / 2 ^ (K.length + 1) % 2)
    rw [spread_snoc K k (r / 2), Nat.div_div_eq_div_mul, Nat.pow_succ, Nat.mul_comm 2, Nat.add_assoc]
theorem spread_lt {K : List Nat} {m : Nat} (h : K.Pairwise (· < ·)) (lt : ∀ x ∈ K, x < m) (r : Nat) : spread K r < 2 ^ m := by
  refine Nat.lt_of_not_le fun hge => ?_
  have ⟨j, hj, hb⟩ := Nat.exists_ge_and_testBit_of_ge_two_pow hge
  rw [spread_bit K r j h, Bool.and_eq_true, decide_eq_true_iff] at hb
  have := lt j hb.1
  omega
/-! ### layouts as data -/
def tabD (t : List Nat × List Nat) : PyData := .tuple [.tuple ((t.1.map fun n : Nat => (n : Int)).map PyData.int), .tuple ((t.2.map fun n : Nat => (n : Int)).map PyData.int)]
def layD (l : Lay) : List PyData := [.int ((l.many : Nat) : Int), .tuple (l.tabs.map tabD), .tuple ((l.outs.map fun n : Nat => (n : Int)).map PyData.int)]
theorem canIntsL : ∀ xs : List Int, PyData.canLayAll0 (xs.map PyData.int) = true ∧ PyData.depthAll (xs.map PyData.int) = 0
  | [] => ⟨rfl, rfl⟩
  | x :: r => by
    obtain ⟨h1, h2⟩ := canIntsL r
    refine ⟨?_, ?_⟩
    · show ((PyData.int x).canLay0 && PyData.canLayAll0 (r.map PyData.int)) = true
      rw [h1]
      rfl
    · show max (PyData.int x).depth (PyData.depthAll (r.map PyData.int)) = 0
      rw [h2]
      rfl
theorem tabsD_can : ∀ ts : List (List Nat × List Nat), PyData.canLayAll0 (ts.map tabD) = true ∧ PyData.depthAll (ts.map tabD) ≤ 2
  | [] => ⟨rfl, Nat.zero_le _⟩
  | t :: r => by
    obtain ⟨h1, h2⟩ := tabsD_can r
    obtain ⟨g1, g2⟩ := canIntsL (t.1.map fun n : Nat => (n : Int))
    obtain ⟨k1, k2⟩ := canIntsL (t.2.map fun n : Nat => (n : Int))
    refine ⟨?_, ?_⟩
    · show ((PyData.canLayAll0 ((t.1.map fun n : Nat => (n : Int)).map PyData.int) && (PyData.canLayAll0 ((t.2.map fun n : Nat => (n : Int)).map PyData.int) && true)) && PyData.canLayAll0 (r.map tabD)) = true
      rw [g1, k1, h1]
      rfl
    · show max (max (PyData.depthAll ((t.1.map fun n : Nat => (n : Int)).map PyData.int) + 1) (max (PyData.depthAll ((t.2.map fun n : Nat => (n : Int)).map PyData.int) + 1) 0) + 1) (PyData.depthAll (r.map tabD)) ≤ 2
      rw [g2, k2]
      omega
theorem layD_shaped (l : Lay) : SeqAt.shaped (.tuple (layD l)) = true := by
  obtain ⟨h1, h2⟩ := tabsD_can l.tabs
  obtain ⟨g1, g2⟩ := canIntsL (l.outs.map fun n : Nat => (n : Int))
  refine shaped_tup (d := 3) ?_ ?_ (by decide)
  · show (true && (PyData.canLayAll0 (l.tabs.map tabD) && (PyData.canLayAll0 ((l.outs.map fun n : Nat => (n : Int)).map PyData.int) && true))) = true
    rw [h1, g1]
    rfl
  · show max 0 (max (PyData.depthAll (l.tabs.map tabD) + 1) (max (PyData.depthAll ((l.outs.map fun n : Nat => (n : Int)).map PyData.int) + 1) 0)) ≤ 3
    rw [g2]
    omega
theorem layD_eq (l : Lay) : PyData.eqv (.tuple (layD l)) (.tuple (layD l)) = true := SeqAt.eqv_refl _ (SeqAt.canLay_of_shaped (layD_shaped l))
theorem tabsD_dp {K : PySem.W.Frag} {H : Hp} : ∀ {ps : List Addr} {ts : List (List Nat × List Nat)}, TabsAt H ps ts → DpAll K H (ps.map V.ref) (ts.map tabD)
  | [], ts, x => by
    have : ts = [] := List.length_eq_zero_iff.mp x.1.symm
    subst this
    exact .nil
  | p :: r, [], x => by cases x.1
  | p :: r, t :: ts, x => by
    obtain ⟨a, b, h0, h1, h2⟩ := x.2 0 p t rfl rfl
    exact .cons (.tup (SqT.of h0) (.cons (.tup (SqT.of h1) (dpNat K _ _)) (.cons (.tup (SqT.of h2) (dpNat K _ _)) .nil))) (tabsD_dp (K := K) (H := H) (ps := r) (ts := ts) ⟨by simpa using x.1, fun i p' t' e1 e2 => x.2 (i + 1) p' t' (by simpa using e1) (by simpa using e2)⟩)
theorem LayAt.dp {K : PySem.W.Frag} {H : Hp} {a g o : Addr} {l : Lay} {ps : List Addr} (x : LayAt H a l g o ps) : Dp K H (.ref a) (.tuple (layD l)) := .tup (SqT.of x.top) (.cons (.int _) (.cons (.tup (SqT.of x.gt) (tabsD_dp x.ts)) (.cons (.tup (SqT.of x.ot) (dpNat K _ _)) .nil)))
theorem LayAt.same {H H' : Hp} {a g o : Addr} {l : Lay} {ps : List Addr} (x : LayAt H a l g o ps) (s : Same H H') : LayAt H' a l g o ps := x.mono fun b xs e => s _ _ e
theorem LayAt.aft {Ts : List Addr} {H H' : Hp} {a g o : Addr} {l : Lay} {ps : List Addr} (x : LayAt H a l g o ps) (t : Tabs Ts H) (s : Aft Ts H H') : LayAt H' a l g o ps := x.mono fun b xs e => s.tup t e
end GX
set_option Elab.async false
set_option linter.all false
set_option maxRecDepth 100000
set_option maxHeartbeats 4000000
/-! len of a set of whole numbers. -/
namespace GX
open PySem PySem.Spec PyProof.Rows L2
def rLenSet (w : World) : List V → Hp → VK → Prop := fun vs H Q => ∃ (a : Addr) (S : Int → Bool) (n : Nat), vs = [V.ref a] ∧ H a = some (SetO w a S n) ∧ n < 64 ∧ ∀ ks : List Int, ks.Nodup → (∀ k : Int, k ∈ ks ↔ S k = true) → ks.length = n → Q (.int (n : Nat)) H
theorem cr_lenSet {X : Cx} : CallR X (.builtin "len") (rLenSet X.w) := by
  intro pins s σ H vs us Q I r h
  obtain ⟨a, S, n, rfl, ha, h64, q⟩ := h
  obtain ⟨o, es, ep, t, ho, hex, hd, g, nd, hm, hb, hf, hn, hr, hl⟩ := setO_get I ha
  rw [Vals.ref1 r]
  refine call_len_set ho hex hd hf (by rw [hn] <;> omega) ⟨.int (n : Nat), H, I.tok _, ⟨_, by rw [hn]⟩, q (es.toList.map keyOf) nd (fun k => (hm k).symm) (by rw [List.length_map, Array.length_toList, hn])⟩
theorem nodup_by_len : ∀ (ns ks : List Int), ks.Nodup → (∀ k, k ∈ ks ↔ k ∈ ns) → ks.length = ns.length → ns.Nodup
  | [], _, _, _, _ => List.nodup_nil
  | x :: r, ks, nd, hm, hl => by
    have hx : x ∉ r := fun z => by
      have := nd.length_le_of_subset (l₂ := r) fun k hk => by
        rcases List.mem_cons.mp ((hm k).mp hk) with h | h
        · rw [h]; exact z
        · exact h
      rw [hl, List.length_cons] at this
      omega
    have hk : x ∈ ks := (hm x).mpr List.mem_cons_self
    refine List.nodup_cons.mpr ⟨hx, nodup_by_len r (ks.erase x) (nd.erase x) (fun k => ?_) ?_⟩
    · rw [nd.mem_erase_iff, hm, List.mem_cons]
      constructor
      · rintro ⟨h1, h2 | h2⟩
        · exact absurd h2 h1
        · exact h2
      · intro h
        exact ⟨fun z => hx (by rw [← z]; exact h), .inr h⟩
    · rw [List.length_erase_of_mem hk, hl, List.length_cons]
      rfl
theorem nodup_cast {ns : List Nat} (h : (ns.map fun n : Nat => (n : Int)).Nodup) : ns.Nodup := by
  rw [List.nodup_iff_pairwise_ne] at h ⊢
  rw [List.pairwise_map] at h
  exact h.imp fun h e => h (by rw [e])
end GX
set_option Elab.async false
set_option linter.all false
set_option maxRecDepth 100000
set_option maxHeartbeats 4000000
/-! Likenesses: steps, pairs, what is shown. -/
theorem L2.Room.units65 {k : Nat} {A : PySem.Around} (r : L2.Room k A) : A.units + 65 < PySem.cLine := by have := r.un; omega
namespace GX
open PySem PySem.Spec PyProof.Rows L2
theorem op_ltTK {X : Cx} {K : PySem.W.Frag} (hu : X.A.units < cLine) (h : X.K = K := by rfl) : OpR X (compareOp .Lt) (rLtT K) := by subst h; exact op_ltT hu
abbrev IP := Int × Int
def pV (x : IP) : List V := [.int x.1, .int x.2]
structure Stp where
  a : Int
  b : Int
  ps : List IP
def PsAt (H : Hp) (p : Addr) (xs : List IP) : Prop := ∃ qs : List Addr, H p = some (.tup (qs.map V.ref)) ∧ RefsAt pV H qs xs
def StAt (H : Hp) (p : Addr) (s : Stp) : Prop := ∃ q, H p = some (.tup [.int s.a, .int s.b, .ref q]) ∧ PsAt H q s.ps
def LkAt (H : Hp) (p : Addr) (ss : List Stp) : Prop := ∃ qs : List Addr, H p = some (.tup (qs.map V.ref)) ∧ PtsAt StAt H qs ss
def Tups (H H' : Hp) : Prop := ∀ b xs, H b = some (.tup xs) → H' b = some (.tup xs)
theorem Tups.refl (H : Hp) : Tups H H := fun _ _ e => e
theorem Tups.trans {H1 H2 H3 : Hp} (a : Tups H1 H2) (b : Tups H2 H3) : Tups H1 H3 := fun _ _ e => b _ _ (a _ _ e)
theorem Tups.same {H H' : Hp} (s : Same H H') : Tups H H' := fun _ _ e => s _ _ e
theorem PsAt.mono {H H' : Hp} {p : Addr} {xs : List IP} (k : Tups H H') (x : PsAt H p xs) : PsAt H' p xs := by
  obtain ⟨qs, h1, h2⟩ := x
  exact ⟨qs, k _ _ h1, h2.mono k⟩
theorem StAt.mono {H H' : Hp} (k : Tups H H') (p : Addr) (s : Stp) (x : StAt H p s) : StAt H' p s := by
  obtain ⟨q, h1, h2⟩ := x
  exact ⟨q, k _ _ h1, h2.mono k⟩
theorem LkAt.mono {H H' : Hp} {p : Addr} {ss : List Stp} (k : Tups H H') (x : LkAt H p ss) : LkAt H' p ss := by
  obtain ⟨qs, h1, h2⟩ := x
  exact ⟨qs, k _ _ h1, h2.mono (StAt.mono k)⟩
/-! ### what is asked -/
def IsPr (n m : Net) (x : IP) : Prop := (0 ≤ x.1 ∧ x.1 < ((n.many + n.gates.length : Nat) : Int)) ∧ (0 ≤ x.2 ∧ x.2 < ((m.many + m.gates.length : Nat) : Int))
def SameI (n : Net) (x : IP) : Prop := x.1 = x.2 ∧ x.1 < ((n.many : Nat) : Int)
def Shn (n : Net) (S : List IP) (x : IP) : Prop := SameI n x ∨ x ∈ S
def fsts (xs : List IP) : List Nat := xs.map fun x => x.1.toNat
def snds (xs : List IP) : List Nat := xs.map fun x => x.2.toNat
structure PrsOk (n m : Net) (xs : List IP) : Prop where
  l1 : 1 ≤ xs.length
  l8 : xs.length ≤ 8
  each : ∀ x ∈ xs, IsPr n m x
  rise : (fsts xs).Pairwise (· < ·)
  nod : (snds xs).Nodup
structure StpOk (n m : Net) (S : List IP) (s : Stp) : Prop where
  pr : IsPr n m (s.a, s.b)
  ps : PrsOk n m s.ps
  shn : ∀ x ∈ s.ps, Shn n S x
  tl1 : Sep n s.a.toNat (fsts s.ps)
  tl2 : Sep m s.b.toNat (snds s.ps)
  ct : contOf n (fsts s.ps) s.a.toNat = contOf m (snds s.ps) s.b.toNat
def outPs (n m : Net) : List IP := (n.outs.zip m.outs).map fun x => (((x.1 : Nat) : Int), ((x.2 : Nat) : Int))
def key (s : Stp) : IP := (s.a, s.b)
def Hlds (n m : Net) : List IP → List Stp → Prop
  | S, [] => ∀ x ∈ outPs n m, Shn n S x
  | S, s :: r => StpOk n m S s ∧ Hlds n m (S ++ [key s]) r
def LkOk (n m : Net) (ss : List Stp) : Prop := ss.length ≤ 60 ∧ Hlds n m [] ss
theorem Hlds.at_ {n m : Net} {S : List IP} {ss : List Stp} {i : Nat} {s : Stp} (e : ss[i]? = some s) : Hlds n m S (ss.drop i) ↔ (StpOk n m S s ∧ Hlds n m (S ++ [key s]) (ss.drop (i + 1))) := by
  have hi := (List.getElem?_eq_some_iff.mp e).1
  have hs : ss[i] = s := (List.getElem?_eq_some_iff.mp e).2
  rw [List.drop_eq_getElem_cons hi, hs]
  exact Iff.rfl
theorem Shn.congr {n : Net} {S S' : List IP} (h : ∀ x, x ∈ S ↔ x ∈ S') (x : IP) : Shn n S x ↔ Shn n S' x := by
  unfold Shn
  rw [h]
/-! ### whole numbers -/
theorem fsts_cast {n m : Net} {xs : List IP} (h : ∀ x ∈ xs, IsPr n m x) : (xs.map fun x => V.int x.1) = (fsts xs).map nV := by
  unfold fsts
  rw [List.map_map]
  refine List.map_congr_left fun x hx => ?_
  show V.int x.1 = V.int ((x.1.toNat : Nat) : Int)
  rw [Int.toNat_of_nonneg (h x hx).1.1]
theorem snds_cast {n m : Net} {xs : List IP} (h : ∀ x ∈ xs, IsPr n m x) : (xs.map fun x => V.int x.2) = (snds xs).map nV := by
  unfold snds
  rw [List.map_map]
  refine List.map_congr_left fun x hx => ?_
  show V.int x.2 = V.int ((x.2.toNat : Nat) : Int)
  rw [Int.toNat_of_nonneg (h x hx).2.1]
theorem fsts_len (xs : List IP) : (fsts xs).length = xs.length := List.length_map _
theorem snds_len (xs : List IP) : (snds xs).length = xs.length := List.length_map _
/-! ### rising pairs -/
def LexUp (xs : List IP) : Prop := ∀ i x y, xs[i]? = some x → xs[i + 1]? = some y → HT.lexLt [x.1, x.2] [y.1, y.2] = true
theorem lex2 (x y : IP) : HT.lexLt [x.1, x.2] [y.1, y.2] = true ↔ (x.1 < y.1 ∨ (x.1 = y.1 ∧ x.2 < y.2)) := by
  show (if x.1 = y.1 then (if x.2 = y.2 then false else decide (x.2 < y.2)) else decide (x.1 < y.1)) = true ↔ _
  by_cases h : x.1 = y.1
  · rw [if_pos h]
    by_cases h2 : x.2 = y.2
    · rw [if_pos h2]
      constructor
      · intro z; cases z
      · rintro (z | ⟨_, z⟩) <;> omega
    · rw [if_neg h2, decide_eq_true_iff]
      constructor
      · intro z; exact .inr ⟨h, z⟩
      · rintro (z | ⟨_, z⟩)
        · omega
        · exact z
  · rw [if_neg h, decide_eq_true_iff]
    constructor
    · exact .inl
    · rintro (z | ⟨z, _⟩)
      · exact z
      · exact absurd z h
theorem pair_up : ∀ (xs : List Nat), (∀ i, i + 1 < xs.length → xs.getD i 0 < xs.getD (i + 1) 0) → xs.Pairwise (· < ·)
  | [], _ => List.Pairwise.nil
  | [x], _ => List.pairwise_singleton _ _
  | x :: y :: r, h => by
    have ih := pair_up (y :: r) fun i hi => h (i + 1) (by rw [List.length_cons]; omega)
    refine List.pairwise_cons.mpr ⟨fun z hz => ?_, ih⟩
    have h0 : x < y := h 0 (by simp)
    rcases List.mem_cons.mp hz with e | e
    · rw [e]; exact h0
    · exact Nat.lt_trans h0 ((List.pairwise_cons.mp ih).1 z e)
theorem up_iff {n m : Net} {xs : List IP} (h : ∀ x ∈ xs, IsPr n m x) : (LexUp xs ∧ (fsts xs).Nodup) ↔ (fsts xs).Pairwise (· < ·) := by
  constructor
  · rintro ⟨h1, h2⟩
    refine pair_up _ fun i hi => ?_
    rw [fsts_len] at hi
    have e1 := List.getElem?_eq_getElem (l := xs) (i := i) (by omega)
    have e2 := List.getElem?_eq_getElem (l := xs) (i := i + 1) hi
    have lx := (lex2 _ _).mp (h1 i _ _ e1 e2)
    have g1 : (fsts xs).getD i 0 = xs[i].1.toNat := by
      unfold fsts
      rw [List.getD_eq_getElem?_getD, List.getElem?_map, e1]; rfl
    have g2 : (fsts xs).getD (i + 1) 0 = xs[i + 1].1.toNat := by
      unfold fsts
      rw [List.getD_eq_getElem?_getD, List.getElem?_map, e2]; rfl
    have ne : (fsts xs).getD i 0 ≠ (fsts xs).getD (i + 1) 0 := fun z => by
      rw [List.getD_eq_getElem?_getD, List.getElem?_eq_getElem (by rw [fsts_len]; omega), List.getD_eq_getElem?_getD, List.getElem?_eq_getElem (by rw [fsts_len]; omega)] at z
      have := (List.getElem_inj (h₀ := by rw [fsts_len]; omega) (h₁ := by rw [fsts_len]; omega) h2).mp z
      omega
    have p1 := (h _ (List.mem_of_getElem? e1)).1
    have p2 := (h _ (List.mem_of_getElem? e2)).1
    rw [g1, g2] at ne ⊢
    omega
  · intro h1
    refine ⟨fun i x y e1 e2 => (lex2 x y).mpr (.inl ?_), h1.imp fun z => Nat.ne_of_lt z⟩
    have hi := (List.getElem?_eq_some_iff.mp e2).1
    have lt := List.pairwise_iff_getElem.mp h1 i (i + 1) (by rw [fsts_len]; omega) (by rw [fsts_len]; exact hi) (by omega)
    have g1 : (fsts xs)[i]? = some x.1.toNat := by unfold fsts; rw [List.getElem?_map, e1]; rfl
    have g2 : (fsts xs)[i + 1]? = some y.1.toNat := by unfold fsts; rw [List.getElem?_map, e2]; rfl
    rw [(List.getElem?_eq_some_iff.mp g1).2, (List.getElem?_eq_some_iff.mp g2).2] at lt
    have p1 := (h _ (List.mem_of_getElem? e1)).1
    have p2 := (h _ (List.mem_of_getElem? e2)).1
    omega
/-! ### pairs in a list -/
def pD (x : IP) : PyData := .tuple [.int x.1, .int x.2]
theorem dp_pair {K : PySem.W.Frag} {H : Hp} {p : Addr} {x : IP} (h : H p = some (.tup (pV x))) : Dp K H (.ref p) (pD x) := .tup (SqT.of h) (.cons (.int _) (.cons (.int _) .nil))
theorem pD_shaped (x : IP) : SeqAt.shaped (pD x) = true := rfl
theorem pD_can : ∀ xs : List IP, PyData.canLayAll0 (xs.map pD) = true ∧ PyData.depthAll (xs.map pD) ≤ 1
  | [] => ⟨rfl, Nat.zero_le _⟩
  | c :: r => by
    obtain ⟨h1, h2⟩ := pD_can r
    refine ⟨?_, ?_⟩
    · show (PyData.canLay0 (pD c) && PyData.canLayAll0 (r.map pD)) = true
      rw [h1]
      rfl
    · show max (PyData.depth (pD c)) (PyData.depthAll (r.map pD)) ≤ 1
      have : PyData.depth (pD c) = 1 := rfl
      omega
theorem pDs_shaped (xs : List IP) : SeqAt.shaped (.list (xs.map pD)) = true := by
  obtain ⟨h1, h2⟩ := pD_can xs
  show (PyData.canLayAll0 (xs.map pD) && decide (PyData.depthAll (xs.map pD) + 1 ≤ 64)) = true
  rw [h1, decide_eq_true (by omega)]
  rfl
theorem dp_pairs {K : PySem.W.Frag} {H : Hp} : ∀ {qs : List Addr} {xs : List IP}, RefsAt pV H qs xs → DpAll K H (qs.map V.ref) (xs.map pD)
  | [], xs, x => by
    have : xs = [] := List.length_eq_zero_iff.mp x.1.symm
    subst this
    exact .nil
  | q :: qs, xs, x => by
    cases xs with
    | nil => cases x.1
    | cons y r => exact .cons (dp_pair (x.2 0 q y rfl rfl)) (dp_pairs ⟨Nat.succ.inj x.1, fun i p z e1 e2 => x.2 (i + 1) p z e1 e2⟩)
theorem pD_eqv (x y : IP) : PyData.eqv (pD x) (pD y) = decide (x = y) := by
  show (((x.1 : Int) == y.1) && (((x.2 : Int) == y.2) && true)) = _
  obtain ⟨x1, x2⟩ := x
  obtain ⟨y1, y2⟩ := y
  by_cases h1 : x1 = y1
  · by_cases h2 : x2 = y2
    · subst h1; subst h2
      rw [decide_eq_true rfl]
      simp
    · rw [decide_eq_false (fun z => h2 (Prod.mk.inj z).2)]
      simp [h2]
  · rw [decide_eq_false (fun z => h1 (Prod.mk.inj z).1)]
    simp [h1]
theorem any_pD (xs : List IP) (x : IP) : ((xs.map pD).any fun z => PyData.eqv z (pD x)) = decide (x ∈ xs) := by
  by_cases h : x ∈ xs
  · rw [decide_eq_true h, List.any_eq_true]
    exact ⟨pD x, List.mem_map.mpr ⟨x, h, rfl⟩, by rw [pD_eqv, decide_eq_true rfl]⟩
  · rw [decide_eq_false h, List.any_eq_false]
    intro z hz e
    obtain ⟨y, hy, rfl⟩ := List.mem_map.mp hz
    rw [pD_eqv] at e
    exact h (by rw [← of_decide_eq_true e]; exact hy)
/-! ### the dict of what is shown -/
def pK (x : IP) : List L2.Key := [.inl x.1, .inl x.2]
theorem pK_inj {x y : IP} (h : pK x = pK y) : x = y := by
  obtain ⟨h1, h2⟩ := List.cons.inj h
  obtain ⟨h3, _⟩ := List.cons.inj h2
  exact Prod.ext (Sum.inl.inj h1) (Sum.inl.inj h3)
theorem pKV (x : IP) : (pK x).map kV = pV x := rfl
structure ShD (H : Hp) (d : Addr) (S : List IP) (kvs : List (List L2.Key × V)) : Prop where
  at_ : H d = some (.dT kvs)
  len : kvs.length ≤ S.length
  iff : ∀ x, (valV kvs (pK x)).isSome = true ↔ x ∈ S
theorem ShD.put {H : Hp} {d : Addr} {S : List IP} {kvs : List (List L2.Key × V)} {x : IP} (h : ShD H d S kvs) : ShD (upd H d (.dT (putK kvs (pK x) (.bl true)))) d (S ++ [x]) (putK kvs (pK x) (.bl true)) := by
  refine ⟨upd_same, ?_, fun y => ?_⟩
  · have := length_putK kvs (pK x) (.bl true)
    have := h.len
    rw [List.length_append]
    show _ ≤ _ + 1
    omega
  · rw [valV_put, List.mem_append, List.mem_singleton]
    by_cases e : y = x
    · rw [if_pos (by rw [e])]
      exact ⟨fun _ => .inr e, fun _ => rfl⟩
    · rw [if_neg (fun z => e (pK_inj z)), h.iff]
      exact ⟨.inl, fun z => z.resolve_right e⟩
end GX
set_option Elab.async false
set_option linter.all false
set_option maxRecDepth 100000
set_option maxHeartbeats 4000000
namespace GX
open PySem PySem.Spec PyProof.Rows L2
def natsD (xs : List Nat) : List PyData := (xs.map fun n : Nat => (n : Int)).map PyData.int
theorem ints_can : ∀ xs : List Int, PyData.canLayAll0 (xs.map PyData.int) = true ∧ PyData.depthAll (xs.map PyData.int) ≤ 0
  | [] => ⟨rfl, Nat.zero_le _⟩
  | c :: r => by
    obtain ⟨h1, h2⟩ := ints_can r
    refine ⟨?_, ?_⟩
    · show (PyData.canLay0 (.int c) && PyData.canLayAll0 (r.map PyData.int)) = true
      rw [h1]
      rfl
    · show max (PyData.depth (.int c)) (PyData.depthAll (r.map PyData.int)) ≤ 0
      have : PyData.depth (.int c) = 0 := rfl
      omega
theorem natsD_tup (xs : List Nat) : SeqAt.shaped (.tuple (natsD xs)) = true := shaped_tup (ints_can _).1 (ints_can _).2 (by decide)
theorem natsD_lst (xs : List Nat) : SeqAt.shaped (.list (natsD xs)) = true := PySem.W.ke_shaped_ints _
theorem natsD_eqv : ∀ xs ys : List Nat, PyData.eqvAll (natsD xs) (natsD ys) = decide (xs = ys)
  | [], [] => rfl
  | [], _ :: _ => rfl
  | _ :: _, [] => rfl
  | x :: xs, y :: ys => by
    show (((x : Int) == (y : Int)) && PyData.eqvAll (natsD xs) (natsD ys)) = _
    rw [natsD_eqv xs ys]
    by_cases h : x = y
    · subst h
      rw [beq_self_eq_true, Bool.true_and]
      exact decide_eq_decide.mpr ⟨fun z => by rw [z], fun z => (List.cons.inj z).2⟩
    · rw [beq_false_of_ne (fun z => h (Int.ofNat_inj.mp z)), Bool.false_and]
      exact (decide_eq_false (fun z => h (List.cons.inj z).1)).symm
theorem natsD_eqT (xs ys : List Nat) : PyData.eqv (.tuple (natsD xs)) (.tuple (natsD ys)) = decide (xs = ys) := natsD_eqv xs ys
theorem natsD_eqL (xs ys : List Nat) : PyData.eqv (.list (natsD xs)) (.list (natsD ys)) = decide (xs = ys) := natsD_eqv xs ys
theorem dp_natT {K : PySem.W.Frag} {H : Hp} {p : Addr} {xs : List Nat} (h : H p = some (.tup (xs.map nV))) : Dp K H (.ref p) (.tuple (natsD xs)) := .tup (SqT.of h) (dpNat K H xs)
theorem dp_natL {K : PySem.W.Frag} {H : Hp} {p : Addr} {xs : List Nat} (h : H p = some (.lst (xs.map nV))) : Dp K H (.ref p) (.list (natsD xs)) := .lst (SqL.of h) (dpNat K H xs)
theorem Aft.dT {Ts : List Addr} {H H' : Hp} (a : Aft Ts H H') (t : Tabs Ts H) {b : Addr} {kvs : List (List L2.Key × V)} (e : H b = some (.dT kvs)) : H' b = some (.dT kvs) := a.kp b _ e (t.nott e fun _ z => by cases z)
theorem ShD.aft {Ts : List Addr} {H H' : Hp} {d : Addr} {S : List IP} {kvs : List (List L2.Key × V)} (h : ShD H d S kvs) (a : Aft Ts H H') (t : Tabs Ts H) : ShD H' d S kvs := ⟨a.dT t h.at_, h.len, h.iff⟩
theorem ShD.same {H H' : Hp} {d : Addr} {S : List IP} {kvs : List (List L2.Key × V)} (h : ShD H d S kvs) (s : Same H H') : ShD H' d S kvs := ⟨s _ _ h.at_, h.len, h.iff⟩
theorem Aft.tups {Ts : List Addr} {H H' : Hp} (a : Aft Ts H H') (t : Tabs Ts H) : Tups H H' := fun _ _ e => a.tup t e
theorem Aft.putN {Ts : List Addr} {H H' : Hp} {l : Addr} {o : HO} (a : Aft Ts H H') (t : Tabs Ts H) (n : H l = none) : Aft Ts H (L2.upd H' l o) := ⟨fun b u e nb => by rw [upd_ne (ne_of_none e n)]; exact a.kp b u e nb, a.tb.upd (t.none n)⟩
theorem outPs_at {n m : Net} {i : Nat} (h1 : i < n.outs.length) (h2 : i < m.outs.length) : (outPs n m)[i]? = some (((n.outs.getD i 0 : Nat) : Int), ((m.outs.getD i 0 : Nat) : Int)) := by
  unfold outPs
  rw [List.getElem?_map, List.getElem?_eq_getElem (by rw [List.length_zip]; omega), List.getElem_zip, List.getD_eq_getElem?_getD, List.getElem?_eq_getElem h1, List.getD_eq_getElem?_getD, List.getElem?_eq_getElem h2]
  rfl
theorem outPs_len (n m : Net) : (outPs n m).length = min n.outs.length m.outs.length := by unfold outPs; rw [List.length_map, List.length_zip]
theorem PrsOk.nd {n m : Net} {xs : List IP} (h : PrsOk n m xs) : (fsts xs).Nodup := h.rise.imp fun z => Nat.ne_of_lt z
end GX
set_option Elab.async false
set_option linter.all false
set_option maxRecDepth 100000
set_option maxHeartbeats 4000000
/-! Things, and likenesses among them. -/
namespace GX
open PySem PySem.Spec PyProof.Rows L2
/-- tuples stand; lists stay lists, dicts dicts -/
def KeepR (H H' : Hp) : Prop := ∀ b, (∀ vs, H b = some (.tup vs) → H' b = some (.tup vs)) ∧ (∀ xs, H b = some (.lst xs) → ∃ ys, H' b = some (.lst ys)) ∧ (∀ k, H b = some (.dK k) → ∃ k', H' b = some (.dK k'))
mutual
theorem Rep.keepR {H H' : Hp} (k : KeepR H H') : ∀ {v : V} {t : Th}, Rep H v t → Rep H' v t
  | _, _, .non => .non
  | _, _, .bl b => .bl b
  | _, _, .int i => .int i
  | _, _, .str x => .str x
  | _, _, .lst (a := a) e => .lst ((k a).2.1 _ e).choose_spec
  | _, _, .dic (a := a) e => .dic ((k a).2.2 _ e).choose_spec
  | _, _, .tup (a := a) e r => .tup ((k a).1 _ e) (r.keepR k)
theorem RepAll.keepR {H H' : Hp} (k : KeepR H H') : ∀ {vs : List V} {ts : List Th}, RepAll H vs ts → RepAll H' vs ts
  | _, _, .nil => .nil
  | _, _, .cons a b => .cons (a.keepR k) (b.keepR k)
end
theorem KeepR.refl (H : Hp) : KeepR H H := fun b => ⟨fun _ e => e, fun _ e => ⟨_, e⟩, fun _ e => ⟨_, e⟩⟩
theorem KeepR.trans {H1 H2 H3 : Hp} (a : KeepR H1 H2) (c : KeepR H2 H3) : KeepR H1 H3 := fun b => ⟨fun _ e => (c b).1 _ ((a b).1 _ e), fun _ e => by
  obtain ⟨_, e'⟩ := (a b).2.1 _ e
  exact (c b).2.1 _ e', fun _ e => by
  obtain ⟨_, e'⟩ := (a b).2.2 _ e
  exact (c b).2.2 _ e'⟩
theorem KeepR.same {H H' : Hp} (s : Same H H') : KeepR H H' := fun b => ⟨fun _ e => s _ _ e, fun _ e => ⟨_, s _ _ e⟩, fun _ e => ⟨_, s _ _ e⟩⟩
theorem KeepR.aft {Ts : List Addr} {H H' : Hp} (t : Tabs Ts H) (a : Aft Ts H H') : KeepR H H' := fun b => ⟨fun _ e => a.kp b _ e (t.nott e fun _ z => by cases z), fun _ e => ⟨_, a.kp b _ e (t.nott e fun _ z => by cases z)⟩, fun _ e => ⟨_, a.kp b _ e (t.nott e fun _ z => by cases z)⟩⟩
theorem KeepR.put {H : Hp} {l : Addr} {xs ys : List V} (h : H l = some (.lst xs)) : KeepR H (upd H l (.lst ys)) := fun b => by
  by_cases e : b = l
  · subst e
    exact ⟨fun _ z => (by rw [h] at z; cases z), fun _ _ => ⟨_, upd_same⟩, fun _ z => (by rw [h] at z; cases z)⟩
  · exact ⟨fun _ z => (by rw [upd_ne e]; exact z), fun _ z => ⟨_, by rw [upd_ne e]; exact z⟩, fun _ z => ⟨_, by rw [upd_ne e]; exact z⟩⟩
theorem KeepR.wk {W C : Addr} {H H' : Hp} (w : Wd H W C) (k : Wk2 W C H H') : KeepR H H' := fun b => by
  obtain ⟨ns, x, y, h1, h2, _⟩ := w.ex
  obtain ⟨ns', x', y', g1, g2, _⟩ := k.wl.ex
  by_cases e1 : b = W
  · subst e1
    exact ⟨fun _ z => (by rw [h1] at z; cases z), fun _ _ => ⟨_, g1⟩, fun _ z => (by rw [h1] at z; cases z)⟩
  · by_cases e2 : b = C
    · subst e2
      exact ⟨fun _ z => (by rw [h2] at z; cases z), fun _ _ => ⟨_, g2⟩, fun _ z => (by rw [h2] at z; cases z)⟩
    · exact ⟨fun _ z => k.at_ ⟨e1, e2⟩ z, fun _ z => ⟨_, k.at_ ⟨e1, e2⟩ z⟩, fun _ z => ⟨_, k.at_ ⟨e1, e2⟩ z⟩⟩
/-! ### pairs, steps -/
def thP (x : IP) : Th := .tup [.int x.1, .int x.2]
def thSt (s : Stp) : Th := .tup [.int s.a, .int s.b, .tup (s.ps.map thP)]
def thLk (ss : List Stp) : Th := .tup (ss.map thSt)
theorem rep_p {H : Hp} {p : Addr} {x : IP} (h : H p = some (.tup (pV x))) : Rep H (.ref p) (thP x) := .tup h (.cons (.int _) (.cons (.int _) .nil))
theorem p_rep {H : Hp} {v : V} {x : IP} (r : Rep H v (thP x)) : ∃ p, v = .ref p ∧ H p = some (.tup (pV x)) := by
  cases r with
  | @tup a vs _ e ra =>
    cases ra with
    | cons r1 ra =>
      cases ra with
      | cons r2 ra =>
        cases ra with
        | nil =>
          cases r1
          cases r2
          exact ⟨a, rfl, e⟩
theorem rep_ps {H : Hp} : ∀ {qs : List Addr} {xs : List IP}, RefsAt pV H qs xs → RepAll H (qs.map V.ref) (xs.map thP)
  | [], xs, h => by
    have : xs = [] := List.length_eq_zero_iff.mp h.1.symm
    subst this
    exact .nil
  | q :: qs, xs, h => by
    cases xs with
    | nil => cases h.1
    | cons y r => exact .cons (rep_p (h.2 0 q y rfl rfl)) (rep_ps ⟨Nat.succ.inj h.1, fun i p z e1 e2 => h.2 (i + 1) p z e1 e2⟩)
theorem ps_rep {H : Hp} : ∀ {vs : List V} {xs : List IP}, RepAll H vs (xs.map thP) → ∃ qs : List Addr, vs = qs.map V.ref ∧ RefsAt pV H qs xs
  | _, [], .nil => ⟨[], rfl, RefsAt.nil _ _⟩
  | _, x :: xs, .cons r ra => by
    obtain ⟨p, rfl, hp⟩ := p_rep r
    obtain ⟨qs, rfl, h⟩ := ps_rep ra
    exact ⟨p :: qs, rfl, by rw [List.length_cons, List.length_cons, h.1], fun i q y e1 e2 => by
      cases i with
      | zero => cases e1; cases e2; exact hp
      | succ i => exact h.2 i q y e1 e2⟩
theorem rep_psAt {H : Hp} {p : Addr} {xs : List IP} (h : PsAt H p xs) : Rep H (.ref p) (.tup (xs.map thP)) := by
  obtain ⟨qs, h1, h2⟩ := h
  exact .tup h1 (rep_ps h2)
theorem psAt_rep {H : Hp} {v : V} {xs : List IP} (r : Rep H v (.tup (xs.map thP))) : ∃ p, v = .ref p ∧ PsAt H p xs := by
  cases r with
  | @tup a vs _ e ra =>
    obtain ⟨qs, rfl, h⟩ := ps_rep ra
    exact ⟨a, rfl, qs, e, h⟩
theorem rep_st {H : Hp} {p : Addr} {s : Stp} (h : StAt H p s) : Rep H (.ref p) (thSt s) := by
  obtain ⟨q, h1, h2⟩ := h
  exact .tup h1 (.cons (.int _) (.cons (.int _) (.cons (rep_psAt h2) .nil)))
theorem rep_sts {H : Hp} : ∀ {qs : List Addr} {ss : List Stp}, PtsAt StAt H qs ss → RepAll H (qs.map V.ref) (ss.map thSt)
  | [], ss, h => by
    have : ss = [] := List.length_eq_zero_iff.mp h.1.symm
    subst this
    exact .nil
  | q :: qs, ss, h => by
    cases ss with
    | nil => cases h.1
    | cons y r => exact .cons (rep_st (h.2 0 q y rfl rfl)) (rep_sts ⟨Nat.succ.inj h.1, fun i p z e1 e2 => h.2 (i + 1) p z e1 e2⟩)
theorem rep_lk {H : Hp} {p : Addr} {ss : List Stp} (h : LkAt H p ss) : Rep H (.ref p) (thLk ss) := by
  obtain ⟨qs, h1, h2⟩ := h
  exact .tup h1 (rep_sts h2)
theorem thP_inj {x y : IP} (h : thP x = thP y) : x = y := by
  unfold thP at h
  injection h with h
  injection h with h1 h2
  injection h2 with h2 _
  exact Prod.ext (Th.int.inj h1) (Th.int.inj h2)
theorem thPs_inj : ∀ {xs ys : List IP}, xs.map thP = ys.map thP → xs = ys
  | [], [], _ => rfl
  | [], _ :: _, h => by cases h
  | _ :: _, [], h => by cases h
  | x :: xs, y :: ys, h => by
    rw [List.map_cons, List.map_cons] at h
    injection h with h1 h2
    rw [thP_inj h1, thPs_inj h2]
theorem thSt_inj {s t : Stp} (h : thSt s = thSt t) : s = t := by
  unfold thSt at h
  obtain ⟨a, b, ps⟩ := s
  obtain ⟨a', b', ps'⟩ := t
  injection h with h
  injection h with h1 h
  injection h with h2 h
  injection h with h3 _
  injection h3 with h3
  have h1' : a = a' := Th.int.inj h1
  have h2' : b = b' := Th.int.inj h2
  have h3' : ps = ps' := thPs_inj h3
  rw [h1', h2', h3']
theorem thSts_inj : ∀ {xs ys : List Stp}, xs.map thSt = ys.map thSt → xs = ys
  | [], [], _ => rfl
  | [], _ :: _, h => by cases h
  | _ :: _, [], h => by cases h
  | x :: xs, y :: ys, h => by
    rw [List.map_cons, List.map_cons] at h
    injection h with h1 h2
    rw [thSt_inj h1, thSts_inj h2]
theorem rep2 {H : Hp} {vs : List V} {ts : List Th} (r : RepAll H vs ts) (h : vs.length = 2) : ∃ a b x y, vs = [a, b] ∧ ts = [x, y] ∧ Rep H a x ∧ Rep H b y := by
  cases r with
  | nil => cases h
  | cons r1 r =>
    cases r with
    | nil => cases h
    | cons r2 r =>
      cases r with
      | nil => exact ⟨_, _, _, _, rfl, rfl, r1, r2⟩
      | cons _ _ => simp at h
theorem rep3' {H : Hp} {vs : List V} {ts : List Th} (r : RepAll H vs ts) (h : vs.length = 3) : ∃ a b c x y z, vs = [a, b, c] ∧ ts = [x, y, z] ∧ Rep H a x ∧ Rep H b y ∧ Rep H c z := by
  cases r with
  | nil => cases h
  | cons r1 r =>
    cases r with
    | nil => cases h
    | cons r2 r =>
      cases r with
      | nil => cases h
      | cons r3 r =>
        cases r with
        | nil => exact ⟨_, _, _, _, _, _, rfl, rfl, r1, r2, r3⟩
        | cons _ _ => simp at h
theorem len3_of {α : Type} {n : Nat} {k : Int} (h : ¬ ((!decide (V.int ((n : Nat) : Int) = V.int k)) = true)) : ((n : Nat) : Int) = k := V.int.inj (Classical.not_not.mp fun z => h (by rw [decide_eq_false z]; rfl))
theorem isB_iff {t : Th} {b : Int} : t.isB b = true ↔ ∃ i, t = .int i ∧ 0 ≤ i ∧ i < b := by
  cases t with
  | int i =>
    show (decide (0 ≤ i) && decide (i < b)) = true ↔ _
    rw [Bool.and_eq_true, decide_eq_true_iff, decide_eq_true_iff]
    exact ⟨fun h => ⟨i, rfl, h⟩, fun ⟨j, e, h⟩ => by cases e; exact h⟩
  | _ => exact ⟨fun h => (by cases h), fun ⟨_, e, _⟩ => by cases e⟩
theorem kTup_iff {t : Th} : t.kTup = true ↔ ∃ ts, t = .tup ts := by
  cases t with
  | tup ts => exact ⟨fun _ => ⟨ts, rfl⟩, fun _ => rfl⟩
  | _ => exact ⟨fun h => (by cases h), fun ⟨_, e⟩ => by cases e⟩
end GX
set_option Elab.async false
set_option linter.all false
set_option maxRecDepth 100000
set_option maxHeartbeats 4000000
/-! The way past some wires, step by step up what is free. -/
namespace GX
open PySem PySem.Spec PyProof.Rows L2
def stB (n : Net) (x y : Nat) : Bool := decide (n.many ≤ y) && (match n.gates[y - n.many]? with | some k => decide (x = k.2.1 ∨ x = k.2.2) | none => false)
theorem stB_iff {n : Net} {x y : Nat} : stB n x y = true ↔ isSt n x y := by
  unfold stB isSt
  rw [Bool.and_eq_true, decide_eq_true_iff]
  refine ⟨fun ⟨h1, h2⟩ => ⟨h1, ?_⟩, fun ⟨h1, k, hk, h2⟩ => ⟨h1, ?_⟩⟩
  · cases e : n.gates[y - n.many]? with
    | none => rw [e] at h2; cases h2
    | some k =>
      rw [e] at h2
      exact ⟨k, rfl, of_decide_eq_true h2⟩
  · rw [hk]
    exact decide_eq_true h2
def lastD (ys : List Nat) : Nat := ys.getD (ys.length - 1) 0
def wpStep (n : Net) (ys : List Nat) (s : Nat) : List Nat := if stB n (lastD ys) s = true then ys ++ [s] else ys
def wpOf (n : Net) (xs : List Nat) : List Nat := xs.foldl (wpStep n) [xs.getD 0 0]
structure WpInv (n : Net) (xs ys : List Nat) (i : Nat) : Prop where
  ne : 0 < ys.length
  len : ys.length ≤ i + 1
  sub : ∀ y ∈ ys, y ∈ xs
  first : ys.getD 0 0 = xs.getD 0 0
  steps : ∀ j, j + 1 < ys.length → isSt n (ys.getD j 0) (ys.getD (j + 1) 0)
  no : ∀ j, j < i → lastD ys < xs.getD j 0 → ¬ isSt n (lastD ys) (xs.getD j 0)
theorem lastD_snoc (ys : List Nat) (s : Nat) : lastD (ys ++ [s]) = s := by
  unfold lastD
  rw [List.length_append, List.length_singleton, Nat.add_sub_cancel, List.getD_eq_getElem?_getD, List.getElem?_append_right (Nat.le_refl _), Nat.sub_self]
  rfl
theorem rise_getD {xs : List Nat} (h : xs.Pairwise (· < ·)) {i j : Nat} (hij : i < j) (hj : j < xs.length) : xs.getD i 0 < xs.getD j 0 := by
  rw [List.getD_eq_getElem?_getD, List.getD_eq_getElem?_getD, List.getElem?_eq_getElem (by omega : i < xs.length), List.getElem?_eq_getElem hj]
  exact List.pairwise_iff_getElem.mp h i j (by omega) hj hij
theorem wp_take {n : Net} {xs : List Nat} {i : Nat} (hi : i < xs.length) (a : List Nat) : (xs.take (i + 1)).foldl (wpStep n) a = wpStep n ((xs.take i).foldl (wpStep n) a) (xs.getD i 0) := by
  rw [List.take_add_one, List.getElem?_eq_getElem hi, Option.toList_some, List.foldl_append, List.getD_eq_getElem?_getD, List.getElem?_eq_getElem hi]
  rfl
theorem wp_inv {n : Net} {xs : List Nat} (h0 : 0 < xs.length) (hr : xs.Pairwise (· < ·)) : ∀ i, i ≤ xs.length → WpInv n xs ((xs.take i).foldl (wpStep n) [xs.getD 0 0]) i
  | 0, _ => ⟨Nat.zero_lt_one, Nat.le_refl _, fun y hy => by rw [List.mem_singleton.mp hy]; exact getD_mem h0, rfl, fun j hj => absurd hj (by show ¬ (j + 1 < 1); omega), fun j hj => absurd hj (Nat.not_lt_zero _)⟩
  | i + 1, hi => by
    have v := wp_inv (n := n) h0 hr i (by omega)
    rw [wp_take (by omega)]
    generalize (xs.take i).foldl (wpStep n) [xs.getD 0 0] = ys at v ⊢
    have y0 := v.ne
    unfold wpStep
    by_cases e : stB n (lastD ys) (xs.getD i 0) = true
    · rw [if_pos e]
      refine ⟨by rw [List.length_append]; omega, by rw [List.length_append, List.length_singleton]; have := v.len; omega, fun y hy => ?_, ?_, fun j hj => ?_, fun j hj hl => ?_⟩
      · rcases List.mem_append.mp hy with hy | hy
        · exact v.sub y hy
        · rw [List.mem_singleton.mp hy]
          exact getD_mem (by omega)
      · rw [getD_pre y0]
        exact v.first
      · rw [List.length_append, List.length_singleton] at hj
        by_cases hj' : j + 1 < ys.length
        · rw [getD_pre hj', getD_pre (by omega)]
          exact v.steps j hj'
        · have ej : j = ys.length - 1 := by omega
          have e1 : (ys ++ [xs.getD i 0]).getD j 0 = lastD ys := by
            rw [getD_pre (by omega), ej]
            rfl
          have e2 : (ys ++ [xs.getD i 0]).getD (j + 1) 0 = xs.getD i 0 := by
            rw [getD_post (by omega), show j + 1 - ys.length = 0 by omega]
            rfl
          rw [e1, e2]
          exact stB_iff.mp e
      · rw [lastD_snoc] at hl
        exfalso
        by_cases hji : j = i
        · rw [hji] at hl
          omega
        · have := rise_getD hr (i := j) (j := i) (by omega) (by omega)
          omega
    · rw [if_neg e]
      refine ⟨y0, by have := v.len; omega, v.sub, v.first, v.steps, fun j hj hl => ?_⟩
      by_cases hji : j = i
      · rw [hji]
        exact fun z => e (stB_iff.mpr z)
      · exact v.no j (by omega) hl
theorem wp_way {n : Net} (ok : n.Ok) {st xs : List Nat} {gt : Nat} (hg : gt < n.many + n.gates.length) (rs : Rset n st gt xs) (h0 : 0 < xs.length) (hf : xs.getD 0 0 < n.many) : Way n gt (wpOf n xs) ∧ ∀ y ∈ wpOf n xs, y ∈ xs := by
  have v := wp_inv (n := n) h0 rs.1 xs.length (Nat.le_refl _)
  rw [List.take_length] at v
  have v' : WpInv n xs (wpOf n xs) xs.length := v
  generalize wpOf n xs = ys at v'
  have y0 := v'.ne
  have lm : lastD ys ∈ xs := v'.sub _ (getD_mem (by omega))
  have hlast : lastD ys = gt := by
    cases (rs.2 _).mp lm with
    | here _ => rfl
    | @step g _ k r1 hgm hj hk hp hs =>
      have gx := (rs.2 g).mpr r1
      obtain ⟨j, hj', ej⟩ := mem_getD gx
      have lt := place_lt ok hgm hk hp
      exact absurd ⟨by rw [ej]; exact hgm, k, by rw [ej]; exact hk, hp⟩ (v'.no j hj' (by rw [ej]; exact lt))
  refine ⟨⟨y0, fun y hy => ?_, by rw [v'.first]; exact hf, hlast, v'.steps⟩, v'.sub⟩
  have := ((rs.2 y).mp (v'.sub y hy)).le ok
  omega
def wpRes (n : Net) (xs : List Nat) : Option (List Nat) := if xs.length = 0 ∨ n.many ≤ xs.getD 0 0 then none else some (wpOf n xs)
theorem wp_sep {n : Net} {st xs : List Nat} {gt : Nat} (rs : Rset n st gt xs) : Sep n gt st ↔ (xs.length = 0 ∨ n.many ≤ xs.getD 0 0) := by
  refine ⟨fun h => ?_, fun h y r => ?_⟩
  · by_cases e : xs.length = 0
    · exact .inl e
    · exact .inr (h _ ((rs.2 _).mp (getD_mem (by omega))))
  · have hy := (rs.2 y).mpr r
    obtain ⟨j, hj, ej⟩ := mem_getD hy
    rcases h with h | h
    · omega
    · by_cases e : j = 0
      · rw [← ej, e]
        exact h
      · have := rise_getD rs.1 (i := 0) (j := j) (by omega) hj
        omega
/-- None, or a tuple of whole numbers -/
def VRep (H : Hp) (v : V) : Option (List Nat) → Prop
  | none => v = .non
  | some ys => ∃ p, v = .ref p ∧ H p = some (.tup (ys.map nV))
theorem VRep.mono {H H' : Hp} {v : V} {r : Option (List Nat)} (h : VRep H v r) (k : ∀ b xs, H b = some (.tup xs) → H' b = some (.tup xs)) : VRep H' v r := by
  cases r with
  | none => exact h
  | some ys =>
    obtain ⟨p, e, hp⟩ := h
    exact ⟨p, e, k _ _ hp⟩
theorem dpNs (K : PySem.W.Frag) (H : Hp) : ∀ xs : List Nat, DpAll K H (xs.map nV) ((xs.map fun n : Nat => (n : Int)).map PyData.int)
  | [] => .nil
  | x :: r => .cons (.int _) (dpNs K H r)
/-- the same, compared -/
theorem VRep.dp {K : PySem.W.Frag} {H : Hp} {v : V} {r : Option (List Nat)} (h : VRep H v r) : ∃ d, (∀ v' : V, VRep H v' r → Dp K H v' d) ∧ SeqAt.shaped d = true ∧ PyData.eqv d d = true := by
  cases r with
  | none => exact ⟨.none, fun v' e => by cases e; exact .non, rfl, rfl⟩
  | some ys =>
    have sh : SeqAt.shaped (.tuple ((ys.map fun n : Nat => (n : Int)).map PyData.int)) = true := PySem.W.ke_shaped_ints (ys.map fun n : Nat => (n : Int))
    exact ⟨.tuple ((ys.map fun n : Nat => (n : Int)).map PyData.int), fun v' ⟨p, e, hp⟩ => by subst e; exact .tup (SqT.of hp) (dpNs K H ys), sh, SeqAt.eqv_refl _ (SeqAt.canLay_of_shaped sh)⟩
end GX
set_option Elab.async false
set_option linter.all false
set_option maxRecDepth 100000
set_option maxHeartbeats 4000000
/-! Covers among things. -/
namespace GX
open PySem PySem.Spec PyProof.Rows L2
theorem pts_rep {α : Type} {R : Hp → Addr → α → Prop} {f : α → Th} {H : Hp} (h : ∀ p x, R H p x → Rep H (.ref p) (f x)) : ∀ {qs : List Addr} {xs : List α}, PtsAt R H qs xs → RepAll H (qs.map V.ref) (xs.map f)
  | [], xs, p => by
    have : xs = [] := List.length_eq_zero_iff.mp p.1.symm
    subst this
    exact .nil
  | q :: qs, xs, p => by
    cases xs with
    | nil => cases p.1
    | cons y r => exact .cons (h q y (p.2 0 q y rfl rfl)) (pts_rep h ⟨Nat.succ.inj p.1, fun i p' z e1 e2 => p.2 (i + 1) p' z e1 e2⟩)
theorem rep_pts {α : Type} {R : Hp → Addr → α → Prop} {f : α → Th} {H : Hp} (h : ∀ v x, Rep H v (f x) → ∃ p, v = .ref p ∧ R H p x) : ∀ {vs : List V} {xs : List α}, RepAll H vs (xs.map f) → ∃ qs : List Addr, vs = qs.map V.ref ∧ PtsAt R H qs xs
  | _, [], .nil => ⟨[], rfl, PtsAt.nil _ _⟩
  | _, x :: xs, .cons r ra => by
    obtain ⟨p, rfl, hp⟩ := h _ _ r
    obtain ⟨qs, rfl, h'⟩ := rep_pts h ra
    exact ⟨p :: qs, rfl, h'.cons hp⟩
theorem map_inj' {α : Type} {f : α → Th} (h : ∀ x y, f x = f y → x = y) : ∀ {xs ys : List α}, xs.map f = ys.map f → xs = ys
  | [], [], _ => rfl
  | [], _ :: _, e => by cases e
  | _ :: _, [], e => by cases e
  | x :: xs, y :: ys, e => by
    rw [List.map_cons, List.map_cons] at e
    injection e with h1 h2
    rw [h _ _ h1, map_inj' h h2]
theorem tup_inj {xs ys : List Th} (h : Th.tup xs = Th.tup ys) : xs = ys := by injection h
theorem int_inj {x y : Int} (h : Th.int x = Th.int y) : x = y := by injection h
def thW (x : Nat) : Th := .int ((x : Nat) : Int)
theorem thW_inj (x y : Nat) (h : thW x = thW y) : x = y := Int.ofNat_inj.mp (int_inj h)
def thWs (xs : List Nat) : Th := .tup (xs.map thW)
theorem thWs_inj {xs ys : List Nat} (h : thWs xs = thWs ys) : xs = ys := map_inj' thW_inj (tup_inj h)
theorem rep_nats {H : Hp} : ∀ xs : List Nat, RepAll H (xs.map nV) (xs.map thW)
  | [] => .nil
  | x :: xs => .cons (.int _) (rep_nats xs)
theorem nats_rep {H : Hp} : ∀ {vs : List V} {xs : List Nat}, RepAll H vs (xs.map thW) → vs = xs.map nV
  | _, [], .nil => rfl
  | _, x :: xs, .cons r ra => by
    have e : ∀ v, Rep H v (thW x) → v = nV x := fun v r => by
      unfold thW at r
      cases r
      rfl
    rw [e _ r, nats_rep ra]
    rfl
theorem rep_wsT {H : Hp} {p : Addr} {xs : List Nat} (h : H p = some (.tup (xs.map nV))) : Rep H (.ref p) (thWs xs) := .tup h (rep_nats xs)
theorem wsT_rep {H : Hp} {v : V} {xs : List Nat} (r : Rep H v (thWs xs)) : ∃ p, v = .ref p ∧ H p = some (.tup (xs.map nV)) := by
  unfold thWs at r
  cases r with
  | @tup a vs _ e ra => exact ⟨a, rfl, by rw [e, nats_rep ra]⟩
def thTb (t : Tb) : Th := .tup [thW t.1, thWs t.2]
def thCv (cv : List Tb) : Th := .tup (cv.map thTb)
theorem thTb_inj (t u : Tb) (h : thTb t = thTb u) : t = u := by
  have h := tup_inj h
  injection h with h1 h2
  injection h2 with h2 _
  exact Prod.ext (thW_inj _ _ h1) (thWs_inj h2)
theorem thCv_inj {cv cw : List Tb} (h : thCv cv = thCv cw) : cv = cw := map_inj' thTb_inj (tup_inj h)
theorem rep_tb {H : Hp} (p : Addr) (t : Tb) (h : TbAt H p t) : Rep H (.ref p) (thTb t) := by
  obtain ⟨c, h1, h2⟩ := h
  exact .tup h1 (.cons (.int _) (.cons (rep_wsT h2) .nil))
theorem tb_rep {H : Hp} (v : V) (t : Tb) (r : Rep H v (thTb t)) : ∃ p, v = .ref p ∧ TbAt H p t := by
  unfold thTb at r
  cases r with
  | @tup a vs _ e ra =>
    obtain ⟨v1, v2, x, y, rfl, e2, r1, r2⟩ := rep2 ra (by have := ra.length; simpa using this)
    injection e2 with e3 e4
    injection e4 with e4 _
    subst e3 e4
    obtain ⟨c, rfl, hc⟩ := wsT_rep r2
    unfold thW at r1
    cases r1
    exact ⟨a, rfl, c, e, hc⟩
theorem rep_cv {H : Hp} {a : Addr} {cv : List Tb} {qs : List Addr} (h : CovAt H a cv qs) : Rep H (.ref a) (thCv cv) := .tup h.top (pts_rep rep_tb h.ts)
theorem cv_rep {H : Hp} {v : V} {cv : List Tb} (r : Rep H v (thCv cv)) : ∃ a qs, v = .ref a ∧ CovAt H a cv qs := by
  unfold thCv at r
  cases r with
  | @tup a vs _ e ra =>
    obtain ⟨qs, rfl, p⟩ := rep_pts tb_rep ra
    exact ⟨a, qs, rfl, e, p⟩
/-- a thing that is no tuple -/
theorem Rep.tupI {H : Hp} {v : V} {t : Th} (r : Rep H v t) (h : ¬ ((!t.kTup) = true)) : ∃ a vs ts, v = .ref a ∧ t = .tup ts ∧ H a = some (.tup vs) ∧ RepAll H vs ts := by
  cases r with
  | @tup a vs ts e ra => exact ⟨a, vs, ts, rfl, rfl, e, ra⟩
  | _ => exact absurd rfl h
theorem yesK {t : Th} (h : (!t.kTup) = true) : ∀ ts, t ≠ .tup ts := fun ts e => by
  rw [e] at h
  cases h
theorem isB_nat {t : Th} {b : Nat} : t.isB ((b : Nat) : Int) = true ↔ ∃ x : Nat, t = thW x ∧ x < b := by
  rw [isB_iff]
  constructor
  · rintro ⟨i, e, h0, h1⟩
    obtain ⟨x, rfl⟩ := Int.eq_ofNat_of_zero_le h0
    exact ⟨x, e, by omega⟩
  · rintro ⟨x, e, h⟩
    exact ⟨_, e, by omega, by omega⟩
end GX
set_option Elab.async false
set_option linter.all false
set_option maxRecDepth 100000
set_option maxHeartbeats 4000000
/-! x = {k: v for ..}: a dict comprehension given to a name. -/
namespace GX
open PySem PySem.Spec PyProof.Rows L2
section
variable {X : Cx}
theorem sw_trueD {kx vx : Expr} {cs : List Comprehension} {sc : Scope} {p py : Pos} {y : Str} {l : Nat} {env : Env} (hk : env.scope.kind = .function) (hy : env.scope.names.lookup y = some .local) (hl : (py.line == p.line) = true)
    (ha : (sc.names.any fun (n, k) => n == y && (k == .local || k == .cell)) = false) : swapsWith (.DictComp kx vx cs sc p) (some (.Name y py)) l env = pure true := by
  have k1 : env.kindOf y = some .local := hy
  have k2 : env.blockKind = .function := by unfold Env.blockKind; rw [hk]; rfl
  unfold swapsWith
  simp only [k2, k1, ha, Expr.pos, hl]
  rfl
theorem ps_setDc {i : Nat} {y : Str} {py : Pos} {kx vx tg it : Expr} {ifs : List Expr} {sc : Scope} {own : List (Str × Nat)} {p sp : Pos} {wi : TI} {g : TG} {tt : TT} {tk tv : TE} (hc : X.calm = true) (hN : X.N.Nodup) (hy : X.N[i]? = some y) (hyl : X.env.scope.names.lookup y = some .local)
    (sw : swapsWith (.DictComp kx vx [⟨tg, it, ifs, 0⟩] sc p) (some (.Name y py)) sp.line X.env = pure true) (hi : PI X tg it wi) (ok : BlkOk X.N X.env.scope sc own)
    (hg : ∀ (s : Shared) (H : Hp) (C : Addr) (cl : List (Str × Addr)) (fp : List Addr), PG (X.blk s H sc (compEnvC sc cl C X.env) fp) tg g) (ht : ∀ (s : Shared) (H : Hp) (C : Addr) (cl : List (Str × Addr)) (fp : List Addr), PTs (X.blk s H sc (compEnvC sc cl C X.env) fp) ifs tt)
    (hk : ∀ (s : Shared) (H : Hp) (C : Addr) (cl : List (Str × Addr)) (fp : List Addr), PE (X.blk s H sc (compEnvC sc cl C X.env) fp) kx tk)
    (he : ∀ (s : Shared) (H : Hp) (C : Addr) (cl : List (Str × Addr)) (fp : List Addr), PE (X.blk s H sc (compEnvC sc cl C X.env) fp) vx tv) (hs : ∀ x, foldedSetIterable it X.env x = pure x := by intro _; rfl) :
    PS X (.Assign [.Name y py] (.DictComp kx vx [⟨tg, it, ifs, 0⟩] sc p) sp) (tAsg (tDc wi g tt tk tv (own.map (·.2))) (gName i)) := by
  refine ⟨fun pins s σ H D I hh => ?_⟩
  rw [exec_Assign_Name_used _ _ _ _ sw]
  refine wpAny_bind (wpAny_standAt (wpAny_bind ?_))
  show wpAny _ X.A (do let _ ← comprehension (.DictComp kx vx [⟨tg, it, ifs, 0⟩] sc p) sc X.env (firstIterPos [⟨tg, it, ifs, 0⟩] p) newDict false (eval it X.env) (some (assign (.Name y py) X.env))) _ _ s
  have hh : tDc wi g tt tk tv (own.map (·.2)) σ H (fun x H1 => gName i x σ H1 D.nx) := hh
  refine wpAny_bind (thn (dc_core (Qf := fun _ t => SP X pins D .next t) hc hN I hi ok hg ht hk he hs hh fun L C t m H' I' q hn f => ?_) fun _ t hq => wpAny_pure (wpAny_pure hq))
  show wpAny _ _ (assign (.Name y py) X.env (.ref L)) _ _ _
  refine wpAny_assign_Name (store_ok2 (v := V.ref L) I' hN hy (.inl hyl) rfl (fun t2 I2 ⟨a, sb, ha⟩ => ?_) (.inr hyl))
  obtain ⟨f0, f1, f2, f3, f4, f5⟩ := f
  have nC : C ≠ a := by
    rcases ha with z | z
    · rw [z]; exact f1
    · exact fun e => f4 y a z e.symm
  refine ⟨m, hn.sameBut sb nC, fun h3 sb3 => ⟨_, H', I2.turned (t' := t2.toks) (fun b o hb e => (sb3.2 b hb).trans e) f0 f1 f3 f4 f5, q⟩⟩
end
end GX
set_option Elab.async false
set_option linter.all false
set_option maxRecDepth 100000
set_option maxHeartbeats 4000000
/-! Cuts put together as tuples. -/
namespace GX
open PySem PySem.Spec PyProof.Rows L2
/-! ### a dict whose keys are tuples of numbers -/
def kvT (F : List (List Nat)) : List (List L2.Key × V) := F.map fun c => (c.map nK, V.bl true)
theorem kvT_len (F : List (List Nat)) : (kvT F).length = F.length := List.length_map _
theorem mapK_inj : ∀ {c d : List Nat}, c.map nK = d.map nK → c = d
  | [], [], _ => rfl
  | [], _ :: _, h => by cases h
  | _ :: _, [], h => by cases h
  | x :: c, y :: d, h => by
    obtain ⟨h1, h2⟩ := List.cons.inj h
    rw [nK_inj h1, mapK_inj h2]
theorem mapKV (c : List Nat) : (c.map nK).map kV = c.map nV := by
  rw [List.map_map]
  rfl
theorem kvT_any (F : List (List Nat)) (c : List Nat) : ((kvT F).any fun kv => decide (kv.1 = c.map nK)) = decide (c ∈ F) := by
  by_cases h : c ∈ F
  · rw [decide_eq_true h, List.any_eq_true]
    exact ⟨(c.map nK, .bl true), List.mem_map.mpr ⟨c, h, rfl⟩, decide_eq_true rfl⟩
  · rw [decide_eq_false h, List.any_eq_false]
    intro kv hkv e
    obtain ⟨d, hd, rfl⟩ := List.mem_map.mp hkv
    exact h (by rw [← mapK_inj (of_decide_eq_true e)]; exact hd)
theorem kvT_put {F : List (List Nat)} {c : List Nat} (h : c ∉ F) : putK (kvT F) (c.map nK) (.bl true) = kvT (F ++ [c]) := by
  unfold putK
  rw [kvT_any, decide_eq_false h, if_neg Bool.false_ne_true]
  unfold kvT
  rw [List.map_append]
  rfl
theorem kvT_again {F : List (List Nat)} {c : List Nat} (h : c ∈ F) : putK (kvT F) (c.map nK) (.bl true) = kvT F := by
  unfold putK
  rw [kvT_any, decide_eq_true h, if_pos rfl]
  conv => rhs; rw [← List.map_id (kvT F)]
  refine List.map_congr_left fun kv hkv => ?_
  obtain ⟨y, _, rfl⟩ := List.mem_map.mp hkv
  by_cases e : y.map nK = c.map nK
  · rw [if_pos e]; rfl
  · rw [if_neg e]; rfl
/-! ### masks of rising lists -/
theorem mask_inj {c d : List Nat} (hc : c.Pairwise (· < ·)) (hd : d.Pairwise (· < ·)) (h : maskOf c = maskOf d) : c = d := by rw [← bits_mask hc, ← bits_mask hd, h]
theorem mask_union {c f s : List Nat} (h : ∀ x, x ∈ c ↔ x ∈ f ++ s) : maskOf c = maskOf f ||| maskOf s := by
  apply Nat.eq_of_testBit_eq
  intro j
  rw [mask_bit, Nat.testBit_or, mask_bit, mask_bit, ← Bool.decide_or]
  refine decide_eq_decide.mpr ?_
  rw [h, List.mem_append]
theorem mask_pop {c : List Nat} (h : c.Pairwise (· < ·)) : pop (maskOf c) = c.length := by unfold pop; rw [bits_mask h]
theorem mask_sub {c d : List Nat} : Sub (maskOf c) (maskOf d) ↔ ∀ x ∈ c, x ∈ d := by
  constructor
  · intro h x hx
    have := h x (by rw [mask_bit]; exact decide_eq_true hx)
    rw [mask_bit] at this
    exact of_decide_eq_true this
  · intro h j hj
    rw [mask_bit] at hj ⊢
    exact decide_eq_true (h j (of_decide_eq_true hj))
theorem mask_pos {c : List Nat} (h : 0 < c.length) : 0 < maskOf c := Nat.pos_of_ne_zero fun z => by
  cases c with
  | nil => cases h
  | cons x r =>
    have : (maskOf (x :: r)).testBit x = true := by rw [mask_bit]; exact decide_eq_true List.mem_cons_self
    rw [z, Nat.zero_testBit] at this
    cases this
theorem mask_lt {c : List Nat} {m : Nat} (h : ∀ x ∈ c, x < m) : maskOf c < 2 ^ m := by
  induction c with
  | nil => exact Nat.two_pow_pos m
  | cons x r ih =>
    show 2 ^ x ||| maskOf r < 2 ^ m
    exact Nat.or_lt_two_pow (Nat.pow_lt_pow_right (by decide) (h x List.mem_cons_self)) (ih fun y hy => h y (List.mem_cons_of_mem _ hy))
/-! ### least ones, those of few wires first -/
def SubL (c d : List Nat) : Prop := ∀ x ∈ c, x ∈ d
def Minl (F : List (List Nat)) (c : List Nat) : Prop := ∀ c' ∈ F, SubL c' c → c' = c
theorem minl_ex {F : List (List Nat)} (rise : ∀ c ∈ F, c.Pairwise (· < ·)) : ∀ b c, c.length ≤ b → c ∈ F → ∃ m ∈ F, SubL m c ∧ Minl F m
  | b, c, hb, hc => by
    by_cases h : Minl F c
    · exact ⟨c, hc, fun x hx => hx, h⟩
    · obtain ⟨c', h1⟩ := Classical.not_forall.mp h
      obtain ⟨h2, h3⟩ := Classical.not_imp.mp h1
      obtain ⟨h4, h5⟩ := Classical.not_imp.mp h3
      have lt : c'.length < c.length := by
        have le := nodup_len ((rise c' h2).imp fun h => Nat.ne_of_lt h) h4
        refine Nat.lt_of_le_of_ne le fun e => h5 ?_
        have sub : ∀ x ∈ c, x ∈ c' := fun x hx => Classical.not_not.mp fun hn => by
          have nd : (x :: c').Nodup := List.nodup_cons.mpr ⟨hn, (rise c' h2).imp fun h => Nat.ne_of_lt h⟩
          have := nodup_len nd (ys := c) fun y hy => by
            rcases List.mem_cons.mp hy with e | e
            · rw [e]; exact hx
            · exact h4 y e
          rw [List.length_cons] at this
          omega
        exact rise_eq (rise c' h2) (rise c hc) fun z => ⟨h4 z, sub z⟩
      cases b with
      | zero => omega
      | succ b =>
        obtain ⟨m, m1, m2, m3⟩ := minl_ex rise b c' (by omega) h2
        exact ⟨m, m1, fun x hx => h4 x (m2 x hx), m3⟩
theorem subl_len {c d : List Nat} (hc : c.Pairwise (· < ·)) (hd : d.Pairwise (· < ·)) (h : SubL c d) (ne : c ≠ d) : c.length < d.length := by
  have le := nodup_len (hc.imp fun h => Nat.ne_of_lt h) h
  refine Nat.lt_of_le_of_ne le fun e => ne ?_
  have sub : ∀ x ∈ d, x ∈ c := fun x hx => Classical.not_not.mp fun hn => by
    have nd : (x :: c).Nodup := List.nodup_cons.mpr ⟨hn, hc.imp fun h => Nat.ne_of_lt h⟩
    have := nodup_len nd (ys := d) fun y hy => by
      rcases List.mem_cons.mp hy with e | e
      · rw [e]; exact hx
      · exact h y e
    rw [List.length_cons] at this
    omega
  exact rise_eq hc hd fun z => ⟨h z, sub z⟩
/-- what is kept so far: all least ones below a size, and the first few of it -/
structure KeptL (F : List (List Nat)) (s : Nat) (rows : List (List Nat)) (R : List (List Nat)) : Prop where
  nd : R.Nodup
  mem : ∀ c, c ∈ R ↔ ((c ∈ F ∧ c.length < s ∨ c ∈ rows) ∧ Minl F c)
theorem KeptL.test {F : List (List Nat)} (rise : ∀ c ∈ F, c.Pairwise (· < ·)) {s : Nat} {rows R : List (List Nat)} (h : KeptL F s rows R) {c : List Nat} (hc : c ∈ F) (hs : c.length = s) (hr : c ∉ rows) (hrf : ∀ c ∈ rows, c ∈ F) : (∀ m ∈ R, ¬ SubL m c) ↔ Minl F c := by
  constructor
  · intro a c' hc' hsub
    refine Classical.not_not.mp fun ne => ?_
    obtain ⟨m, m1, m2, m3⟩ := minl_ex rise _ c' (Nat.le_refl _) hc'
    have mc : SubL m c := fun x hx => hsub x (m2 x hx)
    have mne : m ≠ c := fun e => by
      have : SubL c c' := by rw [← e]; exact m2
      exact ne (rise_eq (rise c' hc') (rise c hc) fun z => ⟨hsub z, this z⟩)
    have := subl_len (rise m m1) (rise c hc) mc mne
    exact a m ((h.mem m).mpr ⟨.inl ⟨m1, by omega⟩, m3⟩) mc
  · intro hm m hmR hsub
    obtain ⟨h1, _⟩ := (h.mem m).mp hmR
    have mF : m ∈ F := h1.elim (fun z => z.1) (hrf m)
    have e := hm m mF hsub
    rw [e] at h1
    rcases h1 with z | z
    · omega
    · exact hr z
theorem KeptL.yes {F : List (List Nat)} {s : Nat} {rows R : List (List Nat)} (h : KeptL F s rows R) {c : List Nat} (hs : c.length = s) (hr : c ∉ rows) (hm : Minl F c) : KeptL F s (rows ++ [c]) (R ++ [c]) := by
  refine ⟨?_, fun d => ?_⟩
  · refine List.nodup_append.mpr ⟨h.nd, List.nodup_cons.mpr ⟨fun z => (by cases z), List.nodup_nil⟩, fun a ha b hb e => ?_⟩
    rw [List.mem_singleton.mp hb] at e
    rw [e] at ha
    rcases ((h.mem c).mp ha).1 with z | z
    · omega
    · exact hr z
  · rw [List.mem_append, h.mem, List.mem_append, List.mem_singleton]
    constructor
    · rintro (⟨h1, h2⟩ | rfl)
      · exact ⟨h1.imp id .inl, h2⟩
      · exact ⟨.inr (.inr rfl), hm⟩
    · rintro ⟨h1 | h1 | rfl, h2⟩
      · exact .inl ⟨.inl h1, h2⟩
      · exact .inl ⟨.inr h1, h2⟩
      · exact .inr rfl
theorem KeptL.no {F : List (List Nat)} {s : Nat} {rows R : List (List Nat)} (h : KeptL F s rows R) {c : List Nat} (hm : ¬ Minl F c) : KeptL F s (rows ++ [c]) R := by
  refine ⟨h.nd, fun d => ?_⟩
  rw [h.mem, List.mem_append, List.mem_singleton]
  constructor
  · rintro ⟨h1, h2⟩
    exact ⟨h1.imp id .inl, h2⟩
  · rintro ⟨h1 | h1 | rfl, h2⟩
    · exact ⟨.inl h1, h2⟩
    · exact ⟨.inr h1, h2⟩
    · exact absurd h2 hm
theorem KeptL.next {F : List (List Nat)} {s : Nat} {R : List (List Nat)} (h : KeptL F s (F.filter fun c => decide (c.length = s)) R) : KeptL F (s + 1) [] R := by
  refine ⟨h.nd, fun c => ?_⟩
  rw [h.mem]
  refine and_congr_left fun _ => ?_
  rw [List.mem_filter, decide_eq_true_iff]
  constructor
  · rintro (⟨h1, h2⟩ | ⟨h1, h2⟩)
    · exact .inl ⟨h1, by omega⟩
    · exact .inl ⟨h1, by omega⟩
  · rintro (⟨h1, h2⟩ | h1)
    · by_cases e : c.length = s
      · exact .inr ⟨h1, e⟩
      · exact .inl ⟨h1, by omega⟩
    · cases h1
/-- the least ones as masks -/
theorem kept_masks {F R : List (List Nat)} (rise : ∀ c ∈ F, c.Pairwise (· < ·)) (pos : ∀ c ∈ F, 0 < c.length) (hR : ∀ c, c ∈ R ↔ (c ∈ F ∧ Minl F c)) (M : Nat) : M ∈ R.map maskOf ↔ M ∈ (F.map maskOf).filter fun M => !hasPart (F.map maskOf) M := by
  have key : ∀ c ∈ F, (hasPart (F.map maskOf) (maskOf c) = true ↔ ¬ Minl F c) := fun c hc => by
    rw [hasPart_iff]
    constructor
    · rintro ⟨p, hp, p0, pne, ps⟩ hm
      obtain ⟨c', hc', rfl⟩ := List.mem_map.mp hp
      exact pne (by rw [hm c' hc' (mask_sub.mp ps)])
    · intro h
      obtain ⟨c', h1⟩ := Classical.not_forall.mp h
      obtain ⟨h2, h3⟩ := Classical.not_imp.mp h1
      obtain ⟨h4, h5⟩ := Classical.not_imp.mp h3
      exact ⟨maskOf c', List.mem_map.mpr ⟨c', h2, rfl⟩, mask_pos (pos c' h2), fun e => h5 (mask_inj (rise c' h2) (rise c hc) e), mask_sub.mpr h4⟩
  rw [List.mem_map, List.mem_filter, List.mem_map]
  constructor
  · rintro ⟨c, hc, rfl⟩
    obtain ⟨h1, h2⟩ := (hR c).mp hc
    refine ⟨⟨c, h1, rfl⟩, ?_⟩
    cases e : hasPart (F.map maskOf) (maskOf c) with
    | false => rfl
    | true => exact absurd h2 ((key c h1).mp e)
  · rintro ⟨⟨c, hc, rfl⟩, hb⟩
    refine ⟨c, (hR c).mpr ⟨hc, Classical.not_not.mp fun z => ?_⟩, rfl⟩
    rw [(key c hc).mpr z] at hb
    cases hb
/-! ### cuts of wires as masks -/
theorem cuts_ml {n : Net} (ok : n.Ok) {k g : Nat} {cs : List (List Nat)} (h : CutsAre n k g cs) : ML n k g (cs.map maskOf) := fun M => by
  rw [List.mem_map]
  constructor
  · rintro ⟨c, hc, rfl⟩
    exact bits_lc ((h.mem c).mp hc)
  · intro z
    exact ⟨bitsOf M, (h.mem _).mpr (lc_bits ok z), mask_bits M⟩
theorem cuts_input {n : Net} {k x : Nat} (h : x < n.many) : CutsAre n k x [] := ⟨fun c => ⟨fun z => (by cases z), fun z => by
  have := z.lt x ((sep_input h).mp z.sep)
  omega⟩, List.nodup_nil, .nil⟩
theorem mask_one (x : Nat) : maskOf [x] = 2 ^ x := by
  apply Nat.eq_of_testBit_eq
  intro j
  rw [mask_bit, Nat.testBit_two_pow]
  refine decide_eq_decide.mpr ?_
  rw [List.mem_singleton]
  exact ⟨fun e => e.symm, fun e => e.symm⟩
theorem cuts_full {n : Net} (ok : n.Ok) {k w : Nat} {cs : List (List Nat)} (hw : w < n.many + n.gates.length) (hk : 1 ≤ k) (h : CutsAre n k w cs) (M : Nat) : M ∈ ([w] :: cs).map maskOf ↔ (MinT n w M ∧ pop M ≤ k) := by
  rw [← (cuts_ml ok h).full ok hw hk M, List.map_cons, List.mem_cons, List.mem_append, List.mem_singleton, mask_one]
  exact Or.comm
/-- both places the same -/
theorem same_found {n : Net} (ok : n.Ok) {k g : Nat} {kk : Nat × Nat × Nat} {fs F : List Nat} (hg : n.many ≤ g) (hkk : n.gates[g - n.many]? = some kk) (he : kk.2.1 = kk.2.2)
    (hf : ∀ M, M ∈ fs ↔ (MinT n kk.2.1 M ∧ pop M ≤ k)) (hF : Found k fs [0] F) : ML n k g (F.filter fun M => !hasPart F M) := by
  have l1 := place_lt ok hg hkk (.inl rfl)
  have mF : ∀ M, M ∈ F ↔ (MinT n kk.2.1 M ∧ pop M ≤ k) := fun M => by
    rw [hF M]
    constructor
    · rintro ⟨f, h1, s, h2, h3, h4⟩
      rw [List.mem_singleton.mp h2, Nat.or_zero] at h3
      rw [h3]
      exact (hf f).mp h1
    · intro h
      exact ⟨M, (hf M).mpr h, 0, List.mem_cons_self, (Nat.or_zero M).symm, h.2⟩
  have tg : ∀ M, M.testBit g = false → (Tm n g M ↔ Tm n kk.2.1 M) := fun M hM => by
    have := sep_gate (st := bitsOf M) hg hkk (fun z => by rw [mem_bits, hM] at z; cases z)
    unfold Tm
    rw [this, ← he]
    exact ⟨fun z => z.1, fun z => ⟨z, z⟩⟩
  have sb : ∀ {f M : Nat}, Sub f M → M.testBit g = false → f.testBit g = false := fun {f M} h hM => by
    cases e : f.testBit g with
    | false => rfl
    | true => rw [h g e] at hM; cases hM
  intro M
  rw [List.mem_filter, mF]
  constructor
  · rintro ⟨⟨h1, h2⟩, _⟩
    have ng : M.testBit g = false := by
      cases e : M.testBit g with
      | false => rfl
      | true =>
        have := h1.low ok g e
        omega
    exact ⟨⟨(tg M ng).mpr h1.tl, fun f hf' ht => h1.min f hf' ((tg f (sb hf' ng)).mp ht)⟩, h2, ng⟩
  · rintro ⟨h1, h2, ng⟩
    have hm : MinT n kk.2.1 M := ⟨(tg M ng).mp h1.tl, fun f hf' ht => h1.min f hf' ((tg f (sb hf' ng)).mpr ht)⟩
    refine ⟨⟨hm, h2⟩, ?_⟩
    cases e : hasPart F M with
    | false => rfl
    | true =>
      obtain ⟨p, hp, _, pne, ps⟩ := hasPart_iff.mp e
      exact absurd (hm.min p ps ((mF p).mp hp).1.tl) pne
theorem dpTupsK (x : Nat) : kV (nK x) = nV x := rfl
end GX
set_option Elab.async false
set_option linter.all false
/-! A gate of a net. -/
namespace GX
open PySem PySem.Spec PyProof.Rows L2
theorem gateAt {n : Net} {a g o : Addr} {ps : List Addr} {Ha : Hp} (x : Nat) (NA : NetAt Ha a n g o ps) (h1 : n.many ≤ x) (h2 : x < n.many + n.gates.length) : ∃ (k : Nat × Nat × Nat) (p : Addr), n.gates[x - n.many]? = some k ∧ Ha p = some (.tup (gV k)) ∧ atI (ps.map V.ref) (((x : Nat) : Int) - ((n.many : Nat) : Int)) = some (.ref p) := by
  obtain ⟨k, hk⟩ : ∃ k, n.gates[x - n.many]? = some k := ⟨_, List.getElem?_eq_getElem (by omega)⟩
  have hil : x - n.many < ps.length := by rw [NA.gs.1]; omega
  refine ⟨k, ps[x - n.many], hk, NA.gs.2 _ _ _ (List.getElem?_eq_getElem hil) hk, ?_⟩
  rw [show (((x : Nat) : Int) - ((n.many : Nat) : Int)) = ((x - n.many : Nat) : Int) by omega]
  exact atI_nat (by rw [List.getElem?_map, List.getElem?_eq_getElem hil]; rfl)
end GX
set_option Elab.async false
set_option linter.all false
set_option maxRecDepth 100000
set_option maxHeartbeats 4000000
/-! Gates that stand in several tables, counted. -/
namespace GX
open PySem PySem.Spec PyProof.Rows L2
def InT (n : Net) (t : Tb) (x : Nat) : Prop := n.many ≤ x ∧ Rc n t.2 t.1 n.many x
noncomputable def inT (n : Net) (t : Tb) (x : Nat) : Bool := @decide (InT n t x) (Classical.propDecidable _)
theorem inT_iff {n : Net} {t : Tb} {x : Nat} : inT n t x = true ↔ InT n t x := by
  unfold inT
  exact @decide_eq_true_iff _ (Classical.propDecidable _)
noncomputable def cntT (n : Net) (cv : List Tb) (x : Nat) : Nat := (cv.filter fun t => inT n t x).length
theorem cntT_nil (n : Net) (x : Nat) : cntT n [] x = 0 := rfl
theorem cntT_take {n : Net} {cv : List Tb} {i : Nat} {t : Tb} {xs : List Nat} (ht : cv[i]? = some t) (hx : ∀ x, x ∈ xs ↔ InT n t x) (x : Nat) : cntT n (cv.take (i + 1)) x = cntT n (cv.take i) x + (if x ∈ xs then 1 else 0) := by
  unfold cntT
  rw [List.take_add_one, ht, Option.toList_some, List.filter_append, List.length_append]
  congr 1
  by_cases e : x ∈ xs
  · rw [if_pos e, List.filter_cons, if_pos (inT_iff.mpr ((hx x).mp e))]
    rfl
  · rw [if_neg e, List.filter_cons, if_neg (fun z => e ((hx x).mpr (inT_iff.mp z)))]
    rfl
/-- a dict of counts -/
structure CntAt (kvs : List (L2.Key × V)) (c : Nat → Nat) (b : Nat) : Prop where
  keys : ∃ F : List Nat, kvs.map (fun kv : L2.Key × V => kv.1) = F.map nK ∧ F.Nodup ∧ ∀ x ∈ F, x < b
  val : ∀ x, valV kvs (nK x) = if c x = 0 then none else some (nV (c x))
theorem CntAt.nil (b : Nat) : CntAt [] (fun _ => 0) b := ⟨⟨[], rfl, List.nodup_nil, fun x hx => by (cases hx)⟩, fun x => by rw [if_pos rfl]; rfl⟩
theorem CntAt.congr {kvs : List (L2.Key × V)} {c c' : Nat → Nat} {b : Nat} (h : CntAt kvs c b) (e : ∀ x, c x = c' x) : CntAt kvs c' b := ⟨h.keys, fun x => by rw [h.val, e]⟩
theorem CntAt.mem {kvs : List (L2.Key × V)} {c : Nat → Nat} {b : Nat} (h : CntAt kvs c b) {F : List Nat} (hF : kvs.map (fun kv : L2.Key × V => kv.1) = F.map nK) (x : Nat) : x ∈ F ↔ c x ≠ 0 := by
  have h1 : (kvs.any fun kv => decide (kv.1 = nK x)) = decide (x ∈ F) := by
    rw [Bool.eq_iff_iff, List.any_eq_true, decide_eq_true_iff]
    constructor
    · rintro ⟨kv, hk, e⟩
      have : kv.1 ∈ F.map nK := by rw [← hF]; exact List.mem_map.mpr ⟨kv, hk, rfl⟩
      obtain ⟨y, hy, e2⟩ := List.mem_map.mp this
      have e' : kv.1 = nK x := of_decide_eq_true e
      rw [e'] at e2
      rw [← nK_inj e2]
      exact hy
    · intro hx
      have : nK x ∈ kvs.map (fun kv : L2.Key × V => kv.1) := by rw [hF]; exact List.mem_map.mpr ⟨x, hx, rfl⟩
      obtain ⟨kv, hk, e⟩ := List.mem_map.mp this
      exact ⟨kv, hk, decide_eq_true e⟩
  rw [valV_any, h.val] at h1
  by_cases e : c x = 0
  · rw [if_pos e] at h1
    have : ¬ x ∈ F := of_decide_eq_false h1.symm
    exact ⟨fun z => absurd z this, fun z => absurd e z⟩
  · rw [if_neg e] at h1
    exact ⟨fun _ => e, fun _ => of_decide_eq_true h1.symm⟩
theorem CntAt.len {kvs : List (L2.Key × V)} {c : Nat → Nat} {b : Nat} (h : CntAt kvs c b) : kvs.length ≤ b := by
  obtain ⟨F, h1, h2, h3⟩ := h.keys
  have := nodup_lt h2 h3
  rw [← List.length_map (as := kvs) (fun kv : L2.Key × V => kv.1), h1, List.length_map]
  exact this
theorem CntAt.put {kvs : List (L2.Key × V)} {c : Nat → Nat} {b x : Nat} (h : CntAt kvs c b) (hx : x < b) : CntAt (putK kvs (nK x) (nV (c x + 1))) (fun y => c y + (if y = x then 1 else 0)) b := by
  refine ⟨?_, fun y => ?_⟩
  · obtain ⟨F, h1, h2, h3⟩ := h.keys
    by_cases e : x ∈ F
    · refine ⟨F, ?_, h2, h3⟩
      unfold putK
      rw [if_pos, List.map_map, ← h1]
      · apply List.map_congr_left
        intro kv _
        show (if kv.1 = nK x then (kv.1, nV (c x + 1)) else kv).1 = kv.1
        split <;> rfl
      · rw [valV_any, h.val, if_neg ((h.mem h1 x).mp e)]
        rfl
    · refine ⟨F ++ [x], ?_, nodup_snoc h2 e, fun y hy => ?_⟩
      · rw [putK_new, List.map_append, List.map_append, h1]
        · rfl
        · rw [h.val, if_pos (Classical.not_not.mp fun z => e ((h.mem h1 x).mpr z))]
      · rcases List.mem_append.mp hy with hy | hy
        · exact h3 y hy
        · rw [List.mem_singleton.mp hy]
          exact hx
  · rw [valV_put]
    by_cases e : y = x
    · subst e
      rw [if_pos rfl]
      show some (nV (c y + 1)) = if c y + (if y = y then 1 else 0) = 0 then none else some (nV (c y + (if y = y then 1 else 0)))
      rw [if_pos (rfl : y = y), if_neg (by omega)]
    · rw [if_neg (fun z => e (nK_inj z)), h.val]
      show _ = if c y + (if y = x then 1 else 0) = 0 then none else some (nV (c y + (if y = x then 1 else 0)))
      rw [if_neg e, Nat.add_zero]
theorem CntAt.get {kvs : List (L2.Key × V)} {c : Nat → Nat} {b : Nat} (h : CntAt kvs c b) (x : Nat) : (valV kvs (nK x)).getD (.int 0) = nV (c x) := by
  rw [h.val]
  by_cases e : c x = 0
  · rw [if_pos e, e]
    rfl
  · rw [if_neg e]
    rfl
/-- the keys in order, those above 1 -/
def dblL (c : Nat → Nat) (b : Nat) : List Nat := (List.range b).filter fun x => decide (1 < c x)
theorem dbl_of {kvs : List (L2.Key × V)} {c : Nat → Nat} {b : Nat} (h : CntAt kvs c b) {F xs : List Nat} (hF : kvs.map (fun kv : L2.Key × V => kv.1) = F.map nK) (nd : F.Nodup) (lt : ∀ x ∈ F, x < b) (r : xs.Pairwise (· < ·)) (m : ∀ x, x ∈ xs ↔ (x ∈ F ∧ 1 < c x)) : xs = dblL c b := by
  refine rise_eq r ?_ fun z => ?_
  · exact List.Pairwise.filter _ List.pairwise_lt_range
  · rw [m]
    unfold dblL
    rw [List.mem_filter, List.mem_range, decide_eq_true_iff]
    exact ⟨fun z' => ⟨lt z z'.1, z'.2⟩, fun z' => ⟨(h.mem hF z).mpr (by omega), z'.2⟩⟩
/-- sorted ints that are numbers -/
theorem sorted_nat {F : List Nat} {ys : List Int} (nd : F.Nodup) (pm : ys.Perm (F.map fun x : Nat => (x : Int))) (pw : ys.Pairwise (· ≤ ·)) : ∃ xs : List Nat, ys = xs.map (fun x : Nat => (x : Int)) ∧ xs.Perm F ∧ xs.Pairwise (· < ·) := by
  have ex : ys = (ys.map Int.toNat).map (fun x : Nat => (x : Int)) := by
    rw [List.map_map]
    conv => lhs; rw [← List.map_id ys]
    refine List.map_congr_left fun y hy => ?_
    obtain ⟨z, _, rfl⟩ := List.mem_map.mp (pm.mem_iff.mp hy)
    rfl
  have p2 : (ys.map Int.toNat).Perm F := by
    have := pm.map Int.toNat
    rw [List.map_map] at this
    have e : F.map (Int.toNat ∘ fun x : Nat => (x : Int)) = F := by
      conv => rhs; rw [← List.map_id F]
      exact List.map_congr_left fun z _ => rfl
    rwa [e] at this
  refine ⟨ys.map Int.toNat, ex, p2, ?_⟩
  have nd2 : (ys.map Int.toNat).Nodup := p2.nodup_iff.mpr nd
  generalize ys.map Int.toNat = xs at ex nd2
  subst ex
  rw [List.pairwise_map] at pw
  refine pw.imp₂ (S := fun a b => a ≠ b) (fun {a b} h1 h2 => ?_) nd2
  omega
end GX
set_option Elab.async false
set_option linter.all false
set_option maxRecDepth 100000
set_option maxHeartbeats 4000000
/-! Methods of classes of the program. -/
namespace GX
open PySem PySem.Spec PyProof.Rows L2
open C8 (Met Mak)
/-- the j-th statement of a class -/
def mthS : Stmt → Nat → Stmt
  | .ClassDef _ _ _ b _ _ _ _ _ _ _, j => b.getD j (.Pass ⟨0, 0, 0, 0⟩)
  | s, _ => s
structure Mtd (K : PySem.W.Frag) (C : Addr) (m qual : Str) (st : Stmt) (f c : Addr) : Prop where
  ex : ∃ (oc : Value) (od : Option Addr) (kV doc pm : Value) (an : Option Addr) (ct : Value) (osl : Array (Option Value)),
    K.lookup f = some ⟨oc, od, .func (PySem.W.fnOf m qual (defArgs st) (defBody st) (defScope st) .none kV doc pm an (.ref c) ct), osl⟩
  hcd : PySem.W.codeIn K (.ref c) qual = true
  cl : Cls K C
  mt : Meth K C m f
section
variable {P : Program} {w : World} {K : PySem.W.Frag} {mg : Str → Option Value} {base : Heap}
theorem met {C : Addr} {m qual : Str} {st : Stmt} {f c : Addr} {N ps : List Str} {k : Nat} {sp : Sp} (D : Mtd K C m qual st f c)
    (hb : ∀ (kV doc pm : Value) (an : Option Addr) (cdv ct : Value) (us : List Value), us.length = ps.length → bindArgs (PySem.W.fnOf m qual (defArgs st) (defBody st) (defScope st) .none kV doc pm an cdv ct) ⟨us, []⟩ = pure (ps.zip us))
    (S : FnScope N ps (defScope st)) (len : ∀ vs H Q E, sp vs H Q E → vs.length = ps.length)
    (hbody : ∀ (A : Around) (outer : List Env) (s : Shared) (H : Hp) (vs : List V) (Q : VK) (E : XK), Room k (A.deeper (envOfC qual (defScope st) s.heap.objs.size f (.ref c))) → sp vs H Q E →
      ∃ t, PSs (cxOf CX0 P w K mg base N qual (defScope st) f (.ref c) A outer s H E).nox (defBody st) t ∧ t { nx := fun _ H' => Q .non H', rt := Q } (start N vs) H) : Met P w K mg base (k + 1) C m sp [] := by
  obtain ⟨oc, od, kV, doc, pm, an, ct, osl, lk⟩ := D.ex
  refine ⟨f, _, ps, [], D.cl, D.mt, fn_of lk D.hcd S len (fun A outer s H vs Q E hr hsp => ?_), .all (hb kV doc pm an (.ref c) ct), .nil⟩
  obtain ⟨t, h, q⟩ := hbody A outer s H vs Q E hr hsp
  exact ⟨t, h.nox, q⟩
/-- a class made by its __init__ -/
theorem mak {C : Addr} {x qual : Str} {st : Stmt} {f c : Addr} {N ps : List Str} {k : Nat} {sp : Sp} (D : Mtd K C "__init__" qual st f c) (hm : mg x = some (.ref C)) (mk : PySem.W.makesIn K C = true) (kp : PySem.W.keepIn K (.ref C) = true)
    (hb : ∀ (kV doc pm : Value) (an : Option Addr) (cdv ct : Value) (us : List Value), us.length = ps.length → bindArgs (PySem.W.fnOf "__init__" qual (defArgs st) (defBody st) (defScope st) .none kV doc pm an cdv ct) ⟨us, []⟩ = pure (ps.zip us))
    (S : FnScope N ps (defScope st)) (len : ∀ vs H Q E, sp vs H Q E → vs.length = ps.length)
    (hbody : ∀ (A : Around) (outer : List Env) (s : Shared) (H : Hp) (vs : List V) (Q : VK) (E : XK), Room k (A.deeper (envOfC qual (defScope st) s.heap.objs.size f (.ref c))) → sp vs H Q E →
      ∃ t, PSs (cxOf CX0 P w K mg base N qual (defScope st) f (.ref c) A outer s H E).nox (defBody st) t ∧ t { nx := fun _ H' => Q .non H', rt := Q } (start N vs) H) : Mak P w K mg base (k + 1) x C sp [] := by
  obtain ⟨oc, od, kV, doc, pm, an, ct, osl, lk⟩ := D.ex
  refine ⟨f, _, ps, [], ⟨mk, D.mt.at_, D.mt.fn, kp⟩, fn_of lk D.hcd S len (fun A outer s H vs Q E hr hsp => ?_), hm, .all (hb kV doc pm an (.ref c) ct), .nil⟩
  obtain ⟨t, h, q⟩ := hbody A outer s H vs Q E hr hsp
  exact ⟨t, h.nox, q⟩
end
end GX
set_option Elab.async false
set_option linter.all false
set_option maxRecDepth 100000
set_option maxHeartbeats 4000000
/-! Own exceptions: defs that may raise (CalX), a caught exception that stays known behind its try (ps_tryK), isinstance and fields of it. -/
namespace GX
open PySem PySem.Spec PyProof.Rows L2
open C8 (Cal)

/-! ### defs that may raise -/
structure CalX (P : Program) (w : World) (K : PySem.W.Frag) (mg : Str → Option Value) (base : Heap) (k : Nat) (x : Str) (sp : Sp) : Prop where
  ex : ∃ f : Addr, mg x = some (.ref f) ∧ PySem.W.keepIn K (.ref f) = true ∧ ∀ (A : Around) (outer : List Env) (s : Shared) (H : Hp) (us : List Value) (vs : List V) (Q : VK) (E : XK),
    Room k A → Env0 P w K mg base A outer s H → Vals vs us → sp vs H Q E → codeAny (model P w) A (.call (.ref f) ⟨us, []⟩) (CR (L2.CX P w) outer P w H s Q E) s
section
variable {P : Program} {w : World} {K : PySem.W.Frag} {mg : Str → Option Value} {base : Heap} {k j : Nat} {x : Str} {sp sp' : Sp}
theorem env0_kin {A : Around} {outer : List Env} {s : Shared} {H : Hp} (e : Env0 P w K mg base A outer s H) : K.In s.heap := fun a o q => (e.bs a o (e.mod.kin a o q)).1
theorem CalX.mono (c : CalX P w K mg base j x sp) (h : j ≤ k) : CalX P w K mg base k x sp := by
  obtain ⟨f, h1, h2, r⟩ := c.ex
  exact ⟨f, h1, h2, fun A o s H us vs Q E hr => r A o s H us vs Q E (hr.mono h)⟩
theorem CalX.imp (c : CalX P w K mg base k x sp) (h : ∀ vs H Q E, sp' vs H Q E → sp vs H Q E) : CalX P w K mg base k x sp' := by
  obtain ⟨f, h1, h2, r⟩ := c.ex
  exact ⟨f, h1, h2, fun A o s H us vs Q E hr e0 hv hs => r A o s H us vs Q E hr e0 hv (h _ _ _ _ hs)⟩
theorem CalX.or (c : CalX P w K mg base k x sp) (c' : CalX P w K mg base k x sp') : CalX P w K mg base k x (fun vs H Q E => sp vs H Q E ∨ sp' vs H Q E) := by
  obtain ⟨f, h1, h2, r⟩ := c.ex
  obtain ⟨f', h1', _, r'⟩ := c'.ex
  rw [h1] at h1'
  cases h1'
  exact ⟨f, h1, h2, fun A o s H us vs Q E hr e0 hv hs => hs.elim (r A o s H us vs Q E hr e0 hv) (r' A o s H us vs Q E hr e0 hv)⟩
theorem fnok_x {CX : CXT} {f : Addr} {fd : FuncData} {ps : List Str} (F : FnOk P w K mg base CX k f fd ps sp) (hm : mg x = some (.ref f)) (kp : PySem.W.keepIn K (.ref f) = true) (b : Binds K fd ps [])
    (hCX : ∀ o H s E e s', CX o H s E e s' → L2.CX P w o H s E e s') : CalX P w K mg base k x sp := by
  refine ⟨f, hm, kp, fun A o s H us vs Q E hr e0 hv hs => ?_⟩
  have hl : us.length = ps.length := by rw [← hv.length]; exact F.len _ _ _ _ hs
  have bb := b s us (env0_kin e0) (by rw [List.append_nil]; exact hl)
  rw [List.append_nil] at bb
  refine codeAny_mono (F.run A o s H ⟨us, []⟩ us vs Q E hr e0 bb hv hs) fun r s' hq => ?_
  cases r with
  | error e => exact hCX _ _ _ _ _ _ hq
  | ok fl => cases fl <;> exact hq
/-- what raises nothing -/
theorem CalX.of (c : Cal P w K mg base k x sp []) : CalX P w K mg base k x sp := by
  obtain ⟨f, fd, ps, ds, F, hm, kp, b, d⟩ := c.ex
  cases d
  exact fnok_x F hm kp b fun _ _ _ _ _ _ z => z.elim
/-- the promise of a def that may raise, by its body -/
theorem calX {st : Stmt} {f c : Addr} {N ps : List Str} (D : Dfn K mg x st f c)
    (hb : ∀ (kV doc pm : Value) (an : Option Addr) (cdv ct : Value) (us : List Value), us.length = ps.length → bindArgs (PySem.W.fnOf x x (defArgs st) (defBody st) (defScope st) .none kV doc pm an cdv ct) ⟨us, []⟩ = pure (ps.zip us))
    (S : FnScope N ps (defScope st)) (len : ∀ vs H Q E, sp vs H Q E → vs.length = ps.length)
    (hbody : ∀ (A : Around) (outer : List Env) (s : Shared) (H : Hp) (vs : List V) (Q : VK) (E : XK), Room k (A.deeper (envOfC x (defScope st) s.heap.objs.size f (.ref c))) → sp vs H Q E →
      Takes (cxOf (L2.CX P w) P w K mg base N x (defScope st) f (.ref c) A outer s H E) (fun cls d _ H => E cls d H) →
      ∃ t, PSs (cxOf (L2.CX P w) P w K mg base N x (defScope st) f (.ref c) A outer s H E) (defBody st) t ∧ t { nx := fun _ H' => Q .non H', rt := Q } (start N vs) H) : CalX P w K mg base (k + 1) x sp := by
  obtain ⟨oc, od, kV, doc, pm, an, ct, osl, lk⟩ := D.ex
  refine fnok_x (fn_of lk D.hcd S len (fun A outer s H vs Q E hr hsp => ?_)) D.mgf D.kp (.all (hb kV doc pm an (.ref c) ct)) fun _ _ _ _ _ _ z => z
  exact hbody A outer s H vs Q E hr hsp (takes_of rfl rfl rfl rfl)
end
section
variable {X : Cx} {W : WX} {k j : Nat} {x : Str} {sp : Sp} {p pos : Pos} {e : Expr} {es : List Expr} {t : TA}
/-- f(..) where what it raises is taken -/
theorem pe_cX (c : CalX X.prog X.w X.K X.mg X.base k x sp) (tk : Takes X W) (hr : Room j X.A) (hk : k ≤ j) (hg : Gl X x) (ha : PA X (e :: es) t)
    (hdb : (x == ("__debug__" : Str)) = false := by decide) (he : starEach (e :: es) X.env = (false, eval e X.env) :: starEach es X.env := by rfl) (hpl : (backTo pos (starEach es X.env)).any (·.1) = false := by rfl) :
    PE X (.Call (.Name x p) (e :: es) [] pos) (tCallS sp (WE W) t) := by
  obtain ⟨f, hm, kp, r⟩ := c.ex
  refine ⟨fun pins s σ H Q I h => wpAny_Call_Name_kw (ld_glob I hg hm ?_ hdb)⟩
  refine PySem.W.callWith_K (h₀ := X.base) I.ok.mod.kin kp (thn (ha.run pos pins s σ H _ I h) fun us s1 hh => ?_) he hpl
  obtain ⟨vs, H1, I1, rv, q⟩ := hh
  refine ⟨I1.kIn, wpAny_call (codeAny_mono (r X.A X.stack s1 H1 us vs Q _ (hr.mono hk) I1.env0 rv q) fun rs s' hq => ?_)⟩
  cases rs with
  | error e => exact passAt tk σ _ _ _ _ _ I1 hq
  | ok fl =>
    cases fl with
    | ret u => exact I1.after hq
    | next => exact False.elim hq
    | brk => exact False.elim hq
    | cont => exact False.elim hq
/-- a block that is never come to -/
theorem pss_cut {sts : List Stmt} : PSs X sts (fun _ _ _ => False) := ⟨fun _ _ _ _ _ _ h => h.elim⟩
end

/-- a statement that raises nothing -/
theorem psNox {X : Cx} {st : Stmt} {t : TS} (h : PS X.nox st t) : PS X st t := ⟨fun pins s σ H D I q => wpAny_mono (h.run pins s σ H D (I.wish _) q) (fun _ _ z => z.unwish) fun _ _ z => False.elim z⟩
/-- nothing is let out -/
theorem takes0 {X : Cx} : Takes X (fun _ _ _ _ => False) := fun u s' h => by
  obtain ⟨_, _, _, _, _, _, _, _, _, _, _, _, _, _, _, _, q⟩ := h
  exact q.elim
/-! ### own exception classes -/
/-- what must be known of the class x, at C, so that it is named in a clause, asked by isinstance, its instances asked -/
structure ExcT (K : PySem.W.Frag) (mg : Str → Option Value) (x : Str) (C : Addr) : Prop where
  g : mg x = some (.ref C)
  k : PySem.W.keepIn K (.ref C) = true
  t : PySem.W.typeIn K (.ref C) = some (.type "type")
  i : PySem.W.isClsIn K C = true
  e : ExcC K C
/-- .. and made by a text -/
structure ExcM (K : PySem.W.Frag) (mg : Str → Option Value) (x : Str) (C : Addr) : Prop extends ExcT K mg x C where
  x : PySem.W.excIn K C [.type "ValueError", .type "Exception", .type "BaseException", .type "object"] "ValueError.__new__" = true
theorem ExcT.raises {X : Cx} {x : Str} {C : Addr} (c : ExcT X.K X.mg x C) : Raises X (.ref C) := raises_own c.e.hs c.t
theorem kit_ref {K : PySem.W.Frag} {C D : Addr} {b : Bool} (hD : PySem.W.typeIn K (.ref D) = some (.type "type")) (iD : PySem.W.isClsIn K D = true) (s : PySem.W.subIn K (.ref C) (.ref D) = some b) (h : C = D → b = true) : PySem.W.kitOne K (.ref C) (.ref D) = some b := by
  unfold PySem.W.kitOne
  by_cases e : C = D
  · rw [h e, e, if_pos (by simp)]
  · rw [if_neg (by simpa using e)]
    unfold PySem.W.kitCls
    have iD' : (PySem.W.clsIn K D).isSome = true := iD
    simp only [iD', hD, s]
    rfl
/-- another class, not under it -/
theorem kit_no {K : PySem.W.Frag} {mg : Str → Option Value} {x : Str} {C D : Addr} (d : ExcT K mg x D) (self : PySem.W.subIn K (.ref C) (.ref C) = some true) (s : PySem.W.subIn K (.ref C) (.ref D) = some false) : PySem.W.kitOne K (.ref C) (.ref D) = some false := kit_ref d.t d.i s fun e => by
  subst e
  rw [self] at s
  cases s
theorem kit_none {K : PySem.W.Frag} {t : Value} : ∀ us : List Value, (∀ c ∈ us, PySem.W.kitOne K t c = some false) → PySem.W.kitAny K t us = some false
  | [], _ => rfl
  | c :: r, h => by
    unfold PySem.W.kitAny
    rw [h c List.mem_cons_self]
    exact kit_none r fun d hd => h d (List.mem_cons_of_mem _ hd)
/-- None is of no own class -/
theorem sub_non {K : PySem.W.Frag} {D : Addr} : PySem.W.subIn K (.type "NoneType") (.ref D) = some false := by
  have e : fastBuiltinMro "NoneType" = some [.type "NoneType", .type "object"] := by decide +kernel
  show (fastBuiltinMro "NoneType").map (fun l => l.contains (Value.ref D)) = some false
  rw [e]
  rfl
theorem kit_non {K : PySem.W.Frag} {mg : Str → Option Value} {x : Str} {D : Addr} (d : ExcT K mg x D) : PySem.W.kitOne K (.type "NoneType") (.ref D) = some false := by
  unfold PySem.W.kitOne
  rw [if_neg (by intro h; cases h)]
  unfold PySem.W.kitCls
  have i : (PySem.W.clsIn K D).isSome = true := d.i
  simp only [i, d.t, sub_non]
  rfl
theorem kit_ve {K : PySem.W.Frag} {C : Addr} {n : String} {b : Bool} (hn : PySem.W.kitMeta n = true) (s : PySem.W.subIn K (.ref C) (.type n) = some b) : PySem.W.kitOne K (.ref C) (.type n) = some b := by
  unfold PySem.W.kitOne
  rw [if_neg (by simp)]
  unfold PySem.W.kitCls
  simp only [hn, s]
  rfl
theorem exm_of2 {K : PySem.W.Frag} {mg : Str → Option Value} {x : Str} {C : Addr} {cls : Value} {b : Bool} (c : ExcT K mg x C) (s : PySem.W.subIn K cls (.ref C) = some b) : PySem.W.exmOne K cls (.ref C) = some b := PySem.W.exm_ref c.e.hs c.e.hd c.t s

/-! ### a caught exception that stays known -/
def XO (cls : Value) (d : Option Addr) (a : Addr) : HO := .ext fun h => ∃ (oe : Obj) (vs : Array Value), h.get? a = some oe ∧ Zc cls d oe ∧ oe.data = .fields vs
theorem xo_ok {P : Program} {w : World} {H : Hp} {h : Heap} {a : Addr} {cls : Value} {d : Option Addr} {oe : Obj} {vs : Array Value} (e : h.get? a = some oe) (z : Zc cls d oe) (q : oe.data = .fields vs) : ObjOk P w H h a (XO cls d a) :=
  ⟨⟨oe, vs, e, z, q⟩, ⟨oe, e⟩, fun _ _ ⟨o, v, r, zz⟩ k => ⟨o, v, k o r, zz⟩⟩
section
variable {X : Cx} {pins : List (Addr × Obj)} {σ : L2.St} {H : Hp} {s : Shared}
/-- an exception object that isn't tracked is tracked from here on -/
theorem Inv.noteX {a : Addr} {oe : Obj} {vs : Array Value} {cls : Value} {d : Option Addr} (I : Inv X pins σ H s) (ha : s.heap.get? a = some oe) (z : Zc cls d oe) (q : oe.data = .fields vs) (na : H a = none) (nL : a ≠ X.env.locals)
    (n0 : X.s_0.heap.get? a = none) (np : ∀ p ∈ X.pn ++ pins, p.1 ≠ a) : Inv X pins σ (upd H a (XO cls d a)) s := by
  have up : ∀ {b : Addr} {u : HO}, H b = some u → upd H a (XO cls d a) b = some u := fun {b u} e => by rw [upd_ne (ne_of_none e na)]; exact e
  have nc : ∀ y c, X.env.cells.lookup y = some c → c ≠ a := fun y c e z2 => by
    obtain ⟨v, o, h1, h2⟩ := I.cell y c e
    rw [z2, ha] at h1
    cases h1
    rw [q] at h2
    cases h2
  have hL : X.env.locals ≠ a := fun e => nL e.symm
  refine ⟨I.ok, I.os, I.bare, ?_, I.loc, I.cell, by rw [upd_ne hL]; exact I.free, fun y c e => by rw [upd_ne (nc y c e)]; exact I.freeC y c e, fun p hp => ?_, fun b u e => ?_, I.len⟩
  · refine ⟨I.base.keep, I.base.slot, fun b o h1 h2 h3 => ?_, I.base.there, fun b xs e => up (I.base.tups b xs e), fun b o u e => up (I.base.frzs b o u e), fun b ps e => ?_⟩
    · rw [upd_ne (fun e => by rw [e, n0] at h1; cases h1)]
      exact I.base.free b o h1 h2 h3
    · obtain ⟨m, h1⟩ := I.base.tbls b ps e
      exact ⟨m, up h1⟩
  · obtain ⟨h1, h2, h3⟩ := I.pin p hp
    exact ⟨h1, by rw [upd_ne (np p hp)]; exact h2, h3⟩
  · by_cases hb : b = a
    · subst hb
      rw [upd_same] at e
      cases e
      exact xo_ok ha z q
    · rw [upd_ne hb] at e
      exact (I.hok b u e).stay (fun _ _ _ h => h) (fun _ h => up h) fun _ _ h => up h
end
/-- what the clause wishes of an exception of the body: it is tracked from the suite's begin on -/
def wK (K : PySem.W.Frag) (c : Value) (i : Nat) (ts : TS) (Wout : WX) (D : Ends) : WX := fun cls d σ H =>
  ∃ b, PySem.W.exmOne K cls c = some b ∧ (b = true → ∀ a, H a = none → ts { nx := fun σ' H' => D.nx (σ'.set i none) H', rt := D.rt, bk := fun σ' H' => D.bk (σ'.set i none) H', ct := fun σ' H' => D.ct (σ'.set i none) H' } (σ.set i (some (.ref a))) (upd H a (XO cls d a))) ∧
    (b = false → Wout cls d σ H)
section
variable {X : Cx} {x n : Str} {c : Value} {i : Nat} {body suite orelse : List Stmt} {b₀ : Stmt} {np pos pos' : Pos} {tb : WX → TS} {ts u : TS} {Wout : WX}
theorem ps_tryK (hs : X.stack = X.env :: X.outer) (hf : X.env.frame = some X.env.locals) (hex : X.ex = []) (hN : X.N.Nodup) (hi : X.N[i]? = some n) (hln : X.env.kindOf n = some .local) (hc : Names X x c) (tk : Takes X Wout)
    (hb : ∀ (W : WX) (pn : List (Addr × Obj)) (xe : Value → Shared → Prop), Takes (X.tr pn xe) W → PSs (X.tr pn xe) body (tb W))
    (hsu : ∀ (a : Addr) (pn : List (Addr × Obj)), PSs (X.suite a pn) (b₀ :: suite) ts) (ho : PSs X orelse u) :
    PS X (.Try body [.ExceptHandler (some (.Name x np)) (some n) (b₀ :: suite) pos'] orelse [] pos) (fun D σ H => tb (wK X.K c i ts Wout D) { D with nx := u D } σ H) := by
  refine ⟨fun pins s σ H D I h => wpAny_Try_except ?_⟩
  have ok := I.ok
  have hfr : X.A.frames = some (X.env :: X.outer) := by rw [← hs]; exact ok.frames
  let xe' : Value → Shared → Prop := fun e s₁ => wpAny (model X.prog X.w) X.A (noteFrame e X.env) (fun _ s₂ => wpAny (model X.prog X.w) X.A (setFlight e none)
    (fun _ s₃ => wpAny (model X.prog X.w) X.A (handleBy e X.env [.ExceptHandler (some (.Name x np)) (some n) (b₀ :: suite) pos']) (SP X pins D) X.xe s₃) X.xe s₂) X.xe s₁
  have take : Takes (X.tr (X.pn ++ pins) xe') (wK X.K c i ts Wout D) := by
    rintro v s' ⟨a, B, sI, pins', σ', H', cls, d, rfl, J', nb, up, sky, na, os, ag, b, hb1, hyes, hno⟩
    have J : Inv X pins σ' H' sI := J'.ofTry ok
    rw [show (X.tr (X.pn ++ pins) xe').stack = X.env :: X.outer from hs] at sky nb
    show wpAny (model X.prog X.w) X.A (noteFrame (.ref a) X.env) _ _ _
    refine Sky.land Zc.steady hfr hf sky fun h3 fl3 up3 => ?_
    have J3 : Inv X pins σ' H' { s' with heap := h3 } := J.landed (by rw [hs]; exact nb) fl3.1 (up.trans up3) os ag
    obtain ⟨oe3, vs3, he3, hz3, hd3⟩ := fl3.there
    have nfr : a ∉ frs (X.env :: X.outer) := fun hm => by
      obtain ⟨_, o', e', hnf⟩ := fl3.2.2.1.mem hm
      rw [he3] at e'
      cases e'
      exact hnf _ hd3
    have nL : a ≠ X.env.locals := fun e => nfr (by rw [e]; exact List.mem_filterMap.mpr ⟨X.env, List.mem_cons_self, hf⟩)
    have nF : a ∉ X.fs := fun hm => by
      obtain ⟨e, he, q⟩ := List.mem_filterMap.mp hm
      exact nfr (List.mem_filterMap.mpr ⟨e, List.mem_cons_of_mem _ he, q⟩)
    have nI : sI.heap.get? a = none := by
      cases e : sI.heap.get? a with
      | none => rfl
      | some o =>
        have := nb a o e nfr
        rw [fl3.2.1] at this
        cases this
    have n0 : X.s_0.heap.get? a = none := by
      cases e : X.s_0.heap.get? a with
      | none => rfl
      | some o =>
        obtain ⟨o', h'⟩ := J.base.there a o e (by rw [hex]; exact List.not_mem_nil)
        rw [nI] at h'
        cases h'
    have npn : ∀ p ∈ X.pn ++ pins, p.1 ≠ a := fun p hp e => by
      have := (J.pin p hp).1
      rw [e, nI] at this
      cases this
    have S3 := J3.suite he3 hd3 na nL nF
    have LT : PySem.W.Looks (model X.prog X.w) h3 (typeOf (.ref a)) cls := fun A Q E s k q => wpAny_typeOf_ref (k _ _ he3) (by rw [hz3.1]; exact q)
    refine wpAny_handleBy_cons (codeAny_handlers_test ?_) (fun q => nomatch q)
    have test : ∀ {Q E : Value → Shared → Prop}, Q c { s' with heap := h3 } → wpAny (model X.prog X.w) (X.A.mark (some (.ref a))) (eval (.Name x np) X.env) Q E { s' with heap := h3 } := fun {Q E} q => by
      obtain ⟨hg, hdbg, hm | ⟨hm, hv, hnn⟩⟩ := hc
      · exact ld_glob (X := X.suite a _) S3 hg hm q hdbg
      · exact ld_blt (X := X.suite a _) S3 hg hm hv q hnn hdbg
    refine test ((PySem.W.exm_one (M := model X.prog X.w) J3.kIn LT hb1).here ?_)
    cases b with
    | false =>
      refine wpAny_handleBy_nil ?_
      obtain ⟨_, _, _, oe, vs, T, oT, ts', he, hz, hd, h1, hr⟩ := id fl3
      unfold PySem.passOn
      refine wpAny_bind (wpAny_field he hd h1 ?_)
      rw [if_neg (fun q => by simp at q)]
      refine wpAny_bind ?_
      rw [hf]
      refine HandSPX.setFlight_upZ fl3 fun h4 hh4 up4 => wpAny_throw (tk _ _ ?_)
      exact ⟨a, B, sI, pins, σ', H', cls, d, rfl, J, by rw [hs]; exact nb, (up.trans up3).trans up4, by rw [hs]; exact .inr (.inr hh4), na, os, ag, hno rfl⟩
    | true =>
      refine codeAny_handlers_suite_as (HandSPX.lands_againZ fl3 fun h4 fl4 up4 => ?_)
      obtain ⟨oe4, vs4, he4, hz4, hd4⟩ := fl4.there
      have J4 : Inv X pins σ' H' { s' with heap := h4 } := J.landed (by rw [hs]; exact nb) fl4.1 ((up.trans up3).trans up4) os ag
      have J5 : Inv X pins σ' (upd H' a (XO cls d a)) { s' with heap := h4 } := Inv.noteX J4 he4 hz4 hd4 na nL n0 npn
      have S5 : Inv (X.suite a (X.pn ++ pins)) [] σ' (upd H' a (XO cls d a)) { s' with heap := h4 } := ⟨ok.suite a _, J5.os, J5.bare, J5.base, J5.loc, J5.cell, J5.free, J5.freeC, fun p hp => J5.pin p (by rw [List.append_nil] at hp; exact hp), J5.hok, J5.len⟩
      refine store_ok (X := X.suite a (X.pn ++ pins)) (v := .ref a) S5 hN hi (.inl hln) rfl (fun s6 S6 => ?_) (.inr hln)
      refine wpAny_mono ((hsu a (X.pn ++ pins)).run [] s6 _ _ _ S6 (hyes rfl a na)) (fun f s7 hsp => ?_) fun _ _ z => z.elim
      have back : ∀ {σ7 : L2.St} {H7 : Hp} {Q : Shared → Prop}, Inv (X.suite a (X.pn ++ pins)) [] σ7 H7 s7 → (∀ s8, Inv X pins (σ7.set i none) H7 s8 → Q s8) →
          wpAny (model X.prog X.w) X.A (do bindName X.env n .none; unbindBehindTheSuite X.env n pos') (fun _ s8 => Q s8) X.xe s7 := fun {σ7 H7 Q} S7 hq =>
        gone_ok (X := X) (pins := pins) ⟨ok, S7.os, S7.bare, S7.base, S7.loc, S7.cell, S7.free, S7.freeC, fun p hp => S7.pin p (List.mem_append_left _ hp), S7.hok, S7.len⟩ hN hi hln hq
      cases f with
      | ret v =>
        obtain ⟨y, σ7, H7, S7, r7, q7⟩ := hsp
        exact back S7 fun s8 J8 => ⟨_, _, _, J8, r7, q7⟩
      | next =>
        obtain ⟨σ7, H7, S7, q7⟩ := hsp
        exact back S7 fun s8 J8 => ⟨_, _, J8, q7⟩
      | brk =>
        obtain ⟨σ7, H7, S7, q7⟩ := hsp
        exact back S7 fun s8 J8 => ⟨_, _, J8, q7⟩
      | cont =>
        obtain ⟨σ7, H7, S7, q7⟩ := hsp
        exact back S7 fun s8 J8 => ⟨_, _, J8, q7⟩
  refine wpAny_mono ((hb _ _ xe' take).run [] s σ H { D with nx := u D } (I.toTry _) h) (fun f s1 hsp => ?_) fun _ _ q => q
  cases f with
  | ret v =>
    obtain ⟨y, σ', H', J', r, q⟩ := hsp
    exact ⟨y, σ', H', J'.ofTry ok, r, q⟩
  | next =>
    obtain ⟨σ', H', J', q⟩ := hsp
    exact ho.run pins s1 σ' H' D (J'.ofTry ok) q
  | brk =>
    obtain ⟨σ', H', J', q⟩ := hsp
    exact ⟨σ', H', J'.ofTry ok, q⟩
  | cont =>
    obtain ⟨σ', H', J', q⟩ := hsp
    exact ⟨σ', H', J'.ofTry ok, q⟩
end

/-! ### isinstance, fields -/
inductive TyE (K : PySem.W.Frag) (H : Hp) : V → Value → Prop where
  | x {v : V} {t : Value} (h : TyX K H v t) : TyE K H v t
  | e {a C : Addr} {d : Option Addr} (c : ExcC K C) (e : H a = some (XO (.ref C) d a)) (hd : ∀ dd, d = some dd → ∃ fs, H dd = some (.xd fs)) : TyE K H (.ref a) (.ref C)
/-- the object, as the library asks for it -/
theorem xo_inst {P : Program} {w : World} {H : Hp} {h : Heap} {a C : Addr} {d : Option Addr} (k : HOk P w H h) (e : H a = some (XO (.ref C) d a)) (hd : ∀ dd, d = some dd → ∃ fs, H dd = some (.xd fs)) : ∃ oe od, PySem.W.InstAt h a oe C od ∧ (∀ dd, d = some dd → ∃ o, od = some o ∧ h.get? dd = some o) := by
  obtain ⟨⟨oe, vs, ha, hz, hv⟩, _⟩ := k a _ e
  obtain ⟨oc, odd, oda, osl⟩ := oe
  obtain ⟨h1, h2⟩ := hz
  dsimp only at h1 h2 hv
  subst h1 hv
  cases d with
  | none =>
    subst h2
    exact ⟨_, none, ⟨ha, rfl, rfl, trivial⟩, fun _ z => by cases z⟩
  | some dd =>
    subst h2
    obtain ⟨fs, hf⟩ := hd dd rfl
    obtain ⟨o, ho⟩ := objOk_get (k dd _ hf)
    exact ⟨_, some o, ⟨ha, rfl, rfl, ho⟩, fun _ z => by cases z; exact ⟨o, rfl, ho⟩⟩
section
variable {X : Cx} {pins : List (Addr × Obj)} {σ : L2.St} {H : Hp} {s : Shared}
theorem kit_ofE {x : V} {u t : Value} (I : Inv X pins σ H s) (rx : RelV x u) (ty : TyE X.K H x t) : ∃ P : Heap → Prop, PySem.W.KitX X.K u t P ∧ P s.heap ∧ u ≠ .builtin "__main__.__loader__#opaque" := by
  cases ty with
  | x h => exact kit_of I rx h
  | e c ea hd =>
    cases rx
    obtain ⟨oe, od, J, _⟩ := xo_inst I.hok ea hd
    obtain ⟨cd, hc, _⟩ := PySem.W.any_some c.hd
    exact ⟨_, PySem.W.kitx_exc (by rw [hc]; rfl) c.hg c.hk c.hs c.ha c.hn c.ht c.hm, J, fun z => nomatch z⟩
/-- isinstance(x, c) -/
def rIsE1 (K : PySem.W.Frag) : List V → Hp → VK → Prop := fun xs H Q => ∃ (x c : V) (t u : Value) (b : Bool), xs = [x, c] ∧ ClsV c u ∧ TyE K H x t ∧ PySem.W.kitOne K t u = some b ∧ Q (.bl b) H
/-- isinstance(x, (c, ..)) -/
def rIsET (K : PySem.W.Frag) : List V → Hp → VK → Prop := fun xs H Q => ∃ (x : V) (tp : Addr) (cs : List V) (t : Value) (us : List Value) (b : Bool), xs = [x, .ref tp] ∧ H tp = some (.tup cs) ∧ Paired ClsV cs us ∧ TyE K H x t ∧ PySem.W.kitAny K t us = some b ∧ Q (.bl b) H
end
section
variable {X : Cx}
theorem call_isE1 : CallR X (.builtin "isinstance") (rIsE1 X.K) := by
  intro pins s σ H xs us Q I r h
  obtain ⟨x, c, t, u, b, rfl, k, ty, e, q⟩ := h
  obtain ⟨u1, u2, rfl, r1, r2⟩ := vals2 r
  have e2 := k.eq r2
  subst e2
  obtain ⟨P, Z, p, hx⟩ := kit_ofE I r1 ty
  refine PySem.W.kia_one Z I.kIn p e hx ?_
  exact fun tk => ⟨.bl b, H, I.tok tk, rfl, q⟩
theorem call_isET : CallR X (.builtin "isinstance") (rIsET X.K) := by
  intro pins s σ H xs us Q I r h
  obtain ⟨x, tp, cs, t, ws, b, rfl, hT, k, ty, e, q⟩ := h
  obtain ⟨u1, u2, rfl, r1, r2⟩ := vals2 r
  cases r2
  obtain ⟨P, Z, p, hx⟩ := kit_ofE I r1 ty
  obtain ⟨_, its, rv, o, h1, h2, n, h3⟩ := I.hok tp _ hT
  have e3 := ClsV.all k rv
  subst e3
  cases o
  simp only at h2 h3
  subst h2 h3
  refine PySem.W.kia_tup Z I.kIn p h1 e hx ?_
  exact fun tk => ⟨.bl b, H, I.tok tk, rfl, q⟩
/-- e.f of a known exception -/
def tXfE (K : PySem.W.Frag) (f : Str) (te : TE) : TE := fun σ H Q => te σ H fun x H1 => ∃ (a C dd : Addr) (fs : List (Str × V)) (v : V), x = .ref a ∧ XfC K C ∧ PySem.W.findIn K (.ref C) f = some none ∧ H1 a = some (XO (.ref C) (some dd) a) ∧ H1 dd = some (.xd fs) ∧ fs.lookup f = some v ∧ Q v H1
theorem pe_xfE {e : Expr} {te : TE} {pos : Pos} {n : Str} (he : PE X e te) (hb : attributeBase e n X.env (eval e X.env) = eval e X.env := by rfl) : PE X (.Attribute e n pos) (tXfE X.K n te) := by
  refine ⟨fun pins s σ H Q I h => attr_of hb (thn (he.run pins s σ H _ I h) fun u s1 hh => ?_)⟩
  obtain ⟨x, H1, I1, rx, a, C, dd, fs, v, rfl, T, hno, ha, hd, l, q⟩ := hh
  cases rx
  obtain ⟨oe, od, J, hoo⟩ := xo_inst I1.hok ha (fun z e => by cases e; exact ⟨fs, hd⟩)
  obtain ⟨o, rfl, ho⟩ := hoo dd rfl
  obtain ⟨mA, hns, hr⟩ := (show ObjOk X.prog X.w H1 s1.heap dd (.xd fs) from I1.hok dd _ hd)
  obtain ⟨o', ho', hl⟩ := lookIn_ns hns
  rw [ho] at ho'
  cases ho'
  obtain ⟨u, hu, ru⟩ := RelO.some_of (v := v) (o := mA n) (by rw [← l]; exact hr n)
  refine HandSPX.exc_get I1.kIn J T.ga T.gg T.exC (PySem.W.findObj_own T.hdC hno rfl (by rw [hl, hu])) (handed_of ru) ?_
  exact ⟨v, H1, I1.tok _, ru, q⟩
end
end GX
set_option Elab.async false
set_option linter.all false
set_option maxRecDepth 100000
set_option maxHeartbeats 4000000
/-! Layouts among things. -/
namespace GX
open PySem PySem.Spec PyProof.Rows L2
def thTab (t : List Nat × List Nat) : Th := .tup [thWs t.1, thWs t.2]
def thLay (l : Lay) : Th := .tup [thW l.many, .tup (l.tabs.map thTab), thWs l.outs]
theorem thTab_inj (t u : List Nat × List Nat) (h : thTab t = thTab u) : t = u := by
  have h := tup_inj h
  injection h with h1 h2
  injection h2 with h2 _
  exact Prod.ext (thWs_inj h1) (thWs_inj h2)
theorem thLay_inj {l m : Lay} (h : thLay l = thLay m) : l = m := by
  have h := tup_inj h
  injection h with h1 h
  injection h with h2 h
  injection h with h3 _
  have e1 := thW_inj _ _ h1
  have e2 := map_inj' thTab_inj (tup_inj h2)
  have e3 := thWs_inj h3
  cases l
  cases m
  congr
theorem rep_tab {H : Hp} (p : Addr) (t : List Nat × List Nat) (h : TabAt H p t) : Rep H (.ref p) (thTab t) := by
  obtain ⟨a, b, h1, h2, h3⟩ := h
  exact .tup h1 (.cons (rep_wsT h2) (.cons (rep_wsT h3) .nil))
theorem rep_tabs {H : Hp} : ∀ {ps : List Addr} {ts : List (List Nat × List Nat)}, TabsAt H ps ts → RepAll H (ps.map V.ref) (ts.map thTab)
  | [], ts, h => by
    have : ts = [] := List.length_eq_zero_iff.mp h.1.symm
    subst this
    exact .nil
  | p :: ps, ts, h => by
    cases ts with
    | nil => cases h.1
    | cons t r => exact .cons (rep_tab p t (h.2 0 p t rfl rfl)) (rep_tabs ⟨Nat.succ.inj h.1, fun i q g e1 e2 => h.2 (i + 1) q g e1 e2⟩)
theorem rep_lay {H : Hp} {a g o : Addr} {l : Lay} {ps : List Addr} (x : LayAt H a l g o ps) : Rep H (.ref a) (thLay l) := .tup x.top (.cons (.int _) (.cons (.tup x.gt (rep_tabs x.ts)) (.cons (rep_wsT x.ot) .nil)))
theorem all_isB {c : Nat} : ∀ {ts : List Th}, ts.all (Th.isB ((c : Nat) : Int)) = true ↔ ∃ xs : List Nat, ts = xs.map thW ∧ ∀ x ∈ xs, x < c
  | [] => ⟨fun _ => ⟨[], rfl, fun x hx => by cases hx⟩, fun _ => rfl⟩
  | t :: ts => by
    rw [List.all_cons, Bool.and_eq_true, isB_nat, all_isB]
    constructor
    · rintro ⟨⟨x, rfl, h⟩, xs, rfl, g⟩
      exact ⟨x :: xs, rfl, fun y hy => by
        rcases List.mem_cons.mp hy with rfl | hy
        · exact h
        · exact g y hy⟩
    · rintro ⟨xs, e, g⟩
      cases xs with
      | nil => cases e
      | cons x xs =>
        rw [List.map_cons] at e
        injection e with e1 e2
        exact ⟨⟨x, e1, g x List.mem_cons_self⟩, xs, e2, fun y hy => g y (List.mem_cons_of_mem _ hy)⟩
theorem outs_iff {t : Th} {c : Nat} : t.outs ((c : Nat) : Int) = true ↔ ∃ os : List Nat, t = thWs os ∧ 1 ≤ os.length ∧ os.length ≤ 8 ∧ ∀ x ∈ os, x < c := by
  cases t with
  | tup ts =>
    show ((decide (1 ≤ ts.length) && decide (ts.length ≤ 8)) && ts.all (Th.isB ((c : Nat) : Int))) = true ↔ _
    rw [Bool.and_eq_true, Bool.and_eq_true, decide_eq_true_iff, decide_eq_true_iff, all_isB]
    constructor
    · rintro ⟨⟨h1, h2⟩, xs, rfl, g⟩
      rw [List.length_map] at h1 h2
      exact ⟨xs, rfl, h1, h2, g⟩
    · rintro ⟨xs, e, h1, h2, g⟩
      have e := tup_inj e
      subst e
      rw [List.length_map]
      exact ⟨⟨h1, h2⟩, xs, rfl, g⟩
  | _ => exact ⟨fun h => (by cases h), fun ⟨os, e, _⟩ => by cases e⟩
theorem many_iff {t : Th} : t.many = true ↔ ∃ m : Nat, t = thW m ∧ 1 ≤ m ∧ m ≤ 8 := by
  cases t with
  | int i =>
    show (decide (1 ≤ i) && decide (i ≤ 8)) = true ↔ _
    rw [Bool.and_eq_true, decide_eq_true_iff, decide_eq_true_iff]
    constructor
    · rintro ⟨h1, h2⟩
      obtain ⟨m, rfl⟩ := Int.eq_ofNat_of_zero_le (show 0 ≤ i by omega)
      exact ⟨m, rfl, by omega, by omega⟩
    · rintro ⟨m, e, h1, h2⟩
      cases e
      exact ⟨by omega, by omega⟩
  | _ => exact ⟨fun h => (by cases h), fun ⟨os, e, _⟩ => by cases e⟩
end GX
set_option Elab.async false
set_option linter.all false
set_option maxRecDepth 100000
set_option maxHeartbeats 4000000
/-! Methods that may raise. -/
namespace GX
open PySem PySem.Spec PyProof.Rows L2
structure MetX (P : Program) (w : World) (K : PySem.W.Frag) (mg : Str → Option Value) (base : Heap) (k : Nat) (C : Addr) (m : Str) (sp : Sp) : Prop where
  ex : ∃ (f : Addr) (fd : FuncData) (ps : List Str), Cls K C ∧ Meth K C m f ∧ FnOk P w K mg base (L2.CX P w) k f fd ps sp ∧ Binds K fd ps []
theorem metX {P : Program} {w : World} {K : PySem.W.Frag} {mg : Str → Option Value} {base : Heap} {C : Addr} {m qual : Str} {st : Stmt} {f c : Addr} {N ps : List Str} {k : Nat} {sp : Sp} (D : Mtd K C m qual st f c)
    (bind : ∀ (kV doc pm : Value) (an : Option Addr) (cdv ct : Value) (us : List Value), us.length = ps.length → bindArgs (PySem.W.fnOf m qual (defArgs st) (defBody st) (defScope st) .none kV doc pm an cdv ct) ⟨us, []⟩ = pure (ps.zip us))
    (S : FnScope N ps (defScope st)) (len : ∀ vs H Q E, sp vs H Q E → vs.length = ps.length)
    (body : ∀ (A : Around) (outer : List Env) (s : Shared) (H : Hp) (vs : List V) (Q : VK) (E : XK), Room k (A.deeper (envOfC qual (defScope st) s.heap.objs.size f (.ref c))) → sp vs H Q E →
      Takes (cxOf (L2.CX P w) P w K mg base N qual (defScope st) f (.ref c) A outer s H E) (fun cls d _ H => E cls d H) →
      ∃ t, PSs (cxOf (L2.CX P w) P w K mg base N qual (defScope st) f (.ref c) A outer s H E) (defBody st) t ∧ t { nx := fun _ H' => Q .non H', rt := Q } (start N vs) H) : MetX P w K mg base (k + 1) C m sp := by
  obtain ⟨oc, od, kV, doc, pm, an, ct, osl, lk⟩ := D.ex
  refine ⟨f, _, ps, D.cl, D.mt, fn_of lk D.hcd S len (fun A outer s H vs Q E hr hsp => ?_), .all (bind kV doc pm an (.ref c) ct)⟩
  exact body A outer s H vs Q E hr hsp (takes_of rfl rfl rfl rfl)
def tMethX (C : Addr) (m : Str) (sp : Sp) (W : WX) (to : TE) (t : TA) : TE := fun σ H Q => to σ H fun x H1 => ∃ (a dx : Addr) (fs : List (Str × V)), x = .ref a ∧ H1 a = some (.ins C dx fs) ∧ fs.lookup m = none ∧ t σ H1 fun vs H2 => sp (x :: vs) H2 Q (WE W σ)
theorem pe_mtX {X : Cx} {W : WX} {k j : Nat} {C : Addr} {m : Str} {sp : Sp} {o e : Expr} {es : List Expr} {to : TE} {t : TA} {pos apos : Pos} {pl : Sem Bool} (c : MetX X.prog X.w X.K X.mg X.base k C m sp) (tk : Takes X W) (hr : Room j X.A) (hk : k ≤ j) (ho : PE X o to) (ha : PA X (e :: es) t)
    (h1 : starEach (e :: es) X.env = (false, eval e X.env) :: starEach es X.env := by rfl) (h2 : (backTo pos (starEach es X.env)).any (·.1) = false := by rfl)
    (ht : eval (.Call (.Attribute o m apos) (e :: es) [] pos) X.env = (do let ov ← eval o X.env; standAt apos.atName; let (fn, bound) ← holding [ov] (getMethod ov m pl); callWith pos fn bound (backTo pos (starEach (e :: es) X.env)) (backToKw pos (keywordEach [] X.env))) := by rfl) :
    PE X (.Call (.Attribute o m apos) (e :: es) [] pos) (tMethX C m sp W to t) := by
  obtain ⟨f, fd, ps, hc, hm, F, hb⟩ := c.ex
  refine ⟨fun pins s σ H Q I h => PySem.W.methodCall_KW (pl := pl) (thn (ho.run pins s σ H _ I h) fun u s1 hh => ?_) ht⟩
  obtain ⟨x, H1, I1, rx, a, dx, fs, rfl, ea, l, q⟩ := hh
  cases rx
  refine getmeth_ok I1 ea hc hm l (PySem.W.callWith_K (first := [.ref a]) (h₀ := X.base) I.ok.mod.kin hm.kp (thn (ha.run pos pins s1 σ H1 _ I1 q) fun us s2 h3 => ?_) h1 h2)
  obtain ⟨vs, H2, I2, r, q2⟩ := h3
  exact ⟨I2.kIn, run_fnS (us := .ref a :: us) (vs := .ref a :: vs) F (hr.mono hk) hb (passAt tk σ) I2 (.cons rfl r) q2⟩
end GX
set_option Elab.async false
set_option linter.all false
set_option maxRecDepth 100000
set_option maxHeartbeats 4000000
/-! A tuple of things of any make, held against a tuple of one text. -/
namespace GX
open PySem PySem.Spec PyProof.Rows L2
open PySem.SeqAt (EqAt)
theorem dict_eq_declines_str {prog : Program} {w : World} (l : Addr) (b : Str) (u : Tok) :
    MeetsIn prog w (Builtin.«dict.__eq__» ⟨[.ref l, .str b u], []⟩) (fun _ R s => s.TypeIs (.ref l) "dict" ∧ R (.ok (.ret .notImplemented)) s) :=
  .of_wp fun A R s h => by
    obtain ⟨ht, h⟩ := h
    show wpAny _ _ (Builtin.Dict.dictSlotArgs "__eq__" ⟨[.ref l, .str b u], []⟩ >>= _) _ _ s
    refine wpAny_bind ?_
    unfold Builtin.Dict.dictSlotArgs
    refine wpAny_bind (wpAny_notOrdered_dict ht ?_)
    show wpAny _ _ (pure (Value.ref l, Value.str b u)) _ _ s
    refine wpAny_pure (wpAny_bind (wpAny_isInstance (T := "str") (typeIs_str s b u) F.sub_str_dict ?_))
    simp only [Bool.not_false, if_true]
    exact wpAny_bind (wpAny_rule (wpAny_pure ⟨_, rfl, h⟩))
theorem str_eq_declines_dict (b : Str) (u : Tok) (l : Addr) (o : Obj) :
    Meets (Builtin.«str.__eq__» ⟨[.str b u, .ref l], []⟩) (fun _ R s => s.heap.get? l = some o ∧ (∃ es n, o.data = .dict es n) ∧ R (.ok (.ret .notImplemented)) s) :=
  .of_wp fun prog w A R s h => by
    obtain ⟨hp, g, d, tk, os⟩ := s
    obtain ⟨hl, ⟨es, n, hd⟩, h⟩ := h
    obtain ⟨oc, od, oda, osl⟩ := o
    simp only at hd
    subst hd
    wp_walk using wpAny_loadPart' hl, wpAny_load hl
    exact ⟨_, rfl, h⟩
section
variable {A : Around} {s : Shared}
theorem eqAt_dict_str {l : Addr} {o : Obj} {es : Array DictEntry} {n : Nat} (b : Str) (u : Tok) (hl : s.heap.get? l = some o) (hc : o.cls = .type "dict") (hd : o.data = .dict es n) (hu : A.units < cLine) : EqAt A s (.ref l) (.str b u) false := fun prog w E Q h => by
  have ht : s.TypeIs (.ref l) "dict" := ⟨o, hl, hc⟩
  unfold eqBool
  refine wpAny_holding ?_
  refine wpAny_ite_split (fun hab => absurd (eq_of_beq hab) nofun) (fun _ => ?_)
  refine wpAny_bind (SeqAt.rc_eq_decline_or (k := false) ht (typeIs_str s b u) (by decide) F.sub_str_dict F.slot_dict_eq F.slot_str_eq_refl
    (fun _ hq => call_meetsIn F.slot_dict_eq ht F.entry_dict_eq (F.args_dict_eq_2 _ _) (dict_eq_declines_str l b u) ⟨ht, hq⟩)
    (fun _ hq => call_meets F.slot_str_eq_refl (typeIs_str s b u) F.entry_str_eq (F.args_str_eq_2 _ _) (str_eq_declines_dict b u l o) ⟨hl, ⟨es, n, hd⟩, hq⟩)
    (fun _ hq => wpAny_of_eq (rfl : isSame (.ref l) (.str b u) = pure false) hq) (.inr hu) (wpAny_truthy_bool h))
end
/-- whether a thing is this text -/
def isTx (b : Str) : Th → Bool
  | .str x => x == b
  | _ => false
section
variable {X : Cx} {pins : List (Addr × Obj)} {σ : L2.St} {H : Hp} {s : Shared}
theorem eqAt_th (I : Inv X pins σ H s) {A : Around} (hu : A.units < cLine) {v : V} {t : Th} {x : Value} (r : Rep H v t) (rv : RelV v x) (b : Str) (k : Tok) : EqAt A s x (.str b k) (isTx b t) := by
  cases r with
  | non =>
    cases (show x = Value.none from rv)
    exact SeqAt.EqAt.none_str b k
  | bl c =>
    cases (show x = Value.bool c from rv)
    exact SeqAt.EqAt.bool_str c b k
  | int i =>
    obtain ⟨t, rfl⟩ := (show ∃ t, x = Value.int i t from rv)
    exact SeqAt.EqAt.int_str i t b k
  | str y =>
    obtain ⟨t, rfl⟩ := (show ∃ t, x = Value.str y t from rv)
    exact SeqAt.EqAt.str_str y t b k
  | lst e =>
    cases (show x = Value.ref _ from rv)
    obtain ⟨its, _, p, _⟩ := I.list (SqL.of e)
    exact SeqAt.EqAt.list_str b k p.isList hu
  | dic e =>
    cases (show x = Value.ref _ from rv)
    obtain ⟨_, _, vs, _, dd⟩ := dk_of I.hok e
    obtain ⟨o, es, ep, ho, hx, hdat, _⟩ := dd
    exact eqAt_dict_str b k ho hx.1 hdat hu
  | tup e _ =>
    cases (show x = Value.ref _ from rv)
    obtain ⟨its, _, ⟨o, e1, c, n, d⟩, _⟩ := I.tuple (SqT.of (K := X.K) e)
    exact SeqAt.EqAt.tuple_str b k ⟨o, e1, c, n, d⟩ hu
end
/-- t == (text,) -/
def rEqTx : R2 := fun x y H Q => ∃ (a b : Addr) (xs : List V) (ts : List Th) (tx : Str), x = .ref a ∧ y = .ref b ∧ H a = some (.tup xs) ∧ RepAll H xs ts ∧ H b = some (.tup [.str tx]) ∧ Q (.bl (match ts with | [t] => isTx tx t | _ => false)) H
theorem op_eqTx {X : Cx} (hu : X.A.units + 64 < cLine) : OpR X (compareOp .Eq) rEqTx := by
  intro pins s σ H x y v u Q I rx ry h
  obtain ⟨a, b, xs, ts, tx, rfl, rfl, ha, ra, hb, q⟩ := h
  cases rx
  cases ry
  obtain ⟨its, r, ⟨o, e, c, n, d⟩, _⟩ := I.tuple (SqT.of (K := X.K) ha)
  obtain ⟨its2, r2, ⟨o2, e2, c2, n2, d2⟩, _⟩ := I.tuple (SqT.of (K := X.K) hb)
  obtain ⟨k, rfl⟩ : ∃ k, its2 = [Value.str tx k] := by
    cases r2 with
    | cons r3 r4 =>
      cases r4
      obtain ⟨k, rfl⟩ := r3
      exact ⟨k, rfl⟩
  have hl : its.length = ts.length := by rw [← r.length, ra.length]
  refine PySem.SeqAt.eq_tupleAt (items := its.toArray) (items2 := #[Value.str tx k]) (e := fun _ => match ts with | t :: _ => isTx tx t | [] => false) ⟨o, e, c, n, d⟩ ⟨o2, e2, c2, n2, d2⟩ (by omega) (fun j h1 h2 => ?_) ⟨_, H, I, ?_, q⟩
  · have hj : j = 0 := by
      have : j < 1 := h2
      omega
    subst hj
    cases ra with
    | nil =>
      cases r
      exact absurd h1 (Nat.not_lt_zero _)
    | cons r0 ra =>
      cases r with
      | cons v0 r =>
        exact eqAt_th I (show X.A.in1.units < cLine from Nat.lt_of_le_of_lt (by show X.A.units + 1 ≤ X.A.units + 64; omega) hu) r0 v0 tx k
  · show Value.bool _ = Value.bool _
    congr 1
    match ts, hl with
    | [], hl =>
      have : its = [] := List.length_eq_zero_iff.mp hl
      subst this
      rfl
    | [t], hl =>
      have h1 : its.toArray.size = 1 := by rw [List.size_toArray, hl]; rfl
      rw [h1]
      show ((List.range 1).all (fun _ => isTx tx t) && _) = isTx tx t
      simp
    | _ :: _ :: _, hl =>
      have h1 : (its.toArray.size == (#[Value.str tx k] : Array Value).size) = false := by
        rw [List.size_toArray, hl]
        exact beq_false_of_ne (by simp)
      rw [h1, Bool.and_false]
end GX
set_option Elab.async false
set_option linter.all false
set_option maxRecDepth 100000
set_option maxHeartbeats 2000000
/-! words: numbers and nets as texts -/
namespace GX
open PySem PySem.Spec PyProof.Rows L2 TL
def mkS (l : List Nat) : Str := ⟨l.toArray⟩
theorem tl_mkS (l : List Nat) : tl (mkS l) = l := rfl
theorem mkS_eq {x : Str} {l : List Nat} (h : tl x = l) : x = mkS l := ext_tl h
theorem len_mkS (l : List Nat) : (mkS l).length = l.length := len_tl _
def dgC (c : Nat) : Bool := decide (48 ≤ c) && decide (c ≤ 57)
def valW (w : List Nat) : Nat := w.foldl (fun n c => 10 * n + (c - 48)) 0
/-- the number that a word writes -/
def numW (w : List Nat) : Option Nat := if w = [] then none else if w.all dgC = true then (if w.head? = some 48 ∧ w ≠ [48] then none else some (valW w)) else none
def numsW (ws : List (List Nat)) : Option (List Nat) := if (ws.all fun w => (numW w).isSome) = true then some (ws.map fun w => (numW w).getD 0) else none
def wordsW (row : List Nat) : List (List Nat) := spl [32] 0 [] row
def behindW (h row : List Nat) : Option (List Nat) := if (wordsW row).head? = some h then numsW (wordsW row).tail else none
def sInputs : List Nat := tl "inputs"
def sGate : List Nat := tl "gate"
def sOuts : List Nat := tl "outs"
def manyW (row : List Nat) : Option Nat := match behindW sInputs row with
  | some [n] => if 1 ≤ n ∧ n ≤ 8 then some n else none
  | _ => none
def gateW (row : List Nat) (m : Nat) : Option (Nat × Nat × Nat) := match behindW sGate row with
  | some [k, a, b] => if k < 16 ∧ a < m ∧ b < m then some (k, a, b) else none
  | _ => none
def gatesW : Nat → List (List Nat) → List (Nat × Nat × Nat)
  | _, [] => []
  | m, r :: rs => match gateW r m with
    | some g => g :: gatesW (m + 1) rs
    | none => []
def outsW (row : List Nat) (m : Nat) : Option (List Nat) := match behindW sOuts row with
  | some os => if 1 ≤ os.length ∧ os.length ≤ 8 ∧ ∀ o ∈ os, o < m then some os else none
  | none => none
/-- the net that a text writes, or the first row that can't stand there -/
def readW (t : List Nat) : Nat ⊕ Net := match manyW ((spl [10] 0 [] t).headD []) with
  | none => .inl 0
  | some m => match ((spl [10] 0 [] t)[1 + (gatesW m (((spl [10] 0 [] t).drop 1).take 16)).length]?).bind fun r => outsW r (m + (gatesW m (((spl [10] 0 [] t).drop 1).take 16)).length) with
    | none => .inl (1 + (gatesW m (((spl [10] 0 [] t).drop 1).take 16)).length)
    | some os => if 1 + (gatesW m (((spl [10] 0 [] t).drop 1).take 16)).length + 1 < (spl [10] 0 [] t).length then .inl (1 + (gatesW m (((spl [10] 0 [] t).drop 1).take 16)).length + 1) else .inr ⟨m, gatesW m (((spl [10] 0 [] t).drop 1).take 16), os⟩
/-! ### texts of nets -/
def dgs (n : Nat) : List Nat := tl (Str.ofString (toString (n : Int)))
theorem dgs_ok : ∀ n, n < 24 → numW (dgs n) = some n ∧ (32 : Nat) ∉ dgs n ∧ (10 : Nat) ∉ dgs n ∧ (dgs n).length ≤ 2 := by decide +kernel
def gRow (g : Nat × Nat × Nat) : List Nat := joinL [32] [sGate, dgs g.1, dgs g.2.1, dgs g.2.2]
def showRows (n : Net) : List (List Nat) := joinL [32] [sInputs, dgs n.many] :: (n.gates.map gRow ++ [joinL [32] (sOuts :: n.outs.map dgs)])
def showW (n : Net) : List Nat := joinL [10] (showRows n)
theorem joinL_cons (S p : List Nat) (q : List Nat) (r : List (List Nat)) : joinL S (p :: q :: r) = p ++ (S ++ joinL S (q :: r)) := rfl
theorem mem_joinL {S : List Nat} {c : Nat} : ∀ {ws : List (List Nat)}, c ∈ joinL S ws → c ∈ S ∨ ∃ w ∈ ws, c ∈ w
  | [], h => nomatch h
  | [p], h => .inr ⟨p, List.mem_singleton.mpr rfl, h⟩
  | p :: q :: r, h => by
    rw [joinL_cons] at h
    rcases List.mem_append.mp h with h | h
    · exact .inr ⟨p, List.mem_cons_self .., h⟩
    rcases List.mem_append.mp h with h | h
    · exact .inl h
    · rcases mem_joinL h with h | ⟨w, hw, h⟩
      · exact .inl h
      · exact .inr ⟨w, List.mem_cons_of_mem _ hw, h⟩
theorem len_joinL {S : List Nat} {b : Nat} : ∀ {ws : List (List Nat)}, (∀ w ∈ ws, w.length ≤ b) → (joinL S ws).length ≤ ws.length * (b + S.length)
  | [], _ => Nat.zero_le _
  | [p], h => by
    have := h p (List.mem_singleton.mpr rfl)
    show p.length ≤ 1 * (b + S.length)
    omega
  | p :: q :: r, h => by
    have h1 := h p (List.mem_cons_self ..)
    have h2 := len_joinL (S := S) (ws := q :: r) fun w hw => h w (List.mem_cons_of_mem _ hw)
    rw [joinL_cons, List.length_append, List.length_append, List.length_cons, Nat.add_mul]
    omega
theorem words_join {ws : List (List Nat)} (h : ws ≠ []) (h2 : ∀ w ∈ ws, 32 ∉ w) : wordsW (joinL [32] ws) = ws := spl_join h h2
theorem rows_join {ws : List (List Nat)} (h : ws ≠ []) (h2 : ∀ w ∈ ws, 10 ∉ w) : spl [10] 0 [] (joinL [10] ws) = ws := spl_join h h2
theorem numsW_dgs {ns : List Nat} (h : ∀ n ∈ ns, n < 24) : numsW (ns.map dgs) = some ns := by
  unfold numsW
  rw [if_pos]
  · refine congrArg some ?_
    rw [List.map_map]
    refine (List.map_congr_left fun n hn => ?_).trans (List.map_id ns)
    show (numW (dgs n)).getD 0 = n
    rw [(dgs_ok n (h n hn)).1]
    rfl
  · rw [List.all_eq_true]
    intro w hw
    obtain ⟨n, hn, rfl⟩ := List.mem_map.mp hw
    rw [(dgs_ok n (h n hn)).1]
    rfl
theorem behind_row {h : List Nat} (h2 : 32 ∉ h) {ns : List Nat} (hn : ∀ n ∈ ns, n < 24) : behindW h (joinL [32] (h :: ns.map dgs)) = some ns := by
  have e : wordsW (joinL [32] (h :: ns.map dgs)) = h :: ns.map dgs := words_join (by simp) fun w hw => by
    rcases List.mem_cons.mp hw with rfl | hw
    · exact h2
    · obtain ⟨n, hn', rfl⟩ := List.mem_map.mp hw
      exact (dgs_ok n (hn n hn')).2.1
  unfold behindW
  rw [e]
  exact (if_pos rfl).trans (numsW_dgs hn)
theorem behind_other {h h' : List Nat} (h2 : 32 ∉ h') (ne : h' ≠ h) {ns : List Nat} (hn : ∀ n ∈ ns, n < 24) : behindW h (joinL [32] (h' :: ns.map dgs)) = none := by
  have e : wordsW (joinL [32] (h' :: ns.map dgs)) = h' :: ns.map dgs := words_join (by simp) fun w hw => by
    rcases List.mem_cons.mp hw with rfl | hw
    · exact h2
    · obtain ⟨n, hn', rfl⟩ := List.mem_map.mp hw
      exact (dgs_ok n (hn n hn')).2.1
  unfold behindW
  rw [e]
  exact if_neg fun z => ne (Option.some.inj z)
theorem s_inputs : 32 ∉ sInputs ∧ 10 ∉ sInputs ∧ sInputs.length = 6 := by decide +kernel
theorem s_gate : 32 ∉ sGate ∧ 10 ∉ sGate ∧ sGate.length = 4 := by decide +kernel
theorem s_outs : 32 ∉ sOuts ∧ 10 ∉ sOuts ∧ sOuts.length = 4 := by decide +kernel
theorem s_ne : sOuts ≠ sGate := by decide +kernel
theorem gate_row {g : Nat × Nat × Nat} {m i : Nat} (h : gateOk m i g) (hm : m + i ≤ 24) : gateW (gRow g) (m + i) = some g := by
  have e := behind_row s_gate.1 (ns := [g.1, g.2.1, g.2.2]) (fun n hn => by
    obtain ⟨h1, h2, h3⟩ := h
    rcases List.mem_cons.mp hn with rfl | hn
    · omega
    rcases List.mem_cons.mp hn with rfl | hn
    · omega
    · rw [List.mem_singleton.mp hn]; omega)
  have e : behindW sGate (gRow g) = some [g.1, g.2.1, g.2.2] := e
  unfold gateW
  rw [e]
  exact if_pos h
theorem gates_show {m : Nat} : ∀ (gs : List (Nat × Nat × Nat)) (j : Nat) (rest : List (List Nat)), (∀ (i : Nat) (g : Nat × Nat × Nat), gs[i]? = some g → gateOk m (j + i) g) → m + j + gs.length ≤ 24 → (∀ r m', rest.head? = some r → gateW r m' = none) → gatesW (m + j) (gs.map gRow ++ rest) = gs
  | [], j, [], _, _, _ => rfl
  | [], j, r :: rs, _, _, h => by
    show gatesW (m + j) (r :: rs) = []
    unfold gatesW
    rw [h r _ rfl]
  | g :: gs, j, rest, hg, hl, h => by
    show gatesW (m + j) (gRow g :: (gs.map gRow ++ rest)) = g :: gs
    rw [List.length_cons] at hl
    unfold gatesW
    rw [show m + j = m + (j + 0) from rfl, gate_row (hg 0 g rfl) (by omega)]
    show g :: gatesW (m + (j + 1)) (gs.map gRow ++ rest) = g :: gs
    rw [gates_show gs (j + 1) rest (fun i g e => by have := hg (i + 1) g (by rw [List.getElem?_cons_succ]; exact e); rw [show j + 1 + i = j + (i + 1) by omega]; exact this) (by omega) h]
theorem outs_row {os : List Nat} {m : Nat} (o1 : 1 ≤ os.length) (o8 : os.length ≤ 8) (ho : ∀ o ∈ os, o < m) (hm : m ≤ 24) : outsW (joinL [32] (sOuts :: os.map dgs)) m = some os := by
  unfold outsW
  rw [behind_row s_outs.1 fun n hn => Nat.lt_of_lt_of_le (ho n hn) hm]
  exact if_pos ⟨o1, o8, ho⟩
theorem Net.Ok.at {n : Net} (ok : n.Ok) {i : Nat} {g : Nat × Nat × Nat} (e : n.gates[i]? = some g) : gateOk n.many i g ∧ n.many + i < 24 := by
  have := (List.getElem?_eq_some_iff.mp e).1
  have := ok.m8
  have := ok.g16
  exact ⟨ok.gs i g e, by omega⟩
theorem no10 {h : List Nat} (h2 : 10 ∉ h) {ns : List Nat} (hn : ∀ n ∈ ns, n < 24) : 10 ∉ joinL [32] (h :: ns.map dgs) := fun z => by
  rcases mem_joinL z with z | ⟨w, hw, z⟩
  · exact absurd (List.mem_singleton.mp z) (by decide)
  · rcases List.mem_cons.mp hw with e | hw
    · rw [e] at z; exact h2 z
    · obtain ⟨n, hn', rfl⟩ := List.mem_map.mp hw
      exact (dgs_ok n (hn n hn')).2.2.1 z
theorem gok_lt {g : Nat × Nat × Nat} {m i : Nat} (h : gateOk m i g) (hm : m + i ≤ 24) : ∀ n ∈ [g.1, g.2.1, g.2.2], n < 24 := fun n hn => by
  obtain ⟨h1, h2, h3⟩ := h
  rcases List.mem_cons.mp hn with rfl | hn
  · omega
  rcases List.mem_cons.mp hn with rfl | hn
  · omega
  · rw [List.mem_singleton.mp hn]; omega
theorem rows_no10 {n : Net} (ok : n.Ok) : ∀ r ∈ showRows n, 10 ∉ r := fun r hr => by
  have m8 := ok.m8
  have g16 := ok.g16
  rcases List.mem_cons.mp hr with rfl | hr
  · exact no10 s_inputs.2.1 (ns := [n.many]) fun x hx => by rw [List.mem_singleton.mp hx]; omega
  rcases List.mem_append.mp hr with hr | hr
  · obtain ⟨g, hg, rfl⟩ := List.mem_map.mp hr
    obtain ⟨i, hi, e⟩ := List.getElem_of_mem hg
    obtain ⟨h1, h2⟩ := ok.at (by rw [List.getElem?_eq_getElem hi, e])
    exact no10 s_gate.2.1 (ns := [g.1, g.2.1, g.2.2]) (gok_lt h1 (by omega))
  · rw [List.mem_singleton.mp hr]
    exact no10 s_outs.2.1 fun x hx => by have := ok.os x hx; omega
theorem read_show {n : Net} (ok : n.Ok) : readW (showW n) = .inr n := by
  have m8 := ok.m8
  have m1 := ok.m1
  have g16 := ok.g16
  have e : spl [10] 0 [] (showW n) = showRows n := rows_join (by unfold showRows; simp) (rows_no10 ok)
  have em : manyW (joinL [32] [sInputs, dgs n.many]) = some n.many := by
    have := behind_row s_inputs.1 (ns := [n.many]) fun x hx => by rw [List.mem_singleton.mp hx]; omega
    have : behindW sInputs (joinL [32] [sInputs, dgs n.many]) = some [n.many] := this
    unfold manyW
    rw [this]
    exact if_pos ⟨m1, m8⟩
  have eg : gatesW n.many (((showRows n).drop 1).take 16) = n.gates := by
    have h1 : ((showRows n).drop 1).take 16 = n.gates.map gRow ++ [joinL [32] (sOuts :: n.outs.map dgs)].take (16 - n.gates.length) := by
      show (n.gates.map gRow ++ [joinL [32] (sOuts :: n.outs.map dgs)]).take 16 = _
      rw [List.take_append, List.length_map, List.take_of_length_le (by rw [List.length_map]; exact g16)]
    rw [h1]
    refine gates_show (m := n.many) n.gates 0 _ (fun i g e => by rw [Nat.zero_add]; exact ok.gs i g e) (by omega) fun r m' hr => ?_
    have hr : r ∈ [joinL [32] (sOuts :: n.outs.map dgs)] := List.mem_of_mem_take (List.mem_of_mem_head? hr)
    rw [List.mem_singleton.mp hr]
    unfold gateW
    rw [behind_other s_outs.1 s_ne fun x hx => by have := ok.os x hx; omega]
  have eo : ((showRows n)[1 + n.gates.length]?).bind (fun r => outsW r (n.many + n.gates.length)) = some n.outs := by
    have : (showRows n)[1 + n.gates.length]? = some (joinL [32] (sOuts :: n.outs.map dgs)) := by
      unfold showRows
      rw [Nat.add_comm, List.getElem?_cons_succ, List.getElem?_append_right (by rw [List.length_map]; exact Nat.le_refl _), List.length_map, Nat.sub_self]
      rfl
    rw [this]
    exact outs_row ok.o1 ok.o8 ok.os (by omega)
  have el : (showRows n).length = n.gates.length + 2 := by
    unfold showRows
    rw [List.length_cons, List.length_append, List.length_map]
    rfl
  unfold readW
  rw [e]
  show (match manyW (joinL [32] [sInputs, dgs n.many]) with | none => _ | some m => _) = _
  rw [em]
  dsimp only
  rw [eg, eo]
  dsimp only
  rw [if_neg (by rw [el]; omega)]
theorem show_inj {n n' : Net} (ok : n.Ok) (ok' : n'.Ok) (h : showW n = showW n') : n = n' := by
  have h1 := read_show ok
  rw [h, read_show ok'] at h1
  cases h1
  rfl
theorem row_lenW {h : List Nat} {ns : List Nat} (hh : h.length ≤ 6) (hn : ∀ n ∈ ns, n < 24) (hl : ns.length ≤ 8) : (joinL [32] (h :: ns.map dgs)).length ≤ 63 := by
  have := len_joinL (S := [32]) (b := 6) (ws := h :: ns.map dgs) fun w hw => by
    rcases List.mem_cons.mp hw with rfl | hw
    · exact hh
    · obtain ⟨n, hn', rfl⟩ := List.mem_map.mp hw
      exact Nat.le_trans (dgs_ok n (hn n hn')).2.2.2 (by decide)
  rw [List.length_cons, List.length_map] at this
  have h2 : (ns.length + 1) * (6 + [32].length) ≤ 9 * 7 := Nat.mul_le_mul (by omega) (by decide)
  omega
theorem rows_len {n : Net} (ok : n.Ok) : ∀ r ∈ showRows n, r.length ≤ 63 := fun r hr => by
  have m8 := ok.m8
  have g16 := ok.g16
  rcases List.mem_cons.mp hr with rfl | hr
  · exact row_lenW (ns := [n.many]) (by rw [s_inputs.2.2]; exact Nat.le_refl _) (fun x hx => by rw [List.mem_singleton.mp hx]; omega) (by show 1 ≤ 8; decide)
  rcases List.mem_append.mp hr with hr | hr
  · obtain ⟨g, hg, rfl⟩ := List.mem_map.mp hr
    obtain ⟨i, hi, e⟩ := List.getElem_of_mem hg
    obtain ⟨h1, h2⟩ := ok.at (by rw [List.getElem?_eq_getElem hi, e])
    exact row_lenW (ns := [g.1, g.2.1, g.2.2]) (by rw [s_gate.2.2]; decide) (gok_lt h1 (by omega)) (by show 3 ≤ 8; decide)
  · rw [List.mem_singleton.mp hr]
    exact row_lenW (by rw [s_outs.2.2]; decide) (fun x hx => by have := ok.os x hx; omega) ok.o8
theorem show_len {n : Net} (ok : n.Ok) : (showW n).length ≤ 1152 := by
  have h := len_joinL (S := [10]) (rows_len ok)
  have el : (showRows n).length = n.gates.length + 2 := by
    unfold showRows
    rw [List.length_cons, List.length_append, List.length_map]
    rfl
  have g16 := ok.g16
  rw [el] at h
  have : (n.gates.length + 2) * (63 + [10].length) ≤ 18 * 64 := Nat.mul_le_mul (by omega) (by decide)
  exact Nat.le_trans h this
theorem Aft.putW {Ts : List Addr} {H H' : Hp} {l : Addr} {o : HO} (a : Aft Ts H H') (n : H l = none) (n2 : l ∉ Ts) : Aft Ts H (L2.upd H' l o) := ⟨fun b u e nb => by rw [upd_ne (ne_of_none e n)]; exact a.kp b u e nb, fun P hP => by
  have := a.tb P hP
  unfold GxR.TabG at this ⊢
  rw [upd_ne (fun z : P = l => n2 (by rw [← z]; exact hP))]
  exact this⟩
/-! ### values -/
def oV : Option Nat → V
  | none => .non
  | some n => nV n
def thO : Option (List Nat) → Th
  | none => .non
  | some ns => .tup (ns.map fun n : Nat => .int (n : Int))
def TupO (H : Hp) (v : V) : Option (List Nat) → Prop
  | none => v = .non
  | some ns => ∃ a, v = .ref a ∧ H a = some (.tup (ns.map nV))
theorem repAll_nats (H : Hp) : ∀ ns : List Nat, RepAll H (ns.map nV) (ns.map fun n : Nat => .int (n : Int))
  | [] => .nil
  | n :: ns => .cons (.int _) (repAll_nats H ns)
theorem TupO.rep {H : Hp} {v : V} {o : Option (List Nat)} (h : TupO H v o) : Rep H v (thO o) := by
  cases o with
  | none =>
    have h : v = .non := h
    rw [h]
    exact .non
  | some ns =>
    obtain ⟨a, rfl, e⟩ := h
    exact .tup e (repAll_nats H ns)
theorem isB_natW (n m : Nat) : (Th.int (n : Int)).isB (m : Int) = decide (n < m) := by
  show (decide (0 ≤ (n : Int)) && decide ((n : Int) < (m : Int))) = _
  rw [decide_eq_true (Int.natCast_nonneg n), Bool.true_and]
  by_cases h : n < m
  · rw [decide_eq_true h, decide_eq_true (by omega)]
  · rw [decide_eq_false h, decide_eq_false (by omega)]
theorem thO_gate {row : List Nat} {m : Nat} : (thO (behindW sGate row)).gate (m : Int) = (gateW row m).isSome := by
  unfold gateW
  cases h : behindW sGate row with
  | none => rfl
  | some ns =>
    match ns with
    | [] => rfl
    | [_] => rfl
    | [_, _] => rfl
    | [k, a, b] =>
      show ((Th.int (k : Int)).isB ((16 : Nat) : Int) && (Th.int (a : Int)).isB (m : Int) && (Th.int (b : Int)).isB (m : Int)) = (if k < 16 ∧ a < m ∧ b < m then some (k, a, b) else none).isSome
      rw [isB_natW, isB_natW, isB_natW]
      by_cases c : k < 16 ∧ a < m ∧ b < m
      · rw [if_pos c, decide_eq_true c.1, decide_eq_true c.2.1, decide_eq_true c.2.2]
        rfl
      · rw [if_neg c, ← Bool.decide_and, ← Bool.decide_and, decide_eq_false (fun z => c ⟨z.1.1, z.1.2, z.2⟩)]
        rfl
    | _ :: _ :: _ :: _ :: _ => rfl
theorem gateW_some {row : List Nat} {m : Nat} {g : Nat × Nat × Nat} (h : gateW row m = some g) : behindW sGate row = some [g.1, g.2.1, g.2.2] ∧ g.1 < 16 ∧ g.2.1 < m ∧ g.2.2 < m := by
  unfold gateW at h
  split at h
  · rename_i k a b e
    split at h
    · rename_i c
      cases h
      exact ⟨e, c⟩
    · cases h
  · cases h
theorem thO_outs {row : List Nat} {m : Nat} : (thO (behindW sOuts row)).outs (m : Int) = (outsW row m).isSome := by
  unfold outsW
  cases h : behindW sOuts row with
  | none => rfl
  | some os =>
    show (decide (1 ≤ (os.map fun n : Nat => Th.int (n : Int)).length) && decide ((os.map fun n : Nat => Th.int (n : Int)).length ≤ 8) && (os.map fun n : Nat => Th.int (n : Int)).all (Th.isB (m : Int))) = (if 1 ≤ os.length ∧ os.length ≤ 8 ∧ ∀ o ∈ os, o < m then some os else none).isSome
    rw [List.length_map, List.all_map]
    have e : (os.all (Th.isB (m : Int) ∘ fun n : Nat => Th.int (n : Int))) = decide (∀ o ∈ os, o < m) := by
      rw [Bool.eq_iff_iff, List.all_eq_true, decide_eq_true_iff]
      constructor
      · intro h o ho
        have := h o ho
        have : (Th.int (o : Int)).isB (m : Int) = true := this
        rw [isB_natW] at this
        exact of_decide_eq_true this
      · intro h o ho
        show (Th.int (o : Int)).isB (m : Int) = true
        rw [isB_natW]
        exact decide_eq_true (h o ho)
    rw [e, ← Bool.decide_and, ← Bool.decide_and]
    by_cases c : 1 ≤ os.length ∧ os.length ≤ 8 ∧ ∀ o ∈ os, o < m
    · rw [if_pos c, decide_eq_true ⟨⟨c.1, c.2.1⟩, c.2.2⟩]
      rfl
    · rw [if_neg c, decide_eq_false fun z => c ⟨z.1.1, z.1.2, z.2⟩]
      rfl
theorem outsW_some {row : List Nat} {m : Nat} {os : List Nat} (h : outsW row m = some os) : behindW sOuts row = some os ∧ 1 ≤ os.length ∧ os.length ≤ 8 ∧ ∀ o ∈ os, o < m := by
  unfold outsW at h
  split at h
  · rename_i os' e
    split at h
    · rename_i c
      cases h
      exact ⟨e, c⟩
    · cases h
  · cases h
theorem figs : ∀ c, decide (c ∈ tl ("0123456789" : Str)) = dgC c := fun c => by
  have e : tl ("0123456789" : Str) = [48, 49, 50, 51, 52, 53, 54, 55, 56, 57] := by decide +kernel
  rw [e]
  by_cases h : dgC c = true
  · rw [h]
    refine decide_eq_true ?_
    have h' := Bool.and_eq_true_iff.mp h
    have h1 := of_decide_eq_true h'.1
    have h2 := of_decide_eq_true h'.2
    simp only [List.mem_cons, List.not_mem_nil, or_false]
    omega
  · rw [Bool.eq_false_iff.mpr h]
    refine decide_eq_false fun z => h ?_
    simp only [List.mem_cons, List.not_mem_nil, or_false] at z
    exact Bool.and_eq_true_iff.mpr ⟨decide_eq_true (by omega), decide_eq_true (by omega)⟩
theorem fig_at : ∀ c, c < 58 → 48 ≤ c → Builtin.Str.occurrences ("0123456789" : Str) ⟨#[c]⟩ 0 (Str.length "0123456789") 1 = [c - 48] := by decide +kernel
theorem isSome_oV {o : Option Nat} : eqV (oV o) .non = o.isNone := by cases o <;> rfl
theorem inV_oV (l : List (Option Nat)) : inV .non (l.map oV) = l.any Option.isNone := by
  unfold inV
  rw [List.any_map]
  congr 1
  funext o
  exact isSome_oV
theorem gatesW_snoc {m : Nat} : ∀ (rows : List (List Nat)) (i : Nat) (r : List Nat) (gs : List (Nat × Nat × Nat)), gs.length = i → rows[i]? = some r → gatesW m rows = gs ++ gatesW (m + i) (rows.drop i) →
    (∀ g, gateW r (m + i) = some g → gatesW m rows = (gs ++ [g]) ++ gatesW (m + (i + 1)) (rows.drop (i + 1))) ∧ (gateW r (m + i) = none → gatesW m rows = gs) := by
  intro rows i r gs hl e h
  have hi := (List.getElem?_eq_some_iff.mp e)
  have ed : rows.drop i = r :: rows.drop (i + 1) := by
    rw [List.drop_eq_getElem_cons hi.1, hi.2]
  constructor
  · intro g eg
    rw [h, ed]
    conv => lhs; rw [gatesW]
    rw [eg, List.append_assoc]
    rfl
  · intro eg
    rw [h, ed]
    conv => lhs; rw [gatesW]
    rw [eg, List.append_nil]
theorem gatesW_ok : ∀ (rows : List (List Nat)) (m i : Nat) (g : Nat × Nat × Nat), (gatesW m rows)[i]? = some g → g.1 < 16 ∧ g.2.1 < m + i ∧ g.2.2 < m + i
  | [], _, _, _, h => by cases h
  | r :: rs, m, i, g, h => by
    unfold gatesW at h
    split at h
    · rename_i g' e
      cases i with
      | zero =>
        cases h
        have := (gateW_some e).2
        exact this
      | succ i =>
        have := gatesW_ok rs (m + 1) i g h
        exact ⟨this.1, by omega, by omega⟩
    · cases h
theorem gatesW_len : ∀ (rows : List (List Nat)) (m : Nat), (gatesW m rows).length ≤ rows.length
  | [], _ => Nat.le_refl _
  | r :: rs, m => by
    unfold gatesW
    split
    · rw [List.length_cons, List.length_cons]
      have := gatesW_len rs (m + 1)
      omega
    · exact Nat.zero_le _
theorem manyW_some {row : List Nat} {m : Nat} (h : manyW row = some m) : behindW sInputs row = some [m] ∧ 1 ≤ m ∧ m ≤ 8 := by
  unfold manyW at h
  split at h
  · rename_i n e
    split at h
    · rename_i c
      cases h
      exact ⟨e, c⟩
    · cases h
  · cases h
theorem readW_ok {t : List Nat} {n : Net} (h : readW t = .inr n) : n.Ok := by
  unfold readW at h
  split at h
  · cases h
  · rename_i m e
    split at h
    · cases h
    · rename_i os eo
      split at h
      · cases h
      · cases h
        obtain ⟨_, m1, m8⟩ := manyW_some e
        obtain ⟨r, _, er⟩ := Option.bind_eq_some_iff.mp eo
        obtain ⟨_, o1, o8, ho⟩ := outsW_some er
        refine ⟨m1, m8, ?_, fun i g eg => gatesW_ok _ _ _ _ eg, o1, o8, ho⟩
        exact Nat.le_trans (gatesW_len _ _) (by rw [List.length_take]; omega)
/-! ### pieces of a net's text -/
theorem app_len (a b : Str) : (a ++ b).length = a.length + b.length := by rw [len_tl, tl_append, List.length_append, ← len_tl, ← len_tl]
theorem tS_len : ∀ n : Nat, n < 24 → (Str.ofString (toString (n : Int))).length ≤ 2 := fun n h => by rw [len_tl]; exact (dgs_ok n h).2.2.2
theorem lg24 : ∀ n : Nat, n < 24 → ((n : Int)).natAbs.log2 < 1920 := by decide +kernel
theorem show_in (n : Nat) : Str.empty ++ Str.ofString "inputs " ++ Str.ofString (toString (n : Int)) = mkS (joinL [32] [sInputs, dgs n]) := mkS_eq (by
  rw [tl_append]
  show tl (Str.empty ++ Str.ofString "inputs ") ++ dgs n = sInputs ++ ([32] ++ dgs n)
  rw [← List.append_assoc]
  congr 1)
theorem show_in2 (n : Nat) : Str.ofString "inputs " ++ Str.ofString (toString (n : Int)) = mkS (joinL [32] [sInputs, dgs n]) := mkS_eq (by
  rw [tl_append]
  show tl (Str.ofString "inputs ") ++ dgs n = sInputs ++ ([32] ++ dgs n)
  rw [← List.append_assoc]
  congr 1)
theorem show_gate (a b c : Nat) : Str.empty ++ Str.ofString "gate " ++ Str.ofString (toString (a : Int)) ++ Str.ofString " " ++ Str.ofString (toString (b : Int)) ++ Str.ofString " " ++ Str.ofString (toString (c : Int)) = mkS (gRow (a, b, c)) := mkS_eq (by
  rw [tl_append, tl_append, tl_append, tl_append, tl_append]
  show tl (Str.empty ++ Str.ofString "gate ") ++ dgs a ++ tl (Str.ofString " ") ++ dgs b ++ tl (Str.ofString " ") ++ dgs c = sGate ++ ([32] ++ (dgs a ++ ([32] ++ (dgs b ++ ([32] ++ dgs c)))))
  have e1 : tl (Str.empty ++ Str.ofString "gate ") = sGate ++ [32] := by decide +kernel
  have e2 : tl (Str.ofString " ") = [32] := by decide +kernel
  rw [e1, e2]
  simp only [List.append_assoc])
theorem join_mkS (y : Str) (ps : List (List Nat)) : Txt.join y (ps.map mkS) = mkS (joinL (tl y) ps) := mkS_eq (by
  rw [join_eq, tl_join, List.map_map]
  congr 1
  exact (List.map_congr_left fun p _ => tl_mkS p).trans (List.map_id ps))
theorem outs_join (h : Str) (os : List Nat) : Txt.join (Str.ofString " ") (h :: os.map fun n : Nat => Str.ofString (toString (n : Int))) = mkS (joinL [32] (tl h :: os.map dgs)) := by
  have e : (h :: os.map fun n : Nat => Str.ofString (toString (n : Int))) = (tl h :: os.map dgs).map mkS := by
    rw [List.map_cons, List.map_map]
    refine congr (congrArg _ (mkS_eq rfl)) (List.map_congr_left fun n _ => mkS_eq rfl)
  rw [e, join_mkS]
  congr 2
theorem show_gate2 (g : Nat × Nat × Nat) : Str.ofString "gate " ++ Txt.join (Str.ofString " ") ([g.1, g.2.1, g.2.2].map fun n : Nat => Str.ofString (toString (n : Int))) = mkS (gRow g) := mkS_eq (by
  have e : Txt.join (Str.ofString " ") ([g.1, g.2.1, g.2.2].map fun n : Nat => Str.ofString (toString (n : Int))) = mkS (joinL [32] [dgs g.2.1, dgs g.2.2] |> fun r => dgs g.1 ++ ([32] ++ r)) := outs_join _ [g.2.1, g.2.2]
  rw [e, tl_append]
  show tl (Str.ofString "gate ") ++ (dgs g.1 ++ ([32] ++ joinL [32] [dgs g.2.1, dgs g.2.2])) = sGate ++ ([32] ++ (dgs g.1 ++ ([32] ++ joinL [32] [dgs g.2.1, dgs g.2.2])))
  rw [← List.append_assoc sGate]
  congr 1)
theorem show_outs2 (os : List Nat) (h : os ≠ []) : Str.ofString "outs " ++ Txt.join (Str.ofString " ") (os.map fun n : Nat => Str.ofString (toString (n : Int))) = mkS (joinL [32] (sOuts :: os.map dgs)) := mkS_eq (by
  obtain ⟨o, r, rfl⟩ := List.exists_cons_of_ne_nil h
  rw [tl_append]
  have e : Txt.join (Str.ofString " ") ((o :: r).map fun n : Nat => Str.ofString (toString (n : Int))) = mkS (joinL [32] ((o :: r).map dgs)) := outs_join _ r
  rw [e]
  show tl (Str.ofString "outs ") ++ joinL [32] (dgs o :: r.map dgs) = sOuts ++ ([32] ++ joinL [32] (dgs o :: r.map dgs))
  rw [← List.append_assoc]
  congr 1)
theorem show_join (n : Net) : Txt.join (Str.ofString "\n") ((showRows n).map mkS) = mkS (showW n) := by
  rw [join_mkS]
  congr 2
theorem sum_le {ys : List Str} {b : Nat} (h : ∀ y ∈ ys, y.length ≤ b) : (ys.map (·.length)).sum ≤ ys.length * b := by
  induction ys with
  | nil => exact Nat.zero_le _
  | cons y ys ih =>
    have h1 := h y (List.mem_cons_self ..)
    have h2 := ih fun z hz => h z (List.mem_cons_of_mem _ hz)
    rw [List.map_cons, List.sum_cons, List.length_cons, Nat.add_mul]
    omega
theorem join_fits {ys : List Str} {b c d : Nat} (h : ∀ y ∈ ys, y.length ≤ b) (hl : ys.length ≤ c) (hd : c * b + c * d ≤ 16777216) : (ys.map (·.length)).sum + ys.length * d ≤ 16777216 := by
  have h1 := sum_le h
  have h2 : ys.length * b ≤ c * b := Nat.mul_le_mul_right _ hl
  have h3 : ys.length * d ≤ c * d := Nat.mul_le_mul_right _ hl
  omega
/-! ### whether a thing is a text -/
def Th.kStr : Th → Bool
  | .str _ => true
  | _ => false
theorem kStr_ok : ∀ t : Th, kitB (tyN t) "str" = some t.kStr
  | .non => by decide +kernel
  | .bl _ => by show kitB "bool" "str" = some false; decide +kernel
  | .int _ => by show kitB "int" "str" = some false; decide +kernel
  | .str _ => by show kitB "str" "str" = some true; decide +kernel
  | .oth true => by show kitB "list" "str" = some false; decide +kernel
  | .oth false => by show kitB "dict" "str" = some false; decide +kernel
  | .tup _ => by show kitB "tuple" "str" = some false; decide +kernel
theorem readW_rows {t r0 : List Nat} {R : List (List Nat)} (e : spl [10] 0 [] t = r0 :: R) : readW t = match manyW r0 with
  | none => .inl 0
  | some m => match (R[(gatesW m (R.take 16)).length]?).bind fun r => outsW r (m + (gatesW m (R.take 16)).length) with
    | none => .inl (1 + (gatesW m (R.take 16)).length)
    | some os => if 1 + (gatesW m (R.take 16)).length + 1 < R.length + 1 then .inl (1 + (gatesW m (R.take 16)).length + 1) else .inr ⟨m, gatesW m (R.take 16), os⟩ := by
  unfold readW
  rw [e]
  have h1 : (r0 :: R).headD [] = r0 := rfl
  have h2 : (r0 :: R).drop 1 = R := rfl
  have h3 : ∀ k, (r0 :: R)[1 + k]? = R[k]? := fun k => by rw [Nat.add_comm, List.getElem?_cons_succ]
  rw [h1, h2]
  cases manyW r0 with
  | none => rfl
  | some m =>
    dsimp only
    rw [h3]
    rfl
end GX
set_option Elab.async false
set_option linter.all false
set_option maxRecDepth 100000
set_option maxHeartbeats 2000000
/-! texts that are read are what is shown -/
namespace GX
open PySem PySem.Spec PyProof.Rows L2 TL
theorem spl_ne (s : Nat) : ∀ (t acc : List Nat), spl [s] 0 acc t ≠ []
  | [], acc => by rw [spl_nil]; exact fun z => by cases z
  | c :: r, acc => by
    have e : spl [s] 0 acc (c :: r) = if pre [s] (c :: r) = true then acc :: spl [s] 0 [] r else spl [s] 0 (acc ++ [c]) r := rfl
    rw [e]
    split
    · exact fun z => by cases z
    · exact spl_ne s r _
/-- what split took apart, put together again -/
theorem join_spl (s : Nat) : ∀ (t acc : List Nat), joinL [s] (spl [s] 0 acc t) = acc ++ t
  | [], acc => by
    rw [spl_nil]
    show acc = acc ++ []
    rw [List.append_nil]
  | c :: r, acc => by
    have e : spl [s] 0 acc (c :: r) = if pre [s] (c :: r) = true then acc :: spl [s] 0 [] r else spl [s] 0 (acc ++ [c]) r := rfl
    rw [e]
    have ep : pre [s] (c :: r) = (c == s) := by
      show ([c] == [s]) = (c == s)
      by_cases h : c = s
      · rw [h]; simp
      · rw [beq_false_of_ne h]; exact beq_false_of_ne fun z => h (List.cons.inj z).1
    rw [ep]
    by_cases h : c = s
    · rw [if_pos (by rw [h]; exact beq_self_eq_true s)]
      have ih := join_spl s r []
      cases er : spl [s] 0 [] r with
      | nil => exact absurd er (spl_ne s r [])
      | cons p q =>
        rw [er] at ih
        rw [joinL_cons, ih, h]
        rfl
    · rw [if_neg (by rw [beq_false_of_ne h]; exact Bool.false_ne_true), join_spl s r, List.append_assoc]
      rfl
theorem join_words (row : List Nat) : joinL [32] (wordsW row) = row := (join_spl 32 row []).trans (List.nil_append _)
theorem join_rows (t : List Nat) : joinL [10] (spl [10] 0 [] t) = t := (join_spl 10 t []).trans (List.nil_append _)
theorem val_snoc (w : List Nat) (c : Nat) : valW (w ++ [c]) = 10 * valW w + (c - 48) := by
  unfold valW
  rw [List.foldl_append]
  rfl
theorem val_fold (w : List Nat) (n : Nat) : n * 10 ^ w.length ≤ w.foldl (fun n c => 10 * n + (c - 48)) n := by
  induction w generalizing n with
  | nil => simp
  | cons c r ih =>
    rw [List.foldl_cons, List.length_cons]
    refine Nat.le_trans ?_ (ih _)
    rw [Nat.pow_succ, ← Nat.mul_assoc, Nat.mul_right_comm]
    exact Nat.mul_le_mul_right _ (by omega)
theorem one_digit : ∀ c, c < 58 → 48 ≤ c → dgs (c - 48) = [c] := by decide +kernel
theorem two_digits : ∀ c, c < 58 → ∀ d, d < 58 → (48 ≤ c ∧ 48 ≤ d ∧ c ≠ 48 ∧ 10 * (c - 48) + (d - 48) < 24) → dgs (10 * (c - 48) + (d - 48)) = [c, d] := by decide +kernel
/-- a word that writes a number below 24 is its figures -/
theorem num_dgs {w : List Nat} {n : Nat} (h : numW w = some n) (hn : n < 24) : w = dgs n := by
  unfold numW at h
  split at h
  · cases h
  · rename_i hne
    split at h
    · rename_i hall
      split at h
      · cases h
      · rename_i hz
        cases h
        have hd : ∀ c ∈ w, 48 ≤ c ∧ c < 58 := fun c hc => by
          have h' := Bool.and_eq_true_iff.mp (List.all_eq_true.mp hall c hc)
          have h1 := of_decide_eq_true h'.1
          have h2 := of_decide_eq_true h'.2
          omega
        match w, hne, hd, hz, hn with
        | [c], _, hd, _, _ =>
          obtain ⟨h1, h2⟩ := hd c (List.mem_singleton.mpr rfl)
          have e : valW [c] = c - 48 := by show 10 * 0 + (c - 48) = c - 48; omega
          rw [e]
          exact (one_digit c h2 h1).symm
        | [c, d], _, hd, hz, hn =>
          obtain ⟨h1, h2⟩ := hd c (List.mem_cons_self ..)
          obtain ⟨h3, h4⟩ := hd d (List.mem_cons_of_mem _ (List.mem_singleton.mpr rfl))
          have e : valW [c, d] = 10 * (c - 48) + (d - 48) := by show 10 * (10 * 0 + (c - 48)) + (d - 48) = _; omega
          rw [e] at hn ⊢
          have c48 : c ≠ 48 := fun z => hz ⟨by rw [z]; rfl, fun q => by cases q⟩
          exact (two_digits c h2 d h4 ⟨h1, h3, c48, hn⟩).symm
        | c :: d :: e :: r, _, hd, hz, hn =>
          obtain ⟨h1, h2⟩ := hd c (List.mem_cons_self ..)
          have c48 : c ≠ 48 := fun z => hz ⟨by rw [z]; rfl, fun q => by cases q⟩
          have hv : (c - 48) * 10 ^ (d :: e :: r).length ≤ valW (c :: d :: e :: r) := by
            have := val_fold (d :: e :: r) (10 * 0 + (c - 48))
            rw [show 10 * 0 + (c - 48) = c - 48 by omega] at this
            exact Nat.le_trans this (Nat.le_of_eq (by unfold valW; rw [List.foldl_cons (l := d :: e :: r)]; rw [show 10 * 0 + (c - 48) = c - 48 by omega]))
          have hp : 10 ^ 2 ≤ 10 ^ (d :: e :: r).length := Nat.pow_le_pow_right (by decide) (by rw [List.length_cons, List.length_cons]; omega)
          have : 1 * 10 ^ 2 ≤ (c - 48) * 10 ^ (d :: e :: r).length := Nat.mul_le_mul (by omega) hp
          omega
    · cases h
theorem numsW_some {ws : List (List Nat)} {ns : List Nat} (h : numsW ws = some ns) : ws.map numW = ns.map some := by
  unfold numsW at h
  split at h
  · rename_i hall
    cases h
    rw [List.map_map]
    refine List.map_congr_left fun w hw => ?_
    have := List.all_eq_true.mp hall w hw
    show numW w = some ((numW w).getD 0)
    cases e : numW w with
    | none => rw [e] at this; cases this
    | some n => rfl
  · cases h
theorem nums_dgs {ws : List (List Nat)} {ns : List Nat} (h : numsW ws = some ns) (hn : ∀ n ∈ ns, n < 24) : ws = ns.map dgs := by
  have h := numsW_some h
  induction ws generalizing ns with
  | nil =>
    cases ns with
    | nil => rfl
    | cons _ _ => cases h
  | cons w r ih =>
    cases ns with
    | nil => cases h
    | cons n ns =>
      rw [List.map_cons, List.map_cons] at h
      obtain ⟨h1, h2⟩ := List.cons.inj h
      rw [num_dgs h1 (hn n (List.mem_cons_self ..)), List.map_cons]
      refine congrArg _ (ih ?_ (fun m hm => hn m (List.mem_cons_of_mem _ hm)) h2)
      unfold numsW
      rw [if_pos]
      · refine congrArg some ?_
        have h3 : (r.map numW).map (fun o => o.getD 0) = (ns.map some).map (fun o : Option Nat => o.getD 0) := by rw [h2]
        rw [List.map_map, List.map_map] at h3
        refine (Eq.trans h3 ?_)
        exact (List.map_congr_left fun m _ => rfl).trans (List.map_id ns)
      · rw [List.all_eq_true]
        intro w' hw'
        have : numW w' ∈ r.map numW := List.mem_map.mpr ⟨w', hw', rfl⟩
        rw [h2] at this
        obtain ⟨m, _, e⟩ := List.mem_map.mp this
        rw [← e]
        rfl
theorem behind_eq {h row : List Nat} {ns : List Nat} (e : behindW h row = some ns) (hn : ∀ n ∈ ns, n < 24) : row = joinL [32] (h :: ns.map dgs) := by
  unfold behindW at e
  split at e
  · rename_i hh
    rw [← join_words row]
    cases ew : wordsW row with
    | nil => rw [ew] at hh; cases hh
    | cons w ws =>
      rw [ew] at hh e
      cases hh
      have e : numsW ws = some ns := e
      rw [nums_dgs e hn]
  · cases e
theorem gates_eq {m : Nat} : ∀ (rows : List (List Nat)) (j : Nat), m + j + (gatesW (m + j) rows).length ≤ 24 → rows.take (gatesW (m + j) rows).length = (gatesW (m + j) rows).map gRow
  | [], _, _ => rfl
  | r :: rs, j, h => by
    unfold gatesW at h ⊢
    cases e : gateW r (m + j) with
    | none => rfl
    | some g =>
      rw [e] at h
      have h : m + j + (g :: gatesW (m + (j + 1)) rs).length ≤ 24 := h
      rw [List.length_cons] at h
      show (r :: rs).take ((g :: gatesW (m + (j + 1)) rs).length) = (g :: gatesW (m + (j + 1)) rs).map gRow
      rw [List.length_cons, List.take_succ_cons, List.map_cons, gates_eq rs (j + 1) (by omega)]
      refine congrArg (· :: _) ?_
      obtain ⟨eb, k1, k2, k3⟩ := gateW_some e
      exact behind_eq eb (fun n hn => by
        rcases List.mem_cons.mp hn with rfl | hn
        · omega
        rcases List.mem_cons.mp hn with rfl | hn
        · omega
        · rw [List.mem_singleton.mp hn]; omega)
/-- a text that is read is that of the net -/
theorem show_read {t : List Nat} {n : Net} (h : readW t = .inr n) : showW n = t := by
  have ok := readW_ok h
  have m8 := ok.m8
  have g16 := ok.g16
  rw [← join_rows t]
  unfold showW
  refine congrArg (joinL [10]) ?_
  cases er : spl [10] 0 [] t with
  | nil => exact absurd er (spl_ne 10 t [])
  | cons r0 R =>
    have hr := readW_rows er
    rw [h] at hr
    cases em : manyW r0 with
    | none => rw [em] at hr; cases hr
    | some m =>
      rw [em] at hr
      dsimp only at hr
      have hge := gates_eq (m := m) (R.take 16) 0
      rw [Nat.add_zero] at hge
      generalize hgs : gatesW m (R.take 16) = gs at hr hge
      cases eo : (R[gs.length]?).bind fun r => outsW r (m + gs.length) with
      | none => rw [eo] at hr; cases hr
      | some os =>
        rw [eo] at hr
        dsimp only at hr
        split at hr
        · cases hr
        · rename_i hlt
          cases hr
          obtain ⟨r, hR, ho⟩ := Option.bind_eq_some_iff.mp eo
          obtain ⟨eb, o1, o8, hos⟩ := outsW_some ho
          obtain ⟨em1, _, _⟩ := manyW_some em
          have m8 : m ≤ 8 := m8
          have g16 : gs.length ≤ 16 := g16
          have hlR := (List.getElem?_eq_some_iff.mp hR).1
          have e0 : r0 = joinL [32] [sInputs, dgs m] := behind_eq em1 fun n hn => by rw [List.mem_singleton.mp hn]; omega
          have e1 : r = joinL [32] (sOuts :: os.map dgs) := behind_eq eb fun n hn => by have := hos n hn; omega
          have e2 : R.take gs.length = gs.map gRow := by
            have := hge (by omega)
            rw [List.take_take, Nat.min_eq_left g16] at this
            exact this
          unfold showRows
          show joinL [32] [sInputs, dgs m] :: (gs.map gRow ++ [joinL [32] (sOuts :: os.map dgs)]) = r0 :: R
          rw [← e0, ← e1, ← e2]
          refine congrArg _ ?_
          have hl2 : R.length = gs.length + 1 := by omega
          have : R.drop gs.length = [r] := by
            rw [List.drop_eq_getElem_cons hlR, List.drop_eq_nil_of_le (by omega)]
            exact congrArg (fun z => [z]) ((List.getElem?_eq_some_iff.mp hR).2)
          rw [← this, List.take_append_drop]
/-! ### the law's numbers -/
def figsL : List (List Nat) := (List.range 24).map dgs
def lnW (ws : List (List Nat)) : Option (List Nat) := if (ws.all fun w => decide (w ∈ figsL)) = true then some (ws.map fun w => (numW w).getD 0) else none
theorem mem_figs {w : List Nat} : w ∈ figsL ↔ ∃ n, n < 24 ∧ numW w = some n := by
  constructor
  · intro h
    obtain ⟨n, hn, rfl⟩ := List.mem_map.mp h
    have hn := List.mem_range.mp hn
    exact ⟨n, hn, (dgs_ok n hn).1⟩
  · rintro ⟨n, hn, e⟩
    rw [num_dgs e hn]
    exact List.mem_map.mpr ⟨n, List.mem_range.mpr hn, rfl⟩
theorem lnW_some {ws : List (List Nat)} {ns : List Nat} : lnW ws = some ns ↔ numsW ws = some ns ∧ ∀ n ∈ ns, n < 24 := by
  unfold lnW
  constructor
  · intro h
    split at h
    · rename_i hall
      cases h
      have hf : ∀ w ∈ ws, ∃ n, n < 24 ∧ numW w = some n := fun w hw => mem_figs.mp (of_decide_eq_true (List.all_eq_true.mp hall w hw))
      constructor
      · unfold numsW
        rw [if_pos]
        rw [List.all_eq_true]
        intro w hw
        obtain ⟨n, _, e⟩ := hf w hw
        rw [e]
        rfl
      · intro n hn
        obtain ⟨w, hw, rfl⟩ := List.mem_map.mp hn
        obtain ⟨n, h1, e⟩ := hf w hw
        rw [e]
        exact h1
    · cases h
  · rintro ⟨h, hn⟩
    have hm := numsW_some h
    have hf : ∀ w ∈ ws, w ∈ figsL := fun w hw => by
      have : numW w ∈ ws.map numW := List.mem_map.mpr ⟨w, hw, rfl⟩
      rw [hm] at this
      obtain ⟨n, h1, e⟩ := List.mem_map.mp this
      exact mem_figs.mpr ⟨n, hn n h1, e.symm⟩
    rw [if_pos (List.all_eq_true.mpr fun w hw => decide_eq_true (hf w hw))]
    unfold numsW at h
    split at h
    · exact h
    · cases h
theorem lnW_none {ws : List (List Nat)} (h : lnW ws = none) {ns : List Nat} (hs : numsW ws = some ns) : ∃ n ∈ ns, 24 ≤ n := by
  refine Classical.byContradiction fun z => ?_
  have : lnW ws = some ns := lnW_some.mpr ⟨hs, fun n hn => Nat.lt_of_not_le fun q => z ⟨n, hn, q⟩⟩
  rw [h] at this
  cases this
end GX
set_option Elab.async false
set_option linter.all false
set_option maxRecDepth 100000
set_option maxHeartbeats 2000000
/-! x in range(a, b), x a whole number -/
namespace PySem
open Sem (wp)
section
variable {prog : Program} {w : World} {A : Around} {E : Value → Shared → Prop} {s : Shared}
theorem rangePlace_one (a b x : Int) : (Builtin.Range.rangePlace? a b 1 x).isSome = (decide (a ≤ x) && decide (x < b)) := by
  unfold Builtin.Range.rangePlace?
  simp only [show (1 : Int) > 0 by decide, if_true, Int.emod_one, beq_self_eq_true, Bool.and_true]
  cases h : (decide (a ≤ x) && decide (x < b)) <;> simp [h]
theorem call_range_contains {r : Addr} {a b x : Int} {t u v tk : Tok} {Q : Value → Shared → Prop} (hr : IsRange s.heap r a b 1 t u v) (h : Q (.bool (decide (a ≤ x) && decide (x < b))) s) :
    wpAny (model prog w) A (call (.builtin "range.__contains__") [.ref r, .int x tk]) Q E s := by
  have hT : s.TypeIs (.ref r) "range" := ⟨_, hr, rfl⟩
  refine wpAny_call_entry F.slot_range_contains hT F.entry_range_contains ?_ (F.args_range_contains_2 _ _)
  unfold Builtin.«range.__contains__»
  refine wpAny_bind (wpAny_of_eq (a := (Value.ref r, [Value.int x tk])) rfl ?_)
  dsimp only
  dsimp only [Builtin.Range.rangeExactInt?]
  refine wpAny_bind (wpAny_rule ?_)
  refine wpAny_bind (wpAny_rangeFields hr ?_)
  dsimp only
  rw [rangePlace_one]
  exact wpAny_pure ⟨_, rfl, h⟩
theorem in_range {r : Addr} {a b x : Int} {t u v tk : Tok} {Q : Value → Shared → Prop} (hr : IsRange s.heap r a b 1 t u v) (h : Q (.bool (decide (a ≤ x) && decide (x < b))) s) :
    wpAny (model prog w) A (compareOp .In (.int x tk) (.ref r)) Q E s := by
  have hT : s.TypeIs (.ref r) "range" := ⟨_, hr, rfl⟩
  show wpAny _ A (do return .bool (← contains (.ref r) (.int x tk))) Q E s
  exact wpAny_bind (wpAny_contains_slot hT F.slot_range_contains (call_range_contains hr (wpAny_truthy_bool (wpAny_pure h))))
theorem notIn_range {r : Addr} {a b x : Int} {t u v tk : Tok} {Q : Value → Shared → Prop} (hr : IsRange s.heap r a b 1 t u v) (h : Q (.bool (!(decide (a ≤ x) && decide (x < b)))) s) :
    wpAny (model prog w) A (compareOp .NotIn (.int x tk) (.ref r)) Q E s := by
  have hT : s.TypeIs (.ref r) "range" := ⟨_, hr, rfl⟩
  show wpAny _ A (do return .bool (!(← contains (.ref r) (.int x tk)))) Q E s
  exact wpAny_bind (wpAny_contains_slot hT F.slot_range_contains (call_range_contains hr (wpAny_truthy_bool (wpAny_pure h))))
end
end PySem
namespace L2
open PySem PySem.Spec PyProof.Rows
def tInRg (neg : Bool) (ta : TE) (tr : St → Hp → (Int → Int → Hp → Prop) → Prop) : TE := fun σ H Q => ta σ H fun x H1 => tr σ H1 fun a b H2 => ∃ i, x = .int i ∧ Q (.bl (if neg then !(decide (a ≤ i) && decide (i < b)) else (decide (a ≤ i) && decide (i < b)))) H2
section
variable {X : Cx} {a e : Expr} {ta : TE} {tr : St → Hp → (Int → Int → Hp → Prop) → Prop}
theorem pc_inRg (ha : PE X a ta) (he : PRg X e tr) : PC X .In a e (tInRg false ta tr) := by
  refine ⟨fun pins s σ H Q I h => ?_⟩
  refine thn (ha.run pins s σ H _ I h) fun v s1 ⟨x, H1, I1, r1, q1⟩ => thn (he pins s1 σ H1 _ I1 q1) fun u s2 ⟨r, lo, hi, t, t1, t2, H2, eu, hr, I2, i, ex, q2⟩ => ?_
  subst eu ex
  obtain ⟨tk, rfl⟩ := r1
  exact in_range hr ⟨.bl _, H2, I2, rfl, q2⟩
theorem pc_notInRg (ha : PE X a ta) (he : PRg X e tr) : PC X .NotIn a e (tInRg true ta tr) := by
  refine ⟨fun pins s σ H Q I h => ?_⟩
  refine thn (ha.run pins s σ H _ I h) fun v s1 ⟨x, H1, I1, r1, q1⟩ => thn (he pins s1 σ H1 _ I1 q1) fun u s2 ⟨r, lo, hi, t, t1, t2, H2, eu, hr, I2, i, ex, q2⟩ => ?_
  subst eu ex
  obtain ⟨tk, rfl⟩ := r1
  exact notIn_range hr ⟨.bl _, H2, I2, rfl, q2⟩
end
end L2
namespace GX
open PySem PySem.Spec PyProof.Rows L2
theorem pe_bmK {X : Cx} {K : PySem.W.Frag} {o e : Expr} {es : List Expr} {to : TE} {t : TA} {name : Str} {apos cpos : Pos} {T id : String} {r : V → List V → Hp → VK → Prop} (pa : PlainAttrs T) (slot : Slot T name id) (hty : typeOf (.builtin id) = pure (.type "method_descriptor")) (hm : MtR X id r) (ho : PE X o to) (ha : PA X (e :: es) t)
    (h : X.K = K := by rfl) (hbase : attributeBase o name X.env (eval o X.env) = eval o X.env := by rfl)
    (hfew : ((backTo cpos (starEach (e :: es) X.env)).all (fun x => !x.1) && (backToKw cpos (keywordEach [] X.env)).all (fun x => x.1.isSome)
      && decide ((e :: es).length + ([] : List Keyword).length + (if ([] : List Keyword).isEmpty then 0 else 1) < 30)) = true := by rfl)
    (hline : (apos.endLine == cpos.line) = true := by rfl) (hs : starEach (e :: es) X.env = (false, eval e X.env) :: starEach es X.env := by rfl) (hplain : (backTo cpos (starEach es X.env)).any (·.1) = false := by rfl) :
    PE X (.Call (.Attribute o name apos) (e :: es) [] cpos) (tBM K T r to t) := by
  subst h
  exact pe_bm pa slot hty hm ho ha hbase hfew hline hs hplain
theorem mt_indexK {X : Cx} {K : PySem.W.Frag} (h : X.K = K := by rfl) : MtR X "list.index" (rIndex K) := by subst h; exact mt_index
end GX
set_option Elab.async false
set_option linter.all false
set_option maxRecDepth 100000
set_option maxHeartbeats 4000000
/-! An own exception class whose __init__ says super().__init__(text), then stores a field. -/
namespace GX
open PySem PySem.Spec PySem.W PyProof.Rows L2
section
variable {X : Cx} {pins : List (Addr × Obj)} {σ : L2.St} {H : Hp} {s : Shared}
/-- ValueError.__init__ bound to an instance, called -/
theorem call_mw {A : Around} {E Q : Value → Shared → Prop} {a C u : Addr} {rest : List Value} (T : OexC X.K C) (I : L2.Inv X pins σ H s) (ha : H a = some (exo a C none)) (hu : s.heap.get? u = some (kxs_mw "ValueError.__init__" a)) (hl : rest.length ≤ sizeLine) (q : ∀ s', L2.Inv X pins σ H s' → Q .none s') :
    wpAny (model X.prog X.w) A (call (.ref u) rest) Q E s := by
  obtain ⟨t1, he⟩ := exo_at I.hok ha
  obtain ⟨nm, qn, N, bs, bm, sn, sub, ab, col, dd, k0, k1, k2, k3, k5, lk, hb⟩ := T.cls
  have hC := I.kIn C _ lk
  obtain ⟨h, g, d, tk, os⟩ := s
  refine wpAny_call (codeAny_of_tree ?_)
  show wpAny _ _ (callAny (.ref u) ⟨rest, []⟩) _ _ _
  unfold callAny
  refine wpAny_bind (wpAny_load hu ?_)
  refine KFB.if_so (by show (Value.type "method-wrapper" == Value.type "method" || Value.type "method-wrapper" == Value.type "builtin_function_or_method" || Value.type "method-wrapper" == Value.type "method-wrapper") = true; decide +kernel) ?_
  refine KFB.if_so (by show (Value.type "method-wrapper" != Value.type "method") = true; decide +kernel) ?_
  refine wpAny_bind ?_
  refine ESX.check_bound F.excBase_ValueError hC he rfl ?_
  refine wpAny_pure ⟨plainId_quiet F.excBase_ValueError.toExcCallFacts.init.plain _, ?_⟩
  refine codeAny_builtin F.excBase_ValueError.toExcCallFacts.initEntry ?_
  refine exc_init_tree (e := a) (t0 := t1) (cls := .ref C) (dv := none) (c2 := .none) (c3 := .none) (b4 := .bool false) he hl fun h' k1 k2 k3 => ?_
  have J := I.write (x := a) (e := a) (h' := h') (o := exo a C none) (t' := tk) (by rw [ha]; trivial) (.inl rfl) (fun b v hb e => k1 b v hb e) ⟨_, k2⟩ (exo_ok k2)
  have eH : L2.upd H a (exo a C none) = H := by
    funext b
    by_cases z : b = a
    · rw [z, upd_same, ha]
    · rw [upd_ne z]
  rw [eH] at J
  exact q _ J
end
end GX
set_option Elab.async false
set_option linter.all false
set_option maxRecDepth 100000
set_option maxHeartbeats 4000000
/-! super().__init__(text) in an __init__ of an own exception. -/
namespace GX
open PySem PySem.Spec PySem.W PyProof.Rows L2
/-- what is known of an own exception's __init__ that calls super's: its object, its cell, its code -/
structure SupF (P : Program) (K : PySem.W.Frag) (mg : Str → Option Value) (C f c cl : Addr) (fd : FuncData) (fld : Str) : Prop where
  lk : ∃ oc od osl, K.lookup f = some ⟨oc, od, .func fd, osl⟩
  cell : ∃ oc od osl, K.lookup cl = some ⟨oc, od, .cell (some (.ref C)), osl⟩
  code : fd.code = .ref c
  rec_ : ∃ oc od vs osl t1 file t2, K.lookup c = some ⟨oc, od, .fields vs, osl⟩ ∧ vs[1]? = some (.str fd.qualname t1) ∧ vs[2]? = some (.str file t2) ∧ (P.main.file == file) = true
  main : (P.main.scope.names.lookup ("super" : Str)).isSome = false
  clos : fd.closure = [(("__class__" : Str), cl)]
  glob : fd.globals = mainGlobals
  blt : fd.builtins = builtinsNs
  kind : fd.scope.kind = .function
  co : fd.scope.isCoroutine = false
  gen : fd.scope.isGenerator = false
  names : fd.scope.names = ([(("self" : Str), NameKind.local), (fld, NameKind.local), (("__class__" : Str), NameKind.free), (("super" : Str), NameKind.globalImplicit)] : List (Str × NameKind))
  par : ∃ ar, (fd.params.posonlyargs ++ fd.params.args).head? = some ar ∧ ar.arg = "self"
  T : OexC K C
  sup : ks_superIn K C C "__init__" = some (some (.builtin "ValueError.__init__"))
  sub : subIn K (.ref C) (.type "ValueError") = some true
  self : mroIn K C (.ref C) = some true
  fnd : findIn K (.ref C) fld = some none
  opq : nsIn K cStatics "thirdparty.any" = some none
  ns : mg "super" = none
  fne : ("self" : Str) ≠ fld ∧ ("__class__" : Str) ≠ fld ∧ ("super" : Str) ≠ fld
  dbg : (fld == ("__debug__" : Str)) = false
  cdi : (fld == ("__classdict__" : Str)) = false
/-- the context of its body -/
def supX (P : Program) (w : World) (K : PySem.W.Frag) (mg : Str → Option Value) (base : Heap) (A : Around) (outer : List Env) (s : Shared) (H : Hp) (fd : FuncData) (f : Addr) (fld : Str) : Cx :=
  { prog := P, w := w, K := K, mg := mg, base := base, A := A.deeper (callEnv fd s.heap.objs.size f), N := ["self", fld], s_0 := s, H_0 := H, env := callEnv fd s.heap.objs.size f, outer := outer, stack := callEnv fd s.heap.objs.size f :: outer, ex := [], fn := fun _ => false, calm := true, pn := [], xe := fun _ _ => False }
section
variable {P : Program} {w : World} {K : PySem.W.Frag} {mg : Str → Option Value} {base : Heap} {C f c cl : Addr} {fd : FuncData} {fld : Str}
theorem SupF.look (S : SupF P K mg C f c cl fd fld) : fd.scope.names.lookup ("self" : Str) = some .local ∧ fd.scope.names.lookup fld = some .local ∧ fd.scope.names.lookup ("__class__" : Str) = some .free ∧ fd.scope.names.lookup ("super" : Str) = some .globalImplicit := by
  obtain ⟨h1, h2, h3⟩ := S.fne
  rw [S.names]
  have b : ∀ x : Str, (x == x) = true := fun x => beq_self_eq_true x
  have n : ∀ {x y : Str}, x ≠ y → (x == y) = false := fun h => by simpa using h
  refine ⟨?_, ?_, ?_, ?_⟩
  · rw [List.lookup_cons, b]
  · rw [List.lookup_cons, n (Ne.symm h1), List.lookup_cons, b]
  · rw [List.lookup_cons, show (("__class__" : Str) == "self") = false by decide +kernel, List.lookup_cons, n h2, List.lookup_cons, b]
  · rw [List.lookup_cons, show (("super" : Str) == "self") = false by decide +kernel, List.lookup_cons, n h3, List.lookup_cons, show (("super" : Str) == "__class__") = false by decide +kernel, List.lookup_cons, b]
theorem SupF.free (S : SupF P K mg C f c cl fd fld) {x : Str} (h : fd.scope.names.lookup x = some .cell ∨ fd.scope.names.lookup x = some .free) : x = "__class__" := by
  rw [S.names] at h
  rcases h with h | h
  all_goals
    have := PySem.mem_of_lookup h
    simp only [List.mem_cons, Prod.mk.injEq, List.not_mem_nil, or_false] at this
    rcases this with ⟨_, z⟩ | ⟨_, z⟩ | ⟨e, z⟩ | ⟨_, z⟩
    all_goals first | exact e | cases z
theorem sup_inv {A : Around} {outer : List Env} {s : Shared} {H : Hp} {a : Addr} {v : V} {u : Value} {h1 : Heap} {tk : Nat} (S : SupF P K mg C f c cl fd fld) (e : Env0 P w K mg base A outer s H) (hh : A.handled = none) (rv : RelV v u)
    (hns : h1.Ns s.heap.objs.size fun y => [(("self" : Str), Value.ref a), (fld, u)].reverse.lookup y) (kp : ∀ b o, s.heap.get? b = some o → h1.get? b = some o) :
    L2.Inv (supX P w K mg base A outer s H fd f fld) [] [some (.ref a), some v] H { s with heap := h1, toks := tk } := by
  obtain ⟨l0, l1, l2, l3⟩ := S.look
  obtain ⟨oc, od, osl, hcl⟩ := S.cell
  have hclb := e.bs cl _ (e.mod.kin cl _ hcl)
  have cells : (supX P w K mg base A outer s H fd f fld).env.cells = [(("__class__" : Str), cl)] := S.clos
  have one : ∀ {x : Str} {b : Addr}, (supX P w K mg base A outer s H fd f fld).env.cells.lookup x = some b → x = "__class__" ∧ b = cl := fun {x b} h => by
    rw [cells] at h
    have := PySem.mem_of_lookup h
    rw [List.mem_singleton] at this
    cases this
    exact ⟨rfl, rfl⟩
  have noA : ∀ b : Addr, b ∉ (supX P w K mg base A outer s H fd f fld).ex := fun b z => absurd (show b ∈ ([] : List Addr) from z) (by simp)
  refine ⟨⟨e.mod, S.kind, S.glob, S.blt, Nat.le_refl _, fun x y b h1 h2 => ((one h1).1).trans ((one h2).1).symm, fun x hx => ?_, fun x b z _ => ?_, fun _ => hh, Around.frames_deeper e.frames, .inr ⟨rfl, rfl⟩, fun b z => absurd z (noA b), e.bs, e.bsz, fun b _ _ => noA b, fun b z => absurd z (noA b), e.funs, e.frf⟩,
    rfl, e.bare, Un.kept kp, ⟨_, hns, fun i x v' h1 h2 h3 => ?_⟩, fun x b h => ?_, e.hok.fresh (Nat.le_refl _), fun x b h => ?_, fun q hq => absurd (show q ∈ ([] : List (Addr × Obj)) ++ [] from hq) (by simp), e.hok.kept kp, rfl⟩
  · refine ⟨cl, ?_⟩
    rw [S.free hx, cells, List.lookup_cons, beq_self_eq_true]
  · have z : false = true := z
    cases z
  · have h1 : [("self" : Str), fld][i]? = some x := h1
    match i, h1, h2 with
    | 0, h1, h2 =>
      cases h1
      cases h2
      refine ⟨.ref a, rfl, .inl ⟨l0, ?_⟩⟩
      show List.lookup ("self" : Str) [(fld, u), (("self" : Str), Value.ref a)] = _
      rw [List.lookup_cons, show (("self" : Str) == fld) = false by simpa using S.fne.1, List.lookup_cons, beq_self_eq_true]
    | 1, h1, h2 =>
      cases h1
      cases h2
      refine ⟨u, rv, .inl ⟨l1, ?_⟩⟩
      show List.lookup fld [(fld, u), (("self" : Str), Value.ref a)] = _
      rw [List.lookup_cons, beq_self_eq_true]
    | i + 2, h1, h2 => simp at h2
  · obtain ⟨rfl, rfl⟩ := one h
    exact ⟨_, _, kp _ _ hclb.1, rfl⟩
  · obtain ⟨rfl, rfl⟩ := one h
    exact hclb.2
theorem wpAt_of {α : Type} {M : Model} {A : Around} {cd : Code} {t : Sem α} {Q : α → Shared → Prop} {E : Value → Shared → Prop} {s : Shared} (h : wpAny M A t Q E s) : PySem.wpAt M A cd t Q E s := fun Γ p _ hi => h Γ p hi
/-- what is stored of the instance -/
def spSup (C : Addr) (fld : Str) : Sp := fun vs H Q _ => ∃ (a : Addr) (i : Int), vs = [.ref a, .int i] ∧ H a = some (exo a C none) ∧ i.natAbs.log2 < 1920 ∧ (Str.ofString (toString i)).length ≤ 1000 ∧ ∀ d, H d = none → d ≠ a → Q .non (L2.upd (L2.upd H d (exd d [(fld, .int i)])) a (exo a C (some d)))
theorem sup_run {es : List Expr} {pj p0 p1 p2 p3 p4 p5 p6 p7 p8 : Pos} {k : Nat} (S : SupF P K mg C f c cl fd fld)
    (hbody : fd.body = .stmts [.Expr (.Call (.Attribute (.Call (.Name "super" p0) [] [] p1) "__init__" p2) [.JoinedStr es pj] [] p3) p4, .Assign [.Attribute (.Name "self" p5) fld p6] (.Name fld p7) p8])
    (hev : ∃ pl : Addr → Sem Bool, ∀ L : Addr, eval (.Call (.Attribute (.Call (.Name "super" p0) [] [] p1) "__init__" p2) [.JoinedStr es pj] [] p3) (callEnv fd L f) = do
      let ov ← attributeBase (.Call (.Name "super" p0) [] [] p1) "__init__" (callEnv fd L f) (eval (.Call (.Name "super" p0) [] [] p1) (callEnv fd L f))
      standAt p2.atName
      let __x ← holding [ov] (getMethod ov "__init__" (pl L))
      match __x with
        | (f0, first) => callWith p3 f0 first (backTo p3 (starEach [.JoinedStr es pj] (callEnv fd L f))) [])
    (harg : ∀ X : Cx, X.N = [("self" : Str), fld] → Vis X.env.scope fld → ∃ ta, PA X [.JoinedStr es pj] ta ∧ ∀ σ H (Q : List V → Hp → Prop) (i : Int), σ[1]? = some (some (V.int i)) → i.natAbs.log2 < 1920 → (Str.ofString (toString i)).length ≤ 1000 → (∀ z : Str, Q [V.str z] H) → ta σ H Q) :
    FnOk P w K mg base L2.CX0 (k + 1) f fd ["self", fld] (spSup C fld) := by
  obtain ⟨pl, hev⟩ := hev
  obtain ⟨l0, l1, l2, l3⟩ := S.look
  obtain ⟨oc, od, osl, lk⟩ := S.lk
  obtain ⟨occ, odc, vs, oscl, t1, file, t2, lkc, hv1, hv2, hfile⟩ := S.rec_
  obtain ⟨ocl, odl, oscl2, lkl⟩ := S.cell
  refine ⟨fun vs H Q E h => ?_, fun A outer s H args us vs' Q E hr e hb rv hsp => ?_⟩
  · obtain ⟨a, i, rfl, _⟩ := h
    rfl
  · obtain ⟨a, i, rfl, ha, hi, hil, q⟩ := hsp
    match us, rv with
    | [u0, u1], .cons r0 (.cons r1 .nil) =>
    obtain rfl : u0 = .ref a := r0
    have at_ : ∀ b o, K.lookup b = some o → s.heap.get? b = some o := fun b o h => (e.bs b o (e.mod.kin b o h)).1
    have hf := at_ f _ lk
    have hc := at_ c _ lkc
    refine ks_codeAny_call_defAt (by have := hr.dp; omega) hf rfl (e.mod.nolimit.keeps fun b o h => (e.bs b o h).1) ⟨c, _, vs, t1, S.code, hc, rfl, hv1⟩ hbody hb (fun y hy => ?_) (fun y hy => ?_) (fun h0 hns kp => ?_) S.co S.gen S.kind
    · rw [S.names] at hy
      simp only [List.mem_cons, List.not_mem_nil, or_false] at hy
      rcases hy with rfl | rfl | rfl | rfl <;> (intro z; cases z)
    · have hy : y ∈ [(("self" : Str), Value.ref a), (fld, u1)] := hy
      simp only [List.mem_cons, List.not_mem_nil, or_false] at hy
      rcases hy with rfl | rfl
      · exact l0
      · exact l1
    have J0 := sup_inv (tk := s.toks + ([("self" : Str), fld].zip [Value.ref a, u1]).length) (h1 := h0) S e hr.hd r1 hns kp
    obtain ⟨mb, hmb, hmb2⟩ := e.mod.blt
    have bk : ∀ b o, base.get? b = some o → h0.get? b = some o := fun b o h => kp b o (e.bs b o h).1
    have kin0 : K.In h0 := fun b o h => kp b o (at_ b o h)
    obtain ⟨nm, qn, NN, bs, bm, sn, sub, ab, col, dd, k0, k1, k2, k3, k5, lkC, hbm⟩ := S.T.cls
    have hC0 := kin0 C _ lkC
    have hac : a ≠ C := fun z => by
      have := (e.bs C _ (e.mod.kin C _ lkC)).2
      rw [← z, ha] at this
      cases this
    obtain ⟨tx, hx⟩ := exo_at e.hok ha
    have hx0 := kp a _ hx
    obtain ⟨ar, har, hself⟩ := S.par
    obtain ⟨hs, gs, ds, ts, os⟩ := s
    refine ks_wpAt_execs_cons (ks_wpAt_Expr_any (hi := by show interactive (callEnv fd hs.objs.size f) = false; unfold interactive; simp [callEnv, newEnv, S.kind]) (ks_wpAt_MethodCall (pl := pl _) (he := hev _) (ks_wpAt_super_base l3 l2 (by decide +kernel) rfl (kp f _ hf) rfl har S.code (kp c _ hc) rfl hv2 hfile S.main ?_)))
    refine ks_loadName_global S.kind l3 (Calls.loadGlobal_builtin (mg := mg) (mb := mb) (by show h0.Ns fd.globals mg; rw [S.glob]; exact e.mod.glob.keeps bk) S.ns (by show h0.Ns fd.builtins mb; rw [S.blt]; exact hmb.keeps bk) ((hmb2 _ (by decide +kernel)).trans (show bootBuiltins "super" = some (.type "super") by decide +kernel)) ⟨rfl, ?_⟩)
    refine wpAny_loadName_free S.kind l2 (c := cl) (v := .ref C) (by show List.lookup _ fd.closure = _; rw [S.clos, List.lookup_cons, beq_self_eq_true]) ⟨_, kp cl _ (at_ cl _ lkl), rfl⟩ ?_
    rw [hself]
    refine wpAny_loadName_local S.kind l0 hns (v := .ref a) (by
      show List.lookup ("self" : Str) [(fld, u1), (("self" : Str), Value.ref a)] = _
      rw [List.lookup_cons, show (("self" : Str) == fld) = false by simpa using S.fne.1, List.lookup_cons, beq_self_eq_true]) ?_
    refine ks_wpAny_isType_cls hC0 rfl ⟨rfl, ?_⟩
    refine ks_wpAny_call_super hC0 rfl hx0 rfl (fun _ z => by cases z) (looks_mroIn kin0 S.self) (fun h' hso hk' => ?_)
    have kin1 : K.In h' := fun b o h => hk' b o (kin0 b o h)
    have hx1 := hk' a _ hx0
    obtain ⟨cd, hcd, hal⟩ := Option.bind_eq_some_iff.mp S.sup
    have hopq : Looks (model P w) h' (opaqueClassAbove (.ref C)) none := looks_opaque kin1 S.opq
    have hmro : Looks (model P w) h' (mroOf (.ref C)) cd.mro := fun A' Q' E' s' hk q' => wpAny_bind (looks_clsIn kin1 hcd A' _ E' s' hk (wpAny_pure q'))
    have hins : Looks (model P w) h' (isInstance (.ref a) (.type "ValueError")) true := fun A' Q' E' s' hk q' => by
      obtain ⟨h2, g2, d2, t2', o2⟩ := s'
      exact wpAny_bind (wpAny_bind (wpAny_loadPart' (hk a _ hx1) (wpAny_pure (looks_subIn kin1 S.sub A' Q' E' _ hk q'))))
    refine kxs_getMethod kxs_ValueError hso hopq hmro rfl kin1 hal hins hac (by decide +kernel) ?_
    have uno : h'.get? h'.objs.size = none := by
      cases hz : h'.get? h'.objs.size with
      | none => rfl
      | some o => exact absurd (Heap.lt_size hz) (Nat.lt_irrefl _)
    have J1 := J0.kept (h' := h') (t' := ts + ([("self" : Str), fld].zip [Value.ref a, u1]).length) hk'
    have fp := J1.fpOk (Nat.le_refl _) (J1.hok.fresh (Nat.le_refl _))
    have J2 := J1.kept (h' := h'.push (kxs_mw "ValueError.__init__" a)) (t' := ts + ([("self" : Str), fld].zip [Value.ref a, u1]).length + 1) fun b o h => Heap.get?_push_of_some _ h
    have hu : (h'.push (kxs_mw "ValueError.__init__" a)).get? h'.objs.size = some (kxs_mw "ValueError.__init__" a) := Heap.get?_push_size _ rfl
    have J3 := Inv.pin1 J2 fp hu (fun v z => by cases z)
    obtain ⟨ta, hpa, hta⟩ := harg (supX P w K mg base A outer ⟨hs, gs, ds, ts, os⟩ H fd f fld) rfl (.inl l1)
    refine kxs_callWith1 (h₀ := h') (L := h'.objs.size + 1) (news := [(h'.objs.size, kxs_mw "ValueError.__init__" a)]) (fun p hp => by
      rw [List.mem_singleton.mp hp]
      exact ⟨hu, Nat.ne_of_lt (Nat.lt_succ_self _), uno⟩) List.mem_cons_self ?_
    refine wpAny_mono (hpa.run p3 _ _ _ H (fun vs H1 => (∃ z, vs = [V.str z]) ∧ H1 = H) J3 (hta _ H _ i rfl hi hil fun z => ⟨⟨z, rfl⟩, rfl⟩)) (fun us' s4 hq => ?_) fun _ _ z => z.elim
    obtain ⟨vs4, H4, J4, rv4, ⟨z, rfl⟩, rfl⟩ := hq
    have hp4 := (J4.pin (h'.objs.size, kxs_mw "ValueError.__init__" a) (List.mem_append_right _ List.mem_cons_self)).1
    refine ⟨hp4, ?_⟩
    refine call_mw S.T J4 ha hp4 (by rw [← rv4.length]; exact small 1) fun s5 J5 => ?_
    refine ks_wpAt_execs_cons (wpAt_of (wpAny_mono ((ps_ost (X := supX P w K mg base A outer ⟨hs, gs, ds, ts, os⟩ H4 fd f fld) (pe_var (i := 0) rfl (.inl l0)) (pe_var (i := 1) rfl (.inl l1) S.dbg S.cdi)).run _ _ _ H4 { nx := fun _ H' => Q .non H', rt := fun _ _ => False } J5 ⟨V.int i, rfl, .ref a, rfl, a, C, rfl, S.T, S.fnd, .inl ⟨ha, fun dx h1 h2 => q dx h1 h2⟩⟩) (fun fl s6 hfl => ?_) fun _ _ z => z.elim))
    cases fl with
    | next =>
      obtain ⟨σ6, H6, J6, q6⟩ := hfl
      refine wpAt_of (wpAny_pure ?_)
      exact ⟨.non, H6, J6.os, J6.bare, J6.base, J6.hok, rfl, q6⟩
    | brk =>
      obtain ⟨_, _, _, z⟩ := hfl
      exact z.elim
    | cont =>
      obtain ⟨_, _, _, z⟩ := hfl
      exact z.elim
    | ret u =>
      obtain ⟨_, _, _, _, _, z⟩ := hfl
      exact z.elim
/-- a text of two parts, the second one a number -/
theorem js2 {X : Cx} {fld s0 : Str} {j : Nat} {q0 q1 q2 pj : Pos} (hs : s0.length ≤ 1000) (hN : X.N = [("self" : Str), fld]) (hv : Vis X.env.scope fld) (d1 : (fld == ("__debug__" : Str)) = false) (d2 : (fld == ("__classdict__" : Str)) = false) :
    ∃ ta, PA X [.JoinedStr [.Constant (.str s0) j q0, .FormattedValue (.Name fld q1) (-1) none q2] pj] ta ∧ ∀ σ H (Q : List V → Hp → Prop) (i : Int), σ[1]? = some (some (V.int i)) → i.natAbs.log2 < 1920 → (Str.ofString (toString i)).length ≤ 1000 → (∀ z : Str, Q [V.str z] H) → ta σ H Q := by
  refine ⟨_, pa_cons (pe_joined (.cons pe_str (.cons (pe_fmt (pe_var (i := 1) (by rw [hN]; rfl) hv d1 d2)) .nil))) pa_nil, fun σ H Q i h1 h2 h3 q => ?_⟩
  refine ⟨s0, rfl, ?_, V.int i, h1, .inr ⟨i, rfl, h2, _, rfl, ?_, q _⟩⟩
  · rw [Str.length_append]
    exact Nat.le_trans (show (Str.empty).length + s0.length ≤ 2000 by show 0 + s0.length ≤ 2000; omega) (by decide)
  · rw [Str.length_append, Str.length_append]
    exact Nat.le_trans (show (Str.empty).length + s0.length + (Str.ofString (toString i)).length ≤ 3000 by show 0 + s0.length + _ ≤ 3000; omega) (by decide)
/-- a text of three parts, the second one a number -/
theorem js3 {X : Cx} {fld s0 s2 : Str} {j j2 : Nat} {q0 q1 q2 q3 pj : Pos} (hs : s0.length ≤ 1000) (hs2 : s2.length ≤ 1000) (hN : X.N = [("self" : Str), fld]) (hv : Vis X.env.scope fld) (d1 : (fld == ("__debug__" : Str)) = false) (d2 : (fld == ("__classdict__" : Str)) = false) :
    ∃ ta, PA X [.JoinedStr [.Constant (.str s0) j q0, .FormattedValue (.Name fld q1) (-1) none q2, .Constant (.str s2) j2 q3] pj] ta ∧ ∀ σ H (Q : List V → Hp → Prop) (i : Int), σ[1]? = some (some (V.int i)) → i.natAbs.log2 < 1920 → (Str.ofString (toString i)).length ≤ 1000 → (∀ z : Str, Q [V.str z] H) → ta σ H Q := by
  refine ⟨_, pa_cons (pe_joined (.cons pe_str (.cons (pe_fmt (pe_var (i := 1) (by rw [hN]; rfl) hv d1 d2)) (.cons pe_str .nil)))) pa_nil, fun σ H Q i h1 h2 h3 q => ?_⟩
  refine ⟨s0, rfl, ?_, V.int i, h1, .inr ⟨i, rfl, h2, _, rfl, ?_, s2, rfl, ?_, q _⟩⟩
  · rw [Str.length_append]
    exact Nat.le_trans (show (Str.empty).length + s0.length ≤ 2000 by show 0 + s0.length ≤ 2000; omega) (by decide)
  · rw [Str.length_append, Str.length_append]
    exact Nat.le_trans (show (Str.empty).length + s0.length + (Str.ofString (toString i)).length ≤ 3000 by show 0 + s0.length + _ ≤ 3000; omega) (by decide)
  · rw [Str.length_append, Str.length_append, Str.length_append]
    exact Nat.le_trans (show (Str.empty).length + s0.length + (Str.ofString (toString i)).length + s2.length ≤ 4000 by show 0 + s0.length + _ + _ ≤ 4000; omega) (by decide)
end
/-- an own exception made with a number, which it bears as a field -/
structure SupI (P : Program) (w : World) (K : PySem.W.Frag) (mg : Str → Option Value) (base : Heap) (x : Str) (C : Addr) (fld : Str) (k : Nat) : Prop where
  T : OexC K C
  ex : ∃ fI fd, findIn K (.ref C) "__init__" = some (some (.ref fI)) ∧ typeIn K (.ref fI) = some (.type "function") ∧ FnOk P w K mg base L2.CX0 k fI fd ["self", fld] (spSup C fld) ∧ Binds K fd ["self", fld] []
  g : mg x = some (.ref C)
theorem pmk_sup {X : Cx} {x fld : Str} {C : Addr} {k j : Nat} {e : Expr} {ta : TA} {p pos : Pos} (I : SupI X.prog X.w X.K X.mg X.base x C fld k) (hr : Room j X.A) (hk : k + 1 ≤ j) (hg : Gl X x) (ha : PA X [e] ta) (hd : (x == ("__debug__" : Str)) = false := by decide +kernel)
    (hs : starEach [e] X.env = (false, eval e X.env) :: starEach [] X.env := by rfl) :
    PMk X (.Call (.Name x p) [e] [] pos) (tMkO C (spSup C fld) [] ta) := by
  obtain ⟨fI, fd, h1, h2, F, B⟩ := I.ex
  exact pmk_oex I.T h1 h2 F (hr.mono hk) B .nil (fun _ _ _ _ _ _ _ z => z.elim) hg I.g ha hd hs rfl
/-- what is read of it -/
theorem sup_read {C : Addr} {fld : Str} {i : Int} {H1 : Hp} {Q : XK} (h1 : i.natAbs.log2 < 1920) (h2 : (Str.ofString (toString i)).length ≤ 1000) (q : ∀ d, H1 d = none → Q (.ref C) (some d) (L2.upd H1 d (.xd [(fld, .int i)]))) :
    [V.int i].length ≤ 1000 ∧ ∀ a, H1 a = none → spSup C fld (.ref a :: ([V.int i] ++ [])) (L2.upd H1 a (exo a C none)) (fun v H2 => v = .non ∧ ∃ d fs, H2 a = some (exo a C (some d)) ∧ H2 d = some (exd d fs) ∧ H1 d = none ∧ Q (.ref C) (some d) (L2.upd (L2.del H2 a) d (.xd fs))) (fun _ _ _ => False) := by
  refine ⟨by show 1 ≤ 1000; decide, fun a na => ⟨a, i, rfl, upd_same, h1, h2, fun d hd hda => ⟨rfl, d, [(fld, .int i)], upd_same, ?_, ?_, ?_⟩⟩⟩
  · rw [upd_ne hda, upd_same]
  · rw [upd_ne hda] at hd
    exact hd
  · rw [upd_ne hda] at hd
    have e : L2.upd (L2.del (L2.upd (L2.upd (L2.upd H1 a (exo a C none)) d (exd d [(fld, V.int i)])) a (exo a C (some d))) a) d (.xd [(fld, V.int i)]) = L2.upd H1 d (.xd [(fld, V.int i)]) := by
      funext b
      by_cases z : b = d
      · rw [z, upd_same, upd_same]
      · rw [upd_ne z, upd_ne z]
        unfold L2.del
        by_cases y : b = a
        · rw [if_pos y, y, na]
        · rw [if_neg y, upd_ne y, upd_ne z, upd_ne y]
    rw [e]
    exact q d hd
/-- e.f of a known exception, the base's reading handed in -/
theorem pe_xfB {X : Cx} {K : PySem.W.Frag} {e : Expr} {te : TE} {pos : Pos} {n : Str} (hK : X.K = K) (he : PE X e te) (hb : attributeBase e n X.env (eval e X.env) = eval e X.env) : PE X (.Attribute e n pos) (tXfE K n te) := by
  subst hK
  exact pe_xfE he hb
theorem call_isE1K {X : Cx} {K : PySem.W.Frag} (hK : X.K = K) : CallR X (.builtin "isinstance") (rIsE1 K) := by
  subst hK
  exact call_isE1
theorem call_isETK {X : Cx} {K : PySem.W.Frag} (hK : X.K = K) : CallR X (.builtin "isinstance") (rIsET K) := by
  subst hK
  exact call_isET
end GX
set_option Elab.async false
set_option linter.all false
set_option maxRecDepth 100000
set_option maxHeartbeats 4000000
/-! An own exception made as a value: it stays known. -/
namespace GX
open PySem PySem.Spec PySem.W PyProof.Rows L2
theorem pe_mkX {X : Cx} {e : Expr} {t : L2.St → Hp → XK → Prop} (h : PMk X e t) (hex : X.ex = []) : PE X e (fun σ H Q => t σ H fun cls d H' => ∀ a, H' a = none → Q (.ref a) (upd H' a (XO cls d a))) := by
  refine ⟨fun pins s σ H Q I q => wpAny_mono (h pins s σ H _ I q) (fun u s' hu => ?_) fun _ _ z => z⟩
  obtain ⟨a, oe, vs, sI, H', cls, d, rfl, J, k, hne, ha, hz, hd, h1, na, os, ag, r, q⟩ := hu
  have J2 : Inv X pins σ H' s' := J.landed (B := sI.heap) (fun b o h _ => h) (fun b o h => k b o h) (fun b o h _ => ⟨o.slots, k b o h⟩) os ag
  have nL : a ≠ X.env.locals := fun e => by
    obtain ⟨m, ⟨o, es, ep, ho, _⟩, _⟩ := J.loc
    rw [← e, hne] at ho
    cases ho
  have n0 : X.s_0.heap.get? a = none := by
    cases e : X.s_0.heap.get? a with
    | none => rfl
    | some o =>
      obtain ⟨o', h'⟩ := J.base.there a o e (by rw [hex]; exact List.not_mem_nil)
      rw [hne] at h'
      cases h'
  have np : ∀ p ∈ X.pn ++ pins, p.1 ≠ a := fun p hp e => by
    have := (J.pin p hp).1
    rw [e, hne] at this
    cases this
  exact ⟨.ref a, _, Inv.noteX J2 ha hz hd na nL n0 np, rfl, q a na⟩
/-- C(n) for a variable n -/
theorem sup_var {C : Addr} {fld : Str} {i : Int} {n : Nat} {σ : L2.St} {H : Hp} {Q : XK} (h : σ[n]? = some (some (V.int i))) (h1 : i.natAbs.log2 < 1920) (h2 : (Str.ofString (toString i)).length ≤ 1000) (q : ∀ d, H d = none → Q (.ref C) (some d) (L2.upd H d (.xd [(fld, .int i)]))) : tMkO C (spSup C fld) [] (tCons (tVar n) tNil) σ H Q := ⟨_, h, sup_read h1 h2 q⟩
/-- .. as a value -/
theorem sup_val {C : Addr} {fld : Str} {i : Int} {n : Nat} {σ : L2.St} {H : Hp} {Q : VK} (h : σ[n]? = some (some (V.int i))) (h1 : i.natAbs.log2 < 1920) (h2 : (Str.ofString (toString i)).length ≤ 1000) (q : ∀ d a, H d = none → L2.upd H d (.xd [(fld, .int i)]) a = none → Q (.ref a) (L2.upd (L2.upd H d (.xd [(fld, .int i)])) a (XO (.ref C) (some d) a))) :
    (fun (σ : L2.St) (H : Hp) (Q : VK) => tMkO C (spSup C fld) [] (tCons (tVar n) tNil) σ H fun cls d H' => ∀ a, H' a = none → Q (.ref a) (L2.upd H' a (XO cls d a))) σ H Q := sup_var h h1 h2 fun d nd a na => q d a nd na
theorem tcons_cut {te : TE} {t : TA} {σ : L2.St} {H : Hp} {Q : List V → Hp → Prop} (h : te σ H fun x H1 => t σ H1 fun xs H2 => Q (x :: xs) H2) : tCons te t σ H Q := h
theorem tretL_cut {t : TA} {D : Ends} {σ : L2.St} {H : Hp} (h : t σ H fun xs H1 => xs.length ≤ sizeLine ∧ ∀ p, H1 p = none → D.rt (.ref p) (L2.upd H1 p (.lst xs))) : tRet (tLst t) D σ H := h
end GX
set_option Elab.async false
set_option linter.all false
set_option maxRecDepth 100000
set_option maxHeartbeats 4000000
/-! Defs that raise nothing, called where an exception may be handled (within an except suite). -/
namespace GX
open PySem PySem.Spec PySem.W PyProof.Rows L2
/-- its promise holds whatever is handled -/
structure CalW (P : Program) (w : World) (K : PySem.W.Frag) (mg : Str → Option Value) (base : Heap) (k : Nat) (x : Str) (sp : Sp) : Prop where
  ex : ∃ f : Addr, mg x = some (.ref f) ∧ PySem.W.keepIn K (.ref f) = true ∧ ∀ (A : Around) (outer : List Env) (s : Shared) (H : Hp) (us : List Value) (vs : List V) (Q : VK),
    L2H.RoomH k A → Env0 P w K mg base A outer s H → Vals vs us → sp vs H Q (fun _ _ _ => False) → codeAny (model P w) A (.call (.ref f) ⟨us, []⟩) (CR L2.CX0 outer P w H s Q (fun _ _ _ => False)) s
/-- what is called where nothing is handled -/
theorem CalW.cal {P : Program} {w : World} {K : PySem.W.Frag} {mg : Str → Option Value} {base : Heap} {k : Nat} {x : Str} {sp : Sp} (c : CalW P w K mg base k x sp) : CalX P w K mg base k x (fun vs H Q _ => sp vs H Q fun _ _ _ => False) := by
  obtain ⟨f, h1, h2, r⟩ := c.ex
  refine ⟨f, h1, h2, fun A o s H us vs Q E hr e0 hv hs => codeAny_mono (r A o s H us vs Q (L2H.roomH_of hr) e0 hv hs) fun rs s' hq => ?_⟩
  cases rs with
  | error e => exact False.elim hq
  | ok fl => cases fl <;> exact hq
theorem calW {P : Program} {w : World} {K : PySem.W.Frag} {mg : Str → Option Value} {base : Heap} {k : Nat} {x : Str} {sp : Sp} {st : Stmt} {f c : Addr} {N ps : List Str} (D : Dfn K mg x st f c)
    (hb : ∀ (kV doc pm : Value) (an : Option Addr) (cdv ct : Value) (us : List Value), us.length = ps.length → bindArgs (PySem.W.fnOf x x (defArgs st) (defBody st) (defScope st) .none kV doc pm an cdv ct) ⟨us, []⟩ = pure (ps.zip us))
    (S : FnScope N ps (defScope st)) (len : ∀ vs H Q E, sp vs H Q E → vs.length = ps.length)
    (hbody : ∀ (A : Around) (outer : List Env) (s : Shared) (H : Hp) (vs : List V) (Q : VK) (p : Addr × Obj), L2H.RoomH k (A.deeper (envOfC x (defScope st) s.heap.objs.size f (.ref c))) → sp vs H Q (fun _ _ _ => False) →
      ∃ t, PSs (L2H.cxH L2.CX0 P w K mg base N x (defScope st) f (.ref c) A outer s H (fun _ _ _ => False) p) (defBody st) t ∧ t { nx := fun _ H' => Q .non H', rt := Q } (start N vs) H) : CalW P w K mg base (k + 1) x sp := by
  obtain ⟨oc, od, kV, doc, pm, an, ct, osl, lk⟩ := D.ex
  refine ⟨f, D.mgf, D.kp, fun A outer s H us vs Q hr e0 r hsp => ?_⟩
  have hl := len _ _ _ _ hsp
  have KX : K.In s.heap := e0.mod.kin.keeps fun b o e => (e0.bs b o e).1
  have lim : s.heap.NoLimit := e0.mod.nolimit.keeps fun b o e => (e0.bs b o e).1
  have hpin : L2H.PinOk outer H s (f, ⟨oc, od, .func (PySem.W.fnOf x x (defArgs st) (defBody st) (defScope st) .none kV doc pm an (.ref c) ct), osl⟩) := by
    have hb0 := e0.mod.kin f _ lk
    refine ⟨(e0.bs f _ hb0).1, (e0.bs f _ hb0).2, fun hm => ?_, fun v z => by cases z⟩
    have := (e0.funs.mem hm).1
    rw [hb0] at this
    cases this
  have hkind : ∀ y ∈ ps.zip us, (defScope st).names.lookup y.1 = some .local ∨ ((defScope st).names.lookup y.1 = some .cell ∧ ((cellsFrom (s.heap.objs.size + 1) (defScope st).names []).lookup y.1).isSome = true) := fun ⟨n, v⟩ hy => by
    rcases S.par n (List.of_mem_zip hy).1 with q | q
    · exact .inl q
    · exact .inr ⟨q, PySem.W.cellsFrom_some _ _ _ (.inl q)⟩
  have hb1 := hb kV doc pm an (.ref c) ct us (by rw [← r.length]; exact hl)
  refine codeAny_call_function hr.depth (KX _ _ lk) rfl S.co S.gen rfl (PySem.W.codeRec_of KX D.hcd) ?_
  rw [hb1]
  refine wpAny_pure ?_
  refine wpAny_newFunctionEnv_cells S.kind hkind fun env he s1 x1 => ?_
  subst he
  refine ⟨lim.keeps x1.toInCall.keep, codeAny_func ?_⟩
  obtain ⟨t, ht, hq⟩ := hbody A outer s H vs Q _ (hr.deeper _) hsp
  have I := L2H.inv_startH (CX := L2.CX0) (E := fun _ _ _ => False) S hpin e0 hl r x1
  refine wpAny_mono (ht.run [] s1 (L2.start N vs) H _ I hq) (fun fl s' hs => ?_) fun e s' hs => hs
  cases fl with
  | ret u =>
    obtain ⟨v, σ', H', J, rv, q⟩ := hs
    exact ⟨v, H', J.os, J.bare, J.base, J.hok, rv, q⟩
  | next =>
    obtain ⟨σ', H', J, q⟩ := hs
    exact ⟨.non, H', J.os, J.bare, J.base, J.hok, rfl, q⟩
  | brk =>
    obtain ⟨_, _, _, q⟩ := hs
    exact False.elim q
  | cont =>
    obtain ⟨_, _, _, q⟩ := hs
    exact False.elim q
section
variable {X : Cx} {k j : Nat} {x : Str} {sp : Sp} {p pos : Pos} {e : Expr} {es : List Expr} {t : TA}
/-- f(..) anywhere -/
theorem pe_cW (c : CalW X.prog X.w X.K X.mg X.base k x sp) (hr : L2H.RoomH j X.A) (hk : k ≤ j) (hg : Gl X x) (ha : PA X (e :: es) t)
    (hdb : (x == ("__debug__" : Str)) = false := by decide) (he : starEach (e :: es) X.env = (false, eval e X.env) :: starEach es X.env := by rfl) (hpl : (backTo pos (starEach es X.env)).any (·.1) = false := by rfl) :
    PE X (.Call (.Name x p) (e :: es) [] pos) (tCall sp [] C8.E0 t) := by
  obtain ⟨f, hm, kp, r⟩ := c.ex
  refine ⟨fun pins s σ H Q I h => wpAny_Call_Name_kw (ld_glob I hg hm ?_ hdb)⟩
  refine PySem.W.callWith_K (h₀ := X.base) I.ok.mod.kin kp (thn (ha.run pos pins s σ H _ I h) fun us s1 hh => ?_) he hpl
  obtain ⟨vs, H1, I1, rv, q⟩ := hh
  rw [List.append_nil] at q
  refine ⟨I1.kIn, wpAny_call (codeAny_mono (r X.A X.stack s1 H1 us vs Q (hr.mono hk) I1.env0 rv q) fun rs s' hq => ?_)⟩
  cases rs with
  | error e => exact False.elim hq
  | ok fl =>
    cases fl with
    | ret u => exact I1.after hq
    | next => exact False.elim hq
    | brk => exact False.elim hq
    | cont => exact False.elim hq
end
theorem roomS {X : Cx} {j : Nat} {v : Option Value} (h : Room j X.A) : L2H.RoomH j (X.A.mark v) := ⟨h.dp, h.un⟩
end GX
set_option Elab.async false
set_option linter.all false
set_option maxRecDepth 100000
set_option maxHeartbeats 4000000
/-! A text times an int. -/
namespace GX
open PySem PySem.Spec PyProof.Rows L2
def rMulS : R2 := fun x y H Q => ∃ (i : Str) (k : Int), x = .str i ∧ y = .int k ∧ 0 ≤ k ∧ k ≤ 1000 ∧ i.length ≤ 1000 ∧ Q (.str (Txt.mul i k)) H
theorem op_mulS {X : Cx} : OpR X (binaryOp .Mult) rMulS := by
  intro pins s σ H x y v u Q I rx ry h
  obtain ⟨i, k, rfl, rfl, k0, k1, hz, q⟩ := h
  obtain ⟨t, rfl⟩ := rx
  obtain ⟨t', rfl⟩ := ry
  exact SB.mul (mulOk_of 1000 1000 hz (by omega) (by omega) (by decide) (by decide)) fun t' k' => ⟨.str (Txt.mul i k), H, I.tok _, ⟨_, rfl⟩, q⟩
end GX
namespace C8
open PySem PySem.Spec PyProof.Rows L2 GX
theorem pe_c0 {X : Cx} {k j : Nat} {x : Str} {sp : Sp} {dvs : List V} {p pos : Pos} (c : Cal X.prog X.w X.K X.mg X.base k x sp dvs) (hr : Room j X.A) (hk : k ≤ j) (hg : Gl X x)
    (hdb : (x == ("__debug__" : Str)) = false := by decide) : PE X (.Call (.Name x p) [] [] pos) (tCall sp dvs E0 tNil) := by
  obtain ⟨f, fd, ps, ds, F, hm, kp, b, d⟩ := c.ex
  exact pe_call0 F (hr.mono hk) hg hm kp b d pass0 hdb
end C8
set_option Elab.async false
set_option linter.all false
set_option maxRecDepth 100000
set_option maxHeartbeats 4000000
/-! head, *rest = a list of one part or more -/
namespace GX
open PySem PySem.Spec PyProof.Rows L2
section
variable {prog : Program} {w : World} {A : Around} {E : Value → Shared → Prop} {s : Shared}
theorem star_list {l : Addr} {items : Array Value} {Q : List Value → Shared → Prop} (hl : s.heap.IsList l items) (hh : A.handled = none) (h1 : 1 ≤ items.size) (hz : items.size ≤ sizeLine)
    (h : ∀ (h' : Heap) tk, (∀ b o, s.heap.get? b = some o → h'.get? b = some o) → Q (items.toList.take 1 ++ [.ref h'.objs.size]) { s with heap := h'.push { cls := .type "list", data := .seq (items.toList.drop 1).toArray }, toks := tk }) :
    wpAny (model prog w) A (unpackItems (.ref l) 2 (some 1)) Q E s := by
  have hlt : l ≠ s.heap.objs.size := by obtain ⟨o, ho, _⟩ := hl; exact Nat.ne_of_lt (Heap.lt_size ho)
  unfold unpackItems
  refine wpAny_bind ?_
  unfold notIterableAtAll
  refine wpAny_bind (wpAny_specialOf hl.typeIs slot_list_iter.lookup ?_)
  refine wpAny_pure ?_
  simp only [Bool.false_eq_true, if_false]
  refine wpAny_bind (wpAny_holding (wpAny_pyIter_list hl ?_))
  refine wpAny_bind (wpAny_holding (PySem.W.kun_draw hlt 1 0 _ _ ⟨_, Heap.get?_push_size _ rfl, rfl, rfl⟩ (hl.push _) (by omega) fun h₁ hit₁ hs₁ => ?_))
  have hl₁ : h₁.IsList l items := (hl.push _).extBut hs₁.extBut hlt
  rw [Nat.zero_add] at hit₁
  have hit₁' := hit₁
  obtain ⟨oi, hoi, _⟩ := hit₁'
  have hl₁' := hl₁
  obtain ⟨ol, hol, _⟩ := hl₁'
  rw [List.drop_zero]
  have hfl : (items.toList.take 1).length = 1 := by rw [List.length_take, Array.length_toList]; omega
  rw [if_neg (show ¬ ((items.toList.take 1).length < 1) by rw [hfl]; omega)]
  refine wpAny_bind (wpAny_holding (PySem.W.kun_collect (s := { s with heap := h₁ }) (T := "list_iterator") (.inr (.inr (.inl rfl))) (Walks.list (A := A.in1) hh s.heap.objs.size l hlt items) (fun j u st => st.1.typeIs) (k := 1) h1 ⟨hit₁, hl₁⟩ (Heap.lt_size hoi) (Heap.lt_size hol) (fun h₂ tk hk => ?_) hz))
  have hrl : (items.toList.drop 1).length = items.size - 1 := by rw [List.length_drop, Array.length_toList]
  show wpAny _ _ (if (items.toList.drop 1).length < 0 then _ else _) _ _ _
  rw [if_neg (Nat.not_lt_zero _)]
  show wpAny _ _ (newList ((items.toList.drop 1).take ((items.toList.drop 1).length - 0)) >>= fun d => pure (items.toList.take 1 ++ [d] ++ (items.toList.drop 1).drop ((items.toList.drop 1).length - 0))) _ _ _
  rw [Nat.sub_zero, List.take_length, List.drop_length]
  have he : ∀ b o, s.heap.get? b = some o → h₂.get? b = some o := fun b o e => hk b o (Nat.ne_of_lt (Heap.lt_size e)) (hs₁.extBut b o (Nat.ne_of_lt (Heap.lt_size e)) (Heap.get?_push_of_some _ e))
  refine wpAny_bind (wpAny_newList (s := { s with heap := h₂, toks := tk }) ?_ (by rw [hrl]; omega))
  refine wpAny_pure ?_
  rw [List.append_nil]
  exact h h₂ tk he
end
/-- head, *rest = a list -/
def gHdR (K : PySem.W.Frag) (t : TGs) : TG := fun v σ H Q => ∃ a x xs, v = .ref a ∧ SqL K H a (x :: xs) ∧ ∀ p, H p = none → t [x, .ref p] σ (upd H p (.lst xs)) Q
section
variable {X : Cx} {pos p : Pos}
theorem pgs_star {e : Expr} {t : TG} (h1 : PG X e t) : PGs X [.Starred e p] (gCons t gNil) := by
  refine ⟨fun pins s σ H vs us Q I r h => ?_⟩
  obtain ⟨v, vr, e1, h⟩ := h
  subst e1
  cases r with
  | cons r rr =>
    show wpAny _ _ (assignInOrder (assign e X.env :: []) _) _ _ _
    refine assignInOrder_cons (thn (h1.run pins s σ H _ _ _ I r h) fun _ s1 ⟨σ1, H1, I1, q1⟩ => ?_)
    obtain ⟨e2, q2⟩ := q1
    subst e2
    cases rr
    exact assignInOrder_nil ⟨σ1, H1, I1, q2⟩
theorem pg_hdr {es : List Expr} {k : Nat} {t : TGs} (hc : X.calm = true) (h : PGs X es t)
    (hn : (assignEach es X.env).length = 2 := by rfl) (hst : (assignEach es X.env).findIdx? (·.1) = some 1 := by rfl) : PG X (.Tuple es k pos) (gHdR X.K t) := by
  refine ⟨fun pins s σ H v u Q I r hw => ?_⟩
  obtain ⟨a, x, xs, e1, hq, hw⟩ := hw
  subst e1
  cases r
  obtain ⟨its, rv, pl, hz⟩ := I.list hq
  have hlen := rv.length
  rw [PyProof.Rows.assign_Tuple]
  refine wpAny_bind (wpAny_standAt ?_)
  unfold unpack
  rw [hn, hst]
  have h1 : 1 ≤ its.toArray.size := by rw [List.size_toArray, ← hlen, List.length_cons]; omega
  refine wpAny_bind (wpAny_holding (star_list pl.isList (I.ok.hd hc) h1 (by rw [List.size_toArray, ← hlen]; exact hz) fun h' tk hx => ?_))
  have I1 : Inv X pins σ H { s with heap := h', toks := tk } := I.kept (t' := tk) hx
  cases rv with
  | cons r0 rr =>
    rename_i u0 us
    have hnew := I1.hok.fresh (Nat.le_refl _)
    have I2 : Inv X pins σ (upd H h'.objs.size (.lst xs)) { s with heap := h'.push { cls := .type "list", data := .seq us.toArray }, toks := tk } :=
      I1.laid (t' := tk) (fun b o e => Heap.get?_push_of_some _ e) (Nat.le_refl _) ⟨by rw [List.length_cons] at hz; omega, us, 0, rr, Heap.get?_push_size _ rfl⟩
    exact h.run pins _ σ _ [x, .ref h'.objs.size] _ Q I2 (.cons r0 (.cons rfl .nil)) (hw _ hnew)
end
end GX
set_option Elab.async false
set_option linter.all false
set_option maxRecDepth 100000
set_option maxHeartbeats 4000000
/-! What may raise, called where it raises nothing. -/
namespace GX
open PySem PySem.Spec PyProof.Rows L2
def calm (sp : Sp) : Sp := fun vs H Q _ => sp vs H Q fun _ _ _ => False
section
variable {P : Program} {w : World} {K : PySem.W.Frag} {mg : Str → Option Value} {base : Heap} {k : Nat} {sp : Sp}
theorem fn_calm {f : Addr} {fd : FuncData} {ps : List Str} (F : FnOk P w K mg base (L2.CX P w) k f fd ps sp) : FnOk P w K mg base L2.CX0 k f fd ps (calm sp) := by
  refine ⟨fun vs H Q E q => F.len vs H Q _ q, fun A outer s H args us vs Q E hr he hb hv hs => codeAny_mono (F.run A outer s H args us vs Q (fun _ _ _ => False) hr he hb hv hs) fun r s' hq => ?_⟩
  cases r with
  | error e =>
    obtain ⟨a, B, H', cls, d, _, _, _, _, _, _, _, z⟩ := hq
    exact z.elim
  | ok fl => cases fl <;> exact hq
theorem met_calm {C : Addr} {m : Str} (c : MetX P w K mg base k C m sp) : C8.Met P w K mg base k C m (calm sp) [] := by
  obtain ⟨f, fd, ps, hc, hm, F, hb⟩ := c.ex
  exact ⟨f, fd, ps, [], hc, hm, fn_calm F, hb, .nil⟩
end
end GX
set_option Elab.async false
set_option linter.all false
set_option maxRecDepth 100000
set_option maxHeartbeats 4000000
/-! words[0].replace('old', 'new'), by two constants -/
namespace GX
open PySem PySem.Spec PyProof.Rows L2
def tReplK (K : PySem.W.Frag) (i : Nat) (y z : Str) : TE := fun σ H Q => ∃ a xs w, σ[i]? = some (some (.ref a)) ∧ SqL K H a xs ∧ xs[0]? = some (.str w) ∧ (y == z) = false ∧ w.length + (w.length + 1) * z.length ≤ 16777216 ∧ Q (.str (Txt.replace w y z)) H
theorem pe_replK {X : Cx} {i : Nat} {x y z : Str} {j j0 j1 : Nat} {p1 cp q0 c0 c1 apos pos : Pos} (hN : X.N[i]? = some x) (hv : Vis X.env.scope x)
    (hd : (x == ("__debug__" : Str)) = false := by decide) (hcd : (x == ("__classdict__" : Str)) = false := by decide)
    (hst : starEach [.Constant (.str y) j0 c0, .Constant (.str z) j1 c1] X.env = [(false, eval (.Constant (.str y) j0 c0) X.env), (false, eval (.Constant (.str z) j1 c1) X.env)] := by rfl)
    (hbase : attributeBase (.Subscript (.Name x p1) (.Constant (.int 0) j cp) q0) "replace" X.env (eval (.Subscript (.Name x p1) (.Constant (.int 0) j cp) q0) X.env) = eval (.Subscript (.Name x p1) (.Constant (.int 0) j cp) q0) X.env := by rfl) (hline : (apos.endLine == pos.line) = true := by rfl)
    (hs : PlainIx (.Constant (.int 0) j cp) := by intro _ _; rfl) :
    PE X (.Call (.Attribute (.Subscript (.Name x p1) (.Constant (.int 0) j cp) q0) "replace" apos) [.Constant (.str y) j0 c0, .Constant (.str z) j1 c1] [] pos) (tReplK X.K i y z) := by
  refine ⟨fun pins s σ H Q I h => ?_⟩
  obtain ⟨a, xs, wd, hσ, hl, hx, hyz, hb, q⟩ := h
  obtain ⟨its, rv, pl, hz⟩ := I.list hl
  refine PySem.Call_method2 hbase hst hline (Subscript_ (raw_name hN hv I hσ (fun v r => ?_) hd hcd))
  have e : v = Value.ref a := r
  subst e
  refine wpAny_Constant_int ?_
  obtain ⟨u0, hu0, ru0⟩ : ∃ u0, its.toArray[0]? = some u0 ∧ RelV (.str wd) u0 := by
    cases rv with
    | nil => cases hx
    | cons r0 rr => cases hx; exact ⟨_, rfl, r0⟩
  obtain ⟨tw, e⟩ := ru0
  subst e
  refine item_listR (s := { s with toks := s.toks + 1 }) pl.isList (by omega) (by omega) hu0 ?_ (hs _ _)
  refine ⟨"str", _, F.plainAttrs_str, F.slot_str_replace, F.type_str_replace, typeIs_str _ _ _, (fun _ e => nomatch e), Calls.callWith_builtin rfl (Calls.evalArgs_plain (Calls.spliced_cons (Calls.Constant_str ?_)))⟩
  refine Calls.spliced_cons (Calls.Constant_str (Calls.spliced_nil ?_))
  exact PySem.SC.replace (show s.toks + 1 ≠ 0 by omega) (show s.toks + 1 + 1 ≠ 0 by omega) (show s.toks + 1 ≠ s.toks + 1 + 1 by omega) hyz hb fun t' k => ⟨.str (Txt.replace wd y z), H, I.tok k, ⟨t', rfl⟩, q⟩
end GX
set_option Elab.async false
set_option linter.all false
set_option maxRecDepth 100000
set_option maxHeartbeats 4000000
/-! max of a tuple of ints -/
namespace GX
open PySem PySem.Spec PyProof.Rows L2
section
variable {prog : Program} {w : World} {A : Around} {E : Value → Shared → Prop} {s : Shared} {l : Addr} {xs : Array (Int × Tok)}
theorem tup_eq {h : Heap} {l : Addr} {its : Array Value} (p : IsTup h l its) : h.IsTuple l its := p
theorem max_intTup {Q : Value → Shared → Prop} (hh : A.handled = none) (hl : s.heap.IsTuple l (intItems xs)) (hne : 0 < xs.size)
    (h : ∀ v h' tk, (intItems xs)[argBest (fun i j => decide (numAt xs i > numAt xs j)) (xs.size - 1)]? = some v → (∀ b o, s.heap.get? b = some o → h'.get? b = some o) → Q v { s with heap := h', toks := tk }) :
    wpAny (model prog w) A (call (.builtin "max") [.ref l]) Q E s := by
  have hlt : l < s.heap.objs.size := by obtain ⟨_, e, _⟩ := hl; exact Heap.lt_size e
  refine call_max_walk (iter_tuple (s := s) (t := l) (items := intItems xs) hl ?_)
  refine ⟨_, _, _, _, _, _, _, rfl, Walks.tuple (A := A.in1) hh s.heap.objs.size l (Nat.ne_of_lt hlt) (intItems xs), ⟨⟨_, Heap.get?_push_size _ rfl, rfl, rfl⟩, hl.push _⟩, fun b hb => ?_, by simpa [intItems] using hne, CmpOf.ints_gt (numAt xs) (fun _ _ => intItems_at), fun v h' tk hP hk => ?_⟩
  · show b < (s.heap.push _).objs.size
    rw [Heap.size_push]
    rcases List.mem_cons.mp hb with rfl | hb
    · exact Nat.lt_succ_self _
    · rcases List.mem_cons.mp hb with rfl | hb
      · exact Nat.lt_succ_of_lt hlt
      · cases hb
  · refine h v h' tk (by simpa [intItems] using hP) fun b o e => hk b o (fun hm => ?_) (Heap.get?_push_of_some _ e)
    rcases List.mem_cons.mp hm with e1 | hm
    · exact absurd (e1 ▸ Heap.lt_size e) (Nat.lt_irrefl _)
    · cases hm
theorem max_rawT {its : List Value} {ns : List Int} {Q : Value → Shared → Prop} (hh : A.handled = none) (hl : IsTup s.heap l its.toArray) (hi : IntsAre its ns) (hne : 0 < ns.length)
    (h : ∀ h' tk M t', (∀ b o, s.heap.get? b = some o → h'.get? b = some o) → M ∈ ns → (∀ a, a ∈ ns → a ≤ M) → Q (.int M t') { s with heap := h', toks := tk }) : wpAny (model prog w) A (call (.builtin "max") [.ref l]) Q E s := by
  obtain ⟨xs, e⟩ := hi.allInts.items
  have hn : numsOf (intItems xs).toList = ns := by rw [← e]; exact hi.numsOf
  rw [nums_intItems] at hn
  subst hn
  rw [e] at hl
  have hsz : 0 < xs.size := by simpa using hne
  refine max_intTup hh hl hsz fun v h' tk hv hk => ?_
  obtain ⟨t, rfl⟩ := intItems_at hv
  obtain ⟨h1, h2⟩ := argBest_gt (numAt xs) (xs.size - 1)
  refine h h' tk _ t hk ?_ fun a ha => ?_
  · rw [numAt_eq]; exact PySem.getD_mem (by rw [List.length_map, Array.length_toList]; omega)
  · obtain ⟨j, hj, rfl⟩ := PySem.mem_getD ha
    rw [List.length_map, Array.length_toList] at hj
    rw [← numAt_eq]; exact h2 j (by omega)
end
def rMaxTu (K : PySem.W.Frag) : List V → Hp → VK → Prop := fun vs H Q => ∃ (a : Addr) (ns : List Int), vs = [V.ref a] ∧ SqT K H a (ns.map V.int) ∧ 0 < ns.length ∧ ∀ m, m ∈ ns → (∀ y, y ∈ ns → y ≤ m) → Q (.int m) H
theorem cr_maxTu {X : Cx} (hc : X.calm = true) : CallR X (.builtin "max") (rMaxTu X.K) := by
  intro pins s σ H vs us Q I r h
  obtain ⟨a, ns, rfl, hs, hne, q⟩ := h
  obtain ⟨its, rv, hl, _⟩ := I.tuple hs
  rw [Vals.ref1 r]
  exact max_rawT (I.ok.hd hc) hl rv.ints hne fun h' tk m t' hk h1 h2 => ⟨.int _, H, I.kept hk, ⟨_, rfl⟩, q m h1 h2⟩
end GX
set_option Elab.async false
set_option linter.all false
set_option maxRecDepth 100000
set_option maxHeartbeats 4000000
namespace K76
open PySem PySem.Spec PyProof.Rows L2 GX
open C8 (Cal pe_c pe_gc Met Mak)
-- @dict CHANGES
-- @no CHANGES 0 ""
-- @no CHANGES 1 "0"
-- @no CHANGES 2 "way"
-- @no CHANGES 3 "Kind"
-- @no CHANGES 4 "leads"
-- @dict QUESTIONS
-- @no QUESTIONS 0 "gate"
-- @no QUESTIONS 1 "kind"
-- @no QUESTIONS 2 "lead"
-- @no QUESTIONS 3 "less"
-- @no QUESTIONS 4 "outs"
-- @exc CoverError
-- @exc NoText
-- @exc NoDepth
-- @exc TooMany
-- @exc NoMatch
-- @exc NoChange made
-- @exc NoRow made
-- @sub NoChange NoChange true
-- @sub NoRow NoRow true
-- @sub NoRow ValueError true
-- @sub NoRow NoText false
-- @sub NoRow NoDepth false
-- @sub NoRow TooMany false
-- @sub NoRow NoMatch false
-- @sub NoRow NoChange false
-- @cls Keeper k:i,held:N,kept:t[t[t[i]]]
-- @cls Desk keeper:OKeeper
def topS (i : Nat) : Stmt := PySem.Challenge.pw_tablecover_k76_desk_changes.main.body.getD i (.Pass ⟨0, 0, 0, 0⟩)
abbrev s_wires_of : Stmt := topS 1
theorem sc_wires_of : FnScope ["mask", "wire"] ["mask"] (defScope s_wires_of) := ⟨rfl, rfl, rfl, by decide +kernel, rfl, by decide +kernel, by decide +kernel⟩
abbrev s_fits : Stmt := topS 2
theorem sc_fits : FnScope ["mask", "k", "turn"] ["mask", "k"] (defScope s_fits) := ⟨rfl, rfl, rfl, by decide +kernel, rfl, by decide +kernel, by decide +kernel⟩
abbrev s_has_part : Stmt := topS 3
theorem sc_has_part : FnScope ["masks", "mask", "part"] ["masks", "mask"] (defScope s_has_part) := ⟨rfl, rfl, rfl, by decide +kernel, rfl, by decide +kernel, by decide +kernel⟩
abbrev s_is_whole : Stmt := topS 9
theorem sc_is_whole : FnScope ["thing"] ["thing"] (defScope s_is_whole) := ⟨rfl, rfl, rfl, by decide +kernel, rfl, by decide +kernel, by decide +kernel⟩
abbrev s_is_below : Stmt := topS 10
theorem sc_is_below : FnScope ["thing", "bound"] ["thing", "bound"] (defScope s_is_below) := ⟨rfl, rfl, rfl, by decide +kernel, rfl, by decide +kernel, by decide +kernel⟩
abbrev s_is_many : Stmt := topS 11
theorem sc_is_many : FnScope ["thing"] ["thing"] (defScope s_is_many) := ⟨rfl, rfl, rfl, by decide +kernel, rfl, by decide +kernel, by decide +kernel⟩
abbrev s_is_gate : Stmt := topS 12
theorem sc_is_gate : FnScope ["thing", "wire", "kind", "one", "other"] ["thing", "wire"] (defScope s_is_gate) := ⟨rfl, rfl, rfl, by decide +kernel, rfl, by decide +kernel, by decide +kernel⟩
abbrev s_are_gates : Stmt := topS 13
theorem sc_are_gates : FnScope ["thing", "many", "at", "gate"] ["thing", "many"] (defScope s_are_gates) := ⟨rfl, rfl, rfl, by decide +kernel, rfl, by decide +kernel, by decide +kernel⟩
abbrev s_are_outs : Stmt := topS 14
theorem sc_are_outs : FnScope ["thing", "count", "out"] ["thing", "count"] (defScope s_are_outs) := ⟨rfl, rfl, rfl, by decide +kernel, rfl, by decide +kernel, by decide +kernel⟩
abbrev s_is_net : Stmt := topS 15
theorem sc_is_net : FnScope ["thing", "many", "gates", "outs"] ["thing"] (defScope s_is_net) := ⟨rfl, rfl, rfl, by decide +kernel, rfl, by decide +kernel, by decide +kernel⟩
abbrev s_wires_in : Stmt := topS 16
theorem sc_wires_in : FnScope ["net"] ["net"] (defScope s_wires_in) := ⟨rfl, rfl, rfl, by decide +kernel, rfl, by decide +kernel, by decide +kernel⟩
abbrev s_has_gate : Stmt := topS 17
theorem sc_has_gate : FnScope ["net", "thing"] ["net", "thing"] (defScope s_has_gate) := ⟨rfl, rfl, rfl, by decide +kernel, rfl, by decide +kernel, by decide +kernel⟩
abbrev s_places : Stmt := topS 22
theorem sc_places : FnScope ["net", "gate", "kind", "one", "other"] ["net", "gate"] (defScope s_places) := ⟨rfl, rfl, rfl, by decide +kernel, rfl, by decide +kernel, by decide +kernel⟩
abbrev s_gate_masks : Stmt := topS 30
theorem sc_gate_masks : FnScope ["firsts", "seconds", "k", "found", "first", "second", "mask"] ["firsts", "seconds", "k"] (defScope s_gate_masks) := ⟨rfl, rfl, rfl, by decide +kernel, rfl, by decide +kernel, by decide +kernel⟩
abbrev s_cut_masks : Stmt := topS 31
theorem sc_cut_masks : FnScope ["net", "wires", "k", "masks", "wire", "one", "other"] ["net", "wires", "k"] (defScope s_cut_masks) := ⟨rfl, rfl, rfl, by decide +kernel, rfl, by decide +kernel, by decide +kernel⟩
abbrev s_told_cuts : Stmt := topS 32
theorem sc_told_cuts : FnScope ["masks", "mask"] ["masks"] (defScope s_told_cuts) := ⟨rfl, rfl, rfl, by decide +kernel, rfl, by decide +kernel, by decide +kernel⟩
abbrev s_all_cuts : Stmt := topS 33
theorem sc_all_cuts : FnScope ["net", "k", "wires", "masks", "gate", "one", "other", "wire"] ["net", "k"] (defScope s_all_cuts) := ⟨rfl, rfl, rfl, by decide +kernel, rfl, by decide +kernel, by decide +kernel⟩
abbrev s_with_gate : Stmt := topS 64
theorem sc_with_gate : FnScope ["net", "gate", "held", "many", "gates", "outs", "at"] ["net", "gate", "held"] (defScope s_with_gate) := ⟨rfl, rfl, rfl, by decide +kernel, rfl, by decide +kernel, by decide +kernel⟩
abbrev s_kind_changed : Stmt := topS 65
theorem sc_kind_changed : FnScope ["net", "change", "gate", "kind"] ["net", "change"] (defScope s_kind_changed) := ⟨rfl, rfl, rfl, by decide +kernel, rfl, by decide +kernel, by decide +kernel⟩
abbrev s_lead_changed : Stmt := topS 66
theorem sc_lead_changed : FnScope ["net", "change", "gate", "side", "wire", "kind", "one", "other"] ["net", "change"] (defScope s_lead_changed) := ⟨rfl, rfl, rfl, by decide +kernel, rfl, by decide +kernel, by decide +kernel⟩
abbrev s_gate_added : Stmt := topS 67
theorem sc_gate_added : FnScope ["net", "change", "many", "gates", "outs"] ["net", "change"] (defScope s_gate_added) := ⟨rfl, rfl, rfl, by decide +kernel, rfl, by decide +kernel, by decide +kernel⟩
abbrev s_gate_taken : Stmt := topS 68
theorem sc_gate_taken : FnScope ["net", "change", "many", "gates", "outs"] ["net", "change"] (defScope s_gate_taken) := ⟨rfl, rfl, rfl, by decide +kernel, rfl, by decide +kernel, by decide +kernel⟩
abbrev s_outs_changed : Stmt := topS 69
theorem sc_outs_changed : FnScope ["net", "change", "many", "gates", "outs"] ["net", "change"] (defScope s_outs_changed) := ⟨rfl, rfl, rfl, by decide +kernel, rfl, by decide +kernel, by decide +kernel⟩
abbrev s_has_word : Stmt := topS 71
theorem sc_has_word : FnScope ["thing"] ["thing"] (defScope s_has_word) := ⟨rfl, rfl, rfl, by decide +kernel, rfl, by decide +kernel, by decide +kernel⟩
abbrev s_changed : Stmt := topS 72
theorem sc_changed : FnScope ["net", "change", "action", "told"] ["net", "change"] (defScope s_changed) := ⟨rfl, rfl, rfl, by decide +kernel, rfl, by decide +kernel, by decide +kernel⟩
abbrev s_other_gates : Stmt := topS 80
theorem sc_other_gates : FnScope ["net", "ahead", "behind", "gate"] ["net", "ahead", "behind"] (defScope s_other_gates) := ⟨rfl, rfl, rfl, by decide +kernel, rfl, by decide +kernel, by decide +kernel⟩
abbrev s_Keeper___init__ : Stmt := mthS (topS 81) 0
theorem sc_Keeper___init__ : FnScope ["self", "net", "k"] ["self", "net", "k"] (defScope s_Keeper___init__) := ⟨rfl, rfl, rfl, by decide +kernel, rfl, by decide +kernel, by decide +kernel⟩
abbrev s_Keeper_net : Stmt := mthS (topS 81) 1
theorem sc_Keeper_net : FnScope ["self"] ["self"] (defScope s_Keeper_net) := ⟨rfl, rfl, rfl, by decide +kernel, rfl, by decide +kernel, by decide +kernel⟩
abbrev s_Keeper_do : Stmt := mthS (topS 81) 5
theorem sc_Keeper_do : FnScope ["self", "change", "told", "ahead"] ["self", "change"] (defScope s_Keeper_do) := ⟨rfl, rfl, rfl, by decide +kernel, rfl, by decide +kernel, by decide +kernel⟩
abbrev s_number_in : Stmt := topS 85
theorem sc_number_in : FnScope ["word", "sign", "number"] ["word"] (defScope s_number_in) := ⟨rfl, rfl, rfl, by decide +kernel, rfl, by decide +kernel, by decide +kernel⟩
abbrev s_numbers_in : Stmt := topS 86
theorem sc_numbers_in : FnScope ["words", "numbers", "word"] ["words"] (defScope s_numbers_in) := ⟨rfl, rfl, rfl, by decide +kernel, rfl, by decide +kernel, by decide +kernel⟩
abbrev s_in_figures : Stmt := topS 90
theorem sc_in_figures : FnScope ["numbers", "number"] ["numbers"] (defScope s_in_figures) := ⟨rfl, rfl, rfl, by decide +kernel, rfl, by decide +kernel, by decide +kernel⟩
abbrev s_change_written : Stmt := topS 103
theorem sc_change_written : FnScope ["head", "words", "numbers"] ["head", "words"] (defScope s_change_written) := ⟨rfl, rfl, rfl, by decide +kernel, rfl, by decide +kernel, by decide +kernel⟩
abbrev s_change_answer : Stmt := topS 104
theorem sc_change_answer : FnScope ["keeper", "head", "words", "gates"] ["keeper", "head", "words"] (defScope s_change_answer) := ⟨rfl, rfl, rfl, by decide +kernel, rfl, by decide +kernel, by decide +kernel⟩
abbrev s_Desk___init__ : Stmt := mthS (topS 105) 0
theorem sc_Desk___init__ : FnScope ["self", "many", "k"] ["self", "many", "k"] (defScope s_Desk___init__) := ⟨rfl, rfl, rfl, by decide +kernel, rfl, by decide +kernel, by decide +kernel⟩
abbrev s_Desk_say : Stmt := mthS (topS 105) 1
theorem sc_Desk_say : FnScope ["self", "text", "head", "words", "question", "told"] ["self", "text"] (defScope s_Desk_say) := ⟨rfl, rfl, rfl, by decide +kernel, rfl, by decide +kernel, by decide +kernel⟩
abbrev s_Desk_net : Stmt := mthS (topS 105) 2
theorem sc_Desk_net : FnScope ["self"] ["self"] (defScope s_Desk_net) := ⟨rfl, rfl, rfl, by decide +kernel, rfl, by decide +kernel, by decide +kernel⟩
abbrev s__law_deck : Stmt := topS 107
theorem sc__law_deck : FnScope ["_law_script", "_law_cells", "_law_seed", "_law_cell"] ["_law_script"] (defScope s__law_deck) := ⟨rfl, rfl, rfl, by decide +kernel, rfl, by decide +kernel, by decide +kernel⟩
abbrev s__law_mixed : Stmt := topS 108
theorem sc__law_mixed : FnScope ["_law_cell", "_law_k", "_law_number"] ["_law_cell", "_law_k"] (defScope s__law_mixed) := ⟨rfl, rfl, rfl, by decide +kernel, rfl, by decide +kernel, by decide +kernel⟩
abbrev s__law_draw : Stmt := topS 109
theorem sc__law_draw : FnScope ["_law_deck_here", "_law_most", "_law_cell"] ["_law_deck_here", "_law_most"] (defScope s__law_draw) := ⟨rfl, rfl, rfl, by decide +kernel, rfl, by decide +kernel, by decide +kernel⟩
abbrev s__law_heard : Stmt := topS 110
theorem sc__law_heard : FnScope ["_law_desk", "_law_row", "_law_told", "_law_error", "e", "_law_others"] ["_law_desk", "_law_row"] (defScope s__law_heard) := ⟨rfl, rfl, rfl, by decide +kernel, rfl, by decide +kernel, by decide +kernel⟩
abbrev s__law_put_in : Stmt := topS 111
theorem sc__law_put_in : FnScope ["_law_row", "_law_at", "_law_thing"] ["_law_row", "_law_at", "_law_thing"] (defScope s__law_put_in) := ⟨rfl, rfl, rfl, by decide +kernel, rfl, by decide +kernel, by decide +kernel⟩
abbrev s__law_change : Stmt := topS 112
theorem sc__law_change : FnScope ["_law_deck_here", "_law_net", "_law_most", "_law_way", "_law_many", "_law_gates", "_law_outs", "_law_wires", "_law_at", "_law_one", "_law_other", "_law_kind", "_law_text", "_law_led", "_law_turn", "_law_wire", "_law_side"] ["_law_deck_here", "_law_net", "_law_most"] (defScope s__law_change) := ⟨rfl, rfl, rfl, by decide +kernel, rfl, by decide +kernel, by decide +kernel⟩
abbrev s__law_as_change : Stmt := topS 113
theorem sc__law_as_change : FnScope ["_law_text", "_law_words", "_law_numbers", "_law_word"] ["_law_text"] (defScope s__law_as_change) := ⟨rfl, rfl, rfl, by decide +kernel, rfl, by decide +kernel, by decide +kernel⟩
abbrev s_law : Stmt := topS 114
theorem sc_law : FnScope ["_law_script", "_law_deck_here", "_law_k", "_law_many", "_law_desk", "_law_net", "_law_keeper", "_law_turn", "_law_text", "_law_then", "_law_heard_here", "_law_gates", "_law_gate"] ["_law_script"] (defScope s_law) := ⟨rfl, rfl, rfl, by decide +kernel, rfl, by decide +kernel, by decide +kernel⟩
structure Txt (mg : Str → Option Value) : Prop where
  b_ValueError : mg "ValueError" = none
  b_all : mg "all" = none
  b_any : mg "any" = none
  b_bool : mg "bool" = none
  b_enumerate : mg "enumerate" = none
  b_int : mg "int" = none
  b_isinstance : mg "isinstance" = none
  b_len : mg "len" = none
  b_list : mg "list" = none
  b_max : mg "max" = none
  b_range : mg "range" = none
  b_reversed : mg "reversed" = none
  b_sorted : mg "sorted" = none
  b_str : mg "str" = none
  b_tuple : mg "tuple" = none
  g_FIGURES : ∃ u, mg "FIGURES" = some u ∧ RelV (.str "0123456789") u
  g_KINDS : ∃ u, mg "KINDS" = some u ∧ RelV (.int 16) u
  g_MOST_GATES : ∃ u, mg "MOST_GATES" = some u ∧ RelV (.int 16) u
  g_MOST_INPUTS : ∃ u, mg "MOST_INPUTS" = some u ∧ RelV (.int 8) u
  g_MOST_OUTS : ∃ u, mg "MOST_OUTS" = some u ∧ RelV (.int 8) u
theorem nat_at {l : List Nat} {i : Nat} (h : i < l.length) : (l.map nV)[i]? = some (nV (l.getD i 0)) := natAt h
section
variable {P : Program} {w : World} {K : PySem.W.Frag} {mg : Str → Option Value} {base : Heap}
/-! ### the deck -/
def spMixed : Sp := fun vs H Q _ => ∃ x k : Int, vs = [.int x, .int k] ∧ ∀ d, 0 ≤ d → Q (.int d) H
theorem ok_mixed {f c : Addr} (D : Dfn K mg "_law_mixed" s__law_mixed f c) : Cal P w K mg base 1 "_law_mixed" spMixed [] := by
  refine cal D (fun _ _ _ _ _ _ us hl => match us, hl with | [_, _], _ => rfl) sc__law_mixed (fun vs H Q E h => ?_) (fun A outer s H vs Q E hr h => ?_)
  · obtain ⟨x, k, rfl, _⟩ := h
    rfl
  · obtain ⟨x, k, rfl, q⟩ := h
    refine ⟨_, (pss_cons (ps_set (i := 2) sc__law_mixed.nd rfl (by first | exact Or.inl rfl | exact Or.inr rfl) (pe_op op_mod (pe_op op_mul (pe_op op_add (pe_op op_add (pe_op op_mod (pv 0) pe_int) (pe_op op_mul pe_int (pv 1))) pe_int) pe_int) pe_int))
      (pss_cons (ps_set (i := 2) sc__law_mixed.nd rfl (by first | exact Or.inl rfl | exact Or.inr rfl) (pe_op op_mod (pe_op op_add (pe_op op_add (pe_op op_mul (pv 2) (pv 2)) (pe_op op_mul pe_int (pv 1))) pe_int) pe_int))
      (pss_one (ps_ret (pe_op op_fdiv (pe_op op_mod (pe_op op_add (pe_op op_add (pe_op op_mul (pv 2) (pv 2)) (pe_op op_mul pe_int (pv 2))) (pv 1)) pe_int) pe_int))))), ?_⟩
    refine ⟨_, rfl, _, _, rfl, rfl, (by show (0 : Int) < 2147483629; decide), _, rfl, _, _, rfl, rfl, .inl (by omega), _, _, rfl, rfl, _, _, rfl, rfl, _, _, rfl, rfl, .inr (by omega), _, _, rfl, rfl, (by show (0 : Int) < 2147483647; decide), ?_⟩
    have b1 := Int.emod_nonneg ((x % 2147483629 + 7919 * k + 101) * 48271) (show (2147483647 : Int) ≠ 0 by decide)
    have b2 := Int.emod_lt_of_pos ((x % 2147483629 + 7919 * k + 101) * 48271) (show (0 : Int) < 2147483647 by decide)
    generalize (x % 2147483629 + 7919 * k + 101) * 48271 % 2147483647 = n1 at b1 b2 ⊢
    refine ⟨_, rfl, _, rfl, _, _, rfl, rfl, .inl (by omega), _, rfl, _, _, rfl, rfl, .inl (by omega), _, _, rfl, rfl, _, _, rfl, rfl, _, _, rfl, rfl, (by show (0 : Int) < 2147483587; decide), ?_⟩
    have b3 := Int.emod_nonneg (n1 * n1 + 69621 * k + 7) (show (2147483587 : Int) ≠ 0 by decide)
    have b4 := Int.emod_lt_of_pos (n1 * n1 + 69621 * k + 7) (show (0 : Int) < 2147483587 by decide)
    generalize (n1 * n1 + 69621 * k + 7) % 2147483587 = n2 at b3 b4 ⊢
    refine ⟨_, rfl, _, rfl, _, _, rfl, rfl, .inl (by omega), _, rfl, _, _, rfl, rfl, .inl (by omega), _, _, rfl, rfl, _, rfl, _, _, rfl, rfl, _, _, rfl, rfl, (by show (0 : Int) < 2147483563; decide), _, _, rfl, rfl, ⟨by decide, by decide⟩, ?_⟩
    refine q _ ?_
    have := Int.emod_nonneg (n2 * n2 + 16807 * n2 + k) (show (2147483563 : Int) ≠ 0 by decide)
    omega
def spDraw : Sp := fun vs H Q _ => ∃ (W C : Addr) (m : Int), vs = [.ref W, .int m] ∧ Wd H W C ∧ 0 < m ∧ m < 1073741824 ∧ ∀ d H', 0 ≤ d → d < m → Wk2 W C H H' → Q (.int d) H'
theorem ok_draw {f c : Addr} (D : Dfn K mg "_law_draw" s__law_draw f c) (T : Txt mg) (c__law_mixed : Cal P w K mg base 1 "_law_mixed" spMixed []) : Cal P w K mg base 2 "_law_draw" spDraw [] := by
  refine cal D (fun _ _ _ _ _ _ us hl => match us, hl with | [_, _], _ => rfl) sc__law_draw (fun vs H Q E h => ?_) (fun A outer s H vs Q E hr h => ?_)
  · obtain ⟨W, C, m, rfl, _⟩ := h
    rfl
  · obtain ⟨W, C, m, rfl, ⟨⟨ns, a, b, hW, hC, hl⟩, ne⟩, hm0, hm1, q⟩ := h
    refine ⟨_, (pss_cons (ps_asg (pe_op op_add (pe_ix ix_list (pv 0) pe_int (fun _ _ => rfl)) pe_int) (pg_sub (pv 0) pe_int set_list))
      (pss_cons (ps_if (pt_cmpR (op_eqD hr.units) (pe_ix ix_list (pv 0) pe_int (fun _ _ => rfl)) (pe_lst pa_nil) (nomark _)) (pss_one (ps_ret (pe_op op_mod (pe_c c__law_mixed hr (by decide) (by rfl) (pa_cons (pe_ix ix_list (pv 0) pe_int (fun _ _ => rfl)) (pa_cons (pe_ix ix_list (pv 0) pe_int (fun _ _ => rfl)) pa_nil))) (pv 1)))) pss_nil)
      (pss_cons (ps_set (i := 2) sc__law_draw.nd rfl (by first | exact Or.inl rfl | exact Or.inr rfl) (pe_bm0 PySem.F.plainAttrs_list PySem.F.slot_list_pop PySem.F.type_list_pop mt_pop (pe_ix ix_list (pv 0) pe_int (fun _ _ => rfl))))
      (pss_cons (ps_if (pt_cmpR op_lt (pv 2) (pe_op op_pow pe_int pe_int) (nomark _)) (pss_one (ps_ret (pe_op op_mod (pe_c c__law_mixed hr (by decide) (by rfl) (pa_cons (pv 2) (pa_cons (pe_ix ix_list (pv 0) pe_int (fun _ _ => rfl)) pa_nil))) (pv 1)))) pss_nil)
      (pss_cons (ps_expr (pe_bm PySem.F.plainAttrs_list PySem.F.slot_list_append PySem.F.type_list_append mt_append (pe_ix ix_list (pv 0) pe_int (fun _ _ => rfl)) (pa_cons (pe_op op_fdiv (pv 2) (pv 1)) pa_nil)))
      (pss_one (ps_ret (pe_op op_mod (pv 2) (pv 1))))))))), ?_⟩
    refine ⟨_, rfl, W, _, 2, _, rfl, rfl, SqL.of hW, at2, _, _, rfl, rfl, _, rfl, W, _, 2, 2, rfl, rfl, hW, rfl, ?_⟩
    have hW1 : (upd H W (.lst ([.ref C, .int a, .int b].set 2 (.int (b + 1))))) W = some (.lst [.ref C, .int a, .int (b + 1)]) := upd_same
    have hC1 : (upd H W (.lst ([.ref C, .int a, .int b].set 2 (.int (b + 1))))) C = some (.lst (ns.map V.int)) := by rw [upd_ne (Ne.symm ne)]; exact hC
    have k1 : Keep [W, C] H (upd H W (.lst ([.ref C, .int a, .int b].set 2 (.int (b + 1))))) := Keep.put List.mem_cons_self
    generalize (upd H W (.lst ([.ref C, .int a, .int b].set 2 (.int (b + 1))))) = H1 at hW1 hC1 k1 ⊢
    refine ⟨_, rfl, W, _, 0, _, rfl, rfl, SqL.of hW1, at0, small 0, fun z nz => ?_⟩
    have e2 := Same.new (o := .lst []) nz
    refine ⟨.list (ns.map PyData.int), .list [], .lst (SqL.of (e2 _ _ hC1)) (dpInt K _ _), .lst (SqL.of upd_same) .nil, PySem.W.ke_shaped_ints ns, by decide, _, rfl, ?_⟩
    have hW2 := e2 _ _ hW1
    have hC2 := e2 _ _ hC1
    have k2 : Keep [W, C] H (upd H1 z (.lst [])) := k1.trans (Same.keep e2)
    generalize upd H1 z (.lst []) = H2 at e2 hW2 hC2 k2 ⊢
    refine ite2 (fun g => ?_) (fun g => ?_)
    · refine ⟨_, rfl, W, _, 1, _, rfl, rfl, SqL.of hW2, at1, _, rfl, W, _, 2, _, rfl, rfl, SqL.of hW2, at2, _, _, rfl, fun d d0 => ⟨_, rfl, _, _, rfl, rfl, hm0, ?_⟩⟩
      exact q _ _ (Int.emod_nonneg _ (by omega)) (Int.emod_lt_of_pos _ hm0) ⟨⟨⟨ns, _, _, hW2, hC2, hl⟩, ne⟩, k2⟩
    · have g' : ns.length ≠ 0 := fun z => g (by
        show PyData.eqvAll _ [] = true
        rw [eqvAllN, List.length_map]
        exact decide_eq_true z)
      obtain ⟨ms, x, rfl⟩ : ∃ ms x, ns = ms ++ [x] := ⟨ns.dropLast, ns.getLast (fun z => g' (by rw [z]; rfl)), (List.dropLast_concat_getLast _).symm⟩
      have el : ((ms ++ [x]).map V.int)[((ms ++ [x]).map V.int).length - 1]? = some (.int x) := by
        rw [List.map_append, List.length_append, List.length_map]
        show (ms.map V.int ++ [V.int x])[ms.length + 1 - 1]? = _
        rw [List.getElem?_append_right (by rw [List.length_map]; omega), List.length_map, Nat.add_sub_cancel, Nat.sub_self]
        rfl
      have ed : ((ms ++ [x]).map V.int).dropLast = ms.map V.int := by
        rw [List.map_append]
        exact List.dropLast_concat
      refine ⟨_, rfl, W, _, 0, _, rfl, rfl, SqL.of hW2, at0, .inl ⟨rfl, _, SqL.of hC2⟩, C, _, _, rfl, rfl, hC2, el, ?_⟩
      rw [ed]
      have hW3 : (upd H2 C (.lst (ms.map V.int))) W = some (.lst [.ref C, .int a, .int (b + 1)]) := by rw [upd_ne ne]; exact hW2
      have hC3 : (upd H2 C (.lst (ms.map V.int))) C = some (.lst (ms.map V.int)) := upd_same
      have k3 : Keep [W, C] H (upd H2 C (.lst (ms.map V.int))) := k2.trans (Keep.put (List.mem_cons_of_mem _ List.mem_cons_self))
      have hl3 : ms.length + 1 ≤ 64 := by rw [List.length_append] at hl; exact hl
      generalize upd H2 C (.lst (ms.map V.int)) = H3 at hW3 hC3 k3 ⊢
      refine ⟨_, rfl, _, _, rfl, rfl, ⟨by decide, by decide, by decide⟩, _, _, rfl, rfl, _, rfl, ite2 (fun g2 => ?_) (fun g2 => ?_)⟩
      · refine ⟨_, rfl, _, rfl, W, _, 2, _, rfl, rfl, SqL.of hW3, at2, _, _, rfl, fun d d0 => ⟨_, rfl, _, _, rfl, rfl, hm0, ?_⟩⟩
        exact q _ _ (Int.emod_nonneg _ (by omega)) (Int.emod_lt_of_pos _ hm0) ⟨⟨⟨ms, _, _, hW3, hC3, by omega⟩, ne⟩, k3⟩
      · refine ⟨_, rfl, W, _, 0, _, rfl, rfl, SqL.of hW3, at0, .inl ⟨rfl, _, SqL.of hC3⟩, _, rfl, _, rfl, _, _, rfl, rfl, ⟨hm0, hm1⟩, C, _, _, rfl, rfl, hC3, by rw [List.length_map]; exact len64 (by omega), ?_⟩
        refine ⟨_, rfl, _, rfl, _, _, rfl, rfl, hm0, ?_⟩
        refine q _ _ (Int.emod_nonneg _ (by omega)) (Int.emod_lt_of_pos _ hm0) ⟨⟨⟨ms ++ [x / m], _, _, by rw [upd_ne ne]; exact hW3, by rw [upd_same, List.map_append]; rfl, by rw [List.length_append]; exact hl3⟩, ne⟩, k3.trans (Keep.put (List.mem_cons_of_mem _ List.mem_cons_self))⟩
def spDeck (K : PySem.W.Frag) : Sp := fun vs H Q _ => ∃ (a : Addr) (ns : List Int), vs = [.ref a] ∧ SqL K H a (ns.map V.int) ∧ ns.length ≤ 63 ∧ ∀ p C H', H p = none → H C = none → Wd H' p C → Same H H' → Q (.ref p) H'
theorem ok_deck {f c : Addr} (D : Dfn K mg "_law_deck" s__law_deck f c) (T : Txt mg) : Cal P w K mg base 1 "_law_deck" (spDeck K) [] := by
  refine cal D (fun _ _ _ _ _ _ us hl => match us, hl with | [_], _ => rfl) sc__law_deck (fun vs H Q E h => ?_) (fun A outer s H vs Q E hr h => ?_)
  · obtain ⟨a, ns, rfl, _⟩ := h
    rfl
  · obtain ⟨a, ns, rfl, hS, hl, q⟩ := h
    refine ⟨_, (pss_cons (ps_set (i := 1) sc__law_deck.nd rfl (by first | exact Or.inl rfl | exact Or.inr rfl) (pe_lstRev rfl (by rfl) T.b_list (by rfl) T.b_reversed (pe_slice sl_list (pv 0) po_none (po_some pe_int))))
      (pss_cons (ps_set (i := 2) sc__law_deck.nd rfl (by first | exact Or.inl rfl | exact Or.inr rfl) pe_int)
      (pss_cons (ps_for PassesOwn.never rfl (pi_list (pv 1)) (pg_name (i := 3) sc__law_deck.nd rfl (by first | exact Or.inl rfl | exact Or.inr rfl))
        (pss_one (ps_set (i := 2) sc__law_deck.nd rfl (by first | exact Or.inl rfl | exact Or.inr rfl) (pe_op op_mod (pe_op op_add (pe_op op_add (pe_op op_mul (pv 2) pe_int) (pe_op op_mod (pv 3) pe_int)) pe_int) pe_int))))
      (pss_one (ps_ret (pe_lst (pa_cons (pv 1) (pa_cons (pv 2) (pa_cons pe_int pa_nil))))))))), ?_⟩
    refine ⟨_, rfl, 63, rfl, ?_⟩
    refine ⟨a, _, rfl, hS, fun p np => ?_⟩
    have e1 := Same.new (o := .lst (cutV (ns.map V.int) none (some 63))) np
    refine ⟨p, _, rfl, SqL.of upd_same, fun C nC => ?_⟩
    have ec : cutV (ns.map V.int) none (some 63) = ns.map V.int := by
      rw [show (some (63 : Int)) = some ((63 : Nat) : Int) from rfl, cut_hi, List.take_of_length_le (by rw [List.length_map]; exact hl)]
    rw [ec] at e1 nC ⊢
    have e2 := Same.new (o := .lst (ns.map V.int).reverse) nC
    have hC : (upd (upd H p (.lst (ns.map V.int))) C (.lst (ns.map V.int).reverse)) C = some (.lst (ns.reverse.map V.int)) := by rw [upd_same, List.map_reverse]
    have sm := e1.trans e2
    have C0 : H C = none := by
      cases e : H C with
      | none => rfl
      | some u =>
        have := e1 _ _ e
        rw [nC] at this
        cases this
    generalize upd (upd H p (.lst (ns.map V.int))) C (.lst (ns.map V.int).reverse) = H2 at sm hC ⊢
    refine ⟨_, rfl, C, rfl, ⟨_, SqL.of hC⟩, ?_⟩
    refine for_list (K := K) (a := C) (xs := ns.reverse.map V.int) (fun i σ H' => ∃ (sd : Int) (x3 : Option V), σ = [some (.ref a), some (.ref C), some (.int sd), x3] ∧ H' = H2) ⟨48271, none, rfl, rfl⟩ ?_ ?_ ?_
    · rintro i σ H3 _ ⟨_, _, _, rfl⟩
      exact SqL.of hC
    · rintro i x σ H3 hx ⟨sd, x3, rfl, rfl⟩
      obtain ⟨n, _, rfl⟩ := List.mem_map.mp (List.mem_of_getElem? hx)
      exact ⟨_, rfl, _, _, rfl, rfl, .inr (by omega), _, rfl, _, _, rfl, rfl, (by show (0 : Int) < 1000000007; decide), _, _, rfl, rfl, _, _, rfl, rfl, _, _, rfl, rfl, (by show (0 : Int) < 2147483629; decide), _, _, rfl, rfl⟩
    · rintro σ H3 ⟨sd, x3, rfl, rfl⟩
      refine ⟨_, rfl, _, rfl, small 3, fun W nW => ?_⟩
      have e3 := Same.new (o := .lst [.ref C, .int sd, .int 0]) nW
      have W0 : H W = none := by
        cases e : H W with
        | none => rfl
        | some u =>
          have := sm _ _ e
          rw [nW] at this
          cases this
      exact q W C _ W0 C0 ⟨⟨ns.reverse, _, _, upd_same, e3 _ _ hC, by rw [List.length_reverse]; omega⟩, fun z => by rw [z, hC] at nW; cases nW⟩ (sm.trans e3)
end
end K76
set_option Elab.async false
set_option linter.all false
set_option maxRecDepth 100000
set_option maxHeartbeats 4000000
namespace K76
open PySem PySem.Spec PyProof.Rows L2 GX
open C8 (Cal pe_c pe_gc Met Mak)
-- @dict CHANGES
-- @no CHANGES 0 ""
-- @no CHANGES 1 "0"
-- @no CHANGES 2 "way"
-- @no CHANGES 3 "Kind"
-- @no CHANGES 4 "leads"
-- @dict QUESTIONS
-- @no QUESTIONS 0 "gate"
-- @no QUESTIONS 1 "kind"
-- @no QUESTIONS 2 "lead"
-- @no QUESTIONS 3 "less"
-- @no QUESTIONS 4 "outs"
-- @exc CoverError
-- @exc NoText
-- @exc NoDepth
-- @exc TooMany
-- @exc NoMatch
-- @exc NoChange made
-- @exc NoRow made
-- @sub NoChange NoChange true
-- @sub NoRow NoRow true
-- @sub NoRow ValueError true
-- @sub NoRow NoText false
-- @sub NoRow NoDepth false
-- @sub NoRow TooMany false
-- @sub NoRow NoMatch false
-- @sub NoRow NoChange false
-- @cls Keeper k:i,held:N,kept:t[t[t[i]]]
-- @cls Desk keeper:OKeeper
section
variable {P : Program} {w : World} {K : PySem.W.Frag} {mg : Str → Option Value} {base : Heap} {Ts : List Addr}
def spWires : Sp := fun vs H Q _ => ∃ (a : Addr) (n : Net) (g o : Addr) (ps : List Addr), vs = [.ref a] ∧ NetAt H a n g o ps ∧ Q (nV (n.many + n.gates.length)) H
theorem ok_wires {f c : Addr} (D : Dfn K mg "wires_in" s_wires_in f c) (T : Txt mg) : Cal P w K mg base 1 "wires_in" spWires [] := by
  refine cal D (fun _ _ _ _ _ _ us hl => match us, hl with | [_], _ => rfl) sc_wires_in (fun vs H Q E h => ?_) (fun A outer s H vs Q E hr h => ?_)
  · obtain ⟨a, n, g, o, ps, rfl, _⟩ := h
    rfl
  · obtain ⟨a, n, g, o, ps, rfl, N, q⟩ := h
    refine ⟨_, (pss_one (ps_ret (pe_op op_add (pe_ix ix_tup (pv 0) pe_int (fun _ _ => rfl)) (pe_callB call_len_seq (by rfl) T.b_len (by decide +kernel) (pa_cons (pe_ix ix_tup (pv 0) pe_int (fun _ _ => rfl)) pa_nil))))), ?_⟩
    refine ⟨_, rfl, a, _, 0, _, rfl, rfl, SqT.of N.top, at0, _, rfl, a, _, 1, _, rfl, rfl, SqT.of N.top, at1, g, _, rfl, .inr (SqT.of N.gt), _, _, rfl, rfl, ?_⟩
    have e : (V.int ((n.many : Int) + ((ps.map V.ref).length : Int))) = nV (n.many + n.gates.length) := by
      rw [List.length_map, N.gs.1]
      rfl
    show Q (V.int ((n.many : Int) + ((ps.map V.ref).length : Int))) H
    rw [e]
    exact q
def spPlaces : Sp := fun vs H Q _ => ∃ (a : Addr) (n : Net) (g o : Addr) (ps : List Addr) (x : Nat) (k : Nat × Nat × Nat), vs = [.ref a, nV x] ∧ NetAt H a n g o ps ∧ n.many ≤ x ∧ n.gates[x - n.many]? = some k ∧ ∀ p, H p = none → Q (.ref p) (upd H p (.tup [nV k.2.1, nV k.2.2]))
theorem ok_places {f c : Addr} (D : Dfn K mg "places" s_places f c) : Cal P w K mg base 1 "places" spPlaces [] := by
  refine cal D (fun _ _ _ _ _ _ us hl => match us, hl with | [_, _], _ => rfl) sc_places (fun vs H Q E h => ?_) (fun A outer s H vs Q E hr h => ?_)
  · obtain ⟨a, n, g, o, ps, x, k, rfl, _⟩ := h
    rfl
  · obtain ⟨a, n, g, o, ps, x, k, rfl, N, hx, hk, q⟩ := h
    refine ⟨_, (pss_cons (ps_asg (pe_ix ix_tup (pe_ix ix_tup (pv 0) pe_int (fun _ _ => rfl)) (pe_op op_sub (pv 1) (pe_ix ix_tup (pv 0) pe_int (fun _ _ => rfl))) (fun _ _ => rfl)) (pg_tup rfl (pgs_cons (pg_name (i := 2) sc_places.nd rfl (by first | exact Or.inl rfl | exact Or.inr rfl)) (pgs_cons (pg_name (i := 3) sc_places.nd rfl (by first | exact Or.inl rfl | exact Or.inr rfl)) (pgs_cons (pg_name (i := 4) sc_places.nd rfl (by first | exact Or.inl rfl | exact Or.inr rfl)) pgs_nil)))))
      (pss_one (ps_ret (pe_tup (pa_cons (pv 3) (pa_cons (pv 4) pa_nil)))))), ?_⟩
    have hil : x - n.many < ps.length := by rw [N.gs.1]; exact (List.getElem?_eq_some_iff.mp hk).1
    have hp := N.gs.2 _ _ _ (List.getElem?_eq_getElem hil) hk
    have e1 : (ps.map V.ref)[x - n.many]? = some (.ref ps[x - n.many]) := by rw [List.getElem?_map, List.getElem?_eq_getElem hil]; rfl
    refine ⟨_, rfl, a, _, 1, _, rfl, rfl, SqT.of N.top, at1, _, rfl, _, rfl, a, _, 0, _, rfl, rfl, SqT.of N.top, at0, _, _, rfl, rfl, g, _, _, _, rfl, rfl, SqT.of N.gt, (by rw [show (((x : Nat) : Int) - ((n.many : Nat) : Int)) = ((x - n.many : Nat) : Int) by omega]; exact atI_nat e1), ?_⟩
    refine ⟨_, _, rfl, SqT.of hp, rfl, _, _, rfl, _, _, rfl, _, _, rfl, rfl, ?_⟩
    exact ⟨_, rfl, _, rfl, small 2, fun p np => q p np⟩

end
section
variable {P : Program} {w : World} {K : PySem.W.Frag} {mg : Str → Option Value} {base : Heap} {Ts : List Addr}
def spWiresOf (Ts : List Addr) : Sp := fun vs H Q _ => ∃ M : Nat, vs = [nV M] ∧ M < 2 ^ 23 ∧ Tabs Ts H ∧ ∀ p H', Aft Ts H H' → H' p = some (.tup ((bitsOf M).map nV)) → Q (.ref p) H'
theorem bits_step (M i : Nat) : (List.range (i + 1)).filter (fun x => M.testBit x) = (List.range i).filter (fun x => M.testBit x) ++ (if M.testBit i = true then [i] else []) := by
  rw [List.range_succ, List.filter_append, List.filter_cons]
  rfl
theorem ok_wiresof {f c PG : Addr} (D : Dfn K mg "wires_of" s_wires_of f c) (T : Txt mg) (TB_wires_of : GxR.TabB base mg c PG) (hP : PG ∈ Ts) : Cal P w K mg base 1 "wires_of" (spWiresOf Ts) [] := by
  refine cal D (fun _ _ _ _ _ _ us hl => match us, hl with | [_], _ => rfl) sc_wires_of (fun vs H Q E h => ?_) (fun A outer s H vs Q E hr h => ?_)
  · obtain ⟨M, rfl, _⟩ := h
    rfl
  · obtain ⟨M, rfl, hM, tb, q⟩ := h
    refine ⟨_, (pss_one (ps_ret (pe_tupG (own := [("wire", 1)]) hr (by rfl) T.b_tuple TB_wires_of rfl (gxOk_by (N := ["mask", "wire"]) (sc := defScope s_wires_of) (own := [("wire", 1)]) (by decide +kernel)) sc_wires_of.nd (pi_range1 (by rfl) T.b_range (pa_cons (pe_bits (pv 0)) pa_nil)) (fun _ _ _ _ => (pg_name (i := 1) sc_wires_of.nd rfl (by first | exact Or.inl rfl | exact Or.inr rfl))) (fun _ _ _ _ => (pts_one (pt_truthK (K := K) (pe_op op_and (pe_op op_shr (pv 0) (pv 1)) pe_int) (by intro _; rfl)))) (fun _ _ _ _ => (pv 1))))), ?_⟩
    have hb : Builtin.Int.intBits ((M : Nat) : Int) ≤ 10000 := bits_small hM
    refine ⟨_, rfl, _, rfl, _, rfl, by omega, by omega, tb PG hP, fun H2 ht => ?_⟩
    have a2 : Aft Ts H H2 := ⟨Keep.tabbed hP ht, tb.tabbed ht⟩
    refine turns_it (walk_range (lo := 0) (n := ((Builtin.Int.intBits ((M : Nat) : Int) : Nat) : Int).toNat)) (fun i ys H' => ys = ((List.range i).filter fun x => M.testBit x).map nV ∧ Aft Ts H H') ⟨rfl, a2⟩ (fun i ys H' _ _ => trivial) ?_ ?_
    · rintro i x ys H3 H4 hi ⟨rfl, a3⟩ ⟨rfl, rfl⟩
      rw [Int.toNat_natCast] at hi
      refine ⟨rfl, _, rfl, _, rfl, _, _, rfl, rfl, by omega, _, _, rfl, rfl, ?_⟩
      dsimp -proj only
      rw [Int.zero_add, bit_of]
      refine ⟨_, rfl, ?_⟩
      have ev : ((((M / 2 ^ i % 2 : Nat) : Int) != 0)) = M.testBit i := by
        rw [Nat.testBit_eq_decide_div_mod_eq]
        by_cases h : M / 2 ^ i % 2 = 1
        · rw [h]
          rfl
        · rw [decide_eq_false h, show M / 2 ^ i % 2 = 0 by omega]
          rfl
      rw [ev]
      refine ite2 (fun h0 => ?_) (fun h0 => ?_)
      · refine ⟨_, rfl, ?_, fun _ => ⟨?_, a3⟩⟩
        · show (List.map nV _).length < sizeLine
          rw [List.length_map]
          exact Nat.lt_of_le_of_lt (List.length_filter_le _ _) (by rw [List.length_range]; exact small256 (by omega))
        · rw [bits_step, if_pos h0, List.map_append]
          rfl
      · refine ⟨?_, a3⟩
        rw [bits_step, if_neg h0, List.append_nil]
    · rintro ys H3 ⟨rfl, a3⟩
      rw [Int.toNat_natCast]
      refine ⟨?_, fun r hr => ?_⟩
      · rw [List.length_map]
        exact Nat.le_trans (List.length_filter_le _ _) (by rw [List.length_range]; exact Nat.le_of_lt (small256 hb))
      · exact q r _ (a3.trans (Aft.new a3.tb hr)) upd_same
def spFits : Sp := fun vs H Q _ => ∃ M k : Nat, vs = [nV M, nV k] ∧ k ≤ 1000 ∧ Q (.bl (decide (pop M ≤ k))) H
theorem ok_fits {f c : Addr} (D : Dfn K mg "fits" s_fits f c) (T : Txt mg) : Cal P w K mg base 1 "fits" spFits [] := by
  refine cal D (fun _ _ _ _ _ _ us hl => match us, hl with | [_, _], _ => rfl) sc_fits (fun vs H Q E h => ?_) (fun A outer s H vs Q E hr h => ?_)
  · obtain ⟨M, k, rfl, _⟩ := h
    rfl
  · obtain ⟨M, k, rfl, hk, q⟩ := h
    refine ⟨_, (pss_cons (ps_for PassesOwn.never rfl (pi_range1 (by rfl) T.b_range (pa_cons (pv 1) pa_nil)) (pg_name (i := 2) sc_fits.nd rfl (by first | exact Or.inl rfl | exact Or.inr rfl))
        (pss_one (ps_aug (i := 0) sc_fits.nd rfl (by first | exact Or.inl rfl | exact Or.inr rfl) (pe_op op_sub (pv 0) pe_int) ip_and)))
      (pss_one (ps_ret (pe_cmpR op_eq (pv 0) pe_int (nomark _))))), ?_⟩
    refine ⟨_, rfl, _, rfl, by omega, by omega, ?_⟩
    refine for_range (lo := 0) (n := ((k : Nat) : Int).toNat) (fun i σ H' => ∃ x2 : Option V, σ = [some (nV (clows i M)), some (nV k), x2] ∧ H' = H) ⟨none, rfl, rfl⟩ ?_ ?_
    · rintro i σ H' _ ⟨x2, rfl, rfl⟩
      refine ⟨_, rfl, _, rfl, _, _, rfl, rfl, _, _, rfl, rfl, ?_⟩
      refine ⟨some (V.int (0 + ((i : Nat) : Int))), ?_, rfl⟩
      show [some (V.int (Builtin.bitAnd ((clows i M : Nat) : Int) (((clows i M : Nat) : Int) - 1))), _, _] = _
      rw [and_low]
      rfl
    · rintro σ H' ⟨x2, rfl, rfl⟩
      rw [Int.toNat_natCast]
      refine ⟨_, rfl, rfl, ?_⟩
      have e : decide (nV (clows k M) = V.int 0) = decide (pop M ≤ k) := by
        refine decide_eq_decide.mpr ⟨fun z => (fits_iff M k).mp ?_, fun z => by rw [(fits_iff M k).mpr z]; rfl⟩
        have z' := V.int.inj z
        omega
      show Q (.bl (decide (nV (clows k M) = V.int 0))) H'
      rw [e]
      exact q
def spHasPart : Sp := fun vs H Q _ => ∃ (d : Addr) (F : List Nat) (M : Nat), vs = [.ref d, nV M] ∧ Rd H d (.dK (kvF F)) ∧ 0 < M ∧ Q (.bl (hasPart F M)) H
theorem ok_haspart {f c : Addr} (D : Dfn K mg "has_part" s_has_part f c) (T : Txt mg) : Cal P w K mg base 1 "has_part" spHasPart [] := by
  refine cal D (fun _ _ _ _ _ _ us hl => match us, hl with | [_, _], _ => rfl) sc_has_part (fun vs H Q E h => ?_) (fun A outer s H vs Q E hr h => ?_)
  · obtain ⟨d, F, M, rfl, _⟩ := h
    rfl
  · obtain ⟨d, F, M, rfl, hd, hM, q⟩ := h
    refine ⟨_, (pss_cons (ps_set (i := 2) sc_has_part.nd rfl (by first | exact Or.inl rfl | exact Or.inr rfl) (pe_op op_and (pe_op op_sub (pv 1) pe_int) (pv 1)))
      (pss_cons (ps_while PassesOwn.never (pt_cmpR op_gt (pv 2) pe_int (nomark _)) (pss_cons (ps_if (pt_cmp (pc_din (Nat.lt_of_le_of_lt (Nat.add_le_add_left (by decide) _) hr.units) (pv 2) (pv 0))) (pss_one (ps_ret pe_bl)) pss_nil)
      (pss_one (ps_set (i := 2) sc_has_part.nd rfl (by first | exact Or.inl rfl | exact Or.inr rfl) (pe_op op_and (pe_op op_sub (pv 2) pe_int) (pv 1))))))
      (pss_one (ps_ret pe_bl)))), ?_⟩
    refine ⟨_, rfl, _, _, rfl, rfl, _, rfl, _, _, rfl, rfl, ?_⟩
    dsimp -proj only
    rw [and_next hM]
    have sub1 : ∀ {p : Nat}, Sub ((p - 1) &&& M) M := fun {p} j hj => by
      rw [Nat.testBit_and] at hj
      exact (Bool.and_eq_true_iff.mp hj).2
    refine while_at (fun σ H' => ∃ p : Nat, σ = [some (.ref d), some (nV M), some (nV p)] ∧ H' = H ∧ Sub p M ∧ p < M ∧ ∀ q ∈ F, 0 < q → q ≠ M → Sub q M → q ≤ p) (fun σ _ => natOf σ 2) ⟨_, rfl, rfl, sub1, Nat.lt_of_le_of_lt Nat.and_le_left (by omega), fun q _ h0 ne sq => next_part M M M q (Nat.le_refl _) hM (Sub.refl M) sq (Nat.lt_of_le_of_ne sq.le ne)⟩ ?_
    rintro σ H' ⟨p, rfl, rfl, hp, hpM, hq⟩
    refine ⟨_, rfl, _, _, rfl, rfl, _, rfl, ite2 (fun h0 => ?_) (fun h0 => ?_)⟩
    · have p0 : 0 < p := by
        have := of_decide_eq_true h0
        omega
      refine ⟨_, whN, ?_⟩
      have dg : DGet H' d (nV p) (valV (kvF F) (nK p)) := .inl ⟨kvF F, nK p, hd, rfl, rfl⟩
      refine ⟨_, rfl, _, rfl, d, _, rfl, dg, _, rfl, ?_⟩
      rw [kvF_some]
      refine ite2 (fun hin => ?_) (fun hin => ?_)
      · have e : hasPart F M = true := hasPart_iff.mpr ⟨p, of_decide_eq_true hin, p0, Nat.ne_of_lt hpM, hp⟩
        rw [e] at q
        exact q
      · refine ⟨_, rfl, _, _, rfl, rfl, _, rfl, _, _, rfl, rfl, ?_⟩
        dsimp -proj only
        rw [and_next p0]
        have lt : (p - 1) &&& M < p := Nat.lt_of_le_of_lt Nat.and_le_left (by omega)
        refine ⟨⟨_, rfl, rfl, sub1, by omega, fun q hqF h0 ne sq => ?_⟩, ?_⟩
        · have le := hq q hqF h0 ne sq
          have ne2 : q ≠ p := fun z => hin (decide_eq_true (by rw [← z]; exact hqF))
          exact next_part p p M q (Nat.le_refl _) p0 hp sq (by omega)
        · exact lt
    · have p0 : p = 0 := by
        refine Classical.not_not.mp fun z => h0 (decide_eq_true ?_)
        show ((p : Nat) : Int) > 0
        omega
      have e : hasPart F M = false := by
        cases e : hasPart F M with
        | false => rfl
        | true =>
          obtain ⟨q', h1, h2, h3, h4⟩ := hasPart_iff.mp e
          have := hq q' h1 h2 h3 h4
          omega
      rw [e] at q
      exact q
def spGateMasks : Sp := fun vs H Q _ => ∃ (la lb : Addr) (fs ss : List Nat) (k : Nat), vs = [.ref la, .ref lb, nV k] ∧ H la = some (.lst (fs.map nV)) ∧ H lb = some (.lst (ss.map nV)) ∧ (∀ f ∈ fs, 0 < f ∧ f < 2 ^ 23) ∧ (∀ f ∈ ss, f < 2 ^ 23) ∧ k ≤ 1000 ∧
  ∀ p H' (F : List Nat), Same H H' → H p = none → H' p = some (.lst ((F.filter fun M => !hasPart F M).map nV)) → F.Nodup → (∀ M ∈ F, M < 2 ^ 23) → Found k fs ss F → Q (.ref p) H'
theorem ok_gatemasks {f c : Addr} (D : Dfn K mg "gate_masks" s_gate_masks f c) (T : Txt mg) (c_fits : Cal P w K mg base 1 "fits" spFits []) (c_has_part : Cal P w K mg base 1 "has_part" spHasPart []) : Cal P w K mg base 2 "gate_masks" spGateMasks [] := by
  refine cal D (fun _ _ _ _ _ _ us hl => match us, hl with | [_, _, _], _ => rfl) sc_gate_masks (fun vs H Q E h => ?_) (fun A outer s H vs Q E hr h => ?_)
  · obtain ⟨la, lb, fs, ss, k, rfl, _⟩ := h
    rfl
  · obtain ⟨la, lb, fs, ss, k, rfl, hla, hlb, hfs, hss, hk, q⟩ := h
    refine ⟨_, (pss_cons (ps_set (i := 3) sc_gate_masks.nd rfl (by first | exact Or.inl rfl | exact Or.inr rfl) pe_dnewK)
      (pss_cons (ps_for PassesOwn.never rfl (pi_list (pv 0)) (pg_name (i := 4) sc_gate_masks.nd rfl (by first | exact Or.inl rfl | exact Or.inr rfl))
        (pss_one (ps_for PassesOwn.never rfl (pi_list (pv 1)) (pg_name (i := 5) sc_gate_masks.nd rfl (by first | exact Or.inl rfl | exact Or.inr rfl))
        (pss_one (ps_if (pt_val (pe_c c_fits hr (by decide) (by rfl) (pa_cons (pe_op op_or (pv 4) (pv 5)) (pa_cons (pv 2) pa_nil)))) (pss_one (ps_dput (Nat.lt_of_le_of_lt (Nat.add_le_add_left (by decide) _) hr.units) (pv 3) (pe_op op_or (pv 4) (pv 5)) pe_bl (by rfl))) pss_nil)))))
      (pss_one (ps_ret (pe_lock (pe_lc (own := [("mask", 6)]) (g := gName 6)  rfl sc_gate_masks.nd (pi_keys (pv 3)) (blkOk_by (own := [("mask", 6)]) (N := ["firsts", "seconds", "k", "found", "first", "second", "mask"]) (sc := defScope s_gate_masks) (by decide +kernel)) (fun _ _ _ _ _ => (pg_name (i := 6) sc_gate_masks.nd rfl (by first | exact Or.inl rfl | exact Or.inr rfl))) (fun _ _ _ _ _ => (pts_one (pt_not (pt_val (pe_c c_has_part hr (by decide) (by rfl) (pa_cons (pv 3) (pa_cons (pv 6) pa_nil))))))) (fun _ _ _ _ _ => (pv 6)))))))), ?_⟩
    refine fun d nd => ?_
    have s1 := Same.new (o := .dK []) nd
    have putA : ∀ {Hx : Hp} {u : HO}, Same H Hx → Same H (upd Hx d u) := fun {Hx u} x b o e => by rw [upd_ne (ne_of_none e nd)]; exact x b o e
    have hd1 : upd H d (.dK []) d = some (.dK (kvF [])) := upd_same
    generalize upd H d (.dK []) = H1 at s1 hd1 ⊢
    refine ⟨_, rfl, la, rfl, ⟨_, SqL.of (s1 _ _ hla)⟩, ?_⟩
    refine for_list (K := K) (a := la) (xs := fs.map nV) (fun i σ H' => ∃ (x4 x5 x6 : Option V) (F : List Nat), σ = [some (.ref la), some (.ref lb), some (nV k), some (.ref d), x4, x5, x6] ∧ Same H H' ∧ H' d = some (.dK (kvF F)) ∧ F.Nodup ∧ (∀ M ∈ F, 0 < M ∧ M < 2 ^ 23) ∧ FoundW k fs ss i 0 F) ⟨none, none, none, [], rfl, s1, hd1, List.nodup_nil, fun M hM => (by cases hM), FoundW.zero _ _ _⟩ ?_ ?_ ?_
    · rintro i σ H' _ ⟨_, _, _, _, _, s', _⟩
      exact SqL.of (s' _ _ hla)
    · rintro i x σ H2 hx ⟨x4, x5, x6, F, rfl, s2, hd2, nF, lF, fw⟩
      have hi : i < fs.length := by
        have := (List.getElem?_eq_some_iff.mp hx).1
        rwa [List.length_map] at this
      rw [natAt hi] at hx
      cases hx
      obtain ⟨f0, f23⟩ := hfs _ (getD_mem hi)
      refine ⟨_, rfl, lb, rfl, ⟨_, SqL.of (s2 _ _ hlb)⟩, ?_⟩
      refine for_list (K := K) (a := lb) (xs := ss.map nV) (fun j σ H' => ∃ (x5 x6 : Option V) (F : List Nat), σ = [some (.ref la), some (.ref lb), some (nV k), some (.ref d), some (nV (fs.getD i 0)), x5, x6] ∧ Same H H' ∧ H' d = some (.dK (kvF F)) ∧ F.Nodup ∧ (∀ M ∈ F, 0 < M ∧ M < 2 ^ 23) ∧ FoundW k fs ss i j F) ⟨_, _, F, rfl, s2, hd2, nF, lF, fw⟩ ?_ ?_ ?_
      · rintro j σ H' _ ⟨_, _, _, _, s', _⟩
        exact SqL.of (s' _ _ hlb)
      · rintro j x σ H3 hx ⟨x5, x6, F, rfl, s3, hd3, nF, lF, fw⟩
        have hj : j < ss.length := by
          have := (List.getElem?_eq_some_iff.mp hx).1
          rwa [List.length_map] at this
        rw [natAt hj] at hx
        cases hx
        have s23 := hss _ (getD_mem hj)
        have o23 := or_lt23 f23 s23
        have o0 : 0 < fs.getD i 0 ||| ss.getD j 0 := Nat.lt_of_lt_of_le f0 (sub_or_left _ _).le
        refine ⟨_, rfl, _, rfl, _, _, rfl, rfl, _, rfl, fs.getD i 0 ||| ss.getD j 0, k, (by show [V.int (Builtin.bitOr _ _), _] = _; rw [or_of]; rfl), hk, _, rfl, ite2 (fun hp => ?_) (fun hp => ?_)⟩
        · have hp' := of_decide_eq_true hp
          refine ⟨_, rfl, _, rfl, _, rfl, _, _, rfl, rfl, ?_⟩
          dsimp -proj only
          rw [or_of]
          generalize hM : fs.getD i 0 ||| ss.getD j 0 = M at o23 o0 hp' ⊢
          refine ⟨d, _, rfl, DPut.k (k := nK M) hd3 (by rw [kvF_len]; exact nodup_lt23 nF fun M h => (lF M h).2), ?_⟩
          by_cases e : M ∈ F
          · rw [kvF_again e]
            exact ⟨_, _, F, rfl, putA s3, upd_same, nF, lF, fw.yes hj (by rw [hM]; exact hp') fun M' => by
              rw [hM]
              exact ⟨.inl, fun z => z.elim id fun z => by rw [z]; exact e⟩⟩
          · rw [kvF_put e]
            refine ⟨_, _, F ++ [M], rfl, putA s3, upd_same, nodup_snoc nF e, fun M' h => ?_, fw.yes hj (by rw [hM]; exact hp') fun M' => by rw [hM, List.mem_append, List.mem_singleton]⟩
            rcases List.mem_append.mp h with h | h
            · exact lF M' h
            · rw [List.mem_singleton.mp h]
              exact ⟨o0, o23⟩
        · exact ⟨_, _, F, rfl, s3, hd3, nF, lF, fw.no hj fun z => hp (decide_eq_true z)⟩
      · rintro σ H3 ⟨x5, x6, F, rfl, s3, hd3, nF, lF, fw⟩
        rw [List.length_map] at fw
        exact ⟨_, _, _, F, rfl, s3, hd3, nF, lF, fw.row hi⟩
    · rintro σ H2 ⟨x4, x5, x6, F, rfl, s2, hd2, nF, lF, fw⟩
      rw [List.length_map] at fw
      have fl := nodup_lt23 nF fun M h => (lF M h).2
      refine ⟨d, .dK (kvF F), hd2, trivial, fun od => ⟨_, rfl, d, od, rfl, .inl ⟨kvF F, upd_same, fun S nS => ?_⟩⟩⟩
      have hdl : upd H2 d (.frz od (.dK (kvF F))) d = some (.frz od (.dK (kvF F))) := upd_same
      have sl : Same H (upd H2 d (.frz od (.dK (kvF F)))) := putA s2
      generalize upd H2 d (.frz od (.dK (kvF F))) = Hl at nS hdl sl ⊢
      refine lc_it (walk_keys (kvs := kvF F)) (fun i H' => Own Hl H' S (((F.take i).filter fun M => !hasPart F M).map nV)) ⟨Same.new nS, upd_same, nS⟩ (fun i H' _ o' => o'.sm _ _ hdl) ?_ ?_
      · rintro i x H3 H4 hi o3 ⟨rfl, kk, v, hkv, rfl⟩
        rw [kvF_len] at hi
        have ek : kk = nK (F.getD i 0) := by
          unfold kvF at hkv
          rw [List.getElem?_map, List.getElem?_eq_getElem hi] at hkv
          rw [List.getD_eq_getElem?_getD, List.getElem?_eq_getElem hi]
          have := Option.some.inj hkv
          exact (congrArg Prod.fst this).symm
        subst ek
        have hm := getD_mem hi
        have ef : (F.take (i + 1)).filter (fun M => !hasPart F M) = (F.take i).filter (fun M => !hasPart F M) ++ (if (!hasPart F (F.getD i 0)) = true then [F.getD i 0] else []) := by
          rw [List.take_add_one, List.filter_append, List.getD_eq_getElem?_getD, List.getElem?_eq_getElem hi, Option.toList_some, List.filter_cons]
          rfl
        generalize F.getD i 0 = z at hm ef ⊢
        refine ⟨rfl, _, rfl, _, rfl, d, F, z, rfl, .inr ⟨od, o3.sm _ _ hdl⟩, (lF z hm).1, _, rfl, ite2 (fun hg => ?_) (fun hg => ?_)⟩
        · refine ⟨_, rfl, _, o3.at_, ?_, ?_⟩
          · rw [List.length_map]
            exact Nat.lt_of_le_of_lt (List.length_filter_le _ _) (by rw [List.length_take]; omega)
          · rw [ef, if_pos hg, List.map_append]
            exact o3.app
        · show Own Hl H4 S _
          rw [ef, if_neg hg, List.append_nil]
          exact o3
      · rintro H3 o3
        rw [kvF_len, List.take_length] at o3
        refine ⟨o3.sm _ _ hdl, ?_⟩
        have Sd : S ≠ d := fun z => by rw [z, hdl] at nS; cases nS
        have s4 : Same H (upd H3 d (.dK (kvF F))) := putA (sl.trans o3.sm)
        have S0 : H S = none := Classical.not_not.mp fun z => by
          obtain ⟨u, hu⟩ := Option.ne_none_iff_exists'.mp z
          rw [sl _ _ hu] at nS
          cases nS
        exact q S _ F s4 S0 (by rw [upd_ne Sd]; exact o3.at_) nF (fun M h => (lF M h).2) fw.all
end
section
variable {P : Program} {w : World} {K : PySem.W.Frag} {mg : Str → Option Value} {base : Heap} {Ts : List Addr}
structure WsOk (n : Net) (ws : List Nat) : Prop where
  ris : ws.Pairwise (· < ·)
  lt : ∀ x ∈ ws, x < n.many + n.gates.length
  clo : ∀ x ∈ ws, ∀ k, n.many ≤ x → n.gates[x - n.many]? = some k → k.2.1 ∈ ws ∧ k.2.2 ∈ ws
def spCutMasks : Sp := fun vs H Q _ => ∃ (a wa : Addr) (n : Net) (g o : Addr) (ps : List Addr) (ws : List Nat) (k : Nat), vs = [.ref a, .ref wa, nV k] ∧ NetAt H a n g o ps ∧ n.Ok ∧ H wa = some (.lst (ws.map nV)) ∧ WsOk n ws ∧ 1 ≤ k ∧ k ≤ 1000 ∧
  ∀ d H' kvs, Same H H' → H' d = some (.dK kvs) → (∀ x ∈ ws, CutsIn n k H' kvs x) → Q (.ref d) H'
theorem ok_cutmasks {f c : Addr} (D : Dfn K mg "cut_masks" s_cut_masks f c) (T : Txt mg) (c_places : Cal P w K mg base 1 "places" spPlaces []) (c_gate_masks : Cal P w K mg base 2 "gate_masks" spGateMasks []) : Cal P w K mg base 3 "cut_masks" spCutMasks [] := by
  refine cal D (fun _ _ _ _ _ _ us hl => match us, hl with | [_, _, _], _ => rfl) sc_cut_masks (fun vs H Q E h => ?_) (fun A outer s H vs Q E hr h => ?_)
  · obtain ⟨a, wa, n, g, o, ps, ws, k, rfl, _⟩ := h
    rfl
  · obtain ⟨a, wa, n, g, o, ps, ws, k, rfl, N, ok, hwa, wok, hk1, hk, q⟩ := h
    have m8 := ok.m8
    have g16 := ok.g16
    refine ⟨_, (pss_cons (ps_set (i := 3) sc_cut_masks.nd rfl (by first | exact Or.inl rfl | exact Or.inr rfl) pe_dnewK)
      (pss_cons (ps_for PassesOwn.never rfl (pi_list (pv 1)) (pg_name (i := 4) sc_cut_masks.nd rfl (by first | exact Or.inl rfl | exact Or.inr rfl))
        (pss_cons (ps_dput (Nat.lt_of_le_of_lt (Nat.add_le_add_left (by decide) _) hr.units) (pv 3) (pv 4) (pe_lst pa_nil) (by rfl))
      (pss_one (ps_if (pt_cmpR op_ge (pv 4) (pe_ix ix_tup (pv 0) pe_int (fun _ _ => rfl)) (nomark _)) (pss_cons (ps_asg (pe_c c_places hr (by decide) (by rfl) (pa_cons (pv 0) (pa_cons (pv 4) pa_nil))) (pg_tup rfl (pgs_cons (pg_name (i := 5) sc_cut_masks.nd rfl (by first | exact Or.inl rfl | exact Or.inr rfl)) (pgs_cons (pg_name (i := 6) sc_cut_masks.nd rfl (by first | exact Or.inl rfl | exact Or.inr rfl)) pgs_nil))))
      (pss_one (ps_dput (Nat.lt_of_le_of_lt (Nat.add_le_add_left (by decide) _) hr.units) (pv 3) (pv 4) (pe_c c_gate_masks hr (by decide) (by rfl) (pa_cons (pe_op op_cat (pe_dget (Nat.lt_of_le_of_lt (Nat.add_le_add_left (by decide) _) hr.units) (pv 3) (pv 5) (fun _ _ => rfl)) (pe_lst (pa_cons (pe_op op_shl pe_int (pv 5)) pa_nil))) (pa_cons (pe_op op_cat (pe_dget (Nat.lt_of_le_of_lt (Nat.add_le_add_left (by decide) _) hr.units) (pv 3) (pv 6) (fun _ _ => rfl)) (pe_lst (pa_cons (pe_op op_shl pe_int (pv 6)) pa_nil))) (pa_cons (pv 2) pa_nil)))) (by rfl)))) pss_nil))))
      (pss_one (ps_ret (pv 3))))), ?_⟩
    refine fun d nd => ?_
    have s1 := Same.new (o := .dK []) nd
    have putA : ∀ {Hx : Hp} {u : HO}, Same H Hx → Same H (upd Hx d u) := fun {Hx u} x b o e => by rw [upd_ne (ne_of_none e nd)]; exact x b o e
    have putL : ∀ {Hx : Hp} {u : HO} {kvs : List (L2.Key × V)}, Hx d = some (.dK kvs) → ∀ b zs, Hx b = some (.lst zs) → upd Hx d u b = some (.lst zs) := fun {Hx u kvs} hd b zs e => by
      rw [upd_ne (fun z => by rw [z, hd] at e; cases e)]
      exact e
    have hd1 : upd H d (.dK []) d = some (.dK []) := upd_same
    generalize upd H d (.dK []) = H1 at s1 hd1 ⊢
    have wl : ws.length ≤ 24 := by
      have nd : ws.Nodup := wok.ris.imp fun h => Nat.ne_of_lt h
      have := nd.length_le_of_subset (l₂ := List.range (n.many + n.gates.length)) fun x hx => List.mem_range.mpr (wok.lt x hx)
      rw [List.length_range] at this
      omega
    refine ⟨_, rfl, wa, rfl, ⟨_, SqL.of (s1 _ _ hwa)⟩, ?_⟩
    refine for_list (K := K) (a := wa) (xs := ws.map nV) (fun i σ H' => ∃ (x4 x5 x6 : Option V) (kvs : List (L2.Key × V)), σ = [some (.ref a), some (.ref wa), some (nV k), some (.ref d), x4, x5, x6] ∧ Same H H' ∧ H' d = some (.dK kvs) ∧ kvs.length ≤ 2 * i ∧ ∀ x ∈ ws.take i, CutsIn n k H' kvs x) ⟨none, none, none, [], rfl, s1, hd1, Nat.le_refl _, fun x hx => (by cases hx)⟩ ?_ ?_ ?_
    · rintro i σ H' _ ⟨_, _, _, _, _, s', _⟩
      exact SqL.of (s' _ _ hwa)
    · rintro i x σ H2 hx ⟨x4, x5, x6, kvs, rfl, s2, hd2, kl, ci⟩
      have hi : i < ws.length := by
        have := (List.getElem?_eq_some_iff.mp hx).1
        rwa [List.length_map] at this
      rw [natAt hi] at hx
      cases hx
      have hx := getD_mem hi
      have xlt := wok.lt _ hx
      have tk := mem_take_succ hi
      have inT : ∀ y ∈ ws, y < ws.getD i 0 → y ∈ ws.take i := fun y hy h => mem_take_lt wok.ris hi hy h
      have ne : ∀ y ∈ ws.take i, y ≠ ws.getD i 0 := fun y hy => Nat.ne_of_lt (not_mem_take wok.ris hi hy)
      have clo := wok.clo _ hx
      generalize ws.getD i 0 = x at hx xlt tk inT ne clo ⊢
      refine ⟨small 0, fun L nL => ⟨_, rfl, _, rfl, d, _, rfl, DPut.k (k := nK x) (Same.new nL _ _ hd2) (small256 (by omega)), ?_⟩⟩
      have hdL : upd H2 L (.lst []) d = some (.dK kvs) := Same.new nL _ _ hd2
      have s3 : Same H (upd (upd H2 L (.lst [])) d (.dK (putK kvs (nK x) (.ref L)))) := putA (s2.trans (Same.new nL))
      have hd3 : upd (upd H2 L (.lst [])) d (.dK (putK kvs (nK x) (.ref L))) d = some (.dK (putK kvs (nK x) (.ref L))) := upd_same
      have hL3 : upd (upd H2 L (.lst [])) d (.dK (putK kvs (nK x) (.ref L))) L = some (.lst []) := putL hdL _ _ upd_same
      have ci3 : ∀ y ∈ ws.take i, CutsIn n k (upd (upd H2 L (.lst [])) d (.dK (putK kvs (nK x) (.ref L)))) (putK kvs (nK x) (.ref L)) y := fun y hy => ((ci y hy).mono fun b zs e => putL hdL _ _ (Same.new nL _ _ e)).put (ne y hy)
      generalize upd (upd H2 L (.lst [])) d (.dK (putK kvs (nK x) (.ref L))) = H3 at s3 hd3 hL3 ci3 ⊢
      have kl3 := putK_le kvs (nK x) (.ref L)
      have val3 : valV (putK kvs (nK x) (.ref L)) (nK x) = some (.ref L) := by rw [valV_put, if_pos rfl]
      generalize putK kvs (nK x) (.ref L) = kv3 at hd3 ci3 kl3 val3 ⊢
      have N3 := N.same s3
      refine ⟨_, rfl, _, rfl, a, _, 0, _, rfl, rfl, SqT.of N3.top, at0, _, _, rfl, rfl, _, rfl, ite2 (fun hg => ?_) (fun hg => ?_)⟩
      · have hg' : n.many ≤ x := by
          have := of_decide_eq_true hg
          omega
        obtain ⟨kk, hkk⟩ : ∃ kk, n.gates[x - n.many]? = some kk := ⟨_, List.getElem?_eq_getElem (by omega)⟩
        obtain ⟨c1, c2⟩ := clo kk hg' hkk
        have l1 := place_lt ok hg' hkk (.inl rfl)
        have l2 := place_lt ok hg' hkk (.inr rfl)
        obtain ⟨p1, ms1, v1, h1, ml1, nd1⟩ := ci3 _ (inT _ c1 l1)
        obtain ⟨p2, ms2, v2, h2, ml2, nd2⟩ := ci3 _ (inT _ c2 l2)
        have lt1 := wok.lt _ c1
        have lt2 := wok.lt _ c2
        have f1 := ml1.full ok lt1 hk1
        have f2 := ml2.full ok lt2 hk1
        have b1 : ∀ M ∈ ms1, 0 < M ∧ M < 2 ^ 23 := fun M h => ml1.lt23 ok lt1 h
        have b2 : ∀ M ∈ ms2, 0 < M ∧ M < 2 ^ 23 := fun M h => ml2.lt23 ok lt2 h
        have lm1 := nodup_lt23 nd1 fun M h => (b1 M h).2
        have lm2 := nodup_lt23 nd2 fun M h => (b2 M h).2
        have w1 := pow_lt23 (x := kk.2.1) (by omega)
        have w2 := pow_lt23 (x := kk.2.2) (by omega)
        refine ⟨_, rfl, _, rfl, a, n, g, o, ps, x, kk, rfl, N3, hg', hkk, fun t nt => ?_⟩
        have s4 := s3.trans (Same.new (o := .tup [nV kk.2.1, nV kk.2.2]) nt)
        have ht4 : upd H3 t (.tup [nV kk.2.1, nV kk.2.2]) t = some (.tup [nV kk.2.1, nV kk.2.2]) := upd_same
        have st := Same.new (o := .tup [nV kk.2.1, nV kk.2.2]) nt
        generalize upd H3 t (.tup [nV kk.2.1, nV kk.2.2]) = H4 at s4 ht4 st ⊢
        have hd4 := st _ _ hd3
        refine ⟨t, _, rfl, SqT.of ht4, rfl, _, _, rfl, _, _, rfl, rfl, ?_⟩
        have dg1 : DGet H4 d (nV kk.2.1) (some (.ref p1)) := .inl ⟨kv3, nK kk.2.1, .inl hd4, rfl, v1.symm⟩
        refine ⟨_, rfl, _, rfl, d, _, rfl, dg1, _, rfl, _, _, rfl, rfl, ⟨by omega, by omega, by decide⟩, ?_⟩
        dsimp -proj only
        rw [shl_of]
        refine ⟨small 1, fun L1 nL1 => ⟨p1, L1, _, _, rfl, rfl, Same.new nL1 _ _ (st _ _ h1), upd_same, by rw [List.length_map]; exact lm1, fun R1 nR1 => ?_⟩⟩
        have s5 := (Same.new (o := .lst [V.int ((2 ^ kk.2.1 : Nat) : Int)]) nL1).trans (Same.new (o := .lst (ms1.map nV ++ [V.int ((2 ^ kk.2.1 : Nat) : Int)])) nR1)
        have hR1 : upd (upd H4 L1 (.lst [V.int ((2 ^ kk.2.1 : Nat) : Int)])) R1 (.lst (ms1.map nV ++ [V.int ((2 ^ kk.2.1 : Nat) : Int)])) R1 = some (.lst ((ms1 ++ [2 ^ kk.2.1]).map nV)) := by
          rw [upd_same, List.map_append]
          rfl
        generalize upd (upd H4 L1 (.lst [V.int ((2 ^ kk.2.1 : Nat) : Int)])) R1 (.lst (ms1.map nV ++ [V.int ((2 ^ kk.2.1 : Nat) : Int)])) = H5 at s5 hR1 ⊢
        have hd5 := s5 _ _ hd4
        have dg2 : DGet H5 d (nV kk.2.2) (some (.ref p2)) := .inl ⟨kv3, nK kk.2.2, .inl hd5, rfl, v2.symm⟩
        refine ⟨_, rfl, _, rfl, d, _, rfl, dg2, _, rfl, _, _, rfl, rfl, ⟨by omega, by omega, by decide⟩, ?_⟩
        dsimp -proj only
        rw [shl_of]
        refine ⟨small 1, fun L2 nL2 => ⟨p2, L2, _, _, rfl, rfl, Same.new nL2 _ _ (s5 _ _ (st _ _ h2)), upd_same, by rw [List.length_map]; exact lm2, fun R2 nR2 => ?_⟩⟩
        have s6 := (Same.new (o := .lst [V.int ((2 ^ kk.2.2 : Nat) : Int)]) nL2).trans (Same.new (o := .lst (ms2.map nV ++ [V.int ((2 ^ kk.2.2 : Nat) : Int)])) nR2)
        have hR2 : upd (upd H5 L2 (.lst [V.int ((2 ^ kk.2.2 : Nat) : Int)])) R2 (.lst (ms2.map nV ++ [V.int ((2 ^ kk.2.2 : Nat) : Int)])) R2 = some (.lst ((ms2 ++ [2 ^ kk.2.2]).map nV)) := by
          rw [upd_same, List.map_append]
          rfl
        generalize upd (upd H5 L2 (.lst [V.int ((2 ^ kk.2.2 : Nat) : Int)])) R2 (.lst (ms2.map nV ++ [V.int ((2 ^ kk.2.2 : Nat) : Int)])) = H6 at s6 hR2 ⊢
        have hd6 := s6 _ _ hd5
        refine ⟨_, rfl, R1, R2, _, _, k, rfl, s6 _ _ hR1, hR2, fun M hM => ?_, fun M hM => ?_, hk, fun p H7 F s7 np hp nF lF fd => ?_⟩
        · rcases List.mem_append.mp hM with h | h
          · exact b1 M h
          · rw [List.mem_singleton.mp h]
            exact w1
        · rcases List.mem_append.mp hM with h | h
          · exact (b2 M h).2
          · rw [List.mem_singleton.mp h]
            exact w2.2
        have ml := gate_found ok hg' xlt hkk f1 f2 fd
        have hd7 := s7 _ _ hd6
        have s47 := (st.trans (s5.trans s6)).trans s7
        refine ⟨_, rfl, _, rfl, d, _, rfl, DPut.k (k := nK x) hd7 (small256 (by omega)), ?_⟩
        have kl7 := putK_le kv3 (nK x) (.ref p)
        refine ⟨_, _, _, putK kv3 (nK x) (.ref p), rfl, putA (s3.trans s47), upd_same, by omega, fun y hy => ?_⟩
        rcases (tk y).mp hy with hy | rfl
        · exact ((ci3 y hy).mono fun b zs e => putL hd7 _ _ (s47 _ _ e)).put (ne y hy)
        · exact ⟨p, _, by rw [valV_put, if_pos rfl], putL hd7 _ _ hp, ml, nF.filter _⟩
      · have hx0 : x < n.many := by
          refine Nat.lt_of_not_le fun z => hg (decide_eq_true ?_)
          show ((x : Nat) : Int) ≥ ((n.many : Nat) : Int)
          omega
        refine ⟨_, _, _, kv3, rfl, s3, hd3, by omega, fun y hy => ?_⟩
        rcases (tk y).mp hy with hy | rfl
        · exact ci3 y hy
        · exact ⟨L, [], val3, hL3, ML.input hx0, List.nodup_nil⟩
    · rintro σ H2 ⟨x4, x5, x6, kvs, rfl, s2, hd2, kl, ci⟩
      rw [List.length_map, List.take_length] at ci
      exact ⟨_, rfl, q d H2 kvs s2 hd2 ci⟩
end
section
variable {P : Program} {w : World} {K : PySem.W.Frag} {mg : Str → Option Value} {base : Heap} {Ts : List Addr}
def spTold (Ts : List Addr) : Sp := fun vs H Q _ => ∃ (la : Addr) (ms : List Nat), vs = [.ref la] ∧ H la = some (.lst (ms.map nV)) ∧ ms.length < sizeLine ∧ (∀ M ∈ ms, 0 < M ∧ M < 2 ^ 23) ∧ Tabs Ts H ∧
  ∀ p H' (rs : List Addr) (cs : List (List Nat)), Aft Ts H H' → H' p = some (.tup (rs.map V.ref)) → TupsAt H' rs cs → cs.Perm (ms.map bitsOf) → (cs.Pairwise fun a b => lexN b a = false) → Q (.ref p) H'
theorem ok_told {f c : Addr} (D : Dfn K mg "told_cuts" s_told_cuts f c) (T : Txt mg) (c_wires_of : Cal P w K mg base 1 "wires_of" (spWiresOf Ts) []) : Cal P w K mg base 2 "told_cuts" (spTold Ts) [] := by
  refine cal D (fun _ _ _ _ _ _ us hl => match us, hl with | [_], _ => rfl) sc_told_cuts (fun vs H Q E h => ?_) (fun A outer s H vs Q E hr h => ?_)
  · obtain ⟨la, ms, rfl, _⟩ := h
    rfl
  · obtain ⟨la, ms, rfl, hla, hl, hb, tb, q⟩ := h
    refine ⟨_, (pss_one (ps_ret (pe_callTy call_tuple_of (by rfl) T.b_tuple (by decide +kernel) (pa_cons (pe_callB cr_sortTup (by rfl) T.b_sorted (by decide +kernel) (pa_cons (pe_lc (own := [("mask", 1)]) (g := gName 1) (tt := tYes) rfl sc_told_cuts.nd (pi_list (pv 0)) (blkOk_by (own := [("mask", 1)]) (N := ["masks", "mask"]) (sc := defScope s_told_cuts) (by decide +kernel)) (fun _ _ _ _ _ => (pg_name (i := 1) sc_told_cuts.nd rfl (by first | exact Or.inl rfl | exact Or.inr rfl))) (fun _ _ _ _ _ => pts_nil) (fun _ _ _ _ _ => (pe_c c_wires_of hr (by decide) (by rfl) (pa_cons (pv 1) pa_nil)))) pa_nil)) pa_nil)))), ?_⟩
    refine ⟨_, rfl, la, rfl, ⟨_, SqL.of hla⟩, fun M nM => ?_⟩
    have laM : la ≠ M := fun z => by rw [z, nM] at hla; cases hla
    refine lc_list (K := K) (a := la) (xs := ms.map nV) (fun i H' => ∃ ts : List Addr, H' M = some (.lst (ts.map V.ref)) ∧ Aft Ts H H' ∧ RefsAt (fun x => (bitsOf x).map nV) H' ts (ms.take i)) ⟨[], upd_same, Aft.new tb nM, RefsAt.nil _ _⟩ (fun _ H' _ h => h.elim fun ts h => SqL.of (h.2.1.lst tb hla)) ?_ ?_
    · rintro i x H4 hx ⟨ts, hM4, a4, R4⟩
      have hi : i < ms.length := by
        have := (List.getElem?_eq_some_iff.mp hx).1
        rwa [List.length_map] at this
      rw [natAt hi] at hx
      cases hx
      refine ⟨rfl, ?_⟩
      unfold tYes
      refine iteT ?_
      refine ⟨_, rfl, ms.getD i 0, rfl, (hb _ (getD_mem hi)).2, a4.tb, fun cp H5 a5 hcp => ?_⟩
      have hM5 := a5.lst a4.tb hM4
      have R5 := (R4.mono fun b zs e => a5.tup a4.tb e).push (y := ms.getD i 0) hcp
      have tl : ts.length ≤ i := by
        rw [R4.1, List.length_take]
        omega
      refine ⟨_, hM5, by rw [List.length_map]; omega, ts ++ [cp], by rw [upd_same, List.map_append]; rfl, ?_, ?_⟩
      · exact ⟨fun b u e nb => by rw [upd_ne (ne_of_none e nM)]; exact (a4.trans a5).kp b u e nb, a5.tb.upd (tb.none nM)⟩
      · have ew : ms.getD i 0 = ms[i] := by rw [List.getD_eq_getElem?_getD, List.getElem?_eq_getElem hi]; rfl
        rw [List.take_add_one, List.getElem?_eq_getElem hi, Option.toList_some, ← ew]
        exact R5.mono fun b zs e => by
          rw [upd_ne (fun z => by rw [z, hM5] at e; cases e)]
          exact e
    · rintro H4 ⟨ts, hM4, a4, R4⟩
      rw [List.length_map, List.take_length] at R4
      have R4' : TupsAt H4 ts (ms.map bitsOf) := ⟨by rw [List.length_map]; exact R4.1, fun i p x e1 e2 => by
        rw [List.getElem?_map] at e2
        cases e : ms[i]? with
        | none => rw [e] at e2; cases e2
        | some y =>
          rw [e] at e2
          cases e2
          exact R4.2 i p y e1 e⟩
      refine ⟨M, ts.map V.ref, fun x => (tupN H4 x).map (fun n : Nat => (n : Int)), rfl, SqL.of hM4, fun x hx => ?_, fun ys p srt pm np => ?_⟩
      · obtain ⟨t, c', rfl, hc, ht⟩ := R4'.all hx
        dsimp only
        rw [tupN_at ht]
        refine ⟨⟨t, rfl, by rw [mapV]; exact ht⟩, fun z => ?_⟩
        obtain ⟨M', hM', rfl⟩ := List.mem_map.mp hc
        have z' := List.map_eq_nil_iff.mp z
        have : pop M' = 0 := by
          unfold pop
          rw [z']
          rfl
        have := pop_zero_iff.mp this
        have := (hb M' hM').1
        omega
      · obtain ⟨rs, ds, rfl, hr', pd, sd⟩ := tups_sorted R4' srt pm
        refine ⟨p, _, rfl, .inl ⟨SqL.of upd_same, fun r nr => ?_⟩⟩
        have a5 := Aft.new (o := .lst (rs.map V.ref)) a4.tb np
        have a6 := Aft.new (o := .tup (rs.map V.ref)) a5.tb nr
        exact q r _ rs ds ((a4.trans a5).trans a6) upd_same (hr'.mono fun b zs e => a6.tup a5.tb (a5.tup a4.tb e)) pd sd
end
section
variable {P : Program} {w : World} {K : PySem.W.Frag} {mg : Str → Option Value} {base : Heap} {Ts : List Addr}
/-- the cuts of a wire, told -/
def CutsTold (n : Net) (k : Nat) (H : Hp) (q : Addr) (x : Nat) : Prop := ∃ (rs : List Addr) (cs : List (List Nat)), H q = some (.tup (rs.map V.ref)) ∧ TupsAt H rs cs ∧ CutsAre n k x cs ∧ cs.length < sizeLine
theorem CutsTold.mono {n : Net} {k : Nat} {H H' : Hp} {q : Addr} {x : Nat} (h : CutsTold n k H q x) (m : ∀ b xs, H b = some (.tup xs) → H' b = some (.tup xs)) : CutsTold n k H' q x := by
  obtain ⟨rs, cs, h1, h2, h3⟩ := h
  exact ⟨rs, cs, m _ _ h1, h2.mono m, h3⟩
def spAllCuts (Ts : List Addr) : Sp := fun vs H Q _ => ∃ (a : Addr) (n : Net) (g o : Addr) (ps : List Addr) (k : Nat), vs = [.ref a, nV k] ∧ NetAt H a n g o ps ∧ n.Ok ∧ 2 ≤ k ∧ k ≤ 1000 ∧ Tabs Ts H ∧
  ∀ p H' (qs : List Addr), Aft Ts H H' → H' p = some (.tup (qs.map V.ref)) → PtsAt (CutsTold n k) H' qs (List.range (n.many + n.gates.length)) → Q (.ref p) H'
theorem ok_allcuts {f c PA' : Addr} (D : Dfn K mg "all_cuts" s_all_cuts f c) (T : Txt mg) (c_wires_in : Cal P w K mg base 1 "wires_in" spWires []) (c_cut_masks : Cal P w K mg base 3 "cut_masks" spCutMasks []) (c_places : Cal P w K mg base 1 "places" spPlaces []) (c_told_cuts : Cal P w K mg base 2 "told_cuts" (spTold Ts) []) (TB_all_cuts : GxR.TabB base mg c PA') (hP : PA' ∈ Ts) : Cal P w K mg base 4 "all_cuts" (spAllCuts Ts) [] := by
  refine cal D (fun _ _ _ _ _ _ us hl => match us, hl with | [_, _], _ => rfl) sc_all_cuts (fun vs H Q E h => ?_) (fun A outer s H vs Q E hr h => ?_)
  · obtain ⟨a, n, g, o, ps, k, rfl, _⟩ := h
    rfl
  · obtain ⟨a, n, g, o, ps, k, rfl, N, ok, hk2, hk, tb, q⟩ := h
    have m8 := ok.m8
    have g16 := ok.g16
    refine ⟨_, (pss_cons (ps_set (i := 2) sc_all_cuts.nd rfl (by first | exact Or.inl rfl | exact Or.inr rfl) (pe_listRg rfl (by rfl) T.b_list (prg_1 (by rfl) T.b_range (pe_c c_wires_in hr (by decide) (by rfl) (pa_cons (pv 0) pa_nil)))))
      (pss_cons (ps_set (i := 3) sc_all_cuts.nd rfl (by first | exact Or.inl rfl | exact Or.inr rfl) (pe_c c_cut_masks hr (by decide) (by rfl) (pa_cons (pv 0) (pa_cons (pv 2) (pa_cons (pv 1) pa_nil)))))
      (pss_cons (ps_for PassesOwn.never rfl (pi_list (pe_slice sl_list (pv 2) (po_some (pe_ix ix_tup (pv 0) pe_int (fun _ _ => rfl))) po_none)) (pg_name (i := 4) sc_all_cuts.nd rfl (by first | exact Or.inl rfl | exact Or.inr rfl))
        (pss_one (ps_if (pt_cmpR op_eq (pe_callB call_len_seq (by rfl) T.b_len (by decide +kernel) (pa_cons (pe_dget (Nat.lt_of_le_of_lt (Nat.add_le_add_left (by decide) _) hr.units) (pv 3) (pv 4) (fun _ _ => rfl)) pa_nil)) pe_int (nomark _)) (pss_cons (ps_asg (pe_c c_places hr (by decide) (by rfl) (pa_cons (pv 0) (pa_cons (pv 4) pa_nil))) (pg_tup rfl (pgs_cons (pg_name (i := 5) sc_all_cuts.nd rfl (by first | exact Or.inl rfl | exact Or.inr rfl)) (pgs_cons (pg_name (i := 6) sc_all_cuts.nd rfl (by first | exact Or.inl rfl | exact Or.inr rfl)) pgs_nil))))
      (pss_one (ps_dput (Nat.lt_of_le_of_lt (Nat.add_le_add_left (by decide) _) hr.units) (pv 3) (pv 4) (pe_lst (pa_cons (pe_op op_or (pe_op op_shl pe_int (pv 5)) (pe_op op_shl pe_int (pv 6))) pa_nil)) (by rfl)))) pss_nil)))
      (pss_one (ps_ret (pe_tupG (own := [("wire", 7)]) hr (by rfl) T.b_tuple TB_all_cuts rfl (gxOk_by (N := ["net", "k", "wires", "masks", "gate", "one", "other", "wire"]) (sc := defScope s_all_cuts) (own := [("wire", 7)]) (by decide +kernel)) sc_all_cuts.nd (pi_list (pv 2)) (fun _ _ _ _ => (pg_name (i := 7) sc_all_cuts.nd rfl (by first | exact Or.inl rfl | exact Or.inr rfl))) (fun _ _ _ _ => pts_nil) (fun _ _ _ _ => (pe_c c_told_cuts (GX.Room.gx4 hr) (by decide) (by rfl) (pa_cons (pe_dget (Nat.lt_of_le_of_lt (Nat.add_le_add_left (by decide) _) (GX.Room.gx4 hr).units) (pv 3) (pv 7) (fun _ _ => rfl)) pa_nil))))))))), ?_⟩
    refine ⟨_, rfl, a, n, g, o, ps, rfl, N, _, rfl, RgOk.of_le (by decide) (by show ((n.many + n.gates.length : Nat) : Int) ≤ 16777216; omega) (by decide) (by show (0 : Int) ≤ ((n.many + n.gates.length : Nat) : Int); omega), fun rp nrp => ?_⟩
    have et : rgV 0 ((n.many + n.gates.length : Nat) : Int) = (List.range (n.many + n.gates.length)).map nV := by
      unfold rgV
      rw [Int.sub_zero, Int.toNat_natCast]
      refine List.map_congr_left fun i _ => ?_
      rw [Int.zero_add]
      rfl
    have s1 := Same.new (o := .lst (rgV 0 ((n.many + n.gates.length : Nat) : Int))) nrp
    have hrp : upd H rp (.lst (rgV 0 ((n.many + n.gates.length : Nat) : Int))) rp = some (.lst ((List.range (n.many + n.gates.length)).map nV)) := by rw [upd_same, et]
    generalize upd H rp (.lst (rgV 0 ((n.many + n.gates.length : Nat) : Int))) = H1 at s1 hrp ⊢
    have wok : WsOk n (List.range (n.many + n.gates.length)) := ⟨List.pairwise_lt_range, fun x hx => List.mem_range.mp hx, fun x hx kk hm hkk => by
      have l1 := place_lt ok hm hkk (.inl rfl)
      have l2 := place_lt ok hm hkk (.inr rfl)
      have := List.mem_range.mp hx
      exact ⟨List.mem_range.mpr (by omega), List.mem_range.mpr (by omega)⟩⟩
    refine ⟨_, rfl, _, rfl, _, rfl, a, rp, n, g, o, ps, _, k, rfl, N.same s1, ok, hrp, wok, by omega, hk, fun d H2 kvs s2 hd ci => ?_⟩
    have N2 := (N.same s1).same s2
    have hrp2 := s2 _ _ hrp
    have tb2 := tb.same (s1.trans s2)
    refine ⟨_, rfl, _, rfl, a, _, 0, _, rfl, rfl, SqT.of N2.top, at0, _, rfl, ?_⟩
    unfold tNoPart
    refine ⟨rp, _, rfl, SqL.of hrp2, fun S nS => ?_⟩
    rw [cut_lo, ← List.map_drop]
    have s3 := Same.new (o := .lst (((List.range (n.many + n.gates.length)).drop n.many).map nV)) nS
    have hS3 : upd H2 S (.lst (((List.range (n.many + n.gates.length)).drop n.many).map nV)) S = some (.lst (((List.range (n.many + n.gates.length)).drop n.many).map nV)) := upd_same
    have hd3 := s3 _ _ hd
    have hrp3 := s3 _ _ hrp2
    have tb3 := tb2.same s3
    have ci3 : ∀ x ∈ List.range (n.many + n.gates.length), CutsIn n k (upd H2 S (.lst (((List.range (n.many + n.gates.length)).drop n.many).map nV))) kvs x := fun x hx => (ci x hx).mono fun b zs e => s3 _ _ e
    have a03 : Aft Ts H (upd H2 S (.lst (((List.range (n.many + n.gates.length)).drop n.many).map nV))) := Aft.ofSame tb ((s1.trans s2).trans s3)
    generalize upd H2 S (.lst (((List.range (n.many + n.gates.length)).drop n.many).map nV)) = H3 at s3 hS3 hd3 hrp3 tb3 ci3 a03 ⊢
    refine ⟨S, rfl, ⟨_, SqL.of hS3⟩, ?_⟩
    refine for_list (K := K) (a := S) (xs := ((List.range (n.many + n.gates.length)).drop n.many).map nV) (fun i σ H' => ∃ (x4 x5 x6 x7 : Option V), σ = [some (.ref a), some (nV k), some (.ref rp), some (.ref d), x4, x5, x6, x7] ∧ H' = H3) ⟨_, _, _, _, rfl, rfl⟩ ?_ ?_ ?_
    · rintro i σ H' _ ⟨_, _, _, _, _, rfl⟩
      exact SqL.of hS3
    · rintro i x σ H' hx ⟨x4, x5, x6, x7, rfl, rfl⟩
      have hi : i < ((List.range (n.many + n.gates.length)).drop n.many).length := by
        have := (List.getElem?_eq_some_iff.mp hx).1
        rwa [List.length_map] at this
      rw [natAt hi] at hx
      cases hx
      have hm := getD_mem hi
      have hxe : n.many ≤ ((List.range (n.many + n.gates.length)).drop n.many).getD i 0 ∧ ((List.range (n.many + n.gates.length)).drop n.many).getD i 0 < n.many + n.gates.length := by
        rw [List.length_drop, List.length_range] at hi
        rw [List.getD_eq_getElem?_getD, List.getElem?_drop, List.getElem?_range (by omega)]
        show n.many ≤ n.many + i ∧ n.many + i < _
        omega
      generalize ((List.range (n.many + n.gates.length)).drop n.many).getD i 0 = x at hm hxe ⊢
      obtain ⟨p, ms, v, hp, ml, nd⟩ := ci3 x (List.mem_range.mpr hxe.2)
      have ne := ml.some_ ok hk2 hxe.1 (List.getElem?_eq_getElem (show x - n.many < n.gates.length by omega))
      have dg : DGet H' d (nV x) (some (.ref p)) := .inl ⟨kvs, nK x, .inl hd3, rfl, v.symm⟩
      refine ⟨_, rfl, _, rfl, d, _, rfl, dg, p, _, rfl, .inl (SqL.of hp), rfl, _, rfl, ?_⟩
      rw [decide_eq_false (fun z => ne (List.length_eq_zero_iff.mp (by have := V.int.inj z; rw [List.length_map] at this; omega)))]
      refine iteF ?_
      exact ⟨_, _, _, _, rfl, rfl⟩
    · rintro σ H' ⟨x4, x5, x6, x7, rfl, rfl⟩
      refine ⟨_, rfl, rp, rfl, ⟨_, SqL.of hrp3⟩, tb3 PA' hP, fun H4 ht => ?_⟩
      have a4 : Aft Ts H' H4 := ⟨Keep.tabbed hP ht, tb3.tabbed ht⟩
      have a04 := a4
      refine turns_it (walk_list (xs := (List.range (n.many + n.gates.length)).map nV)) (fun i ys H5 => ∃ qs : List Addr, ys = qs.map V.ref ∧ Aft Ts H' H5 ∧ PtsAt (CutsTold n k) H5 qs ((List.range (n.many + n.gates.length)).take i)) ⟨[], rfl, a4, PtsAt.nil _ _⟩ (fun i ys H5 _ h => h.elim fun qs h => SqL.of (h.2.1.lst tb3 hrp3)) ?_ ?_
      · rintro i x ys H5 H6 hi ⟨qs, rfl, a5, P5⟩ ⟨rfl, hx⟩
        rw [List.length_map] at hi
        rw [natAt hi] at hx
        cases hx
        have hxm := getD_mem hi
        have ex : (List.range (n.many + n.gates.length)).getD i 0 = (List.range (n.many + n.gates.length))[i] := by rw [List.getD_eq_getElem?_getD, List.getElem?_eq_getElem hi]; rfl
        have ql : qs.length ≤ 24 := by
          rw [P5.1, List.length_take, List.length_range]
          omega
        obtain ⟨p, ms, v, hp, ml, nd⟩ := ci3 _ hxm
        have xlt := List.mem_range.mp hxm
        have bnd := fun M (h : M ∈ ms) => ml.lt23 ok xlt h
        have hd5 : Rd H6 d (.dK kvs) := .inl (a5.kp _ _ hd3 (tb3.nott hd3 fun _ z => by cases z))
        have dg : DGet H6 d (nV ((List.range (n.many + n.gates.length)).getD i 0)) (some (.ref p)) := .inl ⟨kvs, nK _, hd5, rfl, v.symm⟩
        refine ⟨rfl, ?_⟩
        unfold tYes
        refine iteT ?_
        refine ⟨_, rfl, _, rfl, d, _, rfl, dg, p, ms, rfl, a5.lst tb3 hp, nodup_lt23 nd fun M h => (bnd M h).2, bnd, a5.tb, fun r H7 rs cs a7 hr7 ht7 pm srt => ⟨?_, fun _ => ⟨qs ++ [r], by rw [List.map_append]; rfl, a5.trans a7, ?_⟩⟩⟩
        · show (List.map V.ref qs).length < sizeLine
          rw [List.length_map]
          exact small256 (by omega)
        · rw [List.take_add_one, List.getElem?_eq_getElem hi, Option.toList_some, ← ex]
          exact (P5.mono fun p x h => CutsTold.mono h fun b zs e => a7.tup a5.tb e).push ⟨rs, cs, hr7, ht7, cuts_of_masks ok ml nd pm srt, by rw [pm.length_eq, List.length_map]; exact nodup_lt23 nd fun M h => (bnd M h).2⟩
      · rintro ys H5 ⟨qs, rfl, a5, P5⟩
        rw [List.length_map, List.take_length] at P5
        refine ⟨?_, fun p np => ?_⟩
        · rw [List.length_map, P5.1, List.length_range]
          exact small _ (by omega)
        · have a6 := Aft.new (o := .tup (qs.map V.ref)) a5.tb np
          exact q p _ qs ((a03.trans a5).trans a6) upd_same (P5.mono fun p x h => CutsTold.mono h fun b zs e => a6.tup a5.tb e)
end
end K76
set_option Elab.async false
set_option linter.all false
set_option maxRecDepth 100000
set_option maxHeartbeats 4000000
namespace K76
open PySem PySem.Spec PyProof.Rows L2 GX
open C8 (Cal pe_c pe_gc Met Mak)
-- @dict CHANGES
-- @no CHANGES 0 ""
-- @no CHANGES 1 "0"
-- @no CHANGES 2 "way"
-- @no CHANGES 3 "Kind"
-- @no CHANGES 4 "leads"
-- @dict QUESTIONS
-- @no QUESTIONS 0 "gate"
-- @no QUESTIONS 1 "kind"
-- @no QUESTIONS 2 "lead"
-- @no QUESTIONS 3 "less"
-- @no QUESTIONS 4 "outs"
-- @exc CoverError
-- @exc NoText
-- @exc NoDepth
-- @exc TooMany
-- @exc NoMatch
-- @exc NoChange made
-- @exc NoRow made
-- @sub NoChange NoChange true
-- @sub NoRow NoRow true
-- @sub NoRow ValueError true
-- @sub NoRow NoText false
-- @sub NoRow NoDepth false
-- @sub NoRow TooMany false
-- @sub NoRow NoMatch false
-- @sub NoRow NoChange false
-- @cls Keeper k:i,held:N,kept:t[t[t[i]]]
-- @cls Desk keeper:OKeeper
section
variable {P : Program} {w : World} {K : PySem.W.Frag} {mg : Str → Option Value} {base : Heap} {Ts : List Addr} {PL : Addr}
/-- a keeper of the net n, by k -/
structure KeepAt (C : Addr) (H : Hp) (kp a p : Addr) (n : Net) (k : Nat) (g o : Addr) (ps qs : List Addr) : Prop where
  ins : ∃ dx, H kp = some (.ins C dx (putF "kept" (.ref p) (putF "held" (.ref a) (putF "k" (nV k) []))))
  net : NetAt H a n g o ps
  kept : H p = some (.tup (qs.map V.ref))
  cuts : PtsAt (CutsTold n k) H qs (List.range (n.many + n.gates.length))
theorem KeepAt.mono {C : Addr} {H H' : Hp} {kp a p : Addr} {n : Net} {k : Nat} {g o : Addr} {ps qs : List Addr} (x : KeepAt C H kp a p n k g o ps qs) (m : ∀ b u, H b = some u → (∀ ps, u ≠ .tbl ps) → (∀ xs, u ≠ .lst xs) → H' b = some u) : KeepAt C H' kp a p n k g o ps qs := by
  obtain ⟨dx, e⟩ := x.ins
  have tu : ∀ b xs, H b = some (.tup xs) → H' b = some (.tup xs) := fun b xs e => m _ _ e (fun _ z => by cases z) (fun _ z => by cases z)
  exact ⟨⟨dx, m _ _ e (fun _ z => by cases z) (fun _ z => by cases z)⟩, x.net.mono tu, tu _ _ x.kept, x.cuts.mono fun q y h => h.mono tu⟩
structure KCls (K : PySem.W.Frag) (C : Addr) : Prop where
  cl : Cls K C
  k : NoAttr K C "k"
  h : NoAttr K C "held"
  p : NoAttr K C "kept"
def spKNet (C : Addr) : Sp := fun vs H Q _ => ∃ (kp a p : Addr) (n : Net) (k : Nat) (g o : Addr) (ps qs : List Addr), vs = [.ref kp] ∧ KeepAt C H kp a p n k g o ps qs ∧ Q (.ref a) H
theorem ok_knet {C f c : Addr} (D : Mtd K C "net" "Keeper.net" s_Keeper_net f c) (T : Txt mg) (kc : KCls K C) : Met P w K mg base 1 C "net" (spKNet C) [] := by
  refine met D (fun _ _ _ _ _ _ us hl => match us, hl with | [_], _ => rfl) sc_Keeper_net (fun vs H Q E h => ?_) (fun A outer s H vs Q E hr h => ?_)
  · obtain ⟨kp, a, p, n, k, g, o, ps, qs, rfl, _⟩ := h
    rfl
  · obtain ⟨kp, a, p, n, k, g, o, ps, qs, rfl, x, q⟩ := h
    obtain ⟨dx, e⟩ := x.ins
    refine ⟨_, (pss_one (ps_ret (pe_fld (pv 0) rfl))), ?_⟩
    exact ⟨_, rfl, kp, C, dx, _, _, rfl, e, kc.cl, kc.h, rfl, q⟩
def spKInit (Ts : List Addr) (C : Addr) : Sp := fun vs H Q _ => ∃ (kp dx a : Addr) (n : Net) (g o : Addr) (ps : List Addr) (k : Nat), vs = [.ref kp, .ref a, nV k] ∧ H kp = some (.ins C dx []) ∧ NetAt H a n g o ps ∧ n.Ok ∧ 2 ≤ k ∧ k ≤ 1000 ∧ Tabs Ts H ∧
  ∀ p H' (qs : List Addr), KeepAt C H' kp a p n k g o ps qs → Tabs Ts H' → (∀ b u, b ≠ kp → b ∉ Ts → H b = some u → H' b = some u) → Q .non H'
theorem ok_kinit {C f c : Addr} (D : Mtd K C "__init__" "Keeper.__init__" s_Keeper___init__ f c) (T : Txt mg) (kc : KCls K C) (hm : mg "Keeper" = some (.ref C)) (mk : PySem.W.makesIn K C = true) (kp : PySem.W.keepIn K (.ref C) = true) (c_all_cuts : Cal P w K mg base 4 "all_cuts" (spAllCuts Ts) []) : Mak P w K mg base 5 "Keeper" C (spKInit Ts C) [] := by
  refine mak D hm mk kp (fun _ _ _ _ _ _ us hl => match us, hl with | [_, _, _], _ => rfl) sc_Keeper___init__ (fun vs H Q E h => ?_) (fun A outer s H vs Q E hr h => ?_)
  · obtain ⟨kp, dx, a, n, g, o, ps, k, rfl, _⟩ := h
    rfl
  · obtain ⟨kp, dx, a, n, g, o, ps, k, rfl, e, N, ok, hk2, hk, tb, q⟩ := h
    refine ⟨_, (pss_cons (ps_fld (pv 0) (pv 2) rfl)
      (pss_cons (ps_fld (pv 0) (pv 1) rfl)
      (pss_one (ps_fld (pv 0) (pe_c c_all_cuts hr (by decide) (by rfl) (pa_cons (pv 1) (pa_cons (pv 2) pa_nil))) rfl)))), ?_⟩
    refine ⟨_, rfl, _, rfl, kp, C, dx, [], rfl, e, kc.cl, kc.k, by decide, ?_⟩
    refine ⟨_, rfl, _, rfl, kp, C, dx, _, rfl, upd_same, kc.cl, kc.h, (show 1 < 1000 by decide), ?_⟩
    have kT : kp ∉ Ts := tb.nott e fun _ z => by cases z
    have up : ∀ {H' : Hp} {u : HO}, (∀ b xs, H b = some (.tup xs) → H' b = some (.tup xs)) → (∀ b xs, H b = some (.tup xs) → upd H' kp u b = some (.tup xs)) := fun {H' u} m b xs eb => by
      rw [upd_ne (fun z => by rw [z, e] at eb; cases eb)]
      exact m b xs eb
    have m2 : ∀ b xs, H b = some (.tup xs) → upd (upd H kp (.ins C dx (putF "k" (nV k) []))) kp (.ins C dx (putF "held" (.ref a) (putF "k" (nV k) []))) b = some (.tup xs) := up (up fun _ _ e => e)
    have N2 := N.mono m2
    have tb2 : Tabs Ts (upd (upd H kp (.ins C dx (putF "k" (nV k) []))) kp (.ins C dx (putF "held" (.ref a) (putF "k" (nV k) [])))) := (tb.upd kT).upd kT
    have e2 : upd (upd H kp (.ins C dx (putF "k" (nV k) []))) kp (.ins C dx (putF "held" (.ref a) (putF "k" (nV k) []))) kp = some (.ins C dx (putF "held" (.ref a) (putF "k" (nV k) []))) := upd_same
    have o2 : ∀ b u, b ≠ kp → H b = some u → upd (upd H kp (.ins C dx (putF "k" (nV k) []))) kp (.ins C dx (putF "held" (.ref a) (putF "k" (nV k) []))) b = some u := fun b u nb eb => by rw [upd_ne nb, upd_ne nb]; exact eb
    generalize upd (upd H kp (.ins C dx (putF "k" (nV k) []))) kp (.ins C dx (putF "held" (.ref a) (putF "k" (nV k) []))) = H2 at N2 tb2 e2 o2 ⊢
    refine ⟨_, rfl, _, rfl, a, n, g, o, ps, k, rfl, N2, ok, hk2, hk, tb2, fun p H3 qs a3 hp PQ => ?_⟩
    have e3 := a3.kp _ _ e2 kT
    refine ⟨_, rfl, kp, C, dx, _, rfl, e3, kc.cl, kc.p, (show 2 < 1000 by decide), ?_⟩
    have t4 : ∀ b xs, H3 b = some (.tup xs) → upd H3 kp (.ins C dx (putF "kept" (.ref p) (putF "held" (.ref a) (putF "k" (nV k) [])))) b = some (.tup xs) := fun b xs eb => by
      rw [upd_ne (fun z => by rw [z, e3] at eb; cases eb)]
      exact eb
    refine q p _ qs ⟨⟨dx, upd_same⟩, (N2.aft tb2 a3).mono t4, t4 _ _ hp, PQ.mono fun q y h => h.mono t4⟩ (a3.tb.upd kT) fun b u nb nT eb => ?_
    rw [upd_ne nb]
    exact a3.kp _ _ (o2 b u nb eb) nT
end
end K76
set_option Elab.async false
set_option linter.all false
set_option maxRecDepth 100000
set_option maxHeartbeats 4000000
namespace K76
open PySem PySem.Spec PyProof.Rows L2 GX
open C8 (Cal pe_c pe_gc Met Mak)
-- @dict CHANGES
-- @no CHANGES 0 ""
-- @no CHANGES 1 "0"
-- @no CHANGES 2 "way"
-- @no CHANGES 3 "Kind"
-- @no CHANGES 4 "leads"
-- @dict QUESTIONS
-- @no QUESTIONS 0 "gate"
-- @no QUESTIONS 1 "kind"
-- @no QUESTIONS 2 "lead"
-- @no QUESTIONS 3 "less"
-- @no QUESTIONS 4 "outs"
-- @exc CoverError
-- @exc NoText
-- @exc NoDepth
-- @exc TooMany
-- @exc NoMatch
-- @exc NoChange made
-- @exc NoRow made
-- @sub NoChange NoChange true
-- @sub NoRow NoRow true
-- @sub NoRow ValueError true
-- @sub NoRow NoText false
-- @sub NoRow NoDepth false
-- @sub NoRow TooMany false
-- @sub NoRow NoMatch false
-- @sub NoRow NoChange false
-- @cls Keeper k:i,held:N,kept:t[t[t[i]]]
-- @cls Desk keeper:OKeeper
section
variable {P : Program} {w : World} {K : PySem.W.Frag} {mg : Str → Option Value} {base : Heap} {Ts : List Addr}
def spWhole : Sp := fun vs H Q _ => ∃ v t, vs = [v] ∧ Rep H v t ∧ Q (.bl t.whole) H
theorem ok_whole {f c : Addr} (D : Dfn K mg "is_whole" s_is_whole f c) (T : Txt mg) : Cal P w K mg base 1 "is_whole" spWhole [] := by
  refine cal D (fun _ _ _ _ _ _ us hl => match us, hl with | [_], _ => rfl) sc_is_whole (fun vs H Q E h => ?_) (fun A outer s H vs Q E hr h => ?_)
  · obtain ⟨v, t, rfl, _⟩ := h
    rfl
  · obtain ⟨v, t, rfl, r, q⟩ := h
    refine ⟨_, (pss_one (ps_ret (pe_and (pe_callB call_isi (by rfl) T.b_isinstance (by decide +kernel) (pa_cons (pv 0) (pa_cons (pe_bltn (v := .ty "int") (by rfl) T.b_int (by decide +kernel) rfl) pa_nil))) (pe_one (pe_not (pe_callB call_isi (by rfl) T.b_isinstance (by decide +kernel) (pa_cons (pv 0) (pa_cons (pe_bltn (v := .ty "bool") (by rfl) T.b_bool (by decide +kernel) rfl) pa_nil)))))))), ?_⟩
    refine ⟨_, rfl, _, _, _, _, t.kInt, rfl, .ty "int", tyx r, kit_ty (kInt_ok t), _, rfl, ite2 (fun h1 => ?_) (fun h1 => ?_)⟩
    · refine ⟨_, rfl, _, _, _, _, t.kBool, rfl, .ty "bool", tyx r, kit_ty (kBool_ok t), _, rfl, ?_⟩
      have e : (!t.kBool) = t.whole := by cases t <;> first | rfl | cases h1
      rw [e]
      exact q
    · have e : t.whole = false := by cases t <;> first | rfl | exact absurd rfl h1
      rw [e] at q
      exact q
def spBelow : Sp := fun vs H Q _ => ∃ v t b, vs = [v, .int b] ∧ Rep H v t ∧ Q (.bl (t.isB b)) H
theorem ok_below {f c : Addr} (D : Dfn K mg "is_below" s_is_below f c) (c_is_whole : Cal P w K mg base 1 "is_whole" spWhole []) : Cal P w K mg base 2 "is_below" spBelow [] := by
  refine cal D (fun _ _ _ _ _ _ us hl => match us, hl with | [_, _], _ => rfl) sc_is_below (fun vs H Q E h => ?_) (fun A outer s H vs Q E hr h => ?_)
  · obtain ⟨v, t, b, rfl, _⟩ := h
    rfl
  · obtain ⟨v, t, b, rfl, r, q⟩ := h
    refine ⟨_, (pss_one (ps_ret (pe_and (pe_c c_is_whole hr (by decide) (by rfl) (pa_cons (pv 0) pa_nil)) (pe_one (pe_chain op_le op_lt pe_int (pv 0) (pv 1)))))), ?_⟩
    refine ⟨_, rfl, v, t, rfl, r, _, rfl, ite2 (fun h1 => ?_) (fun h1 => ?_)⟩
    · cases r with
      | int i =>
        refine ⟨_, rfl, _, _, rfl, rfl, _, rfl, ite2 (fun h2 => ?_) (fun h2 => ?_)⟩
        · refine ⟨_, rfl, _, _, rfl, rfl, ?_⟩
          have e : (Th.int i).isB b = decide (i < b) := by
            show (decide (0 ≤ i) && decide (i < b)) = decide (i < b)
            rw [h2, Bool.true_and]
          rw [e] at q
          exact q
        · have e : (Th.int i).isB b = false := by
            show (decide (0 ≤ i) && decide (i < b)) = false
            rw [Bool.eq_false_iff.mpr h2, Bool.false_and]
          rw [e] at q
          exact q
      | _ => cases h1
    · have e : t.isB b = false := by cases t <;> first | rfl | exact absurd rfl h1
      rw [e] at q
      exact q
def spMany : Sp := fun vs H Q _ => ∃ v t, vs = [v] ∧ Rep H v t ∧ Q (.bl t.many) H
theorem ok_many {f c : Addr} (D : Dfn K mg "is_many" s_is_many f c) (T : Txt mg) (c_is_whole : Cal P w K mg base 1 "is_whole" spWhole []) : Cal P w K mg base 2 "is_many" spMany [] := by
  refine cal D (fun _ _ _ _ _ _ us hl => match us, hl with | [_], _ => rfl) sc_is_many (fun vs H Q E h => ?_) (fun A outer s H vs Q E hr h => ?_)
  · obtain ⟨v, t, rfl, _⟩ := h
    rfl
  · obtain ⟨v, t, rfl, r, q⟩ := h
    refine ⟨_, (pss_one (ps_ret (pe_and (pe_c c_is_whole hr (by decide) (by rfl) (pa_cons (pv 0) pa_nil)) (pe_one (pe_chain op_le op_le pe_int (pv 0) (pe_gc (by rfl) T.g_MOST_INPUTS)))))), ?_⟩
    refine ⟨_, rfl, v, t, rfl, r, _, rfl, ite2 (fun h1 => ?_) (fun h1 => ?_)⟩
    · cases r with
      | int i =>
        refine ⟨_, rfl, _, _, rfl, rfl, _, rfl, ite2 (fun h2 => ?_) (fun h2 => ?_)⟩
        · refine ⟨_, _, rfl, rfl, ?_⟩
          have e : (Th.int i).many = decide (i ≤ 8) := by
            show (decide (1 ≤ i) && decide (i ≤ 8)) = decide (i ≤ 8)
            rw [h2, Bool.true_and]
          rw [e] at q
          exact q
        · have e : (Th.int i).many = false := by
            show (decide (1 ≤ i) && decide (i ≤ 8)) = false
            rw [Bool.eq_false_iff.mpr h2, Bool.false_and]
          rw [e] at q
          exact q
      | _ => cases h1
    · have e : t.many = false := by cases t <;> first | rfl | exact absurd rfl h1
      rw [e] at q
      exact q
def spIsGate : Sp := fun vs H Q _ => ∃ v t b, vs = [v, .int b] ∧ Rep H v t ∧ Q (.bl (t.gate b)) H
theorem rep3 {H : Hp} {vs : List V} {ts : List Th} (r : RepAll H vs ts) (h : vs.length = 3) : ∃ a b c x y z, vs = [a, b, c] ∧ ts = [x, y, z] ∧ Rep H a x ∧ Rep H b y ∧ Rep H c z := by
  cases r with
  | nil => cases h
  | cons r1 r =>
    cases r with
    | nil => cases h
    | cons r2 r =>
      cases r with
      | nil => cases h
      | cons r3 r =>
        cases r with
        | nil => exact ⟨_, _, _, _, _, _, rfl, rfl, r1, r2, r3⟩
        | cons _ _ => simp at h
theorem ok_isgate {f c : Addr} (D : Dfn K mg "is_gate" s_is_gate f c) (T : Txt mg) (c_is_below : Cal P w K mg base 2 "is_below" spBelow []) : Cal P w K mg base 3 "is_gate" spIsGate [] := by
  refine cal D (fun _ _ _ _ _ _ us hl => match us, hl with | [_, _], _ => rfl) sc_is_gate (fun vs H Q E h => ?_) (fun A outer s H vs Q E hr h => ?_)
  · obtain ⟨v, t, b, rfl, _⟩ := h
    rfl
  · obtain ⟨v, t, b, rfl, r, q⟩ := h
    refine ⟨_, (pss_cons (ps_if (PW.pt (pw_or (pt_not (pt_val (pe_callB call_isi (by rfl) T.b_isinstance (by decide +kernel) (pa_cons (pv 0) (pa_cons (pe_bltn (v := .ty "tuple") (by rfl) T.b_tuple (by decide +kernel) rfl) pa_nil))))) (pw_or1 (pt_cmpR op_ne (pe_callB call_len_seq (by rfl) T.b_len (by decide +kernel) (pa_cons (pv 0) pa_nil)) pe_int (nomark _))))) (pss_one (ps_ret pe_bl)) pss_nil)
      (pss_cons (ps_asg (pv 0) (pg_tup rfl (pgs_cons (pg_name (i := 2) sc_is_gate.nd rfl (by first | exact Or.inl rfl | exact Or.inr rfl)) (pgs_cons (pg_name (i := 3) sc_is_gate.nd rfl (by first | exact Or.inl rfl | exact Or.inr rfl)) (pgs_cons (pg_name (i := 4) sc_is_gate.nd rfl (by first | exact Or.inl rfl | exact Or.inr rfl)) pgs_nil)))))
      (pss_one (ps_ret (pe_and (pe_c c_is_below hr (by decide) (by rfl) (pa_cons (pv 2) (pa_cons (pe_gc (by rfl) T.g_KINDS) pa_nil))) (pe_and (pe_c c_is_below hr (by decide) (by rfl) (pa_cons (pv 3) (pa_cons (pv 1) pa_nil))) (pe_one (pe_c c_is_below hr (by decide) (by rfl) (pa_cons (pv 4) (pa_cons (pv 1) pa_nil)))))))))), ?_⟩
    refine ⟨_, rfl, _, _, _, _, t.kTup, rfl, .ty "tuple", tyx r, kit_ty (kTup_ok t), _, rfl, ite2 (fun h1 => ?_) (fun h1 => ?_)⟩
    · have e : t.gate b = false := by cases t <;> first | rfl | cases h1
      rw [e] at q
      exact q
    · cases r with
      | @tup a vs ts e ra =>
        refine ⟨_, rfl, a, _, rfl, .inr (SqT.of e), rfl, _, rfl, ite2 (fun h2 => ?_) (fun h2 => ?_)⟩
        · have e : (Th.tup ts).gate b = false := by
            have hl := ra.length
            cases ts with
            | nil => rfl
            | cons x r1 =>
              cases r1 with
              | nil => rfl
              | cons y r2 =>
                cases r2 with
                | nil => rfl
                | cons z r3 =>
                  cases r3 with
                  | nil =>
                    rw [hl] at h2
                    exact absurd h2 (by show ¬ ((!decide (V.int 3 = V.int 3)) = true); decide)
                  | cons _ _ => rfl
          rw [e] at q
          exact q
        · have hl : vs.length = 3 := by
            have := Classical.not_not.mp fun z => h2 (by rw [decide_eq_false z]; rfl)
            have := V.int.inj this
            omega
          obtain ⟨v1, v2, v3, x, y, z, rfl, rfl, r1, r2, r3⟩ := rep3 ra hl
          refine ⟨_, rfl, a, _, rfl, SqT.of e, rfl, _, _, rfl, _, _, rfl, _, _, rfl, rfl, ?_⟩
          have eg : (Th.tup [x, y, z]).gate b = (x.isB 16 && y.isB b && z.isB b) := rfl
          refine ⟨_, rfl, v1, x, 16, rfl, r1, _, rfl, ite2 (fun g1 => ?_) (fun g1 => ?_)⟩
          · refine ⟨_, rfl, _, rfl, v2, y, b, rfl, r2, _, rfl, ite2 (fun g2 => ?_) (fun g2 => ?_)⟩
            · refine ⟨_, rfl, _, rfl, v3, z, b, rfl, r3, ?_⟩
              rw [eg, g1, g2, Bool.true_and, Bool.true_and] at q
              exact q
            · rw [eg, g1, Bool.eq_false_iff.mpr g2, Bool.and_false, Bool.false_and] at q
              exact q
          · rw [eg, Bool.eq_false_iff.mpr g1, Bool.false_and, Bool.false_and] at q
            exact q
      | _ => exact absurd rfl h1
def spAreGates (Ts : List Addr) : Sp := fun vs H Q _ => ∃ v t m, vs = [v, .int m] ∧ Rep H v t ∧ Tabs Ts H ∧ ∀ H', Aft Ts H H' → Q (.bl (t.gates m)) H'
theorem ok_aregates {f c PG' : Addr} (D : Dfn K mg "are_gates" s_are_gates f c) (T : Txt mg) (c_is_gate : Cal P w K mg base 3 "is_gate" spIsGate []) (TB_are_gates : GxR.TabB base mg c PG') (hP : PG' ∈ Ts) : Cal P w K mg base 5 "are_gates" (spAreGates Ts) [] := by
  refine cal D (fun _ _ _ _ _ _ us hl => match us, hl with | [_, _], _ => rfl) sc_are_gates (fun vs H Q E h => ?_) (fun A outer s H vs Q E hr h => ?_)
  · obtain ⟨v, t, m, rfl, _⟩ := h
    rfl
  · obtain ⟨v, t, m, rfl, r, tb, q⟩ := h
    refine ⟨_, (pss_cons (ps_if (PW.pt (pw_or (pt_not (pt_val (pe_callB call_isi (by rfl) T.b_isinstance (by decide +kernel) (pa_cons (pv 0) (pa_cons (pe_bltn (v := .ty "tuple") (by rfl) T.b_tuple (by decide +kernel) rfl) pa_nil))))) (pw_or1 (pt_cmpR op_gt (pe_callB call_len_seq (by rfl) T.b_len (by decide +kernel) (pa_cons (pv 0) pa_nil)) (pe_gc (by rfl) T.g_MOST_GATES) (nomark _))))) (pss_one (ps_ret pe_bl)) pss_nil)
      (pss_one (ps_ret (pe_allG (own := [("at", 2), ("gate", 3)]) hr (by rfl) T.b_all TB_are_gates rfl (gxOk_by (N := ["thing", "many", "at", "gate"]) (sc := defScope s_are_gates) (own := [("at", 2), ("gate", 3)]) (by decide +kernel)) sc_are_gates.nd (pi_enumT (by rfl) T.b_enumerate (pa_cons (pv 0) pa_nil)) (fun _ _ _ _ => (pg_tupK (K := K) (n := 2) rfl rfl (pgs_cons (pg_name (i := 2) sc_are_gates.nd rfl (by first | exact Or.inl rfl | exact Or.inr rfl)) (pgs_cons (pg_name (i := 3) sc_are_gates.nd rfl (by first | exact Or.inl rfl | exact Or.inr rfl)) pgs_nil)))) (fun _ _ _ _ => pts_nil) (fun _ _ _ _ => (pe_c c_is_gate (GX.Room.gx2 hr) (by decide) (by rfl) (pa_cons (pv 3) (pa_cons (pe_op op_add (pv 1) (pv 2)) pa_nil)))))))), ?_⟩
    refine ⟨_, rfl, _, _, _, _, t.kTup, rfl, .ty "tuple", tyx r, kit_ty (kTup_ok t), _, rfl, ite2 (fun h1 => ?_) (fun h1 => ?_)⟩
    · have e : t.gates m = false := by cases t <;> first | rfl | cases h1
      have q' := q H (Aft.refl tb)
      rw [e] at q'
      exact q'
    · cases r with
      | @tup a vs ts e ra =>
        have hl := ra.length
        refine ⟨_, rfl, a, _, rfl, .inr (SqT.of e), _, _, rfl, rfl, _, rfl, ite2 (fun h2 => ?_) (fun h2 => ?_)⟩
        · have h2' := of_decide_eq_true h2
          have e : (Th.tup ts).gates m = false := by
            show (decide (ts.length ≤ 16) && _) = false
            rw [decide_eq_false (by omega), Bool.false_and]
          have q' := q H (Aft.refl tb)
          rw [e] at q'
          exact q'
        · have h2' : ¬ ((vs.length : Int) > 16) := fun z => h2 (decide_eq_true z)
          have eg : (Th.tup ts).gates m = gatesFrom m ts := by
            show (decide (ts.length ≤ 16) && _) = _
            rw [decide_eq_true (by omega), Bool.true_and]
          rw [eg] at q
          refine ⟨_, rfl, a, vs, rfl, SqT.of e, tb PG' hP, fun H2 ht => ?_⟩
          have a2 : Aft Ts H H2 := ⟨Keep.tabbed hP ht, tb.tabbed ht⟩
          refine turns_it (walk_enumT (xs := vs)) (fun i ys H' => gatesFrom m (ts.take i) = true ∧ Aft Ts H H') ⟨rfl, a2⟩ (fun i ys H' _ hp => SqT.of (hp.2.tup tb e)) ?_ ?_
          · rintro i x ys H3 H4 hi ⟨hg, a3⟩ ⟨T', v1, v2, rfl, nT, rfl, e1, e2⟩
            cases e1
            obtain ⟨t2, ht2, r2⟩ := ra.get e2
            have a4 := a3.trans (Aft.new (o := .tup [.int (i : Nat), v2]) a3.tb nT)
            refine ⟨T', _, rfl, SqT.of upd_same, rfl, _, _, rfl, _, _, rfl, rfl, rfl, ?_⟩
            unfold tYes
            refine iteT ?_
            refine ⟨_, rfl, _, rfl, _, rfl, _, _, rfl, rfl, v2, t2, m + i, rfl, r2.mono (KeepT.aft tb a4), ?_⟩
            refine ⟨⟨_, rfl, fun hf => ?_⟩, fun hc => ⟨?_, a4⟩⟩
            · have q' := q _ a4
              rw [gatesFrom_bad ht2 hf] at q'
              exact q'
            · rw [gatesFrom_snoc ht2, hg, V.bl.inj hc]
              rfl
          · rintro ys H3 ⟨hg, a3⟩
            rw [hl, List.take_length] at hg
            have q' := q _ a3
            rw [hg] at q'
            exact q'
      | _ => exact absurd rfl h1
def spAreOuts (Ts : List Addr) : Sp := fun vs H Q _ => ∃ v t m, vs = [v, .int m] ∧ Rep H v t ∧ Tabs Ts H ∧ ∀ H', Aft Ts H H' → Q (.bl (t.outs m)) H'
theorem ok_areouts {f c PO : Addr} (D : Dfn K mg "are_outs" s_are_outs f c) (T : Txt mg) (c_is_below : Cal P w K mg base 2 "is_below" spBelow []) (TB_are_outs : GxR.TabB base mg c PO) (hP : PO ∈ Ts) : Cal P w K mg base 4 "are_outs" (spAreOuts Ts) [] := by
  refine cal D (fun _ _ _ _ _ _ us hl => match us, hl with | [_, _], _ => rfl) sc_are_outs (fun vs H Q E h => ?_) (fun A outer s H vs Q E hr h => ?_)
  · obtain ⟨v, t, m, rfl, _⟩ := h
    rfl
  · obtain ⟨v, t, m, rfl, r, tb, q⟩ := h
    refine ⟨_, (pss_cons (ps_if (PW.pt (pw_or (pt_not (pt_val (pe_callB call_isi (by rfl) T.b_isinstance (by decide +kernel) (pa_cons (pv 0) (pa_cons (pe_bltn (v := .ty "tuple") (by rfl) T.b_tuple (by decide +kernel) rfl) pa_nil))))) (pw_or1 (pt_not (pt_chain op_le op_le pe_int (pe_callB call_len_seq (by rfl) T.b_len (by decide +kernel) (pa_cons (pv 0) pa_nil)) (pe_gc (by rfl) T.g_MOST_OUTS)))))) (pss_one (ps_ret pe_bl)) pss_nil)
      (pss_one (ps_ret (pe_allG (own := [("out", 2)]) hr (by rfl) T.b_all TB_are_outs rfl (gxOk_by (N := ["thing", "count", "out"]) (sc := defScope s_are_outs) (own := [("out", 2)]) (by decide +kernel)) sc_are_outs.nd (pi_tup (pv 0)) (fun _ _ _ _ => (pg_name (i := 2) sc_are_outs.nd rfl (by first | exact Or.inl rfl | exact Or.inr rfl))) (fun _ _ _ _ => pts_nil) (fun _ _ _ _ => (pe_c c_is_below (GX.Room.gx2 hr) (by decide) (by rfl) (pa_cons (pv 2) (pa_cons (pv 1) pa_nil)))))))), ?_⟩
    refine ⟨_, rfl, _, _, _, _, t.kTup, rfl, .ty "tuple", tyx r, kit_ty (kTup_ok t), _, rfl, ite2 (fun h1 => ?_) (fun h1 => ?_)⟩
    · have e : t.outs m = false := by cases t <;> first | rfl | cases h1
      have q' := q H (Aft.refl tb)
      rw [e] at q'
      exact q'
    · cases r with
      | @tup a vs ts e ra =>
        have hl := ra.length
        have no : ¬ (1 ≤ ts.length ∧ ts.length ≤ 8) → Q (.bl false) H := fun hn => by
          have e : (Th.tup ts).outs m = false := by
            show ((decide (1 ≤ ts.length) && decide (ts.length ≤ 8)) && _) = false
            rw [← Bool.decide_and, decide_eq_false hn, Bool.false_and]
          have q' := q H (Aft.refl tb)
          rw [e] at q'
          exact q'
        refine ⟨_, rfl, a, _, rfl, .inr (SqT.of e), _, _, rfl, rfl, _, rfl, ite2 (fun h2 => ?_) (fun h2 => ?_)⟩
        · have h2' := of_decide_eq_true h2
          refine ⟨_, _, rfl, rfl, _, rfl, ite2 (fun h3 => ?_) (fun h3 => ?_)⟩
          · have h3' : ¬ ((vs.length : Int) ≤ 8) := fun z => by
              rw [decide_eq_true z] at h3
              cases h3
            exact no (by omega)
          · have h3' : (vs.length : Int) ≤ 8 := Classical.not_not.mp fun z => h3 (by rw [decide_eq_false z]; rfl)
            have eg : (Th.tup ts).outs m = ts.all (Th.isB m) := by
              show ((decide (1 ≤ ts.length) && decide (ts.length ≤ 8)) && _) = _
              rw [decide_eq_true (by omega), decide_eq_true (by omega)]
              rfl
            rw [eg] at q
            refine ⟨_, rfl, a, rfl, ⟨_, SqT.of e⟩, tb PO hP, fun H2 ht => ?_⟩
            have a2 : Aft Ts H H2 := ⟨Keep.tabbed hP ht, tb.tabbed ht⟩
            refine turns_it (walk_tup (xs := vs)) (fun i ys H' => (ts.take i).all (Th.isB m) = true ∧ Aft Ts H H') ⟨rfl, a2⟩ (fun i ys H' _ hp => SqT.of (hp.2.tup tb e)) ?_ ?_
            · rintro i x ys H3 H4 hi ⟨hg, a3⟩ ⟨rfl, e2⟩
              obtain ⟨t2, ht2, r2⟩ := ra.get e2
              refine ⟨rfl, ?_⟩
              unfold tYes
              refine iteT ?_
              refine ⟨_, rfl, _, rfl, x, t2, m, rfl, r2.mono (KeepT.aft tb a3), ?_⟩
              refine ⟨⟨_, rfl, fun hf => ?_⟩, fun hc => ⟨?_, a3⟩⟩
              · have q' := q _ a3
                have : ts.all (Th.isB m) = false := by
                  rw [List.all_eq_false]
                  exact ⟨t2, List.mem_of_getElem? ht2, by rw [hf]; exact Bool.false_ne_true⟩
                rw [this] at q'
                exact q'
              · rw [List.take_add_one, ht2, List.all_append, hg, Option.toList_some]
                show (true && (t2.isB m && true)) = true
                rw [V.bl.inj hc]
                rfl
            · rintro ys H3 ⟨hg, a3⟩
              rw [hl, List.take_length] at hg
              have q' := q _ a3
              rw [hg] at q'
              exact q'
        · have h2' : ¬ ((1 : Int) ≤ (vs.length : Int)) := fun z => h2 (decide_eq_true z)
          refine ⟨_, rfl, ?_⟩
          exact no (by omega)
      | _ => exact absurd rfl h1
def spIsNet (Ts : List Addr) : Sp := fun vs H Q _ => ∃ v t, vs = [v] ∧ Rep H v t ∧ Tabs Ts H ∧ ∀ H', Aft Ts H H' → Q (.bl t.net) H'
theorem many_int {t : Th} (h : t.many = true) : ∃ i, t = .int i := by
  cases t with
  | int i => exact ⟨i, rfl⟩
  | _ => cases h
theorem gates_tup {t : Th} {m : Int} (h : t.gates m = true) : ∃ ts, t = .tup ts := by
  cases t with
  | tup ts => exact ⟨ts, rfl⟩
  | _ => cases h
theorem ok_isnet {f c : Addr} (D : Dfn K mg "is_net" s_is_net f c) (T : Txt mg) (c_is_many : Cal P w K mg base 2 "is_many" spMany []) (c_are_gates : Cal P w K mg base 5 "are_gates" (spAreGates Ts) []) (c_are_outs : Cal P w K mg base 4 "are_outs" (spAreOuts Ts) []) : Cal P w K mg base 6 "is_net" (spIsNet Ts) [] := by
  refine cal D (fun _ _ _ _ _ _ us hl => match us, hl with | [_], _ => rfl) sc_is_net (fun vs H Q E h => ?_) (fun A outer s H vs Q E hr h => ?_)
  · obtain ⟨v, t, rfl, _⟩ := h
    rfl
  · obtain ⟨v, t, rfl, r, tb, q⟩ := h
    refine ⟨_, (pss_cons (ps_if (PW.pt (pw_or (pt_not (pt_val (pe_callB call_isi (by rfl) T.b_isinstance (by decide +kernel) (pa_cons (pv 0) (pa_cons (pe_bltn (v := .ty "tuple") (by rfl) T.b_tuple (by decide +kernel) rfl) pa_nil))))) (pw_or1 (pt_cmpR op_ne (pe_callB call_len_seq (by rfl) T.b_len (by decide +kernel) (pa_cons (pv 0) pa_nil)) pe_int (nomark _))))) (pss_one (ps_ret pe_bl)) pss_nil)
      (pss_cons (ps_asg (pv 0) (pg_tup rfl (pgs_cons (pg_name (i := 1) sc_is_net.nd rfl (by first | exact Or.inl rfl | exact Or.inr rfl)) (pgs_cons (pg_name (i := 2) sc_is_net.nd rfl (by first | exact Or.inl rfl | exact Or.inr rfl)) (pgs_cons (pg_name (i := 3) sc_is_net.nd rfl (by first | exact Or.inl rfl | exact Or.inr rfl)) pgs_nil)))))
      (pss_one (ps_ret (pe_and (pe_c c_is_many hr (by decide) (by rfl) (pa_cons (pv 1) pa_nil)) (pe_and (pe_c c_are_gates hr (by decide) (by rfl) (pa_cons (pv 2) (pa_cons (pv 1) pa_nil))) (pe_one (pe_c c_are_outs hr (by decide) (by rfl) (pa_cons (pv 3) (pa_cons (pe_op op_add (pv 1) (pe_callB call_len_seq (by rfl) T.b_len (by decide +kernel) (pa_cons (pv 2) pa_nil))) pa_nil)))))))))), ?_⟩
    refine ⟨_, rfl, _, _, _, _, t.kTup, rfl, .ty "tuple", tyx r, kit_ty (kTup_ok t), _, rfl, ite2 (fun h1 => ?_) (fun h1 => ?_)⟩
    · have e : t.net = false := by cases t <;> first | rfl | cases h1
      have q' := q H (Aft.refl tb)
      rw [e] at q'
      exact q'
    · cases r with
      | @tup a vs ts e ra =>
        refine ⟨_, rfl, a, _, rfl, .inr (SqT.of e), rfl, _, rfl, ite2 (fun h2 => ?_) (fun h2 => ?_)⟩
        · have e : (Th.tup ts).net = false := by
            have hl := ra.length
            cases ts with
            | nil => rfl
            | cons x r1 =>
              cases r1 with
              | nil => rfl
              | cons y r2 =>
                cases r2 with
                | nil => rfl
                | cons z r3 =>
                  cases r3 with
                  | nil =>
                    rw [hl] at h2
                    exact absurd h2 (by show ¬ ((!decide (V.int 3 = V.int 3)) = true); decide)
                  | cons _ _ => rfl
          have q' := q H (Aft.refl tb)
          rw [e] at q'
          exact q'
        · have hl : vs.length = 3 := by
            have := Classical.not_not.mp fun z => h2 (by rw [decide_eq_false z]; rfl)
            have := V.int.inj this
            omega
          obtain ⟨v1, v2, v3, x, y, z, rfl, rfl, r1, r2, r3⟩ := rep3 ra hl
          refine ⟨_, rfl, a, _, rfl, SqT.of e, rfl, _, _, rfl, _, _, rfl, _, _, rfl, rfl, ?_⟩
          have eg : (Th.tup [x, y, z]).net = (x.many && y.gates x.val && z.outs (x.val + y.len)) := rfl
          refine ⟨_, rfl, v1, x, rfl, r1, _, rfl, ite2 (fun g1 => ?_) (fun g1 => ?_)⟩
          · obtain ⟨i, rfl⟩ := many_int g1
            cases r1
            refine ⟨_, rfl, _, rfl, v2, y, i, rfl, r2, tb, fun H3 a3 => ⟨_, rfl, ite2 (fun g2 => ?_) (fun g2 => ?_)⟩⟩
            · obtain ⟨ys, rfl⟩ := gates_tup g2
              have r2' := r2.mono (KeepT.aft tb a3)
              cases r2' with
              | @tup a2 vs2 _ e2 ra2 =>
                refine ⟨_, rfl, _, rfl, _, rfl, a2, _, rfl, .inr (SqT.of e2), _, _, rfl, rfl, v3, z, _, rfl, r3.mono (KeepT.aft tb a3), a3.tb, fun H4 a4 => ?_⟩
                have q' := q _ (a3.trans a4)
                have g2' : (Th.tup ys).gates (Th.int i).val = true := g2
                rw [eg, g1, g2', Bool.true_and, Bool.true_and] at q'
                have el : (i + ((vs2.length : Nat) : Int)) = (Th.int i).val + (((Th.tup ys).len : Nat) : Int) := by rw [ra2.length]; rfl
                rw [← el] at q'
                exact q'
            · have q' := q _ a3
              have g2' : y.gates (Th.int i).val = false := Bool.eq_false_iff.mpr g2
              rw [eg, g1, g2', Bool.and_false, Bool.false_and] at q'
              exact q'
          · have q' := q _ (Aft.refl tb)
            rw [eg, Bool.eq_false_iff.mpr g1, Bool.false_and, Bool.false_and] at q'
            exact q'
      | _ => exact absurd rfl h1
end
end K76
set_option Elab.async false
set_option linter.all false
set_option maxRecDepth 100000
set_option maxHeartbeats 4000000
namespace K76
open PySem PySem.Spec PyProof.Rows L2 GX
open C8 (Cal pe_c pe_gc Met Mak)
-- @dict CHANGES
-- @no CHANGES 0 ""
-- @no CHANGES 1 "0"
-- @no CHANGES 2 "way"
-- @no CHANGES 3 "Kind"
-- @no CHANGES 4 "leads"
-- @dict QUESTIONS
-- @no QUESTIONS 0 "gate"
-- @no QUESTIONS 1 "kind"
-- @no QUESTIONS 2 "lead"
-- @no QUESTIONS 3 "less"
-- @no QUESTIONS 4 "outs"
-- @exc CoverError
-- @exc NoText
-- @exc NoDepth
-- @exc TooMany
-- @exc NoMatch
-- @exc NoChange made
-- @exc NoRow made
-- @sub NoChange NoChange true
-- @sub NoRow NoRow true
-- @sub NoRow ValueError true
-- @sub NoRow NoText false
-- @sub NoRow NoDepth false
-- @sub NoRow TooMany false
-- @sub NoRow NoMatch false
-- @sub NoRow NoChange false
-- @cls Keeper k:i,held:N,kept:t[t[t[i]]]
-- @cls Desk keeper:OKeeper
section
variable {P : Program} {w : World} {K : PySem.W.Frag} {mg : Str → Option Value} {base : Heap} {Ts : List Addr}
/-- a change of a net -/
inductive Chg
  | less | more (k a b : Nat) | outs (os : List Nat) | kind (g k : Nat) | lead (g s x : Nat)
def oldG (n : Net) (g : Nat) : Nat × Nat × Nat := n.gates.getD (g - n.many) (0, 0, 0)
def doN (n : Net) : Chg → Net
  | .less => ⟨n.many, n.gates.take (n.gates.length - 1), n.outs⟩
  | .more k a b => ⟨n.many, n.gates ++ [(k, a, b)], n.outs⟩
  | .outs os => ⟨n.many, n.gates, os⟩
  | .kind g k => ⟨n.many, n.gates.set (g - n.many) (k, (oldG n g).2.1, (oldG n g).2.2), n.outs⟩
  | .lead g s x => ⟨n.many, n.gates.set (g - n.many) (if s = 0 then ((oldG n g).1, x, (oldG n g).2.2) else ((oldG n g).1, (oldG n g).2.1, x)), n.outs⟩
def Chg.Ok (n : Net) : Chg → Prop
  | .less => 0 < n.gates.length ∧ ∀ o ∈ n.outs, o < n.many + (n.gates.length - 1)
  | .more k a b => n.gates.length < 16 ∧ k < 16 ∧ a < n.many + n.gates.length ∧ b < n.many + n.gates.length
  | .outs os => 1 ≤ os.length ∧ os.length ≤ 8 ∧ ∀ x ∈ os, x < n.many + n.gates.length
  | .kind g k => n.many ≤ g ∧ g < n.many + n.gates.length ∧ k < 16
  | .lead g s x => n.many ≤ g ∧ g < n.many + n.gates.length ∧ s < 2 ∧ x < g
def ChgAt (H : Hp) (c : Addr) : Chg → Prop
  | .less => H c = some (.tup [.str "less"])
  | .more k a b => H c = some (.tup [.str "more", nV k, nV a, nV b])
  | .outs os => ∃ oa, H c = some (.tup [.str "outs", .ref oa]) ∧ H oa = some (.tup (os.map nV))
  | .kind g k => H c = some (.tup [.str "kind", nV g, nV k])
  | .lead g s x => H c = some (.tup [.str "lead", nV g, nV s, nV x])
theorem ChgAt.mono {H H' : Hp} (m : ∀ b xs, H b = some (.tup xs) → H' b = some (.tup xs)) {c : Addr} : ∀ {x : Chg}, ChgAt H c x → ChgAt H' c x
  | .less, h => m _ _ h
  | .more .., h => m _ _ h
  | .outs _, ⟨oa, h1, h2⟩ => ⟨oa, m _ _ h1, m _ _ h2⟩
  | .kind .., h => m _ _ h
  | .lead .., h => m _ _ h
theorem oldG_at {n : Net} {g : Nat} (h1 : n.many ≤ g) (h2 : g < n.many + n.gates.length) : n.gates[g - n.many]? = some (oldG n g) := by
  unfold oldG
  rw [List.getD_eq_getElem?_getD, List.getElem?_eq_getElem (by omega)]
  rfl
theorem doN_ok {n : Net} (ok : n.Ok) : ∀ {c : Chg}, c.Ok n → (doN n c).Ok
  | .less, ⟨h1, h2⟩ => by
    refine ⟨ok.m1, ok.m8, ?_, fun i g e => ?_, ok.o1, ok.o8, fun o ho => ?_⟩
    · show (n.gates.take _).length ≤ 16
      rw [List.length_take]
      have := ok.g16
      omega
    · have e' : (n.gates.take (n.gates.length - 1))[i]? = some g := e
      rw [List.getElem?_take] at e'
      split at e'
      · exact ok.gs i g e'
      · cases e'
    · show o < n.many + (n.gates.take (n.gates.length - 1)).length
      rw [List.length_take]
      have := h2 o ho
      omega
  | .more k a b, ⟨h1, h2, h3, h4⟩ => by
    refine ⟨ok.m1, ok.m8, ?_, fun i g e => ?_, ok.o1, ok.o8, fun o ho => ?_⟩
    · show (n.gates ++ _).length ≤ 16
      rw [List.length_append]
      show n.gates.length + 1 ≤ 16
      omega
    · have e' : (n.gates ++ [(k, a, b)])[i]? = some g := e
      by_cases hi : i < n.gates.length
      · rw [List.getElem?_append_left hi] at e'
        exact ok.gs i g e'
      · have hl := (List.getElem?_eq_some_iff.mp e').1
        rw [List.length_append] at hl
        have hl : i < n.gates.length + 1 := hl
        have : i = n.gates.length := by omega
        subst this
        rw [List.getElem?_append_right (Nat.le_refl _), Nat.sub_self] at e'
        cases e'
        exact ⟨h2, h3, h4⟩
    · show o < n.many + (n.gates ++ [(k, a, b)]).length
      rw [List.length_append]
      have := ok.os o ho
      show o < n.many + (n.gates.length + 1)
      omega
  | .outs os, ⟨h1, h2, h3⟩ => ⟨ok.m1, ok.m8, ok.g16, ok.gs, h1, h2, h3⟩
  | .kind g k, ⟨h1, h2, h3⟩ => by
    refine ⟨ok.m1, ok.m8, ?_, fun i g' e => ?_, ok.o1, ok.o8, fun o ho => ?_⟩
    · show (n.gates.set _ _).length ≤ 16
      rw [List.length_set]
      exact ok.g16
    · have e' : (n.gates.set (g - n.many) (k, (oldG n g).2.1, (oldG n g).2.2))[i]? = some g' := e
      by_cases hi : g - n.many = i
      · subst hi
        rw [List.getElem?_set_self (by omega)] at e'
        cases e'
        obtain ⟨_, q1, q2⟩ := ok.gs _ _ (oldG_at h1 h2)
        exact ⟨h3, q1, q2⟩
      · rw [List.getElem?_set_ne hi] at e'
        exact ok.gs i g' e'
    · show o < n.many + (n.gates.set _ _).length
      rw [List.length_set]
      exact ok.os o ho
  | .lead g s x, ⟨h1, h2, h3, h4⟩ => by
    refine ⟨ok.m1, ok.m8, ?_, fun i g' e => ?_, ok.o1, ok.o8, fun o ho => ?_⟩
    · show (n.gates.set _ _).length ≤ 16
      rw [List.length_set]
      exact ok.g16
    · have e' : (n.gates.set (g - n.many) (if s = 0 then ((oldG n g).1, x, (oldG n g).2.2) else ((oldG n g).1, (oldG n g).2.1, x)))[i]? = some g' := e
      by_cases hi : g - n.many = i
      · subst hi
        rw [List.getElem?_set_self (by omega)] at e'
        obtain ⟨q0, q1, q2⟩ := ok.gs _ _ (oldG_at h1 h2)
        by_cases hs : s = 0
        · rw [if_pos hs] at e'
          cases e'
          exact ⟨q0, by show x < n.many + (g - n.many); omega, q2⟩
        · rw [if_neg hs] at e'
          cases e'
          exact ⟨q0, q1, by show x < n.many + (g - n.many); omega⟩
      · rw [List.getElem?_set_ne hi] at e'
        exact ok.gs i g' e'
    · show o < n.many + (n.gates.set _ _).length
      rw [List.length_set]
      exact ok.os o ho
theorem GatesAt.set {H : Hp} {ps : List Addr} {gs : List (Nat × Nat × Nat)} (x : GatesAt H ps gs) {i : Nat} {p : Addr} {k : Nat × Nat × Nat} (h : H p = some (.tup (gV k))) : GatesAt H (ps.set i p) (gs.set i k) := by
  refine ⟨by rw [List.length_set, List.length_set, x.1], fun j q g e1 e2 => ?_⟩
  by_cases hj : i = j
  · subst hj
    have l1 := (List.getElem?_eq_some_iff.mp e1).1
    have l2 := (List.getElem?_eq_some_iff.mp e2).1
    rw [List.length_set] at l1 l2
    rw [List.getElem?_set_self l1] at e1
    rw [List.getElem?_set_self l2] at e2
    cases e1
    cases e2
    exact h
  · rw [List.getElem?_set_ne hj] at e1 e2
    exact x.2 j q g e1 e2
end
section
def Chg.th : Chg → Th
  | .less => .tup [.str "less"]
  | .more k a b => .tup [.str "more", thW k, thW a, thW b]
  | .outs os => .tup [.str "outs", thWs os]
  | .kind g k => .tup [.str "kind", thW g, thW k]
  | .lead g s x => .tup [.str "lead", thW g, thW s, thW x]
/-- a thing that is a change of the net -/
def IsChg (n : Net) (t : Th) : Prop := ∃ c : Chg, c.Ok n ∧ c.th = t
/-- what an action may tell -/
def ActR (n : Net) (u t : Th) : Prop := (t.net = true → IsChg n u) ∧ ∀ c : Chg, c.Ok n → c.th = u → t = thNet (doN n c)
theorem ActR.iff {n : Net} (ok : n.Ok) {u t : Th} (h : ActR n u t) : t.net = true ↔ IsChg n u := ⟨h.1, fun ⟨c, cok, e⟩ => by rw [h.2 c cok e]; exact (doN_ok ok cok).net⟩
def Chg.wd : Chg → Str
  | .less => "less" | .more .. => "more" | .outs _ => "outs" | .kind .. => "kind" | .lead .. => "lead"
theorem Chg.wd_of {c : Chg} {w : Str} {ts : List Th} (h : c.th = .tup (.str w :: ts)) : c.wd = w := by
  cases c <;> (injection h with h; injection h with h1 h2; injection h1)
theorem isB_int {t : Th} {b : Nat} (h : t.isB ((b : Nat) : Int) = true) : ∃ x : Nat, t = thW x ∧ x < b := isB_nat.mp h
theorem gates_set : ∀ {w : Int} {ts : List Th} {j : Nat} {t : Th}, gatesFrom w ts = true → j < ts.length → gatesFrom w (ts.set j t) = t.gate (w + j)
  | _, [], _, _, _, h => absurd h (Nat.not_lt_zero _)
  | w, u :: r, 0, t, h, _ => by
    have h' : (u.gate w && gatesFrom (w + 1) r) = true := h
    rw [Bool.and_eq_true] at h'
    show (t.gate w && gatesFrom (w + 1) r) = t.gate (w + ((0 : Nat) : Int))
    rw [h'.2, Bool.and_true, show w + ((0 : Nat) : Int) = w by omega]
  | w, u :: r, j + 1, t, h, hj => by
    have h' : (u.gate w && gatesFrom (w + 1) r) = true := h
    rw [Bool.and_eq_true] at h'
    show (u.gate w && gatesFrom (w + 1) (r.set j t)) = t.gate (w + ((j + 1 : Nat) : Int))
    rw [h'.1, Bool.true_and, gates_set h'.2 (Nat.lt_of_succ_lt_succ hj), show w + 1 + ((j : Nat) : Int) = w + ((j + 1 : Nat) : Int) by omega]
theorem many_net {n : Net} (ok : n.Ok) : (thN n.many).many = true := by
  have m1 := ok.m1
  have m8 := ok.m8
  show (decide ((1 : Int) ≤ (n.many : Int)) && decide ((n.many : Int) ≤ 8)) = true
  rw [decide_eq_true (by omega), decide_eq_true (by omega)]
  rfl
theorem outs_net {os : List Nat} {b : Nat} : (Th.tup (os.map thN)).outs ((b : Nat) : Int) = true ↔ (1 ≤ os.length ∧ os.length ≤ 8 ∧ ∀ x ∈ os, x < b) := by
  show (decide (1 ≤ (os.map thN).length) && decide ((os.map thN).length ≤ 8) && (os.map thN).all (Th.isB ((b : Nat) : Int))) = true ↔ _
  rw [Bool.and_eq_true, Bool.and_eq_true, decide_eq_true_iff, decide_eq_true_iff, List.length_map, List.all_eq_true]
  constructor
  · rintro ⟨⟨h1, h2⟩, h3⟩
    refine ⟨h1, h2, fun x hx => ?_⟩
    obtain ⟨y, e, hy⟩ := isB_int (h3 _ (List.mem_map.mpr ⟨x, hx, rfl⟩))
    have := thW_inj _ _ (show thW x = thW y from e)
    omega
  · rintro ⟨h1, h2, h3⟩
    refine ⟨⟨h1, h2⟩, fun t ht => ?_⟩
    obtain ⟨x, hx, rfl⟩ := List.mem_map.mp ht
    exact isB_n (Int.ofNat_lt.mpr (h3 x hx))
/-- a gate's place is taken by another thing -/
def putG (n : Net) (x : Nat) (t : Th) : Th := .tup [thN n.many, .tup ((n.gates.map thG).set (x - n.many) t), .tup (n.outs.map thN)]
theorem putG_net {n : Net} (ok : n.Ok) {x : Nat} (h1 : n.many ≤ x) (h2 : x < n.many + n.gates.length) (t : Th) : (putG n x t).net = t.gate ((x : Nat) : Int) := by
  show ((thN n.many).many && (Th.tup ((n.gates.map thG).set (x - n.many) t)).gates (n.many : Int) && (Th.tup (n.outs.map thN)).outs ((n.many : Int) + ((((n.gates.map thG).set (x - n.many) t).length : Nat) : Int))) = _
  have e2 : (Th.tup ((n.gates.map thG).set (x - n.many) t)).gates (n.many : Int) = t.gate ((x : Nat) : Int) := by
    show (decide (((n.gates.map thG).set (x - n.many) t).length ≤ 16) && gatesFrom (n.many : Int) ((n.gates.map thG).set (x - n.many) t)) = _
    rw [gates_set (gates_ok n.gates n.many ok.gs) (by rw [List.length_map]; omega), decide_eq_true (by rw [List.length_set, List.length_map]; exact ok.g16), Bool.true_and]
    congr 1
    omega
  have e3 : (Th.tup (n.outs.map thN)).outs ((n.many : Int) + ((((n.gates.map thG).set (x - n.many) t).length : Nat) : Int)) = true := by
    rw [List.length_set, List.length_map, show (n.many : Int) + ((n.gates.length : Nat) : Int) = ((n.many + n.gates.length : Nat) : Int) by omega]
    exact outs_net.mpr ⟨ok.o1, ok.o8, ok.os⟩
  rw [many_net ok, e2, e3, Bool.true_and, Bool.and_true]
theorem putG_gate {n : Net} {x : Nat} {k : Nat × Nat × Nat} : putG n x (thG k) = thNet ⟨n.many, n.gates.set (x - n.many) k, n.outs⟩ := by
  unfold putG thNet
  rw [List.map_set]
theorem gate_nat {t1 t2 t3 : Th} {w : Nat} (h : (Th.tup [t1, t2, t3]).gate ((w : Nat) : Int) = true) : ∃ k a b : Nat, t1 = thW k ∧ t2 = thW a ∧ t3 = thW b ∧ k < 16 ∧ a < w ∧ b < w := by
  have h' : (t1.isB 16 && t2.isB ((w : Nat) : Int) && t3.isB ((w : Nat) : Int)) = true := h
  rw [Bool.and_eq_true, Bool.and_eq_true] at h'
  obtain ⟨k, e1, l1⟩ := isB_int (b := 16) h'.1.1
  obtain ⟨a, e2, l2⟩ := isB_int h'.1.2
  obtain ⟨b, e3, l3⟩ := isB_int h'.2
  exact ⟨k, a, b, e1, e2, e3, l1, l2, l3⟩
/-- no change: nothing comes of it -/
theorem act_non {n : Net} {u : Th} (h : ¬ IsChg n u) : ActR n u .non := ⟨fun z => (by cases z), fun c cok e => absurd ⟨c, cok, e⟩ h⟩
theorem chg_kind {n : Net} {ts : List Th} (h : IsChg n (.tup (.str "kind" :: ts))) : ∃ g k : Nat, ts = [thW g, thW k] ∧ n.many ≤ g ∧ g < n.many + n.gates.length ∧ k < 16 := by
  obtain ⟨c, cok, e⟩ := h
  have w := Chg.wd_of e
  cases c with
  | kind g k =>
    injection e with e
    injection e with e1 e2
    exact ⟨g, k, e2.symm, cok⟩
  | _ => simp only [Chg.wd] at w; exact absurd w (by decide +kernel)
theorem chg_lead {n : Net} {ts : List Th} (h : IsChg n (.tup (.str "lead" :: ts))) : ∃ g s x : Nat, ts = [thW g, thW s, thW x] ∧ n.many ≤ g ∧ g < n.many + n.gates.length ∧ s < 2 ∧ x < g := by
  obtain ⟨c, cok, e⟩ := h
  have w := Chg.wd_of e
  cases c with
  | lead g s x =>
    injection e with e
    injection e with e1 e2
    exact ⟨g, s, x, e2.symm, cok⟩
  | _ => simp only [Chg.wd] at w; exact absurd w (by decide +kernel)
theorem chg_more {n : Net} {ts : List Th} (h : IsChg n (.tup (.str "more" :: ts))) : ∃ k a b : Nat, ts = [thW k, thW a, thW b] ∧ n.gates.length < 16 ∧ k < 16 ∧ a < n.many + n.gates.length ∧ b < n.many + n.gates.length := by
  obtain ⟨c, cok, e⟩ := h
  have w := Chg.wd_of e
  cases c with
  | more k a b =>
    injection e with e
    injection e with e1 e2
    exact ⟨k, a, b, e2.symm, cok⟩
  | _ => simp only [Chg.wd] at w; exact absurd w (by decide +kernel)
theorem chg_less {n : Net} {ts : List Th} (h : IsChg n (.tup (.str "less" :: ts))) : ts = [] ∧ 0 < n.gates.length ∧ ∀ o ∈ n.outs, o < n.many + (n.gates.length - 1) := by
  obtain ⟨c, cok, e⟩ := h
  have w := Chg.wd_of e
  cases c with
  | less =>
    injection e with e
    injection e with e1 e2
    exact ⟨e2.symm, cok⟩
  | _ => simp only [Chg.wd] at w; exact absurd w (by decide +kernel)
theorem chg_outs {n : Net} {ts : List Th} (h : IsChg n (.tup (.str "outs" :: ts))) : ∃ os : List Nat, ts = [thWs os] ∧ 1 ≤ os.length ∧ os.length ≤ 8 ∧ ∀ x ∈ os, x < n.many + n.gates.length := by
  obtain ⟨c, cok, e⟩ := h
  have w := Chg.wd_of e
  cases c with
  | outs os =>
    injection e with e
    injection e with e1 e2
    exact ⟨os, e2.symm, cok⟩
  | _ => simp only [Chg.wd] at w; exact absurd w (by decide +kernel)
/-- a change is a tuple with one of the words -/
theorem chg_top {n : Net} {t : Th} (h : IsChg n t) : ∃ w ts, t = .tup (.str w :: ts) ∧ w ∈ (["kind", "lead", "more", "less", "outs"] : List Str) := by
  obtain ⟨c, _, rfl⟩ := h
  cases c <;> exact ⟨_, _, rfl, by simp⟩
theorem act_kind {n : Net} (ok : n.Ok) {x : Nat} (h1 : n.many ≤ x) (h2 : x < n.many + n.gates.length) (t : Th) : ActR n (.tup [.str "kind", thW x, t]) (putG n x (.tup [t, thN (oldG n x).2.1, thN (oldG n x).2.2])) := by
  obtain ⟨_, o1, o2⟩ := ok.gs _ _ (oldG_at h1 h2)
  refine ⟨fun h => ?_, fun c cok e => ?_⟩
  · rw [putG_net ok h1 h2] at h
    obtain ⟨k, a, b, e1, _, _, l1, _, _⟩ := gate_nat h
    exact ⟨.kind x k, ⟨h1, h2, l1⟩, by rw [e1]; rfl⟩
  · obtain ⟨g, k, e2, _⟩ := chg_kind ⟨c, cok, e⟩
    have w := Chg.wd_of e
    cases c with
    | kind g k =>
      injection e with e
      injection e with e1 e2
      injection e2 with e2 e3
      injection e3 with e3 _
      have := thW_inj _ _ e2
      subst this
      subst e3
      exact putG_gate (k := (k, (oldG n g).2.1, (oldG n g).2.2))
    | _ => simp only [Chg.wd] at w; exact absurd w (by decide +kernel)
theorem act_lead {n : Net} (ok : n.Ok) {x s : Nat} (h1 : n.many ≤ x) (h2 : x < n.many + n.gates.length) (hs : s < 2) (t : Th) : ActR n (.tup [.str "lead", thW x, thW s, t]) (putG n x (if s = 0 then .tup [thN (oldG n x).1, t, thN (oldG n x).2.2] else .tup [thN (oldG n x).1, thN (oldG n x).2.1, t])) := by
  obtain ⟨_, o1, o2⟩ := ok.gs _ _ (oldG_at h1 h2)
  refine ⟨fun h => ?_, fun c cok e => ?_⟩
  · rw [putG_net ok h1 h2] at h
    by_cases z : s = 0
    · rw [if_pos z] at h
      obtain ⟨k, a, b, _, e1, _, _, l1, _⟩ := gate_nat h
      exact ⟨.lead x s a, ⟨h1, h2, hs, l1⟩, by rw [e1]; rfl⟩
    · rw [if_neg z] at h
      obtain ⟨k, a, b, _, _, e1, _, _, l1⟩ := gate_nat h
      exact ⟨.lead x s b, ⟨h1, h2, hs, l1⟩, by rw [e1]; rfl⟩
  · have w := Chg.wd_of e
    cases c with
    | lead g s' x' =>
      injection e with e
      injection e with e1 e2
      injection e2 with e2 e3
      injection e3 with e3 e4
      injection e4 with e4 _
      have := thW_inj _ _ e2
      subst this
      have := thW_inj _ _ e3
      subst this
      subst e4
      by_cases z : s' = 0
      · rw [if_pos z]
        refine (putG_gate (k := ((oldG n g).1, x', (oldG n g).2.2))).trans ?_
        show _ = thNet ⟨n.many, n.gates.set _ (if s' = 0 then _ else _), n.outs⟩
        rw [if_pos z]
      · rw [if_neg z]
        refine (putG_gate (k := ((oldG n g).1, (oldG n g).2.1, x'))).trans ?_
        show _ = thNet ⟨n.many, n.gates.set _ (if s' = 0 then _ else _), n.outs⟩
        rw [if_neg z]
    | _ => simp only [Chg.wd] at w; exact absurd w (by decide +kernel)
theorem act_more {n : Net} (ok : n.Ok) (ts : List Th) : ActR n (.tup (.str "more" :: ts)) (.tup [thN n.many, .tup (n.gates.map thG ++ [Th.tup ts]), .tup (n.outs.map thN)]) := by
  refine ⟨fun h => ?_, fun c cok e => ?_⟩
  · have h' : ((thN n.many).many && (Th.tup (n.gates.map thG ++ [Th.tup ts])).gates (n.many : Int) && (Th.tup (n.outs.map thN)).outs ((n.many : Int) + (((n.gates.map thG ++ [Th.tup ts]).length : Nat) : Int))) = true := h
    rw [Bool.and_eq_true, Bool.and_eq_true] at h'
    have hg : (decide ((n.gates.map thG ++ [Th.tup ts]).length ≤ 16) && gatesFrom (n.many : Int) (n.gates.map thG ++ [Th.tup ts])) = true := h'.1.2
    rw [Bool.and_eq_true, decide_eq_true_iff, List.length_append, List.length_map] at hg
    have hl : n.gates.length + 1 ≤ 16 := hg.1
    have hlast := gatesFrom_snoc (w := (n.many : Int)) (ts := n.gates.map thG ++ [Th.tup ts]) (i := n.gates.length) (t := Th.tup ts) (by rw [List.getElem?_append_right (by rw [List.length_map]; exact Nat.le_refl _), List.length_map, Nat.sub_self]; rfl)
    rw [List.take_of_length_le (by rw [List.length_append, List.length_map]; exact Nat.le_refl _), hg.2] at hlast
    have hx := (Bool.and_eq_true_iff.mp hlast.symm).2
    rw [show (n.many : Int) + ((n.gates.length : Nat) : Int) = ((n.many + n.gates.length : Nat) : Int) by omega] at hx
    match ts, hx with
    | [t1, t2, t3], hx =>
      obtain ⟨k, a, b, e1, e2, e3, l1, l2, l3⟩ := gate_nat hx
      exact ⟨.more k a b, ⟨by omega, l1, l2, l3⟩, by rw [e1, e2, e3]; rfl⟩
    | [], hx => cases hx
    | [_], hx => cases hx
    | [_, _], hx => cases hx
    | _ :: _ :: _ :: _ :: _, hx => cases hx
  · have w := Chg.wd_of e
    cases c with
    | more k a b =>
      injection e with e
      injection e with e1 e2
      rw [← e2]
      show _ = Th.tup [thN n.many, .tup ((n.gates ++ [(k, a, b)]).map thG), .tup (n.outs.map thN)]
      rw [List.map_append]
      rfl
    | _ => simp only [Chg.wd] at w; exact absurd w (by decide +kernel)
theorem act_less {n : Net} (ok : n.Ok) (h0 : 0 < n.gates.length) : ActR n (.tup [.str "less"]) (.tup [thN n.many, .tup ((n.gates.map thG).take (n.gates.length - 1)), .tup (n.outs.map thN)]) := by
  refine ⟨fun h => ?_, fun c cok e => ?_⟩
  · have h' : ((thN n.many).many && (Th.tup ((n.gates.map thG).take (n.gates.length - 1))).gates (n.many : Int) && (Th.tup (n.outs.map thN)).outs ((n.many : Int) + ((((n.gates.map thG).take (n.gates.length - 1)).length : Nat) : Int))) = true := h
    rw [Bool.and_eq_true] at h'
    have ho := h'.2
    rw [List.length_take, List.length_map, Nat.min_eq_left (by omega), show (n.many : Int) + ((n.gates.length - 1 : Nat) : Int) = ((n.many + (n.gates.length - 1) : Nat) : Int) by omega] at ho
    exact ⟨.less, ⟨h0, (outs_net.mp ho).2.2⟩, rfl⟩
  · have w := Chg.wd_of e
    cases c with
    | less =>
      show _ = Th.tup [thN n.many, .tup ((n.gates.take (n.gates.length - 1)).map thG), .tup (n.outs.map thN)]
      rw [List.map_take]
    | _ => simp only [Chg.wd] at w; exact absurd w (by decide +kernel)
theorem act_outs {n : Net} (ok : n.Ok) (t : Th) : ActR n (.tup [.str "outs", t]) (.tup [thN n.many, .tup (n.gates.map thG), t]) := by
  refine ⟨fun h => ?_, fun c cok e => ?_⟩
  · have h' : ((thN n.many).many && (Th.tup (n.gates.map thG)).gates (n.many : Int) && t.outs ((n.many : Int) + (((n.gates.map thG).length : Nat) : Int))) = true := h
    rw [Bool.and_eq_true, List.length_map, show (n.many : Int) + ((n.gates.length : Nat) : Int) = ((n.many + n.gates.length : Nat) : Int) by omega] at h'
    obtain ⟨os, e, l1, l2, l3⟩ := outs_iff.mp h'.2
    exact ⟨.outs os, ⟨l1, l2, l3⟩, by rw [e]; rfl⟩
  · have w := Chg.wd_of e
    cases c with
    | outs os =>
      injection e with e
      injection e with e1 e2
      injection e2 with e2 _
      rw [← e2]
      rfl
    | _ => simp only [Chg.wd] at w; exact absurd w (by decide +kernel)
end
section
variable {P : Program} {w : World} {K : PySem.W.Frag} {mg : Str → Option Value} {base : Heap} {Ts : List Addr}
def spHasGate : Sp := fun vs H Q _ => ∃ (a : Addr) (n : Net) (g o : Addr) (ps : List Addr) (v : V) (t : Th), vs = [.ref a, v] ∧ NetAt H a n g o ps ∧ Rep H v t ∧ ∀ b : Bool, (b = true ↔ ∃ x : Nat, t = thW x ∧ n.many ≤ x ∧ x < n.many + n.gates.length) → Q (.bl b) H
theorem ok_hasgate {f c : Addr} (D : Dfn K mg "has_gate" s_has_gate f c) (T : Txt mg) (c_is_below : Cal P w K mg base 2 "is_below" spBelow []) (c_wires_in : Cal P w K mg base 1 "wires_in" spWires []) : Cal P w K mg base 3 "has_gate" spHasGate [] := by
  refine cal D (fun _ _ _ _ _ _ us hl => match us, hl with | [_, _], _ => rfl) sc_has_gate (fun vs H Q E h => ?_) (fun A outer s H vs Q E hr h => ?_)
  · obtain ⟨a, n, g, o, ps, v, t, rfl, _⟩ := h
    rfl
  · obtain ⟨a, n, g, o, ps, v, t, rfl, N, r, q⟩ := h
    refine ⟨_, (pss_one (ps_ret (pe_and (pe_c c_is_below hr (by decide) (by rfl) (pa_cons (pv 1) (pa_cons (pe_c c_wires_in hr (by decide) (by rfl) (pa_cons (pv 0) pa_nil)) pa_nil))) (pe_one (pe_cmpR op_ge (pv 1) (pe_ix ix_tup (pv 0) pe_int (fun _ _ => rfl)) (nomark _)))))), ?_⟩
    refine ⟨_, rfl, _, rfl, a, n, g, o, ps, rfl, N, v, t, _, rfl, r, _, rfl, ite2 (fun h1 => ?_) (fun h1 => ?_)⟩
    · obtain ⟨x, rfl, lt⟩ := isB_nat.mp h1
      unfold thW at r
      cases r
      refine ⟨_, rfl, _, rfl, a, _, 0, _, rfl, rfl, SqT.of N.top, at0, _, _, rfl, rfl, ?_⟩
      refine q _ (decide_eq_true_iff.trans ⟨fun z => ⟨x, rfl, by omega, lt⟩, fun ⟨y, e, h2, _⟩ => ?_⟩)
      have := thW_inj _ _ e
      show ((x : Nat) : Int) ≥ ((n.many : Nat) : Int)
      omega
    · exact q false ⟨fun z => (by cases z), fun ⟨x, e, _, lt⟩ => (h1 (isB_nat.mpr ⟨x, e, lt⟩)).elim⟩
end
section
variable {P : Program} {w : World} {K : PySem.W.Frag} {mg : Str → Option Value} {base : Heap} {Ts : List Addr}
theorem cut_neg (xs : List V) (h : 0 < xs.length) : cutV xs none (some (-1)) = xs.take (xs.length - 1) := by
  unfold cutV
  rw [HT.sIx_none, List.drop_zero, Nat.sub_zero]
  congr 1
  unfold HT.sIx
  simp only []
  first
    | (rw [if_pos (by decide)]; omega)
    | (split <;> omega)
    | omega
theorem gateK {H : Hp} {a g o : Addr} {ps : List Addr} {n : Net} (N : NetAt H a n g o ps) {x : Nat} (h1 : n.many ≤ x) (h2 : x < n.many + n.gates.length) : ∃ p, atI (ps.map V.ref) (((x : Nat) : Int) - ((n.many : Nat) : Int)) = some (.ref p) ∧ H p = some (.tup (gV (oldG n x))) := by
  have hk := oldG_at h1 h2
  have hil : x - n.many < ps.length := by rw [N.gs.1]; omega
  refine ⟨ps[x - n.many], ?_, N.gs.2 _ _ _ (List.getElem?_eq_getElem hil) hk⟩
  rw [show (((x : Nat) : Int) - ((n.many : Nat) : Int)) = ((x - n.many : Nat) : Int) by omega]
  exact atI_nat (by rw [List.getElem?_map, List.getElem?_eq_getElem hil]; rfl)
theorem reps1 {H : Hp} {xs : List V} {ts : List Th} (r : RepAll H xs ts) (h : xs.length = 1) : ∃ x t, xs = [x] ∧ ts = [t] ∧ Rep H x t := by
  match r, h with
  | .cons r1 .nil, _ => exact ⟨_, _, rfl, rfl, r1⟩
theorem reps2 {H : Hp} {xs : List V} {ts : List Th} (r : RepAll H xs ts) (h : xs.length = 2) : ∃ x t y u, xs = [x, y] ∧ ts = [t, u] ∧ Rep H x t ∧ Rep H y u := by
  match r, h with
  | .cons r1 (.cons r2 .nil), _ => exact ⟨_, _, _, _, rfl, rfl, r1, r2⟩
theorem reps3 {H : Hp} {xs : List V} {ts : List Th} (r : RepAll H xs ts) (h : xs.length = 3) : ∃ x t y u z v, xs = [x, y, z] ∧ ts = [t, u, v] ∧ Rep H x t ∧ Rep H y u ∧ Rep H z v := by
  match r, h with
  | .cons r1 (.cons r2 (.cons r3 .nil)), _ => exact ⟨_, _, _, _, _, _, rfl, rfl, r1, r2, r3⟩
def spWithT : Sp := fun vs H Q _ => ∃ (a : Addr) (n : Net) (g o : Addr) (ps : List Addr) (gt : Nat) (hv : V) (ht : Th), vs = [.ref a, nV gt, hv] ∧ NetAt H a n g o ps ∧ n.Ok ∧ n.many ≤ gt ∧ gt < n.many + n.gates.length ∧ Rep H hv ht ∧ ∀ r H', Same H H' → Rep H' (.ref r) (putG n gt ht) → Q (.ref r) H'
theorem ok_with {f c : Addr} (D : Dfn K mg "with_gate" s_with_gate f c) (T : Txt mg) : Cal P w K mg base 1 "with_gate" spWithT [] := by
  refine cal D (fun _ _ _ _ _ _ us hl => match us, hl with | [_, _, _], _ => rfl) sc_with_gate (fun vs H Q E h => ?_) (fun A outer s H vs Q E hr h => ?_)
  · obtain ⟨a, n, g, o, ps, gt, hv, ht, rfl, _⟩ := h
    rfl
  · obtain ⟨a, n, g, o, ps, gt, hv, ht, rfl, N, ok, h1, h2, hh, q⟩ := h
    refine ⟨_, (pss_cons (ps_asg (pv 0) (pg_tup rfl (pgs_cons (pg_name (i := 3) sc_with_gate.nd rfl (by first | exact Or.inl rfl | exact Or.inr rfl)) (pgs_cons (pg_name (i := 4) sc_with_gate.nd rfl (by first | exact Or.inl rfl | exact Or.inr rfl)) (pgs_cons (pg_name (i := 5) sc_with_gate.nd rfl (by first | exact Or.inl rfl | exact Or.inr rfl)) pgs_nil)))))
      (pss_cons (ps_set (i := 6) sc_with_gate.nd rfl (by first | exact Or.inl rfl | exact Or.inr rfl) (pe_op op_sub (pv 1) (pv 3)))
      (pss_one (ps_ret (pe_tup (pa_cons (pv 3) (pa_cons (pe_op op_catA (pe_op op_catA (pe_slice sl_tupA (pv 4) po_none (po_some (pv 6))) (pe_tup (pa_cons (pv 2) pa_nil))) (pe_slice sl_tupA (pv 4) (po_some (pe_op op_add (pv 6) pe_int)) po_none)) (pa_cons (pv 5) pa_nil)))))))), ?_⟩
    have g16 := ok.g16
    refine ⟨_, rfl, a, _, rfl, SqT.of N.top, rfl, _, _, rfl, _, _, rfl, _, _, rfl, rfl, ?_⟩
    refine ⟨_, rfl, _, rfl, _, _, rfl, rfl, ?_⟩
    have ea : V.int (((gt : Nat) : Int) - ((n.many : Nat) : Int)) = nV (gt - n.many) := congrArg V.int (by omega)
    dsimp -proj only
    rw [ea]
    have hal : gt - n.many < n.gates.length := by omega
    unfold putG at q
    generalize hat : gt - n.many = at_ at ea hal q ⊢
    have pl : ps.length = n.gates.length := N.gs.1
    refine ⟨_, rfl, _, rfl, ?_⟩
    unfold tNoPart
    refine ⟨_, rfl, _, rfl, ?_⟩
    refine slA (lo := none) (hi := some ((at_ : Nat) : Int)) N.gt fun r1 H1 s1 e1 => ?_
    rw [cut_hi, ← List.map_take] at e1
    refine ⟨_, rfl, small 1, fun t2 nt2 => ?_⟩
    have s2 := s1.trans (Same.new (o := .tup [hv]) nt2)
    have e12 := (Same.new (o := .tup [hv]) nt2) _ _ e1
    have et2 : upd H1 t2 (.tup [hv]) t2 = some (.tup [hv]) := upd_same
    generalize upd H1 t2 (.tup [hv]) = H2 at s2 e12 et2 ⊢
    refine catA (K := K) e12 et2 (by rw [List.length_map, List.length_take]; show _ + 1 ≤ sizeLine; exact small _ (by omega)) fun r3 H3 s3 e3 => ?_
    have s03 := s2.trans s3
    refine ⟨_, rfl, _, rfl, _, _, rfl, rfl, _, rfl, ?_⟩
    have e1' : ((at_ : Nat) : Int) + 1 = ((at_ + 1 : Nat) : Int) := by omega
    dsimp -proj only
    rw [e1']
    refine slA (lo := some ((at_ + 1 : Nat) : Int)) (hi := none) (s03 _ _ N.gt) fun r4 H4 s4 e4 => ?_
    rw [cut_lo, ← List.map_drop] at e4
    refine catA (K := K) (s4 _ _ e3) e4 (by rw [List.length_append, List.length_map, List.length_map, List.length_take, List.length_drop]; show _ + 1 + _ ≤ sizeLine; exact small _ (by omega)) fun r5 H5 s5 e5 => ?_
    have s05 := (s03.trans s4).trans s5
    refine ⟨_, rfl, small 3, fun r nr => ?_⟩
    have s6 := Same.new (o := .tup [nV n.many, .ref r5, .ref o]) nr
    have s06 := s05.trans s6
    have N6 := N.same s06
    have hr6 := hh.mono (KeepT.same s06)
    have rg := rep_gs _ _ N6.gs
    refine q r _ s06 (.tup upd_same (.cons (.int _) (.cons (.tup (s6 _ _ e5) ?_) (.cons (.tup N6.ot (rep_ns _)) .nil))))
    rw [List.set_eq_take_append_cons_drop, if_pos (by rw [List.length_map]; exact hal), List.map_take, List.map_drop, List.append_assoc]
    exact (rg.take at_).append (.cons hr6 (rg.drop (at_ + 1)))
def spActT (wd : Str) : Sp := fun vs H Q _ => ∃ (a : Addr) (n : Net) (g o : Addr) (ps : List Addr) (ca : Addr) (xs : List V) (ts : List Th), vs = [.ref a, .ref ca] ∧ NetAt H a n g o ps ∧ n.Ok ∧ H ca = some (.tup (.str wd :: xs)) ∧ RepAll H xs ts ∧ xs.length ≤ 1000 ∧ ∀ v t H', Same H H' → Rep H' v t → ActR n (.tup (.str wd :: ts)) t → Q v H'
theorem ok_kindT {f c : Addr} (D : Dfn K mg "kind_changed" s_kind_changed f c) (T : Txt mg) (c_has_gate : Cal P w K mg base 3 "has_gate" spHasGate []) (c_with_gate : Cal P w K mg base 1 "with_gate" spWithT []) : Cal P w K mg base 4 "kind_changed" (spActT "kind") [] := by
  refine cal D (fun _ _ _ _ _ _ us hl => match us, hl with | [_, _], _ => rfl) sc_kind_changed (fun vs H Q E h => ?_) (fun A outer s H vs Q E hr h => ?_)
  · obtain ⟨a, n, g, o, ps, ca, xs, ts, rfl, _⟩ := h
    rfl
  · obtain ⟨a, n, g, o, ps, ca, xs, ts, rfl, N, ok, hc, ra, xl, q⟩ := h
    refine ⟨_, (pss_cons (ps_if (PW.pt (pw_or (pt_cmpR op_ne (pe_callB call_len_seq (by rfl) T.b_len (by decide +kernel) (pa_cons (pv 1) pa_nil)) pe_int (nomark _)) (pw_or1 (pt_not (pt_val (pe_c c_has_gate hr (by decide) (by rfl) (pa_cons (pv 0) (pa_cons (pe_ix ix_tup (pv 1) pe_int (fun _ _ => rfl)) pa_nil)))))))) (pss_one (ps_ret pe_non)) pss_nil)
      (pss_cons (ps_asg (pe_slice sl_tupA (pv 1) (po_some pe_int) po_none) (pg_tup rfl (pgs_cons (pg_name (i := 2) sc_kind_changed.nd rfl (by first | exact Or.inl rfl | exact Or.inr rfl)) (pgs_cons (pg_name (i := 3) sc_kind_changed.nd rfl (by first | exact Or.inl rfl | exact Or.inr rfl)) pgs_nil))))
      (pss_one (ps_ret (pe_c c_with_gate hr (by decide) (by rfl) (pa_cons (pv 0) (pa_cons (pv 2) (pa_cons (pe_op op_catA (pe_tup (pa_cons (pv 3) pa_nil)) (pe_slice sl_tupA (pe_ix ix_tup (pe_ix ix_tup (pv 0) pe_int (fun _ _ => rfl)) (pe_op op_sub (pv 2) (pe_ix ix_tup (pv 0) pe_int (fun _ _ => rfl))) (fun _ _ => rfl)) (po_some pe_int) po_none)) pa_nil)))))))), ?_⟩
    have rl := ra.length
    refine ⟨_, rfl, ca, _, rfl, .inr (SqT.of hc), rfl, _, rfl, ite2 (fun h => ?_) (fun h => ?_)⟩
    · refine q .non .non H (Same.refl _) .non (act_non fun z => ?_)
      obtain ⟨g', k', e, _⟩ := chg_kind z
      rw [e] at rl
      rw [decide_eq_true (by show V.int (((V.str "kind" :: xs).length : Nat) : Int) = V.int 3; rw [List.length_cons, rl]; rfl)] at h
      cases h
    · have hl : xs.length = 2 := by
        have := Classical.not_not.mp fun z => h (by rw [decide_eq_false z]; rfl)
        have := V.int.inj this
        rw [List.length_cons] at this
        omega
      obtain ⟨x1, t1, x2, t2, rfl, rfl, r1, r2⟩ := reps2 ra hl
      refine ⟨_, rfl, _, rfl, ca, _, 1, _, rfl, rfl, SqT.of hc, at1, a, n, g, o, ps, x1, t1, rfl, N, r1, fun b hb => ⟨_, rfl, ite2 (fun h2 => ?_) (fun h2 => ?_)⟩⟩
      · refine q .non .non H (Same.refl _) .non (act_non fun z => ?_)
        obtain ⟨g', k', e, h3, h4, _⟩ := chg_kind z
        injection e with e _
        rw [hb.mpr ⟨g', e, h3, h4⟩] at h2
        cases h2
      · have hbt : b = true := by
          cases b with
          | true => rfl
          | false => exact absurd rfl h2
        obtain ⟨x, rfl, h1, h2⟩ := hb.mp hbt
        unfold thW at r1
        cases r1
        refine ⟨_, rfl, 1, rfl, ?_⟩
        unfold tNoPart
        refine slA (lo := some ((1 : Nat) : Int)) (hi := none) hc fun r1 H1 s1 e1 => ?_
        rw [cut_lo] at e1
        have e1 : H1 r1 = some (.tup [nV x, x2]) := e1
        have N1 := N.same s1
        refine ⟨r1, _, rfl, SqT.of e1, rfl, _, _, rfl, _, _, rfl, rfl, ?_⟩
        refine ⟨_, rfl, _, rfl, _, rfl, small 1, fun t2' nt2 => ?_⟩
        have s2 := Same.new (o := .tup [x2]) nt2
        have N2 := N1.same s2
        have e2 : upd H1 t2' (.tup [x2]) t2' = some (.tup [x2]) := upd_same
        generalize upd H1 t2' (.tup [x2]) = H2 at s2 N2 e2 ⊢
        obtain ⟨pk, hatk, hpk⟩ := gateK N2 h1 h2
        refine ⟨_, rfl, a, _, 1, _, rfl, rfl, SqT.of N2.top, at1, _, rfl, _, rfl, a, _, 0, _, rfl, rfl, SqT.of N2.top, at0, _, _, rfl, rfl, g, _, _, _, rfl, rfl, SqT.of N2.gt, hatk, 1, rfl, ?_⟩
        refine slA (lo := some ((1 : Nat) : Int)) (hi := none) hpk fun r3 H3 s3 e3 => ?_
        rw [cut_lo] at e3
        have e3 : H3 r3 = some (.tup [nV (oldG n x).2.1, nV (oldG n x).2.2]) := e3
        refine catA (K := K) (s3 _ _ e2) e3 (small 3) fun r4 H4 s4 e4 => ?_
        have s04 := ((s1.trans s2).trans s3).trans s4
        refine ⟨a, n, g, o, ps, x, .ref r4, .tup [t2, thN (oldG n x).2.1, thN (oldG n x).2.2], rfl, N.same s04, ok, h1, h2, .tup e4 (.cons (r2.mono (KeepT.same s04)) (.cons (.int _) (.cons (.int _) .nil))), fun r H5 s5 r5 => q (.ref r) _ H5 (s04.trans s5) r5 (act_kind ok h1 h2 t2)⟩
theorem ok_leadT {f c : Addr} (D : Dfn K mg "lead_changed" s_lead_changed f c) (T : Txt mg) (c_has_gate : Cal P w K mg base 3 "has_gate" spHasGate []) (c_is_below : Cal P w K mg base 2 "is_below" spBelow []) (c_with_gate : Cal P w K mg base 1 "with_gate" spWithT []) : Cal P w K mg base 4 "lead_changed" (spActT "lead") [] := by
  refine cal D (fun _ _ _ _ _ _ us hl => match us, hl with | [_, _], _ => rfl) sc_lead_changed (fun vs H Q E h => ?_) (fun A outer s H vs Q E hr h => ?_)
  · obtain ⟨a, n, g, o, ps, ca, xs, ts, rfl, _⟩ := h
    rfl
  · obtain ⟨a, n, g, o, ps, ca, xs, ts, rfl, N, ok, hc, ra, xl, q⟩ := h
    refine ⟨_, (pss_cons (ps_if (PW.pt (pw_or (pt_cmpR op_ne (pe_callB call_len_seq (by rfl) T.b_len (by decide +kernel) (pa_cons (pv 1) pa_nil)) pe_int (nomark _)) (pw_or (pt_not (pt_val (pe_c c_has_gate hr (by decide) (by rfl) (pa_cons (pv 0) (pa_cons (pe_ix ix_tup (pv 1) pe_int (fun _ _ => rfl)) pa_nil))))) (pw_or1 (pt_not (pt_val (pe_c c_is_below hr (by decide) (by rfl) (pa_cons (pe_ix ix_tup (pv 1) pe_int (fun _ _ => rfl)) (pa_cons pe_int pa_nil))))))))) (pss_one (ps_ret pe_non)) pss_nil)
      (pss_cons (ps_asg (pe_slice sl_tupA (pv 1) (po_some pe_int) po_none) (pg_tup rfl (pgs_cons (pg_name (i := 2) sc_lead_changed.nd rfl (by first | exact Or.inl rfl | exact Or.inr rfl)) (pgs_cons (pg_name (i := 3) sc_lead_changed.nd rfl (by first | exact Or.inl rfl | exact Or.inr rfl)) (pgs_cons (pg_name (i := 4) sc_lead_changed.nd rfl (by first | exact Or.inl rfl | exact Or.inr rfl)) pgs_nil)))))
      (pss_cons (ps_asg (pe_ix ix_tup (pe_ix ix_tup (pv 0) pe_int (fun _ _ => rfl)) (pe_op op_sub (pv 2) (pe_ix ix_tup (pv 0) pe_int (fun _ _ => rfl))) (fun _ _ => rfl)) (pg_tup rfl (pgs_cons (pg_name (i := 5) sc_lead_changed.nd rfl (by first | exact Or.inl rfl | exact Or.inr rfl)) (pgs_cons (pg_name (i := 6) sc_lead_changed.nd rfl (by first | exact Or.inl rfl | exact Or.inr rfl)) (pgs_cons (pg_name (i := 7) sc_lead_changed.nd rfl (by first | exact Or.inl rfl | exact Or.inr rfl)) pgs_nil)))))
      (pss_one (ps_ret (pe_c c_with_gate hr (by decide) (by rfl) (pa_cons (pv 0) (pa_cons (pv 2) (pa_cons (pe_ifExp (pt_cmpR op_eq (pv 3) pe_int (nomark _)) (pe_tup (pa_cons (pv 5) (pa_cons (pv 4) (pa_cons (pv 7) pa_nil)))) (pe_tup (pa_cons (pv 5) (pa_cons (pv 6) (pa_cons (pv 4) pa_nil))))) pa_nil))))))))), ?_⟩
    have rl := ra.length
    refine ⟨_, rfl, ca, _, rfl, .inr (SqT.of hc), rfl, _, rfl, ite2 (fun h => ?_) (fun h => ?_)⟩
    · refine q .non .non H (Same.refl _) .non (act_non fun z => ?_)
      obtain ⟨g', s', k', e, _⟩ := chg_lead z
      rw [e] at rl
      rw [decide_eq_true (by show V.int (((V.str "lead" :: xs).length : Nat) : Int) = V.int 4; rw [List.length_cons, rl]; rfl)] at h
      cases h
    · have hl : xs.length = 3 := by
        have := Classical.not_not.mp fun z => h (by rw [decide_eq_false z]; rfl)
        have := V.int.inj this
        rw [List.length_cons] at this
        omega
      obtain ⟨x1, t1, x2, t2, x3, t3, rfl, rfl, r1, r2, r3⟩ := reps3 ra hl
      refine ⟨_, rfl, _, rfl, ca, _, 1, _, rfl, rfl, SqT.of hc, at1, a, n, g, o, ps, x1, t1, rfl, N, r1, fun b hb => ⟨_, rfl, ite2 (fun h2 => ?_) (fun h2 => ?_)⟩⟩
      · refine q .non .non H (Same.refl _) .non (act_non fun z => ?_)
        obtain ⟨g', s', k', e, h3, h4, _⟩ := chg_lead z
        injection e with e _
        rw [hb.mpr ⟨g', e, h3, h4⟩] at h2
        cases h2
      · have hbt : b = true := by
          cases b with
          | true => rfl
          | false => exact absurd rfl h2
        obtain ⟨x, rfl, h1, h2⟩ := hb.mp hbt
        unfold thW at r1
        cases r1
        refine ⟨_, rfl, ca, _, 2, _, rfl, rfl, SqT.of hc, at2, x2, t2, 2, rfl, r2, _, rfl, ite2 (fun h3 => ?_) (fun h3 => ?_)⟩
        · refine q .non .non H (Same.refl _) .non (act_non fun z => ?_)
          obtain ⟨g', s', k', e, _, _, hs, _⟩ := chg_lead z
          injection e with _ e
          injection e with e _
          have h5 : Th.isB 2 (thW s') = true := isB_n (k := s') (b := 2) (by omega)
          rw [e, h5] at h3
          cases h3
        · have hbt2 : t2.isB 2 = true := by
            cases e : t2.isB 2 with
            | true => rfl
            | false => rw [e] at h3; exact absurd rfl h3
          obtain ⟨sd, rfl, hsd⟩ := isB_int (b := 2) hbt2
          unfold thW at r2
          cases r2
          refine ⟨_, rfl, 1, rfl, ?_⟩
          unfold tNoPart
          refine slA (lo := some ((1 : Nat) : Int)) (hi := none) hc fun r1 H1 s1 e1 => ?_
          rw [cut_lo] at e1
          have e1 : H1 r1 = some (.tup [nV x, nV sd, x3]) := e1
          have N1 := N.same s1
          refine ⟨r1, _, rfl, SqT.of e1, rfl, _, _, rfl, _, _, rfl, _, _, rfl, rfl, ?_⟩
          obtain ⟨pk, hatk, hpk⟩ := gateK N1 h1 h2
          refine ⟨_, rfl, a, _, 1, _, rfl, rfl, SqT.of N1.top, at1, _, rfl, _, rfl, a, _, 0, _, rfl, rfl, SqT.of N1.top, at0, _, _, rfl, rfl, g, _, _, _, rfl, rfl, SqT.of N1.gt, hatk, _, _, rfl, SqT.of hpk, rfl, _, _, rfl, _, _, rfl, _, _, rfl, rfl, ?_⟩
          have al := act_lead ok h1 h2 hsd t3
          refine ⟨_, rfl, _, rfl, _, rfl, rfl, _, rfl, ?_⟩
          refine ite2 (fun hs => ?_) (fun hs => ?_)
          · have hs' : sd = 0 := by
              have := V.int.inj (of_decide_eq_true hs)
              omega
            rw [if_pos hs'] at al
            refine ⟨_, rfl, _, rfl, _, rfl, small 3, fun t2 nt2 => ?_⟩
            have s2 := s1.trans (Same.new (o := .tup [nV (oldG n x).1, x3, nV (oldG n x).2.2]) nt2)
            exact ⟨a, n, g, o, ps, x, .ref t2, _, rfl, N.same s2, ok, h1, h2, .tup upd_same (.cons (.int _) (.cons (r3.mono (KeepT.same s2)) (.cons (.int _) .nil))), fun r H5 s5 r5 => q (.ref r) _ H5 (s2.trans s5) r5 al⟩
          · have hs' : sd ≠ 0 := fun z => hs (decide_eq_true (by rw [z]; rfl))
            rw [if_neg hs'] at al
            refine ⟨_, rfl, _, rfl, _, rfl, small 3, fun t2 nt2 => ?_⟩
            have s2 := s1.trans (Same.new (o := .tup [nV (oldG n x).1, nV (oldG n x).2.1, x3]) nt2)
            exact ⟨a, n, g, o, ps, x, .ref t2, _, rfl, N.same s2, ok, h1, h2, .tup upd_same (.cons (.int _) (.cons (.int _) (.cons (r3.mono (KeepT.same s2)) .nil))), fun r H5 s5 r5 => q (.ref r) _ H5 (s2.trans s5) r5 al⟩
theorem ok_addedT {f c : Addr} (D : Dfn K mg "gate_added" s_gate_added f c) (T : Txt mg) : Cal P w K mg base 4 "gate_added" (spActT "more") [] := by
  refine cal D (fun _ _ _ _ _ _ us hl => match us, hl with | [_, _], _ => rfl) sc_gate_added (fun vs H Q E h => ?_) (fun A outer s H vs Q E hr h => ?_)
  · obtain ⟨a, n, g, o, ps, ca, xs, ts, rfl, _⟩ := h
    rfl
  · obtain ⟨a, n, g, o, ps, ca, xs, ts, rfl, N, ok, hc, ra, xl, q⟩ := h
    have g16 := ok.g16
    refine ⟨_, (pss_cons (ps_asg (pv 0) (pg_tup rfl (pgs_cons (pg_name (i := 2) sc_gate_added.nd rfl (by first | exact Or.inl rfl | exact Or.inr rfl)) (pgs_cons (pg_name (i := 3) sc_gate_added.nd rfl (by first | exact Or.inl rfl | exact Or.inr rfl)) (pgs_cons (pg_name (i := 4) sc_gate_added.nd rfl (by first | exact Or.inl rfl | exact Or.inr rfl)) pgs_nil)))))
      (pss_one (ps_ret (pe_tup (pa_cons (pv 2) (pa_cons (pe_op op_catA (pv 3) (pe_tup (pa_cons (pe_slice sl_tupA (pv 1) (po_some pe_int) po_none) pa_nil))) (pa_cons (pv 4) pa_nil))))))), ?_⟩
    refine ⟨_, rfl, a, _, rfl, SqT.of N.top, rfl, _, _, rfl, _, _, rfl, _, _, rfl, rfl, ?_⟩
    refine ⟨_, rfl, _, rfl, _, rfl, 1, rfl, ?_⟩
    unfold tNoPart
    refine slA (lo := some ((1 : Nat) : Int)) (hi := none) hc fun r1 H1 s1 e1 => ?_
    rw [cut_lo] at e1
    have e1 : H1 r1 = some (.tup xs) := e1
    refine ⟨small 1, fun t2 nt2 => ?_⟩
    have s2 := s1.trans (Same.new (o := .tup [.ref r1]) nt2)
    have e2 : upd H1 t2 (.tup [.ref r1]) t2 = some (.tup [.ref r1]) := upd_same
    have e12 := (Same.new (o := .tup [V.ref r1]) nt2) _ _ e1
    generalize upd H1 t2 (.tup [.ref r1]) = H2 at s2 e2 e12 ⊢
    have N2 := N.same s2
    refine catA (K := K) N2.gt e2 (by rw [List.length_map, N2.gs.1]; show _ + 1 ≤ sizeLine; exact small _ (by omega)) fun r3 H3 s3 e3 => ?_
    refine ⟨_, rfl, small 3, fun r nr => ?_⟩
    have s4 := Same.new (o := .tup [nV n.many, .ref r3, .ref o]) nr
    have s34 := s3.trans s4
    have s04 := s2.trans s34
    have N4 := N.same s04
    exact q (.ref r) _ _ s04 (.tup upd_same (.cons (.int _) (.cons (.tup (s4 _ _ e3) ((rep_gs _ _ N4.gs).append (.cons (.tup (s34 _ _ e12) (ra.mono (KeepT.same s04))) .nil))) (.cons (.tup N4.ot (rep_ns _)) .nil)))) (act_more ok ts)
theorem ok_takenT {f c : Addr} (D : Dfn K mg "gate_taken" s_gate_taken f c) (T : Txt mg) : Cal P w K mg base 4 "gate_taken" (spActT "less") [] := by
  refine cal D (fun _ _ _ _ _ _ us hl => match us, hl with | [_, _], _ => rfl) sc_gate_taken (fun vs H Q E h => ?_) (fun A outer s H vs Q E hr h => ?_)
  · obtain ⟨a, n, g, o, ps, ca, xs, ts, rfl, _⟩ := h
    rfl
  · obtain ⟨a, n, g, o, ps, ca, xs, ts, rfl, N, ok, hc, ra, xl, q⟩ := h
    have g16 := ok.g16
    have rl := ra.length
    refine ⟨_, (pss_cons (ps_asg (pv 0) (pg_tup rfl (pgs_cons (pg_name (i := 2) sc_gate_taken.nd rfl (by first | exact Or.inl rfl | exact Or.inr rfl)) (pgs_cons (pg_name (i := 3) sc_gate_taken.nd rfl (by first | exact Or.inl rfl | exact Or.inr rfl)) (pgs_cons (pg_name (i := 4) sc_gate_taken.nd rfl (by first | exact Or.inl rfl | exact Or.inr rfl)) pgs_nil)))))
      (pss_cons (ps_if (PW.pt (pw_or (pt_cmpR op_ne (pe_callB call_len_seq (by rfl) T.b_len (by decide +kernel) (pa_cons (pv 1) pa_nil)) pe_int (nomark _)) (pw_or1 (pt_cmpR op_eq (pe_callB call_len_seq (by rfl) T.b_len (by decide +kernel) (pa_cons (pv 3) pa_nil)) pe_int (nomark _))))) (pss_one (ps_ret pe_non)) pss_nil)
      (pss_one (ps_ret (pe_tup (pa_cons (pv 2) (pa_cons (pe_slice sl_tupA (pv 3) po_none (po_some (pe_un un_neg pe_int))) (pa_cons (pv 4) pa_nil)))))))), ?_⟩
    refine ⟨_, rfl, a, _, rfl, SqT.of N.top, rfl, _, _, rfl, _, _, rfl, _, _, rfl, rfl, ?_⟩
    refine ⟨_, rfl, ca, _, rfl, .inr (SqT.of hc), rfl, _, rfl, ite2 (fun h => ?_) (fun h => ?_)⟩
    · refine q .non .non H (Same.refl _) .non (act_non fun z => ?_)
      obtain ⟨e, _⟩ := chg_less z
      rw [e] at rl
      rw [decide_eq_true (by show V.int (((V.str "less" :: xs).length : Nat) : Int) = V.int 1; rw [List.length_cons, rl]; rfl)] at h
      cases h
    · have hl : xs.length = 0 := by
        have := Classical.not_not.mp fun z => h (by rw [decide_eq_false z]; rfl)
        have := V.int.inj this
        rw [List.length_cons] at this
        omega
      have hts : ts = [] := List.length_eq_zero_iff.mp (by omega)
      subst hts
      refine ⟨_, rfl, g, _, rfl, .inr (SqT.of N.gt), rfl, _, rfl, ite2 (fun h2 => ?_) (fun h2 => ?_)⟩
      · refine q .non .non H (Same.refl _) .non (act_non fun z => ?_)
        obtain ⟨_, e, _⟩ := chg_less z
        have := V.int.inj (of_decide_eq_true h2)
        rw [List.length_map, N.gs.1] at this
        omega
      · have h1 : 0 < n.gates.length := by
          rcases Nat.eq_zero_or_pos n.gates.length with z | z
          · exact absurd (decide_eq_true (by rw [List.length_map, N.gs.1, z]; rfl)) h2
          · exact z
        refine ⟨_, rfl, _, rfl, ?_⟩
        unfold tNoPart
        refine ⟨_, rfl, _, rfl, ?_⟩
        refine slA (lo := none) (hi := some (-1)) N.gt fun r1 H1 s1 e1 => ?_
        rw [cut_neg _ (by rw [List.length_map, N.gs.1]; exact h1), List.length_map, N.gs.1] at e1
        refine ⟨_, rfl, small 3, fun r nr => ?_⟩
        have s4 := Same.new (o := .tup [nV n.many, .ref r1, .ref o]) nr
        have s14 := s1.trans s4
        have N4 := N.same s14
        exact q (.ref r) _ _ s14 (.tup upd_same (.cons (.int _) (.cons (.tup (s4 _ _ e1) ((rep_gs _ _ N4.gs).take _)) (.cons (.tup N4.ot (rep_ns _)) .nil)))) (act_less ok h1)
theorem ok_outscT {f c : Addr} (D : Dfn K mg "outs_changed" s_outs_changed f c) (T : Txt mg) : Cal P w K mg base 4 "outs_changed" (spActT "outs") [] := by
  refine cal D (fun _ _ _ _ _ _ us hl => match us, hl with | [_, _], _ => rfl) sc_outs_changed (fun vs H Q E h => ?_) (fun A outer s H vs Q E hr h => ?_)
  · obtain ⟨a, n, g, o, ps, ca, xs, ts, rfl, _⟩ := h
    rfl
  · obtain ⟨a, n, g, o, ps, ca, xs, ts, rfl, N, ok, hc, ra, xl, q⟩ := h
    have rl := ra.length
    refine ⟨_, (pss_cons (ps_if (pt_cmpR op_ne (pe_callB call_len_seq (by rfl) T.b_len (by decide +kernel) (pa_cons (pv 1) pa_nil)) pe_int (nomark _)) (pss_one (ps_ret pe_non)) pss_nil)
      (pss_cons (ps_asg (pv 0) (pg_tup rfl (pgs_cons (pg_name (i := 2) sc_outs_changed.nd rfl (by first | exact Or.inl rfl | exact Or.inr rfl)) (pgs_cons (pg_name (i := 3) sc_outs_changed.nd rfl (by first | exact Or.inl rfl | exact Or.inr rfl)) (pgs_cons (pg_name (i := 4) sc_outs_changed.nd rfl (by first | exact Or.inl rfl | exact Or.inr rfl)) pgs_nil)))))
      (pss_one (ps_ret (pe_tup (pa_cons (pv 2) (pa_cons (pv 3) (pa_cons (pe_ix ix_tup (pv 1) pe_int (fun _ _ => rfl)) pa_nil)))))))), ?_⟩
    refine ⟨_, rfl, ca, _, rfl, .inr (SqT.of hc), rfl, _, rfl, ite2 (fun h => ?_) (fun h => ?_)⟩
    · refine q .non .non H (Same.refl _) .non (act_non fun z => ?_)
      obtain ⟨os, e, _⟩ := chg_outs z
      rw [e] at rl
      rw [decide_eq_true (by show V.int (((V.str "outs" :: xs).length : Nat) : Int) = V.int 2; rw [List.length_cons, rl]; rfl)] at h
      cases h
    · have hl : xs.length = 1 := by
        have := Classical.not_not.mp fun z => h (by rw [decide_eq_false z]; rfl)
        have := V.int.inj this
        rw [List.length_cons] at this
        omega
      obtain ⟨x1, t1, rfl, rfl, r1⟩ := reps1 ra hl
      refine ⟨_, rfl, a, _, rfl, SqT.of N.top, rfl, _, _, rfl, _, _, rfl, _, _, rfl, rfl, ?_⟩
      refine ⟨_, rfl, _, rfl, _, rfl, ca, _, 1, _, rfl, rfl, SqT.of hc, at1, small 3, fun r nr => ?_⟩
      have s4 := Same.new (o := .tup [nV n.many, .ref g, x1]) nr
      have N4 := N.same s4
      exact q (.ref r) _ _ s4 (.tup upd_same (.cons (.int _) (.cons (.tup N4.gt (rep_gs _ _ N4.gs)) (.cons (r1.mono (KeepT.same s4)) .nil)))) (act_outs ok t1)
end
section
variable {P : Program} {w : World} {K : PySem.W.Frag} {mg : Str → Option Value} {base : Heap} {Ts : List Addr} {CNoChange : Addr}
theorem heldOf {k : Nat} {x : Str} {sp : Sp} {f : Addr} (c : Cal P w K mg base k x sp []) (h : mg x = some (.ref f)) : Held P w K mg base k f sp := by
  obtain ⟨f', fd, ps, ds, F, hm, hk, hb, hd⟩ := c.ex
  rw [hm] at h
  cases h
  cases hd
  exact ⟨fd, ps, F, hk, hb⟩
def actS (fk fl fm fs fo : Addr) : Addr → Option Sp := fun f =>
  if f = fk then some (spActT "kind") else if f = fl then some (spActT "lead") else if f = fm then some (spActT "more") else if f = fs then some (spActT "less") else if f = fo then some (spActT "outs") else none
def wordsC : List Str := ["kind", "lead", "more", "less", "outs"]
def wordsN : List Str := ["", "0", "way", "Kind", "leads"]
/-- what stands at the head of a thing is no text, or one of the known ones -/
def HeadOk (t : Th) : Prop := ∀ x ts, t = .tup (.str x :: ts) → x ∈ wordsC ∨ x ∈ wordsN
def kStr : Th → Bool
  | .str _ => true
  | _ => false
theorem kStr_ok : ∀ t : Th, kitB (tyN t) "str" = some (kStr t)
  | .non => by decide +kernel
  | .bl _ => by show kitB "bool" "str" = some false; decide +kernel
  | .int _ => by show kitB "int" "str" = some false; decide +kernel
  | .str _ => by show kitB "str" "str" = some true; decide +kernel
  | .oth true => by show kitB "list" "str" = some false; decide +kernel
  | .oth false => by show kitB "dict" "str" = some false; decide +kernel
  | .tup _ => by show kitB "tuple" "str" = some false; decide +kernel
def spHasWordT : Sp := fun vs H Q _ => ∃ (v : V) (t : Th), vs = [v] ∧ Rep H v t ∧ HeadOk t ∧ ∀ b : Bool, (b = true ↔ ∃ x ts, t = .tup (.str x :: ts) ∧ x ∈ wordsC) → Q (.bl b) H
theorem ok_haswordT {f c d : Addr} {es : Array DictEntry} {nn : Nat} (D : Dfn K mg "has_word" s_has_word f c) (T : Txt mg) (kD_CHANGES : KDict K w d es nn) (gD_CHANGES : ∃ u, mg "CHANGES" = some u ∧ RelV (.ref d) u) (hw : ∀ x ∈ wordsC, ∃ f, PySem.W.nsIn K d x = some (some (.ref f))) (hz : ∀ x ∈ wordsN, PySem.W.nsIn K d x = some none) : Cal P w K mg base 1 "has_word" spHasWordT [] := by
  refine cal D (fun _ _ _ _ _ _ us hl => match us, hl with | [_], _ => rfl) sc_has_word (fun vs H Q E h => ?_) (fun A outer s H vs Q E hr h => ?_)
  · obtain ⟨v, t, rfl, _⟩ := h
    rfl
  · obtain ⟨v, t, rfl, r, hk, q⟩ := h
    refine ⟨_, (pss_cons (ps_if (PW.pt (pw_or (pt_not (pt_val (pe_callB call_isi (by rfl) T.b_isinstance (by decide +kernel) (pa_cons (pv 0) (pa_cons (pe_bltn (v := .ty "tuple") (by rfl) T.b_tuple (by decide +kernel) rfl) pa_nil))))) (pw_or1 (pt_cmpR op_eq (pe_callB call_len_seq (by rfl) T.b_len (by decide +kernel) (pa_cons (pv 0) pa_nil)) pe_int (nomark _))))) (pss_one (ps_ret pe_bl)) pss_nil)
      (pss_one (ps_ret (pe_and (pe_callB call_isi (by rfl) T.b_isinstance (by decide +kernel) (pa_cons (pe_ix ix_tup (pv 0) pe_int (fun _ _ => rfl)) (pa_cons (pe_bltn (v := .ty "str") (by rfl) T.b_str (by decide +kernel) rfl) pa_nil))) (pe_one (pe_cmpR (op_in_kd kD_CHANGES) (pe_ix ix_tup (pv 0) pe_int (fun _ _ => rfl)) (pe_gc (by rfl) gD_CHANGES) (by rfl))))))), ?_⟩
    refine ⟨_, rfl, _, _, _, _, t.kTup, rfl, .ty "tuple", tyx r, kit_ty (kTup_ok t), _, rfl, ite2 (fun h => ?_) (fun h => ?_)⟩
    · refine q false ⟨fun z => (by cases z), fun ⟨x, ts, e, _⟩ => ?_⟩
      rw [e] at h
      cases h
    · cases r with
      | @tup a vs ts e ra =>
        refine ⟨_, rfl, a, _, rfl, .inr (SqT.of e), rfl, _, rfl, ite2 (fun h1 => ?_) (fun h1 => ?_)⟩
        · refine q false ⟨fun z => (by cases z), fun ⟨x, ts', e', _⟩ => ?_⟩
          have hl := ra.length
          have := V.int.inj (of_decide_eq_true h1)
          injection e' with e'
          rw [e'] at hl
          rw [hl, List.length_cons] at this
          omega
        · cases ra with
          | nil => exact absurd rfl h1
          | @cons v0 vs t0 ts r0 ra =>
            refine ⟨_, rfl, a, _, 0, _, rfl, rfl, SqT.of e, at0, _, _, _, _, kStr t0, rfl, .ty "str", tyx r0, kit_ty (kStr_ok t0), ?_⟩
            refine ⟨kStr t0, rfl, ite2 (fun h2 => ?_) (fun h2 => ?_)⟩
            · cases r0 with
              | str x =>
                rcases hk x ts rfl with hx | hx
                · obtain ⟨f, hf⟩ := hw x hx
                  exact ⟨_, rfl, a, _, 0, _, rfl, rfl, SqT.of e, at0, x, _, rfl, rfl, hf, q true ⟨fun _ => ⟨x, ts, rfl, hx⟩, fun _ => rfl⟩⟩
                · refine ⟨_, rfl, a, _, 0, _, rfl, rfl, SqT.of e, at0, x, _, rfl, rfl, hz x hx, q false ⟨fun z => (by cases z), fun ⟨y, us, e', hy⟩ => ?_⟩⟩
                  injection e' with e'
                  injection e' with e1 _
                  injection e1 with e1
                  rw [← e1] at hy
                  exact absurd hy ((by decide +kernel : ∀ x ∈ wordsN, x ∉ wordsC) x hx)
              | _ => cases h2
            · refine q false ⟨fun z => (by cases z), fun ⟨y, us, e', hy⟩ => ?_⟩
              injection e' with e'
              injection e' with e1 _
              rw [e1] at h2
              exact absurd rfl h2
      | _ => exact absurd rfl h
def spChangedT (Ts : List Addr) (CN : Addr) : Sp := fun vs H Q E => ∃ (a : Addr) (n : Net) (g o : Addr) (ps : List Addr) (v : V) (t : Th), vs = [.ref a, v] ∧ NetAt H a n g o ps ∧ n.Ok ∧ Rep H v t ∧ HeadOk t ∧ (∀ ts, t = .tup ts → ts.length ≤ 500) ∧ Tabs Ts H ∧ (∀ c : Chg, c.Ok n → c.th = t → ∀ r H', Aft Ts H H' → Rep H' r (thNet (doN n c)) → Q r H') ∧ (¬ IsChg n t → ∀ H', Aft Ts H H' → E (.ref CN) none H')
theorem ok_changedT {f c d fk fl fm fs fo : Addr} {es : Array DictEntry} {nn : Nat} (D : Dfn K mg "changed" s_changed f c) (T : Txt mg) (kD : KDict K w d es nn) (gD_CHANGES : ∃ u, mg "CHANGES" = some u ∧ RelV (.ref d) u) (hS_action : ∀ f sp, actS fk fl fm fs fo f = some sp → Held P w K mg base 4 f sp) (hw : ∀ x ∈ wordsC, ∃ f, PySem.W.nsIn K d x = some (some (.ref f)) ∧ actS fk fl fm fs fo f = some (spActT x)) (x_NoChange : ExcM K mg "NoChange" CNoChange)
    (c_has_word : Cal P w K mg base 1 "has_word" spHasWordT []) (c_is_net : Cal P w K mg base 6 "is_net" (spIsNet Ts) []) : CalX P w K mg base 7 "changed" (spChangedT Ts CNoChange) := by
  refine calX D (fun _ _ _ _ _ _ us hl => match us, hl with | [_, _], _ => rfl) sc_changed (fun vs H Q E h => ?_) (fun A outer s H vs Q E hr h tk => ?_)
  · obtain ⟨a, n, g, o, ps, v, t, rfl, _⟩ := h
    rfl
  · obtain ⟨a, n, g, o, ps, v, t, rfl, N, ok, r, hk, tl, tb, q1, q2⟩ := h
    refine ⟨_, (pss_cons (ps_if (PT.nox (pt_not (pt_val (pe_c c_has_word hr (by decide) (by rfl) (pa_cons (pv 1) pa_nil))))) (pss_one (ps_raise rfl tk (pmk_own PySem.F.excBase_ValueError x_NoChange.x x_NoChange.g x_NoChange.k x_NoChange.toExcT.raises rfl))) pss_nil)
      (pss_cons (psNox (ps_set (i := 2) sc_changed.nd rfl (by first | exact Or.inl rfl | exact Or.inr rfl) (pe_ix ix_kdict (pe_gc (by rfl) gD_CHANGES) (pe_ix ix_tup (pv 1) pe_int (fun _ _ => rfl)) (fun _ _ => rfl))))
      (pss_cons (psNox (ps_set (i := 3) sc_changed.nd rfl (by first | exact Or.inl rfl | exact Or.inr rfl) (pe_callA (i := 2) hS_action (hr.mono (by decide)) (by rfl) (by first | exact Or.inl rfl | exact Or.inr rfl) (pa_cons (pv 0) (pa_cons (pv 1) pa_nil)))))
      (pss_cons (ps_if (PT.nox (pt_not (pt_val (pe_c c_is_net hr (by decide) (by rfl) (pa_cons (pv 3) pa_nil))))) (pss_one (ps_raise rfl tk (pmk_own PySem.F.excBase_ValueError x_NoChange.x x_NoChange.g x_NoChange.k x_NoChange.toExcT.raises rfl))) pss_nil)
      (PSs.nox (pss_one (ps_ret (pv 3)))))))), ?_⟩
    refine ⟨_, rfl, v, t, rfl, r, hk, fun b hb => ⟨_, rfl, ite2 (fun h => ?_) (fun h => ?_)⟩⟩
    · refine q2 (fun z => ?_) H (Aft.refl tb)
      obtain ⟨x, ts, e, hx⟩ := chg_top z
      rw [hb.mpr ⟨x, ts, e, hx⟩] at h
      cases h
    · have hbt : b = true := by
        cases b with
        | true => rfl
        | false => exact absurd rfl h
      obtain ⟨x, ts, rfl, hx⟩ := hb.mp hbt
      obtain ⟨fa, h1, h2⟩ := hw x hx
      cases r with
      | @tup a' vs _ e ra =>
        cases ra with
        | @cons v0 xs t0 _ r0 ra =>
          cases r0
          have xl : xs.length ≤ 1000 := by
            have := tl _ rfl
            rw [List.length_cons, ← ra.length] at this
            omega
          refine ⟨_, rfl, a', _, 0, _, rfl, rfl, SqT.of e, at0, d, x, .ref fa, rfl, rfl, ⟨es, nn, .ref fa, kD.at_, kD.lit, h1, rfl⟩, ?_⟩
          refine ⟨fa, _, rfl, h2, _, rfl, _, rfl, a, n, g, o, ps, a', xs, ts, rfl, N, ok, e, ra, xl, fun v' t' H1 s1 r' act => ?_⟩
          have a1 := Aft.ofSame tb s1
          refine ⟨_, rfl, v', t', rfl, r', a1.tb, fun H2 a2 => ⟨_, rfl, ite2 (fun h3 => ?_) (fun h3 => ?_)⟩⟩
          · refine q2 (fun z => ?_) H2 (a1.trans a2)
            rw [(act.iff ok).mpr z] at h3
            cases h3
          · have ht : t'.net = true := by
              cases e' : t'.net with
              | true => rfl
              | false => rw [e'] at h3; exact absurd rfl h3
            obtain ⟨cc, cok, ec⟩ := act.1 ht
            have et := act.2 cc cok ec
            subst et
            exact ⟨_, rfl, q1 cc cok ec v' H2 (a1.trans a2) (r'.mono (KeepT.aft a1.tb a2))⟩
end
end K76
set_option Elab.async false
set_option linter.all false
/-! != of data within generator expressions. -/
namespace GX
open PySem PySem.Spec PyProof.Rows L2
theorem op_neDK {X : Cx} {K : PySem.W.Frag} (hu : X.A.units + 64 < cLine) (h : X.K = K := by rfl) : OpR X (compareOp .NotEq) (rNeD K) := by subst h; exact op_neD hu
end GX
set_option Elab.async false
set_option linter.all false
set_option maxRecDepth 100000
set_option maxHeartbeats 4000000
namespace K76
open PySem PySem.Spec PyProof.Rows L2 GX
open C8 (Cal pe_c pe_gc Met Mak)
-- @dict CHANGES
-- @no CHANGES 0 ""
-- @no CHANGES 1 "0"
-- @no CHANGES 2 "way"
-- @no CHANGES 3 "Kind"
-- @no CHANGES 4 "leads"
-- @dict QUESTIONS
-- @no QUESTIONS 0 "gate"
-- @no QUESTIONS 1 "kind"
-- @no QUESTIONS 2 "lead"
-- @no QUESTIONS 3 "less"
-- @no QUESTIONS 4 "outs"
-- @exc CoverError
-- @exc NoText
-- @exc NoDepth
-- @exc TooMany
-- @exc NoMatch
-- @exc NoChange made
-- @exc NoRow made
-- @sub NoChange NoChange true
-- @sub NoRow NoRow true
-- @sub NoRow ValueError true
-- @sub NoRow NoText false
-- @sub NoRow NoDepth false
-- @sub NoRow TooMany false
-- @sub NoRow NoMatch false
-- @sub NoRow NoChange false
-- @cls Keeper k:i,held:N,kept:t[t[t[i]]]
-- @cls Desk keeper:OKeeper
section
variable {P : Program} {w : World} {K : PySem.W.Frag} {mg : Str → Option Value} {base : Heap} {Ts : List Addr} {PL : Addr}
def csD (cs : List (List Nat)) : List PyData := cs.map fun c => .tuple (natsD c)
theorem csD_can : ∀ cs : List (List Nat), PyData.canLayAll0 (csD cs) = true ∧ PyData.depthAll (csD cs) ≤ 1
  | [] => ⟨rfl, Nat.zero_le _⟩
  | c :: r => by
    obtain ⟨h1, h2⟩ := csD_can r
    obtain ⟨c1, c2⟩ := canInts (c.map fun n : Nat => (n : Int))
    have c1 : PyData.canLayAll0 (natsD c) = true := c1
    have c2 : PyData.depthAll (natsD c) = 0 := c2
    show PyData.canLayAll0 (.tuple (natsD c) :: csD r) = true ∧ PyData.depthAll (.tuple (natsD c) :: csD r) ≤ 1
    refine ⟨?_, ?_⟩
    · simp only [PyData.canLayAll0, PyData.canLay0, c1, h1, Bool.and_true]
    · simp only [PyData.depthAll, PyData.depth, c2]
      omega
theorem csD_shaped (cs : List (List Nat)) : SeqAt.shaped (.tuple (csD cs)) = true := shaped_tup (csD_can cs).1 (csD_can cs).2 (by decide)
theorem csD_eqv : ∀ cs ds : List (List Nat), PyData.eqvAll (csD cs) (csD ds) = decide (cs = ds)
  | [], [] => rfl
  | [], d :: s => rfl
  | c :: r, [] => rfl
  | c :: r, d :: s => by
    show (PyData.eqv (.tuple (natsD c)) (.tuple (natsD d)) && PyData.eqvAll (csD r) (csD s)) = _
    rw [natsD_eqT, csD_eqv r s]
    by_cases h1 : c = d
    · by_cases h2 : r = s
      · rw [decide_eq_true h1, decide_eq_true h2, h1, h2]
        exact (decide_eq_true rfl).symm
      · rw [decide_eq_false h2, Bool.and_false]
        exact (decide_eq_false fun z => h2 (List.cons.inj z).2).symm
    · rw [decide_eq_false h1, Bool.false_and]
      exact (decide_eq_false fun z => h1 (List.cons.inj z).1).symm
theorem csD_eqT (cs ds : List (List Nat)) : PyData.eqv (.tuple (csD cs)) (.tuple (csD ds)) = decide (cs = ds) := csD_eqv cs ds
theorem dp_csAll {H : Hp} : ∀ {rs : List Addr} {cs : List (List Nat)}, TupsAt H rs cs → DpAll K H (rs.map V.ref) (csD cs)
  | [], cs, x => by
    have : cs = [] := List.length_eq_zero_iff.mp x.1.symm
    subst this
    exact .nil
  | p :: r, [], x => by cases x.1
  | p :: r, c :: cs, x => .cons (dp_natT (x.2 0 p c rfl rfl)) (dp_csAll (rs := r) (cs := cs) ⟨by simpa using x.1, fun i p' t' e1 e2 => x.2 (i + 1) p' t' (by simpa using e1) (by simpa using e2)⟩)
theorem dp_cs {H : Hp} {q : Addr} {rs : List Addr} {cs : List (List Nat)} (h : H q = some (.tup (rs.map V.ref))) (t : TupsAt H rs cs) : Dp K H (.ref q) (.tuple (csD cs)) := .tup (SqT.of h) (dp_csAll t)
/-- the gate is new, or its cuts are others -/
def Oth (n n' : Net) (k g : Nat) : Prop := n.many + n.gates.length ≤ g ∨ ∃ cs ds, CutsAre n k g cs ∧ CutsAre n' k g ds ∧ ds ≠ cs
theorem oth_iff {n n' : Net} {k g : Nat} {cs ds : List (List Nat)} (h : ¬ n.many + n.gates.length ≤ g) (c : CutsAre n k g cs) (d : CutsAre n' k g ds) : Oth n n' k g ↔ ds ≠ cs := by
  refine ⟨fun o => ?_, fun z => .inr ⟨cs, ds, c, d, z⟩⟩
  rcases o with o | ⟨cs', ds', c', d', z⟩
  · exact absurd o h
  · rw [c.uniq c', d.uniq d']
    exact z

noncomputable def othB (n n' : Net) (k g : Nat) : Bool := @decide (Oth n n' k g) (Classical.propDecidable _)
theorem othB_iff {n n' : Net} {k g : Nat} : othB n n' k g = true ↔ Oth n n' k g := by unfold othB; exact @decide_eq_true_iff _ (Classical.propDecidable _)
noncomputable def othL (n n' : Net) (k m : Nat) : List Nat := ((List.range m).map fun i => n'.many + i).filter (othB n n' k)
theorem othL_succ (n n' : Net) (k m : Nat) : othL n n' k (m + 1) = othL n n' k m ++ (if othB n n' k (n'.many + m) = true then [n'.many + m] else []) := by
  unfold othL
  rw [List.range_succ, List.map_append, List.filter_append, List.map_singleton, List.filter_cons, List.filter_nil]
theorem othL_len (n n' : Net) (k m : Nat) : (othL n n' k m).length ≤ m := by
  unfold othL
  refine Nat.le_trans (List.length_filter_le _ _) ?_
  rw [List.length_map, List.length_range]
  exact Nat.le_refl _
def spOther (Ts : List Addr) : Sp := fun vs H Q _ => ∃ (a p p' : Addr) (n n' : Net) (g o : Addr) (ps qs qs' : List Addr) (k : Nat), vs = [.ref a, .ref p, .ref p'] ∧ NetAt H a n' g o ps ∧ n'.Ok ∧ H p = some (.tup (qs.map V.ref)) ∧ PtsAt (CutsTold n k) H qs (List.range (n.many + n.gates.length)) ∧ H p' = some (.tup (qs'.map V.ref)) ∧ PtsAt (CutsTold n' k) H qs' (List.range (n'.many + n'.gates.length)) ∧ Tabs Ts H ∧
  ∀ r H', Aft Ts H H' → H' r = some (.tup ((othL n n' k n'.gates.length).map nV)) → Q (.ref r) H'
theorem ok_other {f c PO : Addr} (D : Dfn K mg "other_gates" s_other_gates f c) (T : Txt mg) (TB_other_gates : GxR.TabB base mg c PO) (hP : PO ∈ Ts) : Cal P w K mg base 4 "other_gates" (spOther Ts) [] := by
  refine cal D (fun _ _ _ _ _ _ us hl => match us, hl with | [_, _, _], _ => rfl) sc_other_gates (fun vs H Q E h => ?_) (fun A outer s H vs Q E hr h => ?_)
  · obtain ⟨a, p, p', n, n', g, o, ps, qs, qs', k, rfl, _⟩ := h
    rfl
  · obtain ⟨a, p, p', n, n', g, o, ps, qs, qs', k, rfl, N, ok, hp, PQ, hp', PQ', tb, q⟩ := h
    have m8 := ok.m8
    have g16 := ok.g16
    have ql : qs.length = n.many + n.gates.length := by rw [PQ.1, List.length_range]
    have ql' : qs'.length = n'.many + n'.gates.length := by rw [PQ'.1, List.length_range]
    refine ⟨_, (pss_one (ps_ret (pe_tupG (own := [("gate", 3)]) hr (by rfl) T.b_tuple TB_other_gates rfl (gxOk_by (N := ["net", "ahead", "behind", "gate"]) (sc := defScope s_other_gates) (own := [("gate", 3)]) (by decide +kernel)) sc_other_gates.nd (pi_range2 (by rfl) T.b_range (pa_cons (pe_ix ix_tup (pv 0) pe_int (fun _ _ => rfl)) (pa_cons (pe_callB call_len_seq (by rfl) T.b_len (by decide +kernel) (pa_cons (pv 2) pa_nil)) pa_nil))) (fun _ _ _ _ => (pg_name (i := 3) sc_other_gates.nd rfl (by first | exact Or.inl rfl | exact Or.inr rfl))) (fun _ _ _ _ => (pts_one (PW.pt (pw_or (pt_cmpR op_ge (pv 3) (pe_callB (len_seqK (K := K)) (by rfl) T.b_len (by decide +kernel) (pa_cons (pv 1) pa_nil)) (nomark _)) (pw_or1 (pt_cmpR (op_neDK (K := K) (GX.Room.gx4 hr).units) (pe_ix (ix_tupK (K := K)) (pv 2) (pv 3) (fun _ _ => rfl)) (pe_ix (ix_tupK (K := K)) (pv 1) (pv 3) (fun _ _ => rfl)) (nomark _))))))) (fun _ _ _ _ => (pv 3))))), ?_⟩
    refine ⟨_, rfl, a, _, 0, _, rfl, rfl, SqT.of N.top, at0, _, rfl, p', _, rfl, .inr (SqT.of hp'), _, _, rfl, ⟨by omega, by omega, by omega, by rw [List.length_map]; omega⟩, tb PO hP, fun H2 ht => ?_⟩
    have a2 : Aft Ts H H2 := ⟨Keep.tabbed hP ht, tb.tabbed ht⟩
    refine turns_it (walk_range (lo := ((n'.many : Nat) : Int)) (n := ((((qs'.map V.ref).length : Nat) : Int) - ((n'.many : Nat) : Int)).toNat)) (fun i ys H' => ys = (othL n n' k i).map nV ∧ Aft Ts H H') ⟨rfl, a2⟩ (fun i ys H' _ _ => trivial) ?_ ?_
    · rintro i x ys H3 H4 hi ⟨rfl, a3⟩ ⟨rfl, rfl⟩
      rw [List.length_map, ql', show (((n'.many + n'.gates.length : Nat) : Int) - ((n'.many : Nat) : Int)).toNat = n'.gates.length by omega] at hi
      have ei : V.int (((n'.many : Nat) : Int) + ((i : Nat) : Int)) = nV (n'.many + i) := congrArg V.int (by omega)
      show gName 3 (V.int (((n'.many : Nat) : Int) + ((i : Nat) : Int))) _ _ _
      rw [ei]
      have hp4 := a3.tup tb hp
      have hp4' := a3.tup tb hp'
      refine ⟨rfl, ?_⟩
      have step : ∀ bt : Bool, (bt = true ↔ Oth n n' k (n'.many + i)) → ∀ Rr : Bool → Prop, Rr (othB n n' k (n'.many + i)) → Rr bt := fun bt e Rr z => by
        have : bt = othB n n' k (n'.many + i) := Bool.eq_iff_iff.mpr (e.trans othB_iff.symm)
        rw [this]
        exact z
      refine ⟨_, rfl, _, rfl, p, _, rfl, .inr (SqT.of hp4), _, _, rfl, rfl, _, rfl, ite2 (fun hg => ?_) (fun hg => ?_)⟩
      · have hg : n.many + n.gates.length ≤ n'.many + i := by
          rw [List.length_map, ql] at hg
          exact Int.ofNat_le.mp (of_decide_eq_true hg)
        refine iteT ⟨_, rfl, (by show List.length _ < sizeLine; rw [List.length_map]; exact Nat.lt_of_le_of_lt (othL_len n n' k i) (Nat.lt_of_lt_of_le hi (small _ (by omega)))), fun _ => ⟨?_, a3⟩⟩
        rw [othL_succ, if_pos (othB_iff.mpr (.inl hg)), List.map_append]
        rfl
      · have hg : ¬ n.many + n.gates.length ≤ n'.many + i := by
          rw [List.length_map, ql] at hg
          exact fun z => hg (decide_eq_true (Int.ofNat_le.mpr z))
        have hb : n'.many + i < n'.many + n'.gates.length := by omega
        have ha : n'.many + i < n.many + n.gates.length := Nat.lt_of_not_le hg
        obtain ⟨qb, eb, rb, db, hqb, tb4, cb, _⟩ := (PQ'.mono fun q y h => CutsTold.mono h fun b xs e => a3.tup tb e).get (i := n'.many + i) (y := n'.many + i) (by rw [List.getElem?_range hb])
        obtain ⟨qa, ea, ra, da, hqa, ta4, ca, _⟩ := (PQ.mono fun q y h => CutsTold.mono h fun b xs e => a3.tup tb e).get (i := n'.many + i) (y := n'.many + i) (by rw [List.getElem?_range ha])
        refine ⟨_, rfl, _, rfl, p', _, _, _, rfl, rfl, SqT.of hp4', atI_nat eb, _, rfl, _, rfl, p, _, _, _, rfl, rfl, SqT.of hp4, atI_nat ea, .tuple (csD db), .tuple (csD da), dp_cs hqb tb4, dp_cs hqa ta4, csD_shaped _, csD_shaped _, _, rfl, ?_⟩
        refine step _ ?_ (fun b => if b = true then _ else _) ?_
        · rw [csD_eqT, oth_iff hg ca cb, Bool.not_eq_true', decide_eq_false_iff_not]
        · refine ite2 (fun ob => ?_) (fun ob => ?_)
          · refine ⟨_, rfl, (by show List.length _ < sizeLine; rw [List.length_map]; exact Nat.lt_of_le_of_lt (othL_len n n' k i) (Nat.lt_of_lt_of_le hi (small _ (by omega)))), fun _ => ⟨?_, a3⟩⟩
            rw [othL_succ, if_pos ob, List.map_append]
            rfl
          · refine ⟨?_, a3⟩
            rw [othL_succ, if_neg ob, List.append_nil]
    · rintro ys H3 ⟨rfl, a3⟩
      rw [List.length_map, ql', show (((n'.many + n'.gates.length : Nat) : Int) - ((n'.many : Nat) : Int)).toNat = n'.gates.length by omega]
      refine ⟨by rw [List.length_map]; exact small _ (by have := othL_len n n' k n'.gates.length; omega), fun r nr => ?_⟩
      exact q r _ (a3.trans (Aft.new a3.tb nr)) upd_same
end
section
variable {P : Program} {w : World} {K : PySem.W.Frag} {mg : Str → Option Value} {base : Heap} {Ts : List Addr} {PL CNoChange : Addr}
theorem net_rep {H : Hp} {v : V} {n : Net} (r : Rep H v (thNet n)) : ∃ (a g o : Addr) (ps : List Addr), v = .ref a ∧ NetAt H a n g o ps := by
  unfold thNet at r
  cases r with
  | @tup a vs _ e ra =>
    match ra with
    | .cons r1 (.cons r2 (.cons r3 .nil)) =>
      have e1 : ∀ {x : Nat} {v : V}, Rep H v (thN x) → v = nV x := fun r => by
        unfold thN at r
        cases r
        rfl
      have e3 : ∀ {os : List Nat} {vs : List V}, RepAll H vs (os.map thN) → vs = os.map nV := fun r => nats_rep r
      cases r2 with
      | @tup g gvs _ eg rg =>
        obtain ⟨ps, rfl, hp⟩ := rep_pts (R := fun H p (k : Nat × Nat × Nat) => H p = some (.tup (gV k))) (f := thG) (fun v k r => by
          unfold thG at r
          cases r with
          | @tup p kvs _ ep rp =>
            match rp with
            | .cons q1 (.cons q2 (.cons q3 .nil)) =>
              rw [e1 q1, e1 q2, e1 q3] at ep
              exact ⟨p, rfl, ep⟩) rg
        cases r3 with
        | @tup o ovs _ eo ro =>
          rw [e3 ro] at eo
          rw [e1 r1] at e
          exact ⟨a, g, o, ps, rfl, e, eg, ⟨hp.1, hp.2⟩, eo⟩
def spKDo (Ts : List Addr) (C CN : Addr) : Sp := fun vs H Q E => ∃ (kp a p : Addr) (n : Net) (k : Nat) (g o : Addr) (ps qs : List Addr) (v : V) (t : Th), vs = [.ref kp, v] ∧ KeepAt C H kp a p n k g o ps qs ∧ n.Ok ∧ 2 ≤ k ∧ k ≤ 1000 ∧ Rep H v t ∧ HeadOk t ∧ (∀ ts, t = .tup ts → ts.length ≤ 500) ∧ Tabs Ts H ∧
  (∀ ch : Chg, ch.Ok n → ch.th = t → ∀ r H' (a' p' g' o' : Addr) (ps' qs' : List Addr), H' r = some (.tup ((othL n (doN n ch) k (doN n ch).gates.length).map nV)) → KeepAt C H' kp a' p' (doN n ch) k g' o' ps' qs' → Tabs Ts H' → (∀ b u, b ≠ kp → b ∉ Ts → H b = some u → H' b = some u) → Q (.ref r) H') ∧ (¬ IsChg n t → ∀ H', Aft Ts H H' → E (.ref CN) none H')
theorem ok_kdo {C f c : Addr} (D : Mtd K C "do" "Keeper.do" s_Keeper_do f c) (T : Txt mg) (kc : KCls K C) (c_changed : CalX P w K mg base 7 "changed" (spChangedT Ts CNoChange)) (c_all_cuts : Cal P w K mg base 4 "all_cuts" (spAllCuts Ts) []) (c_other_gates : Cal P w K mg base 4 "other_gates" (spOther Ts) []) : MetX P w K mg base 8 C "do" (spKDo Ts C CNoChange) := by
  refine metX D (fun _ _ _ _ _ _ us hl => match us, hl with | [_, _], _ => rfl) sc_Keeper_do (fun vs H Q E h => ?_) (fun A outer s H vs Q E hr h tk => ?_)
  · obtain ⟨kp, a, p, n, k, g, o, ps, qs, v, t, rfl, _⟩ := h
    rfl
  · obtain ⟨kp, a, p, n, k, g, o, ps, qs, v, t, rfl, X, ok, hk2, hk, rv, hd, tl, tb, q1, q2⟩ := h
    obtain ⟨dx, e⟩ := X.ins
    refine ⟨_, (pss_cons (ps_set (i := 2) sc_Keeper_do.nd rfl (by first | exact Or.inl rfl | exact Or.inr rfl) (pe_cX c_changed tk hr (by decide) (by rfl) (pa_cons (pe_fld (pv 0) rfl) (pa_cons (pv 1) pa_nil))))
      (PSs.nox (pss_cons (ps_set (i := 3) sc_Keeper_do.nd rfl (by first | exact Or.inl rfl | exact Or.inr rfl) (pe_fld (pv 0) rfl))
      (pss_cons (ps_fld (pv 0) (pv 2) rfl)
      (pss_cons (ps_fld (pv 0) (pe_c c_all_cuts hr (by decide) (by rfl) (pa_cons (pv 2) (pa_cons (pe_fld (pv 0) rfl) pa_nil))) rfl)
      (pss_one (ps_ret (pe_c c_other_gates hr (by decide) (by rfl) (pa_cons (pv 2) (pa_cons (pv 3) (pa_cons (pe_fld (pv 0) rfl) pa_nil))))))))))), ?_⟩
    have kT : kp ∉ Ts := tb.nott e fun _ z => by cases z
    refine ⟨_, rfl, kp, C, dx, _, _, rfl, e, kc.cl, kc.h, rfl, _, rfl, a, n, g, o, ps, v, t, rfl, X.net, ok, rv, hd, tl, tb, fun ch cok ec r1v H1 a1 rr => ?_, fun hn H1 a1 => q2 hn H1 a1⟩
    obtain ⟨r1, g1, o1, ps1, rfl, N1⟩ := net_rep rr
    have ok' := doN_ok ok cok
    have e1 := a1.kp _ _ e kT
    refine ⟨_, rfl, kp, C, dx, _, _, rfl, e1, kc.cl, kc.p, rfl, ?_⟩
    refine ⟨_, rfl, _, rfl, kp, C, dx, _, rfl, e1, kc.cl, kc.h, (show 3 < 1000 by decide), ?_⟩
    have ef : putF "held" (V.ref r1) (putF "kept" (V.ref p) (putF "held" (V.ref a) (putF "k" (nV k) []))) = putF "kept" (V.ref p) (putF "held" (V.ref r1) (putF "k" (nV k) [])) := rfl
    rw [ef]
    have e2 : upd H1 kp (.ins C dx (putF "kept" (.ref p) (putF "held" (.ref r1) (putF "k" (nV k) [])))) kp = some (.ins C dx (putF "kept" (.ref p) (putF "held" (.ref r1) (putF "k" (nV k) [])))) := upd_same
    have t12 : ∀ b xs, H1 b = some (.tup xs) → upd H1 kp (.ins C dx (putF "kept" (.ref p) (putF "held" (.ref r1) (putF "k" (nV k) [])))) b = some (.tup xs) := fun b xs eb => by
      rw [upd_ne (fun z => by rw [z, e1] at eb; cases eb)]
      exact eb
    have o2 : ∀ b u, b ≠ kp → b ∉ Ts → H b = some u → upd H1 kp (.ins C dx (putF "kept" (.ref p) (putF "held" (.ref r1) (putF "k" (nV k) [])))) b = some u := fun b u nb nT eb => by
      rw [upd_ne nb]
      exact a1.kp _ _ eb nT
    have tb2 : Tabs Ts (upd H1 kp (.ins C dx (putF "kept" (.ref p) (putF "held" (.ref r1) (putF "k" (nV k) []))))) := a1.tb.upd kT
    have N2 := N1.mono t12
    have hp2 := t12 _ _ (a1.tup tb X.kept)
    have PQ2 := (X.cuts.mono fun q y h => h.mono fun b xs e => a1.tup tb e).mono fun q y h => CutsTold.mono h t12
    generalize upd H1 kp (.ins C dx (putF "kept" (.ref p) (putF "held" (.ref r1) (putF "k" (nV k) [])))) = H2 at e2 t12 o2 tb2 N2 hp2 PQ2 ⊢
    refine ⟨_, rfl, _, rfl, kp, C, dx, _, _, rfl, e2, kc.cl, kc.k, rfl, r1, doN n ch, g1, o1, ps1, k, rfl, N2, ok', hk2, hk, tb2, fun p3 H3 qs3 a3 hp3 PQ3 => ?_⟩
    have e3 := a3.kp _ _ e2 kT
    refine ⟨_, rfl, kp, C, dx, _, rfl, e3, kc.cl, kc.p, (show 3 < 1000 by decide), ?_⟩
    have ef : putF "kept" (V.ref p3) (putF "kept" (V.ref p) (putF "held" (V.ref r1) (putF "k" (nV k) []))) = putF "kept" (V.ref p3) (putF "held" (V.ref r1) (putF "k" (nV k) [])) := rfl
    rw [ef]
    have e4 : upd H3 kp (.ins C dx (putF "kept" (.ref p3) (putF "held" (.ref r1) (putF "k" (nV k) [])))) kp = some (.ins C dx (putF "kept" (.ref p3) (putF "held" (.ref r1) (putF "k" (nV k) [])))) := upd_same
    have t34 : ∀ b xs, H3 b = some (.tup xs) → upd H3 kp (.ins C dx (putF "kept" (.ref p3) (putF "held" (.ref r1) (putF "k" (nV k) [])))) b = some (.tup xs) := fun b xs eb => by
      rw [upd_ne (fun z => by rw [z, e3] at eb; cases eb)]
      exact eb
    have o4 : ∀ b u, b ≠ kp → b ∉ Ts → H b = some u → upd H3 kp (.ins C dx (putF "kept" (.ref p3) (putF "held" (.ref r1) (putF "k" (nV k) [])))) b = some u := fun b u nb nT eb => by
      rw [upd_ne nb]
      exact a3.kp _ _ (o2 b u nb nT eb) nT
    have tb4 : Tabs Ts (upd H3 kp (.ins C dx (putF "kept" (.ref p3) (putF "held" (.ref r1) (putF "k" (nV k) []))))) := a3.tb.upd kT
    have t24 : ∀ b xs, H2 b = some (.tup xs) → upd H3 kp (.ins C dx (putF "kept" (.ref p3) (putF "held" (.ref r1) (putF "k" (nV k) [])))) b = some (.tup xs) := fun b xs eb => t34 _ _ (a3.tup tb2 eb)
    have N4 := N2.mono t24
    have hp4 := t24 _ _ hp2
    have PQ4 := PQ2.mono fun q y h => CutsTold.mono h t24
    have hq4 := t34 _ _ hp3
    have QQ4 := PQ3.mono fun q y h => CutsTold.mono h t34
    generalize upd H3 kp (.ins C dx (putF "kept" (.ref p3) (putF "held" (.ref r1) (putF "k" (nV k) [])))) = H4 at e4 t34 o4 tb4 t24 N4 hp4 PQ4 hq4 QQ4 ⊢
    refine ⟨_, rfl, _, rfl, _, rfl, kp, C, dx, _, _, rfl, e4, kc.cl, kc.p, rfl, r1, p, p3, n, doN n ch, g1, o1, ps1, qs, qs3, k, rfl, N4, ok', hp4, PQ4, hq4, QQ4, tb4, fun r5 H5 a5 hr5 => ?_⟩
    refine q1 ch cok ec r5 H5 r1 p3 g1 o1 ps1 qs3 hr5 ⟨⟨dx, a5.kp _ _ e4 kT⟩, N4.aft tb4 a5, a5.tup tb4 hq4, QQ4.mono fun q y h => CutsTold.mono h fun b xs e => a5.tup tb4 e⟩ a5.tb fun b u nb nT eb => a5.kp _ _ (o4 b u nb nT eb) nT
end
end K76
set_option Elab.async false
set_option linter.all false
set_option maxRecDepth 100000
set_option maxHeartbeats 4000000
/-! rows of a desk: words and numbers below a hundred -/
namespace GX
open PySem PySem.Spec PyProof.Rows L2 TL
theorem dgs_100 : ∀ n, n < 100 → numW (dgs n) = some n ∧ 32 ∉ dgs n ∧ 10 ∉ dgs n ∧ (dgs n).length ≤ 2 ∧ 43 ∉ dgs n ∧ 58 ∉ dgs n ∧ dgs n ≠ [] := by decide +kernel
theorem lg100 : ∀ n : Nat, n < 100 → ((n : Int)).natAbs.log2 < 1920 := by decide +kernel
theorem int100 : ∀ n, n < 100 → intText? (mkS (dgs n)) = some (n : Int) := by decide +kernel
theorem str_dgs (n : Nat) : Str.ofString (toString (n : Int)) = mkS (dgs n) := mkS_eq rfl
theorem nums_100 {ns : List Nat} (h : ∀ n ∈ ns, n < 100) : numsW (ns.map dgs) = some ns := by
  unfold numsW
  rw [if_pos]
  · refine congrArg some ?_
    rw [List.map_map]
    refine (List.map_congr_left fun n hn => ?_).trans (List.map_id ns)
    show (numW (dgs n)).getD 0 = n
    rw [(dgs_100 n (h n hn)).1]
    rfl
  · rw [List.all_eq_true]
    intro w hw
    obtain ⟨n, hn, rfl⟩ := List.mem_map.mp hw
    rw [(dgs_100 n (h n hn)).1]
    rfl
theorem words_100 {h : List Nat} (h2 : 32 ∉ h) {ns : List Nat} (hn : ∀ n ∈ ns, n < 100) : wordsW (joinL [32] (h :: ns.map dgs)) = h :: ns.map dgs := words_join (by simp) fun w hw => by
  rcases List.mem_cons.mp hw with rfl | hw
  · exact h2
  · obtain ⟨n, hn', rfl⟩ := List.mem_map.mp hw
    exact (dgs_100 n (hn n hn')).2.1
/-- a row of a word and numbers -/
def rowS (h : List Nat) (ns : List Nat) : Str := mkS (joinL [32] (h :: ns.map dgs))
theorem row_words {h : List Nat} (h2 : 32 ∉ h) {ns : List Nat} (hn : ∀ n ∈ ns, n < 100) : Txt.split (rowS h ns) (Str.ofString " ") = mkS h :: ns.map fun n => mkS (dgs n) := by
  refine map_tl_inj ?_
  have e : (Txt.split (rowS h ns) (Str.ofString " ")).map tl = spl [32] 0 [] (tl (rowS h ns)) := split_spl (rowS h ns) _ (by decide +kernel) (kind_ok (by decide +kernel))
  rw [e]
  have e2 : spl [32] 0 [] (tl (rowS h ns)) = h :: ns.map dgs := words_100 h2 hn
  rw [e2, List.map_cons, List.map_map]
  rfl
theorem row_sl {h : List Nat} (hh : h.length ≤ 10) {ns : List Nat} (hn : ∀ n ∈ ns, n < 100) (hl : ns.length ≤ 100) : (rowS h ns).length ≤ 2000 := by
  show (mkS _).length ≤ 2000
  rw [len_mkS]
  have := len_joinL (S := [32]) (b := 10) (ws := h :: ns.map dgs) fun w hw => by
    rcases List.mem_cons.mp hw with rfl | hw
    · exact hh
    · obtain ⟨n, hn', rfl⟩ := List.mem_map.mp hw
      exact Nat.le_trans (dgs_100 n (hn n hn')).2.2.2.1 (by decide)
  rw [List.length_cons, List.length_map] at this
  have h2 : (ns.length + 1) * (10 + [32].length) ≤ 101 * 11 := Nat.mul_le_mul (by omega) (by decide)
  omega
/-- a change as a row writes it -/
def chgTh (h : Str) : Option (List Nat) → Th
  | none => .non
  | some ns => if h = "gate" then .tup (.str "more" :: ns.map thN) else if h = "outs" then .tup [.str "outs", .tup (ns.map thN)] else if h = "kind" ∨ h = "lead" ∨ h = "less" then .tup (.str h :: ns.map thN) else .non
/-- what is told of a change -/
def okS (gs : List Nat) : Str := rowS (tl (Str.ofString "ok")) gs
end GX
namespace GX
open PySem PySem.Spec PyProof.Rows L2 TL
abbrev nS (n : Nat) : Str := Str.ofString (toString ((n : Nat) : Int))
theorem nS_len {n : Nat} (h : n < 100) : (nS n).length ≤ 2 := by
  rw [len_tl]
  exact (dgs_100 n h).2.2.2.1
theorem text1 {h h' : Str} (e : tl h' = tl h ++ [32]) (a : Nat) : h' ++ nS a = rowS (tl h) [a] := by
  refine ext_tl ?_
  rw [tl_append, e, List.append_assoc]
  rfl
theorem text2 {h h' : Str} (e : tl h' = tl h ++ [32]) (a b : Nat) : h' ++ nS a ++ Str.ofString " " ++ nS b = rowS (tl h) [a, b] := by
  refine ext_tl ?_
  rw [tl_append, tl_append, tl_append, e, show tl (Str.ofString " ") = [32] by decide +kernel, List.append_assoc, List.append_assoc, List.append_assoc]
  rfl
theorem text3 {h h' : Str} (e : tl h' = tl h ++ [32]) (a b c : Nat) : h' ++ nS a ++ Str.ofString " " ++ nS b ++ Str.ofString " " ++ nS c = rowS (tl h) [a, b, c] := by
  refine ext_tl ?_
  rw [tl_append, tl_append, tl_append, tl_append, tl_append, e, show tl (Str.ofString " ") = [32] by decide +kernel, List.append_assoc, List.append_assoc, List.append_assoc, List.append_assoc, List.append_assoc]
  rfl
end GX
namespace GX
open PySem PySem.Spec PyProof.Rows L2 TL
theorem textL {h h' : Str} (e : tl h' = tl h ++ [32]) {os : List Nat} (ne : os ≠ []) : h' ++ Txt.join (Str.ofString " ") (os.map nS) = rowS (tl h) os := by
  refine ext_tl ?_
  rw [tl_append, e, join_eq, tl_join, show tl (Str.ofString " ") = [32] by decide +kernel, List.map_map]
  cases os with
  | nil => exact absurd rfl ne
  | cons a r =>
    rw [List.append_assoc]
    rfl
theorem nS_fit {os : List Nat} (h : ∀ x ∈ os, x < 100) {b : Nat} (hl : os.length ≤ b) (hb : b ≤ 1000) : ((os.map nS).map (·.length)).sum + (os.map nS).length * (Str.ofString " ").length ≤ 16777216 ∧ (Txt.join (Str.ofString " ") (os.map nS)).length ≤ 3000 := by
  have hx : ∀ y ∈ os.map nS, y.length ≤ 2 := fun y hy => by
    obtain ⟨x, hx, rfl⟩ := List.mem_map.mp hy
    exact nS_len (h x hx)
  refine ⟨join_fits (b := 2) (c := 1000) (d := (Str.ofString " ").length) hx (by rw [List.length_map]; omega) (by decide +kernel), ?_⟩
  rw [len_tl, join_eq, tl_join, show tl (Str.ofString " ") = [32] by decide +kernel]
  have := len_joinL (S := [32]) (b := 2) (ws := (os.map nS).map tl) fun w hw => by
    obtain ⟨y, hy, rfl⟩ := List.mem_map.mp hw
    rw [← len_tl]
    exact hx y hy
  rw [List.length_map, List.length_map] at this
  exact Nat.le_trans this (Nat.le_trans (Nat.mul_le_mul_right _ (Nat.le_trans hl hb)) (by decide))
end GX
set_option Elab.async false
set_option linter.all false
set_option maxRecDepth 100000
set_option maxHeartbeats 4000000
namespace K76
open PySem PySem.Spec PyProof.Rows L2 GX
open C8 (Cal pe_c pe_gc Met Mak)
-- @dict CHANGES
-- @no CHANGES 0 ""
-- @no CHANGES 1 "0"
-- @no CHANGES 2 "way"
-- @no CHANGES 3 "Kind"
-- @no CHANGES 4 "leads"
-- @dict QUESTIONS
-- @no QUESTIONS 0 "gate"
-- @no QUESTIONS 1 "kind"
-- @no QUESTIONS 2 "lead"
-- @no QUESTIONS 3 "less"
-- @no QUESTIONS 4 "outs"
-- @exc CoverError
-- @exc NoText
-- @exc NoDepth
-- @exc TooMany
-- @exc NoMatch
-- @exc NoChange made
-- @exc NoRow made
-- @sub NoChange NoChange true
-- @sub NoRow NoRow true
-- @sub NoRow ValueError true
-- @sub NoRow NoText false
-- @sub NoRow NoDepth false
-- @sub NoRow TooMany false
-- @sub NoRow NoMatch false
-- @sub NoRow NoChange false
-- @cls Keeper k:i,held:N,kept:t[t[t[i]]]
-- @cls Desk keeper:OKeeper
section
variable {P : Program} {w : World} {K : PySem.W.Frag} {mg : Str → Option Value} {base : Heap} {Ts : List Addr}
open TL
def spNumIn (Ts : List Addr) : Sp := fun vs H Q _ => ∃ x : Str, vs = [.str x] ∧ x.length ≤ sizeLine ∧ Tabs Ts H ∧ ∀ H', Aft Ts H H' → Q (oV (numW (tl x))) H'
theorem ok_number_in {f c PN : Addr} (D : Dfn K mg "number_in" s_number_in f c) (T : Txt mg) (TB_number_in : GxR.TabB base mg c PN) (hP : PN ∈ Ts) : Cal P w K mg base 3 "number_in" (spNumIn Ts) [] := by
  refine cal D (fun _ _ _ _ _ _ us hl => match us, hl with | [_], _ => rfl) sc_number_in (fun vs H Q E h => ?_) (fun A outer s H vs Q E hr h => ?_)
  · obtain ⟨x, rfl, _⟩ := h
    rfl
  · obtain ⟨x, rfl, hx, tb, q⟩ := h
    refine ⟨_, (pss_cons (ps_if (PW.pt (pw_or (pt_cmpR op_eq (pv 0) pe_str (nomark _)) (pw_or1 (pt_val (pe_anyG (own := [("sign", 1)]) hr (by rfl) T.b_any TB_number_in rfl (gxOk_by (N := ["word", "sign", "number"]) (sc := defScope s_number_in) (own := [("sign", 1)]) (by decide +kernel)) sc_number_in.nd (pi_str (pv 0)) (fun _ _ _ _ => (pg_name (i := 1) sc_number_in.nd rfl (by first | exact Or.inl rfl | exact Or.inr rfl))) (fun _ _ _ _ => pts_nil) (fun _ _ _ _ => (pe_cmpR op_notIn_sign (pv 1) (pe_gc (by rfl) T.g_FIGURES) (by rfl)))))))) (pss_one (ps_ret pe_non)) pss_nil)
      (pss_cons (ps_if (PW.pt (pw_and (pt_cmpR op_eq (pe_ix ix_str (pv 0) pe_int (fun _ _ => rfl)) pe_str (nomark _)) (pw_and1 (pt_cmpR op_ne (pv 0) pe_str (nomark _))))) (pss_one (ps_ret pe_non)) pss_nil)
      (pss_cons (ps_set (i := 2) sc_number_in.nd rfl (by first | exact Or.inl rfl | exact Or.inr rfl) pe_int)
      (pss_cons (ps_for PassesOwn.never rfl (pi_str (pv 0)) (pg_name (i := 1) sc_number_in.nd rfl (by first | exact Or.inl rfl | exact Or.inr rfl))
        (pss_one (ps_set (i := 2) sc_number_in.nd rfl (by first | exact Or.inl rfl | exact Or.inr rfl) (pe_op op_add (pe_op op_mul pe_int (pv 2)) (pe_m1 PySem.F.slot_str_index PySem.F.type_str_index mt_sindex (pe_gc (by rfl) T.g_FIGURES) (pv 1))))))
      (pss_one (ps_ret (pv 2))))))), ?_⟩
    clear hr
    have qn : ∀ H', Aft Ts H H' → numW (tl x) = none → Q .non H' := fun H' a e => by
      have := q H' a
      rw [e] at this
      exact this
    refine ⟨_, rfl, rfl, _, rfl, ite2 (fun g => ?_) (fun g => ?_)⟩
    · have e := V.str.inj (of_decide_eq_true g)
      exact qn H (Aft.refl tb) (by rw [e]; rfl)
    have hne : tl x ≠ [] := fun z => g (decide_eq_true (congrArg V.str (ext_tl (z.trans (by decide +kernel)))))
    refine ⟨_, rfl, x, rfl, tb PN hP, fun H2 ht => ?_⟩
    have a2 : Aft Ts H H2 := ⟨Keep.tabbed hP ht, tb.tabbed ht⟩
    refine turns_it (walk_str (z := x)) (fun i ys H' => (∀ c ∈ (tl x).take i, dgC c = true) ∧ Aft Ts H H') ⟨(fun c hc => by cases hc), a2⟩ (fun _ _ _ _ _ => trivial) ?_ ?_
    · rintro i y ys H3 H4 hi ⟨al, a3⟩ ⟨rfl, ch, hc, rfl⟩
      have hc : (tl x)[i]? = some ch := by rw [← hc, Array.getElem?_toList]
      refine ⟨rfl, ?_⟩
      unfold tYes
      refine iteT ?_
      refine ⟨_, rfl, ch, _, rfl, rfl, ?_⟩
      show (conAny _).Kx _ (V.bl !decide (ch ∈ tl ("0123456789" : Str))) _ ∧ _
      rw [figs ch]
      refine ⟨⟨_, rfl, fun hf => ?_⟩, fun hd => ⟨?_, a3⟩⟩
      · refine ⟨_, rfl, iteT ?_⟩
        refine qn _ a3 ?_
        unfold numW
        rw [if_neg hne, if_neg fun z => ?_]
        have := List.all_eq_true.mp z ch (List.mem_of_getElem? hc)
        rw [this] at hf
        cases hf
      · intro c' hc'
        rw [List.take_add_one, hc] at hc'
        rcases List.mem_append.mp hc' with h | h
        · exact al c' h
        · have : c' = ch := by simpa using h
          rw [this]
          have := V.bl.inj hd
          cases e : dgC ch with
          | true => rfl
          | false => rw [e] at this; cases this
    rintro ys H3 ⟨al, a3⟩
    have hall : (tl x).all dgC = true := List.all_eq_true.mpr fun c hc => al c (by rw [List.take_of_length_le]; exact hc; show (tl x).length ≤ x.cps.size; exact Nat.le_of_eq (by simp))
    refine ⟨_, rfl, iteF ?_⟩
    obtain ⟨c0, r, ex⟩ := List.exists_cons_of_ne_nil hne
    have h0 : atI x.cps.toList 0 = some c0 := by show atI (tl x) ((0 : Nat) : Int) = _; rw [ex]; exact atI_nat rfl
    have hd : decide (V.str ⟨#[c0]⟩ = V.str "0") = decide (c0 = 48) := by
      by_cases h : c0 = 48
      · rw [h, decide_eq_true rfl]
        exact decide_eq_true (by congr 1)
      · rw [decide_eq_false h]
        exact decide_eq_false fun z => h (by have := congrArg tl (V.str.inj z); have e2 : tl ("0" : Str) = [48] := by decide +kernel
                                             rw [e2] at this; exact (List.cons.inj this).1)
    have hx0 : decide (V.str x = V.str "0") = decide (tl x = [48]) := by
      have e2 : tl ("0" : Str) = [48] := by decide +kernel
      by_cases h : tl x = [48]
      · rw [decide_eq_true h]
        exact decide_eq_true (congrArg V.str (ext_tl (h.trans e2.symm)))
      · rw [decide_eq_false h]
        exact decide_eq_false fun z => h (by rw [V.str.inj z]; exact e2)
    have hn : ¬ (c0 = 48 ∧ tl x ≠ [48]) → Q (nV (valW (tl x))) H3 := fun hz => by
      have := q _ a3
      unfold numW at this
      rw [if_neg hne, if_pos hall, if_neg] at this
      · exact this
      · intro z
        refine hz ⟨?_, z.2⟩
        have := z.1
        rw [ex] at this
        exact Option.some.inj this
    have end_ : ¬ (c0 = 48 ∧ tl x ≠ [48]) → ∀ σ, σ = L2.start ["word", "sign", "number"] [V.str x] → (tSeq (tAsg (tC (V.int 0)) (gName 2)) (tSeq (tFor (iStr (tVar 0)) (gName 1) (tAsg (tOp (rI0 fun i j => V.int (i + j)) (tOp (rI CMul fun i j => V.int (i * j)) (tC (V.int 10)) (tVar 2)) (tM1 (fun x xs H Q => ∃ a b i rest, x = V.str a ∧ xs = [V.str b] ∧ Builtin.Str.occurrences a b 0 a.length 1 = i :: rest ∧ Q (V.int ↑i) H) (tC (V.str "0123456789")) (tVar 1))) (gName 2))) (tRet (tVar 2)))) { nx := fun x H' => Q V.non H', rt := Q } σ H3 := by
      rintro hz σ rfl
      refine ⟨_, rfl, x, rfl, ?_⟩
      refine for_it (walk_str (z := x)) (fun i σ H' => ∃ x1, σ = [some (.str x), x1, some (nV (valW ((tl x).take i)))] ∧ H' = H3) ⟨_, rfl, rfl⟩ (fun _ _ _ _ _ => trivial) ?_ ?_
      · rintro i y σ H4 H5 hi ⟨x1, rfl, rfl⟩ ⟨rfl, ch, hc, rfl⟩
        have hc : (tl x)[i]? = some ch := by rw [← hc, Array.getElem?_toList]
        have hdc := List.all_eq_true.mp hall ch (List.mem_of_getElem? hc)
        have hd' := Bool.and_eq_true_iff.mp hdc
        have b1 := of_decide_eq_true hd'.1
        have b2 := of_decide_eq_true hd'.2
        refine ⟨_, rfl, _, _, rfl, rfl, .inl (by decide), ⟨_, rfl⟩, _, rfl, _, _, ch - 48, [], rfl, rfl, fig_at ch (by omega) b1, _, _, rfl, rfl, ?_⟩
        have ev : V.int (10 * ((valW ((tl x).take i) : Nat) : Int) + ((ch - 48 : Nat) : Int)) = nV (valW ((tl x).take (i + 1))) := by
          rw [List.take_add_one, hc]
          unfold valW
          rw [Option.toList_some, List.foldl_append]
          show _ = V.int (((10 * List.foldl (fun n c => 10 * n + (c - 48)) 0 ((tl x).take i) + (ch - 48) : Nat)) : Int)
          rw [Int.natCast_add, Int.natCast_mul]
          rfl
        exact ⟨_, by rw [← ev]; rfl, rfl⟩
      · rintro σ H4 ⟨x1, rfl, rfl⟩
        have e : (tl x).take x.cps.size = tl x := List.take_of_length_le (by show (tl x).length ≤ x.cps.size; exact Nat.le_of_eq (by simp))
        refine ⟨_, rfl, ?_⟩
        rw [e]
        exact hn hz
    refine ⟨_, rfl, _, _, c0, rfl, rfl, hx, h0, rfl, _, rfl, ite2 (fun g1 => ?_) (fun g1 => ?_)⟩
    · rw [hd] at g1
      refine ⟨_, rfl, rfl, _, rfl, ?_⟩
      rw [hx0]
      refine ite2 (fun g2 => ?_) (fun g2 => ?_)
      · refine qn _ a3 ?_
        unfold numW
        have g2 : tl x ≠ [48] := fun z => by rw [decide_eq_true z] at g2; cases g2
        rw [if_neg hne, if_pos hall, if_pos ⟨by rw [ex]; exact congrArg some (of_decide_eq_true g1), g2⟩]
      · have g2 : tl x = [48] := Classical.not_not.mp fun z => g2 (by rw [decide_eq_false z]; rfl)
        exact end_ (fun z => z.2 g2) _ rfl
    · rw [hd] at g1
      refine iteF ?_
      exact end_ (fun z => g1 (decide_eq_true z.1)) _ rfl
def spNumsIn (Ts : List Addr) : Sp := fun vs H Q _ => ∃ (p : Addr) (ws : List Str), vs = [.ref p] ∧ H p = some (.lst (ws.map V.str)) ∧ ws.length < sizeLine ∧ (∀ x ∈ ws, x.length ≤ sizeLine) ∧ Tabs Ts H ∧ ∀ v H', Aft Ts H H' → TupO H' v (numsW (ws.map tl)) → Q v H'
theorem ok_numbers_in {f c : Addr} (D : Dfn K mg "numbers_in" s_numbers_in f c) (T : Txt mg) (c_number_in : Cal P w K mg base 3 "number_in" (spNumIn Ts) []) : Cal P w K mg base 4 "numbers_in" (spNumsIn Ts) [] := by
  refine cal D (fun _ _ _ _ _ _ us hl => match us, hl with | [_], _ => rfl) sc_numbers_in (fun vs H Q E h => ?_) (fun A outer s H vs Q E hr h => ?_)
  · obtain ⟨p, ws, rfl, _⟩ := h
    rfl
  · obtain ⟨p, ws, rfl, hp, hl, hw, tb, q⟩ := h
    refine ⟨_, (pss_cons (ps_setLc (i := 1) (own := [("word", 2)]) (g := gName 2) (tt := tYes) rfl sc_numbers_in.nd rfl rfl (sw_true rfl rfl rfl (by decide +kernel)) (pi_list (pv 0)) (blkOk_by (own := [("word", 2)]) (N := ["words", "numbers", "word"]) (sc := defScope s_numbers_in) (by decide +kernel)) (fun _ _ _ _ _ => (pg_name (i := 2) sc_numbers_in.nd rfl (by first | exact Or.inl rfl | exact Or.inr rfl))) (fun _ _ _ _ _ => pts_nil) (fun _ _ _ _ _ => (pe_c c_number_in hr (by decide) (by rfl) (pa_cons (pv 2) pa_nil))))
      (pss_cons (ps_if (pt_cmpR op_in_seq pe_non (pv 1) (by rfl)) (pss_one (ps_ret pe_non)) pss_nil)
      (pss_one (ps_ret (pe_callTy call_tuple_of (by rfl) T.b_tuple (by decide +kernel) (pa_cons (pv 1) pa_nil)))))), ?_⟩
    clear hr
    refine ⟨_, rfl, p, rfl, ⟨_, SqL.of hp⟩, fun L nL => ?_⟩
    have nT : L ∉ Ts := tb.none nL
    refine lc_list (K := K) (a := p) (xs := ws.map V.str) (fun i H' => Aft Ts H H' ∧ H' L = some (.lst (((ws.take i).map fun x => numW (tl x)).map oV))) ⟨Aft.putW (Aft.refl tb) nL nT, upd_same⟩ (fun i H' _ h => SqL.of (h.1.lst tb hp)) ?_ ?_
    · rintro i y H3 hy ⟨a3, h3⟩
      rw [List.getElem?_map] at hy
      obtain ⟨x, hx, rfl⟩ := Option.map_eq_some_iff.mp hy
      have hi := (List.getElem?_eq_some_iff.mp hx).1
      refine ⟨rfl, ?_⟩
      unfold tYes
      refine iteT ?_
      refine ⟨_, rfl, x, rfl, hw x (List.mem_of_getElem? hx), a3.tb, fun H4 a4 => ⟨_, a4.lst a3.tb h3, by rw [List.length_map, List.length_map, List.length_take]; omega, Aft.putW (a3.trans a4) nL nT, ?_⟩⟩
      rw [upd_same, List.take_add_one, hx, List.map_append, List.map_append]
      rfl
    rintro H3 ⟨a3, h3⟩
    rw [List.length_map, List.take_length] at h3
    refine ⟨_, rfl, L, _, rfl, .inl (SqL.of h3), rfl, ?_, _, rfl, ?_⟩
    · rw [List.all_eq_true]
      intro v hv
      obtain ⟨o, _, rfl⟩ := List.mem_map.mp hv
      cases o <;> rfl
    show if (inV .non _) = true then _ else _
    rw [inV_oV]
    have hall : ((ws.map tl).all fun w => (numW w).isSome) = !((ws.map fun x => numW (tl x)).any Option.isNone) := by
      rw [List.all_map, List.any_map, List.all_eq_not_any_not]
      congr 2
      funext x
      show (!(numW (tl x)).isSome) = (numW (tl x)).isNone
      cases numW (tl x) <;> rfl
    refine ite2 (fun g => ?_) (fun g => ?_)
    · refine q _ _ a3 ?_
      unfold numsW
      rw [hall, g, if_neg (by decide)]
      rfl
    · refine ⟨_, rfl, L, _, rfl, .inl ⟨SqL.of h3, fun r nr => ?_⟩⟩
      refine q _ _ (a3.trans (Aft.new a3.tb nr)) ?_
      unfold numsW
      rw [hall, Bool.eq_false_iff.mpr g, if_pos (by decide)]
      refine ⟨r, rfl, ?_⟩
      rw [upd_same]
      have hs : ∀ x ∈ ws, (numW (tl x)).isSome = true := fun x hx => by
        have h1 : ((ws.map tl).all fun w => (numW w).isSome) = true := by rw [hall, Bool.eq_false_iff.mpr g]; rfl
        exact List.all_eq_true.mp h1 (tl x) (List.mem_map.mpr ⟨x, hx, rfl⟩)
      rw [List.map_map, List.map_map, List.map_map]
      refine congrArg (fun z => some (HO.tup z)) (List.map_congr_left fun x hx => ?_)
      show oV (numW (tl x)) = nV ((numW (tl x)).getD 0)
      cases e : numW (tl x) with
      | none => have := hs x hx; rw [e] at this; cases this
      | some v => rfl
end
end K76
set_option Elab.async false
set_option linter.all false
set_option maxRecDepth 100000
set_option maxHeartbeats 4000000
namespace K76
open PySem PySem.Spec PyProof.Rows L2 GX
open C8 (Cal pe_c pe_gc Met Mak)
-- @dict CHANGES
-- @no CHANGES 0 ""
-- @no CHANGES 1 "0"
-- @no CHANGES 2 "way"
-- @no CHANGES 3 "Kind"
-- @no CHANGES 4 "leads"
-- @dict QUESTIONS
-- @no QUESTIONS 0 "gate"
-- @no QUESTIONS 1 "kind"
-- @no QUESTIONS 2 "lead"
-- @no QUESTIONS 3 "less"
-- @no QUESTIONS 4 "outs"
-- @exc CoverError
-- @exc NoText
-- @exc NoDepth
-- @exc TooMany
-- @exc NoMatch
-- @exc NoChange made
-- @exc NoRow made
-- @sub NoChange NoChange true
-- @sub NoRow NoRow true
-- @sub NoRow ValueError true
-- @sub NoRow NoText false
-- @sub NoRow NoDepth false
-- @sub NoRow TooMany false
-- @sub NoRow NoMatch false
-- @sub NoRow NoChange false
-- @cls Keeper k:i,held:N,kept:t[t[t[i]]]
-- @cls Desk keeper:OKeeper
section
variable {P : Program} {w : World} {K : PySem.W.Frag} {mg : Str → Option Value} {base : Heap} {Ts : List Addr} {CKeeper CDesk CNoChange CNoRow : Addr}
open TL
def spFigs : Sp := fun vs H Q _ => ∃ (p : Addr) (ns : List Nat), vs = [.ref p] ∧ H p = some (.tup (ns.map nV)) ∧ ns.length ≤ 1000 ∧ (∀ n ∈ ns, n < 100) ∧ ∀ L H', Same H H' → H' L = some (.lst ((ns.map fun n => mkS (dgs n)).map V.str)) → Q (.ref L) H'
theorem ok_figs {f c : Addr} (D : Dfn K mg "in_figures" s_in_figures f c) (T : Txt mg) : Cal P w K mg base 1 "in_figures" spFigs [] := by
  refine cal D (fun _ _ _ _ _ _ us hl => match us, hl with | [_], _ => rfl) sc_in_figures (fun vs H Q E h => ?_) (fun A outer s H vs Q E hr h => ?_)
  · obtain ⟨p, ns, rfl, _⟩ := h
    rfl
  · obtain ⟨p, ns, rfl, hp, hl, hn, q⟩ := h
    refine ⟨_, (pss_one (ps_ret (pe_lc (own := [("number", 1)]) (g := gName 1) (tt := tYes) rfl sc_in_figures.nd (pi_tup (pv 0)) (blkOk_by (own := [("number", 1)]) (N := ["numbers", "number"]) (sc := defScope s_in_figures) (by decide +kernel)) (fun _ _ _ _ _ => (pg_name (i := 1) sc_in_figures.nd rfl (by first | exact Or.inl rfl | exact Or.inr rfl))) (fun _ _ _ _ _ => pts_nil) (fun _ _ _ _ _ => (pe_callTy call_str_int (by rfl) T.b_str (by decide +kernel) (pa_cons (pv 1) pa_nil)))))), ?_⟩
    clear hr
    refine ⟨_, rfl, p, rfl, ⟨_, SqT.of hp⟩, fun M nM => ?_⟩
    refine lc_tup (K := K) (a := p) (xs := ns.map nV) (fun i H' => Own H H' M (((ns.take i).map fun n => mkS (dgs n)).map V.str)) ⟨Same.new nM, upd_same, nM⟩ (fun i H' _ o' => SqT.of (o'.sm _ _ hp)) ?_ ?_
    · rintro i y H2 hy o2
      rw [List.getElem?_map] at hy
      obtain ⟨x, hx, rfl⟩ := Option.map_eq_some_iff.mp hy
      have hi := (List.getElem?_eq_some_iff.mp hx).1
      refine ⟨rfl, ?_⟩
      unfold tYes
      refine iteT ?_
      refine ⟨_, rfl, _, rfl, lg100 x (hn x (List.mem_of_getElem? hx)), _, o2.at_, by rw [List.length_map, List.length_map, List.length_take]; exact small256 (by omega), ?_⟩
      rw [List.take_add_one, hx, List.map_append, List.map_append, str_dgs]
      exact o2.app
    · rintro H2 o2
      rw [List.length_map, List.take_length] at o2
      exact q M H2 o2.sm o2.at_
def spChgW (Ts : List Addr) : Sp := fun vs H Q _ => ∃ (h : Str) (p : Addr) (ws : List Str), vs = [.str h, .ref p] ∧ H p = some (.lst (ws.map V.str)) ∧ ws.length ≤ 400 ∧ (∀ x ∈ ws, x.length ≤ sizeLine) ∧ Tabs Ts H ∧ ∀ v H', Aft Ts H H' → Rep H' v (chgTh h (numsW (ws.map tl))) → Q v H'
theorem ok_chgw {f c : Addr} (D : Dfn K mg "change_written" s_change_written f c) (T : Txt mg) (c_numbers_in : Cal P w K mg base 4 "numbers_in" (spNumsIn Ts) []) : Cal P w K mg base 5 "change_written" (spChgW Ts) [] := by
  refine cal D (fun _ _ _ _ _ _ us hl => match us, hl with | [_, _], _ => rfl) sc_change_written (fun vs H Q E h => ?_) (fun A outer s H vs Q E hr h => ?_)
  · obtain ⟨h, p, ws, rfl, _⟩ := h
    rfl
  · obtain ⟨hd, p, ws, rfl, hp, hl, hw, tb, q⟩ := h
    refine ⟨_, (pss_cons (ps_set (i := 2) sc_change_written.nd rfl (by first | exact Or.inl rfl | exact Or.inr rfl) (pe_c c_numbers_in hr (by decide) (by rfl) (pa_cons (pv 1) pa_nil)))
      (pss_cons (ps_if (pt_cmpR op_isN (pv 2) pe_non (nomark _)) (pss_one (ps_ret pe_non)) pss_nil)
      (pss_cons (ps_if (pt_cmpR op_eq (pv 0) pe_str (nomark _)) (pss_one (ps_ret (pe_op op_catA (pe_tup (pa_cons pe_str pa_nil)) (pv 2)))) pss_nil)
      (pss_cons (ps_if (pt_cmpR op_eq (pv 0) pe_str (nomark _)) (pss_one (ps_ret (pe_tup (pa_cons pe_str (pa_cons (pv 2) pa_nil))))) pss_nil)
      (pss_one (ps_ret (pe_ifExp (pt_cmpR op_in_seq (pv 0) (pe_tup (pa_cons pe_str (pa_cons pe_str (pa_cons pe_str pa_nil)))) (by rfl)) (pe_op op_catA (pe_tup (pa_cons (pv 0) pa_nil)) (pv 2)) pe_non))))))), ?_⟩
    clear hr
    refine ⟨_, rfl, p, ws, rfl, hp, Nat.lt_of_le_of_lt hl (by decide), hw, tb, fun v H1 a1 hv => ?_⟩
    have hv : TupO H1 v (numsW (ws.map tl)) := hv
    have nl : ∀ ns, numsW (ws.map tl) = some ns → ns.length ≤ 400 := fun ns e => by
      have := congrArg List.length (numsW_some e)
      rw [List.length_map, List.length_map, List.length_map] at this
      omega
    have q := q
    cases e : numsW (ws.map tl) with
    | none =>
      rw [e] at hv q
      have hv : v = .non := hv
      subst hv
      refine ⟨_, rfl, rfl, _, rfl, iteT ?_⟩
      exact q .non H1 a1 .non
    | some ns =>
      have nl := nl ns e
      rw [e] at hv q
      obtain ⟨a, rfl, ha⟩ := hv
      have rn : ∀ {H' : Hp}, RepAll H' (ns.map nV) (ns.map thN) := rep_ns ns
      refine ⟨_, rfl, rfl, _, rfl, iteF ?_⟩
      refine ⟨_, rfl, rfl, _, rfl, ite2 (fun g => ?_) (fun g => ?_)⟩
      · have g : hd = "gate" := V.str.inj (of_decide_eq_true g)
        refine ⟨small 1, fun t1 nt1 => ⟨_, rfl, ?_⟩⟩
        have s2 := Same.new (o := .tup [V.str "more"]) nt1
        refine catA upd_same (s2 _ _ ha) (by rw [List.length_map]; exact Nat.le_trans (Nat.add_le_add_left nl 1) (small 401)) fun r H2 s3 hr => ?_
        refine q _ H2 (a1.trans (Aft.ofSame a1.tb (s2.trans s3))) ?_
        show Rep _ _ (if hd = "gate" then _ else _)
        rw [if_pos g]
        exact .tup hr (.cons (.str _) rn)
      have g : hd ≠ "gate" := fun z => g (decide_eq_true (congrArg V.str z))
      refine ⟨_, rfl, rfl, _, rfl, ite2 (fun g2 => ?_) (fun g2 => ?_)⟩
      · have g2 : hd = "outs" := V.str.inj (of_decide_eq_true g2)
        refine ⟨_, rfl, small 2, fun t1 nt1 => ?_⟩
        have s2 := Same.new (o := .tup [V.str "outs", V.ref a]) nt1
        refine q _ _ (a1.trans (Aft.ofSame a1.tb s2)) ?_
        show Rep _ _ (if hd = "gate" then _ else if hd = "outs" then _ else _)
        rw [if_neg g, if_pos g2]
        exact .tup upd_same (.cons (.str _) (.cons (.tup (s2 _ _ ha) rn) .nil))
      have g2 : hd ≠ "outs" := fun z => g2 (decide_eq_true (congrArg V.str z))
      refine ⟨_, rfl, small 3, fun t1 nt1 => ?_⟩
      have s2 := Same.new (o := .tup [V.str "kind", V.str "lead", V.str "less"]) nt1
      refine ⟨t1, _, rfl, .inr (SqT.of upd_same), rfl, rfl, _, rfl, ?_⟩
      have ha2 := s2 _ _ ha
      have a2 := a1.trans (Aft.ofSame a1.tb s2)
      generalize upd H1 t1 (.tup [V.str "kind", V.str "lead", V.str "less"]) = H2 at ha2 a2
      have q := q
      have ein : inV (.str hd) [V.str "kind", V.str "lead", V.str "less"] = decide (hd = "kind" ∨ hd = "lead" ∨ hd = "less") := by
        have es : ∀ x y : Str, eqV (.str x) (.str y) = decide (x = y) := fun x y => by
          show (x == y) = decide (x = y)
          by_cases h : x = y
          · rw [h, decide_eq_true rfl]; exact beq_self_eq_true y
          · rw [decide_eq_false h]; exact beq_false_of_ne h
        show (eqV (.str "kind") (.str hd) || (eqV (.str "lead") (.str hd) || (eqV (.str "less") (.str hd) || false))) = _
        rw [es, es, es, Bool.or_false, ← Bool.decide_or, ← Bool.decide_or]
        exact decide_eq_decide.mpr ⟨fun z => z.imp Eq.symm fun z => z.imp Eq.symm Eq.symm, fun z => z.imp Eq.symm fun z => z.imp Eq.symm Eq.symm⟩
      show (if (inV (.str hd) [V.str "kind", V.str "lead", V.str "less"]) = true then _ else _)
      rw [ein]
      have q : ∀ v H', Aft Ts H H' → Rep H' v (if hd = "gate" then .tup (.str "more" :: ns.map thN) else if hd = "outs" then .tup [.str "outs", .tup (ns.map thN)] else if hd = "kind" ∨ hd = "lead" ∨ hd = "less" then .tup (.str hd :: ns.map thN) else .non) → Q v H' := q
      rw [if_neg g, if_neg g2] at q
      refine ite2 (fun g3 => ?_) (fun g3 => ?_)
      · rw [if_pos (of_decide_eq_true g3)] at q
        refine ⟨_, rfl, small 1, fun t2 nt2 => ⟨_, rfl, ?_⟩⟩
        have s3 := Same.new (o := .tup [V.str hd]) nt2
        refine catA upd_same (s3 _ _ ha2) (by rw [List.length_map]; exact Nat.le_trans (Nat.add_le_add_left nl 1) (small 401)) fun r H3 s4 hr => ?_
        exact q _ H3 (a2.trans (Aft.ofSame a2.tb (s3.trans s4))) (.tup hr (.cons (.str _) rn))
      · rw [if_neg (fun z => g3 (decide_eq_true z))] at q
        exact q .non H2 a2 .non
theorem chgTh_head {h : Str} {o : Option (List Nat)} : HeadOk (chgTh h o) := fun x ts e => by
  left
  cases o with
  | none => cases e
  | some ns =>
    have e : (if h = "gate" then Th.tup (.str "more" :: ns.map thN) else if h = "outs" then .tup [.str "outs", .tup (ns.map thN)] else if h = "kind" ∨ h = "lead" ∨ h = "less" then .tup (.str h :: ns.map thN) else .non) = .tup (.str x :: ts) := e
    unfold wordsC
    split at e
    · cases e; simp
    · split at e
      · cases e; simp
      · split at e
        · rename_i h3
          cases e
          rcases h3 with rfl | rfl | rfl <;> simp
        · cases e
theorem chgTh_len {h : Str} {o : Option (List Nat)} (l : ∀ ns, o = some ns → ns.length ≤ 400) : ∀ ts, chgTh h o = .tup ts → ts.length ≤ 500 := fun ts e => by
  cases o with
  | none => cases e
  | some ns =>
    have := l ns rfl
    have e : (if h = "gate" then Th.tup (.str "more" :: ns.map thN) else if h = "outs" then .tup [.str "outs", .tup (ns.map thN)] else if h = "kind" ∨ h = "lead" ∨ h = "less" then .tup (.str h :: ns.map thN) else .non) = .tup ts := e
    split at e
    · cases e
      rw [List.length_cons, List.length_map]
      omega
    · split at e
      · cases e
        show 2 ≤ 500
        decide
      · split at e
        · cases e
          rw [List.length_cons, List.length_map]
          omega
        · cases e
def spChgA (Ts : List Addr) (C : Addr) : Sp := fun vs H Q _ => ∃ (kp a p q : Addr) (n : Net) (k : Nat) (g o : Addr) (ps qs : List Addr) (h : Str) (ws : List Str), vs = [.ref kp, .str h, .ref q] ∧ KeepAt C H kp a p n k g o ps qs ∧ n.Ok ∧ 2 ≤ k ∧ k ≤ 1000 ∧ H q = some (.lst (ws.map V.str)) ∧ ws.length ≤ 400 ∧ (∀ x ∈ ws, x.length ≤ sizeLine) ∧ Tabs Ts H ∧
  (∀ ch : Chg, ch.Ok n → ch.th = chgTh h (numsW (ws.map tl)) → ∀ H' (a' p' g' o' : Addr) (ps' qs' : List Addr), KeepAt C H' kp a' p' (doN n ch) k g' o' ps' qs' → Tabs Ts H' → (∀ b u, b ≠ kp → b ∉ Ts → H b = some u → H' b = some u) → Q (.str (okS (othL n (doN n ch) k (doN n ch).gates.length))) H') ∧ (¬ IsChg n (chgTh h (numsW (ws.map tl))) → ∀ H', Aft Ts H H' → Q .non H')
theorem ok_chga {f c : Addr} (D : Dfn K mg "change_answer" s_change_answer f c) (T : Txt mg) (x_NoChange : ExcM K mg "NoChange" CNoChange) (su_NoChange_NoChange : PySem.W.subIn K (.ref CNoChange) (.ref CNoChange) = some true) (c_change_written : Cal P w K mg base 5 "change_written" (spChgW Ts) []) (c_in_figures : Cal P w K mg base 1 "in_figures" spFigs []) (m_Keeper_do : MetX P w K mg base 8 CKeeper "do" (spKDo Ts CKeeper CNoChange)) : Cal P w K mg base 9 "change_answer" (spChgA Ts CKeeper) [] := by
  refine cal D (fun _ _ _ _ _ _ us hl => match us, hl with | [_, _, _], _ => rfl) sc_change_answer (fun vs H Q E h => ?_) (fun A outer s H vs Q E hr h => ?_)
  · obtain ⟨kp, a, p, q, n, k, g, o, ps, qs, h, ws, rfl, _⟩ := h
    rfl
  · obtain ⟨kp, a, p, wp, n, k, g, o, ps, qs, hd, ws, rfl, KA, ok, hk2, hk, hw, hl, hx, tb, q1, q2⟩ := h
    refine ⟨_, (pss_cons (ps_try_only rfl rfl ⟨rfl, by decide, .inl x_NoChange.g⟩ takes0
        (fun W pn xe tk _ => (pss_one (ps_set (i := 3) sc_change_answer.nd rfl (by first | exact Or.inl rfl | exact Or.inr rfl) (pe_mtX m_Keeper_do tk hr (by decide) (pv 0) (pa_cons (pe_c c_change_written hr (by decide) (by rfl) (pa_cons (pv 1) (pa_cons (pv 2) pa_nil))) pa_nil)))))
        (fun a oe cls d pn _ _ => (pss_one (ps_ret pe_non))))
      (pss_one (ps_ret (pe_join pe_str (pe_op op_cat (pe_lst (pa_cons pe_str pa_nil)) (pe_c c_in_figures hr (by decide) (by rfl) (pa_cons (pv 3) pa_nil))))))), ?_⟩
    clear hr
    obtain ⟨dx, ek⟩ := KA.ins
    refine ⟨_, rfl, kp, dx, _, rfl, ek, rfl, _, rfl, _, rfl, hd, wp, ws, rfl, hw, hl, hx, tb, fun v H1 a1 rv => ?_⟩
    have KA1 := KA.mono (H' := H1) fun b u e n1 n2 => a1.kp _ _ e (tb.nott e n1)
    have nl : ∀ ns, numsW (ws.map tl) = some ns → ns.length ≤ 400 := fun ns e => by
      have := congrArg List.length (numsW_some e)
      rw [List.length_map, List.length_map, List.length_map] at this
      omega
    refine ⟨kp, a, p, n, k, g, o, ps, qs, v, _, rfl, KA1, ok, hk2, hk, rv, chgTh_head, chgTh_len nl, a1.tb, fun ch cok ec r H2 a' p' g' o' ps' qs' hr KA2 tb2 kp2 => ?_, fun hn H2 a2 => ⟨true, exm_of2 x_NoChange.toExcT su_NoChange_NoChange, fun _ e ne => q2 hn H2 (a1.trans a2), fun z => by cases z⟩⟩
    have ok' := doN_ok ok cok
    have m8 := ok'.m8
    have g16 := ok'.g16
    have ol := othL_len n (doN n ch) k (doN n ch).gates.length
    have ob : ∀ x ∈ othL n (doN n ch) k (doN n ch).gates.length, x < 100 := fun x hx => by
      unfold othL at hx
      obtain ⟨i, hi, rfl⟩ := List.mem_map.mp (List.mem_filter.mp hx).1
      have := List.mem_range.mp hi
      omega
    have hq : ∀ H', KeepAt CKeeper H' kp a' p' (doN n ch) k g' o' ps' qs' → Tabs Ts H' → (∀ b u, b ≠ kp → b ∉ Ts → H b = some u → H' b = some u) → Q (.str (okS (othL n (doN n ch) k (doN n ch).gates.length))) H' := fun H' => q1 ch cok ec H' a' p' g' o' ps' qs'
    generalize othL n (doN n ch) k (doN n ch).gates.length = gs at hr ol ob hq
    refine ⟨⟨_, rfl⟩, small 1, fun M nM => ⟨_, rfl, r, gs, rfl, (Same.new nM) _ _ hr, by omega, ob, fun L H3 s3 hL => ?_⟩⟩
    have s4 := (Same.new (o := .lst [V.str "ok"]) nM).trans s3
    refine ⟨M, L, _, _, rfl, rfl, s3 _ _ upd_same, hL, by rw [List.length_map, List.length_map]; exact Nat.le_trans (Nat.add_le_add_left (show gs.length ≤ 16 by omega) 1) (small 17), fun R nR => ?_⟩
    have s5 := s4.trans (Same.new (o := .lst ([V.str "ok"] ++ (gs.map fun n => mkS (dgs n)).map V.str)) nR)
    have hR : upd H3 R (.lst ([V.str "ok"] ++ (gs.map fun n => mkS (dgs n)).map V.str)) R = some (.lst ((Str.ofString "ok" :: gs.map fun n => mkS (dgs n)).map V.str)) := upd_same
    have wb : ∀ y ∈ Str.ofString "ok" :: gs.map fun n => mkS (dgs n), y.length ≤ 2 := fun y hy => by
      rcases List.mem_cons.mp hy with e | hy
      · rw [e]; decide +kernel
      · obtain ⟨x, hx, rfl⟩ := List.mem_map.mp hy
        rw [len_mkS]
        exact (dgs_100 x (ob x hx)).2.2.2.1
    refine ⟨_, R, _, rfl, rfl, .inl (SqL.of hR), join_fits (b := 2) (c := 17) wb (by rw [List.length_cons, List.length_map]; omega) (by decide +kernel), ?_⟩
    have ej : Txt.join (Str.ofString " ") (Str.ofString "ok" :: gs.map fun n => mkS (dgs n)) = okS gs := by
      refine ext_tl ?_
      rw [join_eq, tl_join, show tl (Str.ofString " ") = [32] by decide +kernel, List.map_cons, List.map_map]
      rfl
    rw [ej]
    exact hq _ (KA2.mono fun b u e _ _ => s5 _ _ e) (tb2.same s5) fun b u nb nT e => s5 _ _ (kp2 b u nb nT (a1.kp _ _ e nT))
end
end K76
set_option Elab.async false
set_option linter.all false
set_option maxRecDepth 100000
set_option maxHeartbeats 4000000
namespace K76
open PySem PySem.Spec PyProof.Rows L2 GX
open C8 (Cal pe_c pe_gc Met Mak)
-- @dict CHANGES
-- @no CHANGES 0 ""
-- @no CHANGES 1 "0"
-- @no CHANGES 2 "way"
-- @no CHANGES 3 "Kind"
-- @no CHANGES 4 "leads"
-- @dict QUESTIONS
-- @no QUESTIONS 0 "gate"
-- @no QUESTIONS 1 "kind"
-- @no QUESTIONS 2 "lead"
-- @no QUESTIONS 3 "less"
-- @no QUESTIONS 4 "outs"
-- @exc CoverError
-- @exc NoText
-- @exc NoDepth
-- @exc TooMany
-- @exc NoMatch
-- @exc NoChange made
-- @exc NoRow made
-- @sub NoChange NoChange true
-- @sub NoRow NoRow true
-- @sub NoRow ValueError true
-- @sub NoRow NoText false
-- @sub NoRow NoDepth false
-- @sub NoRow TooMany false
-- @sub NoRow NoMatch false
-- @sub NoRow NoChange false
-- @cls Keeper k:i,held:N,kept:t[t[t[i]]]
-- @cls Desk keeper:OKeeper
section
variable {P : Program} {w : World} {K : PySem.W.Frag} {mg : Str → Option Value} {base : Heap} {Ts : List Addr} {CKeeper CDesk CNoChange CNoRow : Addr}
open TL
structure DeskAt (CD CK : Addr) (H : Hp) (D kp a p : Addr) (n : Net) (k : Nat) (g o : Addr) (ps qs : List Addr) : Prop where
  ins : ∃ dx, H D = some (.ins CD dx (putF "keeper" (.ref kp) []))
  keep : KeepAt CK H kp a p n k g o ps qs
structure DCls (K : PySem.W.Frag) (C : Addr) : Prop where
  cl : Cls K C
  k : NoAttr K C "keeper"
theorem KeepAt.at_ {C : Addr} {H H' : Hp} {kp a p : Addr} {n : Net} {k : Nat} {g o : Addr} {ps qs : List Addr} (x : KeepAt C H kp a p n k g o ps qs) (hk : ∀ u, H kp = some u → H' kp = some u) (tu : ∀ b xs, H b = some (.tup xs) → H' b = some (.tup xs)) : KeepAt C H' kp a p n k g o ps qs := by
  obtain ⟨dx, e⟩ := x.ins
  exact ⟨⟨dx, hk _ e⟩, x.net.mono tu, tu _ _ x.kept, x.cuts.mono fun q y h => h.mono tu⟩
def spDNet (CD CK : Addr) : Sp := fun vs H Q _ => ∃ (D kp a p : Addr) (n : Net) (k : Nat) (g o : Addr) (ps qs : List Addr), vs = [.ref D] ∧ DeskAt CD CK H D kp a p n k g o ps qs ∧ Q (.ref a) H
theorem ok_dnet {f c : Addr} (D : Mtd K CDesk "net" "Desk.net" s_Desk_net f c) (T : Txt mg) (dc : DCls K CDesk) (m_Keeper_net : Met P w K mg base 1 CKeeper "net" (spKNet CKeeper) []) : Met P w K mg base 2 CDesk "net" (spDNet CDesk CKeeper) [] := by
  refine met D (fun _ _ _ _ _ _ us hl => match us, hl with | [_], _ => rfl) sc_Desk_net (fun vs H Q E h => ?_) (fun A outer s H vs Q E hr h => ?_)
  · obtain ⟨D, kp, a, p, n, k, g, o, ps, qs, rfl, _⟩ := h
    rfl
  · obtain ⟨Da, kp, a, p, n, k, g, o, ps, qs, rfl, x, q⟩ := h
    obtain ⟨dx, e⟩ := x.ins
    obtain ⟨dk, ek⟩ := x.keep.ins
    refine ⟨_, (pss_one (ps_ret (C8.pe_mt0 m_Keeper_net hr (by decide) (pe_fld (pv 0) rfl)))), ?_⟩
    refine ⟨_, rfl, Da, CDesk, dx, _, _, rfl, e, dc.cl, dc.k, rfl, kp, dk, _, rfl, ek, rfl, ?_⟩
    exact ⟨kp, a, p, n, k, g, o, ps, qs, rfl, x.keep, q⟩
def spDInit (Ts : List Addr) (CD CK : Addr) : Sp := fun vs H Q _ => ∃ (D dx : Addr) (m k : Nat), vs = [.ref D, nV m, nV k] ∧ H D = some (.ins CD dx []) ∧ 1 ≤ m ∧ m ≤ 8 ∧ 2 ≤ k ∧ k ≤ 1000 ∧ Tabs Ts H ∧
  ∀ (kp a p g o : Addr) (ps qs : List Addr) H', DeskAt CD CK H' D kp a p ⟨m, [], [0]⟩ k g o ps qs → Tabs Ts H' → (∀ b u, b ≠ D → b ∉ Ts → H b = some u → H' b = some u) → H kp = none → Q .non H'
theorem ok_dinit {f c : Addr} (D : Mtd K CDesk "__init__" "Desk.__init__" s_Desk___init__ f c) (T : Txt mg) (dc : DCls K CDesk) (hm : mg "Desk" = some (.ref CDesk)) (mk : PySem.W.makesIn K CDesk = true) (kp : PySem.W.keepIn K (.ref CDesk) = true) (m_Keeper : Mak P w K mg base 5 "Keeper" CKeeper (spKInit Ts CKeeper) []) : Mak P w K mg base 7 "Desk" CDesk (spDInit Ts CDesk CKeeper) [] := by
  refine mak D hm mk kp (fun _ _ _ _ _ _ us hl => match us, hl with | [_, _, _], _ => rfl) sc_Desk___init__ (fun vs H Q E h => ?_) (fun A outer s H vs Q E hr h => ?_)
  · obtain ⟨D, dx, m, k, rfl, _⟩ := h
    rfl
  · obtain ⟨Da, dx, m, k, rfl, e, m1, m8, hk2, hk, tb, q⟩ := h
    refine ⟨_, (pss_one (ps_fld (pv 0) (C8.pe_mk m_Keeper hr (by decide) (by rfl) (pa_cons (pe_tup (pa_cons (pv 1) (pa_cons (pe_tup pa_nil) (pa_cons (pe_tup (pa_cons pe_int pa_nil)) pa_nil)))) (pa_cons (pv 2) pa_nil))) rfl)), ?_⟩
    refine ⟨_, rfl, small 0, fun t0 nt0 => ⟨small 1, fun t1 nt1 => ⟨small 3, fun ta nta => ⟨_, rfl, fun kq dk nk nd ndk => ?_⟩⟩⟩⟩
    have s1 := Same.new (o := .tup []) nt0
    have s2 := Same.new (o := .tup [V.int 0]) nt1
    have s3 := Same.new (o := .tup [nV m, V.ref t0, V.ref t1]) nta
    have N : NetAt (upd (upd (upd H t0 (.tup [])) t1 (.tup [V.int 0])) ta (.tup [nV m, V.ref t0, V.ref t1])) ta ⟨m, [], [0]⟩ t0 t1 [] := ⟨upd_same, s3 _ _ (s2 _ _ upd_same), GatesAt.nil _, s3 _ _ upd_same⟩
    have s13 := (s1.trans s2).trans s3
    generalize upd (upd (upd H t0 (.tup [])) t1 (.tup [V.int 0])) ta (.tup [nV m, V.ref t0, V.ref t1]) = H1 at N s13 nk nd ⊢
    have s4 : Same H1 (upd H1 dk (.own kq)) := Same.new nd
    have nk4 : upd H1 dk (.own kq) kq = none := by rw [upd_ne (Ne.symm ndk)]; exact nk
    have s5 := s4.trans (Same.new (o := .ins CKeeper dk []) nk4)
    have s15 := s13.trans s5
    have hk5 : upd (upd H1 dk (.own kq)) kq (.ins CKeeper dk []) kq = some (.ins CKeeper dk []) := upd_same
    have N5 := N.same s5
    generalize upd (upd H1 dk (.own kq)) kq (.ins CKeeper dk []) = H5 at N5 s15 hk5 ⊢
    have ok : Net.Ok ⟨m, [], [0]⟩ := ⟨m1, m8, Nat.zero_le _, fun i g e => by (simp at e), by show 1 ≤ 1; decide, by show 1 ≤ 8; decide, fun x hx => by rw [List.mem_singleton.mp hx]; show 0 < m + 0; omega⟩
    refine ⟨kq, dk, ta, ⟨m, [], [0]⟩, t0, t1, [], k, rfl, hk5, N5, ok, hk2, hk, tb.same s15, fun p H6 qs KA tb6 kp6 => ⟨rfl, _, rfl, Da, CDesk, dx, [], rfl, ?_, dc.cl, dc.k, by decide, ?_⟩⟩
    · refine kp6 _ _ (fun z => ?_) (tb.nott e fun _ z => by cases z) (s15 _ _ e)
      rw [← z, s13 _ _ e] at nk
      cases nk
    have DT : Da ∉ Ts := tb.nott e fun _ z => by cases z
    have e6 : H6 Da = some (.ins CDesk dx []) := by
      refine kp6 _ _ (fun z => ?_) DT (s15 _ _ e)
      rw [← z, s13 _ _ e] at nk
      cases nk
    have nkD : kq ≠ Da := fun z => by
      obtain ⟨dk', ek⟩ := KA.ins
      rw [z, e6] at ek
      cases ek
    refine q kq ta p t0 t1 [] qs _ ⟨⟨dx, upd_same⟩, KA.at_ (fun u e => by rw [upd_ne nkD]; exact e) fun b xs eb => ?_⟩ (tb6.upd DT) (fun b u nb nT eb => ?_) ?_
    · rw [upd_ne (fun z => by rw [z, e6] at eb; cases eb)]
      exact eb
    · rw [upd_ne nb]
      refine kp6 _ _ (fun z => ?_) nT (s15 _ _ eb)
      rw [← z, s13 _ _ eb] at nk
      cases nk
    · cases eq : H kq with
      | none => rfl
      | some u => rw [s13 _ _ eq] at nk; cases nk
def wordsQ : List Str := ["gate", "kind", "lead", "less", "outs"]
def spSayC (Ts : List Addr) (CD CK CN : Addr) : Sp := fun vs H Q E => ∃ (D kp a p : Addr) (n : Net) (k : Nat) (g o : Addr) (ps qs : List Addr) (x h : Str) (ws : List Str), vs = [.ref D, .str x] ∧ DeskAt CD CK H D kp a p n k g o ps qs ∧ n.Ok ∧ 2 ≤ k ∧ k ≤ 1000 ∧ x.length + 2 ≤ sizeLine ∧ Txt.split x (Str.ofString " ") = h :: ws ∧ ws.length ≤ 400 ∧ h ∈ wordsQ ∧ Tabs Ts H ∧
  (∀ ch : Chg, ch.Ok n → ch.th = chgTh h (numsW (ws.map tl)) → ∀ H' (a' p' g' o' : Addr) (ps' qs' : List Addr), DeskAt CD CK H' D kp a' p' (doN n ch) k g' o' ps' qs' → Tabs Ts H' → (∀ b u, b ≠ kp → b ∉ Ts → H b = some u → H' b = some u) → Q (.str (okS (othL n (doN n ch) k (doN n ch).gates.length))) H') ∧ (¬ IsChg n (chgTh h (numsW (ws.map tl))) → ∀ H', Aft Ts H H' → E (.ref CN) none H')
theorem ok_sayC {f c dQ : Addr} {es : Array DictEntry} {nn : Nat} (D : Mtd K CDesk "say" "Desk.say" s_Desk_say f c) (T : Txt mg) (dc : DCls K CDesk) (x_NoRow : ExcM K mg "NoRow" CNoRow) (kD_QUESTIONS : KDict K w dQ es nn) (gD_QUESTIONS : ∃ u, mg "QUESTIONS" = some u ∧ RelV (.ref dQ) u) (hq : ∀ x ∈ wordsQ, PySem.W.nsIn K dQ x = some none) (c_change_answer : Cal P w K mg base 9 "change_answer" (spChgA Ts CKeeper) []) : MetX P w K mg base 10 CDesk "say" (spSayC Ts CDesk CKeeper CNoRow) := by
  have hS_question : ∀ (f : Addr) (sp : Sp), (fun _ : Addr => (none : Option Sp)) f = some sp → Held P w K mg base 9 f sp := fun f sp h => by cases h
  refine metX D (fun _ _ _ _ _ _ us hl => match us, hl with | [_, _], _ => rfl) sc_Desk_say (fun vs H Q E h => ?_) (fun A outer s H vs Q E hr h tk => ?_)
  · obtain ⟨D, kp, a, p, n, k, g, o, ps, qs, x, h, ws, rfl, _⟩ := h
    rfl
  · obtain ⟨Da, kp, a, p, n, k, g, o, ps, qs, x, hd, ws, rfl, DA, ok, hk2, hk, hx, hsp, hl, hh, tb, q1, q2⟩ := h
    refine ⟨_, (pss_cons (ps_if (PT.nox (pt_not (pt_val (pe_callB call_isi (by rfl) T.b_isinstance (by decide +kernel) (pa_cons (pv 1) (pa_cons (pe_bltn (v := .ty "str") (by rfl) T.b_str (by decide +kernel) rfl) pa_nil)))))) (pss_one (ps_raise rfl tk (pmk_own PySem.F.excBase_ValueError x_NoRow.x x_NoRow.g x_NoRow.k x_NoRow.toExcT.raises rfl))) pss_nil)
      (pss_cons (psNox (ps_asg (pe_split (pv 1) pe_str) (pg_hdr rfl (pgs_cons (pg_name (i := 2) sc_Desk_say.nd rfl (by first | exact Or.inl rfl | exact Or.inr rfl)) (pgs_star (pg_name (i := 3) sc_Desk_say.nd rfl (by first | exact Or.inl rfl | exact Or.inr rfl)))))))
      (pss_cons (psNox (ps_if (pt_cmpR (op_in_kd kD_QUESTIONS) (pv 2) (pe_gc (by rfl) gD_QUESTIONS) (by rfl)) (pss_cons (ps_set (i := 4) sc_Desk_say.nd rfl (by first | exact Or.inl rfl | exact Or.inr rfl) (pe_ix ix_kdict (pe_gc (by rfl) gD_QUESTIONS) (pv 2) (fun _ _ => rfl)))
      (pss_one (ps_set (i := 5) sc_Desk_say.nd rfl (by first | exact Or.inl rfl | exact Or.inr rfl) (pe_callA (i := 4) hS_question (hr.mono (by decide)) (by rfl) (by first | exact Or.inl rfl | exact Or.inr rfl) (pa_cons (pe_fld (pv 0) rfl) (pa_cons (pv 3) pa_nil)))))) (pss_one (ps_set (i := 5) sc_Desk_say.nd rfl (by first | exact Or.inl rfl | exact Or.inr rfl) (pe_c c_change_answer hr (by decide) (by rfl) (pa_cons (pe_fld (pv 0) rfl) (pa_cons (pv 2) (pa_cons (pv 3) pa_nil))))))))
      (pss_cons (ps_if (PT.nox (pt_cmpR op_isN (pv 5) pe_non (nomark _))) (pss_one (ps_raise rfl tk (pmk_own PySem.F.excBase_ValueError x_NoRow.x x_NoRow.g x_NoRow.k x_NoRow.toExcT.raises rfl))) pss_nil)
      (PSs.nox (pss_one (ps_ret (pv 5)))))))), ?_⟩
    clear hr
    obtain ⟨dx, eD⟩ := DA.ins
    obtain ⟨dk, ek⟩ := DA.keep.ins
    have DT : Da ∉ Ts := tb.nott eD fun _ z => by cases z
    have kT : kp ∉ Ts := tb.nott ek fun _ z => by cases z
    refine ⟨_, rfl, _, _, _, _, true, rfl, .ty "str", tyx (Rep.str x), kit_ty (GX.kStr_ok (.str x)), _, rfl, iteF ?_⟩
    refine ⟨_, rfl, ⟨_, rfl⟩, _, _, rfl, rfl, by decide +kernel, hx, fun L nL => ?_⟩
    rw [hsp]
    have a1 := Aft.new (o := .lst (List.map V.str (hd :: ws))) tb nL
    have hL : upd H L (.lst (List.map V.str (hd :: ws))) L = some (.lst (List.map V.str (hd :: ws))) := upd_same
    show gHdR _ _ _ _ (upd H L (.lst (List.map V.str (hd :: ws)))) _
    have eD1 := (Same.new (o := .lst (List.map V.str (hd :: ws))) nL) _ _ eD
    have DK1 := DA.keep.mono fun b u e _ _ => (Same.new (o := .lst (List.map V.str (hd :: ws))) nL) _ _ e
    generalize upd H L (.lst (List.map V.str (hd :: ws))) = H1 at a1 hL eD1 DK1 ⊢
    refine ⟨L, .str hd, ws.map V.str, rfl, SqL.of hL, fun R nR => ⟨_, _, rfl, _, _, rfl, rfl, ?_⟩⟩
    have s2 := Same.new (o := .lst (ws.map V.str)) nR
    have a2 := a1.trans (Aft.ofSame a1.tb s2)
    have hR : upd H1 R (.lst (ws.map V.str)) R = some (.lst (ws.map V.str)) := upd_same
    have eD2 := s2 _ _ eD1
    have DK2 := DK1.mono fun b u e _ _ => s2 _ _ e
    generalize upd H1 R (.lst (ws.map V.str)) = H2 at a2 hR eD2 DK2 ⊢
    refine ⟨_, rfl, hd, none, rfl, rfl, hq hd hh, _, rfl, iteF ?_⟩
    have hwl : ∀ y ∈ ws, y.length ≤ sizeLine := fun y hy => by
      have := part_short (show y ∈ Txt.split x (Str.ofString " ") by rw [hsp]; exact List.mem_cons_of_mem _ hy)
      omega
    refine ⟨_, rfl, Da, CDesk, dx, _, _, rfl, eD2, dc.cl, dc.k, rfl, _, rfl, _, rfl, kp, a, p, R, n, k, g, o, ps, qs, hd, ws, rfl, DK2, ok, hk2, hk, hR, hl, hwl, a2.tb, fun ch cok ec H3 a' p' g' o' ps' qs' KA3 tb3 kp3 => ?_, fun hn H3 a3 => ?_⟩
    · refine ⟨_, rfl, rfl, _, rfl, ?_⟩
      rw [decide_eq_false (fun z : V.str _ = V.non => by cases z)]
      refine iteF ?_
      refine ⟨_, rfl, q1 ch cok ec H3 a' p' g' o' ps' qs' ⟨⟨dx, kp3 _ _ (fun z => ?_) DT eD2⟩, KA3⟩ tb3 fun b u nb nT e => kp3 b u nb nT (a2.kp _ _ e nT)⟩
      rw [z, ek] at eD
      cases eD
    · refine ⟨_, rfl, rfl, _, rfl, iteT ?_⟩
      exact q2 hn H3 (a2.trans a3)
end
end K76
set_option Elab.async false
set_option linter.all false
set_option maxRecDepth 100000
set_option maxHeartbeats 4000000
namespace K76
open PySem PySem.Spec PyProof.Rows L2 GX
open C8 (Cal pe_c pe_gc Met Mak)
-- @dict CHANGES
-- @no CHANGES 0 ""
-- @no CHANGES 1 "0"
-- @no CHANGES 2 "way"
-- @no CHANGES 3 "Kind"
-- @no CHANGES 4 "leads"
-- @dict QUESTIONS
-- @no QUESTIONS 0 "gate"
-- @no QUESTIONS 1 "kind"
-- @no QUESTIONS 2 "lead"
-- @no QUESTIONS 3 "less"
-- @no QUESTIONS 4 "outs"
-- @exc CoverError
-- @exc NoText
-- @exc NoDepth
-- @exc TooMany
-- @exc NoMatch
-- @exc NoChange made
-- @exc NoRow made
-- @sub NoChange NoChange true
-- @sub NoRow NoRow true
-- @sub NoRow ValueError true
-- @sub NoRow NoText false
-- @sub NoRow NoDepth false
-- @sub NoRow TooMany false
-- @sub NoRow NoMatch false
-- @sub NoRow NoChange false
-- @cls Keeper k:i,held:N,kept:t[t[t[i]]]
-- @cls Desk keeper:OKeeper
section
variable {P : Program} {w : World} {K : PySem.W.Frag} {mg : Str → Option Value} {base : Heap} {Ts : List Addr} {CTooMany CNoDepth CNoChange CNoMatch CNoRow CNoText CDesk : Addr}
open TL
/-- what a desk says, or the list that stands for a refusal -/
def spHeardD (sp : Sp) (CD CN : Addr) : Sp := fun vs H Q _ => ∃ (D : Addr) (v : V) (dx : Addr) (fs : List (Str × V)), vs = [.ref D, v] ∧ H D = some (.ins CD dx fs) ∧ fs.lookup ("say" : Str) = none ∧
  sp vs H Q fun cls d H1 => cls = .ref CN ∧ d = none ∧ ∀ L H2, Same H1 H2 → H2 L = some (.lst [.str "no", .bl true]) → Q (.ref L) H2
theorem ok_heardD {lv : Nat} {sp : Sp} {f c : Addr} (D : Dfn K mg "_law_heard" s__law_heard f c) (T : Txt mg) (x_NoMatch : ExcT K mg "NoMatch" CNoMatch) (x_NoChange : ExcM K mg "NoChange" CNoChange) (x_NoDepth : ExcT K mg "NoDepth" CNoDepth) (x_NoRow : ExcM K mg "NoRow" CNoRow) (x_NoText : ExcT K mg "NoText" CNoText) (x_TooMany : ExcT K mg "TooMany" CTooMany)
    (su_NoRow_NoRow : PySem.W.subIn K (.ref CNoRow) (.ref CNoRow) = some true) (su_NoRow_ValueError : PySem.W.subIn K (.ref CNoRow) (.type "ValueError") = some true) (su_NoRow_NoDepth : PySem.W.subIn K (.ref CNoRow) (.ref CNoDepth) = some false) (su_NoRow_TooMany : PySem.W.subIn K (.ref CNoRow) (.ref CTooMany) = some false) (su_NoRow_NoMatch : PySem.W.subIn K (.ref CNoRow) (.ref CNoMatch) = some false) (su_NoRow_NoChange : PySem.W.subIn K (.ref CNoRow) (.ref CNoChange) = some false) (su_NoRow_NoText : PySem.W.subIn K (.ref CNoRow) (.ref CNoText) = some false)
    (mono : ∀ vs H (Q Q' : VK) (E E' : XK), (∀ v H', Q v H' → Q' v H') → (∀ c d H', E c d H' → E' c d H') → sp vs H Q E → sp vs H Q' E') (m_Desk_say : MetX P w K mg base lv CDesk "say" sp) : Cal P w K mg base (lv + 1) "_law_heard" (spHeardD sp CDesk CNoRow) [] := by
  refine cal D (fun _ _ _ _ _ _ us hl => match us, hl with | [_, _], _ => rfl) sc__law_heard (fun vs H Q E h => ?_) (fun A outer s H vs Q E hr h => ?_)
  · obtain ⟨D, v, dx, fs, rfl, _⟩ := h
    rfl
  · obtain ⟨Da, v, dx, fs, rfl, eD, hl, q⟩ := h
    refine ⟨_, (pss_cons (ps_set (i := 2) sc__law_heard.nd rfl (by first | exact Or.inl rfl | exact Or.inr rfl) pe_non)
      (pss_cons (ps_set (i := 3) sc__law_heard.nd rfl (by first | exact Or.inl rfl | exact Or.inr rfl) pe_non)
      (pss_cons (ps_tryK (i := 4) rfl rfl rfl sc__law_heard.nd rfl rfl ⟨rfl, by decide, .inl x_NoRow.g⟩ takes0
        (fun W pn xe tk => (pss_one (ps_set (i := 2) sc__law_heard.nd rfl (by first | exact Or.inl rfl | exact Or.inr rfl) (pe_mtX m_Desk_say tk hr (by omega) (pv 0) (pa_cons (pv 1) pa_nil)))))
        (fun a pn => (pss_one (ps_set (i := 3) sc__law_heard.nd rfl (by first | exact Or.inl rfl | exact Or.inr rfl) (pv 4)))) pss_nil)
      (pss_cons (ps_if (pt_cmpR op_isN (pv 3) pe_non (nomark _)) (pss_one (ps_ret (pv 2))) pss_nil)
      (pss_cons (ps_set (i := 5) sc__law_heard.nd rfl (by first | exact Or.inl rfl | exact Or.inr rfl) (pe_callB call_isET (by rfl) T.b_isinstance (by decide +kernel) (pa_cons (pv 3) (pa_cons (pe_tup (pa_cons (pe_gc (v := .ref CNoChange) (by rfl) ⟨_, x_NoChange.g, rfl⟩) (pa_cons (pe_gc (v := .ref CNoDepth) (by rfl) ⟨_, x_NoDepth.g, rfl⟩) (pa_cons (pe_gc (v := .ref CNoMatch) (by rfl) ⟨_, x_NoMatch.g, rfl⟩) (pa_cons (pe_gc (v := .ref CNoText) (by rfl) ⟨_, x_NoText.g, rfl⟩) (pa_cons (pe_gc (v := .ref CTooMany) (by rfl) ⟨_, x_TooMany.g, rfl⟩) pa_nil)))))) pa_nil))))
      (pss_one (ps_ret (pe_lst (pa_cons pe_str (pa_cons (pe_and (pe_callB call_isE1 (by rfl) T.b_isinstance (by decide +kernel) (pa_cons (pv 3) (pa_cons (pe_bltn (v := .ty "ValueError") (by rfl) T.b_ValueError (by decide +kernel) rfl) pa_nil))) (pe_one (pe_not (pv 5)))) pa_nil)))))))))), ?_⟩
    clear hr
    refine ⟨_, rfl, Da, dx, fs, rfl, eD, hl, _, rfl, ?_⟩
    refine mono _ _ _ _ _ _ (fun v' H1 hq => ?_) (fun cls d H1 he => ?_) q
    · refine ⟨_, rfl, rfl, _, rfl, iteT ?_⟩
      exact ⟨_, rfl, hq⟩
    · obtain ⟨rfl, rfl, hQ⟩ := he
      refine ⟨true, exm_of2 x_NoRow.toExcT su_NoRow_NoRow, fun _ e ne => ?_, fun z => by cases z⟩
      have s1 := Same.new (o := XO (.ref CNoRow) none e) ne
      have he : upd H1 e (XO (.ref CNoRow) none e) e = some (XO (.ref CNoRow) none e) := upd_same
      generalize upd H1 e (XO (.ref CNoRow) none e) = H2 at s1 he ⊢
      refine ⟨_, rfl, ?_⟩
      refine ⟨_, rfl, rfl, _, rfl, iteF ?_⟩
      refine ⟨_, rfl, small 5, fun p np => ⟨_, p, _, .ref CNoRow, [.ref CNoChange, .ref CNoDepth, .ref CNoMatch, .ref CNoText, .ref CTooMany], false, rfl, upd_same, .cons (.own _) (.cons (.own _) (.cons (.own _) (.cons (.own _) (.cons (.own _) .nil)))), .e x_NoRow.e ((Same.new np) _ _ he) (fun _ z => by cases z), kit_none _ (fun c hc => ?_), ?_⟩⟩
      · simp only [List.mem_cons, List.not_mem_nil, or_false] at hc
        rcases hc with rfl | rfl | rfl | rfl | rfl
        · exact kit_no x_NoChange.toExcT su_NoRow_NoRow su_NoRow_NoChange
        · exact kit_no x_NoDepth su_NoRow_NoRow su_NoRow_NoDepth
        · exact kit_no x_NoMatch su_NoRow_NoRow su_NoRow_NoMatch
        · exact kit_no x_NoText su_NoRow_NoRow su_NoRow_NoText
        · exact kit_no x_TooMany su_NoRow_NoRow su_NoRow_TooMany
      have s2 := Same.new (o := .tup [.ref CNoChange, .ref CNoDepth, .ref CNoMatch, .ref CNoText, .ref CTooMany]) np
      have he2 := s2 _ _ he
      refine ⟨_, rfl, _, _, .ref CNoRow, _, true, rfl, .ty "ValueError", .e x_NoRow.e he2 (fun _ z => by cases z), kit_ve (by decide +kernel) su_NoRow_ValueError, ?_⟩
      refine ⟨_, rfl, ?_⟩
      rw [if_pos rfl]
      refine ⟨_, rfl, _, rfl, small 2, fun L nL => ?_⟩
      exact hQ L _ ((s1.trans s2).trans (Same.new nL)) upd_same
end
end K76
set_option Elab.async false
set_option linter.all false
set_option maxRecDepth 100000
set_option maxHeartbeats 4000000
namespace K76
open PySem PySem.Spec PyProof.Rows L2 GX
open C8 (Cal pe_c pe_gc Met Mak)
-- @dict CHANGES
-- @no CHANGES 0 ""
-- @no CHANGES 1 "0"
-- @no CHANGES 2 "way"
-- @no CHANGES 3 "Kind"
-- @no CHANGES 4 "leads"
-- @dict QUESTIONS
-- @no QUESTIONS 0 "gate"
-- @no QUESTIONS 1 "kind"
-- @no QUESTIONS 2 "lead"
-- @no QUESTIONS 3 "less"
-- @no QUESTIONS 4 "outs"
-- @exc CoverError
-- @exc NoText
-- @exc NoDepth
-- @exc TooMany
-- @exc NoMatch
-- @exc NoChange made
-- @exc NoRow made
-- @sub NoChange NoChange true
-- @sub NoRow NoRow true
-- @sub NoRow ValueError true
-- @sub NoRow NoText false
-- @sub NoRow NoDepth false
-- @sub NoRow TooMany false
-- @sub NoRow NoMatch false
-- @sub NoRow NoChange false
-- @cls Keeper k:i,held:N,kept:t[t[t[i]]]
-- @cls Desk keeper:OKeeper
section
variable {P : Program} {w : World} {K : PySem.W.Frag} {mg : Str → Option Value} {base : Heap} {Ts : List Addr}
def spPutIn : Sp := fun vs H Q _ => ∃ (p : Addr) (xs : List V) (i : Nat) (v : V), vs = [.ref p, nV i, v] ∧ H p = some (.tup xs) ∧ i < xs.length ∧ xs.length ≤ 1000 ∧ ∀ r H', Same H H' → H' r = some (.tup (xs.set i v)) → Q (.ref r) H'
theorem ok_putin {f c : Addr} (D : Dfn K mg "_law_put_in" s__law_put_in f c) (T : Txt mg) : Cal P w K mg base 1 "_law_put_in" spPutIn [] := by
  refine cal D (fun _ _ _ _ _ _ us hl => match us, hl with | [_, _, _], _ => rfl) sc__law_put_in (fun vs H Q E h => ?_) (fun A outer s H vs Q E hr h => ?_)
  · obtain ⟨p, xs, i, v, rfl, _⟩ := h
    rfl
  · obtain ⟨p, xs, i, v, rfl, hp, hi, hl, q⟩ := h
    refine ⟨_, (pss_one (ps_ret (pe_op op_catA (pe_op op_catA (pe_slice sl_tupA (pv 0) po_none (po_some (pv 1))) (pe_tup (pa_cons (pv 2) pa_nil))) (pe_slice sl_tupA (pv 0) (po_some (pe_op op_add (pv 1) pe_int)) po_none)))), ?_⟩
    clear hr
    refine ⟨_, rfl, _, rfl, _, rfl, ?_⟩
    refine slA (lo := none) (hi := some ((i : Nat) : Int)) hp fun r1 H1 s1 h1 => ?_
    rw [cut_hi] at h1
    refine ⟨_, rfl, small 1, fun t1 nt1 => ?_⟩
    have s2 := Same.new (o := .tup [v]) nt1
    refine catA (s2 _ _ h1) upd_same (by rw [List.length_take]; exact Nat.le_trans (show _ ≤ 1001 by show min _ _ + 1 ≤ 1001; omega) (small 1001)) fun r2 H2 s3 h2 => ?_
    have s13 := (s1.trans s2).trans s3
    refine ⟨_, rfl, _, rfl, _, _, rfl, rfl, _, rfl, ?_⟩
    have e1 : ((i : Nat) : Int) + 1 = ((i + 1 : Nat) : Int) := by omega
    unfold tNoPart
    refine slA (lo := some (((i : Nat) : Int) + 1)) (hi := none) (s13 _ _ hp) fun r3 H3 s4 h3 => ?_
    rw [e1, cut_lo] at h3
    refine catA (s4 _ _ h2) h3 (by rw [List.length_append, List.length_take, List.length_drop]; exact Nat.le_trans (show _ ≤ 2001 by show min _ _ + 1 + _ ≤ 2001; omega) (small 2001)) fun r4 H4 s5 h4 => ?_
    refine q r4 H4 ((s13.trans s4).trans s5) ?_
    rw [h4, List.set_eq_take_append_cons_drop, if_pos hi, List.append_assoc]
    rfl
end
section
theorem nx_seq {t u : TS} {D D0 : Ends} {σ : L2.St} {H : Hp} (e : D0.nx = tSeq t u D) (h : tSeq t u D σ H) : D0.nx σ H := by rw [e]; exact h
theorem gIf_cut {tt : TT} {a b u : TS} {D : Ends} {σ : L2.St} {H : Hp} {i : Nat} {x : V} (Iv : Bool → Hp → Prop) (h1 : ∀ Q' : Bool → Hp → Prop, (∀ v H', Iv v H' → Q' v H') → tt (σ.set i (some x)) H Q') (h2 : ∀ v H', Iv v H' → if v = true then a { D with nx := u D } (σ.set i (some x)) H' else b { D with nx := u D } (σ.set i (some x)) H') : gName i x σ H (tSeq (tIfS tt a b) u D) := h1 _ h2
/-- the same behind an if that was not taken -/
theorem nIf_cut {tt : TT} {a b u : TS} {D D' : Ends} {σ : L2.St} {H : Hp} (e : D'.nx = tSeq (tIfS tt a b) u D) (Iv : Bool → Hp → Prop) (h1 : ∀ Q' : Bool → Hp → Prop, (∀ v H', Iv v H' → Q' v H') → tt σ H Q') (h2 : ∀ v H', Iv v H' → if v = true then a { D with nx := u D } σ H' else b { D with nx := u D } σ H') : tNext D' σ H := by
  show D'.nx σ H
  rw [e]
  exact h1 _ h2
end
section
variable {P : Program} {w : World} {K : PySem.W.Frag} {mg : Str → Option Value} {base : Heap} {Ts : List Addr}
open TL
/-- a row that changes the net n, and what comes of it: of none, no change; else the changed net -/
def ChRow (n : Net) (H : Hp) (x : Str) (v : V) : Prop := ∃ (h : Str) (ns : List Nat), x = rowS (tl h) ns ∧ h ∈ wordsQ ∧ ns.length ≤ 9 ∧ (∀ y ∈ ns, y < 100) ∧
  ((v = .non ∧ ¬ IsChg n (chgTh h (some ns))) ∨ (∃ ch : Chg, ch.Ok n ∧ ch.th = chgTh h (some ns) ∧ ∃ a g o ps, v = .ref a ∧ NetAt H a (doN n ch) g o ps))
def spLChD : Sp := fun vs H Q _ => ∃ (W C a : Addr) (n : Net) (g o : Addr) (ps : List Addr) (m : Nat), vs = [.ref W, .ref a, nV m] ∧ Wd H W C ∧ NetAt H a n g o ps ∧ n.Ok ∧ m ≤ 16 ∧
  ∀ p H' (x : Str) (v : V), Wk2 W C H H' → H' p = some (.tup [.str x, v]) → ChRow n H' x v → Q (.ref p) H'
theorem ok_lchd {f c : Addr} (D : Dfn K mg "_law_change" s__law_change f c) (T : Txt mg) (c__law_draw : Cal P w K mg base 2 "_law_draw" spDraw []) (c__law_put_in : Cal P w K mg base 1 "_law_put_in" spPutIn []) : Cal P w K mg base 3 "_law_change" spLChD [] := by
  refine cal D (fun _ _ _ _ _ _ us hl => match us, hl with | [_, _, _], _ => rfl) sc__law_change (fun vs H Q E h => ?_) (fun A outer s H vs Q E hr h => ?_)
  · obtain ⟨W, C, a, n, g, o, ps, m, rfl, _⟩ := h
    rfl
  · obtain ⟨W, C, a, n, g, o, ps, m, rfl, hW, N, ok, m16, q⟩ := h
    refine ⟨_, (pss_cons (ps_set (i := 3) sc__law_change.nd rfl (by first | exact Or.inl rfl | exact Or.inr rfl) (pe_c c__law_draw hr (by decide) (by rfl) (pa_cons (pv 0) (pa_cons pe_int pa_nil))))
      (pss_cons (ps_asg (pv 1) (pg_tup rfl (pgs_cons (pg_name (i := 4) sc__law_change.nd rfl (by first | exact Or.inl rfl | exact Or.inr rfl)) (pgs_cons (pg_name (i := 5) sc__law_change.nd rfl (by first | exact Or.inl rfl | exact Or.inr rfl)) (pgs_cons (pg_name (i := 6) sc__law_change.nd rfl (by first | exact Or.inl rfl | exact Or.inr rfl)) pgs_nil)))))
      (pss_cons (ps_if (PW.pt (pw_and (pt_cmpR op_lt (pv 3) pe_int (nomark _)) (pw_and1 (pt_chain op_eq op_lt (pe_callB call_len_seq (by rfl) T.b_len (by decide +kernel) (pa_cons (pv 5) pa_nil)) (pv 2) pe_int)))) (pss_one (ps_set (i := 3) sc__law_change.nd rfl (by first | exact Or.inl rfl | exact Or.inr rfl) (pe_op op_add pe_int (pv 3)))) pss_nil)
      (pss_cons (ps_set (i := 7) sc__law_change.nd rfl (by first | exact Or.inl rfl | exact Or.inr rfl) (pe_op op_add (pv 4) (pe_callB call_len_seq (by rfl) T.b_len (by decide +kernel) (pa_cons (pv 5) pa_nil))))
      (pss_cons (ps_set (i := 8) sc__law_change.nd rfl (by first | exact Or.inl rfl | exact Or.inr rfl) (pe_c c__law_draw hr (by decide) (by rfl) (pa_cons (pv 0) (pa_cons (pe_callB (call_max2 rfl) (by rfl) T.b_max (by decide +kernel) (pa_cons pe_int (pa_cons (pe_callB call_len_seq (by rfl) T.b_len (by decide +kernel) (pa_cons (pv 5) pa_nil)) pa_nil))) pa_nil))))
      (pss_cons (ps_set (i := 9) sc__law_change.nd rfl (by first | exact Or.inl rfl | exact Or.inr rfl) (pe_c c__law_draw hr (by decide) (by rfl) (pa_cons (pv 0) (pa_cons (pe_op op_add (pv 7) pe_int) pa_nil))))
      (pss_cons (ps_set (i := 10) sc__law_change.nd rfl (by first | exact Or.inl rfl | exact Or.inr rfl) (pe_c c__law_draw hr (by decide) (by rfl) (pa_cons (pv 0) (pa_cons (pe_op op_add (pv 7) (pe_ix ix_list (pe_lst (pa_cons pe_int (pa_cons pe_int pa_nil))) (pe_callTy call_int1 (by rfl) T.b_int (by decide +kernel) (pa_cons (pe_cmpR op_eq (pv 3) pe_int (nomark _)) pa_nil)) (fun _ _ => rfl))) pa_nil))))
      (pss_cons (ps_set (i := 11) sc__law_change.nd rfl (by first | exact Or.inl rfl | exact Or.inr rfl) (pe_c c__law_draw hr (by decide) (by rfl) (pa_cons (pv 0) (pa_cons pe_int pa_nil))))
      (pss_cons (ps_if (pt_cmpR op_lt (pv 3) pe_int (nomark _)) (pss_cons (ps_set (i := 12) sc__law_change.nd rfl (by first | exact Or.inl rfl | exact Or.inr rfl) (pe_op op_add_str (pe_op op_add_str (pe_op op_add_str (pe_op op_add_str (pe_op op_add_str pe_str (pe_callTy call_str_int (by rfl) T.b_str (by decide +kernel) (pa_cons (pv 11) pa_nil))) pe_str) (pe_callTy call_str_int (by rfl) T.b_str (by decide +kernel) (pa_cons (pv 9) pa_nil))) pe_str) (pe_callTy call_str_int (by rfl) T.b_str (by decide +kernel) (pa_cons (pv 10) pa_nil))))
      (pss_cons (ps_if (PW.pt (pw_or (pt_cmpR op_gt (pv 11) pe_int (nomark _)) (pw_or (pt_cmpR op_ge (pv 9) (pv 7) (nomark _)) (pw_or (pt_cmpR op_ge (pv 10) (pv 7) (nomark _)) (pw_or1 (pt_cmpR op_eq (pe_callB call_len_seq (by rfl) T.b_len (by decide +kernel) (pa_cons (pv 5) pa_nil)) pe_int (nomark _))))))) (pss_one (ps_ret (pe_tup (pa_cons (pv 12) (pa_cons pe_non pa_nil))))) pss_nil)
      (pss_one (ps_ret (pe_tup (pa_cons (pv 12) (pa_cons (pe_tup (pa_cons (pv 4) (pa_cons (pe_op op_catA (pv 5) (pe_tup (pa_cons (pe_tup (pa_cons (pv 11) (pa_cons (pv 9) (pa_cons (pv 10) pa_nil)))) pa_nil))) (pa_cons (pv 6) pa_nil)))) pa_nil))))))) pss_nil)
      (pss_cons (ps_if (PW.pt (pw_and (pt_cmpR op_eq (pv 3) pe_int (nomark _)) (pw_and1 (PW.pt (pw_or (pt_cmpR (op_eq0 hr.units0) (pv 5) (pe_tup pa_nil) (nomark _)) (pw_or1 (pt_cmpR op_eq (pe_callB (cr_maxTu rfl) (by rfl) T.b_max (by decide +kernel) (pa_cons (pv 6) pa_nil)) (pe_op op_sub (pv 7) pe_int) (nomark _)))))))) (pss_one (ps_ret (pe_tup (pa_cons pe_str (pa_cons pe_non pa_nil))))) pss_nil)
      (pss_cons (ps_if (pt_cmpR op_eq (pv 3) pe_int (nomark _)) (pss_one (ps_ret (pe_tup (pa_cons pe_str (pa_cons (pe_tup (pa_cons (pv 4) (pa_cons (pe_slice sl_tupA (pv 5) po_none (po_some (pe_un un_neg pe_int))) (pa_cons (pv 6) pa_nil)))) pa_nil))))) pss_nil)
      (pss_cons (ps_if (pt_cmpR op_gt (pv 3) pe_int (nomark _)) (pss_cons (ps_set (i := 13) sc__law_change.nd rfl (by first | exact Or.inl rfl | exact Or.inr rfl) (pe_callTy call_tuple_of (by rfl) T.b_tuple (by decide +kernel) (pa_cons (pe_lc (own := [("_law_turn", 14)]) (g := gName 14) (tt := tYes) rfl sc__law_change.nd (pi_range1 (by rfl) T.b_range (pa_cons (pe_c c__law_draw hr (by decide) (by rfl) (pa_cons (pv 0) (pa_cons pe_int pa_nil))) pa_nil)) (blkOk_by (own := [("_law_turn", 14)]) (N := ["_law_deck_here", "_law_net", "_law_most", "_law_way", "_law_many", "_law_gates", "_law_outs", "_law_wires", "_law_at", "_law_one", "_law_other", "_law_kind", "_law_text", "_law_led", "_law_turn", "_law_wire", "_law_side"]) (sc := defScope s__law_change) (by decide +kernel)) (fun _ _ _ _ _ => (pg_name (i := 14) sc__law_change.nd rfl (by first | exact Or.inl rfl | exact Or.inr rfl))) (fun _ _ _ _ _ => pts_nil) (fun _ _ _ _ _ => (pe_c c__law_draw hr (by decide) (by rfl) (pa_cons (pv 0) (pa_cons (pv 7) pa_nil))))) pa_nil)))
      (pss_cons (ps_set (i := 13) sc__law_change.nd rfl (by first | exact Or.inl rfl | exact Or.inr rfl) (pe_op op_catA (pv 13) (pe_tup (pa_cons (pv 10) pa_nil))))
      (pss_cons (ps_set (i := 12) sc__law_change.nd rfl (by first | exact Or.inl rfl | exact Or.inr rfl) (pe_op op_add_str pe_str (pe_join pe_str (pe_lc (own := [("_law_wire", 15)]) (g := gName 15) (tt := tYes) rfl sc__law_change.nd (pi_tup (pv 13)) (blkOk_by (own := [("_law_wire", 15)]) (N := ["_law_deck_here", "_law_net", "_law_most", "_law_way", "_law_many", "_law_gates", "_law_outs", "_law_wires", "_law_at", "_law_one", "_law_other", "_law_kind", "_law_text", "_law_led", "_law_turn", "_law_wire", "_law_side"]) (sc := defScope s__law_change) (by decide +kernel)) (fun _ _ _ _ _ => (pg_name (i := 15) sc__law_change.nd rfl (by first | exact Or.inl rfl | exact Or.inr rfl))) (fun _ _ _ _ _ => pts_nil) (fun _ _ _ _ _ => (pe_callTy call_str_int (by rfl) T.b_str (by decide +kernel) (pa_cons (pv 15) pa_nil)))))))
      (pss_cons (ps_if (PW.pt (pw_or (pt_cmpR op_gt (pe_callB call_len_seq (by rfl) T.b_len (by decide +kernel) (pa_cons (pv 13) pa_nil)) pe_int (nomark _)) (pw_or1 (pt_cmpR op_ge (pv 10) (pv 7) (nomark _))))) (pss_one (ps_ret (pe_tup (pa_cons (pv 12) (pa_cons pe_non pa_nil))))) pss_nil)
      (pss_one (ps_ret (pe_tup (pa_cons (pv 12) (pa_cons (pe_tup (pa_cons (pv 4) (pa_cons (pv 5) (pa_cons (pv 13) pa_nil)))) pa_nil))))))))) pss_nil)
      (pss_cons (ps_if (pt_cmpR op_eq (pv 3) pe_int (nomark _)) (pss_cons (ps_set (i := 12) sc__law_change.nd rfl (by first | exact Or.inl rfl | exact Or.inr rfl) (pe_op op_add_str (pe_op op_add_str (pe_op op_add_str pe_str (pe_callTy call_str_int (by rfl) T.b_str (by decide +kernel) (pa_cons (pe_op op_add (pv 4) (pv 8)) pa_nil))) pe_str) (pe_callTy call_str_int (by rfl) T.b_str (by decide +kernel) (pa_cons (pv 11) pa_nil))))
      (pss_cons (ps_if (PW.pt (pw_or (pt_cmpR (op_eq0 hr.units0) (pv 5) (pe_tup pa_nil) (nomark _)) (pw_or1 (pt_cmpR op_gt (pv 11) pe_int (nomark _))))) (pss_one (ps_ret (pe_tup (pa_cons (pv 12) (pa_cons pe_non pa_nil))))) pss_nil)
      (pss_one (ps_ret (pe_tup (pa_cons (pv 12) (pa_cons (pe_tup (pa_cons (pv 4) (pa_cons (pe_c c__law_put_in hr (by decide) (by rfl) (pa_cons (pv 5) (pa_cons (pv 8) (pa_cons (pe_op op_catA (pe_tup (pa_cons (pv 11) pa_nil)) (pe_slice sl_tupA (pe_ix ix_tup (pv 5) (pv 8) (fun _ _ => rfl)) (po_some pe_int) po_none)) pa_nil)))) (pa_cons (pv 6) pa_nil)))) pa_nil))))))) pss_nil)
      (pss_cons (ps_set (i := 16) sc__law_change.nd rfl (by first | exact Or.inl rfl | exact Or.inr rfl) (pe_c c__law_draw hr (by decide) (by rfl) (pa_cons (pv 0) (pa_cons pe_int pa_nil))))
      (pss_cons (ps_set (i := 12) sc__law_change.nd rfl (by first | exact Or.inl rfl | exact Or.inr rfl) (pe_op op_add_str (pe_op op_add_str (pe_op op_add_str (pe_op op_add_str (pe_op op_add_str pe_str (pe_callTy call_str_int (by rfl) T.b_str (by decide +kernel) (pa_cons (pe_op op_add (pv 4) (pv 8)) pa_nil))) pe_str) (pe_callTy call_str_int (by rfl) T.b_str (by decide +kernel) (pa_cons (pv 16) pa_nil))) pe_str) (pe_callTy call_str_int (by rfl) T.b_str (by decide +kernel) (pa_cons (pv 9) pa_nil))))
      (pss_cons (ps_if (PW.pt (pw_or (pt_cmpR (op_eq0 hr.units0) (pv 5) (pe_tup pa_nil) (nomark _)) (pw_or1 (pt_cmpR op_ge (pv 9) (pe_op op_add (pv 4) (pv 8)) (nomark _))))) (pss_one (ps_ret (pe_tup (pa_cons (pv 12) (pa_cons pe_non pa_nil))))) pss_nil)
      (pss_one (ps_ret (pe_tup (pa_cons (pv 12) (pa_cons (pe_tup (pa_cons (pv 4) (pa_cons (pe_c c__law_put_in hr (by decide) (by rfl) (pa_cons (pv 5) (pa_cons (pv 8) (pa_cons (pe_c c__law_put_in hr (by decide) (by rfl) (pa_cons (pe_ix ix_tup (pv 5) (pv 8) (fun _ _ => rfl)) (pa_cons (pe_op op_add pe_int (pv 16)) (pa_cons (pv 9) pa_nil)))) pa_nil)))) (pa_cons (pv 6) pa_nil)))) pa_nil))))))))))))))))))))), ?_⟩
    have m8 := ok.m8
    have m1 := ok.m1
    have g16 := ok.g16
    have o1 := ok.o1
    have o8 := ok.o8
    refine ⟨_, rfl, W, C, 10, rfl, hW, by decide, by decide, fun way H1 w0 w1 k1 => ?_⟩
    obtain ⟨way, rfl⟩ := Int.eq_ofNat_of_zero_le w0
    have N1 : NetAt H1 a n g o ps := N.mono fun b xs e => hW.tup k1 e
    refine ⟨_, rfl, a, _, rfl, SqT.of N1.top, rfl, _, _, rfl, _, _, rfl, _, _, rfl, rfl, ?_⟩
    have gl : (ps.map V.ref).length = n.gates.length := by rw [List.length_map, N.gs.1]
    have egl : V.int (((ps.map V.ref).length : Nat) : Int) = nV n.gates.length := by rw [gl]; rfl
    with_reducible refine nx_seq rfl ?_
    with_reducible refine seq_cut (fun σ H' => H' = H1 ∧ ∃ wy : Nat, wy < 10 ∧ σ = [some (.ref W), some (.ref a), some (nV m), some (nV wy), some (nV n.many), some (.ref g), some (.ref o), none, none, none, none, none, none, none, none, none, none]) (fun B hB => ?_) ?_
    · refine ⟨_, rfl, _, _, rfl, rfl, _, rfl, ite2 (fun h1 => ?_) (fun h1 => hB _ _ ⟨rfl, way, by omega, rfl⟩)⟩
      have h1 := of_decide_eq_true h1
      have hin : B [some (.ref W), some (.ref a), some (nV m), some (nV way), some (nV n.many), some (.ref g), some (.ref o), none, none, none, none, none, none, none, none, none, none] H1 := hB _ _ ⟨rfl, way, by omega, rfl⟩
      refine ⟨_, rfl, g, _, rfl, .inr (SqT.of N1.gt), _, rfl, rfl, _, rfl, ite2 (fun h2 => ?_) (fun h2 => ⟨_, rfl, hin⟩)⟩
      refine ⟨_, _, rfl, rfl, _, rfl, ite2 (fun h3 => ?_) (fun h3 => hin)⟩
      refine ⟨_, rfl, _, _, rfl, rfl, ?_⟩
      exact hB _ _ ⟨rfl, 5 + way, by omega, by rw [show nV (5 + way) = V.int (5 + ((way : Nat) : Int)) from congrArg V.int (by omega)]; rfl⟩
    rintro σ H1' ⟨rfl, wy, wy10, rfl⟩
    have ewr : V.int (((n.many : Nat) : Int) + (((ps.map V.ref).length : Nat) : Int)) = nV (n.many + n.gates.length) := congrArg V.int (by rw [gl]; omega)
    refine ⟨_, rfl, _, rfl, g, _, rfl, .inr (SqT.of N1.gt), _, _, rfl, rfl, ?_⟩
    dsimp -proj only
    rw [ewr]
    generalize hwr : n.many + n.gates.length = wr
    have wr24 : wr ≤ 24 := by omega
    have wr1 : 1 ≤ wr := by omega
    refine ⟨_, rfl, _, rfl, g, _, rfl, .inr (SqT.of N1.gt), _, _, rfl, W, C, _, rfl, k1.wl, by rw [gl]; split <;> omega, by rw [gl]; split <;> omega, fun at0' H2 d0 d1 k2 => ?_⟩
    obtain ⟨at_, rfl⟩ := Int.eq_ofNat_of_zero_le d0
    have hat : at_ = 0 ∨ at_ < n.gates.length := by rw [gl] at d1; split at d1 <;> omega
    have hat24 : n.many + at_ < 24 := by omega
    clear d0 d1
    refine ⟨_, rfl, _, rfl, _, _, rfl, rfl, W, C, _, rfl, k2.wl, by omega, by omega, fun one H3 e0 e1 k3 => ?_⟩
    obtain ⟨one, rfl⟩ := Int.eq_ofNat_of_zero_le e0
    obtain ⟨ex, hex, ex1⟩ : ∃ ex : Nat, atI [V.int 0, V.int 1] (if decide (nV wy = V.int 9) = true then 1 else 0) = some (nV ex) ∧ ex ≤ 1 := by
      cases decide (nV wy = V.int 9)
      · exact ⟨0, rfl, by decide⟩
      · exact ⟨1, rfl, by decide⟩
    refine ⟨_, rfl, _, rfl, small 2, fun L1 nL1 => ⟨_, rfl, rfl, .inr ⟨_, rfl, L1, _, _, _, rfl, rfl, SqL.of upd_same, hex, _, _, rfl, rfl, ?_⟩⟩⟩
    have k3' := k3.new (o := .lst [V.int 0, V.int 1]) nL1
    refine ⟨W, C, _, rfl, k3'.wl, by omega, by omega, fun oth H4 f0 f1 k4 => ?_⟩
    obtain ⟨oth, rfl⟩ := Int.eq_ofNat_of_zero_le f0
    refine ⟨_, rfl, W, C, 17, rfl, k4.wl, by decide, by decide, fun kd H5 g0 g1 k5 => ?_⟩
    obtain ⟨kd, rfl⟩ := Int.eq_ofNat_of_zero_le g0
    have k15 := (((k1.nxt k2).nxt k3').nxt k4).nxt k5
    have one25 : one < 26 := by omega
    have oth26 : oth < 26 := by omega
    have kd17 : kd < 17 := by omega
    clear e0 e1 f0 f1 g0 g1 hex
    have N5 : NetAt H5 a n g o ps := N.mono fun b xs e => hW.tup k15 e
    have wl5 := k15.wl
    have sz : sizeLine = 16777216 := by decide
    have lk : (Str.ofString (toString ((kd : Nat) : Int))).length ≤ 2 := nS_len (by omega)
    have lo : (Str.ofString (toString ((one : Nat) : Int))).length ≤ 2 := nS_len (by omega)
    have lt : (Str.ofString (toString ((oth : Nat) : Int))).length ≤ 2 := nS_len (by omega)
    have la : (Str.ofString (toString ((n.many + at_ : Nat) : Int))).length ≤ 2 := nS_len (by omega)
    have ls : (Str.ofString " ").length = 1 := by decide +kernel
    have l5 : (Str.ofString "gate ").length = 5 ∧ (Str.ofString "kind ").length = 5 ∧ (Str.ofString "lead ").length = 5 ∧ (Str.ofString "outs ").length = 5 := by decide +kernel
    have thI : ∀ {x y : Nat}, thW x = thN y → x = y := fun e => thW_inj _ _ e
    refine ⟨_, rfl, _, _, rfl, rfl, _, rfl, ite2 (fun c1 => ?_) (fun c1 => ?_)⟩
    · refine ⟨_, rfl, _, rfl, lg100 kd (by omega), _, _, rfl, rfl, by omega, _, _, rfl, rfl, by rw [app_len]; omega, _, rfl, _, rfl, lg100 one (by omega), _, _, rfl, rfl, by rw [app_len, app_len]; omega, _, _, rfl, rfl, by rw [app_len, app_len, app_len]; omega, _, rfl, _, rfl, lg100 oth (by omega), _, _, rfl, rfl, by rw [app_len, app_len, app_len, app_len]; omega, ?_⟩
      rw [text3 (h := "gate") (by decide +kernel)]
      with_reducible refine gIf_cut (fun b H' => H' = H5 ∧ (b = true ↔ (15 < kd ∨ wr ≤ one ∨ wr ≤ oth ∨ n.gates.length = 16))) (fun Q' hQ => ?_) ?_
      · refine ⟨_, rfl, _, _, rfl, rfl, _, rfl, ite2 (fun d1 => hQ _ _ ⟨rfl, fun _ => .inl (by have := of_decide_eq_true d1; omega), fun _ => rfl⟩) (fun d1 => ?_)⟩
        have d1 : ¬ 15 < kd := fun z => d1 (decide_eq_true (by omega))
        refine ⟨_, rfl, _, rfl, _, _, rfl, rfl, _, rfl, ite2 (fun d2 => hQ _ _ ⟨rfl, fun _ => .inr (.inl (by have := of_decide_eq_true d2; omega)), fun _ => rfl⟩) (fun d2 => ?_)⟩
        have d2 : ¬ wr ≤ one := fun z => d2 (decide_eq_true (by omega))
        refine ⟨_, rfl, _, rfl, _, _, rfl, rfl, _, rfl, ite2 (fun d3 => hQ _ _ ⟨rfl, fun _ => .inr (.inr (.inl (by have := of_decide_eq_true d3; omega))), fun _ => rfl⟩) (fun d3 => ?_)⟩
        have d3 : ¬ wr ≤ oth := fun z => d3 (decide_eq_true (by omega))
        refine ⟨_, rfl, g, _, rfl, .inr (SqT.of N5.gt), rfl, _, rfl, ?_⟩
        refine hQ _ _ ⟨rfl, fun z => .inr (.inr (.inr ?_)), fun z => ?_⟩
        · have := V.int.inj (of_decide_eq_true z)
          rw [gl] at this
          omega
        · rcases z with z | z | z | z
          · exact absurd z d1
          · exact absurd z d2
          · exact absurd z d3
          · exact decide_eq_true (congrArg V.int (by rw [gl]; omega))
      rintro b H5' ⟨rfl, hb⟩
      have erow : ∀ c : Chg, c.th = chgTh "gate" (some [kd, one, oth]) → c = .more kd one oth := fun c e => by
        have e : c.th = .tup [.str "more", thN kd, thN one, thN oth] := e
        cases c with
        | more x y z =>
          injection e with e
          injection e with e1 e
          injection e with e2 e
          injection e with e3 e
          injection e with e4 e
          rw [thI e2, thI e3, thI e4]
        | _ => injection e with e; injection e with e1 e; injection e1 with e1; exact absurd e1 (by decide +kernel)
      cases b with
      | true =>
        refine iteT ?_
        refine ⟨_, rfl, small 2, fun p np => q p _ _ _ (k15.new np) upd_same ⟨"gate", [kd, one, oth], rfl, by decide +kernel, by show 3 ≤ 9; decide, fun y hy => by simp only [List.mem_cons, List.not_mem_nil, or_false] at hy; omega, .inl ⟨rfl, fun ⟨c, cok, e⟩ => ?_⟩⟩⟩
        rw [erow c e] at cok
        obtain ⟨x1, x2, x3, x4⟩ := cok
        have := hb.mp rfl
        omega
      | false =>
        refine iteF ?_
        have nb : ¬ (15 < kd ∨ wr ≤ one ∨ wr ≤ oth ∨ n.gates.length = 16) := fun z => by have := hb.mpr z; cases this
        refine ⟨_, rfl, _, rfl, _, rfl, _, rfl, _, rfl, _, rfl, small 3, fun t0 nt0 => ⟨small 1, fun t1 nt1 => ?_⟩⟩
        have s1 := Same.new (o := .tup [V.int ((kd : Nat) : Int), V.int ((one : Nat) : Int), V.int ((oth : Nat) : Int)]) nt0
        have h0 : upd H5' t0 (.tup [V.int ((kd : Nat) : Int), V.int ((one : Nat) : Int), V.int ((oth : Nat) : Int)]) t0 = some (.tup (gV (kd, one, oth))) := upd_same
        generalize upd H5' t0 (.tup [V.int ((kd : Nat) : Int), V.int ((one : Nat) : Int), V.int ((oth : Nat) : Int)]) = H6 at s1 h0 nt1 ⊢
        have s2 := Same.new (o := .tup [V.ref t0]) nt1
        refine catA (s2 _ _ (s1 _ _ N5.gt)) upd_same (by rw [gl]; exact Nat.le_trans (show _ ≤ 17 by show _ + 1 ≤ 17; omega) (small 17)) fun r H7 s3 hr => ?_
        have s13 := (s1.trans s2).trans s3
        refine ⟨_, rfl, small 3, fun ta nta => ⟨small 2, fun p np => ?_⟩⟩
        have s4 := Same.new (o := .tup [nV n.many, V.ref r, V.ref o]) nta
        have s5 := Same.new (o := .tup [V.str (rowS (tl ("gate" : Str)) [kd, one, oth]), V.ref ta]) np
        have s45 := s4.trans s5
        refine q p _ _ _ (k15.same (s13.trans s45)) upd_same ⟨"gate", [kd, one, oth], rfl, by decide +kernel, by show 3 ≤ 9; decide, fun y hy => by simp only [List.mem_cons, List.not_mem_nil, or_false] at hy; omega, .inr ⟨.more kd one oth, ⟨by omega, by omega, by omega, by omega⟩, rfl, ta, r, o, ps ++ [t0], rfl, s5 _ _ upd_same, ?_, ?_, s45 _ _ (s13 _ _ N5.ot)⟩⟩
        · rw [s45 _ _ hr, List.map_append]
          rfl
        · exact (N5.gs.mono fun b xs e => s45 _ _ (s13 _ _ e)).push (s45 _ _ ((s2.trans s3) _ _ h0))
    have c1 : ¬ wy < 5 := fun z => c1 (decide_eq_true (Int.ofNat_lt.mpr z))
    have el : tl (Str.ofString "less") = tl ("less" : Str) := rfl
    have rless : Str.ofString "less" = rowS (tl ("less" : Str)) [] := ext_tl rfl
    have eless : ∀ c : Chg, c.th = chgTh "less" (some []) → c = .less := fun c e => by
      have e : c.th = .tup [.str "less"] := e
      cases c with
      | less => rfl
      | _ => injection e with e; injection e with e1 e; injection e1 with e1; exact absurd e1 (by decide +kernel)
    with_reducible refine nIf_cut rfl (fun b H' => Same H5 H' ∧ (b = true ↔ (wy = 5 ∧ (n.gates.length = 0 ∨ ∃ x ∈ n.outs, x + 1 = wr)))) (fun Q' hQ => ?_) ?_
    · refine ⟨_, rfl, rfl, _, rfl, ite2 (fun c2 => ?_) (fun c2 => hQ _ _ ⟨Same.refl _, fun z => (by cases z), fun z => absurd (decide_eq_true (congrArg V.int (congrArg Int.ofNat z.1))) c2⟩)⟩
      have c2 : wy = 5 := by have := V.int.inj (of_decide_eq_true c2); omega
      refine ⟨_, rfl, small 0, fun z nz => ?_⟩
      have s1 := Same.new (o := .tup []) nz
      have hz : upd H5 z (.tup []) z = some (.tup []) := upd_same
      generalize upd H5 z (.tup []) = H6 at s1 hz ⊢
      have N6 := N5.same s1
      refine ⟨g, z, _, rfl, rfl, .inl ⟨SqT.of N6.gt, SqT.of hz⟩, _, rfl, ite2 (fun c3 => ?_) (fun c3 => ?_)⟩
      · have c3 := of_decide_eq_true c3
        rw [gl] at c3
        exact hQ _ _ ⟨s1, fun _ => ⟨c2, .inl c3⟩, fun _ => rfl⟩
      have c3 : n.gates.length ≠ 0 := fun z => c3 (decide_eq_true (by rw [gl]; exact z))
      refine ⟨_, rfl, o, n.outs.map (fun n : Nat => (n : Int)), rfl, by rw [mapV]; exact SqT.of N6.ot, by rw [List.length_map]; exact o1, fun mx hm hb => ⟨_, rfl, _, _, rfl, rfl, rfl, _, rfl, hQ _ _ ⟨s1, fun z => ?_, fun z => ?_⟩⟩⟩
      · have z := V.int.inj (of_decide_eq_true z)
        obtain ⟨x, hx, rfl⟩ := List.mem_map.mp hm
        exact ⟨c2, .inr ⟨x, hx, by omega⟩⟩
      · rcases z.2 with z | ⟨x, hx, ex⟩
        · exact absurd z c3
        · refine decide_eq_true (congrArg V.int ?_)
          have h1 := hb ((x : Nat) : Int) (List.mem_map.mpr ⟨x, hx, rfl⟩)
          obtain ⟨y, hy, rfl⟩ := List.mem_map.mp hm
          have := ok.os y hy
          omega
    rintro b H6 ⟨s6, hb⟩
    have k6 := k15.same s6
    have N6 := N5.same s6
    cases b with
    | true =>
      refine iteT ?_
      refine ⟨small 2, fun p np => q p _ _ _ (k6.new np) upd_same ⟨"less", [], rless, by decide +kernel, by decide, fun y hy => (by cases hy), .inl ⟨rfl, fun ⟨c, cok, e⟩ => ?_⟩⟩⟩
      rw [eless c e] at cok
      obtain ⟨x1, x2⟩ := cok
      rcases (hb.mp rfl).2 with z | ⟨x, hx, ex⟩
      · omega
      · have := x2 x hx
        omega
    | false =>
    refine iteF ?_
    have nb : ¬ (wy = 5 ∧ (n.gates.length = 0 ∨ ∃ x ∈ n.outs, x + 1 = wr)) := fun z => by have := hb.mpr z; cases this
    refine ⟨_, rfl, rfl, _, rfl, ite2 (fun c2 => ?_) (fun c2 => ?_)⟩
    · have c2 : wy = 5 := by have := V.int.inj (of_decide_eq_true c2); omega
      have hg : 0 < n.gates.length := Nat.pos_of_ne_zero fun z => nb ⟨c2, .inl z⟩
      refine ⟨_, rfl, _, rfl, ?_⟩
      unfold tNoPart
      refine ⟨_, rfl, _, rfl, ?_⟩
      refine slA (lo := none) (hi := some (-1)) N6.gt fun r H7 s7 h7 => ?_
      rw [cut_neg _ (by rw [gl]; exact hg), gl, ← List.map_take] at h7
      refine ⟨_, rfl, small 3, fun ta nta => ⟨small 2, fun p np => ?_⟩⟩
      have s8 := Same.new (o := .tup [nV n.many, V.ref r, V.ref o]) nta
      have s9 := s8.trans (Same.new (o := .tup [V.str (Str.ofString "less"), V.ref ta]) np)
      refine q p _ _ _ ((k6.same s7).same s9) upd_same ⟨"less", [], rless, by decide +kernel, by decide, fun y hy => (by cases hy), .inr ⟨.less, ⟨hg, fun x hx => ?_⟩, rfl, ta, r, o, ps.take (n.gates.length - 1), rfl, (Same.new np) _ _ upd_same, s9 _ _ h7, ?_, s9 _ _ (s7 _ _ N6.ot)⟩⟩
      · have := ok.os x hx
        have : x + 1 ≠ wr := fun z => nb ⟨c2, .inr ⟨x, hx, z⟩⟩
        omega
      · have G := (N6.gs.mono fun b xs e => s9 _ _ (s7 _ _ e))
        refine ⟨by show (ps.take _).length = (n.gates.take _).length; rw [List.length_take, List.length_take, G.1], fun i p' g' e1 e2 => ?_⟩
        have e2 : (n.gates.take (n.gates.length - 1))[i]? = some g' := e2
        have hi := (List.getElem?_eq_some_iff.mp e2).1
        rw [List.length_take] at hi
        rw [List.getElem?_take_of_lt (by omega)] at e1 e2
        exact G.2 i p' g' e1 e2
    have c2 : wy ≠ 5 := fun z => c2 (decide_eq_true (congrArg V.int (congrArg Int.ofNat z)))
    refine ⟨_, rfl, _, _, rfl, rfl, _, rfl, ite2 (fun c3 => ?_) (fun c3 => ?_)⟩
    · refine ⟨_, rfl, W, C, 9, rfl, k6.wl, by decide, by decide, fun cnt H7 cn0 cn9 k7 => ⟨_, rfl, by omega, by omega, fun M nM => ?_⟩⟩
      have MW := k7.wl.new nM
      refine lc_range (lo := 0) (n := cnt.toNat) (fun i H' => ∃ ms : List Nat, Wk2 W C H7 H' ∧ H' M = some (.lst (ms.map nV)) ∧ ms.length = i ∧ ∀ x ∈ ms, x < wr) ⟨[], (Wk2.refl k7.wl).new nM, upd_same, rfl, fun x hx => by cases hx⟩ ?_ ?_
      · rintro i H8 hi ⟨ms, k8, hM8, ml, mb⟩
        refine ⟨rfl, ?_⟩
        unfold tYes
        refine iteT ?_
        refine ⟨_, rfl, _, rfl, W, C, _, rfl, k8.wl, by omega, by omega, fun v H9 v0 v1 k9 => ?_⟩
        obtain ⟨x, rfl⟩ := Int.eq_ofNat_of_zero_le v0
        have hM9 := k9.at_ MW hM8
        refine ⟨_, hM9, by rw [List.length_map, ml]; exact small256 (by omega), ms ++ [x], (k8.nxt k9).put nM MW, by rw [upd_same, List.map_append]; rfl, by rw [List.length_append, ml]; rfl, fun y hy => ?_⟩
        rcases List.mem_append.mp hy with h | h
        · exact mb y h
        · rw [List.mem_singleton.mp h]
          omega
      rintro H8 ⟨ms, k8, hM8, ml, mb⟩
      have ml8 : ms.length ≤ 8 := by omega
      refine ⟨M, _, rfl, .inl ⟨SqL.of hM8, fun p1 np1 => ?_⟩⟩
      have s9 := Same.new (o := .tup (ms.map nV)) np1
      have h9 : upd H8 p1 (.tup (ms.map nV)) p1 = some (.tup (ms.map nV)) := upd_same
      have k9 := (k6.nxt (k7.nxt k8)).same s9
      show gName _ _ _ (upd H8 p1 (.tup (ms.map nV))) _
      generalize upd H8 p1 (.tup (ms.map nV)) = H9 at h9 k9 ⊢
      refine ⟨_, rfl, _, rfl, small 1, fun t1 nt1 => ?_⟩
      have s10 := Same.new (o := .tup [V.int ((oth : Nat) : Int)]) nt1
      refine catA (s10 _ _ h9) upd_same (by rw [List.length_map]; exact Nat.le_trans (Nat.add_le_add_right ml8 _) (small 9)) fun r H10 s11 hr => ?_
      have hr : H10 r = some (.tup ((ms ++ [oth]).map nV)) := by rw [hr, List.map_append]; rfl
      have k10 := k9.same (s10.trans s11)
      have ob : ∀ x ∈ ms ++ [oth], x < 100 := fun x hx => by
        rcases List.mem_append.mp hx with h | h
        · have := mb x h; omega
        · rw [List.mem_singleton.mp h]; omega
      have ol : (ms ++ [oth]).length ≤ 9 := by rw [List.length_append]; show _ + 1 ≤ 9; omega
      have hos : (∀ x ∈ ms ++ [oth], x < wr) ↔ ¬ wr ≤ oth := ⟨fun z => by have := z oth (List.mem_append_right _ (List.mem_singleton.mpr rfl)); omega, fun z x hx => by
        rcases List.mem_append.mp hx with h | h
        · exact mb x h
        · rw [List.mem_singleton.mp h]; omega⟩
      have one' : 1 ≤ (ms ++ [oth]).length := by rw [List.length_append]; show 1 ≤ _ + 1; omega
      generalize ms ++ [oth] = os at hr ob ol hos one'
      refine ⟨⟨_, rfl⟩, _, rfl, r, rfl, ⟨_, SqT.of hr⟩, fun M2 nM2 => ?_⟩
      refine lc_tup (K := K) (a := r) (xs := os.map nV) (fun i H' => Own H10 H' M2 (((os.take i).map nS).map V.str)) ⟨Same.new nM2, upd_same, nM2⟩ (fun i H' _ o' => SqT.of (o'.sm _ _ hr)) ?_ ?_
      · rintro i y H11 hy o11
        rw [List.getElem?_map] at hy
        obtain ⟨x, hx, rfl⟩ := Option.map_eq_some_iff.mp hy
        have hi := (List.getElem?_eq_some_iff.mp hx).1
        refine ⟨rfl, ?_⟩
        unfold tYes
        refine iteT ?_
        refine ⟨_, rfl, _, rfl, lg100 x (ob x (List.mem_of_getElem? hx)), _, o11.at_, by rw [List.length_map, List.length_map, List.length_take]; exact small256 (by omega), ?_⟩
        rw [List.take_add_one, hx, List.map_append, List.map_append]
        exact o11.app
      rintro H11 o11
      rw [List.length_map, List.take_length] at o11
      have k11 := k10.same o11.sm
      have hr11 := o11.sm _ _ hr
      obtain ⟨f1, f2⟩ := nS_fit ob ol (by decide)
      refine ⟨_, M2, os.map nS, rfl, rfl, .inl (SqL.of o11.at_), f1, _, _, rfl, rfl, by omega, ?_⟩
      rw [textL (h := "outs") (by decide +kernel) (List.length_pos_iff.mp one')]
      have eouts : ∀ c : Chg, c.th = chgTh "outs" (some os) → c = .outs os := fun c e => by
        have e : c.th = .tup [.str "outs", .tup (os.map thN)] := e
        cases c with
        | outs os' =>
          injection e with e
          injection e with e1 e
          injection e with e2 e
          have e2 : thWs os' = thWs os := e2
          rw [thWs_inj e2]
        | _ => injection e with e; injection e with e1 e; injection e1 with e1; exact absurd e1 (by decide +kernel)
      have N11 : NetAt H11 a n g o ps := N.mono fun b xs e => hW.tup k11 e
      with_reducible refine gIf_cut (fun b H' => H' = H11 ∧ (b = true ↔ (8 < os.length ∨ wr ≤ oth))) (fun Q' hQ => ?_) ?_
      · refine ⟨_, rfl, r, _, rfl, .inr (SqT.of hr11), _, _, rfl, rfl, _, rfl, ite2 (fun d1 => hQ _ _ ⟨rfl, fun _ => .inl ?_, fun _ => rfl⟩) (fun d1 => ?_)⟩
        · have := of_decide_eq_true d1
          rw [List.length_map] at this
          omega
        · refine ⟨_, rfl, _, rfl, _, _, rfl, rfl, _, rfl, hQ _ _ ⟨rfl, fun z => .inr (by have := of_decide_eq_true z; omega), fun z => ?_⟩⟩
          rcases z with z | z
          · exact absurd (decide_eq_true (by rw [List.length_map]; omega)) d1
          · exact decide_eq_true (by omega)
      rintro b H11' ⟨rfl, hb2⟩
      cases b with
      | true =>
        refine iteT ?_
        refine ⟨_, rfl, small 2, fun p np => q p _ _ _ (k11.new np) upd_same ⟨"outs", os, rfl, by decide +kernel, ol, ob, .inl ⟨rfl, fun ⟨c, cok, e⟩ => ?_⟩⟩⟩
        rw [eouts c e] at cok
        obtain ⟨x1, x2, x3⟩ := cok
        rcases hb2.mp rfl with z | z
        · omega
        · rw [hwr] at x3
          exact absurd z (hos.mp x3)
      | false =>
        refine iteF ?_
        have nb2 : ¬ (8 < os.length ∨ wr ≤ oth) := fun z => by have := hb2.mpr z; cases this
        refine ⟨_, rfl, _, rfl, _, rfl, _, rfl, small 3, fun ta nta => ⟨small 2, fun p np => ?_⟩⟩
        have s8 := Same.new (o := .tup [nV n.many, V.ref g, V.ref r]) nta
        have s9 := s8.trans (Same.new (o := .tup [V.str (rowS (tl ("outs" : Str)) os), V.ref ta]) np)
        refine q p _ _ _ (k11.same s9) upd_same ⟨"outs", os, rfl, by decide +kernel, ol, ob, .inr ⟨.outs os, ⟨one', by omega, by rw [hwr]; exact hos.mpr fun z => nb2 (.inr z)⟩, rfl, ta, g, r, ps, rfl, (Same.new np) _ _ upd_same, s9 _ _ N11.gt, N11.gs.mono fun b xs e => s9 _ _ e, s9 _ _ hr11⟩⟩
    have eka : ((n.many : Nat) : Int) + ((at_ : Nat) : Int) = ((n.many + at_ : Nat) : Int) := by omega
    have hold : ∀ {H' : Hp}, NetAt H' a n g o ps → at_ < n.gates.length → ∃ p', (ps.map V.ref)[at_]? = some (.ref p') ∧ H' p' = some (.tup (gV (oldG n (n.many + at_)))) := fun {H'} N' hlt => by
      have hpl := N'.gs.1
      refine ⟨ps[at_], by rw [List.getElem?_map, List.getElem?_eq_getElem (by omega)]; rfl, N'.gs.2 at_ _ _ (List.getElem?_eq_getElem (by omega)) ?_⟩
      unfold oldG
      rw [show n.many + at_ - n.many = at_ by omega, List.getD_eq_getElem?_getD, List.getElem?_eq_getElem hlt]
      rfl
    refine ⟨_, rfl, rfl, _, rfl, ite2 (fun c4 => ?_) (fun c4 => ?_)⟩
    · refine ⟨_, rfl, _, rfl, _, _, rfl, rfl, ((n.many + at_ : Nat) : Int), congrArg (fun z => [V.int z]) eka, lg100 (n.many + at_) (by omega), _, _, rfl, rfl, by omega, _, _, rfl, rfl, by rw [app_len]; omega, _, rfl, _, rfl, lg100 kd (by omega), _, _, rfl, rfl, by rw [app_len, app_len]; omega, ?_⟩
      rw [text2 (h := "kind") (by decide +kernel)]
      have ekind : ∀ c : Chg, c.th = chgTh "kind" (some [n.many + at_, kd]) → c = .kind (n.many + at_) kd := fun c e => by
        have e : c.th = .tup [.str "kind", thN (n.many + at_), thN kd] := e
        cases c with
        | kind x y =>
          injection e with e
          injection e with e1 e
          injection e with e2 e
          injection e with e3 e
          rw [thI e2, thI e3]
        | _ => injection e with e; injection e with e1 e; injection e1 with e1; exact absurd e1 (by decide +kernel)
      with_reducible refine gIf_cut (fun b H' => Same H6 H' ∧ (b = true ↔ (n.gates.length = 0 ∨ 15 < kd))) (fun Q' hQ => ?_) ?_
      · refine ⟨_, rfl, small 0, fun z nz => ?_⟩
        have s1 := Same.new (o := .tup []) nz
        have hz : upd H6 z (.tup []) z = some (.tup []) := upd_same
        generalize upd H6 z (.tup []) = H7 at s1 hz ⊢
        have N7 := N6.same s1
        refine ⟨g, z, _, rfl, rfl, .inl ⟨SqT.of N7.gt, SqT.of hz⟩, _, rfl, ite2 (fun d1 => hQ _ _ ⟨s1, fun _ => .inl (by have := of_decide_eq_true d1; rw [gl] at this; exact this), fun _ => rfl⟩) (fun d1 => ?_)⟩
        refine ⟨_, rfl, _, _, rfl, rfl, _, rfl, hQ _ _ ⟨s1, fun z => .inr (by have := of_decide_eq_true z; omega), fun z => ?_⟩⟩
        rcases z with z | z
        · exact absurd (decide_eq_true (by rw [gl]; exact z)) d1
        · exact decide_eq_true (by omega)
      rintro b H7 ⟨s7, hb2⟩
      have k7 := k6.same s7
      have N7 := N6.same s7
      cases b with
      | true =>
        refine iteT ?_
        refine ⟨_, rfl, small 2, fun p np => q p _ _ _ (k7.new np) upd_same ⟨"kind", [n.many + at_, kd], rfl, by decide +kernel, by show 2 ≤ 9; decide, fun y hy => by simp only [List.mem_cons, List.not_mem_nil, or_false] at hy; omega, .inl ⟨rfl, fun ⟨c, cok, e⟩ => ?_⟩⟩⟩
        rw [ekind c e] at cok
        obtain ⟨x1, x2, x3⟩ := cok
        have := hb2.mp rfl
        omega
      | false =>
        refine iteF ?_
        have nb2 : ¬ (n.gates.length = 0 ∨ 15 < kd) := fun z => by have := hb2.mpr z; cases this
        have hlt : at_ < n.gates.length := by omega
        obtain ⟨po, hpo, hgo⟩ := hold N7 hlt
        refine ⟨_, rfl, _, rfl, _, rfl, _, rfl, _, rfl, small 1, fun t1 nt1 => ?_⟩
        have s8 := Same.new (o := .tup [V.int ((kd : Nat) : Int)]) nt1
        have h8 : upd H7 t1 (.tup [V.int ((kd : Nat) : Int)]) t1 = some (.tup [V.int ((kd : Nat) : Int)]) := upd_same
        generalize upd H7 t1 (.tup [V.int ((kd : Nat) : Int)]) = H8 at s8 h8 ⊢
        have N8 := N7.same s8
        refine ⟨_, rfl, _, rfl, g, _, _, _, rfl, rfl, SqT.of N8.gt, atI_nat hpo, _, rfl, ?_⟩
        unfold tNoPart
        refine slA (lo := some ((1 : Nat) : Int)) (hi := none) (s8 _ _ hgo) fun r1 H9 s9 h9 => ?_
        rw [cut_lo] at h9
        refine catA (s9 _ _ h8) h9 (by show 1 + 2 ≤ _; exact small 3) fun r2 H10 s10 h10 => ?_
        have h10 : H10 r2 = some (.tup (gV (kd, (oldG n (n.many + at_)).2.1, (oldG n (n.many + at_)).2.2))) := h10
        have N10 := (N8.same s9).same s10
        refine ⟨g, ps.map V.ref, at_, .ref r2, rfl, N10.gt, by rw [gl]; exact hlt, by rw [gl]; omega, fun r3 H11 s11 h11 => ?_⟩
        rw [← List.map_set] at h11
        have N11 := N10.same s11
        refine ⟨_, rfl, small 3, fun ta nta => ⟨small 2, fun p np => ?_⟩⟩
        have t1' := Same.new (o := .tup [nV n.many, V.ref r3, V.ref o]) nta
        have t2' := t1'.trans (Same.new (o := .tup [V.str (rowS (tl ("kind" : Str)) [n.many + at_, kd]), V.ref ta]) np)
        refine q p _ _ _ ((((k7.same s8).same s9).same (s10.trans s11)).same t2') upd_same ⟨"kind", [n.many + at_, kd], rfl, by decide +kernel, by show 2 ≤ 9; decide, fun y hy => by simp only [List.mem_cons, List.not_mem_nil, or_false] at hy; omega, .inr ⟨.kind (n.many + at_) kd, ⟨by omega, by omega, by omega⟩, rfl, ta, r3, o, ps.set at_ r2, rfl, (Same.new np) _ _ upd_same, t2' _ _ h11, ?_, t2' _ _ N11.ot⟩⟩
        show GatesAt _ _ (n.gates.set (n.many + at_ - n.many) _)
        rw [show n.many + at_ - n.many = at_ by omega]
        exact GatesAt.set (N11.gs.mono fun b xs e => t2' _ _ e) (t2' _ _ (s11 _ _ h10))
    refine ⟨_, rfl, W, C, 2, rfl, k6.wl, by decide, by decide, fun sd H7 sd0 sd1 k7' => ?_⟩
    obtain ⟨sd, rfl⟩ := Int.eq_ofNat_of_zero_le sd0
    have k7 := k6.nxt k7'
    have N7 : NetAt H7 a n g o ps := N6.mono fun b xs e => k6.wl.tup k7' e
    have sd2 : sd < 2 := by omega
    have lsd : (Str.ofString (toString ((sd : Nat) : Int))).length ≤ 2 := nS_len (by omega)
    refine ⟨_, rfl, _, rfl, _, _, rfl, rfl, ((n.many + at_ : Nat) : Int), congrArg (fun z => [V.int z]) eka, lg100 (n.many + at_) (by omega), _, _, rfl, rfl, by omega, _, _, rfl, rfl, by rw [app_len]; omega, _, rfl, _, rfl, lg100 sd (by omega), _, _, rfl, rfl, by rw [app_len, app_len]; omega, _, _, rfl, rfl, by rw [app_len, app_len, app_len]; omega, _, rfl, _, rfl, lg100 one (by omega), _, _, rfl, rfl, by rw [app_len, app_len, app_len, app_len]; omega, ?_⟩
    rw [text3 (h := "lead") (by decide +kernel)]
    have elead : ∀ c : Chg, c.th = chgTh "lead" (some [n.many + at_, sd, one]) → c = .lead (n.many + at_) sd one := fun c e => by
      have e : c.th = .tup [.str "lead", thN (n.many + at_), thN sd, thN one] := e
      cases c with
      | lead x y z =>
        injection e with e
        injection e with e1 e
        injection e with e2 e
        injection e with e3 e
        injection e with e4 e
        rw [thI e2, thI e3, thI e4]
      | _ => injection e with e; injection e with e1 e; injection e1 with e1; exact absurd e1 (by decide +kernel)
    with_reducible refine gIf_cut (fun b H' => Same H7 H' ∧ (b = true ↔ (n.gates.length = 0 ∨ n.many + at_ ≤ one))) (fun Q' hQ => ?_) ?_
    · refine ⟨_, rfl, small 0, fun z nz => ?_⟩
      have s1 := Same.new (o := .tup []) nz
      have hz : upd H7 z (.tup []) z = some (.tup []) := upd_same
      generalize upd H7 z (.tup []) = H8 at s1 hz ⊢
      have N8 := N7.same s1
      refine ⟨g, z, _, rfl, rfl, .inl ⟨SqT.of N8.gt, SqT.of hz⟩, _, rfl, ite2 (fun d1 => hQ _ _ ⟨s1, fun _ => .inl (by have := of_decide_eq_true d1; rw [gl] at this; exact this), fun _ => rfl⟩) (fun d1 => ?_)⟩
      refine ⟨_, rfl, _, rfl, _, rfl, _, _, rfl, rfl, _, _, rfl, rfl, _, rfl, hQ _ _ ⟨s1, fun z => .inr (by have := of_decide_eq_true z; omega), fun z => ?_⟩⟩
      rcases z with z | z
      · exact absurd (decide_eq_true (by rw [gl]; exact z)) d1
      · exact decide_eq_true (by omega)
    rintro b H8 ⟨s8, hb2⟩
    have k8 := k7.same s8
    have N8 := N7.same s8
    cases b with
    | true =>
      refine iteT ?_
      refine ⟨_, rfl, small 2, fun p np => q p _ _ _ (k8.new np) upd_same ⟨"lead", [n.many + at_, sd, one], rfl, by decide +kernel, by show 3 ≤ 9; decide, fun y hy => by simp only [List.mem_cons, List.not_mem_nil, or_false] at hy; omega, .inl ⟨rfl, fun ⟨c, cok, e⟩ => ?_⟩⟩⟩
      rw [elead c e] at cok
      obtain ⟨x1, x2, x3, x4⟩ := cok
      have := hb2.mp rfl
      omega
    | false =>
      refine iteF ?_
      have nb2 : ¬ (n.gates.length = 0 ∨ n.many + at_ ≤ one) := fun z => by have := hb2.mpr z; cases this
      have hlt : at_ < n.gates.length := by omega
      obtain ⟨po, hpo, hgo⟩ := hold N8 hlt
      have e1s : V.int (1 + ((sd : Nat) : Int)) = nV (1 + sd) := congrArg V.int (by omega)
      refine ⟨_, rfl, _, rfl, _, rfl, _, rfl, _, rfl, _, rfl, g, _, _, _, rfl, rfl, SqT.of N8.gt, atI_nat hpo, _, rfl, _, _, rfl, rfl, _, rfl, po, gV (oldG n (n.many + at_)), 1 + sd, nV one, ?_, hgo, by show 1 + sd < 3; omega, by show 3 ≤ 1000; decide, fun r2 H9 s9 h9 => ?_⟩
      · show [V.ref po, V.int (1 + ((sd : Nat) : Int)), V.int ((one : Nat) : Int)] = _
        rw [e1s]
        rfl
      have N9 := N8.same s9
      refine ⟨g, ps.map V.ref, at_, .ref r2, rfl, N9.gt, by rw [gl]; exact hlt, by rw [gl]; omega, fun r3 H10 s10 h10 => ?_⟩
      rw [← List.map_set] at h10
      have N10 := N9.same s10
      refine ⟨_, rfl, small 3, fun ta nta => ⟨small 2, fun p np => ?_⟩⟩
      have t1' := Same.new (o := .tup [nV n.many, V.ref r3, V.ref o]) nta
      have t2' := t1'.trans (Same.new (o := .tup [V.str (rowS (tl ("lead" : Str)) [n.many + at_, sd, one]), V.ref ta]) np)
      refine q p _ _ _ (((k8.same s9).same s10).same t2') upd_same ⟨"lead", [n.many + at_, sd, one], rfl, by decide +kernel, by show 3 ≤ 9; decide, fun y hy => by simp only [List.mem_cons, List.not_mem_nil, or_false] at hy; omega, .inr ⟨.lead (n.many + at_) sd one, ⟨by omega, by omega, by omega, by omega⟩, rfl, ta, r3, o, ps.set at_ r2, rfl, (Same.new np) _ _ upd_same, t2' _ _ h10, ?_, t2' _ _ N10.ot⟩⟩
      show GatesAt _ _ (n.gates.set (n.many + at_ - n.many) _)
      rw [show n.many + at_ - n.many = at_ by omega]
      refine GatesAt.set (N10.gs.mono fun b xs e => t2' _ _ e) (t2' _ _ (s10 _ _ ?_))
      rw [h9]
      rcases (by omega : sd = 0 ∨ sd = 1) with rfl | rfl
      · rw [if_pos rfl]
        rfl
      · rw [if_neg (by decide)]
        rfl
end
end K76
set_option Elab.async false
set_option linter.all false
set_option maxRecDepth 100000
set_option maxHeartbeats 4000000
namespace K76
open PySem PySem.Spec PyProof.Rows L2 GX
open C8 (Cal pe_c pe_gc Met Mak)
-- @dict CHANGES
-- @no CHANGES 0 ""
-- @no CHANGES 1 "0"
-- @no CHANGES 2 "way"
-- @no CHANGES 3 "Kind"
-- @no CHANGES 4 "leads"
-- @dict QUESTIONS
-- @no QUESTIONS 0 "gate"
-- @no QUESTIONS 1 "kind"
-- @no QUESTIONS 2 "lead"
-- @no QUESTIONS 3 "less"
-- @no QUESTIONS 4 "outs"
-- @exc CoverError
-- @exc NoText
-- @exc NoDepth
-- @exc TooMany
-- @exc NoMatch
-- @exc NoChange made
-- @exc NoRow made
-- @sub NoChange NoChange true
-- @sub NoRow NoRow true
-- @sub NoRow ValueError true
-- @sub NoRow NoText false
-- @sub NoRow NoDepth false
-- @sub NoRow TooMany false
-- @sub NoRow NoMatch false
-- @sub NoRow NoChange false
-- @cls Keeper k:i,held:N,kept:t[t[t[i]]]
-- @cls Desk keeper:OKeeper
section
variable {P : Program} {w : World} {K : PySem.W.Frag} {mg : Str → Option Value} {base : Heap} {Ts : List Addr}
open TL
def spAsChg : Sp := fun vs H Q _ => ∃ (h : Str) (ns : List Nat), vs = [.str (rowS (tl h) ns)] ∧ h ∈ wordsQ ∧ ns.length ≤ 9 ∧ (∀ y ∈ ns, y < 100) ∧ ∀ v H', Same H H' → Rep H' v (chgTh h (some ns)) → Q v H'
theorem ok_aschg {f c : Addr} (D : Dfn K mg "_law_as_change" s__law_as_change f c) (T : Txt mg) : Cal P w K mg base 1 "_law_as_change" spAsChg [] := by
  refine cal D (fun _ _ _ _ _ _ us hl => match us, hl with | [_], _ => rfl) sc__law_as_change (fun vs H Q E h => ?_) (fun A outer s H vs Q E hr h => ?_)
  · obtain ⟨h, ns, rfl, _⟩ := h
    rfl
  · obtain ⟨hd, ns, rfl, hh, hl, hn, q⟩ := h
    refine ⟨_, (pss_cons (ps_set (i := 1) sc__law_as_change.nd rfl (by first | exact Or.inl rfl | exact Or.inr rfl) (pe_split (pv 0) pe_str))
      (pss_cons (ps_set (i := 2) sc__law_as_change.nd rfl (by first | exact Or.inl rfl | exact Or.inr rfl) (pe_callTy call_tuple_of (by rfl) T.b_tuple (by decide +kernel) (pa_cons (pe_lc (own := [("_law_word", 3)]) (g := gName 3) (tt := tYes) rfl sc__law_as_change.nd (pi_list (pe_slice sl_list (pv 1) (po_some pe_int) po_none)) (blkOk_by (own := [("_law_word", 3)]) (N := ["_law_text", "_law_words", "_law_numbers", "_law_word"]) (sc := defScope s__law_as_change) (by decide +kernel)) (fun _ _ _ _ _ => (pg_name (i := 3) sc__law_as_change.nd rfl (by first | exact Or.inl rfl | exact Or.inr rfl))) (fun _ _ _ _ _ => pts_nil) (fun _ _ _ _ _ => (pe_callTy call_int_str (by rfl) T.b_int (by decide +kernel) (pa_cons (pv 3) pa_nil)))) pa_nil)))
      (pss_cons (ps_if (pt_cmpR op_eq (pe_ix ix_list (pv 1) pe_int (fun _ _ => rfl)) pe_str (nomark _)) (pss_one (ps_ret (pe_tup (pa_cons pe_str (pa_cons (pv 2) pa_nil))))) pss_nil)
      (pss_one (ps_ret (pe_op op_catA (pe_tup (pa_cons (pe_replK (i := 1) rfl (by first | exact Or.inl rfl | exact Or.inr rfl)) pa_nil)) (pv 2))))))), ?_⟩
    clear hr
    have hq : 32 ∉ tl hd ∧ (tl hd).length ≤ 10 ∧ (hd.length == 0) = false := by
      simp only [wordsQ, List.mem_cons, List.not_mem_nil, or_false] at hh
      rcases hh with rfl | rfl | rfl | rfl | rfl <;> decide +kernel
    refine ⟨_, rfl, ⟨_, rfl⟩, _, _, rfl, rfl, by decide +kernel, Nat.le_trans (Nat.add_le_add_right (row_sl hq.2.1 hn (by omega)) 2) (by decide), fun L nL => ?_⟩
    rw [row_words hq.1 hn]
    have s1 := Same.new (o := .lst (List.map V.str (mkS (tl hd) :: ns.map fun n => mkS (dgs n)))) nL
    have hL : upd H L (.lst (List.map V.str (mkS (tl hd) :: ns.map fun n => mkS (dgs n)))) L = some (.lst (V.str hd :: (ns.map fun n => mkS (dgs n)).map V.str)) := by
      rw [upd_same, List.map_cons, ← mkS_eq (x := hd) (l := tl hd) rfl]
    show gName _ _ _ (upd H L (.lst (List.map V.str (mkS (tl hd) :: ns.map fun n => mkS (dgs n))))) _
    generalize upd H L (.lst (List.map V.str (mkS (tl hd) :: ns.map fun n => mkS (dgs n)))) = H1 at s1 hL ⊢
    have ec : cutV (V.str hd :: (ns.map fun n => mkS (dgs n)).map V.str) (some 1) none = (ns.map fun n => mkS (dgs n)).map V.str := cut_lo _ 1
    refine ⟨_, rfl, _, rfl, L, _, rfl, SqL.of hL, fun R nR => ⟨R, rfl, ⟨_, SqL.of upd_same⟩, fun M nM => ?_⟩⟩
    rw [ec] at nM ⊢
    have s2 := Same.new (o := .lst ((ns.map fun n => mkS (dgs n)).map V.str)) nR
    have hR : upd H1 R (.lst ((ns.map fun n => mkS (dgs n)).map V.str)) R = some (.lst ((ns.map fun n => mkS (dgs n)).map V.str)) := upd_same
    refine lc_list (K := K) (a := R) (xs := (ns.map fun n => mkS (dgs n)).map V.str) (fun i H' => Own (upd H1 R (.lst ((ns.map fun n => mkS (dgs n)).map V.str))) H' M ((ns.take i).map nV)) ⟨Same.new nM, upd_same, nM⟩ (fun i H' _ o' => SqL.of (o'.sm _ _ hR)) ?_ ?_
    · rintro i y H2 hy o2
      rw [List.getElem?_map, List.getElem?_map] at hy
      obtain ⟨x', hx', rfl⟩ := Option.map_eq_some_iff.mp hy
      obtain ⟨x, hx, rfl⟩ := Option.map_eq_some_iff.mp hx'
      have hi := (List.getElem?_eq_some_iff.mp hx).1
      have hxb := hn x (List.mem_of_getElem? hx)
      refine ⟨rfl, ?_⟩
      unfold tYes
      refine iteT ?_
      refine ⟨_, rfl, _, _, rfl, int100 x hxb, by rw [len_mkS]; exact Nat.le_trans (dgs_100 x hxb).2.2.2.1 (by decide), _, o2.at_, by rw [List.length_map, List.length_take]; exact small256 (by omega), ?_⟩
      rw [List.take_add_one, hx, List.map_append]
      exact o2.app
    · rintro H2 o2
      rw [show ((ns.map fun n => mkS (dgs n)).map V.str).length = ns.length by rw [List.length_map, List.length_map], List.take_length] at o2
      refine ⟨M, _, rfl, .inl ⟨SqL.of o2.at_, fun t nt => ?_⟩⟩
      have s3 := (s1.trans s2).trans (o2.sm.trans (Same.new (o := .tup (ns.map nV)) nt))
      have ht : upd H2 t (.tup (ns.map nV)) t = some (.tup (ns.map nV)) := upd_same
      have hL3 := (s2.trans (o2.sm.trans (Same.new (o := .tup (ns.map nV)) nt))) _ _ hL
      show gName _ _ _ (upd H2 t (.tup (ns.map nV))) _
      generalize upd H2 t (.tup (ns.map nV)) = H3 at s3 ht hL3 ⊢
      have rn : ∀ {H' : Hp}, RepAll H' (ns.map nV) (ns.map thN) := rep_ns ns
      refine ⟨_, rfl, L, _, _, _, rfl, rfl, SqL.of hL3, at0, by show (scal (V.str hd) (V.str "outs")) = true; rfl, _, rfl, ite2 (fun g => ?_) (fun g => ?_)⟩
      · have g : hd = "outs" := V.str.inj (of_decide_eq_true g)
        refine ⟨_, rfl, small 2, fun t1 nt1 => ?_⟩
        have s4 := Same.new (o := .tup [V.str "outs", V.ref t]) nt1
        refine q _ _ (s3.trans s4) ?_
        subst g
        show Rep _ _ (.tup [.str "outs", .tup (ns.map thN)])
        exact .tup upd_same (.cons (.str _) (.cons (.tup (s4 _ _ ht) rn) .nil))
      · have g : hd ≠ "outs" := fun z => g (decide_eq_true (congrArg V.str z))
        have hrep : Txt.replace hd "gate" "more" = (if hd = "gate" then "more" else hd : Str) ∧ hd.length + (hd.length + 1) * Str.length "more" ≤ 16777216 := by
          simp only [wordsQ, List.mem_cons, List.not_mem_nil, or_false] at hh
          rcases hh with rfl | rfl | rfl | rfl | rfl <;> decide +kernel
        refine ⟨L, _, hd, rfl, SqL.of hL3, rfl, by decide +kernel, hrep.2, ?_⟩
        rw [hrep.1]
        refine ⟨small 1, fun t1 nt1 => ⟨_, rfl, ?_⟩⟩
        have s4 := Same.new (o := .tup [V.str (if hd = "gate" then "more" else hd)]) nt1
        refine catA upd_same (s4 _ _ ht) (by rw [List.length_map]; exact Nat.le_trans (Nat.add_le_add_left hl 1) (small 10)) fun r H4 s5 hr => ?_
        refine q _ H4 (s3.trans (s4.trans s5)) ?_
        show Rep _ _ (if hd = "gate" then .tup (.str "more" :: ns.map thN) else if hd = "outs" then .tup [.str "outs", .tup (ns.map thN)] else if hd = "kind" ∨ hd = "lead" ∨ hd = "less" then .tup (.str hd :: ns.map thN) else .non)
        by_cases e : hd = "gate"
        · rw [if_pos e] at hr
          rw [if_pos e]
          exact .tup hr (.cons (.str _) rn)
        · rw [if_neg e] at hr
          rw [if_neg e, if_neg g, if_pos (by
            simp only [wordsQ, List.mem_cons, List.not_mem_nil, or_false] at hh
            rcases hh with h | h | h | h | h
            · exact absurd h e
            · exact .inl h
            · exact .inr (.inl h)
            · exact .inr (.inr h)
            · exact absurd h g)]
          exact .tup hr (.cons (.str _) rn)
end
end K76
set_option Elab.async false
set_option linter.all false
set_option maxRecDepth 100000
set_option maxHeartbeats 4000000
namespace K76
open PySem PySem.Spec PyProof.Rows L2 GX
open C8 (Cal pe_c pe_gc Met Mak)
-- @dict CHANGES
-- @no CHANGES 0 ""
-- @no CHANGES 1 "0"
-- @no CHANGES 2 "way"
-- @no CHANGES 3 "Kind"
-- @no CHANGES 4 "leads"
-- @dict QUESTIONS
-- @no QUESTIONS 0 "gate"
-- @no QUESTIONS 1 "kind"
-- @no QUESTIONS 2 "lead"
-- @no QUESTIONS 3 "less"
-- @no QUESTIONS 4 "outs"
-- @exc CoverError
-- @exc NoText
-- @exc NoDepth
-- @exc TooMany
-- @exc NoMatch
-- @exc NoChange made
-- @exc NoRow made
-- @sub NoChange NoChange true
-- @sub NoRow NoRow true
-- @sub NoRow ValueError true
-- @sub NoRow NoText false
-- @sub NoRow NoDepth false
-- @sub NoRow TooMany false
-- @sub NoRow NoMatch false
-- @sub NoRow NoChange false
-- @cls Keeper k:i,held:N,kept:t[t[t[i]]]
-- @cls Desk keeper:OKeeper
section
variable {Ts : List Addr} {CKeeper CDesk CNoRow : Addr}
theorem mono_spSayC : ∀ (vs : List V) (H : Hp) (Q Q' : VK) (E E' : XK), (∀ v H', Q v H' → Q' v H') → (∀ c d H', E c d H' → E' c d H') → spSayC Ts CDesk CKeeper CNoRow vs H Q E → spSayC Ts CDesk CKeeper CNoRow vs H Q' E' := by
  rintro vs H Q Q' E E' hQ hE ⟨D, kp, a, p, n, k, g, o, ps, qs, x, h, ws, e, DA, ok, k2, k1, l, sp, wl, hh, tb, f1, f2⟩
  exact ⟨D, kp, a, p, n, k, g, o, ps, qs, x, h, ws, e, DA, ok, k2, k1, l, sp, wl, hh, tb, fun ch c1 c2 H' a' p' g' o' ps' qs' d1 d2 d3 => hQ _ _ (f1 ch c1 c2 H' a' p' g' o' ps' qs' d1 d2 d3), fun hn H' a' => hE _ _ _ (f2 hn H' a')⟩
end
section
variable {P : Program} {w : World} {K : PySem.W.Frag} {mg : Str → Option Value} {base : Heap} 
def netD (n : Net) : PyData := .tuple [.int ((n.many : Nat) : Int), .tuple (csD (n.gates.map fun g => [g.1, g.2.1, g.2.2])), .tuple (natsD n.outs)]
theorem gl_inj : ∀ {a b : List (Nat × Nat × Nat)}, a.map (fun g => [g.1, g.2.1, g.2.2]) = b.map (fun g => [g.1, g.2.1, g.2.2]) → a = b
  | [], [], _ => rfl
  | [], _ :: _, h => by cases h
  | _ :: _, [], h => by cases h
  | (x, y, z) :: r, (x', y', z') :: s, h => by
    rw [List.map_cons, List.map_cons] at h
    obtain ⟨h1, h2⟩ := List.cons.inj h
    have : x = x' ∧ y = y' ∧ z = z' := by
      injection h1 with e1 e2
      injection e2 with e2 e3
      injection e3 with e3 _
      exact ⟨e1, e2, e3⟩
    rw [this.1, this.2.1, this.2.2, gl_inj h2]
theorem netD_eqv (n m : Net) : PyData.eqv (netD n) (netD m) = true ↔ n = m := by
  show ((((n.many : Nat) : Int) == ((m.many : Nat) : Int)) && (PyData.eqv (.tuple (csD (n.gates.map fun g => [g.1, g.2.1, g.2.2]))) (.tuple (csD (m.gates.map fun g => [g.1, g.2.1, g.2.2]))) && (PyData.eqv (.tuple (natsD n.outs)) (.tuple (natsD m.outs)) && true))) = true ↔ _
  rw [csD_eqT, natsD_eqT, Bool.and_true, Bool.and_eq_true, Bool.and_eq_true, beq_iff_eq, decide_eq_true_iff, decide_eq_true_iff]
  constructor
  · rintro ⟨h1, h2, h3⟩
    have h1 := Int.ofNat_inj.mp h1
    have h2 := gl_inj h2
    cases n; cases m
    simp only at h1 h2 h3
    rw [h1, h2, h3]
  · rintro rfl
    exact ⟨rfl, rfl, rfl⟩
theorem netD_shaped (n : Net) : SeqAt.shaped (netD n) = true := by
  obtain ⟨c1, c2⟩ := csD_can (n.gates.map fun g => [g.1, g.2.1, g.2.2])
  obtain ⟨d1, d2⟩ := canInts (n.outs.map fun n : Nat => (n : Int))
  have d1 : PyData.canLayAll0 (natsD n.outs) = true := d1
  have d2 : PyData.depthAll (natsD n.outs) = 0 := d2
  refine shaped_tup (d := 3) ?_ ?_ (by decide)
  · simp only [PyData.canLayAll0, PyData.canLay0, c1, d1, Bool.and_true]
  · simp only [PyData.depthAll, PyData.depth, d2]
    omega
theorem netD_dp {H : Hp} {a g o : Addr} {ps : List Addr} {n : Net} (N : NetAt H a n g o ps) : Dp K H (.ref a) (netD n) :=
  .tup (SqT.of N.top) (.cons (.int _) (.cons (dp_cs N.gt ⟨by rw [N.gs.1, List.length_map], fun i p c e1 e2 => by
    rw [List.getElem?_map] at e2
    cases e3 : n.gates[i]? with
    | none => rw [e3] at e2; cases e2
    | some k =>
      rw [e3] at e2
      cases e2
      exact N.gs.2 i p k e1 e3⟩) (.cons (dp_natT N.ot) .nil)))
end
section
variable {P : Program} {w : World} {K : PySem.W.Frag} {mg : Str → Option Value} {base : Heap} {Ts : List Addr} {CKeeper CDesk CNoRow CNoChange : Addr}
open TL
theorem KeepAt.draw {H H' : Hp} {W C kp a p : Addr} {n : Net} {k : Nat} {g o : Addr} {ps qs : List Addr} (wd : Wd H W C) (s : Wk2 W C H H') (x : KeepAt CKeeper H kp a p n k g o ps qs) : KeepAt CKeeper H' kp a p n k g o ps qs := x.mono fun b u e n1 n2 => s.kp _ _ e fun z => by
  obtain ⟨ns, i, j, e1, e2, _⟩ := wd.ex
  rcases List.mem_cons.mp z with z | z
  · rw [z, e1] at e; exact n2 _ (Option.some.inj e).symm
  · rw [List.mem_singleton.mp z, e2] at e; exact n2 _ (Option.some.inj e).symm
theorem wd_ins {H H' : Hp} {W C b X dx : Addr} {fs : List (Str × V)} (wd : Wd H W C) (s : Wk2 W C H H') (e : H b = some (.ins X dx fs)) : H' b = some (.ins X dx fs) := s.kp _ _ e fun z => by
  obtain ⟨ns, i, j, e1, e2, _⟩ := wd.ex
  rcases List.mem_cons.mp z with z | z
  · rw [z, e1] at e; cases e
  · rw [List.mem_singleton.mp z, e2] at e; cases e
theorem KeepAt.aft {H H' : Hp} {kp a p : Addr} {n : Net} {k : Nat} {g o : Addr} {ps qs : List Addr} (tb : Tabs Ts H) (s : Aft Ts H H') (x : KeepAt CKeeper H kp a p n k g o ps qs) : KeepAt CKeeper H' kp a p n k g o ps qs := x.mono fun b u e n1 n2 => s.kp _ _ e (tb.nott e n1)
theorem th_inj {c d : Chg} (h : c.th = d.th) : c = d := by
  have hl := congrArg (fun t : Th => match t with | .tup l => l.length | _ => 0) h
  have nw : ∀ {a b : Nat}, thW a = thW b → a = b := fun {a b} e => by
    injection e with e
    exact Int.ofNat_inj.mp e
  cases c <;> cases d
  case less.less => rfl
  case more.more k a b k' a' b' =>
    injection h with h
    injection h with _ h
    injection h with h1 h
    injection h with h2 h
    injection h with h3 h
    rw [nw h1, nw h2, nw h3]
  case outs.outs os os' =>
    injection h with h
    injection h with _ h
    injection h with h1 h
    injection h1 with h1
    have : ∀ {xs ys : List Nat}, xs.map thW = ys.map thW → xs = ys := by
      intro xs
      induction xs with
      | nil => intro ys e; cases ys with
        | nil => rfl
        | cons => cases e
      | cons x r ih => intro ys e; cases ys with
        | nil => cases e
        | cons y s =>
          injection e with e1 e2
          rw [nw e1, ih e2]
    rw [this h1]
  case kind.kind g k g' k' =>
    injection h with h
    injection h with _ h
    injection h with h1 h
    injection h with h2 h
    rw [nw h1, nw h2]
  case lead.lead g s x g' s' x' =>
    injection h with h
    injection h with _ h
    injection h with h1 h
    injection h with h2 h
    injection h with h3 h
    rw [nw h1, nw h2, nw h3]
  case more.lead =>
    injection h with h
    injection h with h _
    injection h with h
    exact absurd h (by decide +kernel)
  case lead.more =>
    injection h with h
    injection h with h _
    injection h with h
    exact absurd h (by decide +kernel)
  all_goals cases hl
/-- the deck, the tables, a desk and a keeper beside it, of one net -/
structure Two (Ts : List Addr) (CD CK : Addr) (H : Hp) (W C D kp kq : Addr) (n : Net) (k : Nat) : Prop where
  wd : Wd H W C
  tb : Tabs Ts H
  ins : ∃ dx, H D = some (.ins CD dx (putF "keeper" (.ref kp) []))
  k1 : ∃ a p g o ps qs, KeepAt CK H kp a p n k g o ps qs
  k2 : ∃ a p g o ps qs, KeepAt CK H kq a p n k g o ps qs
  ne : kp ≠ kq
  nD : D ≠ kq
theorem Two.draw {H H' : Hp} {W C D kp kq : Addr} {n : Net} {k : Nat} (x : Two Ts CDesk CKeeper H W C D kp kq n k) (s : Wk2 W C H H') : Two Ts CDesk CKeeper H' W C D kp kq n k := by
  obtain ⟨wd, tb, ⟨dx, e⟩, ⟨a, p, g, o, ps, qs, h1⟩, ⟨a', p', g', o', ps', qs', h2⟩, ne, nD⟩ := x
  exact ⟨s.wl, s.tabs wd tb, ⟨dx, wd_ins wd s e⟩, ⟨a, p, g, o, ps, qs, h1.draw wd s⟩, ⟨a', p', g', o', ps', qs', h2.draw wd s⟩, ne, nD⟩
theorem Two.aft {H H' : Hp} {W C D kp kq : Addr} {n : Net} {k : Nat} (x : Two Ts CDesk CKeeper H W C D kp kq n k) (s : Aft Ts H H') : Two Ts CDesk CKeeper H' W C D kp kq n k := by
  obtain ⟨wd, tb, ⟨dx, e⟩, ⟨a, p, g, o, ps, qs, h1⟩, ⟨a', p', g', o', ps', qs', h2⟩, ne, nD⟩ := x
  exact ⟨wd.keep s.kp (wd.tabW tb) (wd.tabC tb), s.tb, ⟨dx, s.kp _ _ e (tb.nott e fun _ z => by cases z)⟩, ⟨a, p, g, o, ps, qs, h1.aft tb s⟩, ⟨a', p', g', o', ps', qs', h2.aft tb s⟩, ne, nD⟩
theorem Two.same {H H' : Hp} {W C D kp kq : Addr} {n : Net} {k : Nat} (x : Two Ts CDesk CKeeper H W C D kp kq n k) (s : Same H H') : Two Ts CDesk CKeeper H' W C D kp kq n k := x.aft (Aft.ofSame x.tb s)
theorem but_tup {H H' : Hp} {kp X dx : Addr} {fs : List (Str × V)} (tb : Tabs Ts H) (e : H kp = some (.ins X dx fs)) (m : ∀ b u, b ≠ kp → b ∉ Ts → H b = some u → H' b = some u) : ∀ b xs, H b = some (.tup xs) → H' b = some (.tup xs) := fun b xs eb => m b _ (fun z => by rw [z, e] at eb; cases eb) (tb.tup eb) eb
theorem but_wd {H H' : Hp} {kp X dx W C : Addr} {fs : List (Str × V)} (wd : Wd H W C) (tb : Tabs Ts H) (e : H kp = some (.ins X dx fs)) (m : ∀ b u, b ≠ kp → b ∉ Ts → H b = some u → H' b = some u) : Wd H' W C := by
  obtain ⟨⟨ns, i, j, e1, e2, l⟩, ne⟩ := wd
  exact ⟨⟨ns, i, j, m _ _ (fun z => by rw [z, e] at e1; cases e1) (tb.lst e1) e1, m _ _ (fun z => by rw [z, e] at e2; cases e2) (tb.lst e2) e2, l⟩, ne⟩
theorem but_ins {H H' : Hp} {kp kq X dx : Addr} {fs : List (Str × V)} (tb : Tabs Ts H) (n : kq ≠ kp) (e : H kq = some (.ins X dx fs)) (m : ∀ b u, b ≠ kp → b ∉ Ts → H b = some u → H' b = some u) : H' kq = some (.ins X dx fs) := m _ _ n (tb.nott e fun _ z => by cases z) e
theorem KeepAt.but {H H' : Hp} {kp kq X dx a p : Addr} {fs : List (Str × V)} {n : Net} {k : Nat} {g o : Addr} {ps qs : List Addr} (x : KeepAt CKeeper H kq a p n k g o ps qs) (tb : Tabs Ts H) (e : H kp = some (.ins X dx fs)) (ne : kq ≠ kp) (m : ∀ b u, b ≠ kp → b ∉ Ts → H b = some u → H' b = some u) : KeepAt CKeeper H' kq a p n k g o ps qs :=
  KeepAt.at_ x (fun u eu => by obtain ⟨d, ed⟩ := x.ins; rw [ed] at eu; cases eu; exact but_ins tb ne ed m) (but_tup tb e m)
def spLaw (K : PySem.W.Frag) (Ts : List Addr) : Sp := fun vs H Q _ => ∃ (a : Addr) (ns : List Int), vs = [.ref a] ∧ SqL K H a (ns.map V.int) ∧ ns.length ≤ 63 ∧ Tabs Ts H ∧ ∀ H', Q (.bl true) H'
theorem ok_law {f c : Addr} {oc kV doc pm ct : Value} {od an : Option Addr} {osl : Array (Option Value)}
    (lk : K.lookup f = some ⟨oc, od, .func (PySem.W.fnOf "law" "law" (defArgs s_law) (defBody s_law) (defScope s_law) .none kV doc pm an (.ref c) ct), osl⟩) (hcd : PySem.W.codeIn K (.ref c) "law" = true) (T : Txt mg)
    (c__law_deck : Cal P w K mg base 1 "_law_deck" (spDeck K) []) (c__law_draw : Cal P w K mg base 2 "_law_draw" spDraw []) (c__law_change : Cal P w K mg base 3 "_law_change" spLChD []) (c__law_heard : Cal P w K mg base 11 "_law_heard" (spHeardD (spSayC Ts CDesk CKeeper CNoRow) CDesk CNoRow) []) (c__law_as_change : Cal P w K mg base 1 "_law_as_change" spAsChg [])
    (m_Desk : Mak P w K mg base 7 "Desk" CDesk (spDInit Ts CDesk CKeeper) []) (m_Desk_net : Met P w K mg base 2 CDesk "net" (spDNet CDesk CKeeper) []) (m_Keeper : Mak P w K mg base 5 "Keeper" CKeeper (spKInit Ts CKeeper) []) (m_Keeper_net : Met P w K mg base 1 CKeeper "net" (spKNet CKeeper) []) (n_Keeper_do : Met P w K mg base 8 CKeeper "do" (calm (spKDo Ts CKeeper CNoChange)) []) :
    FnOk P w K mg base L2.CX0 12 f (PySem.W.fnOf "law" "law" (defArgs s_law) (defBody s_law) (defScope s_law) .none kV doc pm an (.ref c) ct) ["_law_script"] (spLaw K Ts) := by
  refine fnok lk hcd sc_law (fun vs H Q E h => ?_) (fun A outer s H vs Q E hr h => ?_)
  · obtain ⟨a, ns, rfl, _⟩ := h
    rfl
  · obtain ⟨a, ns, rfl, hS, hlen, tb, q⟩ := h
    refine ⟨_, (pss_cons (ps_set (i := 1) sc_law.nd rfl (by first | exact Or.inl rfl | exact Or.inr rfl) (pe_c c__law_deck hr (by decide) (by rfl) (pa_cons (pv 0) pa_nil)))
      (pss_cons (ps_set (i := 2) sc_law.nd rfl (by first | exact Or.inl rfl | exact Or.inr rfl) (pe_op op_add pe_int (pe_c c__law_draw hr (by decide) (by rfl) (pa_cons (pv 1) (pa_cons pe_int pa_nil)))))
      (pss_cons (ps_set (i := 3) sc_law.nd rfl (by first | exact Or.inl rfl | exact Or.inr rfl) (pe_op op_add pe_int (pe_c c__law_draw hr (by decide) (by rfl) (pa_cons (pv 1) (pa_cons pe_int pa_nil)))))
      (pss_cons (ps_set (i := 4) sc_law.nd rfl (by first | exact Or.inl rfl | exact Or.inr rfl) (C8.pe_mk m_Desk hr (by decide) (by rfl) (pa_cons (pv 3) (pa_cons (pv 2) pa_nil))))
      (pss_cons (ps_set (i := 5) sc_law.nd rfl (by first | exact Or.inl rfl | exact Or.inr rfl) (pe_tup (pa_cons (pv 3) (pa_cons (pe_tup pa_nil) (pa_cons (pe_tup (pa_cons pe_int pa_nil)) pa_nil)))))
      (pss_cons (ps_set (i := 6) sc_law.nd rfl (by first | exact Or.inl rfl | exact Or.inr rfl) (C8.pe_mk m_Keeper hr (by decide) (by rfl) (pa_cons (pv 5) (pa_cons (pv 2) pa_nil))))
      (pss_cons (ps_if (pt_cmpR (op_neD hr.units) (C8.pe_mt0 m_Desk_net hr (by decide) (pv 4)) (pv 5) (nomark _)) (pss_one (ps_ret pe_bl)) pss_nil)
      (pss_cons (ps_for PassesOwn.never rfl (pi_range1 (by rfl) T.b_range (pa_cons (pe_op op_add pe_int (pe_c c__law_draw hr (by decide) (by rfl) (pa_cons (pv 1) (pa_cons pe_int pa_nil)))) pa_nil)) (pg_name (i := 7) sc_law.nd rfl (by first | exact Or.inl rfl | exact Or.inr rfl))
        (pss_cons (ps_asg (pe_c c__law_change hr (by decide) (by rfl) (pa_cons (pv 1) (pa_cons (pv 5) (pa_cons (pe_ix ix_list (pe_lst (pa_cons pe_int (pa_cons pe_int (pa_cons pe_int pa_nil)))) (pe_op op_sub (pv 2) pe_int) (fun _ _ => rfl)) pa_nil)))) (pg_tup rfl (pgs_cons (pg_name (i := 8) sc_law.nd rfl (by first | exact Or.inl rfl | exact Or.inr rfl)) (pgs_cons (pg_name (i := 9) sc_law.nd rfl (by first | exact Or.inl rfl | exact Or.inr rfl)) pgs_nil))))
      (pss_cons (ps_set (i := 10) sc_law.nd rfl (by first | exact Or.inl rfl | exact Or.inr rfl) (pe_c c__law_heard hr (by decide) (by rfl) (pa_cons (pv 4) (pa_cons (pv 8) pa_nil))))
      (pss_cons (ps_if (pt_cmpR op_isN (pv 9) pe_non (nomark _)) (pss_one (ps_if (pt_cmpR (op_neD hr.units) (pv 10) (pe_lst (pa_cons pe_str (pa_cons pe_bl pa_nil))) (nomark _)) (pss_one (ps_ret pe_bl)) pss_nil)) (pss_cons (ps_set (i := 11) sc_law.nd rfl (by first | exact Or.inl rfl | exact Or.inr rfl) (C8.pe_mt n_Keeper_do hr (by decide) (pv 6) (pa_cons (pe_c c__law_as_change hr (by decide) (by rfl) (pa_cons (pv 8) pa_nil)) pa_nil)))
      (pss_cons (ps_if (PW.pt (pw_or (pt_cmpR op_ne (pv 10) (pe_join pe_str (pe_op op_cat (pe_lst (pa_cons pe_str pa_nil)) (pe_lc (own := [("_law_gate", 12)]) (g := gName 12) (tt := tYes) rfl sc_law.nd (pi_tup (pv 11)) (blkOk_by (own := [("_law_gate", 12)]) (N := ["_law_script", "_law_deck_here", "_law_k", "_law_many", "_law_desk", "_law_net", "_law_keeper", "_law_turn", "_law_text", "_law_then", "_law_heard_here", "_law_gates", "_law_gate"]) (sc := defScope s_law) (by decide +kernel)) (fun _ _ _ _ _ => (pg_name (i := 12) sc_law.nd rfl (by first | exact Or.inl rfl | exact Or.inr rfl))) (fun _ _ _ _ _ => pts_nil) (fun _ _ _ _ _ => (pe_callTy call_str_int (by rfl) T.b_str (by decide +kernel) (pa_cons (pv 12) pa_nil)))))) (nomark _)) (pw_or1 (pt_cmpR (op_neD hr.units) (C8.pe_mt0 m_Keeper_net hr (by decide) (pv 6)) (pv 9) (nomark _))))) (pss_one (ps_ret pe_bl)) pss_nil)
      (pss_one (ps_set (i := 5) sc_law.nd rfl (by first | exact Or.inl rfl | exact Or.inr rfl) (pv 9))))))
      (pss_one (ps_if (pt_cmpR (op_neD hr.units) (C8.pe_mt0 m_Desk_net hr (by decide) (pv 4)) (pv 5) (nomark _)) (pss_one (ps_ret pe_bl)) pss_nil))))))
      (pss_one (ps_ret pe_bl)))))))))), ?_⟩
    clear hr
    refine ⟨_, rfl, a, ns, rfl, hS, hlen, fun W C H1 nW nC wd s1 => ?_⟩
    have tb1 := tb.same s1
    refine ⟨_, rfl, W, C, 3, rfl, wd, by decide, by decide, fun d H2 d0 d1 k2 => ⟨_, _, rfl, rfl, ?_⟩⟩
    obtain ⟨kw, ekw, kw2, kw4⟩ : ∃ kw : Nat, 2 + d = ((kw : Nat) : Int) ∧ 2 ≤ kw ∧ kw ≤ 4 := ⟨(2 + d).toNat, by omega, by omega, by omega⟩
    dsimp -proj only
    rw [ekw]
    refine ⟨_, rfl, W, C, 8, rfl, k2.wl, by decide, by decide, fun e H3 e0 e1 k3 => ⟨_, _, rfl, rfl, ?_⟩⟩
    obtain ⟨m, em, m1, m8⟩ : ∃ m : Nat, 1 + e = ((m : Nat) : Int) ∧ 1 ≤ m ∧ m ≤ 8 := ⟨(1 + e).toNat, by omega, by omega, by omega⟩
    dsimp -proj only
    rw [em]
    have tb3 := (k2.nxt k3).tabs wd tb1
    have wd3 := k3.wl
    clear k2 k3 tb1 wd s1
    refine ⟨_, rfl, _, rfl, fun D dx nD nd ne => ?_⟩
    have s4 : Same H3 (upd (upd H3 dx (.own D)) D (.ins CDesk dx [])) := (Same.new nd).trans (Same.new (by rw [upd_ne (Ne.symm ne)]; exact nD))
    have hD4 : upd (upd H3 dx (.own D)) D (.ins CDesk dx []) D = some (.ins CDesk dx []) := upd_same
    have tb4 := tb3.same s4
    have wd4 := wd3.same s4
    generalize upd (upd H3 dx (.own D)) D (.ins CDesk dx []) = H4 at s4 hD4 tb4 wd4 ⊢
    refine ⟨D, dx, m, kw, rfl, hD4, m1, m8, kw2, by omega, tb4, fun kp a1 p1 g1 o1 ps1 qs1 H5 DA tb5 kp5 nkp => ⟨rfl, ?_⟩⟩
    have wd5 := but_wd wd4 tb4 hD4 kp5
    refine ⟨_, rfl, small 0, fun t0 nt0 => ⟨small 1, fun t1 nt1 => ⟨small 3, fun ta nta => ?_⟩⟩⟩
    have s1 := Same.new (o := .tup []) nt0
    have s2 := Same.new (o := .tup [V.int 0]) nt1
    have s3 := Same.new (o := .tup [nV m, V.ref t0, V.ref t1]) nta
    have N : NetAt (upd (upd (upd H5 t0 (.tup [])) t1 (.tup [V.int 0])) ta (.tup [nV m, V.ref t0, V.ref t1])) ta ⟨m, [], [0]⟩ t0 t1 [] := ⟨upd_same, s3 _ _ (s2 _ _ upd_same), GatesAt.nil _, s3 _ _ upd_same⟩
    have s13 := (s1.trans s2).trans s3
    show gName _ _ _ (upd (upd (upd H5 t0 (.tup [])) t1 (.tup [V.int 0])) ta (.tup [nV m, V.ref t0, V.ref t1])) _
    generalize upd (upd (upd H5 t0 (.tup [])) t1 (.tup [V.int 0])) ta (.tup [nV m, V.ref t0, V.ref t1]) = H6 at N s13 ⊢
    have ok : Net.Ok ⟨m, [], [0]⟩ := ⟨m1, m8, Nat.zero_le _, fun i g e => by (simp at e), by show 1 ≤ 1; decide, by show 1 ≤ 8; decide, fun x hx => by rw [List.mem_singleton.mp hx]; show 0 < m + 0; omega⟩
    refine ⟨_, rfl, _, rfl, fun kq dk nk ndk nek => ?_⟩
    have s7 : Same H6 (upd (upd H6 dk (.own kq)) kq (.ins CKeeper dk [])) := (Same.new ndk).trans (Same.new (by rw [upd_ne (Ne.symm nek)]; exact nk))
    have hk7 : upd (upd H6 dk (.own kq)) kq (.ins CKeeper dk []) kq = some (.ins CKeeper dk []) := upd_same
    generalize upd (upd H6 dk (.own kq)) kq (.ins CKeeper dk []) = H7 at s7 hk7 ⊢
    have s57 := s13.trans s7
    have tb7 := tb5.same s57
    obtain ⟨dxD, eD5⟩ := DA.ins
    obtain ⟨dxk, ek5⟩ := DA.keep.ins
    have nDq : D ≠ kq := fun z => by
      have := s13 _ _ eD5
      rw [z, nk] at this
      cases this
    have nkq : kp ≠ kq := fun z => by
      have := s13 _ _ ek5
      rw [z, nk] at this
      cases this
    refine ⟨kq, dk, ta, ⟨m, [], [0]⟩, t0, t1, [], kw, rfl, hk7, N.same s7, ok, kw2, by omega, tb7, fun p8 H8 qs8 KQ tb8 kp8 => ⟨rfl, ?_⟩⟩
    have N8 : NetAt H8 ta ⟨m, [], [0]⟩ t0 t1 [] := (N.same s7).mono (but_tup tb7 hk7 kp8)
    have two : Two Ts CDesk CKeeper H8 W C D kp kq ⟨m, [], [0]⟩ kw := ⟨but_wd (wd5.same s57) tb7 hk7 kp8, tb8, ⟨dxD, but_ins tb7 nDq (s57 _ _ eD5) kp8⟩, ⟨_, _, _, _, _, _, (DA.keep.mono fun b u e _ _ => s57 _ _ e).but tb7 hk7 nkq kp8⟩, ⟨_, _, _, _, _, _, KQ⟩, nkq, nDq⟩
    clear KQ N tb7 hk7 s57 s13 s7 DA
    obtain ⟨dD, eD⟩ := two.ins
    obtain ⟨a2, p2, g2, o2, ps2, qs2, K2⟩ := two.k1
    refine ⟨_, rfl, D, dD, _, rfl, eD, rfl, D, kp, a2, p2, _, kw, g2, o2, ps2, qs2, rfl, ⟨⟨dD, eD⟩, K2⟩, _, rfl, netD _, netD _, netD_dp K2.net, netD_dp N8, netD_shaped _, netD_shaped _, _, rfl, ?_⟩
    rw [(netD_eqv _ _).mpr rfl]
    refine iteF ?_
    refine ⟨_, rfl, W, C, 11, rfl, two.wd, by decide, by decide, fun tn H9 u0 u1 k9 => ⟨_, _, rfl, rfl, _, rfl, by omega, by omega, ?_⟩⟩
    have two9 := two.draw k9
    have N9 := N8.mono fun b xs e => two.wd.tup k9 e
    clear two N8
    refine for_range (lo := 0) (fun i σ H' => ∃ (an : Addr) (n : Net) (g o : Addr) (ps : List Addr) (x7 x8 x9 x10 x11 x12 : Option V), σ = [some (.ref a), some (.ref W), some (nV kw), some (nV m), some (.ref D), some (.ref an), some (.ref kq), x7, x8, x9, x10, x11, x12] ∧ Two Ts CDesk CKeeper H' W C D kp kq n kw ∧ NetAt H' an n g o ps ∧ n.Ok) ⟨ta, _, t0, t1, [], _, _, _, _, _, _, rfl, two9, N9, ok⟩ ?_ ?_
    · rintro i σ H10 hi ⟨an, n, g, o, ps, x7, x8, x9, x10, x11, x12, rfl, X, N, ok⟩
      obtain ⟨gm, hgm, gm16⟩ : ∃ gm : Nat, atI [V.int 16, V.int 6, V.int 5] (((kw : Nat) : Int) - 2) = some (nV gm) ∧ gm ≤ 16 := by
        have : kw = 2 ∨ kw = 3 ∨ kw = 4 := by omega
        rcases this with rfl | rfl | rfl
        · exact ⟨16, rfl, by decide⟩
        · exact ⟨6, rfl, by decide⟩
        · exact ⟨5, rfl, by decide⟩
      refine ⟨_, rfl, _, rfl, small 3, fun z4 nz4 => ⟨_, rfl, _, _, rfl, rfl, z4, _, _, _, rfl, rfl, SqL.of upd_same, hgm, ?_⟩⟩
      have s4 := Same.new (o := .lst [V.int 16, V.int 6, V.int 5]) nz4
      have X4 := X.same s4
      have N4 := N.same s4
      refine ⟨W, C, an, n, g, o, ps, gm, rfl, X4.wd, N4, ok, gm16, fun p H11 x v k5 hp row => ?_⟩
      have X5 := X4.draw k5
      have N5 := N4.mono fun b xs e => X4.wd.tup k5 e
      clear X X4 N N4 k5 hgm
      obtain ⟨hd, rs, rfl, hh, hl, hn, alt⟩ := row
      obtain ⟨dD, eD⟩ := X5.ins
      obtain ⟨a2, p2, g2, o2, ps2, qs2, K2⟩ := X5.k1
      obtain ⟨dk2, ek2⟩ := K2.ins
      have hqw : 32 ∉ tl hd ∧ (tl hd).length ≤ 10 := by
        simp only [wordsQ, List.mem_cons, List.not_mem_nil, or_false] at hh
        rcases hh with rfl | rfl | rfl | rfl | rfl <;> decide +kernel
      have hsp : Txt.split (rowS (tl hd) rs) (Str.ofString " ") = hd :: rs.map fun n => mkS (dgs n) := by
        rw [row_words hqw.1 hn, ← mkS_eq (x := hd) (l := tl hd) rfl]
      have hnu : numsW ((rs.map fun n => mkS (dgs n)).map tl) = some rs := by
        rw [List.map_map]
        exact nums_100 hn
      refine ⟨p, _, rfl, SqT.of hp, rfl, _, _, rfl, _, _, rfl, rfl, ?_⟩
      refine ⟨_, rfl, _, rfl, D, .str (rowS (tl hd) rs), dD, _, rfl, eD, rfl, ?_⟩
      refine ⟨D, kp, a2, p2, n, kw, g2, o2, ps2, qs2, rowS (tl hd) rs, hd, rs.map fun n => mkS (dgs n), rfl, ⟨⟨dD, eD⟩, K2⟩, ok, kw2, by omega, Nat.le_trans (Nat.add_le_add_right (row_sl hqw.2 hn (by omega)) 2) (by decide), hsp, by rw [List.length_map]; omega, hh, X5.tb, fun ch cok ec H12 a' p' g' o' ps' qs' DA tb12 kp12 => ?_, fun hno H12 a12 => ⟨rfl, rfl, fun L H13 s13 hL => ?_⟩⟩
      · rw [hnu] at ec
        rcases alt with ⟨rfl, nch⟩ | ⟨ch2, cok2, ec2, an', g'', o'', ps'', rfl, N'⟩
        · exact absurd ⟨ch, cok, ec⟩ nch
        · have := th_inj (ec2.trans ec.symm)
          subst this
          obtain ⟨a3, p3, g3, o3, ps3, qs3, K3⟩ := X5.k2
          obtain ⟨dq, eq⟩ := K3.ins
          have nqp := Ne.symm X5.ne
          have K3' := K3.but X5.tb ek2 nqp kp12
          have eq' := but_ins X5.tb nqp eq kp12
          have wd12 := but_wd X5.wd X5.tb ek2 kp12
          have N12 := N'.mono (but_tup X5.tb ek2 kp12)
          refine ⟨_, rfl, rfl, _, rfl, iteF ?_⟩
          refine ⟨_, rfl, kq, dq, _, rfl, eq', rfl, _, rfl, hd, rs, rfl, hh, hl, hn, fun v H13 s13 rv => ?_⟩
          have DK13 := DA.keep.mono fun b u e _ _ => s13 _ _ e
          obtain ⟨dD', eD'⟩ := DA.ins
          have eD13 := s13 _ _ eD'
          have K13 := K3'.mono fun b u e _ _ => s13 _ _ e
          have eq13 := s13 _ _ eq'
          have wd13 := wd12.same s13
          have tb13 := tb12.same s13
          have N13 := N12.same s13
          have nl : ∀ us, some rs = some us → us.length ≤ 400 := fun us e => by cases e; omega
          refine ⟨kq, a3, p3, n, kw, g3, o3, ps3, qs3, v, chgTh hd (some rs), rfl, K13, ok, kw2, by omega, rv, chgTh_head, chgTh_len nl, tb13, fun ch cok' ec' r H14 a4 p4 g4 o4 ps4 qs4 hr K14 tb14 kp14 => ?_, fun hno H14 a14 => hno ⟨ch2, cok2, ec2⟩⟩
          have := th_inj (ec2.trans ec'.symm)
          subst this
          have ok' := doN_ok ok cok2
          have m8' := ok'.m8
          have g16' := ok'.g16
          have ol := othL_len n (doN n ch2) kw (doN n ch2).gates.length
          have ob : ∀ x ∈ othL n (doN n ch2) kw (doN n ch2).gates.length, x < 100 := fun x hx => by
            unfold othL at hx
            obtain ⟨i, hi, rfl⟩ := List.mem_map.mp (List.mem_filter.mp hx).1
            have := List.mem_range.mp hi
            omega
          generalize othL n (doN n ch2) kw (doN n ch2).gates.length = gs at hr ol ob ⊢
          refine ⟨_, rfl, ⟨_, rfl⟩, small 1, fun M nM => ?_⟩
          have s1 := Same.new (o := .lst [V.str "ok"]) nM
          refine ⟨_, rfl, r, rfl, ⟨_, SqT.of (s1 _ _ hr)⟩, fun M2 nM2 => ?_⟩
          refine lc_tup (K := K) (a := r) (xs := gs.map nV) (fun i H' => Own (upd H14 M (.lst [V.str "ok"])) H' M2 (((gs.take i).map fun n => mkS (dgs n)).map V.str)) ⟨Same.new nM2, upd_same, nM2⟩ (fun i H' _ o' => SqT.of (o'.sm _ _ (s1 _ _ hr))) ?_ ?_
          · rintro i y H2 hy o2
            rw [List.getElem?_map] at hy
            obtain ⟨x, hx, rfl⟩ := Option.map_eq_some_iff.mp hy
            have hi := (List.getElem?_eq_some_iff.mp hx).1
            refine ⟨rfl, ?_⟩
            unfold tYes
            refine iteT ?_
            refine ⟨_, rfl, _, rfl, lg100 x (ob x (List.mem_of_getElem? hx)), _, o2.at_, by rw [List.length_map, List.length_map, List.length_take]; exact small256 (by omega), ?_⟩
            rw [List.take_add_one, hx, List.map_append, List.map_append, str_dgs]
            exact o2.app
          · rintro H15 o15
            rw [List.length_map, List.take_length] at o15
            refine ⟨M, M2, _, _, rfl, rfl, o15.sm _ _ upd_same, o15.at_, by rw [List.length_map, List.length_map]; exact Nat.le_trans (Nat.add_le_add_left (show gs.length ≤ 16 by omega) 1) (small 17), fun R nR => ?_⟩
            have s5 := (s1.trans o15.sm).trans (Same.new (o := .lst ([V.str "ok"] ++ (gs.map fun n => mkS (dgs n)).map V.str)) nR)
            have hR : upd H15 R (.lst ([V.str "ok"] ++ (gs.map fun n => mkS (dgs n)).map V.str)) R = some (.lst ((Str.ofString "ok" :: gs.map fun n => mkS (dgs n)).map V.str)) := upd_same
            have wb : ∀ y ∈ Str.ofString "ok" :: gs.map fun n => mkS (dgs n), y.length ≤ 2 := fun y hy => by
              rcases List.mem_cons.mp hy with e | hy
              · rw [e]; decide +kernel
              · obtain ⟨x, hx, rfl⟩ := List.mem_map.mp hy
                rw [len_mkS]
                exact (dgs_100 x (ob x hx)).2.2.2.1
            have ej : Txt.join (Str.ofString " ") (Str.ofString "ok" :: gs.map fun n => mkS (dgs n)) = okS gs := by
              refine ext_tl ?_
              rw [join_eq, tl_join, show tl (Str.ofString " ") = [32] by decide +kernel, List.map_cons, List.map_map]
              rfl
            generalize upd H15 R (.lst ([V.str "ok"] ++ (gs.map fun n => mkS (dgs n)).map V.str)) = H16 at s5 hR ⊢
            refine ⟨_, R, _, rfl, rfl, .inl (SqL.of hR), join_fits (b := 2) (c := 17) wb (by rw [List.length_cons, List.length_map]; omega) (by decide +kernel), ?_⟩
            rw [ej]
            refine ⟨rfl, _, rfl, ?_⟩
            rw [decide_eq_true (rfl : V.str (okS gs) = V.str (okS gs))]
            have K16 := K14.mono fun b u e _ _ => s5 _ _ e
            have D16 := (DK13.but tb13 eq13 X5.ne kp14).mono fun b u e _ _ => s5 _ _ e
            have eD16 := s5 _ _ (but_ins tb13 X5.nD eD13 kp14)
            have wd16 := (but_wd wd13 tb13 eq13 kp14).same s5
            have tb16 := tb14.same s5
            have N16 := (N13.mono (but_tup tb13 eq13 kp14)).same s5
            obtain ⟨dq', eq16⟩ := K16.ins
            refine iteF ?_
            refine ⟨_, rfl, kq, dq', _, rfl, eq16, rfl, kq, a4, p4, doN n ch2, kw, g4, o4, ps4, qs4, rfl, K16, _, rfl, netD (doN n ch2), netD (doN n ch2), netD_dp K16.net, netD_dp N16, netD_shaped _, netD_shaped _, _, rfl, ?_⟩
            rw [(netD_eqv _ _).mpr rfl]
            refine iteF ?_
            refine ⟨_, rfl, ?_⟩
            refine ⟨_, rfl, D, dD', _, rfl, eD16, rfl, D, kp, a', p', doN n ch2, kw, g', o', ps', qs', rfl, ⟨⟨dD', eD16⟩, D16⟩, _, rfl, netD (doN n ch2), netD (doN n ch2), netD_dp D16.net, netD_dp N16, netD_shaped _, netD_shaped _, _, rfl, ?_⟩
            rw [(netD_eqv _ _).mpr rfl]
            refine iteF ?_
            exact ⟨an', doN n ch2, g'', o'', ps'', _, _, _, _, _, _, rfl, ⟨wd16, tb16, ⟨dD', eD16⟩, ⟨_, _, _, _, _, _, D16⟩, ⟨_, _, _, _, _, _, K16⟩, X5.ne, X5.nD⟩, N16, ok'⟩
      · rw [hnu] at hno
        rcases alt with ⟨rfl, nch⟩ | ⟨ch2, cok2, ec2, an', g'', o'', ps'', rfl, N'⟩
        · refine ⟨_, rfl, rfl, _, rfl, iteT ?_⟩
          refine ⟨_, rfl, small 2, fun L2 nL2 => ?_⟩
          have s14 := Same.new (o := .lst [V.str "no", .bl true]) nL2
          refine ⟨.list [.str "no", .bool true], .list [.str "no", .bool true], .lst (SqL.of (s14 _ _ hL)) (.cons (.str _) (.cons (.bl _) .nil)), .lst (SqL.of upd_same) (.cons (.str _) (.cons (.bl _) .nil)), by decide +kernel, by decide +kernel, _, rfl, iteF ?_⟩
          have X14 := (X5.aft a12).same (s13.trans s14)
          have N14 := (N5.mono fun b xs e => a12.tup X5.tb e).same (s13.trans s14)
          clear nL2 s14
          obtain ⟨dD', eD'⟩ := X14.ins
          obtain ⟨a4, p4, g4, o4, ps4, qs4, K4⟩ := X14.k1
          refine ⟨_, rfl, D, dD', _, rfl, eD', rfl, D, kp, a4, p4, n, kw, g4, o4, ps4, qs4, rfl, ⟨⟨dD', eD'⟩, K4⟩, _, rfl, netD n, netD n, netD_dp K4.net, netD_dp N14, netD_shaped _, netD_shaped _, _, rfl, ?_⟩
          rw [(netD_eqv _ _).mpr rfl]
          refine iteF ?_
          exact ⟨an, n, g, o, ps, _, _, _, _, _, _, rfl, X14, N14, ok⟩
        · exact absurd ⟨ch2, cok2, ec2⟩ hno
    · rintro σ H' ⟨an, n, g, o, ps, x7, x8, x9, x10, x11, x12, rfl, X, N, ok⟩
      exact q _
end
end K76
set_option Elab.async false
set_option linter.all false
set_option maxRecDepth 100000
set_option maxHeartbeats 4000000
namespace K76
open PySem PySem.Spec PyProof.Rows L2 GX
open C8 (Cal pe_c pe_gc)
-- @dict CHANGES
-- @no CHANGES 0 ""
-- @no CHANGES 1 "0"
-- @no CHANGES 2 "way"
-- @no CHANGES 3 "Kind"
-- @no CHANGES 4 "leads"
-- @dict QUESTIONS
-- @no QUESTIONS 0 "gate"
-- @no QUESTIONS 1 "kind"
-- @no QUESTIONS 2 "lead"
-- @no QUESTIONS 3 "less"
-- @no QUESTIONS 4 "outs"
-- @exc CoverError
-- @exc NoText
-- @exc NoDepth
-- @exc TooMany
-- @exc NoMatch
-- @exc NoChange made
-- @exc NoRow made
-- @sub NoChange NoChange true
-- @sub NoRow NoRow true
-- @sub NoRow ValueError true
-- @sub NoRow NoText false
-- @sub NoRow NoDepth false
-- @sub NoRow TooMany false
-- @sub NoRow NoMatch false
-- @sub NoRow NoChange false
-- @cls Keeper k:i,held:N,kept:t[t[t[i]]]
-- @cls Desk keeper:OKeeper
/-! ### what the top has written -/
theorem all_mk {l : PySem.W.OpenLaw} {w : World} {K : PySem.W.Frag} {h : Heap} {mg : Str → Option Value} {fa : Addr} (X : K.In h) (G : h.Ns mainGlobals mg) (hfa : mg "law" = some (.ref fa))
    {f0 c0 : Addr} {od0 an0 : Option Addr} {sl0 : Array (Option Value)} {oc0 kV0 dc0 pm0 ct0 : Value}
    (a0 : PySem.W.nsIn K mainGlobals "wires_of" = some (some (.ref f0))) (l0 : K.lookup f0 = some ⟨oc0, od0, .func (PySem.W.fnOf "wires_of" "wires_of" (defArgs s_wires_of) (defBody s_wires_of) (defScope s_wires_of) .none kV0 dc0 pm0 an0 (.ref c0) ct0), sl0⟩) (e0 : PySem.W.codeIn K (.ref c0) "wires_of" = true) (k0 : PySem.W.keepIn K (.ref f0) = true)
    {P0 : Addr} {dd0 : Option Addr} {vs0 : Array Value} {ls0 : Array (Option Value)} {fl0 : Str} {tf0 tg0 tt0 : Tok} {fg0 tx0 : Int} {iF0 : Bool}
    (o0 : K.lookup c0 = some ⟨.type "code", dd0, .fields vs0, ls0⟩) (h0 : vs0[11]? = some (.ref P0) ∧ vs0.getD 11 .none = .ref P0 ∧ vs0.getD 18 .none = .str fl0 tf0 ∧ vs0.getD 7 .none = .int fg0 tg0 ∧ vs0.getD 9 .none = .bool iF0 ∧ vs0.getD 10 .none = .int tx0 tt0 ∧ c0 ≠ P0) (n0 : K.lookup P0 = none) (y0 : TabOf K mg h "wires_of")
    {f1 c1 : Addr} {od1 an1 : Option Addr} {sl1 : Array (Option Value)} {oc1 kV1 dc1 pm1 ct1 : Value}
    (a1 : PySem.W.nsIn K mainGlobals "fits" = some (some (.ref f1))) (l1 : K.lookup f1 = some ⟨oc1, od1, .func (PySem.W.fnOf "fits" "fits" (defArgs s_fits) (defBody s_fits) (defScope s_fits) .none kV1 dc1 pm1 an1 (.ref c1) ct1), sl1⟩) (e1 : PySem.W.codeIn K (.ref c1) "fits" = true) (k1 : PySem.W.keepIn K (.ref f1) = true)
    {f2 c2 : Addr} {od2 an2 : Option Addr} {sl2 : Array (Option Value)} {oc2 kV2 dc2 pm2 ct2 : Value}
    (a2 : PySem.W.nsIn K mainGlobals "has_part" = some (some (.ref f2))) (l2 : K.lookup f2 = some ⟨oc2, od2, .func (PySem.W.fnOf "has_part" "has_part" (defArgs s_has_part) (defBody s_has_part) (defScope s_has_part) .none kV2 dc2 pm2 an2 (.ref c2) ct2), sl2⟩) (e2 : PySem.W.codeIn K (.ref c2) "has_part" = true) (k2 : PySem.W.keepIn K (.ref f2) = true)
    {f3 c3 : Addr} {od3 an3 : Option Addr} {sl3 : Array (Option Value)} {oc3 kV3 dc3 pm3 ct3 : Value}
    (a3 : PySem.W.nsIn K mainGlobals "is_whole" = some (some (.ref f3))) (l3 : K.lookup f3 = some ⟨oc3, od3, .func (PySem.W.fnOf "is_whole" "is_whole" (defArgs s_is_whole) (defBody s_is_whole) (defScope s_is_whole) .none kV3 dc3 pm3 an3 (.ref c3) ct3), sl3⟩) (e3 : PySem.W.codeIn K (.ref c3) "is_whole" = true) (k3 : PySem.W.keepIn K (.ref f3) = true)
    {f4 c4 : Addr} {od4 an4 : Option Addr} {sl4 : Array (Option Value)} {oc4 kV4 dc4 pm4 ct4 : Value}
    (a4 : PySem.W.nsIn K mainGlobals "is_below" = some (some (.ref f4))) (l4 : K.lookup f4 = some ⟨oc4, od4, .func (PySem.W.fnOf "is_below" "is_below" (defArgs s_is_below) (defBody s_is_below) (defScope s_is_below) .none kV4 dc4 pm4 an4 (.ref c4) ct4), sl4⟩) (e4 : PySem.W.codeIn K (.ref c4) "is_below" = true) (k4 : PySem.W.keepIn K (.ref f4) = true)
    {f5 c5 : Addr} {od5 an5 : Option Addr} {sl5 : Array (Option Value)} {oc5 kV5 dc5 pm5 ct5 : Value}
    (a5 : PySem.W.nsIn K mainGlobals "is_many" = some (some (.ref f5))) (l5 : K.lookup f5 = some ⟨oc5, od5, .func (PySem.W.fnOf "is_many" "is_many" (defArgs s_is_many) (defBody s_is_many) (defScope s_is_many) .none kV5 dc5 pm5 an5 (.ref c5) ct5), sl5⟩) (e5 : PySem.W.codeIn K (.ref c5) "is_many" = true) (k5 : PySem.W.keepIn K (.ref f5) = true)
    {f6 c6 : Addr} {od6 an6 : Option Addr} {sl6 : Array (Option Value)} {oc6 kV6 dc6 pm6 ct6 : Value}
    (a6 : PySem.W.nsIn K mainGlobals "is_gate" = some (some (.ref f6))) (l6 : K.lookup f6 = some ⟨oc6, od6, .func (PySem.W.fnOf "is_gate" "is_gate" (defArgs s_is_gate) (defBody s_is_gate) (defScope s_is_gate) .none kV6 dc6 pm6 an6 (.ref c6) ct6), sl6⟩) (e6 : PySem.W.codeIn K (.ref c6) "is_gate" = true) (k6 : PySem.W.keepIn K (.ref f6) = true)
    {f7 c7 : Addr} {od7 an7 : Option Addr} {sl7 : Array (Option Value)} {oc7 kV7 dc7 pm7 ct7 : Value}
    (a7 : PySem.W.nsIn K mainGlobals "are_gates" = some (some (.ref f7))) (l7 : K.lookup f7 = some ⟨oc7, od7, .func (PySem.W.fnOf "are_gates" "are_gates" (defArgs s_are_gates) (defBody s_are_gates) (defScope s_are_gates) .none kV7 dc7 pm7 an7 (.ref c7) ct7), sl7⟩) (e7 : PySem.W.codeIn K (.ref c7) "are_gates" = true) (k7 : PySem.W.keepIn K (.ref f7) = true)
    {P7 : Addr} {dd7 : Option Addr} {vs7 : Array Value} {ls7 : Array (Option Value)} {fl7 : Str} {tf7 tg7 tt7 : Tok} {fg7 tx7 : Int} {iF7 : Bool}
    (o7 : K.lookup c7 = some ⟨.type "code", dd7, .fields vs7, ls7⟩) (h7 : vs7[11]? = some (.ref P7) ∧ vs7.getD 11 .none = .ref P7 ∧ vs7.getD 18 .none = .str fl7 tf7 ∧ vs7.getD 7 .none = .int fg7 tg7 ∧ vs7.getD 9 .none = .bool iF7 ∧ vs7.getD 10 .none = .int tx7 tt7 ∧ c7 ≠ P7) (n7 : K.lookup P7 = none) (y7 : TabOf K mg h "are_gates")
    {f8 c8 : Addr} {od8 an8 : Option Addr} {sl8 : Array (Option Value)} {oc8 kV8 dc8 pm8 ct8 : Value}
    (a8 : PySem.W.nsIn K mainGlobals "are_outs" = some (some (.ref f8))) (l8 : K.lookup f8 = some ⟨oc8, od8, .func (PySem.W.fnOf "are_outs" "are_outs" (defArgs s_are_outs) (defBody s_are_outs) (defScope s_are_outs) .none kV8 dc8 pm8 an8 (.ref c8) ct8), sl8⟩) (e8 : PySem.W.codeIn K (.ref c8) "are_outs" = true) (k8 : PySem.W.keepIn K (.ref f8) = true)
    {P8 : Addr} {dd8 : Option Addr} {vs8 : Array Value} {ls8 : Array (Option Value)} {fl8 : Str} {tf8 tg8 tt8 : Tok} {fg8 tx8 : Int} {iF8 : Bool}
    (o8 : K.lookup c8 = some ⟨.type "code", dd8, .fields vs8, ls8⟩) (h8 : vs8[11]? = some (.ref P8) ∧ vs8.getD 11 .none = .ref P8 ∧ vs8.getD 18 .none = .str fl8 tf8 ∧ vs8.getD 7 .none = .int fg8 tg8 ∧ vs8.getD 9 .none = .bool iF8 ∧ vs8.getD 10 .none = .int tx8 tt8 ∧ c8 ≠ P8) (n8 : K.lookup P8 = none) (y8 : TabOf K mg h "are_outs")
    {f9 c9 : Addr} {od9 an9 : Option Addr} {sl9 : Array (Option Value)} {oc9 kV9 dc9 pm9 ct9 : Value}
    (a9 : PySem.W.nsIn K mainGlobals "is_net" = some (some (.ref f9))) (l9 : K.lookup f9 = some ⟨oc9, od9, .func (PySem.W.fnOf "is_net" "is_net" (defArgs s_is_net) (defBody s_is_net) (defScope s_is_net) .none kV9 dc9 pm9 an9 (.ref c9) ct9), sl9⟩) (e9 : PySem.W.codeIn K (.ref c9) "is_net" = true) (k9 : PySem.W.keepIn K (.ref f9) = true)
    {f10 c10 : Addr} {od10 an10 : Option Addr} {sl10 : Array (Option Value)} {oc10 kV10 dc10 pm10 ct10 : Value}
    (a10 : PySem.W.nsIn K mainGlobals "wires_in" = some (some (.ref f10))) (l10 : K.lookup f10 = some ⟨oc10, od10, .func (PySem.W.fnOf "wires_in" "wires_in" (defArgs s_wires_in) (defBody s_wires_in) (defScope s_wires_in) .none kV10 dc10 pm10 an10 (.ref c10) ct10), sl10⟩) (e10 : PySem.W.codeIn K (.ref c10) "wires_in" = true) (k10 : PySem.W.keepIn K (.ref f10) = true)
    {f11 c11 : Addr} {od11 an11 : Option Addr} {sl11 : Array (Option Value)} {oc11 kV11 dc11 pm11 ct11 : Value}
    (a11 : PySem.W.nsIn K mainGlobals "has_gate" = some (some (.ref f11))) (l11 : K.lookup f11 = some ⟨oc11, od11, .func (PySem.W.fnOf "has_gate" "has_gate" (defArgs s_has_gate) (defBody s_has_gate) (defScope s_has_gate) .none kV11 dc11 pm11 an11 (.ref c11) ct11), sl11⟩) (e11 : PySem.W.codeIn K (.ref c11) "has_gate" = true) (k11 : PySem.W.keepIn K (.ref f11) = true)
    {f12 c12 : Addr} {od12 an12 : Option Addr} {sl12 : Array (Option Value)} {oc12 kV12 dc12 pm12 ct12 : Value}
    (a12 : PySem.W.nsIn K mainGlobals "places" = some (some (.ref f12))) (l12 : K.lookup f12 = some ⟨oc12, od12, .func (PySem.W.fnOf "places" "places" (defArgs s_places) (defBody s_places) (defScope s_places) .none kV12 dc12 pm12 an12 (.ref c12) ct12), sl12⟩) (e12 : PySem.W.codeIn K (.ref c12) "places" = true) (k12 : PySem.W.keepIn K (.ref f12) = true)
    {f13 c13 : Addr} {od13 an13 : Option Addr} {sl13 : Array (Option Value)} {oc13 kV13 dc13 pm13 ct13 : Value}
    (a13 : PySem.W.nsIn K mainGlobals "gate_masks" = some (some (.ref f13))) (l13 : K.lookup f13 = some ⟨oc13, od13, .func (PySem.W.fnOf "gate_masks" "gate_masks" (defArgs s_gate_masks) (defBody s_gate_masks) (defScope s_gate_masks) .none kV13 dc13 pm13 an13 (.ref c13) ct13), sl13⟩) (e13 : PySem.W.codeIn K (.ref c13) "gate_masks" = true) (k13 : PySem.W.keepIn K (.ref f13) = true)
    {f14 c14 : Addr} {od14 an14 : Option Addr} {sl14 : Array (Option Value)} {oc14 kV14 dc14 pm14 ct14 : Value}
    (a14 : PySem.W.nsIn K mainGlobals "cut_masks" = some (some (.ref f14))) (l14 : K.lookup f14 = some ⟨oc14, od14, .func (PySem.W.fnOf "cut_masks" "cut_masks" (defArgs s_cut_masks) (defBody s_cut_masks) (defScope s_cut_masks) .none kV14 dc14 pm14 an14 (.ref c14) ct14), sl14⟩) (e14 : PySem.W.codeIn K (.ref c14) "cut_masks" = true) (k14 : PySem.W.keepIn K (.ref f14) = true)
    {f15 c15 : Addr} {od15 an15 : Option Addr} {sl15 : Array (Option Value)} {oc15 kV15 dc15 pm15 ct15 : Value}
    (a15 : PySem.W.nsIn K mainGlobals "told_cuts" = some (some (.ref f15))) (l15 : K.lookup f15 = some ⟨oc15, od15, .func (PySem.W.fnOf "told_cuts" "told_cuts" (defArgs s_told_cuts) (defBody s_told_cuts) (defScope s_told_cuts) .none kV15 dc15 pm15 an15 (.ref c15) ct15), sl15⟩) (e15 : PySem.W.codeIn K (.ref c15) "told_cuts" = true) (k15 : PySem.W.keepIn K (.ref f15) = true)
    {f16 c16 : Addr} {od16 an16 : Option Addr} {sl16 : Array (Option Value)} {oc16 kV16 dc16 pm16 ct16 : Value}
    (a16 : PySem.W.nsIn K mainGlobals "all_cuts" = some (some (.ref f16))) (l16 : K.lookup f16 = some ⟨oc16, od16, .func (PySem.W.fnOf "all_cuts" "all_cuts" (defArgs s_all_cuts) (defBody s_all_cuts) (defScope s_all_cuts) .none kV16 dc16 pm16 an16 (.ref c16) ct16), sl16⟩) (e16 : PySem.W.codeIn K (.ref c16) "all_cuts" = true) (k16 : PySem.W.keepIn K (.ref f16) = true)
    {P16 : Addr} {dd16 : Option Addr} {vs16 : Array Value} {ls16 : Array (Option Value)} {fl16 : Str} {tf16 tg16 tt16 : Tok} {fg16 tx16 : Int} {iF16 : Bool}
    (o16 : K.lookup c16 = some ⟨.type "code", dd16, .fields vs16, ls16⟩) (h16 : vs16[11]? = some (.ref P16) ∧ vs16.getD 11 .none = .ref P16 ∧ vs16.getD 18 .none = .str fl16 tf16 ∧ vs16.getD 7 .none = .int fg16 tg16 ∧ vs16.getD 9 .none = .bool iF16 ∧ vs16.getD 10 .none = .int tx16 tt16 ∧ c16 ≠ P16) (n16 : K.lookup P16 = none) (y16 : TabOf K mg h "all_cuts")
    {f17 c17 : Addr} {od17 an17 : Option Addr} {sl17 : Array (Option Value)} {oc17 kV17 dc17 pm17 ct17 : Value}
    (a17 : PySem.W.nsIn K mainGlobals "with_gate" = some (some (.ref f17))) (l17 : K.lookup f17 = some ⟨oc17, od17, .func (PySem.W.fnOf "with_gate" "with_gate" (defArgs s_with_gate) (defBody s_with_gate) (defScope s_with_gate) .none kV17 dc17 pm17 an17 (.ref c17) ct17), sl17⟩) (e17 : PySem.W.codeIn K (.ref c17) "with_gate" = true) (k17 : PySem.W.keepIn K (.ref f17) = true)
    {f18 c18 : Addr} {od18 an18 : Option Addr} {sl18 : Array (Option Value)} {oc18 kV18 dc18 pm18 ct18 : Value}
    (a18 : PySem.W.nsIn K mainGlobals "kind_changed" = some (some (.ref f18))) (l18 : K.lookup f18 = some ⟨oc18, od18, .func (PySem.W.fnOf "kind_changed" "kind_changed" (defArgs s_kind_changed) (defBody s_kind_changed) (defScope s_kind_changed) .none kV18 dc18 pm18 an18 (.ref c18) ct18), sl18⟩) (e18 : PySem.W.codeIn K (.ref c18) "kind_changed" = true) (k18 : PySem.W.keepIn K (.ref f18) = true)
    {f19 c19 : Addr} {od19 an19 : Option Addr} {sl19 : Array (Option Value)} {oc19 kV19 dc19 pm19 ct19 : Value}
    (a19 : PySem.W.nsIn K mainGlobals "lead_changed" = some (some (.ref f19))) (l19 : K.lookup f19 = some ⟨oc19, od19, .func (PySem.W.fnOf "lead_changed" "lead_changed" (defArgs s_lead_changed) (defBody s_lead_changed) (defScope s_lead_changed) .none kV19 dc19 pm19 an19 (.ref c19) ct19), sl19⟩) (e19 : PySem.W.codeIn K (.ref c19) "lead_changed" = true) (k19 : PySem.W.keepIn K (.ref f19) = true)
    {f20 c20 : Addr} {od20 an20 : Option Addr} {sl20 : Array (Option Value)} {oc20 kV20 dc20 pm20 ct20 : Value}
    (a20 : PySem.W.nsIn K mainGlobals "gate_added" = some (some (.ref f20))) (l20 : K.lookup f20 = some ⟨oc20, od20, .func (PySem.W.fnOf "gate_added" "gate_added" (defArgs s_gate_added) (defBody s_gate_added) (defScope s_gate_added) .none kV20 dc20 pm20 an20 (.ref c20) ct20), sl20⟩) (e20 : PySem.W.codeIn K (.ref c20) "gate_added" = true) (k20 : PySem.W.keepIn K (.ref f20) = true)
    {f21 c21 : Addr} {od21 an21 : Option Addr} {sl21 : Array (Option Value)} {oc21 kV21 dc21 pm21 ct21 : Value}
    (a21 : PySem.W.nsIn K mainGlobals "gate_taken" = some (some (.ref f21))) (l21 : K.lookup f21 = some ⟨oc21, od21, .func (PySem.W.fnOf "gate_taken" "gate_taken" (defArgs s_gate_taken) (defBody s_gate_taken) (defScope s_gate_taken) .none kV21 dc21 pm21 an21 (.ref c21) ct21), sl21⟩) (e21 : PySem.W.codeIn K (.ref c21) "gate_taken" = true) (k21 : PySem.W.keepIn K (.ref f21) = true)
    {f22 c22 : Addr} {od22 an22 : Option Addr} {sl22 : Array (Option Value)} {oc22 kV22 dc22 pm22 ct22 : Value}
    (a22 : PySem.W.nsIn K mainGlobals "outs_changed" = some (some (.ref f22))) (l22 : K.lookup f22 = some ⟨oc22, od22, .func (PySem.W.fnOf "outs_changed" "outs_changed" (defArgs s_outs_changed) (defBody s_outs_changed) (defScope s_outs_changed) .none kV22 dc22 pm22 an22 (.ref c22) ct22), sl22⟩) (e22 : PySem.W.codeIn K (.ref c22) "outs_changed" = true) (k22 : PySem.W.keepIn K (.ref f22) = true)
    {f23 c23 : Addr} {od23 an23 : Option Addr} {sl23 : Array (Option Value)} {oc23 kV23 dc23 pm23 ct23 : Value}
    (a23 : PySem.W.nsIn K mainGlobals "has_word" = some (some (.ref f23))) (l23 : K.lookup f23 = some ⟨oc23, od23, .func (PySem.W.fnOf "has_word" "has_word" (defArgs s_has_word) (defBody s_has_word) (defScope s_has_word) .none kV23 dc23 pm23 an23 (.ref c23) ct23), sl23⟩) (e23 : PySem.W.codeIn K (.ref c23) "has_word" = true) (k23 : PySem.W.keepIn K (.ref f23) = true)
    {f24 c24 : Addr} {od24 an24 : Option Addr} {sl24 : Array (Option Value)} {oc24 kV24 dc24 pm24 ct24 : Value}
    (a24 : PySem.W.nsIn K mainGlobals "changed" = some (some (.ref f24))) (l24 : K.lookup f24 = some ⟨oc24, od24, .func (PySem.W.fnOf "changed" "changed" (defArgs s_changed) (defBody s_changed) (defScope s_changed) .none kV24 dc24 pm24 an24 (.ref c24) ct24), sl24⟩) (e24 : PySem.W.codeIn K (.ref c24) "changed" = true) (k24 : PySem.W.keepIn K (.ref f24) = true)
    {f25 c25 : Addr} {od25 an25 : Option Addr} {sl25 : Array (Option Value)} {oc25 kV25 dc25 pm25 ct25 : Value}
    (a25 : PySem.W.nsIn K mainGlobals "other_gates" = some (some (.ref f25))) (l25 : K.lookup f25 = some ⟨oc25, od25, .func (PySem.W.fnOf "other_gates" "other_gates" (defArgs s_other_gates) (defBody s_other_gates) (defScope s_other_gates) .none kV25 dc25 pm25 an25 (.ref c25) ct25), sl25⟩) (e25 : PySem.W.codeIn K (.ref c25) "other_gates" = true) (k25 : PySem.W.keepIn K (.ref f25) = true)
    {P25 : Addr} {dd25 : Option Addr} {vs25 : Array Value} {ls25 : Array (Option Value)} {fl25 : Str} {tf25 tg25 tt25 : Tok} {fg25 tx25 : Int} {iF25 : Bool}
    (o25 : K.lookup c25 = some ⟨.type "code", dd25, .fields vs25, ls25⟩) (h25 : vs25[11]? = some (.ref P25) ∧ vs25.getD 11 .none = .ref P25 ∧ vs25.getD 18 .none = .str fl25 tf25 ∧ vs25.getD 7 .none = .int fg25 tg25 ∧ vs25.getD 9 .none = .bool iF25 ∧ vs25.getD 10 .none = .int tx25 tt25 ∧ c25 ≠ P25) (n25 : K.lookup P25 = none) (y25 : TabOf K mg h "other_gates")
    {f26 c26 : Addr} {od26 an26 : Option Addr} {sl26 : Array (Option Value)} {oc26 kV26 dc26 pm26 ct26 : Value}
    {CKeeper : Addr} (u0Keeper : PySem.W.nsIn K mainGlobals "Keeper" = some (some (.ref CKeeper))) (u1Keeper : PySem.W.makesIn K CKeeper = true) (u2Keeper : PySem.W.keepIn K (.ref CKeeper) = true) (u3Keeper : PySem.W.plainGet K CKeeper Str.empty = true) (u4Keeper : PySem.W.hasDictIn K CKeeper = true) (u5Keeper : PySem.W.plainOver K CKeeper = true) (u6Keeper : PySem.W.findIn K (.ref CKeeper) "__setattr__" = some (some (.builtin "object.__setattr__"))) (vKeeper_k : PySem.W.findIn K (.ref CKeeper) "k" = some none) (vKeeper_held : PySem.W.findIn K (.ref CKeeper) "held" = some none) (vKeeper_kept : PySem.W.findIn K (.ref CKeeper) "kept" = some none)
    (a26 : PySem.W.findIn K (.ref CKeeper) "__init__" = some (some (.ref f26))) (l26 : K.lookup f26 = some ⟨oc26, od26, .func (PySem.W.fnOf "__init__" "Keeper.__init__" (defArgs s_Keeper___init__) (defBody s_Keeper___init__) (defScope s_Keeper___init__) .none kV26 dc26 pm26 an26 (.ref c26) ct26), sl26⟩) (e26 : PySem.W.codeIn K (.ref c26) "Keeper.__init__" = true) (k26 : PySem.W.keepIn K (.ref f26) = true) (j26 : PySem.W.isFn K (.ref f26) = true)
    {f27 c27 : Addr} {od27 an27 : Option Addr} {sl27 : Array (Option Value)} {oc27 kV27 dc27 pm27 ct27 : Value}
    (a27 : PySem.W.findIn K (.ref CKeeper) "net" = some (some (.ref f27))) (l27 : K.lookup f27 = some ⟨oc27, od27, .func (PySem.W.fnOf "net" "Keeper.net" (defArgs s_Keeper_net) (defBody s_Keeper_net) (defScope s_Keeper_net) .none kV27 dc27 pm27 an27 (.ref c27) ct27), sl27⟩) (e27 : PySem.W.codeIn K (.ref c27) "Keeper.net" = true) (k27 : PySem.W.keepIn K (.ref f27) = true) (j27 : PySem.W.isFn K (.ref f27) = true)
    {f28 c28 : Addr} {od28 an28 : Option Addr} {sl28 : Array (Option Value)} {oc28 kV28 dc28 pm28 ct28 : Value}
    (a28 : PySem.W.findIn K (.ref CKeeper) "do" = some (some (.ref f28))) (l28 : K.lookup f28 = some ⟨oc28, od28, .func (PySem.W.fnOf "do" "Keeper.do" (defArgs s_Keeper_do) (defBody s_Keeper_do) (defScope s_Keeper_do) .none kV28 dc28 pm28 an28 (.ref c28) ct28), sl28⟩) (e28 : PySem.W.codeIn K (.ref c28) "Keeper.do" = true) (k28 : PySem.W.keepIn K (.ref f28) = true) (j28 : PySem.W.isFn K (.ref f28) = true)
    {f29 c29 : Addr} {od29 an29 : Option Addr} {sl29 : Array (Option Value)} {oc29 kV29 dc29 pm29 ct29 : Value}
    (a29 : PySem.W.nsIn K mainGlobals "number_in" = some (some (.ref f29))) (l29 : K.lookup f29 = some ⟨oc29, od29, .func (PySem.W.fnOf "number_in" "number_in" (defArgs s_number_in) (defBody s_number_in) (defScope s_number_in) .none kV29 dc29 pm29 an29 (.ref c29) ct29), sl29⟩) (e29 : PySem.W.codeIn K (.ref c29) "number_in" = true) (k29 : PySem.W.keepIn K (.ref f29) = true)
    {P29 : Addr} {dd29 : Option Addr} {vs29 : Array Value} {ls29 : Array (Option Value)} {fl29 : Str} {tf29 tg29 tt29 : Tok} {fg29 tx29 : Int} {iF29 : Bool}
    (o29 : K.lookup c29 = some ⟨.type "code", dd29, .fields vs29, ls29⟩) (h29 : vs29[11]? = some (.ref P29) ∧ vs29.getD 11 .none = .ref P29 ∧ vs29.getD 18 .none = .str fl29 tf29 ∧ vs29.getD 7 .none = .int fg29 tg29 ∧ vs29.getD 9 .none = .bool iF29 ∧ vs29.getD 10 .none = .int tx29 tt29 ∧ c29 ≠ P29) (n29 : K.lookup P29 = none) (y29 : TabOf K mg h "number_in")
    {f30 c30 : Addr} {od30 an30 : Option Addr} {sl30 : Array (Option Value)} {oc30 kV30 dc30 pm30 ct30 : Value}
    (a30 : PySem.W.nsIn K mainGlobals "numbers_in" = some (some (.ref f30))) (l30 : K.lookup f30 = some ⟨oc30, od30, .func (PySem.W.fnOf "numbers_in" "numbers_in" (defArgs s_numbers_in) (defBody s_numbers_in) (defScope s_numbers_in) .none kV30 dc30 pm30 an30 (.ref c30) ct30), sl30⟩) (e30 : PySem.W.codeIn K (.ref c30) "numbers_in" = true) (k30 : PySem.W.keepIn K (.ref f30) = true)
    {f31 c31 : Addr} {od31 an31 : Option Addr} {sl31 : Array (Option Value)} {oc31 kV31 dc31 pm31 ct31 : Value}
    (a31 : PySem.W.nsIn K mainGlobals "in_figures" = some (some (.ref f31))) (l31 : K.lookup f31 = some ⟨oc31, od31, .func (PySem.W.fnOf "in_figures" "in_figures" (defArgs s_in_figures) (defBody s_in_figures) (defScope s_in_figures) .none kV31 dc31 pm31 an31 (.ref c31) ct31), sl31⟩) (e31 : PySem.W.codeIn K (.ref c31) "in_figures" = true) (k31 : PySem.W.keepIn K (.ref f31) = true)
    {f32 c32 : Addr} {od32 an32 : Option Addr} {sl32 : Array (Option Value)} {oc32 kV32 dc32 pm32 ct32 : Value}
    (a32 : PySem.W.nsIn K mainGlobals "change_written" = some (some (.ref f32))) (l32 : K.lookup f32 = some ⟨oc32, od32, .func (PySem.W.fnOf "change_written" "change_written" (defArgs s_change_written) (defBody s_change_written) (defScope s_change_written) .none kV32 dc32 pm32 an32 (.ref c32) ct32), sl32⟩) (e32 : PySem.W.codeIn K (.ref c32) "change_written" = true) (k32 : PySem.W.keepIn K (.ref f32) = true)
    {f33 c33 : Addr} {od33 an33 : Option Addr} {sl33 : Array (Option Value)} {oc33 kV33 dc33 pm33 ct33 : Value}
    (a33 : PySem.W.nsIn K mainGlobals "change_answer" = some (some (.ref f33))) (l33 : K.lookup f33 = some ⟨oc33, od33, .func (PySem.W.fnOf "change_answer" "change_answer" (defArgs s_change_answer) (defBody s_change_answer) (defScope s_change_answer) .none kV33 dc33 pm33 an33 (.ref c33) ct33), sl33⟩) (e33 : PySem.W.codeIn K (.ref c33) "change_answer" = true) (k33 : PySem.W.keepIn K (.ref f33) = true)
    {f34 c34 : Addr} {od34 an34 : Option Addr} {sl34 : Array (Option Value)} {oc34 kV34 dc34 pm34 ct34 : Value}
    {CDesk : Addr} (u0Desk : PySem.W.nsIn K mainGlobals "Desk" = some (some (.ref CDesk))) (u1Desk : PySem.W.makesIn K CDesk = true) (u2Desk : PySem.W.keepIn K (.ref CDesk) = true) (u3Desk : PySem.W.plainGet K CDesk Str.empty = true) (u4Desk : PySem.W.hasDictIn K CDesk = true) (u5Desk : PySem.W.plainOver K CDesk = true) (u6Desk : PySem.W.findIn K (.ref CDesk) "__setattr__" = some (some (.builtin "object.__setattr__"))) (vDesk_keeper : PySem.W.findIn K (.ref CDesk) "keeper" = some none)
    (a34 : PySem.W.findIn K (.ref CDesk) "__init__" = some (some (.ref f34))) (l34 : K.lookup f34 = some ⟨oc34, od34, .func (PySem.W.fnOf "__init__" "Desk.__init__" (defArgs s_Desk___init__) (defBody s_Desk___init__) (defScope s_Desk___init__) .none kV34 dc34 pm34 an34 (.ref c34) ct34), sl34⟩) (e34 : PySem.W.codeIn K (.ref c34) "Desk.__init__" = true) (k34 : PySem.W.keepIn K (.ref f34) = true) (j34 : PySem.W.isFn K (.ref f34) = true)
    {f35 c35 : Addr} {od35 an35 : Option Addr} {sl35 : Array (Option Value)} {oc35 kV35 dc35 pm35 ct35 : Value}
    (a35 : PySem.W.findIn K (.ref CDesk) "say" = some (some (.ref f35))) (l35 : K.lookup f35 = some ⟨oc35, od35, .func (PySem.W.fnOf "say" "Desk.say" (defArgs s_Desk_say) (defBody s_Desk_say) (defScope s_Desk_say) .none kV35 dc35 pm35 an35 (.ref c35) ct35), sl35⟩) (e35 : PySem.W.codeIn K (.ref c35) "Desk.say" = true) (k35 : PySem.W.keepIn K (.ref f35) = true) (j35 : PySem.W.isFn K (.ref f35) = true)
    {f36 c36 : Addr} {od36 an36 : Option Addr} {sl36 : Array (Option Value)} {oc36 kV36 dc36 pm36 ct36 : Value}
    (a36 : PySem.W.findIn K (.ref CDesk) "net" = some (some (.ref f36))) (l36 : K.lookup f36 = some ⟨oc36, od36, .func (PySem.W.fnOf "net" "Desk.net" (defArgs s_Desk_net) (defBody s_Desk_net) (defScope s_Desk_net) .none kV36 dc36 pm36 an36 (.ref c36) ct36), sl36⟩) (e36 : PySem.W.codeIn K (.ref c36) "Desk.net" = true) (k36 : PySem.W.keepIn K (.ref f36) = true) (j36 : PySem.W.isFn K (.ref f36) = true)
    {f37 c37 : Addr} {od37 an37 : Option Addr} {sl37 : Array (Option Value)} {oc37 kV37 dc37 pm37 ct37 : Value}
    (a37 : PySem.W.nsIn K mainGlobals "_law_deck" = some (some (.ref f37))) (l37 : K.lookup f37 = some ⟨oc37, od37, .func (PySem.W.fnOf "_law_deck" "_law_deck" (defArgs s__law_deck) (defBody s__law_deck) (defScope s__law_deck) .none kV37 dc37 pm37 an37 (.ref c37) ct37), sl37⟩) (e37 : PySem.W.codeIn K (.ref c37) "_law_deck" = true) (k37 : PySem.W.keepIn K (.ref f37) = true)
    {f38 c38 : Addr} {od38 an38 : Option Addr} {sl38 : Array (Option Value)} {oc38 kV38 dc38 pm38 ct38 : Value}
    (a38 : PySem.W.nsIn K mainGlobals "_law_mixed" = some (some (.ref f38))) (l38 : K.lookup f38 = some ⟨oc38, od38, .func (PySem.W.fnOf "_law_mixed" "_law_mixed" (defArgs s__law_mixed) (defBody s__law_mixed) (defScope s__law_mixed) .none kV38 dc38 pm38 an38 (.ref c38) ct38), sl38⟩) (e38 : PySem.W.codeIn K (.ref c38) "_law_mixed" = true) (k38 : PySem.W.keepIn K (.ref f38) = true)
    {f39 c39 : Addr} {od39 an39 : Option Addr} {sl39 : Array (Option Value)} {oc39 kV39 dc39 pm39 ct39 : Value}
    (a39 : PySem.W.nsIn K mainGlobals "_law_draw" = some (some (.ref f39))) (l39 : K.lookup f39 = some ⟨oc39, od39, .func (PySem.W.fnOf "_law_draw" "_law_draw" (defArgs s__law_draw) (defBody s__law_draw) (defScope s__law_draw) .none kV39 dc39 pm39 an39 (.ref c39) ct39), sl39⟩) (e39 : PySem.W.codeIn K (.ref c39) "_law_draw" = true) (k39 : PySem.W.keepIn K (.ref f39) = true)
    {f40 c40 : Addr} {od40 an40 : Option Addr} {sl40 : Array (Option Value)} {oc40 kV40 dc40 pm40 ct40 : Value}
    (a40 : PySem.W.nsIn K mainGlobals "_law_heard" = some (some (.ref f40))) (l40 : K.lookup f40 = some ⟨oc40, od40, .func (PySem.W.fnOf "_law_heard" "_law_heard" (defArgs s__law_heard) (defBody s__law_heard) (defScope s__law_heard) .none kV40 dc40 pm40 an40 (.ref c40) ct40), sl40⟩) (e40 : PySem.W.codeIn K (.ref c40) "_law_heard" = true) (k40 : PySem.W.keepIn K (.ref f40) = true)
    {f41 c41 : Addr} {od41 an41 : Option Addr} {sl41 : Array (Option Value)} {oc41 kV41 dc41 pm41 ct41 : Value}
    (a41 : PySem.W.nsIn K mainGlobals "_law_put_in" = some (some (.ref f41))) (l41 : K.lookup f41 = some ⟨oc41, od41, .func (PySem.W.fnOf "_law_put_in" "_law_put_in" (defArgs s__law_put_in) (defBody s__law_put_in) (defScope s__law_put_in) .none kV41 dc41 pm41 an41 (.ref c41) ct41), sl41⟩) (e41 : PySem.W.codeIn K (.ref c41) "_law_put_in" = true) (k41 : PySem.W.keepIn K (.ref f41) = true)
    {f42 c42 : Addr} {od42 an42 : Option Addr} {sl42 : Array (Option Value)} {oc42 kV42 dc42 pm42 ct42 : Value}
    (a42 : PySem.W.nsIn K mainGlobals "_law_change" = some (some (.ref f42))) (l42 : K.lookup f42 = some ⟨oc42, od42, .func (PySem.W.fnOf "_law_change" "_law_change" (defArgs s__law_change) (defBody s__law_change) (defScope s__law_change) .none kV42 dc42 pm42 an42 (.ref c42) ct42), sl42⟩) (e42 : PySem.W.codeIn K (.ref c42) "_law_change" = true) (k42 : PySem.W.keepIn K (.ref f42) = true)
    {f43 c43 : Addr} {od43 an43 : Option Addr} {sl43 : Array (Option Value)} {oc43 kV43 dc43 pm43 ct43 : Value}
    (a43 : PySem.W.nsIn K mainGlobals "_law_as_change" = some (some (.ref f43))) (l43 : K.lookup f43 = some ⟨oc43, od43, .func (PySem.W.fnOf "_law_as_change" "_law_as_change" (defArgs s__law_as_change) (defBody s__law_as_change) (defScope s__law_as_change) .none kV43 dc43 pm43 an43 (.ref c43) ct43), sl43⟩) (e43 : PySem.W.codeIn K (.ref c43) "_law_as_change" = true) (k43 : PySem.W.keepIn K (.ref f43) = true)
    {f44 c44 : Addr} {od44 an44 : Option Addr} {sl44 : Array (Option Value)} {oc44 kV44 dc44 pm44 ct44 : Value}
    (a44 : PySem.W.nsIn K mainGlobals "law" = some (some (.ref f44))) (l44 : K.lookup f44 = some ⟨oc44, od44, .func (PySem.W.fnOf "law" "law" (defArgs s_law) (defBody s_law) (defScope s_law) .none kV44 dc44 pm44 an44 (.ref c44) ct44), sl44⟩) (e44 : PySem.W.codeIn K (.ref c44) "law" = true) (k44 : PySem.W.keepIn K (.ref f44) = true)
    {CCoverError : Addr} (eg_CoverError : PySem.W.nsIn K mainGlobals "CoverError" = some (some (.ref CCoverError))) (ek_CoverError : PySem.W.keepIn K (.ref CCoverError) = true) (et_CoverError : PySem.W.typeIn K (.ref CCoverError) = some (.type "type")) (ei_CoverError : PySem.W.isClsIn K CCoverError = true) (e1_CoverError : PySem.W.findIn K (.ref CCoverError) "__getattribute__" = some (some (.builtin "BaseException.__getattribute__"))) (e2_CoverError : PySem.W.findIn K (.ref CCoverError) "__getattr__" = some none) (e3_CoverError : PySem.W.subIn K (.ref CCoverError) (.type "BaseException") = some true) (e4_CoverError : PySem.W.hasDictIn K CCoverError = true) (e5_CoverError : PySem.W.findIn K (.ref CCoverError) "__class__" = some (some (.builtin "object.__class__"))) (e6_CoverError : PySem.W.specialIn K (.builtin "object.__class__") "__get__" = some (some (.builtin "getset_descriptor.__get__"))) (e7_CoverError : PySem.W.takesIn K (.builtin "object.__class__") = some true) (e8_CoverError : PySem.W.mroIn K CCoverError (.type "object") = some true)
    {CNoText : Addr} (eg_NoText : PySem.W.nsIn K mainGlobals "NoText" = some (some (.ref CNoText))) (ek_NoText : PySem.W.keepIn K (.ref CNoText) = true) (et_NoText : PySem.W.typeIn K (.ref CNoText) = some (.type "type")) (ei_NoText : PySem.W.isClsIn K CNoText = true) (e1_NoText : PySem.W.findIn K (.ref CNoText) "__getattribute__" = some (some (.builtin "BaseException.__getattribute__"))) (e2_NoText : PySem.W.findIn K (.ref CNoText) "__getattr__" = some none) (e3_NoText : PySem.W.subIn K (.ref CNoText) (.type "BaseException") = some true) (e4_NoText : PySem.W.hasDictIn K CNoText = true) (e5_NoText : PySem.W.findIn K (.ref CNoText) "__class__" = some (some (.builtin "object.__class__"))) (e6_NoText : PySem.W.specialIn K (.builtin "object.__class__") "__get__" = some (some (.builtin "getset_descriptor.__get__"))) (e7_NoText : PySem.W.takesIn K (.builtin "object.__class__") = some true) (e8_NoText : PySem.W.mroIn K CNoText (.type "object") = some true)
    {CNoDepth : Addr} (eg_NoDepth : PySem.W.nsIn K mainGlobals "NoDepth" = some (some (.ref CNoDepth))) (ek_NoDepth : PySem.W.keepIn K (.ref CNoDepth) = true) (et_NoDepth : PySem.W.typeIn K (.ref CNoDepth) = some (.type "type")) (ei_NoDepth : PySem.W.isClsIn K CNoDepth = true) (e1_NoDepth : PySem.W.findIn K (.ref CNoDepth) "__getattribute__" = some (some (.builtin "BaseException.__getattribute__"))) (e2_NoDepth : PySem.W.findIn K (.ref CNoDepth) "__getattr__" = some none) (e3_NoDepth : PySem.W.subIn K (.ref CNoDepth) (.type "BaseException") = some true) (e4_NoDepth : PySem.W.hasDictIn K CNoDepth = true) (e5_NoDepth : PySem.W.findIn K (.ref CNoDepth) "__class__" = some (some (.builtin "object.__class__"))) (e6_NoDepth : PySem.W.specialIn K (.builtin "object.__class__") "__get__" = some (some (.builtin "getset_descriptor.__get__"))) (e7_NoDepth : PySem.W.takesIn K (.builtin "object.__class__") = some true) (e8_NoDepth : PySem.W.mroIn K CNoDepth (.type "object") = some true)
    {CTooMany : Addr} (eg_TooMany : PySem.W.nsIn K mainGlobals "TooMany" = some (some (.ref CTooMany))) (ek_TooMany : PySem.W.keepIn K (.ref CTooMany) = true) (et_TooMany : PySem.W.typeIn K (.ref CTooMany) = some (.type "type")) (ei_TooMany : PySem.W.isClsIn K CTooMany = true) (e1_TooMany : PySem.W.findIn K (.ref CTooMany) "__getattribute__" = some (some (.builtin "BaseException.__getattribute__"))) (e2_TooMany : PySem.W.findIn K (.ref CTooMany) "__getattr__" = some none) (e3_TooMany : PySem.W.subIn K (.ref CTooMany) (.type "BaseException") = some true) (e4_TooMany : PySem.W.hasDictIn K CTooMany = true) (e5_TooMany : PySem.W.findIn K (.ref CTooMany) "__class__" = some (some (.builtin "object.__class__"))) (e6_TooMany : PySem.W.specialIn K (.builtin "object.__class__") "__get__" = some (some (.builtin "getset_descriptor.__get__"))) (e7_TooMany : PySem.W.takesIn K (.builtin "object.__class__") = some true) (e8_TooMany : PySem.W.mroIn K CTooMany (.type "object") = some true)
    {CNoMatch : Addr} (eg_NoMatch : PySem.W.nsIn K mainGlobals "NoMatch" = some (some (.ref CNoMatch))) (ek_NoMatch : PySem.W.keepIn K (.ref CNoMatch) = true) (et_NoMatch : PySem.W.typeIn K (.ref CNoMatch) = some (.type "type")) (ei_NoMatch : PySem.W.isClsIn K CNoMatch = true) (e1_NoMatch : PySem.W.findIn K (.ref CNoMatch) "__getattribute__" = some (some (.builtin "BaseException.__getattribute__"))) (e2_NoMatch : PySem.W.findIn K (.ref CNoMatch) "__getattr__" = some none) (e3_NoMatch : PySem.W.subIn K (.ref CNoMatch) (.type "BaseException") = some true) (e4_NoMatch : PySem.W.hasDictIn K CNoMatch = true) (e5_NoMatch : PySem.W.findIn K (.ref CNoMatch) "__class__" = some (some (.builtin "object.__class__"))) (e6_NoMatch : PySem.W.specialIn K (.builtin "object.__class__") "__get__" = some (some (.builtin "getset_descriptor.__get__"))) (e7_NoMatch : PySem.W.takesIn K (.builtin "object.__class__") = some true) (e8_NoMatch : PySem.W.mroIn K CNoMatch (.type "object") = some true)
    {CNoChange : Addr} (eg_NoChange : PySem.W.nsIn K mainGlobals "NoChange" = some (some (.ref CNoChange))) (ek_NoChange : PySem.W.keepIn K (.ref CNoChange) = true) (et_NoChange : PySem.W.typeIn K (.ref CNoChange) = some (.type "type")) (ei_NoChange : PySem.W.isClsIn K CNoChange = true) (e1_NoChange : PySem.W.findIn K (.ref CNoChange) "__getattribute__" = some (some (.builtin "BaseException.__getattribute__"))) (e2_NoChange : PySem.W.findIn K (.ref CNoChange) "__getattr__" = some none) (e3_NoChange : PySem.W.subIn K (.ref CNoChange) (.type "BaseException") = some true) (e4_NoChange : PySem.W.hasDictIn K CNoChange = true) (e5_NoChange : PySem.W.findIn K (.ref CNoChange) "__class__" = some (some (.builtin "object.__class__"))) (e6_NoChange : PySem.W.specialIn K (.builtin "object.__class__") "__get__" = some (some (.builtin "getset_descriptor.__get__"))) (e7_NoChange : PySem.W.takesIn K (.builtin "object.__class__") = some true) (e8_NoChange : PySem.W.mroIn K CNoChange (.type "object") = some true) (ex_NoChange : PySem.W.excIn K CNoChange [.type "ValueError", .type "Exception", .type "BaseException", .type "object"] "ValueError.__new__" = true)
    {CNoRow : Addr} (eg_NoRow : PySem.W.nsIn K mainGlobals "NoRow" = some (some (.ref CNoRow))) (ek_NoRow : PySem.W.keepIn K (.ref CNoRow) = true) (et_NoRow : PySem.W.typeIn K (.ref CNoRow) = some (.type "type")) (ei_NoRow : PySem.W.isClsIn K CNoRow = true) (e1_NoRow : PySem.W.findIn K (.ref CNoRow) "__getattribute__" = some (some (.builtin "BaseException.__getattribute__"))) (e2_NoRow : PySem.W.findIn K (.ref CNoRow) "__getattr__" = some none) (e3_NoRow : PySem.W.subIn K (.ref CNoRow) (.type "BaseException") = some true) (e4_NoRow : PySem.W.hasDictIn K CNoRow = true) (e5_NoRow : PySem.W.findIn K (.ref CNoRow) "__class__" = some (some (.builtin "object.__class__"))) (e6_NoRow : PySem.W.specialIn K (.builtin "object.__class__") "__get__" = some (some (.builtin "getset_descriptor.__get__"))) (e7_NoRow : PySem.W.takesIn K (.builtin "object.__class__") = some true) (e8_NoRow : PySem.W.mroIn K CNoRow (.type "object") = some true) (ex_NoRow : PySem.W.excIn K CNoRow [.type "ValueError", .type "Exception", .type "BaseException", .type "object"] "ValueError.__new__" = true)
    (su_NoChange_NoChange : PySem.W.subIn K (.ref CNoChange) (.ref CNoChange) = some true)
    (su_NoRow_NoRow : PySem.W.subIn K (.ref CNoRow) (.ref CNoRow) = some true)
    (su_NoRow_ValueError : PySem.W.subIn K (.ref CNoRow) (.type "ValueError") = some true)
    (su_NoRow_NoText : PySem.W.subIn K (.ref CNoRow) (.ref CNoText) = some false)
    (su_NoRow_NoDepth : PySem.W.subIn K (.ref CNoRow) (.ref CNoDepth) = some false)
    (su_NoRow_TooMany : PySem.W.subIn K (.ref CNoRow) (.ref CTooMany) = some false)
    (su_NoRow_NoMatch : PySem.W.subIn K (.ref CNoRow) (.ref CNoMatch) = some false)
    (su_NoRow_NoChange : PySem.W.subIn K (.ref CNoRow) (.ref CNoChange) = some false)
    {dCHANGES : Addr} {esCHANGES : Array DictEntry} {nnCHANGES : Nat} (uACHANGES : PySem.W.nsIn K mainGlobals "CHANGES" = some (some (.ref dCHANGES))) (uBCHANGES : K.lookup dCHANGES = some { cls := .type "dict", data := .dict esCHANGES nnCHANGES }) (uLCHANGES : PySem.W.KeysLit w.params esCHANGES.toList) (uSCHANGES : (dCHANGES == sysModules) = false) (uWCHANGES_kind : PySem.W.nsIn K dCHANGES "kind" = some (some (.ref f18))) (uWCHANGES_lead : PySem.W.nsIn K dCHANGES "lead" = some (some (.ref f19))) (uWCHANGES_more : PySem.W.nsIn K dCHANGES "more" = some (some (.ref f20))) (uWCHANGES_less : PySem.W.nsIn K dCHANGES "less" = some (some (.ref f21))) (uWCHANGES_outs : PySem.W.nsIn K dCHANGES "outs" = some (some (.ref f22))) (uN18_19 : f18 ≠ f19) (uN18_20 : f18 ≠ f20) (uN18_21 : f18 ≠ f21) (uN18_22 : f18 ≠ f22) (uN19_20 : f19 ≠ f20) (uN19_21 : f19 ≠ f21) (uN19_22 : f19 ≠ f22) (uN20_21 : f20 ≠ f21) (uN20_22 : f20 ≠ f22) (uN21_22 : f21 ≠ f22)
    (uZCHANGES_0 : PySem.W.nsIn K dCHANGES "" = some none)
    (uZCHANGES_1 : PySem.W.nsIn K dCHANGES "0" = some none)
    (uZCHANGES_2 : PySem.W.nsIn K dCHANGES "way" = some none)
    (uZCHANGES_3 : PySem.W.nsIn K dCHANGES "Kind" = some none)
    (uZCHANGES_4 : PySem.W.nsIn K dCHANGES "leads" = some none)
    {dQUESTIONS : Addr} {esQUESTIONS : Array DictEntry} {nnQUESTIONS : Nat} (uAQUESTIONS : PySem.W.nsIn K mainGlobals "QUESTIONS" = some (some (.ref dQUESTIONS))) (uBQUESTIONS : K.lookup dQUESTIONS = some { cls := .type "dict", data := .dict esQUESTIONS nnQUESTIONS }) (uLQUESTIONS : PySem.W.KeysLit w.params esQUESTIONS.toList) (uSQUESTIONS : (dQUESTIONS == sysModules) = false)  
    (uZQUESTIONS_0 : PySem.W.nsIn K dQUESTIONS "gate" = some none)
    (uZQUESTIONS_1 : PySem.W.nsIn K dQUESTIONS "kind" = some none)
    (uZQUESTIONS_2 : PySem.W.nsIn K dQUESTIONS "lead" = some none)
    (uZQUESTIONS_3 : PySem.W.nsIn K dQUESTIONS "less" = some none)
    (uZQUESTIONS_4 : PySem.W.nsIn K dQUESTIONS "outs" = some none)
    (z_ValueError : PySem.W.nsIn K mainGlobals "ValueError" = some none) (z_all : PySem.W.nsIn K mainGlobals "all" = some none) (z_any : PySem.W.nsIn K mainGlobals "any" = some none) (z_bool : PySem.W.nsIn K mainGlobals "bool" = some none) (z_enumerate : PySem.W.nsIn K mainGlobals "enumerate" = some none) (z_int : PySem.W.nsIn K mainGlobals "int" = some none) (z_isinstance : PySem.W.nsIn K mainGlobals "isinstance" = some none) (z_len : PySem.W.nsIn K mainGlobals "len" = some none) (z_list : PySem.W.nsIn K mainGlobals "list" = some none) (z_max : PySem.W.nsIn K mainGlobals "max" = some none) (z_range : PySem.W.nsIn K mainGlobals "range" = some none) (z_reversed : PySem.W.nsIn K mainGlobals "reversed" = some none) (z_sorted : PySem.W.nsIn K mainGlobals "sorted" = some none) (z_str : PySem.W.nsIn K mainGlobals "str" = some none) (z_tuple : PySem.W.nsIn K mainGlobals "tuple" = some none)
    {t_FIGURES t_KINDS t_MOST_GATES t_MOST_INPUTS t_MOST_OUTS : Tok} (q_FIGURES : PySem.W.nsIn K mainGlobals "FIGURES" = some (some (.str "0123456789" t_FIGURES))) (q_KINDS : PySem.W.nsIn K mainGlobals "KINDS" = some (some (.int 16 t_KINDS))) (q_MOST_GATES : PySem.W.nsIn K mainGlobals "MOST_GATES" = some (some (.int 16 t_MOST_GATES))) (q_MOST_INPUTS : PySem.W.nsIn K mainGlobals "MOST_INPUTS" = some (some (.int 8 t_MOST_INPUTS))) (q_MOST_OUTS : PySem.W.nsIn K mainGlobals "MOST_OUTS" = some (some (.int 8 t_MOST_OUTS))) : LamX.LawAtS l w K L2.CX0 12 63 "_law_script" mg fa h := by
  have e := hfa.symm.trans (PySem.W.mg_of X G a44)
  cases e
  have D_wires_of : Dfn K mg "wires_of" s_wires_of f0 c0 := ⟨⟨_, _, _, _, _, _, _, _, l0⟩, e0, k0, PySem.W.mg_of X G a0⟩
  have D_fits : Dfn K mg "fits" s_fits f1 c1 := ⟨⟨_, _, _, _, _, _, _, _, l1⟩, e1, k1, PySem.W.mg_of X G a1⟩
  have D_has_part : Dfn K mg "has_part" s_has_part f2 c2 := ⟨⟨_, _, _, _, _, _, _, _, l2⟩, e2, k2, PySem.W.mg_of X G a2⟩
  have D_is_whole : Dfn K mg "is_whole" s_is_whole f3 c3 := ⟨⟨_, _, _, _, _, _, _, _, l3⟩, e3, k3, PySem.W.mg_of X G a3⟩
  have D_is_below : Dfn K mg "is_below" s_is_below f4 c4 := ⟨⟨_, _, _, _, _, _, _, _, l4⟩, e4, k4, PySem.W.mg_of X G a4⟩
  have D_is_many : Dfn K mg "is_many" s_is_many f5 c5 := ⟨⟨_, _, _, _, _, _, _, _, l5⟩, e5, k5, PySem.W.mg_of X G a5⟩
  have D_is_gate : Dfn K mg "is_gate" s_is_gate f6 c6 := ⟨⟨_, _, _, _, _, _, _, _, l6⟩, e6, k6, PySem.W.mg_of X G a6⟩
  have D_are_gates : Dfn K mg "are_gates" s_are_gates f7 c7 := ⟨⟨_, _, _, _, _, _, _, _, l7⟩, e7, k7, PySem.W.mg_of X G a7⟩
  have D_are_outs : Dfn K mg "are_outs" s_are_outs f8 c8 := ⟨⟨_, _, _, _, _, _, _, _, l8⟩, e8, k8, PySem.W.mg_of X G a8⟩
  have D_is_net : Dfn K mg "is_net" s_is_net f9 c9 := ⟨⟨_, _, _, _, _, _, _, _, l9⟩, e9, k9, PySem.W.mg_of X G a9⟩
  have D_wires_in : Dfn K mg "wires_in" s_wires_in f10 c10 := ⟨⟨_, _, _, _, _, _, _, _, l10⟩, e10, k10, PySem.W.mg_of X G a10⟩
  have D_has_gate : Dfn K mg "has_gate" s_has_gate f11 c11 := ⟨⟨_, _, _, _, _, _, _, _, l11⟩, e11, k11, PySem.W.mg_of X G a11⟩
  have D_places : Dfn K mg "places" s_places f12 c12 := ⟨⟨_, _, _, _, _, _, _, _, l12⟩, e12, k12, PySem.W.mg_of X G a12⟩
  have D_gate_masks : Dfn K mg "gate_masks" s_gate_masks f13 c13 := ⟨⟨_, _, _, _, _, _, _, _, l13⟩, e13, k13, PySem.W.mg_of X G a13⟩
  have D_cut_masks : Dfn K mg "cut_masks" s_cut_masks f14 c14 := ⟨⟨_, _, _, _, _, _, _, _, l14⟩, e14, k14, PySem.W.mg_of X G a14⟩
  have D_told_cuts : Dfn K mg "told_cuts" s_told_cuts f15 c15 := ⟨⟨_, _, _, _, _, _, _, _, l15⟩, e15, k15, PySem.W.mg_of X G a15⟩
  have D_all_cuts : Dfn K mg "all_cuts" s_all_cuts f16 c16 := ⟨⟨_, _, _, _, _, _, _, _, l16⟩, e16, k16, PySem.W.mg_of X G a16⟩
  have D_with_gate : Dfn K mg "with_gate" s_with_gate f17 c17 := ⟨⟨_, _, _, _, _, _, _, _, l17⟩, e17, k17, PySem.W.mg_of X G a17⟩
  have D_kind_changed : Dfn K mg "kind_changed" s_kind_changed f18 c18 := ⟨⟨_, _, _, _, _, _, _, _, l18⟩, e18, k18, PySem.W.mg_of X G a18⟩
  have D_lead_changed : Dfn K mg "lead_changed" s_lead_changed f19 c19 := ⟨⟨_, _, _, _, _, _, _, _, l19⟩, e19, k19, PySem.W.mg_of X G a19⟩
  have D_gate_added : Dfn K mg "gate_added" s_gate_added f20 c20 := ⟨⟨_, _, _, _, _, _, _, _, l20⟩, e20, k20, PySem.W.mg_of X G a20⟩
  have D_gate_taken : Dfn K mg "gate_taken" s_gate_taken f21 c21 := ⟨⟨_, _, _, _, _, _, _, _, l21⟩, e21, k21, PySem.W.mg_of X G a21⟩
  have D_outs_changed : Dfn K mg "outs_changed" s_outs_changed f22 c22 := ⟨⟨_, _, _, _, _, _, _, _, l22⟩, e22, k22, PySem.W.mg_of X G a22⟩
  have D_has_word : Dfn K mg "has_word" s_has_word f23 c23 := ⟨⟨_, _, _, _, _, _, _, _, l23⟩, e23, k23, PySem.W.mg_of X G a23⟩
  have D_changed : Dfn K mg "changed" s_changed f24 c24 := ⟨⟨_, _, _, _, _, _, _, _, l24⟩, e24, k24, PySem.W.mg_of X G a24⟩
  have D_other_gates : Dfn K mg "other_gates" s_other_gates f25 c25 := ⟨⟨_, _, _, _, _, _, _, _, l25⟩, e25, k25, PySem.W.mg_of X G a25⟩
  have cl_Keeper : Cls K CKeeper := ⟨u3Keeper, u4Keeper, u5Keeper, u6Keeper⟩
  have cm_Keeper : mg "Keeper" = some (.ref CKeeper) := PySem.W.mg_of X G u0Keeper
  have D_Keeper___init__ : Mtd K CKeeper "__init__" "Keeper.__init__" s_Keeper___init__ f26 c26 := ⟨⟨_, _, _, _, _, _, _, _, l26⟩, e26, cl_Keeper, ⟨a26, j26, k26⟩⟩
  have D_Keeper_net : Mtd K CKeeper "net" "Keeper.net" s_Keeper_net f27 c27 := ⟨⟨_, _, _, _, _, _, _, _, l27⟩, e27, cl_Keeper, ⟨a27, j27, k27⟩⟩
  have D_Keeper_do : Mtd K CKeeper "do" "Keeper.do" s_Keeper_do f28 c28 := ⟨⟨_, _, _, _, _, _, _, _, l28⟩, e28, cl_Keeper, ⟨a28, j28, k28⟩⟩
  have D_number_in : Dfn K mg "number_in" s_number_in f29 c29 := ⟨⟨_, _, _, _, _, _, _, _, l29⟩, e29, k29, PySem.W.mg_of X G a29⟩
  have D_numbers_in : Dfn K mg "numbers_in" s_numbers_in f30 c30 := ⟨⟨_, _, _, _, _, _, _, _, l30⟩, e30, k30, PySem.W.mg_of X G a30⟩
  have D_in_figures : Dfn K mg "in_figures" s_in_figures f31 c31 := ⟨⟨_, _, _, _, _, _, _, _, l31⟩, e31, k31, PySem.W.mg_of X G a31⟩
  have D_change_written : Dfn K mg "change_written" s_change_written f32 c32 := ⟨⟨_, _, _, _, _, _, _, _, l32⟩, e32, k32, PySem.W.mg_of X G a32⟩
  have D_change_answer : Dfn K mg "change_answer" s_change_answer f33 c33 := ⟨⟨_, _, _, _, _, _, _, _, l33⟩, e33, k33, PySem.W.mg_of X G a33⟩
  have cl_Desk : Cls K CDesk := ⟨u3Desk, u4Desk, u5Desk, u6Desk⟩
  have cm_Desk : mg "Desk" = some (.ref CDesk) := PySem.W.mg_of X G u0Desk
  have D_Desk___init__ : Mtd K CDesk "__init__" "Desk.__init__" s_Desk___init__ f34 c34 := ⟨⟨_, _, _, _, _, _, _, _, l34⟩, e34, cl_Desk, ⟨a34, j34, k34⟩⟩
  have D_Desk_say : Mtd K CDesk "say" "Desk.say" s_Desk_say f35 c35 := ⟨⟨_, _, _, _, _, _, _, _, l35⟩, e35, cl_Desk, ⟨a35, j35, k35⟩⟩
  have D_Desk_net : Mtd K CDesk "net" "Desk.net" s_Desk_net f36 c36 := ⟨⟨_, _, _, _, _, _, _, _, l36⟩, e36, cl_Desk, ⟨a36, j36, k36⟩⟩
  have D__law_deck : Dfn K mg "_law_deck" s__law_deck f37 c37 := ⟨⟨_, _, _, _, _, _, _, _, l37⟩, e37, k37, PySem.W.mg_of X G a37⟩
  have D__law_mixed : Dfn K mg "_law_mixed" s__law_mixed f38 c38 := ⟨⟨_, _, _, _, _, _, _, _, l38⟩, e38, k38, PySem.W.mg_of X G a38⟩
  have D__law_draw : Dfn K mg "_law_draw" s__law_draw f39 c39 := ⟨⟨_, _, _, _, _, _, _, _, l39⟩, e39, k39, PySem.W.mg_of X G a39⟩
  have D__law_heard : Dfn K mg "_law_heard" s__law_heard f40 c40 := ⟨⟨_, _, _, _, _, _, _, _, l40⟩, e40, k40, PySem.W.mg_of X G a40⟩
  have D__law_put_in : Dfn K mg "_law_put_in" s__law_put_in f41 c41 := ⟨⟨_, _, _, _, _, _, _, _, l41⟩, e41, k41, PySem.W.mg_of X G a41⟩
  have D__law_change : Dfn K mg "_law_change" s__law_change f42 c42 := ⟨⟨_, _, _, _, _, _, _, _, l42⟩, e42, k42, PySem.W.mg_of X G a42⟩
  have D__law_as_change : Dfn K mg "_law_as_change" s__law_as_change f43 c43 := ⟨⟨_, _, _, _, _, _, _, _, l43⟩, e43, k43, PySem.W.mg_of X G a43⟩
  have x_CoverError : ExcT K mg "CoverError" CCoverError := ⟨PySem.W.mg_of X G eg_CoverError, ek_CoverError, et_CoverError, ei_CoverError, ⟨e1_CoverError, e2_CoverError, e3_CoverError, e4_CoverError, e5_CoverError, e6_CoverError, e7_CoverError, e8_CoverError⟩⟩
  have x_NoText : ExcT K mg "NoText" CNoText := ⟨PySem.W.mg_of X G eg_NoText, ek_NoText, et_NoText, ei_NoText, ⟨e1_NoText, e2_NoText, e3_NoText, e4_NoText, e5_NoText, e6_NoText, e7_NoText, e8_NoText⟩⟩
  have x_NoDepth : ExcT K mg "NoDepth" CNoDepth := ⟨PySem.W.mg_of X G eg_NoDepth, ek_NoDepth, et_NoDepth, ei_NoDepth, ⟨e1_NoDepth, e2_NoDepth, e3_NoDepth, e4_NoDepth, e5_NoDepth, e6_NoDepth, e7_NoDepth, e8_NoDepth⟩⟩
  have x_TooMany : ExcT K mg "TooMany" CTooMany := ⟨PySem.W.mg_of X G eg_TooMany, ek_TooMany, et_TooMany, ei_TooMany, ⟨e1_TooMany, e2_TooMany, e3_TooMany, e4_TooMany, e5_TooMany, e6_TooMany, e7_TooMany, e8_TooMany⟩⟩
  have x_NoMatch : ExcT K mg "NoMatch" CNoMatch := ⟨PySem.W.mg_of X G eg_NoMatch, ek_NoMatch, et_NoMatch, ei_NoMatch, ⟨e1_NoMatch, e2_NoMatch, e3_NoMatch, e4_NoMatch, e5_NoMatch, e6_NoMatch, e7_NoMatch, e8_NoMatch⟩⟩
  have x_NoChange : ExcM K mg "NoChange" CNoChange := ⟨⟨PySem.W.mg_of X G eg_NoChange, ek_NoChange, et_NoChange, ei_NoChange, ⟨e1_NoChange, e2_NoChange, e3_NoChange, e4_NoChange, e5_NoChange, e6_NoChange, e7_NoChange, e8_NoChange⟩⟩, ex_NoChange⟩
  have x_NoRow : ExcM K mg "NoRow" CNoRow := ⟨⟨PySem.W.mg_of X G eg_NoRow, ek_NoRow, et_NoRow, ei_NoRow, ⟨e1_NoRow, e2_NoRow, e3_NoRow, e4_NoRow, e5_NoRow, e6_NoRow, e7_NoRow, e8_NoRow⟩⟩, ex_NoRow⟩
  have kD_CHANGES : KDict K w dCHANGES esCHANGES nnCHANGES := ⟨uBCHANGES, uLCHANGES, uSCHANGES⟩
  have gD_CHANGES : ∃ u, mg "CHANGES" = some u ∧ RelV (.ref dCHANGES) u := ⟨_, PySem.W.mg_of X G uACHANGES, rfl⟩
  have kD_QUESTIONS : KDict K w dQUESTIONS esQUESTIONS nnQUESTIONS := ⟨uBQUESTIONS, uLQUESTIONS, uSQUESTIONS⟩
  have gD_QUESTIONS : ∃ u, mg "QUESTIONS" = some u ∧ RelV (.ref dQUESTIONS) u := ⟨_, PySem.W.mg_of X G uAQUESTIONS, rfl⟩
  have T : Txt mg := ⟨PySem.W.mg_none_of X G z_ValueError, PySem.W.mg_none_of X G z_all, PySem.W.mg_none_of X G z_any, PySem.W.mg_none_of X G z_bool, PySem.W.mg_none_of X G z_enumerate, PySem.W.mg_none_of X G z_int, PySem.W.mg_none_of X G z_isinstance, PySem.W.mg_none_of X G z_len, PySem.W.mg_none_of X G z_list, PySem.W.mg_none_of X G z_max, PySem.W.mg_none_of X G z_range, PySem.W.mg_none_of X G z_reversed, PySem.W.mg_none_of X G z_sorted, PySem.W.mg_none_of X G z_str, PySem.W.mg_none_of X G z_tuple, ⟨_, PySem.W.mg_of X G q_FIGURES, ⟨_, rfl⟩⟩, ⟨_, PySem.W.mg_of X G q_KINDS, ⟨_, rfl⟩⟩, ⟨_, PySem.W.mg_of X G q_MOST_GATES, ⟨_, rfl⟩⟩, ⟨_, PySem.W.mg_of X G q_MOST_INPUTS, ⟨_, rfl⟩⟩, ⟨_, PySem.W.mg_of X G q_MOST_OUTS, ⟨_, rfl⟩⟩⟩
  refine ⟨(PySem.W.fnOf "law" "law" (defArgs s_law) (defBody s_law) (defScope s_law) .none kV44 dc44 pm44 an44 (.ref c44) ct44), [(c0, P0), (c7, P7), (c8, P8), (c16, P16), (c25, P25), (c29, P29)], spLaw K ([(c0, P0), (c7, P7), (c8, P8), (c16, P16), (c25, P25), (c29, P29)].map (·.2)), ?t0, ?t1, ?t2, fun s v => .of_eq rfl, fun H a ns hl _ hH hS => ⟨a, ns, rfl, hS, hl, fun p hp => ?t3, fun _ => rfl⟩, fun base _ _ TB => ?t4⟩
  case t0 => 
    intro p hp
    simp only [List.mem_cons, List.not_mem_nil, or_false] at hp
    rcases hp with rfl | rfl | rfl | rfl | rfl | rfl
    · exact y0 f0 c0 P0 _ _ _ _ _ _ (PySem.W.mg_of X G a0) l0 rfl rfl o0 h0.1
    · exact y7 f7 c7 P7 _ _ _ _ _ _ (PySem.W.mg_of X G a7) l7 rfl rfl o7 h7.1
    · exact y8 f8 c8 P8 _ _ _ _ _ _ (PySem.W.mg_of X G a8) l8 rfl rfl o8 h8.1
    · exact y16 f16 c16 P16 _ _ _ _ _ _ (PySem.W.mg_of X G a16) l16 rfl rfl o16 h16.1
    · exact y25 f25 c25 P25 _ _ _ _ _ _ (PySem.W.mg_of X G a25) l25 rfl rfl o25 h25.1
    · exact y29 f29 c29 P29 _ _ _ _ _ _ (PySem.W.mg_of X G a29) l29 rfl rfl o29 h29.1
  case t1 => 
    intro p hp
    simp only [List.mem_cons, List.not_mem_nil, or_false] at hp
    rcases hp with rfl | rfl | rfl | rfl | rfl | rfl
    · exact n0
    · exact n7
    · exact n8
    · exact n16
    · exact n25
    · exact n29
  case t2 => 
    intro p hp
    simp only [List.mem_cons, List.not_mem_nil, or_false] at hp
    rcases hp with rfl | rfl | rfl | rfl | rfl | rfl
    · exact codeHd_of X o0 h0
    · exact codeHd_of X o7 h7
    · exact codeHd_of X o8 h8
    · exact codeHd_of X o16 h16
    · exact codeHd_of X o25 h25
    · exact codeHd_of X o29 h29
  case t3 =>
    obtain ⟨pr, hpr, rfl⟩ := List.mem_map.mp hp
    exact ⟨#[], hH pr hpr, trivial⟩
  case t4 =>
    have c__law_deck := ok_deck (P := l.prog) (w := w) (base := base) D__law_deck T
    have c__law_mixed := ok_mixed (P := l.prog) (w := w) (base := base) D__law_mixed
    have c__law_draw := ok_draw (P := l.prog) (w := w) (base := base) D__law_draw T c__law_mixed
    have c__law_put_in := ok_putin (P := l.prog) (w := w) (base := base) D__law_put_in T
    have c__law_change := ok_lchd (P := l.prog) (w := w) (base := base) D__law_change T c__law_draw c__law_put_in
    have dc : DCls K CDesk := ⟨cl_Desk, vDesk_keeper⟩
    have hq : ∀ x ∈ wordsQ, PySem.W.nsIn K dQUESTIONS x = some none := fun x hx => by
      simp only [wordsQ, List.mem_cons, List.not_mem_nil, or_false] at hx
      rcases hx with rfl | rfl | rfl | rfl | rfl
      · exact uZQUESTIONS_0
      · exact uZQUESTIONS_1
      · exact uZQUESTIONS_2
      · exact uZQUESTIONS_3
      · exact uZQUESTIONS_4
    have c_number_in := ok_number_in (P := l.prog) (w := w) (base := base) (Ts := [(c0, P0), (c7, P7), (c8, P8), (c16, P16), (c25, P25), (c29, P29)].map (·.2)) D_number_in T (tabB_of (TB (c29, P29) (by simp))) (by simp)
    have c_numbers_in := ok_numbers_in (P := l.prog) (w := w) (base := base) (Ts := [(c0, P0), (c7, P7), (c8, P8), (c16, P16), (c25, P25), (c29, P29)].map (·.2)) D_numbers_in T c_number_in
    have c_change_written := ok_chgw (P := l.prog) (w := w) (base := base) (Ts := [(c0, P0), (c7, P7), (c8, P8), (c16, P16), (c25, P25), (c29, P29)].map (·.2)) D_change_written T c_numbers_in
    have c_in_figures := ok_figs (P := l.prog) (w := w) (base := base) D_in_figures T
    have kc : KCls K CKeeper := ⟨cl_Keeper, vKeeper_k, vKeeper_held, vKeeper_kept⟩
    have c_is_whole := ok_whole (P := l.prog) (w := w) (base := base) D_is_whole T
    have c_is_below := ok_below (P := l.prog) (w := w) (base := base) D_is_below c_is_whole
    have c_wires_in := ok_wires (P := l.prog) (w := w) (base := base) D_wires_in T
    have c_has_gate := ok_hasgate (P := l.prog) (w := w) (base := base) D_has_gate T c_is_below c_wires_in
    have c_with_gate := ok_with (P := l.prog) (w := w) (base := base) D_with_gate T
    have c_kind_changed := ok_kindT (P := l.prog) (w := w) (base := base) D_kind_changed T c_has_gate c_with_gate
    have c_lead_changed := ok_leadT (P := l.prog) (w := w) (base := base) D_lead_changed T c_has_gate c_is_below c_with_gate
    have c_gate_added := ok_addedT (P := l.prog) (w := w) (base := base) D_gate_added T
    have c_gate_taken := ok_takenT (P := l.prog) (w := w) (base := base) D_gate_taken T
    have c_outs_changed := ok_outscT (P := l.prog) (w := w) (base := base) D_outs_changed T
    have hS : ∀ f sp, actS f18 f19 f20 f21 f22 f = some sp → Held l.prog w K mg base 4 f sp := fun f sp h => by
      unfold actS at h
      split at h
      · rename_i e
        cases h
        rw [e]
        exact heldOf c_kind_changed D_kind_changed.mgf
      · skip
        split at h
        · rename_i e
          cases h
          rw [e]
          exact heldOf c_lead_changed D_lead_changed.mgf
        · skip
          split at h
          · rename_i e
            cases h
            rw [e]
            exact heldOf c_gate_added D_gate_added.mgf
          · skip
            split at h
            · rename_i e
              cases h
              rw [e]
              exact heldOf c_gate_taken D_gate_taken.mgf
            · skip
              split at h
              · rename_i e
                cases h
                rw [e]
                exact heldOf c_outs_changed D_outs_changed.mgf
              · cases h
    have hw : ∀ x ∈ wordsC, ∃ f, PySem.W.nsIn K dCHANGES x = some (some (.ref f)) ∧ actS f18 f19 f20 f21 f22 f = some (spActT x) := fun x hx => by
      simp only [wordsC, List.mem_cons, List.not_mem_nil, or_false] at hx
      rcases hx with rfl | rfl | rfl | rfl | rfl
      · exact ⟨f18, uWCHANGES_kind, by unfold actS; rw [if_pos rfl]⟩
      · exact ⟨f19, uWCHANGES_lead, by unfold actS; rw [if_neg (Ne.symm uN18_19), if_pos rfl]⟩
      · exact ⟨f20, uWCHANGES_more, by unfold actS; rw [if_neg (Ne.symm uN18_20), if_neg (Ne.symm uN19_20), if_pos rfl]⟩
      · exact ⟨f21, uWCHANGES_less, by unfold actS; rw [if_neg (Ne.symm uN18_21), if_neg (Ne.symm uN19_21), if_neg (Ne.symm uN20_21), if_pos rfl]⟩
      · exact ⟨f22, uWCHANGES_outs, by unfold actS; rw [if_neg (Ne.symm uN18_22), if_neg (Ne.symm uN19_22), if_neg (Ne.symm uN20_22), if_neg (Ne.symm uN21_22), if_pos rfl]⟩
    have hz : ∀ x ∈ wordsN, PySem.W.nsIn K dCHANGES x = some none := fun x hx => by
      simp only [wordsN, List.mem_cons, List.not_mem_nil, or_false] at hx
      rcases hx with rfl | rfl | rfl | rfl | rfl
      · exact uZCHANGES_0
      · exact uZCHANGES_1
      · exact uZCHANGES_2
      · exact uZCHANGES_3
      · exact uZCHANGES_4
    have c_has_word := ok_haswordT (P := l.prog) (w := w) (base := base) D_has_word T kD_CHANGES gD_CHANGES (fun x hx => let ⟨f, h, _⟩ := hw x hx; ⟨f, h⟩) hz
    have c_is_many := ok_many (P := l.prog) (w := w) (base := base) D_is_many T c_is_whole
    have c_is_gate := ok_isgate (P := l.prog) (w := w) (base := base) D_is_gate T c_is_below
    have c_are_gates := ok_aregates (P := l.prog) (w := w) (base := base) (Ts := [(c0, P0), (c7, P7), (c8, P8), (c16, P16), (c25, P25), (c29, P29)].map (·.2)) D_are_gates T c_is_gate (tabB_of (TB (c7, P7) (by simp))) (by simp)
    have c_are_outs := ok_areouts (P := l.prog) (w := w) (base := base) (Ts := [(c0, P0), (c7, P7), (c8, P8), (c16, P16), (c25, P25), (c29, P29)].map (·.2)) D_are_outs T c_is_below (tabB_of (TB (c8, P8) (by simp))) (by simp)
    have c_is_net := ok_isnet (P := l.prog) (w := w) (base := base) (Ts := [(c0, P0), (c7, P7), (c8, P8), (c16, P16), (c25, P25), (c29, P29)].map (·.2)) D_is_net T c_is_many c_are_gates c_are_outs
    have c_changed := ok_changedT (P := l.prog) (w := w) (base := base) (Ts := [(c0, P0), (c7, P7), (c8, P8), (c16, P16), (c25, P25), (c29, P29)].map (·.2)) D_changed T kD_CHANGES gD_CHANGES hS hw x_NoChange c_has_word c_is_net
    have c_places := ok_places (P := l.prog) (w := w) (base := base) D_places
    have c_fits := ok_fits (P := l.prog) (w := w) (base := base) D_fits T
    have c_has_part := ok_haspart (P := l.prog) (w := w) (base := base) D_has_part T
    have c_gate_masks := ok_gatemasks (P := l.prog) (w := w) (base := base) D_gate_masks T c_fits c_has_part
    have c_cut_masks := ok_cutmasks (P := l.prog) (w := w) (base := base) D_cut_masks T c_places c_gate_masks
    have c_wires_of := ok_wiresof (P := l.prog) (w := w) (base := base) (Ts := [(c0, P0), (c7, P7), (c8, P8), (c16, P16), (c25, P25), (c29, P29)].map (·.2)) D_wires_of T (tabB_of (TB (c0, P0) (by simp))) (by simp)
    have c_told_cuts := ok_told (P := l.prog) (w := w) (base := base) (Ts := [(c0, P0), (c7, P7), (c8, P8), (c16, P16), (c25, P25), (c29, P29)].map (·.2)) D_told_cuts T c_wires_of
    have c_all_cuts := ok_allcuts (P := l.prog) (w := w) (base := base) (Ts := [(c0, P0), (c7, P7), (c8, P8), (c16, P16), (c25, P25), (c29, P29)].map (·.2)) D_all_cuts T c_wires_in c_cut_masks c_places c_told_cuts (tabB_of (TB (c16, P16) (by simp))) (by simp)
    have c_other_gates := ok_other (P := l.prog) (w := w) (base := base) (Ts := [(c0, P0), (c7, P7), (c8, P8), (c16, P16), (c25, P25), (c29, P29)].map (·.2)) D_other_gates T (tabB_of (TB (c25, P25) (by simp))) (by simp)
    have c_Keeper_do := ok_kdo (P := l.prog) (w := w) (base := base) (Ts := [(c0, P0), (c7, P7), (c8, P8), (c16, P16), (c25, P25), (c29, P29)].map (·.2)) D_Keeper_do T kc c_changed c_all_cuts c_other_gates
    have c_change_answer := ok_chga (P := l.prog) (w := w) (base := base) (Ts := [(c0, P0), (c7, P7), (c8, P8), (c16, P16), (c25, P25), (c29, P29)].map (·.2)) D_change_answer T x_NoChange su_NoChange_NoChange c_change_written c_in_figures c_Keeper_do
    have c_Desk_say := ok_sayC (P := l.prog) (w := w) (base := base) (Ts := [(c0, P0), (c7, P7), (c8, P8), (c16, P16), (c25, P25), (c29, P29)].map (·.2)) D_Desk_say T dc x_NoRow kD_QUESTIONS gD_QUESTIONS hq c_change_answer
    have c__law_heard := ok_heardD (P := l.prog) (w := w) (base := base) D__law_heard T x_NoMatch x_NoChange x_NoDepth x_NoRow x_NoText x_TooMany su_NoRow_NoRow su_NoRow_ValueError su_NoRow_NoDepth su_NoRow_TooMany su_NoRow_NoMatch su_NoRow_NoChange su_NoRow_NoText mono_spSayC c_Desk_say
    have c__law_as_change := ok_aschg (P := l.prog) (w := w) (base := base) D__law_as_change T
    have c_Keeper___init__ := ok_kinit (P := l.prog) (w := w) (base := base) (Ts := [(c0, P0), (c7, P7), (c8, P8), (c16, P16), (c25, P25), (c29, P29)].map (·.2)) D_Keeper___init__ T kc cm_Keeper u1Keeper u2Keeper c_all_cuts
    have c_Desk___init__ := ok_dinit (P := l.prog) (w := w) (base := base) (Ts := [(c0, P0), (c7, P7), (c8, P8), (c16, P16), (c25, P25), (c29, P29)].map (·.2)) D_Desk___init__ T dc cm_Desk u1Desk u2Desk c_Keeper___init__
    have c_Keeper_net := ok_knet (P := l.prog) (w := w) (base := base) D_Keeper_net T kc
    have c_Desk_net := ok_dnet (P := l.prog) (w := w) (base := base) D_Desk_net T dc c_Keeper_net
    exact ok_law l44 e44 T c__law_deck c__law_draw c__law_change c__law_heard c__law_as_change c_Desk___init__ c_Desk_net c_Keeper___init__ c_Keeper_net (met_calm c_Keeper_do)
end K76
open PySem PySem.W PyProof.Rows
set_option maxRecDepth 100000 in
set_option maxHeartbeats 0 in
theorem PySem.Challenge.cw_tablecover_k76_desk_changes_holds : PySem.Challenge.rw_tablecover_k76_desk_changes.Holds := by
  w_on; o_law; k_head; (case hw => w_witness2)
  k_fill
  refine GX.walk_defs (l := PySem.Challenge.rw_tablecover_k76_desk_changes) (n := 63) (k := 12) (x := "_law_script") (CX := fun _ => L2.CX0) rfl (by decide) rfl ⟨rfl, by decide, by decide⟩ (fun w h Y => PySem.W.km_in_of Y) ?F (fun _ _ _ _ _ h => h)
  case F =>
    intro w mg fa h Y KX G hmg TF
    refine' K76.all_mk KX G hmg ?a0 ?l0 ?e0 ?k0 ?o0 ?h0 ?n0 ?y0 ?a1 ?l1 ?e1 ?k1 ?a2 ?l2 ?e2 ?k2 ?a3 ?l3 ?e3 ?k3 ?a4 ?l4 ?e4 ?k4 ?a5 ?l5 ?e5 ?k5 ?a6 ?l6 ?e6 ?k6 ?a7 ?l7 ?e7 ?k7 ?o7 ?h7 ?n7 ?y7 ?a8 ?l8 ?e8 ?k8 ?o8 ?h8 ?n8 ?y8 ?a9 ?l9 ?e9 ?k9 ?a10 ?l10 ?e10 ?k10 ?a11 ?l11 ?e11 ?k11 ?a12 ?l12 ?e12 ?k12 ?a13 ?l13 ?e13 ?k13 ?a14 ?l14 ?e14 ?k14 ?a15 ?l15 ?e15 ?k15 ?a16 ?l16 ?e16 ?k16 ?o16 ?h16 ?n16 ?y16 ?a17 ?l17 ?e17 ?k17 ?a18 ?l18 ?e18 ?k18 ?a19 ?l19 ?e19 ?k19 ?a20 ?l20 ?e20 ?k20 ?a21 ?l21 ?e21 ?k21 ?a22 ?l22 ?e22 ?k22 ?a23 ?l23 ?e23 ?k23 ?a24 ?l24 ?e24 ?k24 ?a25 ?l25 ?e25 ?k25 ?o25 ?h25 ?n25 ?y25 ?u0Keeper ?u1Keeper ?u2Keeper ?u3Keeper ?u4Keeper ?u5Keeper ?u6Keeper ?vKeeper_k ?vKeeper_held ?vKeeper_kept ?a26 ?l26 ?e26 ?k26 ?j26 ?a27 ?l27 ?e27 ?k27 ?j27 ?a28 ?l28 ?e28 ?k28 ?j28 ?a29 ?l29 ?e29 ?k29 ?o29 ?h29 ?n29 ?y29 ?a30 ?l30 ?e30 ?k30 ?a31 ?l31 ?e31 ?k31 ?a32 ?l32 ?e32 ?k32 ?a33 ?l33 ?e33 ?k33 ?u0Desk ?u1Desk ?u2Desk ?u3Desk ?u4Desk ?u5Desk ?u6Desk ?vDesk_keeper ?a34 ?l34 ?e34 ?k34 ?j34 ?a35 ?l35 ?e35 ?k35 ?j35 ?a36 ?l36 ?e36 ?k36 ?j36 ?a37 ?l37 ?e37 ?k37 ?a38 ?l38 ?e38 ?k38 ?a39 ?l39 ?e39 ?k39 ?a40 ?l40 ?e40 ?k40 ?a41 ?l41 ?e41 ?k41 ?a42 ?l42 ?e42 ?k42 ?a43 ?l43 ?e43 ?k43 ?a44 ?l44 ?e44 ?k44 ?eg_CoverError ?ek_CoverError ?et_CoverError ?ei_CoverError ?e1_CoverError ?e2_CoverError ?e3_CoverError ?e4_CoverError ?e5_CoverError ?e6_CoverError ?e7_CoverError ?e8_CoverError ?eg_NoText ?ek_NoText ?et_NoText ?ei_NoText ?e1_NoText ?e2_NoText ?e3_NoText ?e4_NoText ?e5_NoText ?e6_NoText ?e7_NoText ?e8_NoText ?eg_NoDepth ?ek_NoDepth ?et_NoDepth ?ei_NoDepth ?e1_NoDepth ?e2_NoDepth ?e3_NoDepth ?e4_NoDepth ?e5_NoDepth ?e6_NoDepth ?e7_NoDepth ?e8_NoDepth ?eg_TooMany ?ek_TooMany ?et_TooMany ?ei_TooMany ?e1_TooMany ?e2_TooMany ?e3_TooMany ?e4_TooMany ?e5_TooMany ?e6_TooMany ?e7_TooMany ?e8_TooMany ?eg_NoMatch ?ek_NoMatch ?et_NoMatch ?ei_NoMatch ?e1_NoMatch ?e2_NoMatch ?e3_NoMatch ?e4_NoMatch ?e5_NoMatch ?e6_NoMatch ?e7_NoMatch ?e8_NoMatch ?eg_NoChange ?ek_NoChange ?et_NoChange ?ei_NoChange ?e1_NoChange ?e2_NoChange ?e3_NoChange ?e4_NoChange ?e5_NoChange ?e6_NoChange ?e7_NoChange ?e8_NoChange ?ex_NoChange ?eg_NoRow ?ek_NoRow ?et_NoRow ?ei_NoRow ?e1_NoRow ?e2_NoRow ?e3_NoRow ?e4_NoRow ?e5_NoRow ?e6_NoRow ?e7_NoRow ?e8_NoRow ?ex_NoRow ?su_NoChange_NoChange ?su_NoRow_NoRow ?su_NoRow_ValueError ?su_NoRow_NoText ?su_NoRow_NoDepth ?su_NoRow_TooMany ?su_NoRow_NoMatch ?su_NoRow_NoChange ?uACHANGES ?uBCHANGES ?uLCHANGES ?uSCHANGES ?uWCHANGES_kind ?uWCHANGES_lead ?uWCHANGES_more ?uWCHANGES_less ?uWCHANGES_outs ?uN18_19 ?uN18_20 ?uN18_21 ?uN18_22 ?uN19_20 ?uN19_21 ?uN19_22 ?uN20_21 ?uN20_22 ?uN21_22 ?uZCHANGES_0 ?uZCHANGES_1 ?uZCHANGES_2 ?uZCHANGES_3 ?uZCHANGES_4 ?uAQUESTIONS ?uBQUESTIONS ?uLQUESTIONS ?uSQUESTIONS ?uZQUESTIONS_0 ?uZQUESTIONS_1 ?uZQUESTIONS_2 ?uZQUESTIONS_3 ?uZQUESTIONS_4 ?z_ValueError ?z_all ?z_any ?z_bool ?z_enumerate ?z_int ?z_isinstance ?z_len ?z_list ?z_max ?z_range ?z_reversed ?z_sorted ?z_str ?z_tuple ?q_FIGURES ?q_KINDS ?q_MOST_GATES ?q_MOST_INPUTS ?q_MOST_OUTS
    (case a0 => k_is)
    (case l0 => k_is)
    (case e0 => k_is)
    (case k0 => k_is)
    (case o0 => k_is)
    (case h0 => exact ⟨rfl, rfl, rfl, rfl, rfl, rfl, by decide⟩)
    (case n0 => rfl)
    (case y0 => exact TF _ (by decide +kernel))
    (case a1 => k_is)
    (case l1 => k_is)
    (case e1 => k_is)
    (case k1 => k_is)
    (case a2 => k_is)
    (case l2 => k_is)
    (case e2 => k_is)
    (case k2 => k_is)
    (case a3 => k_is)
    (case l3 => k_is)
    (case e3 => k_is)
    (case k3 => k_is)
    (case a4 => k_is)
    (case l4 => k_is)
    (case e4 => k_is)
    (case k4 => k_is)
    (case a5 => k_is)
    (case l5 => k_is)
    (case e5 => k_is)
    (case k5 => k_is)
    (case a6 => k_is)
    (case l6 => k_is)
    (case e6 => k_is)
    (case k6 => k_is)
    (case a7 => k_is)
    (case l7 => k_is)
    (case e7 => k_is)
    (case k7 => k_is)
    (case o7 => k_is)
    (case h7 => exact ⟨rfl, rfl, rfl, rfl, rfl, rfl, by decide⟩)
    (case n7 => rfl)
    (case y7 => exact TF _ (by decide +kernel))
    (case a8 => k_is)
    (case l8 => k_is)
    (case e8 => k_is)
    (case k8 => k_is)
    (case o8 => k_is)
    (case h8 => exact ⟨rfl, rfl, rfl, rfl, rfl, rfl, by decide⟩)
    (case n8 => rfl)
    (case y8 => exact TF _ (by decide +kernel))
    (case a9 => k_is)
    (case l9 => k_is)
    (case e9 => k_is)
    (case k9 => k_is)
    (case a10 => k_is)
    (case l10 => k_is)
    (case e10 => k_is)
    (case k10 => k_is)
    (case a11 => k_is)
    (case l11 => k_is)
    (case e11 => k_is)
    (case k11 => k_is)
    (case a12 => k_is)
    (case l12 => k_is)
    (case e12 => k_is)
    (case k12 => k_is)
    (case a13 => k_is)
    (case l13 => k_is)
    (case e13 => k_is)
    (case k13 => k_is)
    (case a14 => k_is)
    (case l14 => k_is)
    (case e14 => k_is)
    (case k14 => k_is)
    (case a15 => k_is)
    (case l15 => k_is)
    (case e15 => k_is)
    (case k15 => k_is)
    (case a16 => k_is)
    (case l16 => k_is)
    (case e16 => k_is)
    (case k16 => k_is)
    (case o16 => k_is)
    (case h16 => exact ⟨rfl, rfl, rfl, rfl, rfl, rfl, by decide⟩)
    (case n16 => rfl)
    (case y16 => exact TF _ (by decide +kernel))
    (case a17 => k_is)
    (case l17 => k_is)
    (case e17 => k_is)
    (case k17 => k_is)
    (case a18 => k_is)
    (case l18 => k_is)
    (case e18 => k_is)
    (case k18 => k_is)
    (case a19 => k_is)
    (case l19 => k_is)
    (case e19 => k_is)
    (case k19 => k_is)
    (case a20 => k_is)
    (case l20 => k_is)
    (case e20 => k_is)
    (case k20 => k_is)
    (case a21 => k_is)
    (case l21 => k_is)
    (case e21 => k_is)
    (case k21 => k_is)
    (case a22 => k_is)
    (case l22 => k_is)
    (case e22 => k_is)
    (case k22 => k_is)
    (case a23 => k_is)
    (case l23 => k_is)
    (case e23 => k_is)
    (case k23 => k_is)
    (case a24 => k_is)
    (case l24 => k_is)
    (case e24 => k_is)
    (case k24 => k_is)
    (case a25 => k_is)
    (case l25 => k_is)
    (case e25 => k_is)
    (case k25 => k_is)
    (case o25 => k_is)
    (case h25 => exact ⟨rfl, rfl, rfl, rfl, rfl, rfl, by decide⟩)
    (case n25 => rfl)
    (case y25 => exact TF _ (by decide +kernel))
    (case u0Keeper => k_is)
    (case u1Keeper => k_is)
    (case u2Keeper => k_is)
    (case u3Keeper => k_is)
    (case u4Keeper => k_is)
    (case u5Keeper => k_is)
    (case u6Keeper => k_is)
    (case vKeeper_k => k_is)
    (case vKeeper_held => k_is)
    (case vKeeper_kept => k_is)
    (case a26 => k_is)
    (case l26 => k_is)
    (case e26 => k_is)
    (case k26 => k_is)
    (case j26 => k_is)
    (case a27 => k_is)
    (case l27 => k_is)
    (case e27 => k_is)
    (case k27 => k_is)
    (case j27 => k_is)
    (case a28 => k_is)
    (case l28 => k_is)
    (case e28 => k_is)
    (case k28 => k_is)
    (case j28 => k_is)
    (case a29 => k_is)
    (case l29 => k_is)
    (case e29 => k_is)
    (case k29 => k_is)
    (case o29 => k_is)
    (case h29 => exact ⟨rfl, rfl, rfl, rfl, rfl, rfl, by decide⟩)
    (case n29 => rfl)
    (case y29 => exact TF _ (by decide +kernel))
    (case a30 => k_is)
    (case l30 => k_is)
    (case e30 => k_is)
    (case k30 => k_is)
    (case a31 => k_is)
    (case l31 => k_is)
    (case e31 => k_is)
    (case k31 => k_is)
    (case a32 => k_is)
    (case l32 => k_is)
    (case e32 => k_is)
    (case k32 => k_is)
    (case a33 => k_is)
    (case l33 => k_is)
    (case e33 => k_is)
    (case k33 => k_is)
    (case u0Desk => k_is)
    (case u1Desk => k_is)
    (case u2Desk => k_is)
    (case u3Desk => k_is)
    (case u4Desk => k_is)
    (case u5Desk => k_is)
    (case u6Desk => k_is)
    (case vDesk_keeper => k_is)
    (case a34 => k_is)
    (case l34 => k_is)
    (case e34 => k_is)
    (case k34 => k_is)
    (case j34 => k_is)
    (case a35 => k_is)
    (case l35 => k_is)
    (case e35 => k_is)
    (case k35 => k_is)
    (case j35 => k_is)
    (case a36 => k_is)
    (case l36 => k_is)
    (case e36 => k_is)
    (case k36 => k_is)
    (case j36 => k_is)
    (case a37 => k_is)
    (case l37 => k_is)
    (case e37 => k_is)
    (case k37 => k_is)
    (case a38 => k_is)
    (case l38 => k_is)
    (case e38 => k_is)
    (case k38 => k_is)
    (case a39 => k_is)
    (case l39 => k_is)
    (case e39 => k_is)
    (case k39 => k_is)
    (case a40 => k_is)
    (case l40 => k_is)
    (case e40 => k_is)
    (case k40 => k_is)
    (case a41 => k_is)
    (case l41 => k_is)
    (case e41 => k_is)
    (case k41 => k_is)
    (case a42 => k_is)
    (case l42 => k_is)
    (case e42 => k_is)
    (case k42 => k_is)
    (case a43 => k_is)
    (case l43 => k_is)
    (case e43 => k_is)
    (case k43 => k_is)
    (case a44 => k_is)
    (case l44 => k_is)
    (case e44 => k_is)
    (case k44 => k_is)
    (case eg_CoverError => k_is)
    (case ek_CoverError => k_is)
    (case et_CoverError => k_is)
    (case ei_CoverError => k_is)
    (case e1_CoverError => k_is)
    (case e2_CoverError => k_is)
    (case e3_CoverError => k_is)
    (case e4_CoverError => k_is)
    (case e5_CoverError => k_is)
    (case e6_CoverError => k_is)
    (case e7_CoverError => k_is)
    (case e8_CoverError => k_is)
    (case eg_NoText => k_is)
    (case ek_NoText => k_is)
    (case et_NoText => k_is)
    (case ei_NoText => k_is)
    (case e1_NoText => k_is)
    (case e2_NoText => k_is)
    (case e3_NoText => k_is)
    (case e4_NoText => k_is)
    (case e5_NoText => k_is)
    (case e6_NoText => k_is)
    (case e7_NoText => k_is)
    (case e8_NoText => k_is)
    (case eg_NoDepth => k_is)
    (case ek_NoDepth => k_is)
    (case et_NoDepth => k_is)
    (case ei_NoDepth => k_is)
    (case e1_NoDepth => k_is)
    (case e2_NoDepth => k_is)
    (case e3_NoDepth => k_is)
    (case e4_NoDepth => k_is)
    (case e5_NoDepth => k_is)
    (case e6_NoDepth => k_is)
    (case e7_NoDepth => k_is)
    (case e8_NoDepth => k_is)
    (case eg_TooMany => k_is)
    (case ek_TooMany => k_is)
    (case et_TooMany => k_is)
    (case ei_TooMany => k_is)
    (case e1_TooMany => k_is)
    (case e2_TooMany => k_is)
    (case e3_TooMany => k_is)
    (case e4_TooMany => k_is)
    (case e5_TooMany => k_is)
    (case e6_TooMany => k_is)
    (case e7_TooMany => k_is)
    (case e8_TooMany => k_is)
    (case eg_NoMatch => k_is)
    (case ek_NoMatch => k_is)
    (case et_NoMatch => k_is)
    (case ei_NoMatch => k_is)
    (case e1_NoMatch => k_is)
    (case e2_NoMatch => k_is)
    (case e3_NoMatch => k_is)
    (case e4_NoMatch => k_is)
    (case e5_NoMatch => k_is)
    (case e6_NoMatch => k_is)
    (case e7_NoMatch => k_is)
    (case e8_NoMatch => k_is)
    (case eg_NoChange => k_is)
    (case ek_NoChange => k_is)
    (case et_NoChange => k_is)
    (case ei_NoChange => k_is)
    (case e1_NoChange => k_is)
    (case e2_NoChange => k_is)
    (case e3_NoChange => k_is)
    (case e4_NoChange => k_is)
    (case e5_NoChange => k_is)
    (case e6_NoChange => k_is)
    (case e7_NoChange => k_is)
    (case e8_NoChange => k_is)
    (case ex_NoChange => k_exc)
    (case eg_NoRow => k_is)
    (case ek_NoRow => k_is)
    (case et_NoRow => k_is)
    (case ei_NoRow => k_is)
    (case e1_NoRow => k_is)
    (case e2_NoRow => k_is)
    (case e3_NoRow => k_is)
    (case e4_NoRow => k_is)
    (case e5_NoRow => k_is)
    (case e6_NoRow => k_is)
    (case e7_NoRow => k_is)
    (case e8_NoRow => k_is)
    (case ex_NoRow => k_exc)
    (case su_NoChange_NoChange => k_is)
    (case su_NoRow_NoRow => k_is)
    (case su_NoRow_ValueError => k_is)
    (case su_NoRow_NoText => k_is)
    (case su_NoRow_NoDepth => k_is)
    (case su_NoRow_TooMany => k_is)
    (case su_NoRow_NoMatch => k_is)
    (case su_NoRow_NoChange => k_is)
    (case uACHANGES => k_is)
    (case uBCHANGES => k_is)
    (case uLCHANGES => exact ⟨⟨_, _, rfl, rfl⟩, ⟨⟨_, _, rfl, rfl⟩, ⟨⟨_, _, rfl, rfl⟩, ⟨⟨_, _, rfl, rfl⟩, ⟨⟨_, _, rfl, rfl⟩, trivial⟩⟩⟩⟩⟩)
    (case uSCHANGES => rfl)
    (case uWCHANGES_kind => k_is)
    (case uWCHANGES_lead => k_is)
    (case uWCHANGES_more => k_is)
    (case uWCHANGES_less => k_is)
    (case uWCHANGES_outs => k_is)
    (case uN18_19 => decide)
    (case uN18_20 => decide)
    (case uN18_21 => decide)
    (case uN18_22 => decide)
    (case uN19_20 => decide)
    (case uN19_21 => decide)
    (case uN19_22 => decide)
    (case uN20_21 => decide)
    (case uN20_22 => decide)
    (case uN21_22 => decide)
    (case uZCHANGES_0 => k_is)
    (case uZCHANGES_1 => k_is)
    (case uZCHANGES_2 => k_is)
    (case uZCHANGES_3 => k_is)
    (case uZCHANGES_4 => k_is)
    (case uAQUESTIONS => k_is)
    (case uBQUESTIONS => k_is)
    (case uLQUESTIONS => exact ⟨⟨_, _, rfl, rfl⟩, ⟨⟨_, _, rfl, rfl⟩, ⟨⟨_, _, rfl, rfl⟩, ⟨⟨_, _, rfl, rfl⟩, ⟨⟨_, _, rfl, rfl⟩, ⟨⟨_, _, rfl, rfl⟩, ⟨⟨_, _, rfl, rfl⟩, ⟨⟨_, _, rfl, rfl⟩, trivial⟩⟩⟩⟩⟩⟩⟩⟩)
    (case uSQUESTIONS => rfl)
    (case uZQUESTIONS_0 => k_is)
    (case uZQUESTIONS_1 => k_is)
    (case uZQUESTIONS_2 => k_is)
    (case uZQUESTIONS_3 => k_is)
    (case uZQUESTIONS_4 => k_is)
    (case z_ValueError => k_is)
    (case z_all => k_is)
    (case z_any => k_is)
    (case z_bool => k_is)
    (case z_enumerate => k_is)
    (case z_int => k_is)
    (case z_isinstance => k_is)
    (case z_len => k_is)
    (case z_list => k_is)
    (case z_max => k_is)
    (case z_range => k_is)
    (case z_reversed => k_is)
    (case z_sorted => k_is)
    (case z_str => k_is)
    (case z_tuple => k_is)
    (case q_FIGURES => k_is)
    (case q_KINDS => k_is)
    (case q_MOST_GATES => k_is)
    (case q_MOST_INPUTS => k_is)
    (case q_MOST_OUTS => k_is)
