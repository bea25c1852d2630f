import PyProof.Rows.All
import Wide.All
import OpenK.AllK
import Wide.FinOn
import HandS.ForMost
import HandS.AnyAll
import HandS.GenList
import PyProof.TupleOfGen
import HandS.Walk
import HandS.Codes
import HandS.TupAny
import HandS.IsInst
import HandS.EndTab
import HandS.Wide
import HandS.Conv
import KE.GoesMore
import PyProof.EnumMake
import HandS.Style
import HandS.TupMul
import HandS.SetFor
import HandS.Strs
import HandS.Zip
import HandS.NamedTupSort
import HandS.TupSets
import KE.BitLaws
import KE.IntBitsLaws
import HandS.WideBits
import HandS.Rev
import HandS.RevRange
import HandS.Dict
import KE.KIndexOf
import KE.KDictPairs
import HandS.Flow
import PyProof.ReprRoads
import HandS.Iter
import HandS.SortInts
import PyProof.EqAt
import PyProof.NeKinds
import PySem.Challenge.RW_tablecover_k26_things_that_are_no_papers
set_option Elab.async false
set_option linter.all false
set_option maxRecDepth 100000
set_option maxHeartbeats 4000000
/-! Generator expressions as arguments of all, any, tuple, over the hand layer: the element may call, make objects, hold further generator expressions. -/
namespace GX
open PySem PySem.Spec PyProof.Rows L2 GenW
/-- the frame of a generator expression made in the state s; A0: what runs around it while it runs -/
abbrev gcx (X : Cx) (A0 : Around) (s : Shared) (H : Hp) (scope : Scope) (code : Value) (fp : List Addr) : Cx :=
  { X with
    A := A0.deeper (genEnv scope (cloFrom X.env.cells scope.names []) s.heap.objs.size code builtinsNs X.env)
    s_0 := s
    H_0 := H
    env := genEnv scope (cloFrom X.env.cells scope.names []) s.heap.objs.size code builtinsNs X.env
    outer := X.stack
    stack := genEnv scope (cloFrom X.env.cells scope.names []) s.heap.objs.size code builtinsNs X.env :: X.stack
    ex := fp
    fn := fun _ => false
    calm := true
    pn := []
    xe := fun _ _ => False }
/-- the names of the generator expression's scope -/
structure GxOk (N : List Str) (sc scope : Scope) (own : List (Str × Nat)) : Prop where
  blk : BlkOk N sc scope own
  co : scope.isCoroutine = false
  cell : ∀ y ∈ scope.names, y.2 ≠ .cell
  dot : scope.names.lookup (".0" : Str) = some NameKind.local
section
variable {X : Cx} {pins : List (Addr × Obj)} {σ : L2.St} {H : Hp} {s : Shared}
theorem gen_start {A0 : Around} {scope : Scope} {own : List (Str × Nat)} {fp : List Addr} {code : Value} {h5 : Heap} {g5 : Array GenState} {t5 : Nat} {m : Str → Option Value}
    (I : Inv X pins σ H s) (ok : GxOk X.N X.env.scope scope own) (hN : X.N.Nodup) (hfp : ∀ b ∈ fp, FpOk X pins H b ∧ b < s.heap.objs.size)
    (hh : A0.handled = none) (hfr : A0.frames = some X.stack)
    (hn : h5.Ns s.heap.objs.size m) (kp : ∀ b o, s.heap.get? b = some o → h5.get? b = some o) (hg : AllBare g5) :
    Inv (gcx X A0 s H scope code fp) [] (wipe σ (own.map (·.2))) H { s with heap := h5, gens := g5, toks := t5 } := by
  have hfree : ∀ y ∈ scope.names, y.2 = .free → ∃ c, X.env.cells.lookup y.1 = some c := fun y hy e => by
    rcases ok.blk.free y hy e with k | k
    · exact I.ok.has _ (.inl k)
    · exact I.ok.has _ (.inr k)
  have cm : ∀ {y c}, (cloFrom X.env.cells scope.names []).lookup y = some c → X.env.cells.lookup y = some c ∧ c < s.heap.objs.size ∧ scope.names.lookup y = some .free := fun {y c} hl => by
    rcases cloFrom_mem (PySem.mem_of_lookup hl) with hm | ⟨h1, rfl⟩
    · cases hm
    · obtain ⟨c, hc⟩ := hfree _ h1 rfl
      rw [hc]
      obtain ⟨w, z⟩ := I.cell _ _ hc
      exact ⟨rfl, z.lt, ok.blk.uniq _ h1⟩
  have look : ∀ {y}, scope.names.lookup y = some .free → ∃ c, (cloFrom X.env.cells scope.names []).lookup y = some c ∧ X.env.cells.lookup y = some c := fun {y} hl => by
    have hy : (y, NameKind.free) ∈ scope.names := PySem.mem_of_lookup hl
    obtain ⟨c', e'⟩ := mem_lookup (cloFrom_has (cells := X.env.cells) (acc := []) hy)
    exact ⟨c', e', (cm e').1⟩
  have okB : (gcx X A0 s H scope code fp).Ok := by
    refine ⟨I.ok.mod, ok.blk.kind, I.ok.glob, rfl, Nat.le_refl _, fun y z c e1 e2 => ?_, fun y hy => ?_, fun y c z e => (by cases z), fun _ => hh, Around.frames_deeper hfr, .inr ⟨rfl, rfl⟩,
      fun b hb => ⟨Nat.ne_of_lt (hfp b hb).2, fun y c e z => ?_⟩, I.bs, Nat.le_trans I.ok.bsz I.sz, fun b o e hb => ?_, fun b hb z => ?_, I.stack, I.stkFree⟩
    · exact I.ok.inj y z c (cm e1).1 (cm e2).1
    · rcases hy with hy | hy
      · exact absurd rfl (ok.cell _ (PySem.mem_of_lookup hy))
      · obtain ⟨c, h1, _⟩ := look hy
        exact ⟨c, h1⟩
    · exact (hfp b hb).1.2.2.2.2.1 y c (cm e).1 z
    · rcases (hfp b hb).1.2.2.2.1 with z | z
      · exact I.ok.noex b o e z
      · exact absurd (Nat.lt_of_lt_of_le (Heap.lt_size e) (Nat.le_trans I.ok.bsz z)) (Nat.lt_irrefl _)
    · rcases List.mem_cons.mp (I.stkSub b z) with z | z
      · exact (hfp b hb).1.2.1 z
      · exact (hfp b hb).1.2.2.1 z
  refine ⟨okB, rfl, hg, Un.kept kp, ⟨m, hn, fun i y av e1 e2 e3 => ?_⟩, fun y c e => ?_, I.hok.fresh (Nat.le_refl _), fun y c e => I.freeC y c (cm e).1, fun p hp => absurd (show p ∈ ([] : List (Addr × Obj)) ++ [] from hp) (by simp), I.hok.kept kp, by rw [wipe_length]; exact I.len⟩
  · obtain ⟨e2, hne⟩ := wipe_some e2
    have no : ∀ k, scope.names.lookup y = some k → ¬ (k = .local ∨ k = .cell) := fun k e hh => by
      rcases ok.blk.own _ (PySem.mem_of_lookup e) hh with e' | e'
      · obtain ⟨p, hp, hpy⟩ := List.mem_map.mp e'
        have e3 := ok.blk.ix p hp
        have : p.1 = y := hpy
        rw [this] at e3
        exact hne (List.mem_map.mpr ⟨p, hp, nodup_ix hN e3 e1⟩)
      · exact e' (List.mem_of_getElem? e1)
    have hfr : scope.names.lookup y = some .free := by
      rcases e3 with e3 | e3 | e3
      · exact absurd (.inl rfl) (no _ e3)
      · exact absurd (.inr rfl) (no _ e3)
      · exact e3
    obtain ⟨m', hn', hl⟩ := I.loc
    have hvis : Vis X.env.scope y := (ok.blk.free _ (PySem.mem_of_lookup hfr) rfl).elim (fun k => .inr (.inl k)) (fun k => .inr (.inr k))
    obtain ⟨w, r, q⟩ := hl i y av e1 e2 hvis
    refine ⟨w, r, .inr ⟨.inr hfr, ?_⟩⟩
    obtain ⟨c, h1, h2⟩ := look hfr
    rcases q with ⟨k, _⟩ | ⟨_, c', e', z⟩
    · have k : X.env.scope.names.lookup y = some .local := k
      rcases ok.blk.free _ (PySem.mem_of_lookup hfr) rfl with k' | k' <;> rw [show X.env.scope.names.lookup y = _ from k'] at k <;> cases k
    · rw [h2] at e'; cases e'
      exact ⟨c, h1, z.keeps kp⟩
  · obtain ⟨w, z⟩ := I.cell y c (cm e).1
    exact ⟨w, z.keeps kp⟩
end
/-! ### asleep -/
/-- while the generator sleeps its consumer changes what stands at B alone -/
structure Slp (B : List Addr) (s s' : Shared) : Prop where
  os : s'.os = s.os
  bare : AllBare s'.gens
  keep : ∀ b o, b ∉ B → s.heap.get? b = some o → s'.heap.get? b = some o
/-- the consumer's own objects -/
structure Aprt (Y : Cx) (B fp : List Addr) (a : Addr) : Prop where
  hi : ∀ b ∈ B, Y.s_0.heap.objs.size ≤ b
  lo : ∀ b ∈ B, b ≠ Y.env.locals
  ce : ∀ b ∈ B, ∀ x c, Y.env.cells.lookup x = some c → c ≠ b
  sf : ∀ b ∈ B, b ∉ Y.fs
  bf : ∀ b ∈ B, b ∉ fp
  na : a ∉ B
  af : a ∉ fp
theorem woken {Y : Cx} {B fp : List Addr} {a : Addr} {go : Obj} {pins pins' : List (Addr × Obj)} {σ : L2.St} {H : Hp} {s s' : Shared} (hpn : Y.pn = []) (hB : Aprt Y B fp a) (I : Inv Y ((a, go) :: pins) σ H s)
    (hHB : ∀ b ∈ B, H b = none) (z : Slp B s s') (hp : ∀ p ∈ pins', p.1 ∈ B ∧ s'.heap.get? p.1 = some p.2 ∧ ∀ v, p.2.data ≠ .cell v) : Inv Y ((a, go) :: pins') σ H s' := by
  have I1 : Inv Y [(a, go)] σ H s := I.pins_of fun p hp => by
    have e : p = (a, go) := List.mem_singleton.mp hp
    rw [e]
    exact I.pin (a, go) (List.mem_append_right _ List.mem_cons_self)
  have nt : ∀ b u, H b = some u → b ∉ B := fun b u q hb => by rw [hHB b hb] at q; cases q
  obtain ⟨z1, z2, z3⟩ := z
  obtain ⟨hh, g, d, t, o⟩ := s'
  have ho : o = s.os := z1
  subst ho
  have J : Inv Y [(a, go)] σ H { s with heap := hh, gens := g, drawn := d, toks := t } := by
    refine I1.step (g' := g) (t' := t) (d' := d) (ch := B) (fun b hb => ?_)
      (fun b ob _ _ hc q _ => z3 b ob hc q) (fun b ob _ _ hc q _ => ⟨ob.slots, z3 b ob hc q⟩) (fun _ _ _ _ n => n) (fun b ob hc q => ⟨ob, z3 b ob hc q⟩)
      (fun _ _ q => q) (fun _ _ _ q => q) (fun b ps q => ⟨#[], by rw [q]; simp⟩) (fun m hm => ?_) (fun b u q => ?_) z2
    · refine ⟨.inr (hB.hi b hb), hB.lo b hb, hB.ce b hb, fun p hp => ?_⟩
      rw [hpn] at hp
      have e : p = (a, go) := by simpa using hp
      rw [e]
      intro e2
      have e3 : a = b := e2
      exact hB.na (by rw [e3]; exact hb)
    · obtain ⟨ob, es, ep, ho, r⟩ := hm
      exact ⟨ob, es, ep, z3 _ ob (fun hb => hB.lo _ hb rfl) ho, r⟩
    · refine (I1.hok b u q).stay (fun c v hc y => z3 c v ?_ y) (fun _ y => y) fun _ _ y => y
      rcases hc with y | y
      · rw [y]; exact nt b u q
      · exact nt c _ y
  refine J.pins_of fun p hp' => ?_
  rcases List.mem_cons.mp hp' with e | hp'
  · rw [e]
    exact J.pin (a, go) (List.mem_append_right _ List.mem_cons_self)
  · obtain ⟨h1, h2, h3⟩ := hp p hp'
    exact ⟨h2, hHB _ h1, hB.lo _ h1, hB.sf _ h1, h3⟩
/-! ### the turns -/
/-- what the consumer holds behind ys: Pn; what is wanted at a yield: Kx; where it goes on: Cn; at the end: Fi -/
structure Con where
  B : List Addr
  Pn : List V → List (Addr × Obj) → Prop
  Kx : List V → V → Hp → Prop
  Cn : List V → V → Prop
  Fi : List V → Hp → Prop
structure Con.Ok (C : Con) : Prop where
  pn : ∀ ys pins, C.Pn ys pins → ∀ p ∈ pins, p.1 ∈ C.B ∧ ∀ v, p.2.data ≠ .cell v
  all : ∀ ys pins, C.Pn ys pins → ∀ b ∈ C.B, ∃ o, (b, o) ∈ pins
def YG (Y : Cx) (C : Con) (a : Addr) (go : Obj) (σ0 : L2.St) : Protocol := fun n s₀ v s kap =>
  ∃ ys x pins H, RelV x v ∧ C.Pn ys pins ∧ Inv Y ((a, go) :: pins) σ0 H s ∧ C.Kx ys x H ∧
    (C.Cn ys x → ∀ s', Slp C.B s s' → (∃ pins', C.Pn (ys ++ [x]) pins' ∧ ∀ p ∈ pins', s'.heap.get? p.1 = some p.2) → kap (.send .none) s')
def RG (Y : Cx) (C : Con) (a : Addr) (go : Obj) (σ0 : L2.St) : Nat → Shared → Shared → Prop := fun n s₀ s => ∃ ys pins H, C.Pn ys pins ∧ Inv Y ((a, go) :: pins) σ0 H s ∧ C.Fi ys H
def GSt (Y : Cx) (C : Con) (fp : List Addr) (tn : Nat → Heap → Prop) (a : Addr) (go : Obj) (σ0 : L2.St) (W : Nat → Nat → List V → Hp → Prop) (i m : Nat) (ys : List V) (s : Shared) : Prop :=
  ∃ pins H, C.Pn ys pins ∧ Inv Y ((a, go) :: pins) σ0 H s ∧ tn i s.heap ∧ (∀ b ∈ fp, H b = none) ∧ W i m ys H
/-- the turns' reading -/
def Turns (J : It) (g : TG) (tt : TT) (te : TE) (vs : List Nat) (σ0 : L2.St) (C : Con) (W : Nat → Nat → List V → Hp → Prop) : Prop := ∀ i m ys H, W i m ys H →
  (J.stop i H ∧ C.Fi ys H) ∨ (J.go i H ∧ ∃ Nx : List V → Hp → Prop, (∀ ys' H', Nx ys' H' → ∃ m', m' < m ∧ W (i + 1) m' ys' H') ∧ ∀ x H', J.yld i H x H' → g x σ0 H' fun σ2 H2 => wipe σ2 vs = σ0 ∧ tt σ2 H2 fun b H3 =>
    if b = true then te σ2 H3 fun y H4 => C.Kx ys y H4 ∧ (C.Cn ys y → Nx (ys ++ [y]) H4) else Nx ys H3)
section
variable {Y : Cx} {C : Con} {A0 : Around} {elt tg iter : Expr} {ifs : List Expr} {scope : Scope} {pos : Pos} {it a : Addr} {fp : List Addr} {tn : Nat → Heap → Prop} {go : Obj} {J : It} {g : TG} {tt : TT} {te : TE} {vs : List Nat} {σ0 : L2.St} {W : Nat → Nat → List V → Hp → Prop}
theorem seg_loop (hA : A0.over (.compLoop (.GeneratorExp elt [⟨tg, iter, ifs, 0⟩] scope pos) 0 (.ref it) .none Y.env) [] = Y.A) (hc : Y.calm = true) (hx : ∀ e s, Y.xe e s → False) (hpn : Y.pn = []) (hco : Y.env.scope.isCoroutine = false)
    (CO : C.Ok) (hB : Aprt Y C.B fp a) (hst : ∀ b ∈ fp, b ≠ Y.env.locals ∧ b ∉ Y.fs ∧ (b ∈ Y.ex ∨ Y.s_0.heap.objs.size ≤ b) ∧ ∀ x c, Y.env.cells.lookup x = some c → c ≠ b)
    (T : Turn Y.prog Y.w Y.K tg J fp it tn) (hg : PG Y tg g) (ht : PTs Y ifs tt) (he : PE Y elt te) (turns : Turns J g tt te vs σ0 C W) :
    ∀ (m i n : Nat) (ys : List V) (s₀ s : Shared), m < n → GSt Y C fp tn a go σ0 W i m ys s →
      Seg (model Y.prog Y.w) A0 (fun n s₀ r s₁ => r = .ok .next ∧ RG Y C a go σ0 n s₀ s₁) (YG Y C a go σ0) n s₀
        (.compLoop (.GeneratorExp elt [⟨tg, iter, ifs, 0⟩] scope pos) 0 (.ref it) .none Y.env)
        ((model Y.prog Y.w).den (.compLoop (.GeneratorExp elt [⟨tg, iter, ifs, 0⟩] scope pos) 0 (.ref it) .none Y.env)) [] s := by
  intro m
  induction m using Nat.strongRecOn with
  | ind m ih =>
    intro i n ys s₀ s hmn ⟨pins, H, hP, I, st, fr, w⟩
    have stat : ∀ {H' : Hp}, (∀ b ∈ fp, H' b = none) → ∀ b ∈ fp, FpOk Y ((a, go) :: pins) H' b := fun hn b hb => by
      obtain ⟨h1, h2, h3, h4⟩ := hst b hb
      refine ⟨hn b hb, h1, h2, h3, h4, fun p hp => ?_⟩
      rw [hpn] at hp
      rcases List.mem_cons.mp (show p ∈ (a, go) :: pins from hp) with e | hp
      · rw [e]; intro e2; have e3 : a = b := e2; exact hB.af (by rw [e3]; exact hb)
      · intro e2; exact hB.bf _ (CO.pn _ _ hP p hp).1 (by rw [e2]; exact hb)
    obtain ⟨k, rfl⟩ : ∃ k, n = k + 1 := ⟨n - 1, by omega⟩
    show Seg _ A0 _ _ _ s₀ _ ((compTurn (.GeneratorExp elt [⟨tg, iter, ifs, 0⟩] scope pos) 0 (.ref it) .none Y.env).onRaise (leaving Y.env)) [] s
    rw [compTurn_gen, Sem.onRaise_eq_wrap]
    refine seg_bind_wrap (wpAny_standAt ?_)
    rcases turns i m ys H w with ⟨stop, q⟩ | ⟨go1, Nx, hN, step⟩
    · refine seg_bind_wrap ?_
      rw [hA]
      refine thn (T.done Y rfl rfl rfl hc i _ s σ0 H _ I (stat fr) st stop) fun r s1 ⟨hr, I1⟩ => ?_
      subst hr
      exact seg_end (.ok .next) ⟨rfl, ys, pins, H, hP, I1, q⟩
    · refine seg_bind_wrap ?_
      rw [hA]
      refine thn (T.item Y rfl rfl rfl hc i _ s σ0 H _ I (stat fr) st go1) fun r s1 ⟨u, hr, h1⟩ => ?_
      subst hr
      refine seg_bind_wrap ?_
      rw [hA]
      refine thn h1 fun _ s2 ⟨x, H2, I2, rx, y2, st2, fr2⟩ => ?_
      have I2' := I2.pinned (stat fr2) (T.obj _ _ st2)
      refine seg_bind_wrap ?_
      rw [hA]
      refine wpAny_mono (hg.run _ s2 σ0 H2 x u _ I2' rx (step x H2 y2)) (fun _ s3 ⟨σ3, H3, I3, hw, q3⟩ => ?_) (fun e s' z => (hx e s' z).elim)
      refine seg_bind_wrap ?_
      rw [hA]
      refine wpAny_mono (ht.run _ s3 σ3 H3 _ I3 q3) (fun b s4 ⟨H4, I4, q4⟩ => ?_) (fun e s' z => (hx e s' z).elim)
      have weak : ∀ {H' : Hp} {s' : Shared}, Inv Y ((a, go) :: pins ++ pinsAt fp s2.heap) σ3 H' s' → Inv Y ((a, go) :: pins ++ pinsAt fp s2.heap) σ0 H' s' := fun I' => by
        refine I'.weak (by rw [← hw, wipe_length]) fun j v e => ?_
        rw [← hw] at e
        exact (wipe_some e).1
      have tnk : ∀ {H' : Hp} {s' : Shared}, Inv Y ((a, go) :: pins ++ pinsAt fp s2.heap) σ3 H' s' → tn (i + 1) s'.heap ∧ ∀ b ∈ fp, H' b = none := fun I' => by
        refine ⟨T.keep _ _ _ st2 fun b hb o e => (I'.pin (b, o) (List.mem_append_right _ (List.mem_append_right _ (mem_pinsAt hb e)))).1, fun b hb => ?_⟩
        obtain ⟨o, e, d⟩ := T.obj _ _ st2 b hb
        exact (I'.pin (b, o) (List.mem_append_right _ (List.mem_append_right _ (mem_pinsAt hb e)))).2.1
      cases b with
      | false =>
        rw [if_neg Bool.false_ne_true] at q4
        obtain ⟨m', hm, w'⟩ := hN _ _ q4
        obtain ⟨t4, f4⟩ := tnk I4
        simp only [Bool.false_eq_true, if_false]
        exact seg_again rfl (ih m' hm (i + 1) (k + 1) ys s₀ s4 (by omega) ⟨pins, H4, hP, (weak I4).unpinned, t4, f4, w'⟩)
      | true =>
        rw [if_pos rfl] at q4
        simp only [if_true]
        have hy : ∀ v, yieldOut Y.env v = yieldValue v := fun v => by simp only [yieldOut, hco, Bool.false_eq_true, if_false]
        simp only [hy]
        rw [Sem.bind_eq_wrap', Sem.bind_eq_wrap', Sem.wrap_wrap, Sem.wrap_wrap]
        refine seg_wrap ?_
        rw [hA]
        refine wpAny_mono (he.run _ s4 σ3 H4 _ I4 q4) (fun v s5 ⟨y, H5, I5, ry, kx, nx⟩ => ?_) (fun e s' z => (hx e s' z).elim)
        obtain ⟨t5, f5⟩ := tnk I5
        have I5' := (weak I5).unpinned
        refine seg_at (seg_yield rfl rfl rfl ⟨ys, y, pins, H5, ry, hP, I5', kx, fun cn s6 z ⟨pins', hP', hp'⟩ => ?_⟩)
        obtain ⟨m', hm, w'⟩ := hN _ _ (nx cn)
        have hHB : ∀ b ∈ C.B, H5 b = none := fun b hb => by
          obtain ⟨o, ho⟩ := CO.all _ _ hP b hb
          exact (I5'.pin (b, o) (List.mem_append_right _ (List.mem_cons_of_mem _ ho))).2.1
        have I6 : Inv Y ((a, go) :: pins') σ0 H5 s6 := woken hpn hB I5' hHB z fun p hp => ⟨(CO.pn _ _ hP' p hp).1, hp' p hp, (CO.pn _ _ hP' p hp).2⟩
        refine seg_again rfl (ih m' hm (i + 1) k (ys ++ [y]) s6 s6 (by omega) ⟨pins', H5, hP', I6, T.keep _ _ _ t5 fun b hb o e => z.keep b o (fun hm => hB.bf b hm hb) e, f5, w'⟩)
end
end GX
set_option Elab.async false
set_option linter.all false
set_option maxRecDepth 100000
set_option maxHeartbeats 4000000
namespace GX
open PySem PySem.Spec PyProof.Rows L2 GenW
section
variable {Y : Cx} {C : Con} {A0 : Around} {elt tg iter : Expr} {ifs : List Expr} {scope : Scope} {pos : Pos} {it a : Addr} {fp : List Addr} {tn : Nat → Heap → Prop} {go : Obj} {J : It} {g : TG} {tt : TT} {te : TE} {vs : List Nat} {σ0 : L2.St} {W : Nat → Nat → List V → Hp → Prop}
theorem seg_start (hA : A0.over (.compLoop (.GeneratorExp elt [⟨tg, iter, ifs, 0⟩] scope pos) 0 (.ref it) .none Y.env) [] = Y.A) (hc : Y.calm = true) (hx : ∀ e s, Y.xe e s → False) (hpn : Y.pn = []) (hco : Y.env.scope.isCoroutine = false)
    (CO : C.Ok) (hB : Aprt Y C.B fp a) (hst : ∀ b ∈ fp, b ≠ Y.env.locals ∧ b ∉ Y.fs ∧ (b ∈ Y.ex ∨ Y.s_0.heap.objs.size ≤ b) ∧ ∀ x c, Y.env.cells.lookup x = some c → c ≠ b)
    (T : Turn Y.prog Y.w Y.K tg J fp it tn) (hg : PG Y tg g) (ht : PTs Y ifs tt) (he : PE Y elt te) (turns : Turns J g tt te vs σ0 C W)
    (m i n : Nat) (ys : List V) (s₀ s : Shared) (hmn : m < n) (h : GSt Y C fp tn a go σ0 W i m ys s) :
      Seg (model Y.prog Y.w) A0 (fun n s₀ r s₁ => r = .ok .next ∧ RG Y C a go σ0 n s₀ s₁) (YG Y C a go σ0) n s₀
        (.compStart (.GeneratorExp elt [⟨tg, iter, ifs, 0⟩] scope pos) 0 (.ref it) .none Y.env)
        ((model Y.prog Y.w).den (.compStart (.GeneratorExp elt [⟨tg, iter, ifs, 0⟩] scope pos) 0 (.ref it) .none Y.env)) [] s := by
  have loop := seg_loop (iter := iter) (scope := scope) (pos := pos) hA hc hx hpn hco CO hB hst T hg ht he turns m i n ys s₀ s hmn h
  obtain ⟨pins, H, hP, I, st, fr, w⟩ := h
  show Seg _ A0 _ _ _ s₀ _ ((compStart (.GeneratorExp elt [⟨tg, iter, ifs, 0⟩] scope pos) 0 (.ref it) .none Y.env).onRaise (leaving Y.env)) [] s
  unfold compStart
  rw [Sem.onRaise_eq_wrap]
  show Seg _ A0 _ _ _ s₀ _ ((ask >>= _).wrap _ _ _ _) [] s
  refine seg_bind_wrap (wpAny_askSetting ?_)
  split
  · exact seg_again rfl loop
  · first
      | exact seg_bind_wrap (wpAny_rule (seg_bind_wrap (wpAny_standAt (seg_bind_wrap (T.self _ i s _ _ st (seg_again rfl loop))))))
      | (refine seg_bind_wrap (wpAny_rule ?_); show Seg _ A0 _ _ _ s₀ _ ((standAt iter.pos >>= _).wrap _ _ _ _) [] s; exact seg_bind_wrap (wpAny_standAt (seg_bind_wrap (T.self _ i s _ _ st (seg_again rfl loop)))))
end
/-! ### the generator, as its consumer sees it -/
def Live (Y : Cx) (C : Con) (A0 : Around) (a : Addr) (go : Obj) (σ0 : L2.St) (g n : Nat) (s : Shared) : Prop :=
  s.heap.IsGen a g ∧ s.heap.NoLimit ∧ ∃ gs, s.gens[g]? = some gs ∧ gs.Goes (model Y.prog Y.w) A0 (fun n s₀ r s₁ => r = .ok .next ∧ RG Y C a go σ0 n s₀ s₁) (YG Y C a go σ0) n (.send .none) (s.setGen g .running)
theorem inv_setGen {Y : Cx} {pins : List (Addr × Obj)} {σ : L2.St} {H : Hp} {s : Shared} {g : Nat} {gs : GenState} (I : Inv Y pins σ H s) (hb : gs.bare = true) : Inv Y pins σ H (s.setGen g gs) :=
  ⟨I.ok, I.os, allBare_setGen I.bare hb, I.base, I.loc, I.cell, I.free, I.freeC, I.pin, I.hok, I.len⟩
/-- one next -/
theorem gx_next {Y : Cx} {C : Con} {A : Around} {a : Addr} {go : Obj} {σ0 : L2.St} {g n : Nat} {s : Shared} {Q : Option Value → Shared → Prop} {E : Value → Shared → Prop} (hh : A.handled = none) (hroom : A.depth < recursionLimit)
    (L : Live Y C A.in1 a go σ0 g n s) (hgo : ∀ h : Heap, h.get? a = some go → h.IsGen a g)
    (hY : ∀ ys x v pins H s₁, RelV x v → C.Pn ys pins → Inv Y ((a, go) :: pins) σ0 H s₁ → C.Kx ys x H →
      (C.Cn ys x → ∀ s', Slp C.B s₁ s' → (∃ pins', C.Pn (ys ++ [x]) pins' ∧ ∀ p ∈ pins', s'.heap.get? p.1 = some p.2) → s'.heap.get? a = some go → s'.heap.NoLimit → s'.gens = s₁.gens → ∃ k, n = k + 1 ∧ Live Y C A.in1 a go σ0 g k s') → Q (some v) s₁)
    (hF : ∀ ys pins H s₁, C.Pn ys pins → Inv Y ((a, go) :: pins) σ0 H s₁ → C.Fi ys H → Q none s₁) :
    wpAny (model Y.prog Y.w) A (pyNext (.ref a)) Q E s := by
  obtain ⟨hg, hl, gs, hgs, hgoes⟩ := L
  have hgl : g < s.gens.size := (Array.getElem?_eq_some_iff.mp hgs).1
  refine wpAny_gsz (n := g + 1) hgl (wpAny_pyNext_genexpQ hh hl hroom hg hgs hgoes (fun v s₁ gs' hb hv => ?_) (fun s₁ hp h' hk => ?_))
  · intro hsz
    obtain ⟨ys, x, pins, H, rv, hP, I, kx, kap⟩ := hv
    have hsz1 : g < s₁.gens.size := by
      have q : (s₁.setGen g gs').gens.size = s₁.gens.size := setGen_size _ _ _
      have hsz' : g + 1 ≤ (s₁.setGen g gs').gens.size := hsz
      omega
    refine hY ys x v pins H _ rv hP (inv_setGen I hb) kx fun cn s' z hp ha hl' hgens => ?_
    have z' : Slp C.B s₁ (s'.setGen g .running) := ⟨z.os, allBare_setGen z.bare rfl, fun b o hb e => z.keep b o hb e⟩
    have q := kap cn _ z' hp
    cases n with
    | zero => exact False.elim q
    | succ k => exact ⟨k, rfl, hgo _ ha, hl', gs', by rw [hgens]; exact setGen_at hsz1, q⟩
  · intro _
    obtain ⟨ys, pins, H, hP, I, fi⟩ := hp
    refine hF ys pins H _ hP ?_ fi
    exact (inv_setGen (gs := .finished) (g := g) I rfl).kept (t' := s₁.toks) hk
end GX
set_option Elab.async false
set_option linter.all false
set_option maxRecDepth 100000
set_option maxHeartbeats 4000000
namespace GX
open PySem PySem.Spec PyProof.Rows L2 GenW
/-- a generator expression has been made -/
structure Made (X : Cx) (pins : List (Addr × Obj)) (σ : L2.St) (A0 : Around) (elt tg iter : Expr) (ifs : List Expr) (scope : Scope) (gpos : Pos) (own : List (Str × Nat)) (it a : Addr) (fp : List Addr) (tn : Nat → Heap → Prop) (J : It) (H4 : Hp) (s4 s5 : Shared) (code : Value) (g : Nat) (go : Obj) : Prop where
  outer : Inv X pins σ H4 s4
  inner : Inv (gcx X A0 s4 H4 scope code fp) [(a, go)] (wipe σ (own.map (·.2))) H4 s5
  turn : Turn X.prog X.w X.K tg J fp it tn
  tn0 : tn 0 s5.heap
  fpk : ∀ b ∈ fp, FpOk X pins H4 b ∧ b < s4.heap.objs.size
  alo : s4.heap.objs.size < a
  asz : s5.heap.objs.size = a + 1
  gen : ∀ h : Heap, h.get? a = some go → h.IsGen a g
  gs : s5.gens[g]? = some (.fresh (.compStart (.GeneratorExp elt [⟨tg, iter, ifs, 0⟩] scope gpos) 0 (.ref it) .none (gcx X A0 s4 H4 scope code fp).env))
  ga : s5.heap.get? a = some go
section
variable {X : Cx} {pins : List (Addr × Obj)} {σ : L2.St} {H : Hp} {s : Shared}
theorem gx_make {A0 : Around} {c P : Addr} {elt tg iter : Expr} {ifs : List Expr} {gpos : Pos} {scope : Scope} {own : List (Str × Nat)} {wi : TI} {k : Nat} {R : It → Hp → Prop} {Q' : Value → Shared → Prop}
    (hA0h : A0.handled = none) (hA0f : A0.frames = X.A.frames) (hr : Room k X.A) (TB : GxR.TabB X.base X.mg c P) (hcode : X.env.code = .ref c) (ok : GxOk X.N X.env.scope scope own) (hN : X.N.Nodup) (hi : PI X tg iter wi)
    (hs : ∀ v, genFold iter X.env v = pure v) (I : Inv X pins σ H s) (h : wi σ H fun J H1 => GxR.TabG H1 P ∧ ∀ H2, GxR.Tabbed P H1 H2 → R J H2)
    (hQ : ∀ it a fp tn J H4 s4 s5 code g go, Made X pins σ A0 elt tg iter ifs scope gpos own it a fp tn J H4 s4 s5 code g go → R J H4 → Q' (.ref a) s5) :
    wpAny (model X.prog X.w) X.A (eval (.GeneratorExp elt [⟨tg, iter, ifs, 0⟩] scope gpos) X.env) Q' X.xe s := by
  have hfree : ∀ y ∈ scope.names, y.2 = .free → ∃ c, X.env.cells.lookup y.1 = some c := fun y hy e => by
    rcases ok.blk.free y hy e with k | k
    · exact I.ok.has _ (.inl k)
    · exact I.ok.has _ (.inr k)
  refine wpAny_GeneratorExp_make ok.co (closure_ok hfree) ok.cell ok.dot ok.blk.kind (by have := hr.dp; omega) ?_ hs
  refine thn (hi.run pins s σ H _ I h) fun xv s1 hx => thn hx fun itv s2 h2 => ?_
  obtain ⟨it, fp, tn, J, H2, e, I2, T, st2, f2, ⟨ps, hP, ht⟩, q⟩ := h2
  subst e
  have hPs : s2.heap.get? P = some { cls := .none, data := .fields ps } := I2.hok P _ hP
  have cd : PySem.W.CodeHd s2.heap c P := TB.code.keeps fun b u e => I2.bk b u e
  have sz : ∀ b ∈ fp, b < s2.heap.objs.size := fun b hb => by
    obtain ⟨o, e, _⟩ := T.obj _ _ st2 b hb
    exact Heap.lt_size e
  have fnP : ∀ b ∈ fp, b ≠ P := fun b hb e => by
    have q := (f2 b hb).1
    rw [e, hP] at q
    cases q
  have cont : ∀ (code : Value) (h3 : Heap) (tk : Nat) (ps' : Array Value), Heap.ExtBut P s2.heap h3 → s2.heap.objs.size ≤ h3.objs.size → h3.get? P = some { cls := .none, data := .fields ps' } → (∃ more, ps' = ps ++ more) → TriplesOk ps'.toList →
      wpAny (model X.prog X.w) X.A (builtinsFor X.env.globals X.env.builtins) (fun bi s₄ =>
        ∀ h', h'.Ns s₄.heap.objs.size (fun y => if y = ".0" then some (Value.ref it) else none) → Heap.SameBut s₄.heap.objs.size (s₄.heap.push { cls := .type "frame", data := .dict #[] }) h' →
          Q' (.ref h'.objs.size) { s₄ with
            gens := s₄.gens.push (.fresh (.compStart (.GeneratorExp elt [⟨tg, iter, ifs, 0⟩] scope gpos) 0 (.ref it) .none (genEnv scope (cloFrom X.env.cells scope.names []) s₄.heap.objs.size code bi X.env))),
            toks := s₄.toks + 1 + 1 + 1,
            heap := h'.push { cls := .type "generator", data := .fields #[.int s₄.gens.size 0, .str "<genexpr>" (s₄.toks + 1), .str (X.env.qual ++ "<genexpr>") (s₄.toks + 1 + 1)] } }) X.xe { s2 with heap := h3, toks := tk } := by
    intro code h3 tk ps' hx hsz hP3 hmore ht3
    obtain ⟨more, em⟩ := hmore
    obtain ⟨bm, ob, e1, e2, e3, e4, e5, e6, e7, e8⟩ := TB.bm
    have keep3 : ∀ b u, b ≠ P → s2.heap.get? b = some u → h3.get? b = some u := fun b u hb e => hx b u hb e
    refine wpAny_builtinsFor (m := X.mg) (by rw [I2.ok.glob]; exact (I2.mod.glob.keeps I2.bk).extBut hx TB.gP) e1 e2 (keep3 _ _ e4 (I2.bk _ _ e5)) e6 e7 e8 ?_
    have I4 : Inv X pins σ (upd H2 P (.tbl (ps ++ more))) { s2 with heap := h3, toks := tk } :=
      GxR.inv_tab (more := more) (h' := h3) (g' := s2.gens) (d' := s2.drawn) (t' := tk) I2 hP (fun b u hb e => keep3 b u hb e) (by rw [← em]; exact hP3) I2.bare
    have hT4 : GxR.Tabbed P H2 (upd H2 P (.tbl (ps ++ more))) := ⟨⟨ps ++ more, upd_same, by rw [← em]; exact ht3⟩, fun b hb => upd_ne hb⟩
    have fk : ∀ b ∈ fp, FpOk X pins (upd H2 P (.tbl (ps ++ more))) b ∧ b < h3.objs.size := fun b hb => by
      refine ⟨⟨?_, (f2 b hb).2⟩, Nat.lt_of_lt_of_le (sz b hb) hsz⟩
      rw [upd_ne (fnP b hb)]
      exact (f2 b hb).1
    intro h' hn' hs'
    have hszh : h'.objs.size = h3.objs.size + 1 := by rw [hs'.1, Heap.size_push]
    have keep' : ∀ b o, h3.get? b = some o → h'.get? b = some o := fun b o e => hs'.extBut b o (Nat.ne_of_lt (Heap.lt_size e)) (Heap.get?_push_of_some _ e)
    have keep5 : ∀ b o, h3.get? b = some o → (h'.push { cls := .type "generator", data := .fields #[.int s2.gens.size 0, .str "<genexpr>" (tk + 1), .str (X.env.qual ++ "<genexpr>") (tk + 1 + 1)] }).get? b = some o := fun b o e => Heap.get?_push_of_some _ (keep' b o e)
    have hat : (h'.push { cls := .type "generator", data := .fields #[.int s2.gens.size 0, .str "<genexpr>" (tk + 1), .str (X.env.qual ++ "<genexpr>") (tk + 1 + 1)] }).get? h'.objs.size = some { cls := .type "generator", data := .fields #[.int s2.gens.size 0, .str "<genexpr>" (tk + 1), .str (X.env.qual ++ "<genexpr>") (tk + 1 + 1)] } := Heap.get?_push_size _ rfl
    have IY : Inv (gcx X A0 { s2 with heap := h3, toks := tk } (upd H2 P (.tbl (ps ++ more))) scope code fp) [] (wipe σ (own.map (·.2))) (upd H2 P (.tbl (ps ++ more)))
        { s2 with heap := h'.push { cls := .type "generator", data := .fields #[.int s2.gens.size 0, .str "<genexpr>" (tk + 1), .str (X.env.qual ++ "<genexpr>") (tk + 1 + 1)] }, gens := s2.gens.push (.fresh (.compStart (.GeneratorExp elt [⟨tg, iter, ifs, 0⟩] scope gpos) 0 (.ref it) .none (genEnv scope (cloFrom X.env.cells scope.names []) h3.objs.size code builtinsNs X.env))), toks := tk + 1 + 1 + 1 } :=
      gen_start (s := { s2 with heap := h3, toks := tk }) I4 ok hN fk hA0h (hA0f.trans I2.ok.frames) (hn'.push _) keep5 (I2.bare.push rfl)
    have ano : ∀ b, b < h3.objs.size → h'.objs.size ≠ b := fun b hb => by rw [hszh]; omega
    refine hQ it h'.objs.size fp tn J _ { s2 with heap := h3, toks := tk } _ code s2.gens.size _ ⟨I4, IY.pins_of fun p hp => ?_, T, ?_, fk, ?_, ?_, ?_, Array.getElem?_push_size .., hat⟩ (q _ hT4)
    · rw [List.mem_singleton.mp hp]
      refine ⟨hat, I4.hok.fresh (by show h3.objs.size ≤ h'.objs.size; omega), ?_, fun hb => ?_, fun v z => by cases z⟩
      · show h'.objs.size ≠ h3.objs.size
        omega
      · obtain ⟨_, o, ho, _⟩ := (I4.stack).mem hb
        exact ano _ (Heap.lt_size ho) rfl
    · exact T.keep _ _ _ st2 fun b hb o e => keep5 b o (keep3 b o (fnP b hb) e)
    · show h3.objs.size < h'.objs.size
      omega
    · show (h'.push _).objs.size = h'.objs.size + 1
      rw [Heap.size_push]
    · intro h hh
      exact ⟨_, _, _, hh, rfl, rfl, rfl⟩
  refine ⟨I2.nolimit, ?_⟩
  cases hf : codeAmong gpos ps.toList with
  | none =>
    refine wpAny_genexprCodeX hcode (cd.code hPs ht) (cd.tab hPs) hf fun c' h' tk hx hge hlt hco' _ htab' _ => ?_
    obtain ⟨o1, vs, f1, tf, fl, tg', inF, tx, tt, op, _, _, _, _, _, _, _, _, _, htr, _⟩ := hco'
    exact cont _ h' tk _ hx (Nat.le_trans hge (Nat.le_of_lt hlt)) htab'.2 ⟨_, rfl⟩ htr
  | some cv =>
    refine wpAny_genexprCode_hit hcode (cd.code hPs ht) hf ?_
    exact cont cv s2.heap s2.toks ps (Heap.ExtBut.refl _ _) (Nat.le_refl _) hPs ⟨#[], by simp⟩ ht
end
end GX
set_option Elab.async false
set_option linter.all false
set_option maxRecDepth 100000
set_option maxHeartbeats 4000000
namespace GX
open PySem PySem.Spec PyProof.Rows L2 GenW
theorem over_comp {A : Around} {elt : Expr} {gs : List Comprehension} {scope : Scope} {pos : Pos} {it acc : Value} {env : Env} : A.over (.compLoop (.GeneratorExp elt gs scope pos) 0 it acc env) [] = A.deeper env := by
  first
    | rfl
    | (obtain ⟨hd, d, fr, gs, u⟩ := A; simp [Around.over, Around.deeper, marksOver, frameCount, unitsOf, envsOf, guardsOf, pushEnvs, pushGuards, Code.envs, Code.env?, Code.isFrame, Code.guards, Code.isGuard, Code.weight, Code.frames, Code.isCreation, Code.isCaller, Code.cUnits])
section
variable {X : Cx} {pins : List (Addr × Obj)} {σ : L2.St} {A0 : Around} {elt tg iter : Expr} {ifs : List Expr} {scope : Scope} {gpos : Pos} {own : List (Str × Nat)} {it a : Addr} {fp : List Addr} {tn : Nat → Heap → Prop} {J : It} {H4 : Hp} {s4 s5 : Shared} {code : Value} {g : Nat} {go : Obj}
/-- behind it: the outer frame again -/
theorem Made.back (M : Made X pins σ A0 elt tg iter ifs scope gpos own it a fp tn J H4 s4 s5 code g go) {pl : List (Addr × Obj)} {σ' : L2.St} {H' : Hp} {s' : Shared} (I : Inv (gcx X A0 s4 H4 scope code fp) pl σ' H' s') : Inv X pins σ H' s' := by
  have os : s'.os = s4.os := I.os
  have un : Un (frs X.stack) fp H4 H' s4.heap s'.heap := I.base
  have hok : HOk X.prog X.w H' s'.heap := I.hok
  have bare := I.bare
  obtain ⟨h', g', d', t', o'⟩ := s'
  obtain rfl : o' = s4.os := os
  exact M.outer.call (h' := h') (g' := g') (d' := d') (t' := t') (ch := fp) un hok bare fun b hb => ⟨(M.fpk b hb).1.2.2.2.1, (M.fpk b hb).1.2.1, (M.fpk b hb).1.2.2.2.2.1, (M.fpk b hb).1.2.2.2.2.2⟩
theorem Made.stat (M : Made X pins σ A0 elt tg iter ifs scope gpos own it a fp tn J H4 s4 s5 code g go) : ∀ b ∈ fp, b ≠ (gcx X A0 s4 H4 scope code fp).env.locals ∧ b ∉ (gcx X A0 s4 H4 scope code fp).fs ∧ (b ∈ (gcx X A0 s4 H4 scope code fp).ex ∨ (gcx X A0 s4 H4 scope code fp).s_0.heap.objs.size ≤ b) ∧ ∀ x c, (gcx X A0 s4 H4 scope code fp).env.cells.lookup x = some c → c ≠ b := fun b hb =>
  ⟨(M.inner.ok.exf b hb).1, M.inner.ok.exfs b hb, .inl hb, fun x c e => (M.inner.ok.exf b hb).2 x c e⟩
/-- the consumer's objects: none, or one that is new -/
theorem Made.apart0 (M : Made X pins σ A0 elt tg iter ifs scope gpos own it a fp tn J H4 s4 s5 code g go) : Aprt (gcx X A0 s4 H4 scope code fp) [] fp a :=
  ⟨fun b hb => (by cases hb), fun b hb => (by cases hb), fun b hb => (by cases hb), fun b hb => (by cases hb), fun b hb => (by cases hb), fun hb => (by cases hb), fun hb =>
    absurd (Nat.lt_trans (M.fpk a hb).2 M.alo) (Nat.lt_irrefl _)⟩
theorem Made.apart1 (M : Made X pins σ A0 elt tg iter ifs scope gpos own it a fp tn J H4 s4 s5 code g go) {S : Addr} (hS : a < S) : Aprt (gcx X A0 s4 H4 scope code fp) [S] fp a := by
  have h1 := M.alo
  have big : ∀ b ∈ [S], s5.heap.objs.size ≤ b := fun b hb => by
    rw [List.mem_singleton.mp hb, M.asz]
    exact hS
  have sz5 : s4.heap.objs.size ≤ s5.heap.objs.size := by rw [M.asz]; omega
  refine ⟨fun b hb => Nat.le_trans sz5 (big b hb), fun b hb => ?_, fun b hb x c e z => ?_, fun b hb => M.inner.nofs (big b hb), fun b hb hb2 => ?_, fun hb => ?_, M.apart0.af⟩
  · exact Nat.ne_of_gt (Nat.lt_of_lt_of_le M.inner.lt (big b hb))
  · obtain ⟨v, q⟩ := M.inner.cell x c e
    have q1 := q.lt
    have q2 := big b hb
    rw [z] at q1
    exact absurd (Nat.lt_of_lt_of_le q1 q2) (Nat.lt_irrefl _)
  · exact absurd (Nat.lt_of_lt_of_le (M.fpk b hb2).2 (Nat.le_trans sz5 (big b hb))) (Nat.lt_irrefl _)
  · exact Nat.ne_of_lt hS (List.mem_singleton.mp hb)
/-- the fresh generator, for a consumer whose objects stand in a later state -/
theorem Made.live (M : Made X pins σ A0 elt tg iter ifs scope gpos own it a fp tn J H4 s4 s5 code g go) {C : Con} {g1 : TG} {tt : TT} {te : TE} {W : Nat → Nat → List V → Hp → Prop} {m : Nat} {s6 : Shared} {pins' : List (Addr × Obj)} (CO : C.Ok) (hB : Aprt (gcx X A0 s4 H4 scope code fp) C.B fp a)
    (co : scope.isCoroutine = false)
    (hg : PG (gcx X A0 s4 H4 scope code fp) tg g1) (ht : PTs (gcx X A0 s4 H4 scope code fp) ifs tt) (he : PE (gcx X A0 s4 H4 scope code fp) elt te) (turns : Turns J g1 tt te (own.map (·.2)) (wipe σ (own.map (·.2))) C W) (w0 : W 0 m [] H4)
    (hHB : ∀ b ∈ C.B, H4 b = none) (z : Slp C.B s5 s6) (hP : C.Pn [] pins') (hp : ∀ p ∈ pins', s6.heap.get? p.1 = some p.2) (hgens : s6.gens = s5.gens) (hl : s6.heap.NoLimit) :
    Live (gcx X A0 s4 H4 scope code fp) C A0 a go (wipe σ (own.map (·.2))) g (m + 1) s6 := by
  have ga6 : s6.heap.get? a = some go := z.keep a go hB.na M.ga
  have z' : Slp C.B s5 (s6.setGen g .running) := ⟨z.os, allBare_setGen z.bare rfl, z.keep⟩
  have I6 : Inv (gcx X A0 s4 H4 scope code fp) ((a, go) :: pins') (wipe σ (own.map (·.2))) H4 (s6.setGen g .running) := woken rfl hB M.inner hHB z' fun p hp' => ⟨(CO.pn _ _ hP p hp').1, hp p hp', (CO.pn _ _ hP p hp').2⟩
  refine ⟨M.gen _ ga6, hl, _, (by rw [hgens]; exact M.gs), ?_⟩
  refine ⟨rfl, ?_⟩
  exact seg_start over_comp rfl (fun _ _ z => z) rfl co CO hB M.stat M.turn hg ht he turns m 0 (m + 1) [] _ _ (Nat.lt_succ_self _)
    ⟨pins', H4, hP, I6, M.turn.keep _ _ _ M.tn0 fun b hb o e => z.keep b o (fun hm => hB.bf b hm hb) e, fun b hb => (M.fpk b hb).1.1, w0⟩
end
/-! ### all, any -/
def conAll (Q : VK) : Con := ⟨[], fun _ pins => pins = [], fun _ y H => ∃ c, y = .bl c ∧ (c = false → Q (.bl false) H), fun _ y => y = .bl true, fun _ H => Q (.bl true) H⟩
theorem ok_all (Q : VK) : (conAll Q).Ok := ⟨fun _ _ h p hp => (by rw [show _ = [] from h] at hp; cases hp), fun _ _ _ b hb => (by cases hb)⟩
theorem all_loop {Y : Cx} {A : Around} {a : Addr} {go : Obj} {σ0 : L2.St} {g : Nat} {Q : VK} {R : Result → Shared → Prop} (hh : A.handled = none) (hd : A.depth < recursionLimit) (hgo : ∀ h : Heap, h.get? a = some go → h.IsGen a g)
    (hR : ∀ b s' H, Inv Y [(a, go)] σ0 H s' → Q (.bl b) H → R (.ok (.ret (.bool b))) s') : ∀ (n : Nat) (s : Shared), Live Y (conAll Q) A.in1.in1 a go σ0 g n s → codeAny (model Y.prog Y.w) A (.builtin "all.loop" ⟨[.ref a], []⟩) R s := by
  intro n
  induction n with
  | zero =>
    intro s L
    refine codeAny_builtin F.entry_all_loop ?_
    rw [Around.under_plainId F.plain_all_loop _]
    show wpAny _ A.in1 (pyNext (.ref a) >>= _) _ _ s
    refine wpAny_bind (gx_next (A := A.in1) hh hd L hgo (fun ys x v pins H s₁ rv hP I kx kap => ?_) fun ys pins H s₁ hP I fi => ?_)
    · obtain ⟨c, rfl, hc⟩ := kx
      obtain rfl : v = .bool c := rv
      obtain rfl : pins = [] := hP
      refine wpAny_bind (wpAny_holding (wpAny_truthy_bool ?_))
      refine wpAny_bind (wpAny_letGo ?_)
      cases c with
      | true =>
        obtain ⟨k, hk, _⟩ := kap rfl s₁ ⟨rfl, I.bare, fun _ _ _ e => e⟩ ⟨[], rfl, fun p hp => (by cases hp)⟩ (I.pin (a, go) (List.mem_append_right _ List.mem_cons_self)).1 I.nolimit rfl
        cases hk
      | false =>
        simp only [Bool.false_eq_true, if_false]
        exact wpAny_bind (wpAny_rule (wpAny_pure (hR false s₁ H I (hc rfl))))
    · obtain rfl : pins = [] := hP
      exact wpAny_bind (wpAny_rule (wpAny_pure (hR true s₁ H I fi)))
  | succ n ih =>
    intro s L
    refine codeAny_builtin F.entry_all_loop ?_
    rw [Around.under_plainId F.plain_all_loop _]
    show wpAny _ A.in1 (pyNext (.ref a) >>= _) _ _ s
    refine wpAny_bind (gx_next (A := A.in1) hh hd L hgo (fun ys x v pins H s₁ rv hP I kx kap => ?_) fun ys pins H s₁ hP I fi => ?_)
    · obtain ⟨c, rfl, hc⟩ := kx
      obtain rfl : v = .bool c := rv
      obtain rfl : pins = [] := hP
      refine wpAny_bind (wpAny_holding (wpAny_truthy_bool ?_))
      refine wpAny_bind (wpAny_letGo ?_)
      cases c with
      | true =>
        obtain ⟨k, hk, L'⟩ := kap rfl s₁ ⟨rfl, I.bare, fun _ _ _ e => e⟩ ⟨[], rfl, fun p hp => (by cases hp)⟩ (I.pin (a, go) (List.mem_append_right _ List.mem_cons_self)).1 I.nolimit rfl
        cases hk
        simp only [if_true]
        exact wpAny_pure ⟨plainId_quiet F.plain_all_loop _, ih s₁ L'⟩
      | false =>
        simp only [Bool.false_eq_true, if_false]
        exact wpAny_bind (wpAny_rule (wpAny_pure (hR false s₁ H I (hc rfl))))
    · obtain rfl : pins = [] := hP
      exact wpAny_bind (wpAny_rule (wpAny_pure (hR true s₁ H I fi)))
/-- all(elt for tg in iter if ..) -/
def tAllG (P : Addr) (wi : TI) (g : TG) (tt : TT) (te : TE) (vs : List Nat) : TE := fun σ H Q => wi σ H fun J H1 => GxR.TabG H1 P ∧ ∀ H2, GxR.Tabbed P H1 H2 → ∃ W : Nat → Nat → List V → Hp → Prop, (∃ m, W 0 m [] H2) ∧ Turns J g tt te vs (wipe σ vs) (conAll Q) W
section
variable {X : Cx} {c P : Addr} {elt tg iter : Expr} {ifs : List Expr} {p pos gpos : Pos} {scope : Scope} {own : List (Str × Nat)} {wi : TI} {g : TG} {tt : TT} {te : TE} {k : Nat}
theorem pe_allG (hr : Room k X.A) (hgl : Gl X "all") (hm : X.mg "all" = none) (TB : GxR.TabB X.base X.mg c P) (hcode : X.env.code = .ref c) (ok : GxOk X.N X.env.scope scope own) (hN : X.N.Nodup) (hi : PI X tg iter wi)
    (hg : ∀ (s : Shared) (H : Hp) (code : Value) (fp : List Addr), PG (gcx X X.A.in1.in1 s H scope code fp) tg g) (ht : ∀ (s : Shared) (H : Hp) (code : Value) (fp : List Addr), PTs (gcx X X.A.in1.in1 s H scope code fp) ifs tt)
    (hel : ∀ (s : Shared) (H : Hp) (code : Value) (fp : List Addr), PE (gcx X X.A.in1.in1 s H scope code fp) elt te) (hs : ∀ v, genFold iter X.env v = pure v := by intro _; rfl)
    (he : starEach [.GeneratorExp elt [⟨tg, iter, ifs, 0⟩] scope gpos] X.env = (false, eval (.GeneratorExp elt [⟨tg, iter, ifs, 0⟩] scope gpos) X.env) :: starEach [] X.env := by rfl) :
    PE X (.Call (.Name "all" p) [.GeneratorExp elt [⟨tg, iter, ifs, 0⟩] scope gpos] [] pos) (tAllG P wi g tt te (own.map (·.2))) := by
  refine ⟨fun pins s σ H Q I h => ?_⟩
  refine wpAny_Call_Name_kw (ld_blt I hgl hm (show bootBuiltins "all" = some (.builtin "all") by decide +kernel) ?_)
  refine PyProof.Rows.callWith_builtin1 ?_ he (by rfl)
  rw [he]
  show wpAny _ _ (spliced ((false, eval (.GeneratorExp elt [⟨tg, iter, ifs, 0⟩] scope gpos) X.env) :: backTo pos (starEach [] X.env))) _ _ s
  refine Calls.spliced_cons (gx_make (A0 := X.A.in1.in1) (own := own) (R := fun J H2 => ∃ W : Nat → Nat → List V → Hp → Prop, (∃ m, W 0 m [] H2) ∧ Turns J g tt te (own.map (fun q : Str × Nat => q.2)) (wipe σ (own.map (fun q : Str × Nat => q.2))) (conAll Q) W) hr.hd rfl hr TB hcode ok hN hi hs I h fun it a fp tn J H4 s4 s5 code gn go M q => ?_)
  obtain ⟨W, ⟨m, w0⟩, turns⟩ := q
  refine Calls.spliced_nil ?_
  have L : Live (gcx X X.A.in1.in1 s4 H4 scope code fp) (conAll Q) X.A.in1.in1 a go (wipe σ (own.map (·.2))) gn (m + 1) s5 :=
    M.live (s6 := s5) (pins' := []) (ok_all Q) M.apart0 ok.co (hg s4 H4 code fp) (ht s4 H4 code fp) (hel s4 H4 code fp) turns w0 (fun b hb => (by cases hb)) ⟨rfl, M.inner.bare, fun _ _ _ e => e⟩ rfl (fun p hp => (by cases hp)) rfl M.inner.nolimit
  refine call_function_tree F.kind_all F.plain_all F.entry_all (F.args_all1 _) ?_
  unfold Builtin.«all»
  refine wpAny_bind (m := oneArg "all" _) (wpAny_pure ?_)
  refine wpAny_bind (wpAny_pyIter_gen (M.gen _ M.ga) ?_)
  refine wpAny_pure ⟨plainId_quiet F.plain_all_loop _, all_loop (Y := gcx X X.A.in1.in1 s4 H4 scope code fp) hr.hd hr.depth M.gen (fun b s' H' I' q' => ?_) (m + 1) s5 L⟩
  exact ⟨.bl b, H', M.back I', rfl, q'⟩
end
end GX
set_option Elab.async false
set_option linter.all false
set_option maxRecDepth 100000
set_option maxHeartbeats 4000000
namespace GX
open PySem PySem.Spec PyProof.Rows L2 GenW
/-! ### tuple -/
def conTup0 (Q : VK) : Con := ⟨[], fun _ pins => pins = [], fun ys _ _ => ys.length < sizeLine, fun _ _ => True, fun ys H => ys.length ≤ sizeLine ∧ ∀ p, H p = none → Q (.ref p) (upd H p (.tup ys))⟩
def conTup (Q : VK) (S : Addr) : Con := ⟨[S], fun ys pins => ∃ acc c, Vals ys acc.toList ∧ pins = [(S, lstObj acc c)], fun ys _ _ => ys.length < sizeLine, fun _ _ => True, fun ys H => ys.length ≤ sizeLine ∧ ∀ p, H p = none → Q (.ref p) (upd H p (.tup ys))⟩
theorem ok_tup (Q : VK) (S : Addr) : (conTup Q S).Ok := by
  refine ⟨fun ys pins ⟨acc, c, _, e⟩ p hp => ?_, fun ys pins ⟨acc, c, _, e⟩ b hb => ?_⟩
  · subst e
    rw [List.mem_singleton.mp hp]
    exact ⟨List.mem_singleton.mpr rfl, fun v z => by cases z⟩
  · subst e
    rw [List.mem_singleton.mp hb]
    exact ⟨_, List.mem_singleton.mpr rfl⟩
theorem tup_loop {Y : Cx} {A : Around} {a S : Addr} {go : Obj} {σ0 : L2.St} {g : Nat} {Q : VK} {R : Result → Shared → Prop} {res : Value} (hh : A.handled = none) (hd : A.depth < recursionLimit) (hgo : ∀ h : Heap, h.get? a = some go → h.IsGen a g) (hSa : S ≠ a) (hSc : S ≠ cStatics)
    (hR : ∀ ys acc c s' H, Vals ys acc.toList → Inv Y [(a, go), (S, lstObj acc c)] σ0 H s' → ys.length ≤ sizeLine → (∀ p, H p = none → Q (.ref p) (upd H p (.tup ys))) → R (.ok (.ret res)) s') :
    ∀ (n : Nat) (s : Shared), Live Y (conTup Q S) A.in1.in1 a go σ0 g n s → codeAny (model Y.prog Y.w) A (.builtin "list.extend.loop" ⟨[.ref S, .ref a, res], []⟩) R s := by
  intro n
  induction n with
  | zero =>
    intro s L
    refine codeAny_builtin F.entry_extend_loop ?_
    rw [Around.under_plainId F.plain_extend_loop _]
    show wpAny _ A.in1 (pyNext (.ref a) >>= _) _ _ s
    refine wpAny_bind (gx_next (A := A.in1) hh hd L hgo (fun ys x v pins H s₁ rv hP I kx kap => ?_) fun ys pins H s₁ hP I fi => ?_)
    · obtain ⟨acc, c, hv, rfl⟩ := hP
      have hS1 : s₁.heap.get? S = some (lstObj acc c) := (I.pin (S, lstObj acc c) (List.mem_append_right _ (List.mem_cons_of_mem _ List.mem_cons_self))).1
      have ga : s₁.heap.get? a = some go := (I.pin (a, go) (List.mem_append_right _ List.mem_cons_self)).1
      have keep3 : ∀ b o, b ≠ S → s₁.heap.get? b = some o → (s₁.heap.update S (Obj.mapSeq (·.push v))).get? b = some o := fun b o hbS e => (Heap.get?_update_other _ _ (Ne.symm hbS)).trans e
      obtain ⟨k, hk, _⟩ := kap trivial { s₁ with heap := s₁.heap.update S (Obj.mapSeq (·.push v)) } ⟨rfl, I.bare, fun b o hb e => keep3 b o (fun z => hb (by rw [z]; exact List.mem_singleton.mpr rfl)) e⟩
        ⟨_, ⟨acc.push v, _, by rw [Array.toList_push]; exact hv.append (.cons rv .nil), rfl⟩, fun p hp => by rw [List.mem_singleton.mp hp]; exact Heap.get?_update_self _ hS1 rfl⟩ (keep3 a go (Ne.symm hSa) ga)
        (let ⟨mc, hns, hnn⟩ := I.nolimit; ⟨mc, hns.at' fun o e => keep3 _ o (Ne.symm hSc) e, hnn⟩) rfl
      cases hk
    · obtain ⟨acc, c, hv, rfl⟩ := hP
      exact wpAny_pure (hR ys acc c s₁ H hv I fi.1 fi.2)
  | succ n ih =>
    intro s L
    refine codeAny_builtin F.entry_extend_loop ?_
    rw [Around.under_plainId F.plain_extend_loop _]
    show wpAny _ A.in1 (pyNext (.ref a) >>= _) _ _ s
    refine wpAny_bind (gx_next (A := A.in1) hh hd L hgo (fun ys x v pins H s₁ rv hP I kx kap => ?_) fun ys pins H s₁ hP I fi => ?_)
    · obtain ⟨acc, c, hv, rfl⟩ := hP
      have hS1 : s₁.heap.get? S = some (lstObj acc c) := (I.pin (S, lstObj acc c) (List.mem_append_right _ (List.mem_cons_of_mem _ List.mem_cons_self))).1
      have ga : s₁.heap.get? a = some go := (I.pin (a, go) (List.mem_append_right _ List.mem_cons_self)).1
      have keep3 : ∀ b o, b ≠ S → s₁.heap.get? b = some o → (s₁.heap.update S (Obj.mapSeq (·.push v))).get? b = some o := fun b o hbS e => (Heap.get?_update_other _ _ (Ne.symm hbS)).trans e
      have hl : acc.size < sizeLine := by
        have q1 : ys.length = acc.toList.length := hv.length
        have q2 : ys.length < sizeLine := kx
        have q3 : acc.toList.length = acc.size := Array.length_toList ..
        exact Nat.lt_of_le_of_lt (Nat.le_of_eq (q3.symm.trans q1.symm)) q2
      obtain ⟨k, hk, L'⟩ := kap trivial { s₁ with heap := s₁.heap.update S (Obj.mapSeq (·.push v)) } ⟨rfl, I.bare, fun b o hb e => keep3 b o (fun z => hb (by rw [z]; exact List.mem_singleton.mpr rfl)) e⟩
        ⟨_, ⟨acc.push v, _, by rw [Array.toList_push]; exact hv.append (.cons rv .nil), rfl⟩, fun p hp => by rw [List.mem_singleton.mp hp]; exact Heap.get?_update_self _ hS1 rfl⟩ (keep3 a go (Ne.symm hSa) ga)
        (let ⟨mc, hns, hnn⟩ := I.nolimit; ⟨mc, hns.at' fun o e => keep3 _ o (Ne.symm hSc) e, hnn⟩) rfl
      cases hk
      show wpAny _ A.in1 (updateSeq S (·.push v) >>= _) _ _ _
      refine wpAny_bind ?_
      exact wpAny_updateSeq hS1 rfl (wpAny_pure ⟨plainId_quiet F.plain_extend_loop _, ih _ L'⟩) (Nat.le_of_lt hl) (by show (acc.push v).size ≤ sizeLine + 1; rw [Array.size_push]; omega)
    · obtain ⟨acc, c, hv, rfl⟩ := hP
      exact wpAny_pure (hR ys acc c s₁ H hv I fi.1 fi.2)
section
variable {X : Cx} {pins : List (Addr × Obj)} {σ : L2.St} {A : Around} {elt tg iter : Expr} {ifs : List Expr} {scope : Scope} {gpos : Pos} {own : List (Str × Nat)} {it a : Addr} {fp : List Addr} {tn : Nat → Heap → Prop} {J : It} {H4 : Hp} {s4 s5 : Shared} {code : Value} {g : Nat} {go : Obj}
theorem collect_gx {g1 : TG} {tt : TT} {te : TE} {W : Nat → Nat → List V → Hp → Prop} {m : Nat} {Q : VK} {Q' : List Value → Shared → Prop} {E : Value → Shared → Prop} (hh : A.handled = none) (hd : A.depth < recursionLimit)
    (M : Made X pins σ A.in1.in1 elt tg iter ifs scope gpos own it a fp tn J H4 s4 s5 code g go) (co : scope.isCoroutine = false)
    (hg : PG (gcx X A.in1.in1 s4 H4 scope code fp) tg g1) (ht : PTs (gcx X A.in1.in1 s4 H4 scope code fp) ifs tt) (he : PE (gcx X A.in1.in1 s4 H4 scope code fp) elt te) (turns : Turns J g1 tt te (own.map (·.2)) (wipe σ (own.map (·.2))) (conTup0 Q) W) (w0 : W 0 m [] H4)
    (hQ : ∀ (ys : List V) (acc : Array Value) (s' : Shared) (H' : Hp), Vals ys acc.toList → Inv X pins σ H' s' → ys.length ≤ sizeLine → (∀ p, H' p = none → Q (.ref p) (upd H' p (.tup ys))) → Q' acc.toList s') :
    wpAny (model X.prog X.w) A (collect (.ref a)) Q' E s5 := by
  have hSa : s5.heap.objs.size ≠ a := by rw [M.asz]; exact Nat.succ_ne_self _
  have haS : a < s5.heap.objs.size := by rw [M.asz]; exact Nat.lt_succ_self _
  have hl5 : s5.heap.NoLimit := M.inner.nolimit
  have hcl : cStatics < s5.heap.objs.size := let ⟨_, hn, _⟩ := hl5; hn.lt
  unfold collect
  refine wpAny_bind (wpAny_runValue (codeAny_builtin F.entry_proto_collect ?_))
  rw [Around.under_plainId F.plain_proto_collect _]
  show wpAny _ A.in1 (newList [] >>= fun l => again (.builtin "list.__iadd__" ⟨[l, .ref a], []⟩)) _ _ s5
  refine wpAny_bind (wpAny_newObj_type ?_)
  refine wpAny_pure ⟨plainId_quiet F.plain_list_iadd _, codeAny_builtin F.entry_list_iadd ?_⟩
  rw [Around.under_plainId F.plain_list_iadd _]
  have k1 : ∀ b o, s5.heap.get? b = some o → (s5.heap.push { cls := .type "list", data := .seq ([] : List Value).toArray }).get? b = some o := fun b o e => Heap.get?_push_of_some _ e
  have gen1 := M.gen _ (k1 _ _ M.ga)
  show wpAny _ A.in1 (Builtin.List.listExtendWith (.ref s5.heap.objs.size) (.ref a) (.ref s5.heap.objs.size)) _ _ _
  unfold Builtin.List.listExtendWith
  refine wpAny_bind (wpAny_typeOf (Heap.IsGen.typeIs (s := { s5 with heap := _ }) gen1) ?_)
  have h1 : Builtin.List.listSameRef (.ref s5.heap.objs.size) (.ref a) = false := by simp [Builtin.List.listSameRef, hSa]
  have h2 : (Value.type "generator" == Value.type "list") = false := by decide
  have h3 : (Value.type "generator" == Value.type "tuple") = false := by decide
  simp only [h1, h2, h3, Bool.or_false, Bool.false_eq_true, if_false]
  refine wpAny_bind (wpAny_pyIter_gen (s := { s5 with heap := _ }) gen1 ?_)
  refine wpAny_bind (wpAny_holding ?_)
  unfold Builtin.List.listLengthHint
  refine wpAny_bind (wpAny_specialOf (Heap.IsGen.typeIs (s := { s5 with heap := _ }) gen1) F.gen_no_len ?_)
  show wpAny _ A.in1 (specialOf (Value.ref a) (Str.ofString "__length_hint__") >>= _) _ _ _
  refine wpAny_bind (wpAny_specialOf (Heap.IsGen.typeIs (s := { s5 with heap := _ }) gen1) F.gen_no_hint ?_)
  refine wpAny_pure ?_
  show wpAny _ A.in1 (rule "list.extend.makes-room" >>= fun _ => Builtin.List.listTouch (.ref s5.heap.objs.size) >>= fun _ =>
    again (.builtin "list.extend.loop" ⟨[.ref s5.heap.objs.size, .ref a, .ref s5.heap.objs.size], []⟩)) _ _ _
  refine wpAny_bind (wpAny_rule ?_)
  have hS1 : (s5.heap.push { cls := .type "list", data := .seq ([] : List Value).toArray }).get? s5.heap.objs.size = some { cls := .type "list", data := .seq ([] : List Value).toArray } := Heap.get?_push_size _ rfl
  refine wpAny_bind ?_
  show wpAny _ A.in1 (updateSeq s5.heap.objs.size (·.push .none) >>= fun _ => updateSeq s5.heap.objs.size (·.pop)) _ _ _
  refine wpAny_bind (wpAny_updateSeq hS1 rfl ?_)
  have hS2 := Heap.get?_update_self (Obj.mapSeq (·.push Value.none)) hS1 rfl
  refine wpAny_updateSeq hS2 rfl ?_
  have hS3 := Heap.get?_update_self (Obj.mapSeq (·.pop)) hS2 rfl
  have oth : ∀ b o, b ≠ s5.heap.objs.size → s5.heap.get? b = some o →
      (((s5.heap.push { cls := .type "list", data := .seq ([] : List Value).toArray }).update s5.heap.objs.size (Obj.mapSeq (·.push Value.none))).update s5.heap.objs.size (Obj.mapSeq (·.pop))).get? b = some o :=
    fun b o hb e => (Heap.get?_update_other _ _ (Ne.symm hb)).trans ((Heap.get?_update_other _ _ (Ne.symm hb)).trans (k1 b o e))
  have z : Slp (conTup Q s5.heap.objs.size).B s5 { s5 with heap := ((s5.heap.push { cls := .type "list", data := .seq ([] : List Value).toArray }).update s5.heap.objs.size (Obj.mapSeq (·.push Value.none))).update s5.heap.objs.size (Obj.mapSeq (·.pop)) } :=
    ⟨rfl, M.inner.bare, fun b o hb e => oth b o (fun q => hb (by rw [q]; exact List.mem_singleton.mpr rfl)) e⟩
  have L := M.live (C := conTup Q s5.heap.objs.size) (ok_tup Q _) (M.apart1 haS) co hg ht he turns w0 (fun b hb => by rw [List.mem_singleton.mp hb]; exact M.inner.hok.fresh (Nat.le_refl _)) z
    (pins' := [(s5.heap.objs.size, lstObj #[] _)]) ⟨#[], _, .nil, rfl⟩ (fun p hp => by rw [List.mem_singleton.mp hp]; exact hS3) rfl
    (let ⟨mc, hns, hnn⟩ := hl5; ⟨mc, hns.at' fun o e => oth _ o (Nat.ne_of_lt hcl) e, hnn⟩)
  refine wpAny_pure ⟨plainId_quiet F.plain_extend_loop _, tup_loop (Y := gcx X A.in1.in1 s4 H4 scope code fp) hh hd M.gen hSa (Nat.ne_of_gt hcl) (fun ys acc c s' H' hv I' hle q => ?_) (m + 1) _ L⟩
  have hS' : s'.heap.get? s5.heap.objs.size = some (lstObj acc c) := (I'.pin (s5.heap.objs.size, lstObj acc c) (List.mem_append_right _ (List.mem_cons_of_mem _ List.mem_cons_self))).1
  show wpAny _ A (load s5.heap.objs.size >>= _) _ _ s'
  refine wpAny_bind (wpAny_load hS' ?_)
  exact wpAny_pure (hQ ys acc s' H' hv (M.back I') hle q)
theorem call_tuple_gx {g1 : TG} {tt : TT} {te : TE} {W : Nat → Nat → List V → Hp → Prop} {m : Nat} {Q : VK} {E : Value → Shared → Prop} (hh : A.handled = none) (hd : A.depth < recursionLimit)
    (M : Made X pins σ A.in4 elt tg iter ifs scope gpos own it a fp tn J H4 s4 s5 code g go) (co : scope.isCoroutine = false)
    (hg : PG (gcx X A.in4 s4 H4 scope code fp) tg g1) (ht : PTs (gcx X A.in4 s4 H4 scope code fp) ifs tt) (he : PE (gcx X A.in4 s4 H4 scope code fp) elt te) (turns : Turns J g1 tt te (own.map (·.2)) (wipe σ (own.map (·.2))) (conTup0 Q) W) (w0 : W 0 m [] H4) :
    wpAny (model X.prog X.w) A (call (.type "tuple") [.ref a]) (EP X pins σ Q) E s5 := by
  have new : codeAny (model X.prog X.w) A.in1 (.call (.builtin "tuple.__new__") ⟨[.type "tuple", .ref a], []⟩) (wants (fun obj s₁ => s₁.TypeIs obj "tuple" ∧ EP X pins σ Q obj s₁) E) s5 := by
    refine codeAny_of_tree ?_
    show wpAny _ A.in1.in1 (do checkBuiltinCall "tuple.__new__" ⟨[.type "tuple", .ref a], []⟩; again (.builtin "tuple.__new__" ⟨[.type "tuple", .ref a], []⟩)) _ _ s5
    refine wpAny_bind (wpAny_of_eq (F.newCall_tuple_1 _) (wpAny_pure ⟨plainId_quiet F.plain_tuple_new _, codeAny_builtin F.entry_tuple_new ?_⟩))
    rw [Around.under_plainId F.plain_tuple_new _]
    have hsub := sub_tuple_self
    have hinit := init_tuple_lookup
    have hmh := madeHere_tuple
    have hTI : s5.TypeIs (.ref a) "generator" := Heap.IsGen.typeIs (M.gen _ M.ga)
    wp_walk using wpAny_typeOf hTI, collect_gx (A := A.in1.in1) hh hd M co hg ht he turns w0
    intro ys acc s' H' hv I' hle q
    show wpAny _ _ (Builtin.Tuple.tupleExact acc.toList.toArray >>= fun v => ret v) _ _ _
    unfold Builtin.Tuple.tupleExact
    have hlen := hv.length
    refine wpAny_bind (wpAny_newObj_type ?_ (by show acc.toList.toArray.size ≤ sizeLine; rw [List.size_toArray]; omega))
    refine wpAny_pure ?_
    have hf : H' s'.heap.objs.size = none := I'.hok.fresh (Nat.le_refl _)
    refine ⟨⟨_, Heap.get?_push_size _ rfl, rfl⟩, .ref s'.heap.objs.size, upd H' s'.heap.objs.size (.tup ys), I'.laid (t' := s'.toks) (fun b u e => Heap.get?_push_of_some _ e) (Nat.le_refl _) ?_, rfl, q _ hf⟩
    exact ⟨hle, acc.toList, hv, ⟨_, Heap.get?_push_size _ rfl, rfl, _, rfl⟩⟩
  refine callType_codes (Q₁ := fun obj s₁ => s₁.TypeIs obj "tuple" ∧ EP X pins σ Q obj s₁) F.called_tuple (F.typeCall_tuple_1 _) F.entry_object_init new fun obj s₁ h₁ => ?_
  exact ⟨h₁.1, F.args_object_init_2 obj _, object_init_meets F.called_tuple.init.lookup F.called_tuple.made (by decide) X.prog X.w A.in1 _ s₁ ⟨h₁.1, rfl, h₁.2⟩⟩
end
/-- tuple(elt for tg in iter if ..) -/
def tTupG (P : Addr) (wi : TI) (g : TG) (tt : TT) (te : TE) (vs : List Nat) : TE := fun σ H Q => wi σ H fun J H1 => GxR.TabG H1 P ∧ ∀ H2, GxR.Tabbed P H1 H2 → ∃ W : Nat → Nat → List V → Hp → Prop, (∃ m, W 0 m [] H2) ∧ Turns J g tt te vs (wipe σ vs) (conTup0 Q) W
section
variable {X : Cx} {c P : Addr} {elt tg iter : Expr} {ifs : List Expr} {p pos gpos : Pos} {scope : Scope} {own : List (Str × Nat)} {wi : TI} {g : TG} {tt : TT} {te : TE} {k : Nat}
theorem pe_tupG (hr : Room k X.A) (hgl : Gl X "tuple") (hm : X.mg "tuple" = none) (TB : GxR.TabB X.base X.mg c P) (hcode : X.env.code = .ref c) (ok : GxOk X.N X.env.scope scope own) (hN : X.N.Nodup) (hi : PI X tg iter wi)
    (hg : ∀ (s : Shared) (H : Hp) (code : Value) (fp : List Addr), PG (gcx X X.A.in4 s H scope code fp) tg g) (ht : ∀ (s : Shared) (H : Hp) (code : Value) (fp : List Addr), PTs (gcx X X.A.in4 s H scope code fp) ifs tt)
    (hel : ∀ (s : Shared) (H : Hp) (code : Value) (fp : List Addr), PE (gcx X X.A.in4 s H scope code fp) elt te) (hs : ∀ v, genFold iter X.env v = pure v := by intro _; rfl)
    (he : starEach [.GeneratorExp elt [⟨tg, iter, ifs, 0⟩] scope gpos] X.env = (false, eval (.GeneratorExp elt [⟨tg, iter, ifs, 0⟩] scope gpos) X.env) :: starEach [] X.env := by rfl) :
    PE X (.Call (.Name "tuple" p) [.GeneratorExp elt [⟨tg, iter, ifs, 0⟩] scope gpos] [] pos) (tTupG P wi g tt te (own.map (·.2))) := by
  refine ⟨fun pins s σ H Q I h => ?_⟩
  refine wpAny_Call_Name_kw (ld_blt I hgl hm (show bootBuiltins "tuple" = some (.type "tuple") by decide +kernel) ?_)
  refine PyProof.Rows.callWith_type1 ?_ he (by rfl)
  rw [he]
  show wpAny _ _ (spliced ((false, eval (.GeneratorExp elt [⟨tg, iter, ifs, 0⟩] scope gpos) X.env) :: backTo pos (starEach [] X.env))) _ _ s
  refine Calls.spliced_cons (gx_make (A0 := X.A.in4) (own := own) (R := fun J H2 => ∃ W : Nat → Nat → List V → Hp → Prop, (∃ m, W 0 m [] H2) ∧ Turns J g tt te (own.map (fun q : Str × Nat => q.2)) (wipe σ (own.map (fun q : Str × Nat => q.2))) (conTup0 Q) W) hr.hd rfl hr TB hcode ok hN hi hs I h fun it a fp tn J H4 s4 s5 code gn go M q => ?_)
  obtain ⟨W, ⟨m, w0⟩, turns⟩ := q
  refine Calls.spliced_nil ?_
  exact call_tuple_gx hr.hd hr.depth M ok.co (hg s4 H4 code fp) (ht s4 H4 code fp) (hel s4 H4 code fp) turns w0
end
/-! ### room, scopes, turns -/
theorem Room.gx2 {k : Nat} {X : Cx} (r : Room (k + 1) X.A) {s : Shared} {H : Hp} {scope : Scope} {code : Value} {fp : List Addr} : Room k (gcx X X.A.in1.in1 s H scope code fp).A :=
  ⟨r.hd, by have := r.dp; show X.A.depth + 1 + 3 * k + 5 < _; omega, by have := r.un; show X.A.units + 1 + 1 + 3 + 16 * k + 200 < _; omega⟩
theorem Room.gx4 {k : Nat} {X : Cx} (r : Room (k + 1) X.A) {s : Shared} {H : Hp} {scope : Scope} {code : Value} {fp : List Addr} : Room k (gcx X X.A.in4 s H scope code fp).A :=
  ⟨r.hd, by have := r.dp; show X.A.depth + 1 + 3 * k + 5 < _; omega, by have := r.un; show X.A.units + 1 + 1 + 1 + 1 + 3 + 16 * k + 200 < _; omega⟩
def gxC (N : List Str) (sc scope : Scope) (own : List (Str × Nat)) : Bool :=
  blkC N sc scope own && !scope.isCoroutine && scope.names.all (fun y => match y.2 with | .cell => false | _ => true) && (match scope.names.lookup (".0" : Str) with | some .local => true | _ => false)
theorem gxOk_by {N : List Str} {sc scope : Scope} {own : List (Str × Nat)} (h : gxC N sc scope own = true) : GxOk N sc scope own := by
  unfold gxC at h
  simp only [Bool.and_eq_true] at h
  obtain ⟨⟨⟨h1, h2⟩, h3⟩, h4⟩ := h
  refine ⟨blkOk_by h1, by simpa using h2, fun y hy e => ?_, ?_⟩
  · have q := List.all_eq_true.mp h3 y hy
    rw [e] at q
    cases q
  · split at h4
    · assumption
    · cases h4
/-- the turns over a walk of n: Pv by the turn, what is out, the heap -/
theorem turns_it {J : It} {n : Nat} {G : Hp → Prop} {Yd : Nat → Hp → V → Hp → Prop} (w : Walk J n G Yd) {g : TG} {tt : TT} {te : TE} {vs : List Nat} {σ0 : L2.St} {C : Con} {H : Hp} (Pv : Nat → List V → Hp → Prop) (h0 : Pv 0 [] H) (hG : ∀ i ys H, i ≤ n → Pv i ys H → G H)
    (hs : ∀ i x ys H H', i < n → Pv i ys H → Yd i H x H' → g x σ0 H' fun σ2 H2 => wipe σ2 vs = σ0 ∧ tt σ2 H2 fun b H3 =>
      if b = true then te σ2 H3 fun y H4 => C.Kx ys y H4 ∧ (C.Cn ys y → Pv (i + 1) (ys ++ [y]) H4) else Pv (i + 1) ys H3) (hd : ∀ ys H, Pv n ys H → C.Fi ys H) :
    ∃ W : Nat → Nat → List V → Hp → Prop, (∃ m, W 0 m [] H) ∧ Turns J g tt te vs σ0 C W := by
  refine ⟨fun i m ys H => m = n - i ∧ i ≤ n ∧ Pv i ys H, ⟨n, by simp, Nat.zero_le _, h0⟩, ?_⟩
  rintro i m ys H ⟨rfl, hi, p⟩
  have q := hG i ys H hi p
  by_cases hlt : i < n
  · exact .inr ⟨w.goes i H hlt q, Pv (i + 1), fun ys' H' p' => ⟨n - (i + 1), by omega, rfl, hlt, p'⟩, fun x H' y => hs i x ys H H' hlt p (w.yields i H x H' hlt q y)⟩
  · have e : i = n := by omega
    subst e
    exact .inl ⟨w.stops H q, hd ys H p⟩
end GX
set_option Elab.async false
set_option linter.all false
set_option maxRecDepth 100000
set_option maxHeartbeats 4000000
namespace GX
open PySem PySem.Spec PyProof.Rows L2
open C8 (Cal pe_c)
/-! ### a def of the text with its code object -/
structure Dfn (K : PySem.W.Frag) (mg : Str → Option Value) (x : Str) (st : Stmt) (f c : Addr) : Prop where
  ex : ∃ (oc : Value) (od : Option Addr) (kV doc pm : Value) (an : Option Addr) (ct : Value) (osl : Array (Option Value)),
    K.lookup f = some ⟨oc, od, .func (PySem.W.fnOf x x (defArgs st) (defBody st) (defScope st) .none kV doc pm an (.ref c) ct), osl⟩
  hcd : PySem.W.codeIn K (.ref c) x = true
  kp : PySem.W.keepIn K (.ref f) = true
  mgf : mg x = some (.ref f)
section
variable {P : Program} {w : World} {K : PySem.W.Frag} {mg : Str → Option Value} {base : Heap}
theorem cal {x : Str} {st : Stmt} {f c : Addr} {N ps : List Str} {k : Nat} {sp : Sp} (D : Dfn K mg x st f c)
    (hb : ∀ (kV doc pm : Value) (an : Option Addr) (cdv ct : Value) (us : List Value), us.length = ps.length → bindArgs (PySem.W.fnOf x x (defArgs st) (defBody st) (defScope st) .none kV doc pm an cdv ct) ⟨us, []⟩ = pure (ps.zip us))
    (S : FnScope N ps (defScope st)) (len : ∀ vs H Q E, sp vs H Q E → vs.length = ps.length)
    (hbody : ∀ (A : Around) (outer : List Env) (s : Shared) (H : Hp) (vs : List V) (Q : VK) (E : XK), Room k (A.deeper (envOfC x (defScope st) s.heap.objs.size f (.ref c))) → sp vs H Q E →
      ∃ t, PSs (cxOf CX0 P w K mg base N x (defScope st) f (.ref c) A outer s H E).nox (defBody st) t ∧ t { nx := fun _ H' => Q .non H', rt := Q } (start N vs) H) : Cal P w K mg base (k + 1) x sp [] := by
  obtain ⟨oc, od, kV, doc, pm, an, ct, osl, lk⟩ := D.ex
  refine ⟨f, _, ps, [], fn_of lk D.hcd S len (fun A outer s H vs Q E hr hsp => ?_), D.mgf, D.kp, .all (hb kV doc pm an (.ref c) ct), .nil⟩
  obtain ⟨t, h, q⟩ := hbody A outer s H vs Q E hr hsp
  exact ⟨t, h.nox, q⟩
end
/-! ### heaps: all but X stands -/
def Keep (X : List Addr) (H H' : Hp) : Prop := ∀ b o, H b = some o → b ∉ X → H' b = some o
theorem Keep.refl {X : List Addr} {H : Hp} : Keep X H H := fun _ _ e _ => e
theorem Keep.trans {X : List Addr} {H H1 H2 : Hp} (a : Keep X H H1) (b : Keep X H1 H2) : Keep X H H2 := fun c o e n => b c o (a c o e n) n
theorem Keep.mono {X Y : List Addr} {H H' : Hp} (a : Keep X H H') (h : ∀ b ∈ X, b ∈ Y) : Keep Y H H' := fun c o e n => a c o e fun z => n (h c z)
theorem Keep.new {X : List Addr} {H : Hp} {p : Addr} {o : HO} (n : H p = none) : Keep X H (upd H p o) := fun b u e _ => by rw [upd_ne (ne_of_none e n)]; exact e
theorem Keep.put {X : List Addr} {H : Hp} {p : Addr} {o : HO} (h : p ∈ X) : Keep X H (upd H p o) := fun b u e n => by rw [upd_ne (fun z => n (by rw [z]; exact h))]; exact e
/-- the tables of the defs that hold generator expressions -/
def Tabs (Ts : List Addr) (H : Hp) : Prop := ∀ P ∈ Ts, GxR.TabG H P
theorem Tabs.nott {Ts : List Addr} {H : Hp} (t : Tabs Ts H) {b : Addr} {o : HO} (e : H b = some o) (h : ∀ ps, o ≠ .tbl ps) : b ∉ Ts := fun z => by
  obtain ⟨ps, q, _⟩ := t b z
  rw [e] at q
  exact h ps (Option.some.inj q)
theorem Tabs.none {Ts : List Addr} {H : Hp} (t : Tabs Ts H) {b : Addr} (e : H b = none) : b ∉ Ts := fun z => by
  obtain ⟨ps, q, _⟩ := t b z
  rw [e] at q
  cases q
theorem Tabs.tup {Ts : List Addr} {H : Hp} (t : Tabs Ts H) {b : Addr} {xs : List V} (e : H b = some (.tup xs)) : b ∉ Ts := t.nott e fun _ z => by cases z
theorem Tabs.lst {Ts : List Addr} {H : Hp} (t : Tabs Ts H) {b : Addr} {xs : List V} (e : H b = some (.lst xs)) : b ∉ Ts := t.nott e fun _ z => by cases z
theorem Tabs.upd {Ts : List Addr} {H : Hp} (t : Tabs Ts H) {p : Addr} {o : HO} (h : p ∉ Ts) : Tabs Ts (L2.upd H p o) := fun b hb => by
  obtain ⟨ps, q, r⟩ := t b hb
  exact ⟨ps, by rw [upd_ne (fun z => h (by rw [← z]; exact hb))]; exact q, r⟩
/-- behind a generator expression: its table may have grown -/
theorem Tabs.tabbed {Ts : List Addr} {H H' : Hp} {P : Addr} (t : Tabs Ts H) (h : GxR.Tabbed P H H') : Tabs Ts H' := fun b hb => by
  by_cases e : b = P
  · rw [e]; exact h.1
  · obtain ⟨ps, q, r⟩ := t b hb
    exact ⟨ps, by rw [h.2 b e]; exact q, r⟩
theorem Keep.tabbed {X : List Addr} {H H' : Hp} {P : Addr} (hP : P ∈ X) (h : GxR.Tabbed P H H') : Keep X H H' := fun b o e n => by rw [h.2 b (fun z => n (by rw [z]; exact hP))]; exact e
/-- what a def that reads and makes leaves: the tables may have grown -/
structure Aft (Ts : List Addr) (H H' : Hp) : Prop where
  kp : Keep Ts H H'
  tb : Tabs Ts H'
theorem Aft.trans {Ts : List Addr} {H H1 H2 : Hp} (a : Aft Ts H H1) (b : Aft Ts H1 H2) : Aft Ts H H2 := ⟨a.kp.trans b.kp, b.tb⟩
theorem Aft.refl {Ts : List Addr} {H : Hp} (t : Tabs Ts H) : Aft Ts H H := ⟨Keep.refl, t⟩
theorem Aft.new {Ts : List Addr} {H : Hp} {p : Addr} {o : HO} (t : Tabs Ts H) (n : H p = Option.none) : Aft Ts H (L2.upd H p o) := ⟨Keep.new n, t.upd (t.none n)⟩
theorem Aft.tup {Ts : List Addr} {H H' : Hp} (a : Aft Ts H H') (t : Tabs Ts H) {b : Addr} {xs : List V} (e : H b = some (.tup xs)) : H' b = some (.tup xs) := a.kp b _ e (t.tup e)
theorem Aft.lst {Ts : List Addr} {H H' : Hp} (a : Aft Ts H H') (t : Tabs Ts H) {b : Addr} {xs : List V} (e : H b = some (.lst xs)) : H' b = some (.lst xs) := a.kp b _ e (t.lst e)
/-! ### the law's end with the tables of its defs -/
def TabOf (K : PySem.W.Frag) (mg : Str → Option Value) (h : Heap) (x : Str) : Prop := ∀ (fa c P : Addr) (o : Obj) (fd : FuncData) (e : Value) (dd : Option Addr) (vs : Array Value) (sl : Array (Option Value)),
  mg x = some (.ref fa) → K.lookup fa = some o → o.data = .func fd → fd.code = .ref c → K.lookup c = some ⟨e, dd, .fields vs, sl⟩ → vs[11]? = some (.ref P) → h.get? P = some { cls := .none, data := .fields #[] }
theorem codeHd_of {K : PySem.W.Frag} {h : Heap} (X : K.In h) {c P : Addr} {dd : Option Addr} {vs : Array Value} {sl : Array (Option Value)} {file : Str} {tf tg tt : Tok} {flags text : Int} {inF : Bool} (lc : K.lookup c = some ⟨.type "code", dd, .fields vs, sl⟩)
    (e : vs[11]? = some (.ref P) ∧ vs.getD 11 .none = .ref P ∧ vs.getD 18 .none = .str file tf ∧ vs.getD 7 .none = .int flags tg ∧ vs.getD 9 .none = .bool inF ∧ vs.getD 10 .none = .int text tt ∧ c ≠ P) : PySem.W.CodeHd h c P :=
  ⟨_, vs, file, tf, flags, tg, inF, text, tt, X c _ lc, rfl, rfl, e.1, e.2.1, e.2.2.1, e.2.2.2.1, e.2.2.2.2.1, e.2.2.2.2.2.1, e.2.2.2.2.2.2⟩
theorem tabB_of {base : Heap} {mg : Str → Option Value} {c P : Addr} (t : LamX.TabB base mg c P) : GxR.TabB base mg c P := ⟨t.code, t.bm, t.gP⟩
/-! ### small things -/
theorem small (n : Nat) (h : n ≤ 100000 := by decide) : n ≤ sizeLine := Nat.le_trans h (by decide)
theorem at0 {a : V} {r : List V} : atI (a :: r) 0 = some a := atI_nat (j := 0) rfl
theorem at1 {a b : V} {r : List V} : atI (a :: b :: r) 1 = some b := atI_nat (j := 1) rfl
theorem at2 {a b c : V} {r : List V} : atI (a :: b :: c :: r) 2 = some c := atI_nat (j := 2) rfl
end GX
set_option Elab.async false
set_option linter.all false
set_option maxRecDepth 100000
set_option maxHeartbeats 4000000
/-! Nets as data, and how they stand in the heap. -/
namespace GX
open PySem PySem.Spec PyProof.Rows L2
structure Net where
  many : Nat
  gates : List (Nat × Nat × Nat)
  outs : List Nat
def gateOk (many i : Nat) (g : Nat × Nat × Nat) : Prop := g.1 < 16 ∧ g.2.1 < many + i ∧ g.2.2 < many + i
structure Net.Ok (n : Net) : Prop where
  m1 : 1 ≤ n.many
  m8 : n.many ≤ 8
  g16 : n.gates.length ≤ 16
  gs : ∀ (i : Nat) (g : Nat × Nat × Nat), n.gates[i]? = some g → gateOk n.many i g
  o1 : 1 ≤ n.outs.length
  o8 : n.outs.length ≤ 8
  os : ∀ o ∈ n.outs, o < n.many + n.gates.length
def nV (n : Nat) : V := .int (n : Int)
def gV (g : Nat × Nat × Nat) : List V := [nV g.1, nV g.2.1, nV g.2.2]
/-- the gates at these addresses -/
def GatesAt (H : Hp) (ps : List Addr) (gs : List (Nat × Nat × Nat)) : Prop := ps.length = gs.length ∧ ∀ (i : Nat) (p : Addr) (g : Nat × Nat × Nat), ps[i]? = some p → gs[i]? = some g → H p = some (.tup (gV g))
structure NetAt (H : Hp) (a : Addr) (n : Net) (g o : Addr) (ps : List Addr) : Prop where
  top : H a = some (.tup [nV n.many, .ref g, .ref o])
  gt : H g = some (.tup (ps.map V.ref))
  gs : GatesAt H ps n.gates
  ot : H o = some (.tup (n.outs.map nV))
theorem GatesAt.nil (H : Hp) : GatesAt H [] [] := ⟨rfl, fun i p g e _ => by simp at e⟩
theorem GatesAt.mono {H H' : Hp} {ps : List Addr} {gs : List (Nat × Nat × Nat)} (x : GatesAt H ps gs) (k : ∀ b xs, H b = some (.tup xs) → H' b = some (.tup xs)) : GatesAt H' ps gs := ⟨x.1, fun i p g e1 e2 => k _ _ (x.2 i p g e1 e2)⟩
theorem NetAt.mono {H H' : Hp} {a g o : Addr} {n : Net} {ps : List Addr} (x : NetAt H a n g o ps) (k : ∀ b xs, H b = some (.tup xs) → H' b = some (.tup xs)) : NetAt H' a n g o ps := ⟨k _ _ x.top, k _ _ x.gt, x.gs.mono k, k _ _ x.ot⟩
theorem GatesAt.push {H : Hp} {ps : List Addr} {gs : List (Nat × Nat × Nat)} {p : Addr} {g : Nat × Nat × Nat} (x : GatesAt H ps gs) (h : H p = some (.tup (gV g))) : GatesAt H (ps ++ [p]) (gs ++ [g]) := by
  refine ⟨by rw [List.length_append, List.length_append, x.1]; rfl, fun i q g' e1 e2 => ?_⟩
  by_cases hi : i < ps.length
  · rw [List.getElem?_append_left hi] at e1
    rw [List.getElem?_append_left (by rw [← x.1]; exact hi)] at e2
    exact x.2 i q g' e1 e2
  · rw [List.getElem?_append_right (by omega)] at e1
    rw [List.getElem?_append_right (by rw [← x.1]; omega)] at e2
    have hz : i - ps.length = 0 := by
      obtain ⟨h1, _⟩ := List.getElem?_eq_some_iff.mp e1
      simp at h1
      omega
    rw [hz] at e1
    rw [← x.1, hz] at e2
    cases e1
    cases e2
    exact h
theorem gateOk.at {H : Hp} {ps : List Addr} {gs : List (Nat × Nat × Nat)} (x : GatesAt H ps gs) {i : Nat} {p : Addr} (e : ps[i]? = some p) : ∃ g, gs[i]? = some g ∧ H p = some (.tup (gV g)) := by
  obtain ⟨h1, _⟩ := List.getElem?_eq_some_iff.mp e
  have h2 : i < gs.length := by rw [← x.1]; exact h1
  exact ⟨gs[i], List.getElem?_eq_getElem h2, x.2 i p _ e (List.getElem?_eq_getElem h2)⟩
/-- what a tuple holds it keeps, where but X is kept and X holds none -/
theorem Keep.tups {X : List Addr} {H H' : Hp} (k : Keep X H H') (n : ∀ b ∈ X, ∀ xs, H b ≠ some (.tup xs)) : ∀ b xs, H b = some (.tup xs) → H' b = some (.tup xs) := fun b xs e => k b _ e fun z => n b z xs e
/-! ### the well -/
def Wl (H : Hp) (W : Addr) : Prop := ∃ a b c : Int, H W = some (.lst [.int a, .int b, .int c])
theorem Wl.nt {H : Hp} {W : Addr} (h : Wl H W) : ∀ b ∈ [W], ∀ xs, H b ≠ some (.tup xs) := fun b hb xs e => by
  rw [List.mem_singleton.mp hb] at e
  obtain ⟨_, _, _, q⟩ := h
  rw [e] at q
  cases q
theorem Wl.keep {X : List Addr} {H H' : Hp} {W : Addr} (h : Wl H W) (k : Keep X H H') (n : W ∉ X) : Wl H' W := by
  obtain ⟨a, b, c, e⟩ := h
  exact ⟨a, b, c, k _ _ e n⟩
theorem Wl.tab {Ts : List Addr} {H : Hp} {W : Addr} (h : Wl H W) (t : Tabs Ts H) : W ∉ Ts := by
  obtain ⟨a, b, c, e⟩ := h
  exact t.lst e
theorem Tabs.keep {Ts X : List Addr} {H H' : Hp} (t : Tabs Ts H) (k : Keep X H H') (n : ∀ b ∈ X, b ∉ Ts) : Tabs Ts H' := fun b hb => by
  obtain ⟨ps, q, r⟩ := t b hb
  exact ⟨ps, k b _ q fun z => n b z hb, r⟩
/-! ### words for the readings -/
theorem Same.keep {X : List Addr} {H H' : Hp} (s : Same H H') : Keep X H H' := fun b o e _ => s b o e
theorem Same.new {H : Hp} {p : Addr} {o : HO} (n : H p = none) : Same H (upd H p o) := fun b u e => by rw [upd_ne (ne_of_none e n)]; exact e
theorem slA {K : PySem.W.Frag} {H : Hp} {a : Addr} {xs : List V} {lo hi : Option Int} {Q : VK} (h1 : H a = some (.tup xs)) (q : ∀ r H', Same H H' → H' r = some (.tup (cutV xs lo hi)) → Q (.ref r) H') : rSlA K (.ref a) lo hi H Q := by
  refine ⟨a, xs, rfl, SqT.of h1, fun e => ?_, fun e p hp => ?_⟩
  · refine q a H (Same.refl _) ?_
    unfold cutV
    rw [e.1, e.2, List.drop_zero, Nat.sub_zero, List.take_length]
    exact h1
  · exact q p _ (Same.new hp) upd_same
theorem atIf {a b : V} {k : Bool} : atI [a, b] (if k = true then 1 else 0) = some (if k = true then b else a) := by cases k <;> rfl
theorem cut_lo (xs : List V) (n : Nat) : cutV xs (some (n : Int)) none = xs.drop n := by
  unfold cutV
  rw [show HT.sIx xs.length 0 (some (n : Int)) = min n xs.length from HT.sIx_nat xs.length 0 n, HT.sIx_none]
  by_cases h : n ≤ xs.length
  · rw [Nat.min_eq_left h, List.take_of_length_le]
    rw [List.length_drop]
    exact Nat.le_refl _
  · rw [Nat.min_eq_right (by omega), List.drop_of_length_le (Nat.le_refl _), List.drop_of_length_le (by omega), List.take_nil]
theorem cut_hi (xs : List V) (n : Nat) : cutV xs none (some (n : Int)) = xs.take n := by
  unfold cutV
  rw [show HT.sIx xs.length xs.length (some (n : Int)) = min n xs.length from HT.sIx_nat xs.length xs.length n, HT.sIx_none, List.drop_zero, Nat.sub_zero]
  by_cases h : n ≤ xs.length
  · rw [Nat.min_eq_left h]
  · rw [Nat.min_eq_right (by omega), List.take_of_length_le (by omega : xs.length ≤ n), List.take_length]
/-- the well stands, all else is kept -/
structure Wk (W : Addr) (H H' : Hp) : Prop where
  wl : Wl H' W
  kp : Keep [W] H H'
theorem Wk.nxt {W : Addr} {H H1 H2 : Hp} (s : Wk W H H1) (wl : Wl H2 W) (k : Keep [W] H1 H2) : Wk W H H2 := ⟨wl, s.kp.trans k⟩
theorem Wl.same {H H' : Hp} {W : Addr} (h : Wl H W) (s : Same H H') : Wl H' W := by
  obtain ⟨a, b, c, e⟩ := h
  exact ⟨a, b, c, s _ _ e⟩
theorem Wk.same {W : Addr} {H H1 H2 : Hp} (s : Wk W H H1) (e : Same H1 H2) : Wk W H H2 := ⟨s.wl.same e, s.kp.trans (Same.keep e)⟩
theorem Wk.new {W : Addr} {H H1 : Hp} {p : Addr} {o : HO} (s : Wk W H H1) (n : H1 p = none) : Wk W H (upd H1 p o) := s.same (Same.new n)
/-- a tuple stands behind a draw -/
theorem Wl.tup {H H' : Hp} {W : Addr} (h : Wl H W) (k : Keep [W] H H') {b : Addr} {xs : List V} (e : H b = some (.tup xs)) : H' b = some (.tup xs) := k.tups h.nt b xs e
theorem Wl.gates {H H' : Hp} {W : Addr} (h : Wl H W) (k : Keep [W] H H') {ps : List Addr} {gs : List (Nat × Nat × Nat)} (x : GatesAt H ps gs) : GatesAt H' ps gs := x.mono (k.tups h.nt)
theorem Same.gates {H H' : Hp} (s : Same H H') {ps : List Addr} {gs : List (Nat × Nat × Nat)} (x : GatesAt H ps gs) : GatesAt H' ps gs := x.mono fun b xs e => s b _ e
/-- a list of our own, filled behind H: all that was stands -/
structure Own (H H' : Hp) (l : Addr) (xs : List V) : Prop where
  sm : Same H H'
  at_ : H' l = some (.lst xs)
  nw : H l = none
theorem Own.app {H H' : Hp} {l : Addr} {xs : List V} {y : V} (o : Own H H' l xs) : Own H (upd H' l (.lst (xs ++ [y]))) l (xs ++ [y]) :=
  ⟨fun b u e => by rw [upd_ne (ne_of_none e o.nw)]; exact o.sm b u e, upd_same, o.nw⟩
theorem NetAt.same {H H' : Hp} {a g o : Addr} {n : Net} {ps : List Addr} (x : NetAt H a n g o ps) (s : Same H H') : NetAt H' a n g o ps := x.mono fun b xs e => s b _ e
theorem Tabs.same {Ts : List Addr} {H H' : Hp} (t : Tabs Ts H) (s : Same H H') : Tabs Ts H' := fun b hb => by
  obtain ⟨ps, q, r⟩ := t b hb
  exact ⟨ps, s _ _ q, r⟩
theorem Aft.ofSame {Ts : List Addr} {H H' : Hp} (t : Tabs Ts H) (s : Same H H') : Aft Ts H H' := ⟨Same.keep s, Tabs.same t s⟩
theorem NetAt.aft {Ts : List Addr} {H H' : Hp} {a g o : Addr} {n : Net} {ps : List Addr} (x : NetAt H a n g o ps) (t : Tabs Ts H) (s : Aft Ts H H') : NetAt H' a n g o ps := x.mono fun b xs e => s.tup t e
/-! ### rules with the written part named (for generator expressions) -/
section
variable {X : Cx} {K : PySem.W.Frag}
theorem ix_tupK (h : X.K = K := by rfl) : IxR X (rIxT K) := by subst h; exact ix_tup
theorem ix_listK (h : X.K = K := by rfl) : IxR X (rIxL K) := by subst h; exact ix_list
theorem op_in_seqK (h : X.K = K := by rfl) : OpR X (compareOp .In) (rIn K false) := by subst h; exact op_in_seq
theorem op_notIn_seqK (h : X.K = K := by rfl) : OpR X (compareOp .NotIn) (rIn K true) := by subst h; exact op_notIn_seq
theorem len_seqK (h : X.K = K := by rfl) : CallR X (.builtin "len") (fun xs H Q => ∃ p ys, xs = [.ref p] ∧ (SqL K H p ys ∨ SqT K H p ys) ∧ Q (.int ys.length) H) := by subst h; exact call_len_seq
theorem sl_tupAK (h : X.K = K := by rfl) : SlR X (rSlA K) := by subst h; exact sl_tupA
end
end GX
set_option Elab.async false
set_option linter.all false
set_option maxRecDepth 100000
set_option maxHeartbeats 4000000
/-! enumerate of a tuple, walked. -/
namespace GX
open PySem PySem.Spec PyProof.Rows L2
open AutoSeq1 (wpAny_loadPart')
theorem enumT_new (l : Addr) (items : Array Value) (n : Nat) (dct : Option Addr) (sl : Array (Option Value)) :
    Meets (Builtin.«enumerate.__new__» ⟨[.type "enumerate", .ref l], []⟩) (fun _ R s => s.heap.get? l = some { cls := .type "tuple", dict := dct, data := .seq items n, slots := sl } ∧
      R (.ok (.ret (.ref (s.heap.push { cls := .type "tuple_iterator", data := .fields #[.ref l, .int 0 0] }).objs.size)))
        { s with heap := (s.heap.push { cls := .type "tuple_iterator", data := .fields #[.ref l, .int 0 0] }).push { cls := .type "enumerate", data := .fields #[.none, .bool false, .ref s.heap.objs.size, rawInt 0, .none, .none] } }) :=
  .of_wp fun prog w A R s h => by
    obtain ⟨hp, g, d, tk, os⟩ := s
    obtain ⟨hl, h⟩ := h
    have hsub := sub_enumerate
    have hL : Heap.IsTuple (Shared.heap ⟨hp, g, d, tk, os⟩) l items := ⟨_, hl, rfl, n, rfl⟩
    wp_walk using wpAny_loadPart' hl
    refine wpAny_stack_any fun st => wpAny_pure ?_
    split
    · rename_i c _ _ _ _ _
      cases (c == Value.type "enumerate") <;>
      · wp_walk using wpAny_loadPart' hl, wpAny_pyIter_tuple hL
        exact ⟨_, rfl, h⟩
    · wp_walk using wpAny_loadPart' hl, wpAny_pyIter_tuple hL
      exact ⟨_, rfl, h⟩
section
variable {prog : Program} {w : World} {A : Around} {E : Value → Shared → Prop} {s : Shared}
theorem enumT_call {l : Addr} {items : Array Value} {Q : Value → Shared → Prop} (hL : s.heap.IsTuple l items)
    (h : ∀ h', IsEnum h' (s.heap.objs.size + 1) s.heap.objs.size 0 .none → h'.IsTupleIter s.heap.objs.size l 0 → (∀ b o, s.heap.get? b = some o → h'.get? b = some o) → Q (.ref (s.heap.objs.size + 1)) { s with heap := h' }) :
    wpAny (model prog w) A (call (.type "enumerate") [.ref l]) Q E s := by
  obtain ⟨⟨c, dct, dt, sl⟩, hl, hc, n, hd⟩ := hL
  replace hc : c = .type "tuple" := hc
  replace hd : dt = .seq items n := hd
  subst hc hd
  refine callType_new F.called_enumerate (by decide) (F.typeCall_enumerate_1 _) (F.newCall_enumerate_1 _) (fun obj => F.args_object_init_2 obj _) F.entry_enumerate_new (enumT_new l items n dct sl) ⟨hl, ?_⟩
  have hz : (s.heap.push { cls := .type "tuple_iterator", data := .fields #[.ref l, .int 0 0] }).objs.size = s.heap.objs.size + 1 := Heap.size_push ..
  show _ ∧ _
  rw [hz]
  have he : IsEnum ((s.heap.push { cls := .type "tuple_iterator", data := .fields #[.ref l, .int 0 0] }).push { cls := .type "enumerate", data := .fields #[.none, .bool false, .ref s.heap.objs.size, rawInt 0, .none, .none] }) (s.heap.objs.size + 1) s.heap.objs.size 0 .none := by
    have q := Heap.get?_push_size (s.heap.push { cls := .type "tuple_iterator", data := .fields #[.ref l, .int 0 0] }) (o := { cls := .type "enumerate", data := .fields #[.none, .bool false, .ref s.heap.objs.size, rawInt 0, .none, .none] }) rfl
    rw [hz] at q
    exact q
  exact ⟨⟨_, he, rfl⟩, h _ he ⟨_, Heap.get?_push_of_some _ (Heap.get?_push_size _ rfl), rfl, rfl⟩ fun b o x => Heap.get?_push_of_some _ (Heap.get?_push_of_some _ x)⟩
end
def Itet (K : PySem.W.Frag) (a : Addr) : It :=
  ⟨fun i H => ∃ (xs : List V) (x : V), SqT K H a xs ∧ xs[i]? = some x, fun i H v H' => ∃ T x, v = .ref T ∧ H T = none ∧ H' = upd H T (.tup [.int (i : Nat), x]) ∧ ∀ xs, SqT K H a xs → xs[i]? = some x, fun i H => ∃ xs : List V, SqT K H a xs ∧ xs.length = i⟩
theorem turn_enumT {P : Program} {w : World} {K : PySem.W.Frag} {elts : List Expr} {kk : Nat} {tpos : Pos} (a e it : Addr) :
    Turn P w K (.Tuple elts kk tpos) (Itet K a) [e, it] e (fun i h => (∃ old, IsEnum h e it ((i : Nat) : Int) old) ∧ h.IsTupleIter it a i ∧ e ≠ it ∧ a ≠ it ∧ a ≠ e) where
  mem := by simp
  obj := fun i h st b hb => by
    obtain ⟨⟨old, he⟩, ⟨o, ho, hc, hd⟩, _⟩ := st
    rcases (show b = e ∨ b = it by simpa using hb) with z | z
    · rw [z]; exact ⟨_, he, fun v q => nomatch q⟩
    · rw [z]; exact ⟨o, ho, fun v q => by rw [hd] at q; cases q⟩
  keep := fun i h h' st k => let ⟨⟨old, he⟩, hi, hne⟩ := st; ⟨⟨old, k e (by simp) _ he⟩, hi.at fun o q => k it (by simp) o q, hne⟩
  item := by
    intro X hP hw hK hc i pins s σ H E I hf st hg
    subst hP hw hK
    obtain ⟨⟨old, he⟩, hit, hne, hai, hae⟩ := st
    obtain ⟨xs, x, hq, hx⟩ := hg
    obtain ⟨its, rv, p, hz⟩ := I.tuple hq
    obtain ⟨u, hu, ru⟩ := rv.get hx
    have hel : e < s.heap.objs.size := Heap.lt_size he
    have hil : it < s.heap.objs.size := by obtain ⟨_, q, _⟩ := hit; exact Heap.lt_size q
    have hu' : its.toArray[i]? = some u := by simpa using hu
    refine wpAny_pyNext_enum_itemD (Draws.tuple (A := X.A.in1) (show X.A.in1.handled = none from I.ok.hd hc) it a hai its.toArray) he ⟨hit, p⟩ (Array.getElem?_eq_some_iff.mp hu').1 hne (by simp [hne, Ne.symm hae]) fun y h' tk hy ho hst hT hsz hk => ?_
    obtain rfl : u = y := Option.some.inj (hu'.symm.trans hy)
    refine ⟨_, rfl, wpAny_letOwnedTupleGo_enum (s := { s with heap := h', toks := tk + 1 }) ho fun h'' he' sb => ?_⟩
    have hT2 : h''.get? s.heap.objs.size = some { cls := .type "tuple", data := .seq #[.int i tk, u] } := (sb.2 _ (Nat.ne_of_gt hel)).trans hT
    have new : ObjOk X.prog X.w (upd H s.heap.objs.size (.tup [.int (i : Nat), x])) h'' s.heap.objs.size (.tup [.int (i : Nat), x]) :=
      ⟨by show 2 ≤ sizeLine; decide, [.int i tk, u], .cons ⟨_, rfl⟩ (.cons ru .nil), ⟨_, hT2, rfl, _, rfl⟩⟩
    have I1 : Inv X pins σ (upd H s.heap.objs.size (.tup [.int (i : Nat), x])) { s with heap := h'', toks := tk + 1 } :=
      I.turnedNew (ch := [e, it]) (fun b ob hb q => (sb.2 b (fun z => hb (by simp [z]))).trans (hk b ob (fun z => hb (by simp [z])) (fun z => hb (by simp [z])) q)) hf (Nat.le_refl _) new
    refine ⟨.ref s.heap.objs.size, _, I1, rfl, ⟨_, x, rfl, I.hok.fresh (Nat.le_refl _), rfl, fun ys hy => by rw [I.tuple_inj hy hq]; exact hx⟩, ⟨⟨u, ?_⟩, hst.1.at fun o q => (sb.2 it (Ne.symm hne)).trans q, hne, hai, hae⟩, fun b hb => ?_⟩
    · rw [show ((i + 1 : Nat) : Int) = (i : Int) + 1 by omega]
      exact he'
    · have hb' : b < s.heap.objs.size := by
        rcases (show b = e ∨ b = it by simpa using hb) with z | z
        · rw [z]; exact hel
        · rw [z]; exact hil
      rw [upd_ne (Nat.ne_of_lt hb')]
      exact (hf b hb).1
  done := by
    intro X hP hw hK hc i pins s σ H E I hf st hg
    subst hP hw hK
    obtain ⟨⟨old, he⟩, hit, hne, hai, hae⟩ := st
    obtain ⟨xs, hq, hx⟩ := hg
    obtain ⟨its, rv, p, hz⟩ := I.tuple hq
    obtain ⟨f0, f1, f2, f3, f4, f5⟩ := hf it (by simp)
    have hl : xs.length = its.length := rv.length
    have hs : its.toArray.size = i := by rw [List.size_toArray]; omega
    exact wpAny_pyNext_enum_endD (Draws.tuple (A := X.A.in1) (show X.A.in1.handled = none from I.ok.hd hc) it a hai its.toArray) he (by rw [hs]; exact ⟨hit, p⟩) fun h' eb => ⟨rfl, I.turned (t' := s.toks) (fun b o hb q => eb b o hb q) f0 f1 f3 f4 f5⟩
  self := fun A i s Q E st h => let ⟨⟨_, he⟩, _⟩ := st; wpAny_pyIter_enum he h
def iEnumT (K : PySem.W.Frag) (ta : TA) : TI := fun σ H R => ta σ H fun vs H1 => ∃ a xs, vs = [.ref a] ∧ SqT K H1 a xs ∧ R (Itet K a) H1
theorem pi_enumT {X : Cx} {e : Expr} {ta : TA} {p pos tpos : Pos} {elts : List Expr} {kk : Nat} (hg : Gl X "enumerate") (hm : X.mg "enumerate" = none) (ha : PA X [e] ta) (hs : starEach [e] X.env = [(false, eval e X.env)] := by rfl) :
    PI X (.Tuple elts kk tpos) (.Call (.Name "enumerate" p) [e] [] pos) (iEnumT X.K ta) := by
  refine ⟨fun pins s σ H R I h => ?_⟩
  refine Call_ (ld_blt I hg hm boot_enumerate (PyProof.Rows.callWith_type1 (thn (ha.run pos pins s σ H _ I h) fun us s1 ⟨vs, H1, I1, r1, q1⟩ => ?_) hs rfl))
  obtain ⟨a, xs, ex, hq, q⟩ := q1
  subst ex
  cases r1 with
  | cons r rr =>
    cases rr
    cases r
    obtain ⟨its, rv, p', hz⟩ := I1.tuple hq
    have hal : a < s1.heap.objs.size := IsTup.lt p'
    refine enumT_call (show s1.heap.IsTuple a its.toArray from p') fun h' he hit hk => wpAny_pyIter_enum he ?_
    have I2 : Inv X pins σ H1 { s1 with heap := h' } := I1.kept (t' := s1.toks) hk
    refine ⟨s1.heap.objs.size + 1, [s1.heap.objs.size + 1, s1.heap.objs.size], _, _, H1, rfl, I2, turn_enumT a (s1.heap.objs.size + 1) s1.heap.objs.size, ⟨⟨.none, he⟩, hit, Nat.succ_ne_self _, Nat.ne_of_lt hal, Nat.ne_of_lt (Nat.lt_succ_of_lt hal)⟩, fun b hb => ?_, q⟩
    have hle : s1.heap.objs.size ≤ b := by
      rcases (show b = s1.heap.objs.size + 1 ∨ b = s1.heap.objs.size by simpa using hb) with z | z
      · rw [z]; exact Nat.le_add_right _ _
      · rw [z]; exact Nat.le_refl _
    exact I1.fpOk hle (I1.hok.fresh hle)
theorem walk_enumT {K : PySem.W.Frag} {a : Addr} {xs : List V} : Walk (Itet K a) xs.length (fun H => SqT K H a xs) (YPair (fun i => some (.int (i : Nat))) (fun i => xs[i]?)) := by
  refine ⟨fun i _ hi q => ⟨xs, xs[i], q, by simp [hi]⟩, fun _ q => ⟨xs, q, rfl⟩, fun i H v H' _ q y => ?_⟩
  obtain ⟨T, x, h1, h2, h3, h4⟩ := y
  exact ⟨T, .int (i : Nat), x, h1, h2, h3, rfl, h4 xs q⟩
end GX
set_option Elab.async false
set_option linter.all false
set_option maxRecDepth 100000
set_option maxHeartbeats 4000000
/-! t[::-1] of a tuple. -/
namespace GX
open PySem PySem.Spec PyProof.Rows L2 HT
end GX
set_option Elab.async false
set_option linter.all false
set_option maxRecDepth 100000
set_option maxHeartbeats 4000000
/-! A tuple times an int of one or more. -/
namespace GX
open PySem PySem.Spec PyProof.Rows L2
open AutoSeq1 (wpAny_loadPart')
end GX
set_option Elab.async false
set_option linter.all false
set_option maxRecDepth 100000
set_option maxHeartbeats 4000000
/-! set(xs) of whole numbers, xs a list or a tuple; sorted of it. -/
namespace GX
open PySem PySem.Spec PyProof.Rows L2
end GX
set_option Elab.async false
set_option linter.all false
set_option maxRecDepth 100000
set_option maxHeartbeats 4000000
/-! sorted(l), l a list of tuples of ints, of any lengths from 1 on. -/
namespace GX
open PySem PySem.Spec PyProof.Rows L2 Srt
open SrtO (Cmp SortableO lt2 Srtd Stb)
section
variable {prog : Program} {w : World} {A : Around} {E : Value → Shared → Prop} {s : Shared}
theorem lex_any {b R fin : Bool} : ∀ {xs ys : List Value} {ns ms : List Int} (i : Nat), IntsAre xs ns → IntsAre ys ms → fin = decide (ns.length < ms.length) → R = HT.lexLt ns ms → PySem.W.KatLex prog w A b fin (fun r s' => s' = s ∧ r = R) (xs.zip ys) i s
  | _, _, _, _, i, .nil, hy, hf, hR => by
    rw [List.zip_nil_left]
    refine PySem.W.kat_nil ⟨rfl, ?_⟩
    rw [hf, hR]
    cases hy with
    | nil => rfl
    | cons m u r => rfl
  | _, _, _, _, i, .cons n t r, hy, hf, hR => by
    cases hy with
    | nil =>
      rw [List.zip_nil_right]
      refine PySem.W.kat_nil ⟨rfl, ?_⟩
      rw [hf, hR]
      rfl
    | cons m u r' =>
      rw [List.zip_cons_cons]
      refine PySem.W.kat_cons (SeqAt.EqAt.int_int n t m u prog w _ _ ?_)
      rw [HT.lexLt_cons] at hR
      refine PySem.W.kat_go (fun e1 => ?_) (fun e1 => ?_)
      · have ex : n = m := by simpa using e1
        rw [if_pos ex] at hR
        refine PySem.W.kat_yes (lex_any (i + 1) r r' ?_ hR)
        rw [hf]
        exact decide_eq_decide.mpr ⟨Nat.lt_of_succ_lt_succ, Nat.succ_lt_succ⟩
      · have ex : ¬ n = m := by simpa using e1
        rw [if_neg ex] at hR
        exact PySem.W.kat_no (TS.oneLt_ints _ ⟨rfl, hR.symm⟩)
theorem tups_cmp {vs : List Value} {k : Value → List Int} (hp : ∀ v ∈ vs, TS.TupInts s.heap v (k v)) : Cmp prog w A s (tuples' true) (fun p => p.1 ∈ vs) (lt2 fun v u => HT.lexLt (k v) (k u)) := by
  intro p q hm hm'
  obtain ⟨a, xs, e, ⟨o, ho, hc, n, hd⟩, hi⟩ := hp _ hm
  obtain ⟨a', ys, e', ⟨o', ho', hc', n', hd'⟩, hi'⟩ := hp _ hm'
  show wpAny (model prog w) A (keyLt' (tuples' true) p.1 q.1) (fun r s' => s' = s ∧ r = HT.lexLt (k p.1) (k q.1)) (fun _ _ => False) s
  generalize k p.1 = ns at hi ⊢
  generalize k q.1 = ms at hi' ⊢
  rw [e, e']
  refine PySem.W.kat_lt ho hd ho' hd' (lex_any 0 hi hi' ?_ rfl)
  have z1 : xs.size = ns.length := by rw [← hi.length]; simp
  have z2 : ys.size = ms.length := by rw [← hi'.length]; simp
  rw [z1, z2]
theorem tups_firsts {h : Heap} {k : Value → List Int} : ∀ {vs : List Value}, (∀ v ∈ vs, TS.TupInts h v (k v) ∧ k v ≠ []) → ∃ fs, PySem.W.KatTups h vs fs ∧ fs.length = vs.length ∧ ∀ f ∈ fs, ∃ x t, f = Value.int x t
  | [], _ => ⟨[], PySem.W.KatTups.nil, rfl, fun f hf => absurd hf (by simp)⟩
  | v :: vs, hp => by
    obtain ⟨fs, h1, h2, h3⟩ := tups_firsts fun u hu => hp u (List.mem_cons_of_mem _ hu)
    obtain ⟨⟨a, xs, e, ⟨o, ho, hc, n, hd⟩, hi⟩, hne⟩ := hp v List.mem_cons_self
    cases hk : k v with
    | nil => exact absurd hk hne
    | cons x r =>
      rw [hk] at hi
      generalize hxs : xs.toList = l at hi
      cases hi with
      | cons n0 t0 r0 =>
        have h0 : xs[0]? = some (Value.int x t0) := by
          have : xs.toList[0]? = some (Value.int x t0) := by rw [hxs]; rfl
          simpa using this
        subst e
        refine ⟨Value.int x t0 :: fs, PySem.W.KatTups.cons ho hc hd h0 h1, by rw [List.length_cons, List.length_cons, h2], fun f hf => ?_⟩
        rcases List.mem_cons.mp hf with rfl | hf
        · exact ⟨_, _, rfl⟩
        · exact h3 f hf
theorem tups_sortable {a : Addr} {vs : List Value} {k : Value → List Int} (h0 : 0 < vs.length) (hp : ∀ v ∈ vs, TS.TupInts s.heap v (k v) ∧ k v ≠ []) (ha : ∀ o, s.heap.get? a = some o → o.cls ≠ .type "tuple") : SortableO prog w A s a vs fun v u => HT.lexLt (k v) (k u) := by
  intro h' keep
  have hp' : ∀ v ∈ vs, TS.TupInts h' v (k v) ∧ k v ≠ [] := fun v hm => ⟨(hp v hm).1.keeps fun b o e c => keep b o (fun z => by subst z; exact ha o e c) e, (hp v hm).2⟩
  obtain ⟨fs, h1, h2, h3⟩ := tups_firsts hp'
  refine ⟨tuples' true, fun Q E hq => ?_, tups_cmp fun v hv => (hp' v hv).1⟩
  refine PySem.W.kat_kind (T := .type "int") h1 (by omega) (fun f hm => ?_) (by rfl) ?_
  · obtain ⟨x, t, rfl⟩ := h3 f hm
    exact PySem.W.Looks.now
  · have e : (Value.type "int" != Value.type "tuple") = true := by first | decide +kernel | rfl | decide
    rw [e]
    exact hq
end
def rSortTup (K : PySem.W.Frag) : List V → Hp → VK → Prop := fun vs H Q => ∃ (a : Addr) (xs : List V) (k : V → List Int), vs = [V.ref a] ∧ SqL K H a xs ∧ (∀ x ∈ xs, (∃ t, x = V.ref t ∧ H t = some (.tup ((k x).map V.int))) ∧ k x ≠ []) ∧
  ∀ ys p, Srtd (fun x y => HT.lexLt (k x) (k y)) ys → ys.Perm xs → H p = none → Q (.ref p) (upd H p (.lst ys))
theorem cr_sortTup {X : Cx} : CallR X (.builtin "sorted") (rSortTup X.K) := by
  intro pins s σ H vs us Q I r h
  obtain ⟨a, xs, k, rfl, hs, hx, q⟩ := h
  obtain ⟨its, rv, hl, hz⟩ := I.list hs
  rw [Vals.ref1 r]
  obtain ⟨e1, e2⟩ := refs_back rv fun x m => by
    obtain ⟨⟨t, e, _⟩, _⟩ := hx x m
    exact ⟨t, e⟩
  have hp : ∀ v ∈ its, TS.TupInts s.heap v (k (backV v)) ∧ k (backV v) ≠ [] := fun v hv => by
    obtain ⟨t, rfl⟩ := e2 v hv
    have hm : V.ref t ∈ xs := by rw [e1]; exact List.mem_map.mpr ⟨_, hv, rfl⟩
    obtain ⟨⟨t', e, ht⟩, hne⟩ := hx _ hm
    cases e
    exact ⟨tupI_raw I (SqT.of ht), hne⟩
  refine SrtO.sorted_ord (ltv := fun v u => HT.lexLt (k (backV v)) (k (backV u))) (NtL.swo_lexL fun v => k (backV v)) hl.isList (by rw [← rv.length]; exact hz) (fun h2 h₁ a' ha kk => ?_) fun out hs hb => ?_
  · refine tups_sortable (s := { s with heap := h₁ }) (by omega) (fun v hm => ⟨(hp v hm).1.keeps fun b o e _ => (kk b o e).2, (hp v hm).2⟩) fun o e => ?_
    have e' : some o = some (seqObj "list" its.toArray 0) := e.symm.trans ha
    cases e'
    intro c
    exact absurd (Value.type.inj c) (by decide)
  · obtain ⟨ep, he'⟩ := PyProof.Rows.sortedAll_at s.heap its out.toArray
    have h3 : ∀ u ∈ out, ∃ a, u = Value.ref a := fun u hu => e2 u (hb.perm.mem_iff.mp hu)
    have hpm : (out.map backV).Perm xs := by
      rw [e1]
      exact hb.perm.map backV
    have hlen : (out.map backV).length ≤ sizeLine := by
      rw [hpm.length_eq]
      exact hz
    exact ⟨.ref _, upd H (s.heap.objs.size + 1) (.lst (out.map backV)), I.laid (t' := s.toks) (fun _ _ => PyProof.Rows.sortedAll_old) (Nat.le_succ _) ⟨hlen, out, ep, vals_back h3, he'⟩, rfl, q _ _ (SrtO.srtd_map hs) hpm (I.hok.fresh (Nat.le_succ _))⟩
end GX
set_option Elab.async false
set_option linter.all false
set_option maxRecDepth 100000
set_option maxHeartbeats 4000000
/-! sorted(l), l a list of pairs (n, tuple of ints). -/
namespace GX
open PySem PySem.Spec PyProof.Rows L2 Srt
open SrtO (Cmp SortableO lt2 Srtd Stb)
/-- v is a pair: an int, a tuple of ints -/
def PairP (h : Heap) (v : Value) (ns : List Int) : Prop := ∃ (a b : Addr) (n : Int) (t : Tok) (ks : List Int), v = .ref a ∧ ns = n :: ks ∧ IsTup h a #[.int n t, .ref b] ∧ TS.TupInts h (.ref b) ks
theorem PairP.keeps {h h' : Heap} {v : Value} {ns : List Int} (x : PairP h v ns) (k : ∀ b o, h.get? b = some o → o.cls = .type "tuple" → h'.get? b = some o) : PairP h' v ns := by
  obtain ⟨a, b, n, t, ks, e, en, ⟨o, ho, hc, hd⟩, ti⟩ := x
  exact ⟨a, b, n, t, ks, e, en, ⟨o, k _ _ ho hc, hc, hd⟩, ti.keeps k⟩
end GX
set_option Elab.async false
set_option linter.all false
set_option maxRecDepth 100000
set_option maxHeartbeats 4000000
/-! What leads from a wire down, past no stop. -/
namespace GX
open PySem PySem.Spec PyProof.Rows L2
inductive Rc (n : Net) (st : List Nat) (w j : Nat) : Nat → Prop
  | here : w ∉ st → Rc n st w j w
  | step {g p : Nat} {k : Nat × Nat × Nat} : Rc n st w j g → n.many ≤ g → j ≤ g → n.gates[g - n.many]? = some k → (p = k.2.1 ∨ p = k.2.2) → p ∉ st → Rc n st w j p
theorem place_lt {n : Net} (ok : n.Ok) {g p : Nat} {k : Nat × Nat × Nat} (hg : n.many ≤ g) (hk : n.gates[g - n.many]? = some k) (hp : p = k.2.1 ∨ p = k.2.2) : p < g := by
  obtain ⟨_, h1, h2⟩ := ok.gs _ _ hk
  rcases hp with rfl | rfl <;> omega
theorem Rc.le {n : Net} (ok : n.Ok) {st : List Nat} {w j y : Nat} (h : Rc n st w j y) : y ≤ w := by
  induction h with
  | here _ => exact Nat.le_refl _
  | step _ hg _ hk hp _ ih => exact Nat.le_trans (Nat.le_of_lt (place_lt ok hg hk hp)) ih
theorem Rc.free {n : Net} {st : List Nat} {w j y : Nat} (h : Rc n st w j y) : y ∉ st := by cases h <;> assumption
theorem Rc.mono {n : Net} {st : List Nat} {w j i y : Nat} (h : Rc n st w j y) (l : i ≤ j) : Rc n st w i y := by
  induction h with
  | here e => exact .here e
  | step _ hg hj hk hp hs ih => exact .step ih hg (Nat.le_trans l hj) hk hp hs
theorem Rc.low {n : Net} {st : List Nat} {w j y : Nat} (h : Rc n st w j y) : Rc n st w n.many y := by
  induction h with
  | here e => exact .here e
  | step _ hg hj hk hp hs ih => exact .step ih hg hg hk hp hs
theorem Rc.low_iff {n : Net} {st : List Nat} {w j y : Nat} (l : j ≤ n.many) : Rc n st w j y ↔ Rc n st w n.many y := ⟨Rc.low, fun h => h.mono l⟩
theorem Rc.down {n : Net} (ok : n.Ok) {st : List Nat} {w g y : Nat} {k : Nat × Nat × Nat} (hg : n.many ≤ g) (hk : n.gates[g - n.many]? = some k) :
    Rc n st w g y ↔ Rc n st w (g + 1) y ∨ (Rc n st w (g + 1) g ∧ (y = k.2.1 ∨ y = k.2.2) ∧ y ∉ st) := by
  refine ⟨fun h => ?_, fun h => ?_⟩
  · induction h with
    | here e => exact .inl (.here e)
    | @step g' p k' h1 hg' hj hk' hp hs ih =>
      by_cases e : g' = g
      · subst e
        have ek : k' = k := by
          rw [hk] at hk'
          exact (Option.some.inj hk').symm
        subst ek
        rcases ih with ih | ⟨_, ih, _⟩
        · exact .inr ⟨ih, hp, hs⟩
        · exact absurd (place_lt ok hg hk ih) (Nat.lt_irrefl _)
      · rcases ih with ih | ⟨_, ih, _⟩
        · exact .inl (.step ih hg' (by omega) hk' hp hs)
        · have := place_lt ok hg hk ih
          omega
  · rcases h with h | ⟨h, hp, hs⟩
    · exact h.mono (Nat.le_succ g)
    · exact .step (h.mono (Nat.le_succ g)) hg (Nat.le_refl _) hk hp hs
/-- an input, or below the last gate: nothing goes on above -/
theorem Rc.high {n : Net} (ok : n.Ok) {st : List Nat} {w y : Nat} : Rc n st w (w + 1) y ↔ y = w ∧ w ∉ st := by
  refine ⟨fun h => ?_, fun h => by rw [h.1]; exact .here h.2⟩
  cases h with
  | here e => exact ⟨rfl, e⟩
  | step h1 hg hj hk hp hs =>
    have := h1.le ok
    omega
theorem inV_n (x : Nat) (st : List Nat) : inV (nV x) (st.map nV) = decide (x ∈ st) := by
  unfold inV
  rw [List.any_map]
  induction st with
  | nil => rfl
  | cons y r ih =>
    rw [List.any_cons, ih]
    have e : ((fun y => eqV y (nV x)) ∘ nV) y = decide (x = y) := by
      show eqV (nV y) (nV x) = decide (x = y)
      unfold eqV
      by_cases h : x = y
      · subst h
        rw [decide_eq_true (rfl : x = x)]
        exact decide_eq_true rfl
      · rw [decide_eq_false h]
        refine decide_eq_false fun z => h ?_
        have z' : ((y : Nat) : Int) = (x : Int) := z
        omega
    rw [e, ← Bool.decide_or]
    congr 1
    exact propext List.mem_cons.symm
theorem flat_ns (st : List Nat) : (st.map nV).all flatV = true := by
  rw [List.all_map, List.all_eq_true]
  intro x _
  rfl
theorem ix_n {len x : Nat} (h : x < len) : ixN len (x : Int) = some x := by
  have e := atI_nat (xs := List.range len) (j := x) (v := x) (by rw [List.getElem?_range h])
  unfold atI at e
  rw [List.length_range] at e
  cases q : ixN len (x : Int) with
  | none => rw [q] at e; cases e
  | some j =>
    rw [q] at e
    have e' : (List.range len)[j]? = some x := e
    obtain ⟨h1, h2⟩ := List.getElem?_eq_some_iff.mp e'
    rw [List.getElem_range] at h2
    rw [h2]
/-- rising, unlike: told by its members -/
theorem rise_eq : ∀ {xs ys : List Nat}, xs.Pairwise (· < ·) → ys.Pairwise (· < ·) → (∀ z, z ∈ xs ↔ z ∈ ys) → xs = ys
  | [], [], _, _, _ => rfl
  | [], y :: ys, _, _, h => by cases (h y).mpr List.mem_cons_self
  | x :: xs, [], _, _, h => by cases (h x).mp List.mem_cons_self
  | x :: xs, y :: ys, hx, hy, h => by
    have hx1 := List.pairwise_cons.mp hx
    have hy1 := List.pairwise_cons.mp hy
    have e : x = y := by
      rcases List.mem_cons.mp ((h x).mp List.mem_cons_self) with e | e
      · exact e
      · rcases List.mem_cons.mp ((h y).mpr List.mem_cons_self) with e' | e'
        · exact e'.symm
        · have := hy1.1 _ e
          have := hx1.1 _ e'
          omega
    subst e
    refine congrArg _ (rise_eq hx1.2 hy1.2 fun z => ⟨fun hz => ?_, fun hz => ?_⟩)
    · rcases List.mem_cons.mp ((h z).mp (List.mem_cons_of_mem _ hz)) with e | e
      · have := hx1.1 _ hz
        omega
      · exact e
    · rcases List.mem_cons.mp ((h z).mpr (List.mem_cons_of_mem _ hz)) with e | e
      · have := hy1.1 _ hz
        omega
      · exact e
/-- the wires reached, rising -/
def Rset (n : Net) (st : List Nat) (w : Nat) (xs : List Nat) : Prop := xs.Pairwise (· < ·) ∧ ∀ y, y ∈ xs ↔ Rc n st w n.many y
theorem Rset.eq {n : Net} {st : List Nat} {w : Nat} {xs ys : List Nat} (a : Rset n st w xs) (b : Rset n st w ys) : xs = ys := rise_eq a.1 b.1 fun z => (a.2 z).trans (b.2 z).symm
/-- marks -/
def MarkOk (n : Net) (st : List Nat) (w j : Nat) (ms : List Bool) : Prop := ms.length = n.many + n.gates.length ∧ ∀ y, y < ms.length → (ms.getD y false = true ↔ Rc n st w j y)
theorem getD_set {ms : List Bool} {i y : Nat} {b : Bool} (h : i < ms.length) : (ms.set i b).getD y false = if y = i then b else ms.getD y false := by
  rw [List.getD_eq_getElem?_getD, List.getD_eq_getElem?_getD]
  by_cases e : y = i
  · subst e
    rw [if_pos rfl, List.getElem?_set_self h]
    rfl
  · rw [if_neg e, List.getElem?_set_ne (fun z => e z.symm)]
theorem mark_at {ms : List Bool} {i : Nat} (h : i < ms.length) : (ms.map V.bl)[i]? = some (.bl (ms.getD i false)) := by
  rw [List.getElem?_map, List.getD_eq_getElem?_getD, List.getElem?_eq_getElem h]
  rfl
def picked (ms : List Bool) : List Nat := (List.range ms.length).filter fun i => ms.getD i false
theorem picked_rise (ms : List Bool) : (picked ms).Pairwise (· < ·) := List.Pairwise.filter _ List.pairwise_lt_range
theorem picked_take (ms : List Bool) (i : Nat) : ((List.range (i + 1)).filter fun i => ms.getD i false) = ((List.range i).filter fun i => ms.getD i false) ++ (if ms.getD i false = true then [i] else []) := by
  rw [List.range_succ, List.filter_append]
  congr 1
  rw [List.filter_cons]
  rfl
theorem mark_set {n : Net} (ok : n.Ok) {st : List Nat} {w : Nat} {ms : List Bool} (hw : w < n.many + n.gates.length) (h : MarkOk n st w n.many ms) : Rset n st w (picked ms) := by
  refine ⟨picked_rise ms, fun y => ?_⟩
  unfold picked
  rw [List.mem_filter, List.mem_range]
  refine ⟨fun ⟨h1, h2⟩ => (h.2 y h1).mp h2, fun r => ?_⟩
  have := r.le ok
  have hl : y < ms.length := by rw [h.1]; omega
  exact ⟨hl, (h.2 y hl).mpr r⟩
theorem mark_down {n : Net} (ok : n.Ok) {st : List Nat} {w g : Nat} {k : Nat × Nat × Nat} {ms : List Bool} (hg : n.many ≤ g) (hk : n.gates[g - n.many]? = some k) (h : MarkOk n st w (g + 1) ms) (hm : ms.getD g false = true) :
    MarkOk n st w g ((ms.set k.2.1 (!decide (k.2.1 ∈ st))).set k.2.2 (!decide (k.2.2 ∈ st))) := by
  have hgl : g < ms.length := by
    rw [h.1]
    have := (List.getElem?_eq_some_iff.mp hk).1
    omega
  have p1 := place_lt ok hg hk (.inl rfl)
  have p2 := place_lt ok hg hk (.inr rfl)
  have rg := (h.2 g hgl).mp hm
  have flip : ∀ y, (y = k.2.1 ∨ y = k.2.2) → ((!decide (y ∈ st)) = true ↔ Rc n st w g y) := fun y hy => by
    rw [Rc.down ok hg hk]
    by_cases e : y ∈ st
    · rw [decide_eq_true e]
      refine ⟨fun z => (by cases z), fun z => ?_⟩
      rcases z with z | ⟨_, _, z⟩
      · exact absurd e z.free
      · exact absurd e z
    · rw [decide_eq_false e]
      exact ⟨fun _ => .inr ⟨rg, hy, e⟩, fun _ => rfl⟩
  refine ⟨by rw [List.length_set, List.length_set]; exact h.1, fun y hy => ?_⟩
  rw [List.length_set, List.length_set] at hy
  rw [getD_set (by rw [List.length_set]; omega)]
  by_cases e2 : y = k.2.2
  · rw [if_pos e2, e2]
    exact flip _ (.inr rfl)
  · rw [if_neg e2, getD_set (by omega)]
    by_cases e1 : y = k.2.1
    · rw [if_pos e1, e1]
      exact flip _ (.inl rfl)
    · rw [if_neg e1, h.2 y hy, Rc.down ok hg hk]
      refine ⟨.inl, fun z => ?_⟩
      rcases z with z | ⟨_, z, _⟩
      · exact z
      · rcases z with z | z
        · exact absurd z e1
        · exact absurd z e2
theorem mark_skip {n : Net} (ok : n.Ok) {st : List Nat} {w g : Nat} {k : Nat × Nat × Nat} {ms : List Bool} (hg : n.many ≤ g) (hk : n.gates[g - n.many]? = some k) (h : MarkOk n st w (g + 1) ms) (hm : ¬ ms.getD g false = true) :
    MarkOk n st w g ms := by
  have hgl : g < ms.length := by
    rw [h.1]
    have := (List.getElem?_eq_some_iff.mp hk).1
    omega
  refine ⟨h.1, fun y hy => ?_⟩
  rw [h.2 y hy, Rc.down ok hg hk]
  refine ⟨.inl, fun z => ?_⟩
  rcases z with z | ⟨z, _, _⟩
  · exact z
  · exact absurd ((h.2 g hgl).mpr z) hm
theorem mark_first {n : Net} (ok : n.Ok) {st : List Nat} {w : Nat} (hw : w < n.many + n.gates.length) : MarkOk n st w (w + 1) ((List.replicate (n.many + n.gates.length) false).set w (!decide (w ∈ st))) := by
  refine ⟨by rw [List.length_set, List.length_replicate], fun y hy => ?_⟩
  rw [getD_set (by rw [List.length_replicate]; exact hw), Rc.high ok]
  by_cases e : y = w
  · subst e
    rw [if_pos rfl]
    by_cases h : y ∈ st
    · rw [decide_eq_true h]
      exact ⟨fun z => (by cases z), fun z => absurd h z.2⟩
    · rw [decide_eq_false h]
      exact ⟨fun _ => ⟨rfl, h⟩, fun _ => rfl⟩
  · rw [if_neg e, List.getD_eq_getElem?_getD, List.getElem?_replicate]
    refine ⟨fun z => ?_, fun z => absurd z.1 e⟩
    split at z <;> cases z
/-- ways -/
structure Way (n : Net) (w : Nat) (xs : List Nat) : Prop where
  ne : 0 < xs.length
  lt : ∀ x ∈ xs, x < n.many + n.gates.length
  first : xs.getD 0 0 < n.many
  last : xs.getD (xs.length - 1) 0 = w
  steps : ∀ i, i + 1 < xs.length → n.many ≤ xs.getD (i + 1) 0 ∧ ∃ k, n.gates[xs.getD (i + 1) 0 - n.many]? = some k ∧ (xs.getD i 0 = k.2.1 ∨ xs.getD i 0 = k.2.2)
theorem walk_zipT {K : PySem.W.Frag} {a b : Addr} {xs ys : List V} {n : Nat} (hn : n = min xs.length ys.length) : Walk (RZ.ItzT K a b) n (fun H => SqT K H a xs ∧ SqT K H b ys) (YPair (fun i => xs[i]?) (fun i => ys[i]?)) := by
  subst hn
  refine ⟨fun i _ hi q => ?_, fun _ q => ⟨xs, ys, q.1, q.2, by omega⟩, fun i H v H' _ q y => ?_⟩
  · exact ⟨xs, ys, xs[i]'(by omega), ys[i]'(by omega), q.1, q.2, List.getElem?_eq_getElem _, List.getElem?_eq_getElem _⟩
  · obtain ⟨T, x, z, g1, g2, g3, g4, g5⟩ := y
    exact ⟨T, x, z, g1, g2, g3, g4 xs q.1, g5 ys q.2⟩
end GX
set_option Elab.async false
set_option linter.all false
set_option maxRecDepth 100000
set_option maxHeartbeats 4000000
/-! Lists of the wires reached; ways put together. -/
namespace GX
open PySem PySem.Spec PyProof.Rows L2
theorem nodup_len : ∀ {xs ys : List Nat}, xs.Nodup → (∀ x ∈ xs, x ∈ ys) → xs.length ≤ ys.length
  | [], _, _, _ => Nat.zero_le _
  | x :: xs, ys, h, s => by
    have h1 := List.nodup_cons.mp h
    have hx := s x List.mem_cons_self
    have ih := nodup_len (ys := ys.erase x) h1.2 fun z hz => (List.mem_erase_of_ne (fun e => h1.1 (by rw [← e]; exact hz))).mpr (s z (List.mem_cons_of_mem _ hz))
    rw [List.length_erase_of_mem hx] at ih
    have : 0 < ys.length := List.length_pos_of_mem hx
    rw [List.length_cons]
    omega
theorem nodup_lt {xs : List Nat} {m : Nat} (h : xs.Nodup) (s : ∀ x ∈ xs, x < m) : xs.length ≤ m := by
  have := nodup_len (ys := List.range m) h fun x hx => List.mem_range.mpr (s x hx)
  rwa [List.length_range] at this
theorem nodup_snoc {xs : List Nat} {x : Nat} (h : xs.Nodup) (n : x ∉ xs) : (xs ++ [x]).Nodup := by
  rw [List.nodup_append]
  refine ⟨h, by simp, fun a ha b hb => ?_⟩
  rw [List.mem_singleton.mp hb]
  exact fun e => n (by rw [← e]; exact ha)
theorem getD_pre {xs t : List Nat} {i : Nat} (h : i < xs.length) : (xs ++ t).getD i 0 = xs.getD i 0 := by
  rw [List.getD_eq_getElem?_getD, List.getD_eq_getElem?_getD, List.getElem?_append_left h]
theorem getD_mem {xs : List Nat} {i : Nat} (h : i < xs.length) : xs.getD i 0 ∈ xs := by
  rw [List.getD_eq_getElem?_getD, List.getElem?_eq_getElem h]
  exact List.getElem_mem h
theorem mem_getD {xs : List Nat} {x : Nat} (h : x ∈ xs) : ∃ i, i < xs.length ∧ xs.getD i 0 = x := by
  obtain ⟨i, hi, e⟩ := List.getElem_of_mem h
  exact ⟨i, hi, by rw [List.getD_eq_getElem?_getD, List.getElem?_eq_getElem hi]; exact e⟩
/-- found so far; the first k have been gone on from -/
structure LedOk (n : Net) (st : List Nat) (w : Nat) (xs : List Nat) (k : Nat) : Prop where
  nd : xs.Nodup
  rc : ∀ y ∈ xs, Rc n st w n.many y
  self : w ∉ st → w ∈ xs
  le : k ≤ xs.length
  done : ∀ j, j < k → n.many ≤ xs.getD j 0 → ∀ g, n.gates[xs.getD j 0 - n.many]? = some g → ∀ p, (p = g.2.1 ∨ p = g.2.2) → p ∉ st → p ∈ xs
theorem LedOk.all {n : Net} {st : List Nat} {w : Nat} {xs : List Nat} (h : LedOk n st w xs xs.length) (y : Nat) : y ∈ xs ↔ Rc n st w n.many y := by
  refine ⟨h.rc y, fun r => ?_⟩
  induction r with
  | here e => exact h.self e
  | step _ hg _ hk hp hs ih =>
    obtain ⟨i, hi, e⟩ := mem_getD ih
    exact h.done i hi (by rw [e]; exact hg) _ (by rw [e]; exact hk) _ hp hs
def isSt (n : Net) (x y : Nat) : Prop := n.many ≤ y ∧ ∃ k, n.gates[y - n.many]? = some k ∧ (x = k.2.1 ∨ x = k.2.2)
/-- from x (left out) up to w -/
structure Up (n : Net) (x w : Nat) (zs : List Nat) : Prop where
  lt : ∀ z ∈ zs, z < n.many + n.gates.length
  last : (x :: zs).getD zs.length 0 = w
  ch : ∀ i, i + 1 < (x :: zs).length → isSt n ((x :: zs).getD i 0) ((x :: zs).getD (i + 1) 0)
theorem Up.nil (n : Net) (w : Nat) : Up n w w [] := ⟨fun z hz => (by cases hz), rfl, fun i hi => (by simp at hi)⟩
theorem Up.cons {n : Net} {p x w : Nat} {zs : List Nat} (s : isSt n p x) (hx : x < n.many + n.gates.length) (u : Up n x w zs) : Up n p w (x :: zs) := by
  refine ⟨fun z hz => ?_, ?_, fun i hi => ?_⟩
  · rcases List.mem_cons.mp hz with rfl | hz
    · exact hx
    · exact u.lt z hz
  · exact u.last
  · cases i with
    | zero => exact s
    | succ i => exact u.ch i (by simpa using hi)
/-- from some wire down to w, upward -/
structure Down (n : Net) (w : Nat) (xs : List Nat) : Prop where
  ne : 0 < xs.length
  lt : ∀ x ∈ xs, x < n.many + n.gates.length
  last : xs.getD (xs.length - 1) 0 = w
  steps : ∀ i, i + 1 < xs.length → isSt n (xs.getD i 0) (xs.getD (i + 1) 0)
theorem Down.one {n : Net} {w : Nat} (h : w < n.many + n.gates.length) : Down n w [w] := ⟨Nat.zero_lt_one, fun x hx => (by rw [List.mem_singleton.mp hx]; exact h), rfl, fun i hi => (by simp at hi)⟩
theorem Down.cons {n : Net} {w p : Nat} {xs : List Nat} (d : Down n w xs) (hp : p < n.many + n.gates.length) (s : isSt n p (xs.getD 0 0)) : Down n w (p :: xs) := by
  have h0 := d.ne
  refine ⟨by rw [List.length_cons]; omega, fun x hx => ?_, ?_, fun i hi => ?_⟩
  · rcases List.mem_cons.mp hx with rfl | hx
    · exact hp
    · exact d.lt x hx
  · rw [List.length_cons, show xs.length + 1 - 1 = (xs.length - 1) + 1 by omega]
    exact d.last
  · cases i with
    | zero => exact s
    | succ i => exact d.steps i (by simpa using hi)
theorem Down.way {n : Net} {w : Nat} {xs : List Nat} (d : Down n w xs) (h : xs.getD 0 0 < n.many) : Way n w xs := ⟨d.ne, d.lt, h, d.last, d.steps⟩
theorem getD_post {xs t : List Nat} {i : Nat} (h : xs.length ≤ i) : (xs ++ t).getD i 0 = t.getD (i - xs.length) 0 := by
  rw [List.getD_eq_getElem?_getD, List.getD_eq_getElem?_getD, List.getElem?_append_right h]
theorem Way.join {n : Net} {x w : Nat} {ys zs : List Nat} (a : Way n x ys) (u : Up n x w zs) : Way n w (ys ++ zs) := by
  have h0 := a.ne
  refine ⟨by rw [List.length_append]; omega, fun z hz => ?_, ?_, ?_, fun i hi => ?_⟩
  · rcases List.mem_append.mp hz with hz | hz
    · exact a.lt z hz
    · exact u.lt z hz
  · rw [getD_pre h0]
    exact a.first
  · have ul := u.last
    rw [List.length_append]
    cases zs with
    | nil =>
      rw [List.append_nil, List.length_nil, Nat.add_zero]
      have : x = w := ul
      rw [← this]
      exact a.last
    | cons z r =>
      rw [getD_post (by rw [List.length_cons]; omega), List.length_cons]
      rw [show ys.length + (r.length + 1) - 1 - ys.length = r.length by omega]
      exact ul
  · rw [List.length_append] at hi
    by_cases h1 : i + 1 < ys.length
    · rw [getD_pre h1, getD_pre (by omega)]
      exact a.steps i h1
    · by_cases h2 : i + 1 = ys.length
      · have e : ys.getD i 0 = x := by
          rw [show i = ys.length - 1 by omega]
          exact a.last
        have e1 : (ys ++ zs).getD i 0 = x := by rw [getD_pre (by omega), e]
        have e2 : (ys ++ zs).getD (i + 1) 0 = zs.getD 0 0 := by rw [getD_post (by omega), h2, Nat.sub_self]
        rw [e1, e2]
        cases zs with
        | nil => simp at hi; omega
        | cons z r => exact u.ch 0 (by simp)
      · have e1 : (ys ++ zs).getD i 0 = zs.getD (i - ys.length) 0 := getD_post (by omega)
        have e2 : (ys ++ zs).getD (i + 1) 0 = zs.getD (i + 1 - ys.length) 0 := getD_post (by omega)
        rw [e1, e2]
        have := u.ch (i - ys.length + 1) (by rw [List.length_cons]; omega)
        rw [show i + 1 - ys.length = i - ys.length + 1 by omega]
        exact this
end GX
set_option Elab.async false
set_option linter.all false
set_option maxRecDepth 100000
set_option maxHeartbeats 4000000
/-! Wires that tell a gate: going back from a cut. -/
namespace GX
open PySem PySem.Spec PyProof.Rows L2
theorem Rc.sub {n : Net} {st st' : List Nat} {w j y : Nat} (h : Rc n st' w j y) (s : ∀ z ∈ st, z ∈ st') : Rc n st w j y := by
  induction h with
  | here e => exact .here fun z => e (s _ z)
  | step _ hg hj hk hp hs ih => exact .step ih hg hj hk hp fun z => hs (s _ z)
/-- no input leads past them -/
def Sep (n : Net) (w : Nat) (st : List Nat) : Prop := ∀ y, Rc n st w n.many y → n.many ≤ y
theorem Sep.more {n : Net} {w : Nat} {st st' : List Nat} (h : Sep n w st) (s : ∀ z ∈ st, z ∈ st') : Sep n w st' := fun y r => h y (r.sub s)
theorem sep_first {n : Net} {w : Nat} {st : List Nat} {k : Nat × Nat × Nat} (hw : n.many ≤ w) (hk : n.gates[w - n.many]? = some k) (h : ∀ z, (z = k.2.1 ∨ z = k.2.2) → z ∈ st) : Sep n w st := by
  have all : ∀ y, Rc n st w n.many y → y = w := fun y r => by
    induction r with
    | here _ => rfl
    | step _ _ _ hk' hp hs ih =>
      subst ih
      rw [hk] at hk'
      cases hk'
      exact absurd (h _ hp) hs
  exact fun y r => by rw [all y r]; exact hw
structure CutOk (n : Net) (gt : Nat) (ys : List Nat) : Prop where
  ne : 0 < ys.length
  lt : ∀ y ∈ ys, y < gt
  sep : Sep n gt ys
  rise : ys.Pairwise (· < ·)
end GX
set_option Elab.async false
set_option linter.all false
set_option maxRecDepth 100000
set_option maxHeartbeats 4000000
/-! Bits of numbers, as the texts write them. -/
namespace GX
open PySem PySem.Spec PyProof.Rows L2
theorem pt_truthK {X : Cx} {K : PySem.W.Frag} {a : Expr} {ta : TE} (ha : PE X a ta) (he : ∀ whole, isTrue a X.env whole = (do let v ← whole; standAt a.pos; holding [v] (truthy v))) (h : X.K = K := by rfl) : PT X a (fun σ H Q => ta σ H fun x H' => ∃ k, TruV K x H' k ∧ Q k H') := by subst h; exact pt_truth ha he
theorem natAt {l : List Nat} {i : Nat} (h : i < l.length) : (l.map nV)[i]? = some (nV (l.getD i 0)) := by
  rw [List.getElem?_map, List.getD_eq_getElem?_getD, List.getElem?_eq_getElem h]
  rfl
theorem mapV (xs : List Nat) : (xs.map fun n : Nat => (n : Int)).map V.int = xs.map nV := by
  rw [List.map_map]
  rfl
theorem dpNat (K : PySem.W.Frag) (H : Hp) : ∀ xs : List Nat, DpAll K H (xs.map nV) ((xs.map fun n : Nat => (n : Int)).map PyData.int)
  | [] => .nil
  | x :: r => .cons (.int _) (dpNat K H r)
theorem getSnoc {xs : List Nat} {x i : Nat} (h : i < xs.length) : (xs ++ [x]).getD i 0 = xs.getD i 0 := getD_pre h
theorem getLastN {xs : List Nat} {x : Nat} : (xs ++ [x]).getD xs.length 0 = x := by
  rw [List.getD_eq_getElem?_getD, List.getElem?_append_right (Nat.le_refl _), Nat.sub_self]
  rfl
/-- number >> place & 1 -/
theorem bit_of (r p : Nat) : Builtin.bitAnd (((r : Nat) : Int) / 2 ^ ((p : Nat) : Int).toNat) 1 = ((r / 2 ^ p % 2 : Nat) : Int) := by
  rw [bitAnd_m1, Int.toNat_natCast]
  norm_cast
theorem shl_of (p : Nat) : (1 : Int) * 2 ^ ((p : Nat) : Int).toNat = ((2 ^ p : Nat) : Int) := by
  rw [Int.toNat_natCast, Int.one_mul]
  norm_cast
/-! ### idle places -/
theorem small256 {n : Nat} (h : n ≤ 10000) : n < sizeLine := Nat.lt_of_le_of_lt h (by decide)
end GX
set_option Elab.async false
set_option linter.all false
set_option maxRecDepth 100000
set_option maxHeartbeats 4000000
/-! Tuples at a list of addresses. -/
namespace GX
open PySem PySem.Spec PyProof.Rows L2
def RefsAt {α : Type} (f : α → List V) (H : Hp) (ps : List Addr) (xs : List α) : Prop := ps.length = xs.length ∧ ∀ (i : Nat) (p : Addr) (x : α), ps[i]? = some p → xs[i]? = some x → H p = some (.tup (f x))
section
variable {α : Type} {f : α → List V} {H H' : Hp} {ps : List Addr} {xs : List α}
theorem RefsAt.nil (f : α → List V) (H : Hp) : RefsAt f H [] [] := ⟨rfl, fun i p g e _ => by simp at e⟩
theorem RefsAt.mono (x : RefsAt f H ps xs) (k : ∀ b zs, H b = some (.tup zs) → H' b = some (.tup zs)) : RefsAt f H' ps xs := ⟨x.1, fun i p g e1 e2 => k _ _ (x.2 i p g e1 e2)⟩
theorem RefsAt.push {q : Addr} {y : α} (x : RefsAt f H ps xs) (h : H q = some (.tup (f y))) : RefsAt f H (ps ++ [q]) (xs ++ [y]) := by
  refine ⟨by rw [List.length_append, List.length_append, x.1]; rfl, fun i r g e1 e2 => ?_⟩
  by_cases hi : i < ps.length
  · rw [List.getElem?_append_left hi] at e1
    rw [List.getElem?_append_left (by rw [← x.1]; exact hi)] at e2
    exact x.2 i r g e1 e2
  · rw [List.getElem?_append_right (by omega)] at e1
    rw [List.getElem?_append_right (by rw [← x.1]; omega)] at e2
    have hz : i - ps.length = 0 := by
      obtain ⟨h1, _⟩ := List.getElem?_eq_some_iff.mp e1
      simp at h1
      omega
    rw [hz] at e1
    rw [← x.1, hz] at e2
    cases e1
    cases e2
    exact h
theorem RefsAt.at_ (x : RefsAt f H ps xs) {i : Nat} {v : V} (e : (ps.map V.ref)[i]? = some v) : ∃ q y, v = .ref q ∧ xs[i]? = some y ∧ H q = some (.tup (f y)) := by
  rw [List.getElem?_map] at e
  cases h : ps[i]? with
  | none => rw [h] at e; cases e
  | some q =>
    rw [h] at e
    cases e
    have h2 : i < xs.length := by rw [← x.1]; exact (List.getElem?_eq_some_iff.mp h).1
    exact ⟨q, xs[i], rfl, List.getElem?_eq_getElem h2, x.2 i q _ h (List.getElem?_eq_getElem h2)⟩
theorem RefsAt.get (x : RefsAt f H ps xs) {i : Nat} {y : α} (e : xs[i]? = some y) : ∃ q, (ps.map V.ref)[i]? = some (.ref q) ∧ H q = some (.tup (f y)) := by
  have h2 : i < ps.length := by rw [x.1]; exact (List.getElem?_eq_some_iff.mp e).1
  exact ⟨ps[i], by rw [List.getElem?_map, List.getElem?_eq_getElem h2]; rfl, x.2 i _ y (List.getElem?_eq_getElem h2) e⟩
end
end GX
namespace GX
open PySem PySem.Spec PyProof.Rows L2
/-- things of any make at a list of addresses -/
def PtsAt {α : Type} (R : Hp → Addr → α → Prop) (H : Hp) (ps : List Addr) (xs : List α) : Prop := ps.length = xs.length ∧ ∀ (i : Nat) (p : Addr) (x : α), ps[i]? = some p → xs[i]? = some x → R H p x
section
variable {α : Type} {R : Hp → Addr → α → Prop} {H H' : Hp} {ps : List Addr} {xs : List α}
theorem PtsAt.nil (R : Hp → Addr → α → Prop) (H : Hp) : PtsAt R H [] [] := ⟨rfl, fun i p g e _ => by simp at e⟩
theorem PtsAt.mono (x : PtsAt R H ps xs) (k : ∀ p y, R H p y → R H' p y) : PtsAt R H' ps xs := ⟨x.1, fun i p g e1 e2 => k _ _ (x.2 i p g e1 e2)⟩
theorem PtsAt.cons {q : Addr} {y : α} (x : PtsAt R H ps xs) (h : R H q y) : PtsAt R H (q :: ps) (y :: xs) := by
  refine ⟨by rw [List.length_cons, List.length_cons, x.1], fun i r g e1 e2 => ?_⟩
  cases i with
  | zero =>
    cases e1
    cases e2
    exact h
  | succ i => exact x.2 i r g e1 e2
theorem PtsAt.push {q : Addr} {y : α} (x : PtsAt R H ps xs) (h : R H q y) : PtsAt R H (ps ++ [q]) (xs ++ [y]) := by
  refine ⟨by rw [List.length_append, List.length_append, x.1]; rfl, fun i r g e1 e2 => ?_⟩
  by_cases hi : i < ps.length
  · rw [List.getElem?_append_left hi] at e1
    rw [List.getElem?_append_left (by rw [← x.1]; exact hi)] at e2
    exact x.2 i r g e1 e2
  · rw [List.getElem?_append_right (by omega)] at e1
    rw [List.getElem?_append_right (by rw [← x.1]; omega)] at e2
    have hz : i - ps.length = 0 := by
      obtain ⟨h1, _⟩ := List.getElem?_eq_some_iff.mp e1
      simp at h1
      omega
    rw [hz] at e1
    rw [← x.1, hz] at e2
    cases e1
    cases e2
    exact h
theorem PtsAt.at_ (x : PtsAt R H ps xs) {i : Nat} {v : V} (e : (ps.map V.ref)[i]? = some v) : ∃ q y, v = .ref q ∧ xs[i]? = some y ∧ R H q y := by
  rw [List.getElem?_map] at e
  cases h : ps[i]? with
  | none => rw [h] at e; cases e
  | some q =>
    rw [h] at e
    cases e
    have h2 : i < xs.length := by rw [← x.1]; exact (List.getElem?_eq_some_iff.mp h).1
    exact ⟨q, xs[i], rfl, List.getElem?_eq_getElem h2, x.2 i q _ h (List.getElem?_eq_getElem h2)⟩
theorem PtsAt.get (x : PtsAt R H ps xs) {i : Nat} {y : α} (e : xs[i]? = some y) : ∃ q, (ps.map V.ref)[i]? = some (.ref q) ∧ R H q y := by
  have h2 : i < ps.length := by rw [x.1]; exact (List.getElem?_eq_some_iff.mp e).1
  exact ⟨ps[i], by rw [List.getElem?_map, List.getElem?_eq_getElem h2]; rfl, x.2 i _ y (List.getElem?_eq_getElem h2) e⟩
end
end GX
set_option Elab.async false
set_option linter.all false
set_option maxRecDepth 100000
set_option maxHeartbeats 4000000
namespace GX
open PySem PySem.Spec PyProof.Rows L2
/-- the well, the tables stand; all else is kept -/
structure Dk (W : Addr) (Ts : List Addr) (H H' : Hp) : Prop where
  wl : Wl H' W
  tb : Tabs Ts H'
  kp : Keep (W :: Ts) H H'
theorem Dk.aft {W : Addr} {Ts : List Addr} {H H1 H2 : Hp} (d : Dk W Ts H H1) (a : Aft Ts H1 H2) : Dk W Ts H H2 := ⟨d.wl.keep a.kp (d.wl.tab d.tb), a.tb, d.kp.trans (a.kp.mono fun b hb => List.mem_cons_of_mem _ hb)⟩
theorem Dk.same {W : Addr} {Ts : List Addr} {H H1 H2 : Hp} (d : Dk W Ts H H1) (s : Same H1 H2) : Dk W Ts H H2 := d.aft (Aft.ofSame d.tb s)
theorem Wk.tabs {W : Addr} {Ts : List Addr} {H H1 : Hp} (wl : Wl H W) (tb : Tabs Ts H) (s : Wk W H H1) : Tabs Ts H1 := tb.keep s.kp fun b hb => by rw [List.mem_singleton.mp hb]; exact wl.tab tb
theorem Dk.draw {W : Addr} {Ts : List Addr} {H H1 H2 : Hp} (d : Dk W Ts H H1) (s : Wk W H1 H2) : Dk W Ts H H2 := ⟨s.wl, s.tabs d.wl d.tb, d.kp.trans (s.kp.mono fun b hb => by rw [List.mem_singleton.mp hb]; exact List.mem_cons_self)⟩
/-- a list of our own, made behind H, is changed -/
theorem Dk.put {W : Addr} {Ts : List Addr} {H H1 : Hp} {l : Addr} {o : HO} {xs : List V} (d : Dk W Ts H H1) (nl : H l = none) (hl : H1 l = some (.lst xs)) (nW : l ≠ W) : Dk W Ts H (upd H1 l o) :=
  ⟨by obtain ⟨x, y, z, e⟩ := d.wl; exact ⟨x, y, z, by rw [upd_ne (fun z => nW z.symm)]; exact e⟩, d.tb.upd (d.tb.lst hl), fun b u e n => by rw [upd_ne (ne_of_none e nl)]; exact d.kp b u e n⟩
theorem Dk.was {W : Addr} {Ts : List Addr} {H H1 : Hp} {l : Addr} (d : Dk W Ts H H1) (n : H1 l = none) : H l = none ∧ l ≠ W := by
  have hW : l ≠ W := fun z => by
    obtain ⟨_, _, _, e⟩ := d.wl
    rw [← z, n] at e
    cases e
  refine ⟨?_, hW⟩
  cases e : H l with
  | none => rfl
  | some u =>
    have := d.kp _ _ e fun z => by
      rcases List.mem_cons.mp z with z | z
      · exact hW z
      · exact d.tb.none n z
    rw [n] at this
    cases this
def natOf (σ : L2.St) (i : Nat) : Nat := match σ[i]? with
  | some (some (V.int z)) => z.toNat
  | _ => 0
end GX
set_option Elab.async false
set_option linter.all false
set_option maxRecDepth 100000
set_option maxHeartbeats 4000000
/-! list(reversed(xs)), xs a list. -/
namespace GX
open PySem PySem.Spec PyProof.Rows L2 RT
end GX
set_option Elab.async false
set_option linter.all false
set_option maxRecDepth 100000
set_option maxHeartbeats 4000000
/-! A deck: a list with a list of cells, a seed and a count. -/
namespace GX
open PySem PySem.Spec PyProof.Rows L2
structure Wd (H : Hp) (W C : Addr) : Prop where
  ex : ∃ (ns : List Int) (a b : Int), H W = some (.lst [.ref C, .int a, .int b]) ∧ H C = some (.lst (ns.map V.int)) ∧ ns.length ≤ 64
  ne : W ≠ C
theorem Wd.nt {H : Hp} {W C : Addr} (h : Wd H W C) : ∀ b ∈ [W, C], ∀ xs, H b ≠ some (.tup xs) := fun b hb xs e => by
  obtain ⟨ns, a, c, e1, e2, _⟩ := h.ex
  rcases List.mem_cons.mp hb with z | z
  · rw [z, e1] at e
    cases e
  · rw [List.mem_singleton.mp z, e2] at e
    cases e
theorem Wd.same {H H' : Hp} {W C : Addr} (h : Wd H W C) (s : Same H H') : Wd H' W C := by
  obtain ⟨⟨ns, a, c, e1, e2, l⟩, ne⟩ := h
  exact ⟨⟨ns, a, c, s _ _ e1, s _ _ e2, l⟩, ne⟩
theorem Wd.keep {X : List Addr} {H H' : Hp} {W C : Addr} (h : Wd H W C) (k : Keep X H H') (n : W ∉ X) (m : C ∉ X) : Wd H' W C := by
  obtain ⟨⟨ns, a, c, e1, e2, l⟩, ne⟩ := h
  exact ⟨⟨ns, a, c, k _ _ e1 n, k _ _ e2 m, l⟩, ne⟩
theorem Wd.tabW {Ts : List Addr} {H : Hp} {W C : Addr} (h : Wd H W C) (t : Tabs Ts H) : W ∉ Ts := by
  obtain ⟨ns, a, c, e1, e2, _⟩ := h.ex
  exact t.lst e1
theorem Wd.tabC {Ts : List Addr} {H : Hp} {W C : Addr} (h : Wd H W C) (t : Tabs Ts H) : C ∉ Ts := by
  obtain ⟨ns, a, c, e1, e2, _⟩ := h.ex
  exact t.lst e2
/-- the deck stands, all else is kept -/
structure Wk2 (W C : Addr) (H H' : Hp) : Prop where
  wl : Wd H' W C
  kp : Keep [W, C] H H'
theorem Wk2.nxt {W C : Addr} {H H1 H2 : Hp} (s : Wk2 W C H H1) (t : Wk2 W C H1 H2) : Wk2 W C H H2 := ⟨t.wl, s.kp.trans t.kp⟩
theorem Wk2.same {W C : Addr} {H H1 H2 : Hp} (s : Wk2 W C H H1) (e : Same H1 H2) : Wk2 W C H H2 := ⟨s.wl.same e, s.kp.trans (Same.keep e)⟩
theorem Wk2.new {W C : Addr} {H H1 : Hp} {p : Addr} {o : HO} (s : Wk2 W C H H1) (n : H1 p = none) : Wk2 W C H (upd H1 p o) := s.same (Same.new n)
theorem Wk2.refl {W C : Addr} {H : Hp} (h : Wd H W C) : Wk2 W C H H := ⟨h, Keep.refl⟩
theorem Wd.tup {H H' : Hp} {W C : Addr} (h : Wd H W C) (k : Wk2 W C H H') {b : Addr} {xs : List V} (e : H b = some (.tup xs)) : H' b = some (.tup xs) := k.kp.tups h.nt b xs e
theorem Wd.new {H : Hp} {W C l : Addr} (h : Wd H W C) (n : H l = none) : l ≠ W ∧ l ≠ C := by
  obtain ⟨ns, a, c, e1, e2, _⟩ := h.ex
  refine ⟨fun z => ?_, fun z => ?_⟩
  · rw [← z, n] at e1
    cases e1
  · rw [← z, n] at e2
    cases e2
theorem Wk2.at_ {W C : Addr} {H H' : Hp} {l : Addr} {o : HO} (k : Wk2 W C H H') (n : l ≠ W ∧ l ≠ C) (e : H l = some o) : H' l = some o := k.kp _ _ e fun z => by
  rcases List.mem_cons.mp z with z | z
  · exact n.1 z
  · exact n.2 (List.mem_singleton.mp z)
theorem Wk2.was {W C : Addr} {H H' : Hp} {l : Addr} (k : Wk2 W C H H') (n : H' l = none) : H l = none := by
  obtain ⟨n1, n2⟩ := k.wl.new n
  cases e : H l with
  | none => rfl
  | some u =>
    have := k.at_ ⟨n1, n2⟩ e
    rw [n] at this
    cases this
/-- a list of our own is changed -/
theorem Wk2.put {W C : Addr} {H H' : Hp} {l : Addr} {o : HO} (s : Wk2 W C H H') (nl : H l = none) (n : l ≠ W ∧ l ≠ C) : Wk2 W C H (upd H' l o) := by
  obtain ⟨⟨⟨ns, a, c, e1, e2, z⟩, ne⟩, k⟩ := s
  exact ⟨⟨⟨ns, a, c, by rw [upd_ne (Ne.symm n.1)]; exact e1, by rw [upd_ne (Ne.symm n.2)]; exact e2, z⟩, ne⟩, fun b u e hb => by rw [upd_ne (ne_of_none e nl)]; exact k b u e hb⟩
theorem tupPut {H : Hp} {l : Addr} {xs ys : List V} (h : H l = some (.lst xs)) : ∀ b zs, H b = some (.tup zs) → upd H l (.lst ys) b = some (.tup zs) := fun b zs e => by
  rw [upd_ne (fun z => by rw [z, h] at e; cases e)]
  exact e
/-- the deck, the tables stand; all else is kept -/
structure Dk2 (W C : Addr) (Ts : List Addr) (H H' : Hp) : Prop where
  wl : Wd H' W C
  tb : Tabs Ts H'
  kp : Keep (W :: C :: Ts) H H'
theorem Dk2.aft {W C : Addr} {Ts : List Addr} {H H1 H2 : Hp} (d : Dk2 W C Ts H H1) (a : Aft Ts H1 H2) : Dk2 W C Ts H H2 := ⟨d.wl.keep a.kp (d.wl.tabW d.tb) (d.wl.tabC d.tb), a.tb, d.kp.trans (a.kp.mono fun b hb => List.mem_cons_of_mem _ (List.mem_cons_of_mem _ hb))⟩
theorem Dk2.same {W C : Addr} {Ts : List Addr} {H H1 H2 : Hp} (d : Dk2 W C Ts H H1) (s : Same H1 H2) : Dk2 W C Ts H H2 := d.aft (Aft.ofSame d.tb s)
theorem Wk2.tabs {W C : Addr} {Ts : List Addr} {H H1 : Hp} (wl : Wd H W C) (tb : Tabs Ts H) (s : Wk2 W C H H1) : Tabs Ts H1 := tb.keep s.kp fun b hb => by
  rcases List.mem_cons.mp hb with z | z
  · rw [z]; exact wl.tabW tb
  · rw [List.mem_singleton.mp z]; exact wl.tabC tb
theorem Dk2.draw {W C : Addr} {Ts : List Addr} {H H1 H2 : Hp} (d : Dk2 W C Ts H H1) (s : Wk2 W C H1 H2) : Dk2 W C Ts H H2 := ⟨s.wl, s.tabs d.wl d.tb, d.kp.trans (s.kp.mono fun b hb => by
  rcases List.mem_cons.mp hb with z | z
  · rw [z]; exact List.mem_cons_self
  · rw [List.mem_singleton.mp z]; exact List.mem_cons_of_mem _ List.mem_cons_self)⟩
theorem Dk2.put {W C : Addr} {Ts : List Addr} {H H1 : Hp} {l : Addr} {o : HO} {xs : List V} (d : Dk2 W C Ts H H1) (nl : H l = none) (hl : H1 l = some (.lst xs)) (n : l ≠ W ∧ l ≠ C) : Dk2 W C Ts H (upd H1 l o) :=
  ⟨by obtain ⟨⟨ns, x, y, e, e2, z⟩, ne⟩ := d.wl; exact ⟨⟨ns, x, y, by rw [upd_ne (Ne.symm n.1)]; exact e, by rw [upd_ne (Ne.symm n.2)]; exact e2, z⟩, ne⟩, d.tb.upd (d.tb.lst hl), fun b u e m => by rw [upd_ne (ne_of_none e nl)]; exact d.kp b u e m⟩
theorem Dk2.was {W C : Addr} {Ts : List Addr} {H H1 : Hp} {l : Addr} (d : Dk2 W C Ts H H1) (n : H1 l = none) : H l = none := by
  obtain ⟨n1, n2⟩ := d.wl.new n
  cases e : H l with
  | none => rfl
  | some u =>
    have := d.kp _ _ e fun z => by
      rcases List.mem_cons.mp z with z | z
      · exact n1 z
      · rcases List.mem_cons.mp z with z | z
        · exact n2 z
        · exact d.tb.none n z
    rw [n] at this
    cases this
/-- a while by a measure, its test read once -/
theorem while_at {c : TT} {tb : TS} {D : Ends} {σ : L2.St} {H : Hp} (Pv : L2.St → Hp → Prop) (μ : L2.St → Hp → Nat) (h0 : Pv σ H)
    (hs : ∀ σ H, Pv σ H → c σ H fun b H1 => if b = true then ∃ N : L2.St → Hp → Prop, (∀ σ' H', N σ' H' → ∃ m', m' < μ σ H ∧ (m' = μ σ' H' ∧ Pv σ' H')) ∧ tb { D with nx := N, ct := N, bk := D.nx } σ H1 else D.nx σ H1) : tWhile c tb D σ H := by
  refine ⟨fun m σ H => m = μ σ H ∧ Pv σ H, ⟨_, rfl, h0⟩, ?_⟩
  rintro m σ H ⟨rfl, p⟩
  exact hs σ H p
theorem whN {Pv : L2.St → Hp → Prop} {μ : L2.St → Hp → Nat} {m : Nat} : ∀ σ' H', (Pv σ' H' ∧ μ σ' H' < m) → ∃ m', m' < m ∧ (m' = μ σ' H' ∧ Pv σ' H') := fun σ' H' h => ⟨_, h.2, rfl, h.1⟩
theorem dpInt (K : PySem.W.Frag) (H : Hp) : ∀ xs : List Int, DpAll K H (xs.map V.int) (xs.map PyData.int)
  | [] => .nil
  | x :: r => .cons (.int _) (dpInt K H r)
theorem eqvAllN {xs : List PyData} : PyData.eqvAll xs [] = decide (xs.length = 0) := by cases xs <;> rfl
theorem len64 {n : Nat} (h : n ≤ 100000) : n < sizeLine := Nat.lt_of_le_of_lt h (by decide)
end GX
set_option Elab.async false
set_option linter.all false
set_option maxRecDepth 100000
set_option maxHeartbeats 4000000
/-! Covers as data, and how they stand in the heap; dicts of wires. -/
namespace GX
open PySem PySem.Spec PyProof.Rows L2
theorem Same.was {H H' : Hp} {l : Addr} (s : Same H H') (n : H' l = none) : H l = none := by
  cases e : H l with
  | none => rfl
  | some u => cases ((s _ _ e).symm.trans n)
abbrev Tb := Nat × List Nat
def TbAt (H : Hp) (p : Addr) (t : Tb) : Prop := ∃ c, H p = some (.tup [nV t.1, .ref c]) ∧ H c = some (.tup (t.2.map nV))
theorem TbAt.mono {H H' : Hp} (k : ∀ b xs, H b = some (.tup xs) → H' b = some (.tup xs)) (p : Addr) (t : Tb) (x : TbAt H p t) : TbAt H' p t := by
  obtain ⟨c, h1, h2⟩ := x
  exact ⟨c, k _ _ h1, k _ _ h2⟩
structure CovAt (H : Hp) (a : Addr) (cv : List Tb) (ps : List Addr) : Prop where
  top : H a = some (.tup (ps.map V.ref))
  ts : PtsAt TbAt H ps cv
theorem CovAt.mono {H H' : Hp} {a : Addr} {cv : List Tb} {ps : List Addr} (x : CovAt H a cv ps) (k : ∀ b xs, H b = some (.tup xs) → H' b = some (.tup xs)) : CovAt H' a cv ps := ⟨k _ _ x.top, x.ts.mono (TbAt.mono k)⟩
theorem CovAt.same {H H' : Hp} {a : Addr} {cv : List Tb} {ps : List Addr} (x : CovAt H a cv ps) (s : Same H H') : CovAt H' a cv ps := x.mono fun b xs e => s _ _ e
inductive Need (n : Net) (cv : List Tb) : Nat → Prop
  | out {o : Nat} : o ∈ n.outs → n.many ≤ o → Need n cv o
  | step {t : Tb} {x : Nat} : t ∈ cv → Need n cv t.1 → x ∈ t.2 → n.many ≤ x → Need n cv x
theorem Need.more {n : Net} {cv cv' : List Tb} (s : ∀ t ∈ cv, t ∈ cv') {x : Nat} (h : Need n cv x) : Need n cv' x := by
  induction h with
  | out h1 h2 => exact .out h1 h2
  | step ht _ hx hm ih => exact .step (s _ ht) ih hx hm
structure CovOk (n : Net) (k : Nat) (cv : List Tb) : Prop where
  rise : cv.Pairwise (fun a b => a.1 < b.1)
  gt : ∀ t ∈ cv, n.many ≤ t.1 ∧ t.1 < n.many + n.gates.length
  cut : ∀ t ∈ cv, CutOk n t.1 t.2 ∧ t.2.length ≤ k
  outs : ∀ o ∈ n.outs, n.many ≤ o → ∃ t ∈ cv, t.1 = o
  clo : ∀ t ∈ cv, ∀ x ∈ t.2, n.many ≤ x → ∃ u ∈ cv, u.1 = x
theorem CovOk.len {n : Net} (ok : n.Ok) {k : Nat} {cv : List Tb} (c : CovOk n k cv) : cv.length ≤ 24 := by
  have h1 : (cv.map fun t : Tb => t.1).Nodup := by
    rw [List.nodup_iff_pairwise_ne, List.pairwise_map]
    exact c.rise.imp fun h => Nat.ne_of_lt h
  have := nodup_lt (m := n.many + n.gates.length) h1 fun y hy => by
    obtain ⟨t, ht, rfl⟩ := List.mem_map.mp hy
    exact (c.gt t ht).2
  rw [List.length_map] at this
  have := ok.m8
  have := ok.g16
  omega
/-! ### a dict whose keys are these numbers -/
def nK (x : Nat) : L2.Key := .inl (x : Int)
theorem nK_inj {x y : Nat} (h : nK x = nK y) : x = y := by
  have := Sum.inl.inj h
  omega
def KeysAt (H : Hp) (d : Addr) (S : Nat → Prop) (b : Nat) : Prop := ∃ kvs : List (L2.Key × V), H d = some (.dK kvs) ∧ kvs.length ≤ b ∧ ∀ x : Nat, (valV kvs (nK x)).isSome = true ↔ S x
theorem KeysAt.nil {H : Hp} {d : Addr} (h : H d = some (.dK [])) : KeysAt H d (fun _ => False) 0 := ⟨[], h, Nat.le_refl _, fun x => by rw [valV_nil]; exact ⟨fun z => (by cases z), fun z => z.elim⟩⟩
end GX
set_option Elab.async false
set_option linter.all false
set_option maxRecDepth 100000
set_option maxHeartbeats 4000000
/-! Least cuts, as lists and as masks. -/
namespace GX
open PySem PySem.Spec PyProof.Rows L2
/-! ### what tells -/
theorem Rc.via {n : Net} {st : List Nat} {g a y : Nat} {k : Nat × Nat × Nat} (hg : n.many ≤ g) (hk : n.gates[g - n.many]? = some k) (hp : a = k.2.1 ∨ a = k.2.2) (gs : g ∉ st) (r : Rc n st a n.many y) : Rc n st g n.many y := by
  induction r with
  | here h => exact .step (.here gs) hg hg hk hp h
  | step _ hg' hj hk' hp' hs ih => exact .step ih hg' hj hk' hp' hs
theorem Rc.split {n : Net} {st : List Nat} {g y : Nat} {k : Nat × Nat × Nat} (hk : n.gates[g - n.many]? = some k) (r : Rc n st g n.many y) : y = g ∨ Rc n st k.2.1 n.many y ∨ Rc n st k.2.2 n.many y := by
  induction r with
  | here h => exact .inl rfl
  | @step g' p k' _ hg' hj hk' hp' hs ih =>
    rcases ih with e | h | h
    · subst e
      rw [hk] at hk'
      cases hk'
      rcases hp' with rfl | rfl
      · exact .inr (.inl (.here hs))
      · exact .inr (.inr (.here hs))
    · exact .inr (.inl (.step h hg' hj hk' hp' hs))
    · exact .inr (.inr (.step h hg' hj hk' hp' hs))
theorem sep_gate {n : Net} {st : List Nat} {g : Nat} {k : Nat × Nat × Nat} (hg : n.many ≤ g) (hk : n.gates[g - n.many]? = some k) (gs : g ∉ st) : Sep n g st ↔ (Sep n k.2.1 st ∧ Sep n k.2.2 st) := by
  refine ⟨fun h => ⟨fun y r => h y (r.via hg hk (.inl rfl) gs), fun y r => h y (r.via hg hk (.inr rfl) gs)⟩, fun h y r => ?_⟩
  rcases r.split hk with e | r | r
  · rw [e]; exact hg
  · exact h.1 y r
  · exact h.2 y r
theorem sep_in {n : Net} {w : Nat} {st : List Nat} (h : w ∈ st) : Sep n w st := fun y r => by
  exfalso
  induction r with
  | here z => exact z h
  | step _ _ _ _ _ _ ih => exact ih
theorem sep_input {n : Net} {w : Nat} {st : List Nat} (h : w < n.many) : Sep n w st ↔ w ∈ st := by
  refine ⟨fun s => Classical.not_not.mp fun z => ?_, sep_in⟩
  have := s w (.here z)
  omega
theorem sep_none {n : Net} (ok : n.Ok) : ∀ b w, w ≤ b → w < n.many + n.gates.length → ¬ Sep n w []
  | b, w, hb, hw => fun s => by
    by_cases h : w < n.many
    · exact absurd ((sep_input h).mp s) List.not_mem_nil
    · obtain ⟨k, hk⟩ : ∃ k, n.gates[w - n.many]? = some k := ⟨_, List.getElem?_eq_getElem (by omega)⟩
      have lt := place_lt ok (by omega) hk (.inl rfl)
      cases b with
      | zero => omega
      | succ b => exact sep_none ok b k.2.1 (by omega) (by omega) ((sep_gate (by omega) hk List.not_mem_nil).mp s).1
/-- only wires up to w matter -/
theorem sep_low {n : Net} (ok : n.Ok) {w : Nat} {st st' : List Nat} (h : ∀ x, x ≤ w → x ∈ st → x ∈ st') (s : Sep n w st) : Sep n w st' := fun y r => by
  refine s y ?_
  induction r with
  | here z => exact .here fun z' => z (h _ (Nat.le_refl _) z')
  | step r hg hj hk hp hs ih => exact .step ih hg hj hk hp fun z' => hs (h _ ((Rc.step r hg hj hk hp hs).le ok) z')
/-! ### masks -/
def bitsOf (M : Nat) : List Nat := (List.range (Builtin.Int.intBits ((M : Nat) : Int))).filter fun x => M.testBit x
theorem mem_bits {M x : Nat} : x ∈ bitsOf M ↔ M.testBit x = true := by
  unfold bitsOf
  rw [List.mem_filter, List.mem_range]
  refine ⟨fun h => h.2, fun h => ⟨?_, h⟩⟩
  refine Nat.lt_of_not_le fun hle => ?_
  rw [intBits_le_iff, Int.natAbs_natCast] at hle
  rw [Nat.testBit_lt_two_pow hle] at h
  cases h
theorem bits_rise (M : Nat) : (bitsOf M).Pairwise (· < ·) := List.Pairwise.filter _ List.pairwise_lt_range
theorem bits_nodup (M : Nat) : (bitsOf M).Nodup := (bits_rise M).imp fun h => Nat.ne_of_lt h
theorem bits_inj {M N : Nat} (h : bitsOf M = bitsOf N) : M = N := by
  apply Nat.eq_of_testBit_eq
  intro j
  have : j ∈ bitsOf M ↔ j ∈ bitsOf N := by rw [h]
  rw [mem_bits, mem_bits] at this
  cases e : M.testBit j <;> cases e2 : N.testBit j <;> simp_all
def maskOf (c : List Nat) : Nat := c.foldr (fun x acc => 2 ^ x ||| acc) 0
theorem mask_bit (c : List Nat) (j : Nat) : (maskOf c).testBit j = decide (j ∈ c) := by
  induction c with
  | nil => exact Nat.zero_testBit j
  | cons x r ih =>
    show (2 ^ x ||| maskOf r).testBit j = _
    rw [Nat.testBit_or, ih, Nat.testBit_two_pow]
    rw [Bool.eq_iff_iff, Bool.or_eq_true, decide_eq_true_iff, decide_eq_true_iff, decide_eq_true_iff, List.mem_cons]
    exact ⟨fun h => h.imp Eq.symm id, fun h => h.imp Eq.symm id⟩
theorem bits_mask {c : List Nat} (h : c.Pairwise (· < ·)) : bitsOf (maskOf c) = c := rise_eq (bits_rise _) h fun z => by rw [mem_bits, mask_bit, decide_eq_true_iff]
def Sub (f M : Nat) : Prop := ∀ j, f.testBit j = true → M.testBit j = true
theorem Sub.refl (M : Nat) : Sub M M := fun _ h => h
theorem Sub.trans {a b c : Nat} (h : Sub a b) (g : Sub b c) : Sub a c := fun j x => g j (h j x)
theorem sub_and {f M : Nat} : f &&& M = f ↔ Sub f M := by
  refine ⟨fun h j hj => ?_, fun h => ?_⟩
  · rw [← h, Nat.testBit_and, Bool.and_eq_true] at hj
    exact hj.2
  · apply Nat.eq_of_testBit_eq
    intro j
    rw [Nat.testBit_and]
    cases e : f.testBit j with
    | false => rfl
    | true => rw [h j e]; rfl
theorem Sub.le {f M : Nat} (h : Sub f M) : f ≤ M := by
  rw [← sub_and.mpr h]
  exact Nat.and_le_right
theorem Sub.anti {f M : Nat} (h : Sub f M) (g : Sub M f) : f = M := Nat.le_antisymm h.le g.le
theorem sub_zero {M : Nat} : Sub 0 M := fun j h => by rw [Nat.zero_testBit] at h; cases h
def pop (M : Nat) : Nat := (bitsOf M).length
theorem pop_sub {f M : Nat} (h : Sub f M) : pop f ≤ pop M := nodup_len (bits_nodup f) fun x hx => mem_bits.mpr (h x (mem_bits.mp hx))
theorem sub_or_left (f s : Nat) : Sub f (f ||| s) := fun j h => by rw [Nat.testBit_or, h]; rfl
theorem sub_or_right (f s : Nat) : Sub s (f ||| s) := fun j h => by rw [Nat.testBit_or, h, Bool.or_true]
theorem or_sub {f s M : Nat} (h : Sub f M) (g : Sub s M) : Sub (f ||| s) M := fun j hj => by
  rw [Nat.testBit_or, Bool.or_eq_true] at hj
  exact hj.elim (h j) (g j)
def Tm (n : Net) (w M : Nat) : Prop := Sep n w (bitsOf M)
theorem Tm.more {n : Net} {w M N : Nat} (h : Tm n w M) (s : Sub M N) : Tm n w N := Sep.more h fun z hz => mem_bits.mpr (s z (mem_bits.mp hz))
structure MinT (n : Net) (w M : Nat) : Prop where
  tl : Tm n w M
  min : ∀ f, Sub f M → Tm n w f → f = M
theorem min_ex {n : Net} {w : Nat} : ∀ b M, M ≤ b → Tm n w M → ∃ f, Sub f M ∧ MinT n w f
  | b, M, hb, h => by
    by_cases hm : ∀ f, Sub f M → Tm n w f → f = M
    · exact ⟨M, Sub.refl M, h, hm⟩
    · obtain ⟨f, hf⟩ := Classical.not_forall.mp hm
      obtain ⟨h1, h2⟩ := Classical.not_imp.mp hf
      obtain ⟨h3, h4⟩ := Classical.not_imp.mp h2
      have := h1.le
      cases b with
      | zero => omega
      | succ b =>
        obtain ⟨e, e1, e2⟩ := min_ex b f (by omega) h3
        exact ⟨e, e1.trans h1, e2⟩
theorem tm_zero {n : Net} (ok : n.Ok) {w : Nat} (hw : w < n.many + n.gates.length) : ¬ Tm n w 0 := by
  have : bitsOf 0 = [] := List.eq_nil_iff_forall_not_mem.mpr fun x hx => by
    have := mem_bits.mp hx
    rw [Nat.zero_testBit] at this
    cases this
  unfold Tm
  rw [this]
  exact sep_none ok w w (Nat.le_refl _) hw
/-- no greater wires -/
theorem MinT.low {n : Net} (ok : n.Ok) {w M : Nat} (h : MinT n w M) : ∀ x, M.testBit x = true → x ≤ w := fun x hx => by
  have e : M % 2 ^ (w + 1) = M := h.min _ (fun j hj => by
      rw [Nat.testBit_mod_two_pow, Bool.and_eq_true] at hj
      exact hj.2) (sep_low ok (fun y hy hm => mem_bits.mpr (by
        rw [Nat.testBit_mod_two_pow, decide_eq_true (by omega), Bool.true_and]
        exact mem_bits.mp hm)) h.tl)
  rw [← e, Nat.testBit_mod_two_pow, Bool.and_eq_true] at hx
  have := of_decide_eq_true hx.1
  omega
theorem bit_self (w : Nat) : (2 ^ w).testBit w = true := by rw [Nat.testBit_two_pow]; exact decide_eq_true rfl
theorem tm_self {n : Net} {w M : Nat} (h : M.testBit w = true) : Tm n w M := sep_in (mem_bits.mpr h)
theorem sub_pow {f w : Nat} (h : Sub f (2 ^ w)) : f = 0 ∨ f = 2 ^ w := by
  by_cases e : f.testBit w = true
  · right
    exact h.anti fun j hj => by
      rw [Nat.testBit_two_pow] at hj
      rw [← of_decide_eq_true hj]
      exact e
  · left
    apply Nat.eq_of_testBit_eq
    intro j
    rw [Nat.zero_testBit]
    cases e2 : f.testBit j with
    | false => rfl
    | true =>
      have := h j e2
      rw [Nat.testBit_two_pow] at this
      rw [of_decide_eq_true this] at e
      exact absurd e2 e
theorem min_pow {n : Net} (ok : n.Ok) {w : Nat} (hw : w < n.many + n.gates.length) : MinT n w (2 ^ w) := by
  refine ⟨tm_self (bit_self w), fun f hf ht => ?_⟩
  rcases sub_pow hf with e | e
  · rw [e] at ht
    exact absurd ht (tm_zero ok hw)
  · exact e
theorem min_has {n : Net} {w M : Nat} (h : MinT n w M) (e : M.testBit w = true) : M = 2 ^ w := by
  refine (h.min (2 ^ w) (fun j hj => ?_) (tm_self (bit_self w))).symm
  rw [Nat.testBit_two_pow] at hj
  rw [← of_decide_eq_true hj]
  exact e
theorem pop_pow (w : Nat) : pop (2 ^ w) = 1 := by
  have : bitsOf (2 ^ w) = [w] := rise_eq (bits_rise _) (List.pairwise_singleton _ _) fun z => by
    rw [mem_bits, Nat.testBit_two_pow, decide_eq_true_iff, List.mem_singleton]
    exact eq_comm
  unfold pop
  rw [this]
  rfl
/-- the masks of a wire -/
def ML (n : Net) (k w : Nat) (ms : List Nat) : Prop := ∀ M, M ∈ ms ↔ (MinT n w M ∧ pop M ≤ k ∧ M.testBit w = false)
theorem ML.input {n : Net} {k w : Nat} (h : w < n.many) : ML n k w [] := fun M => ⟨fun z => (by cases z), fun z => by
  have := mem_bits.mp ((sep_input h).mp z.1.tl)
  rw [z.2.2] at this
  cases this⟩
theorem ML.full {n : Net} (ok : n.Ok) {k w : Nat} {ms : List Nat} (hw : w < n.many + n.gates.length) (hk : 1 ≤ k) (h : ML n k w ms) (M : Nat) : M ∈ ms ++ [2 ^ w] ↔ (MinT n w M ∧ pop M ≤ k) := by
  rw [List.mem_append, List.mem_singleton, h]
  constructor
  · rintro (z | rfl)
    · exact ⟨z.1, z.2.1⟩
    · exact ⟨min_pow ok hw, by rw [pop_pow]; exact hk⟩
  · rintro ⟨h1, h2⟩
    cases e : M.testBit w with
    | false => exact .inl ⟨h1, h2, rfl⟩
    | true => exact .inr (min_has h1 e)
/-- what is found for a gate -/
def Found (k : Nat) (fs ss F : List Nat) : Prop := ∀ M, M ∈ F ↔ ∃ f ∈ fs, ∃ s ∈ ss, M = f ||| s ∧ pop M ≤ k
def hasPart (F : List Nat) (M : Nat) : Bool := F.any fun p => decide (0 < p ∧ p ≠ M ∧ p &&& M = p)
theorem hasPart_iff {F : List Nat} {M : Nat} : hasPart F M = true ↔ ∃ p ∈ F, 0 < p ∧ p ≠ M ∧ Sub p M := by
  unfold hasPart
  rw [List.any_eq_true]
  constructor
  · rintro ⟨p, hp, h⟩
    obtain ⟨h1, h2, h3⟩ := of_decide_eq_true h
    exact ⟨p, hp, h1, h2, sub_and.mp h3⟩
  · rintro ⟨p, hp, h1, h2, h3⟩
    exact ⟨p, hp, decide_eq_true ⟨h1, h2, sub_and.mpr h3⟩⟩
theorem gate_found {n : Net} (ok : n.Ok) {k g : Nat} {kk : Nat × Nat × Nat} {fs ss F : List Nat} (hg : n.many ≤ g) (hw : g < n.many + n.gates.length) (hkk : n.gates[g - n.many]? = some kk)
    (hf : ∀ M, M ∈ fs ↔ (MinT n kk.2.1 M ∧ pop M ≤ k)) (hs : ∀ M, M ∈ ss ↔ (MinT n kk.2.2 M ∧ pop M ≤ k)) (hF : Found k fs ss F) : ML n k g (F.filter fun M => !hasPart F M) := by
  have l1 := place_lt ok hg hkk (.inl rfl)
  have l2 := place_lt ok hg hkk (.inr rfl)
  have nog : ∀ M ∈ F, M.testBit g = false := fun M hM => by
    obtain ⟨f, h1, s, h2, rfl, _⟩ := (hF M).mp hM
    rw [Nat.testBit_or]
    cases e1 : f.testBit g with
    | true =>
      have := ((hf f).mp h1).1.low ok g e1
      omega
    | false =>
      cases e2 : s.testBit g with
      | true =>
        have := ((hs s).mp h2).1.low ok g e2
        omega
      | false => rfl
  have tell : ∀ M ∈ F, Tm n g M := fun M hM => by
    have hn : g ∉ bitsOf M := fun z => by
      have := mem_bits.mp z
      rw [nog M hM] at this
      cases this
    obtain ⟨f, h1, s, h2, rfl, _⟩ := (hF M).mp hM
    exact (sep_gate hg hkk hn).mpr ⟨((hf f).mp h1).1.tl.more (sub_or_left f s), ((hs s).mp h2).1.tl.more (sub_or_right f s)⟩
  have below : ∀ M, Tm n g M → M.testBit g = false → pop M ≤ k → ∃ M' ∈ F, Sub M' M := fun M ht hb hp => by
    have hn : g ∉ bitsOf M := fun z => by
      have := mem_bits.mp z
      rw [hb] at this
      cases this
    obtain ⟨t1, t2⟩ := (sep_gate hg hkk hn).mp ht
    obtain ⟨f, f1, f2⟩ := min_ex M M (Nat.le_refl _) t1
    obtain ⟨s, s1, s2⟩ := min_ex M M (Nat.le_refl _) t2
    have hsub := or_sub f1 s1
    exact ⟨f ||| s, (hF _).mpr ⟨f, (hf f).mpr ⟨f2, Nat.le_trans (pop_sub f1) hp⟩, s, (hs s).mpr ⟨s2, Nat.le_trans (pop_sub s1) hp⟩, rfl, Nat.le_trans (pop_sub hsub) hp⟩, hsub⟩
  have popF : ∀ M ∈ F, pop M ≤ k := fun M hM => by
    obtain ⟨_, _, _, _, _, h⟩ := (hF M).mp hM
    exact h
  intro M
  rw [List.mem_filter]
  constructor
  · rintro ⟨hM, hp⟩
    refine ⟨⟨tell M hM, fun f hf ht => Classical.not_not.mp fun ne => ?_⟩, popF M hM, nog M hM⟩
    have fb : f.testBit g = false := by
      cases e : f.testBit g with
      | false => rfl
      | true =>
        have := hf g e
        rw [nog M hM] at this
        cases this
    obtain ⟨M', h1, h2⟩ := below f ht fb (Nat.le_trans (pop_sub hf) (popF M hM))
    have hpart : hasPart F M = true := hasPart_iff.mpr ⟨M', h1, Nat.pos_of_ne_zero fun z => tm_zero ok hw (by rw [← z]; exact tell M' h1), fun z => ne (hf.anti (by rw [← z]; exact h2)), h2.trans hf⟩
    rw [hpart] at hp
    cases hp
  · rintro ⟨hm, hp, hb⟩
    obtain ⟨M', h1, h2⟩ := below M hm.tl hb hp
    have e : M' = M := hm.min M' h2 (tell M' h1)
    rw [e] at h1
    refine ⟨h1, ?_⟩
    cases hh : hasPart F M with
    | false => rfl
    | true =>
      obtain ⟨p, p1, p2, p3, p4⟩ := hasPart_iff.mp hh
      exact absurd (hm.min p p4 (tell p p1)) p3
/-! ### cuts as lists -/
structure LC (n : Net) (k g : Nat) (c : List Nat) : Prop where
  rise : c.Pairwise (· < ·)
  lt : ∀ x ∈ c, x < g
  sep : Sep n g c
  len : c.length ≤ k
  least : ∀ x ∈ c, ¬ Sep n g (c.filter fun y => decide (y ≠ x))
theorem lc_bits {n : Net} (ok : n.Ok) {k g M : Nat} (h : MinT n g M ∧ pop M ≤ k ∧ M.testBit g = false) : LC n k g (bitsOf M) := by
  obtain ⟨h1, h2, h3⟩ := h
  refine ⟨bits_rise M, fun x hx => ?_, h1.tl, h2, fun x hx hs => ?_⟩
  · have e := mem_bits.mp hx
    have := h1.low ok x e
    refine Nat.lt_of_le_of_ne this fun z => ?_
    rw [z, h3] at e
    cases e
  · have hr : ((bitsOf M).filter fun y => decide (y ≠ x)).Pairwise (· < ·) := (bits_rise M).filter _
    have ht : Tm n g (maskOf ((bitsOf M).filter fun y => decide (y ≠ x))) := by
      unfold Tm
      rw [bits_mask hr]
      exact hs
    have e := h1.min _ (fun j hj => by
      rw [mask_bit, decide_eq_true_iff] at hj
      exact mem_bits.mp (List.mem_filter.mp hj).1) ht
    have := mem_bits.mp hx
    rw [← e, mask_bit, decide_eq_true_iff] at this
    exact of_decide_eq_true (List.mem_filter.mp this).2 rfl
theorem bits_lc {n : Net} {k g : Nat} {c : List Nat} (h : LC n k g c) : MinT n g (maskOf c) ∧ pop (maskOf c) ≤ k ∧ (maskOf c).testBit g = false := by
  refine ⟨⟨by unfold Tm; rw [bits_mask h.rise]; exact h.sep, fun f hf ht => ?_⟩, by unfold pop; rw [bits_mask h.rise]; exact h.len, ?_⟩
  · refine Classical.not_not.mp fun ne => ?_
    obtain ⟨x, hx1, hx2⟩ : ∃ x, x ∈ c ∧ f.testBit x = false := by
      refine Classical.not_not.mp fun z => ne (hf.anti fun j hj => ?_)
      rw [mask_bit, decide_eq_true_iff] at hj
      cases e : f.testBit j with
      | true => rfl
      | false => exact absurd ⟨j, hj, e⟩ z
    refine h.least x hx1 (Sep.more ht fun z hz => List.mem_filter.mpr ⟨?_, decide_eq_true fun e => ?_⟩)
    · have := hf z (mem_bits.mp hz)
      rw [mask_bit, decide_eq_true_iff] at this
      exact this
    · have := mem_bits.mp hz
      rw [e, hx2] at this
      cases this
  · rw [mask_bit]
    exact decide_eq_false fun z => absurd (h.lt g z) (Nat.lt_irrefl _)
/-- the cuts of a gate, in order -/
abbrev lexN (a b : List Nat) : Bool := HT.lexLt (a.map fun n : Nat => (n : Int)) (b.map fun n : Nat => (n : Int))
structure CutsAre (n : Net) (k g : Nat) (cs : List (List Nat)) : Prop where
  mem : ∀ c, c ∈ cs ↔ LC n k g c
  nd : cs.Nodup
  srt : cs.Pairwise fun a b => lexN b a = false
theorem lex_tri : ∀ a b : List Nat, lexN a b = false → lexN b a = false → a = b
  | [], [], _, _ => rfl
  | [], y :: b, h, _ => by cases h
  | x :: a, [], _, h => by cases h
  | x :: a, y :: b, h1, h2 => by
    have h1' : (if ((x : Nat) : Int) = ((y : Nat) : Int) then lexN a b else decide (((x : Nat) : Int) < ((y : Nat) : Int))) = false := h1
    have h2' : (if ((y : Nat) : Int) = ((x : Nat) : Int) then lexN b a else decide (((y : Nat) : Int) < ((x : Nat) : Int))) = false := h2
    by_cases e : x = y
    · subst e
      rw [if_pos rfl] at h1' h2'
      rw [lex_tri a b h1' h2']
    · rw [if_neg (by omega)] at h1' h2'
      have := of_decide_eq_false h1'
      have := of_decide_eq_false h2'
      omega
theorem lex_uniq : ∀ {l m : List (List Nat)}, l.Nodup → m.Nodup → l.Pairwise (fun a b => lexN b a = false) → m.Pairwise (fun a b => lexN b a = false) → (∀ c, c ∈ l ↔ c ∈ m) → l = m
  | [], m, _, _, _, _, h => (List.eq_nil_iff_forall_not_mem.mpr fun x hx => by cases (h x).mpr hx).symm
  | x :: l, [], _, _, _, _, h => by cases (h x).mp List.mem_cons_self
  | x :: l, y :: m, n1, n2, s1, s2, h => by
    obtain ⟨a1, a2⟩ := List.pairwise_cons.mp s1
    obtain ⟨b1, b2⟩ := List.pairwise_cons.mp s2
    obtain ⟨c1, c2⟩ := List.nodup_cons.mp n1
    obtain ⟨d1, d2⟩ := List.nodup_cons.mp n2
    have e : x = y := by
      refine Classical.not_not.mp fun ne => ne ?_
      have hx := (List.mem_cons.mp ((h x).mp List.mem_cons_self)).resolve_left ne
      have hy := (List.mem_cons.mp ((h y).mpr List.mem_cons_self)).resolve_left (Ne.symm ne)
      exact lex_tri x y (b1 x hx) (a1 y hy)
    subst e
    rw [lex_uniq c2 d2 a2 b2 fun c => ?_]
    refine ⟨fun hc => ?_, fun hc => ?_⟩
    · exact (List.mem_cons.mp ((h c).mp (List.mem_cons_of_mem _ hc))).resolve_left fun z => c1 (by rw [← z]; exact hc)
    · exact (List.mem_cons.mp ((h c).mpr (List.mem_cons_of_mem _ hc))).resolve_left fun z => d1 (by rw [← z]; exact hc)
theorem CutsAre.uniq {n : Net} {k g : Nat} {cs ds : List (List Nat)} (h : CutsAre n k g cs) (d : CutsAre n k g ds) : cs = ds := lex_uniq h.nd d.nd h.srt d.srt fun c => (h.mem c).trans (d.mem c).symm
theorem cuts_of_masks {n : Net} (ok : n.Ok) {k g : Nat} {ms : List Nat} (h : ML n k g ms) (nd : ms.Nodup) {cs : List (List Nat)} (pm : cs.Perm (ms.map bitsOf)) (srt : cs.Pairwise fun a b => lexN b a = false) : CutsAre n k g cs := by
  refine ⟨fun c => ?_, ?_, srt⟩
  · rw [pm.mem_iff, List.mem_map]
    constructor
    · rintro ⟨M, hM, rfl⟩
      exact lc_bits ok ((h M).mp hM)
    · intro hc
      exact ⟨maskOf c, (h _).mpr (bits_lc hc), bits_mask hc.rise⟩
  · refine pm.nodup_iff.mpr ?_
    rw [List.nodup_iff_pairwise_ne, List.pairwise_map]
    exact (List.nodup_iff_pairwise_ne.mp nd).imp fun h e => h (bits_inj e)
/-! ### taking bits away -/
theorem clow_bit : ∀ b x, x ≤ b → x ≠ 0 → ∃ l, x.testBit l = true ∧ ∀ j, (x &&& (x - 1)).testBit j = (x.testBit j && decide (j ≠ l))
  | 0, x, hb, h0 => absurd (Nat.le_zero.mp hb) h0
  | b + 1, x, hb, h0 => by
    by_cases e : x % 2 = 1
    · refine ⟨0, by rw [Nat.testBit_zero]; exact decide_eq_true e, fun j => ?_⟩
      cases j with
      | zero => rw [Nat.testBit_and, Nat.testBit_zero, Nat.testBit_zero, decide_eq_false (p := (x - 1) % 2 = 1) (by omega), Bool.and_false, decide_eq_false (p := 0 ≠ 0) (fun z => z rfl), Bool.and_false]
      | succ j => rw [Nat.testBit_and, Nat.testBit_add_one, Nat.testBit_add_one, show (x - 1) / 2 = x / 2 by omega, Bool.and_self, decide_eq_true (by omega), Bool.and_true]
    · obtain ⟨l, h1, h2⟩ := clow_bit b (x / 2) (by omega) (by omega)
      refine ⟨l + 1, by rw [Nat.testBit_add_one]; exact h1, fun j => ?_⟩
      cases j with
      | zero => rw [Nat.testBit_and, Nat.testBit_zero, decide_eq_false e, Bool.false_and, Bool.false_and]
      | succ j =>
        rw [Nat.testBit_and, Nat.testBit_add_one, Nat.testBit_add_one, show (x - 1) / 2 = x / 2 - 1 by omega, ← Nat.testBit_and, h2 j]
        congr 1
        exact decide_eq_decide.mpr (by omega)
theorem pop_clow {x : Nat} (h : x ≠ 0) : pop (x &&& (x - 1)) + 1 = pop x := by
  obtain ⟨l, h1, h2⟩ := clow_bit x x (Nat.le_refl _) h
  have hb : ∀ j, j ∈ bitsOf (x &&& (x - 1)) ↔ (j ∈ bitsOf x ∧ j ≠ l) := fun j => by rw [mem_bits, h2, Bool.and_eq_true, decide_eq_true_iff, mem_bits]
  have pm : (l :: bitsOf (x &&& (x - 1))).Perm (bitsOf x) := by
    refine (List.perm_ext_iff_of_nodup (List.nodup_cons.mpr ⟨fun z => ((hb l).mp z).2 rfl, bits_nodup _⟩) (bits_nodup _)).mpr fun j => ?_
    rw [List.mem_cons, hb]
    constructor
    · rintro (rfl | h)
      · exact mem_bits.mpr h1
      · exact h.1
    · intro h
      by_cases e : j = l
      · exact .inl e
      · exact .inr ⟨h, e⟩
  exact pm.length_eq
theorem pop_zero_iff {x : Nat} : pop x = 0 ↔ x = 0 := by
  constructor
  · intro h
    refine Classical.not_not.mp fun z => ?_
    have := pop_clow z
    omega
  · rintro rfl
    have : bitsOf 0 = [] := List.eq_nil_iff_forall_not_mem.mpr fun x hx => by
      have := mem_bits.mp hx
      rw [Nat.zero_testBit] at this
      cases this
    unfold pop
    rw [this]
    rfl
def clows : Nat → Nat → Nat
  | 0, x => x
  | i + 1, x => let y := clows i x; y &&& (y - 1)
theorem clows_pop (x : Nat) : ∀ i, pop (clows i x) = pop x - i
  | 0 => rfl
  | i + 1 => by
    show pop (clows i x &&& (clows i x - 1)) = _
    have ih := clows_pop x i
    by_cases e : clows i x = 0
    · rw [e] at ih ⊢
      have z := pop_zero_iff.mpr (rfl : (0 : Nat) = 0)
      rw [Nat.zero_and]
      omega
    · have := pop_clow e
      omega
theorem fits_iff (x k : Nat) : clows k x = 0 ↔ pop x ≤ k := by
  rw [← pop_zero_iff, clows_pop]
  omega
/-- the next part below -/
theorem next_part : ∀ b p m q, p ≤ b → 0 < p → Sub p m → Sub q m → q < p → q ≤ (p - 1) &&& m
  | 0, p, m, q, hb, h0, _, _, _ => absurd (Nat.le_zero.mp hb) (Nat.ne_of_gt h0)
  | b + 1, p, m, q, hb, h0, hp, hq, hlt => by
    have half : ∀ {x y : Nat}, Sub x y → Sub (x / 2) (y / 2) := fun {x y} h j hj => by
      rw [← Nat.testBit_add_one] at hj ⊢
      exact h _ hj
    have low : ∀ {x y : Nat}, Sub x y → x % 2 ≤ y % 2 := fun {x y} h => by
      have := h 0
      rw [Nat.testBit_zero, Nat.testBit_zero, decide_eq_true_iff, decide_eq_true_iff] at this
      omega
    have hand : ∀ x y : Nat, x &&& y = 2 * (x / 2 &&& y / 2) + (x % 2) * (y % 2) := fun x y => by
      apply Nat.eq_of_testBit_eq
      intro j
      have hm : x % 2 * (y % 2) = 0 ∨ x % 2 * (y % 2) = 1 := by
        rcases Nat.mod_two_eq_zero_or_one x with h | h <;> rcases Nat.mod_two_eq_zero_or_one y with h' | h' <;> rw [h, h'] <;> simp
      cases j with
      | zero =>
        rw [Nat.testBit_and, Nat.testBit_zero, Nat.testBit_zero, Nat.testBit_zero, show (2 * (x / 2 &&& y / 2) + x % 2 * (y % 2)) % 2 = x % 2 * (y % 2) by omega]
        rcases Nat.mod_two_eq_zero_or_one x with h | h <;> rcases Nat.mod_two_eq_zero_or_one y with h' | h' <;> rw [h, h'] <;> rfl
      | succ j => rw [Nat.testBit_and, Nat.testBit_add_one, Nat.testBit_add_one, Nat.testBit_add_one, show (2 * (x / 2 &&& y / 2) + x % 2 * (y % 2)) / 2 = (x / 2 &&& y / 2) by omega, Nat.testBit_and]
    rw [hand]
    by_cases e : p % 2 = 1
    · have h1 := sub_and.mpr (half hp)
      rw [show (p - 1) / 2 = p / 2 by omega, h1]
      have := low hq
      have := low hp
      omega
    · have ih := next_part b (p / 2) (m / 2) (q / 2) (by omega) (by omega) (half hp) (half hq)
      rw [show (p - 1) / 2 = p / 2 - 1 by omega, show (p - 1) % 2 = 1 by omega, Nat.one_mul]
      have h3 := low hq
      by_cases e2 : q / 2 < p / 2
      · have := ih e2
        omega
      · omega
end GX
set_option Elab.async false
set_option linter.all false
set_option maxRecDepth 100000
set_option maxHeartbeats 4000000
/-! t.index(x), t a tuple of whole numbers from 0 on. -/
namespace GX
open PySem PySem.Spec PyProof.Rows L2
end GX
set_option Elab.async false
set_option linter.all false
set_option maxRecDepth 100000
set_option maxHeartbeats 4000000
/-! Tuples held as just made (frozen), so that their methods can be called; and let go again. -/
namespace GX
open PySem PySem.Spec PyProof.Rows L2
/-- a tuple that is known to hold no dict -/
def FzT (H : Hp) (p : Addr) (xs : List V) : Prop := ∃ o : Obj, H p = some (.frz o (.tup xs)) ∧ o.cls = .type "tuple" ∧ o.dict = none
theorem FzT.mono {H H' : Hp} {p : Addr} {xs : List V} (h : FzT H p xs) (k : ∀ u, H p = some u → H' p = some u) : FzT H' p xs := by
  obtain ⟨o, h1, h2⟩ := h
  exact ⟨o, k _ h1, h2⟩
end GX
set_option Elab.async false
set_option linter.all false
set_option maxRecDepth 100000
set_option maxHeartbeats 4000000
/-! Tuples that are held frozen from their making: displays, sums, and dict() of them. -/
namespace GX
open PySem PySem.Spec PyProof.Rows L2
/-- what stands now stood not ahead, if it is none there -/
def Was (H H' : Hp) : Prop := ∀ b, H' b = none → H b = none
theorem Was.refl {H : Hp} : Was H H := fun _ e => e
theorem Was.trans {H H1 H2 : Hp} (a : Was H H1) (b : Was H1 H2) : Was H H2 := fun c e => a c (b c e)
theorem FzT.same {H H' : Hp} {p : Addr} {xs : List V} (h : FzT H p xs) (s : Same H H') : FzT H' p xs := h.mono fun u e => s _ _ e
end GX
set_option Elab.async false
set_option linter.all false
set_option maxRecDepth 100000
set_option maxHeartbeats 4000000
/-! Things of any make, as they stand in the heap, and what is a net of them. -/
namespace GX
open PySem PySem.Spec PyProof.Rows L2
theorem pg_tupK {X : Cx} {K : PySem.W.Frag} {es : List Expr} {k : Nat} {t : TGs} {n : Nat} {pos : _} (h : X.K = K) (hc : X.calm = true) (hh : PGs X es t) (hn : (assignEach es X.env).length = n := by rfl) (hst : (assignEach es X.env).findIdx? (·.1) = none := by rfl) : PG X (.Tuple es k pos) (gTup K n t) := by subst h; exact pg_tup hc hh hn hst
inductive Th where
  | non | bl (b : Bool) | int (i : Int) | str (x : Str) | oth (l : Bool) | tup (ts : List Th)
mutual
inductive Rep (H : Hp) : V → Th → Prop
  | non : Rep H .non .non
  | bl (b : Bool) : Rep H (.bl b) (.bl b)
  | int (i : Int) : Rep H (.int i) (.int i)
  | str (x : Str) : Rep H (.str x) (.str x)
  | lst {a : Addr} {xs : List V} (e : H a = some (.lst xs)) : Rep H (.ref a) (.oth true)
  | dic {a : Addr} {kvs : List (Key × V)} (e : H a = some (.dK kvs)) : Rep H (.ref a) (.oth false)
  | tup {a : Addr} {vs : List V} {ts : List Th} (e : H a = some (.tup vs)) (r : RepAll H vs ts) : Rep H (.ref a) (.tup ts)
inductive RepAll (H : Hp) : List V → List Th → Prop
  | nil : RepAll H [] []
  | cons {v : V} {vs : List V} {t : Th} {ts : List Th} : Rep H v t → RepAll H vs ts → RepAll H (v :: vs) (t :: ts)
end
/-- lists, dicts and tuples stand -/
def KeepT (H H' : Hp) : Prop := ∀ b o, H b = some o → (∀ ps, o ≠ .tbl ps) → H' b = some o
mutual
theorem Rep.mono {H H' : Hp} (k : KeepT H H') : ∀ {v : V} {t : Th}, Rep H v t → Rep H' v t
  | _, _, .non => .non
  | _, _, .bl b => .bl b
  | _, _, .int i => .int i
  | _, _, .str x => .str x
  | _, _, .lst e => .lst (k _ _ e fun _ z => by cases z)
  | _, _, .dic e => .dic (k _ _ e fun _ z => by cases z)
  | _, _, .tup e r => .tup (k _ _ e fun _ z => by cases z) (r.mono k)
theorem RepAll.mono {H H' : Hp} (k : KeepT H H') : ∀ {vs : List V} {ts : List Th}, RepAll H vs ts → RepAll H' vs ts
  | _, _, .nil => .nil
  | _, _, .cons a b => .cons (a.mono k) (b.mono k)
end
theorem KeepT.same {H H' : Hp} (s : Same H H') : KeepT H H' := fun b o e _ => s b o e
theorem KeepT.aft {Ts : List Addr} {H H' : Hp} (t : Tabs Ts H) (a : Aft Ts H H') : KeepT H H' := fun b o e n => a.kp b o e (t.nott e n)
theorem RepAll.length {H : Hp} : ∀ {vs : List V} {ts : List Th}, RepAll H vs ts → vs.length = ts.length
  | _, _, .nil => rfl
  | _, _, .cons _ b => by rw [List.length_cons, List.length_cons, b.length]
theorem RepAll.get {H : Hp} : ∀ {vs : List V} {ts : List Th} {i : Nat} {v : V}, RepAll H vs ts → vs[i]? = some v → ∃ t, ts[i]? = some t ∧ Rep H v t
  | _, _, _, _, .nil, h => by simp at h
  | _, _, 0, _, .cons a _, h => by cases h; exact ⟨_, rfl, a⟩
  | _, _, i + 1, _, .cons _ b, h => RepAll.get (i := i) b h
theorem RepAll.append {H : Hp} : ∀ {vs ws : List V} {ts us : List Th}, RepAll H vs ts → RepAll H ws us → RepAll H (vs ++ ws) (ts ++ us)
  | _, _, _, _, .nil, s => s
  | _, _, _, _, .cons a b, s => .cons a (b.append s)
theorem RepAll.drop {H : Hp} : ∀ {vs : List V} {ts : List Th} (n : Nat), RepAll H vs ts → RepAll H (vs.drop n) (ts.drop n)
  | _, _, 0, r => r
  | _, _, _ + 1, .nil => .nil
  | _, _, n + 1, .cons _ b => b.drop n
theorem RepAll.take {H : Hp} : ∀ {vs : List V} {ts : List Th} (n : Nat), RepAll H vs ts → RepAll H (vs.take n) (ts.take n)
  | _, _, 0, _ => .nil
  | _, _, _ + 1, .nil => .nil
  | _, _, n + 1, .cons a b => .cons a (b.take n)
theorem RepAll.reverse {H : Hp} : ∀ {vs : List V} {ts : List Th}, RepAll H vs ts → RepAll H vs.reverse ts.reverse
  | _, _, .nil => .nil
  | _, _, .cons a b => by
    rw [List.reverse_cons, List.reverse_cons]
    exact b.reverse.append (.cons a .nil)
def tyN : Th → String
  | .non => "NoneType"
  | .bl _ => "bool"
  | .int _ => "int"
  | .str _ => "str"
  | .oth true => "list"
  | .oth false => "dict"
  | .tup _ => "tuple"
theorem tyx {K : PySem.W.Frag} {H : Hp} {v : V} {t : Th} (r : Rep H v t) : TyX K H v (.type (tyN t)) := by
  cases r with
  | non => exact .base .non
  | bl b => exact .base (.bl b)
  | int i => exact .base (.int i)
  | str x => exact .base (.str x)
  | lst e => exact .base (.lst e)
  | dic e => exact .base (.dK e)
  | tup e _ => exact .base (.tup e)
def Th.kInt : Th → Bool
  | .bl _ => true
  | .int _ => true
  | _ => false
def Th.kBool : Th → Bool
  | .bl _ => true
  | _ => false
def Th.kTup : Th → Bool
  | .tup _ => true
  | _ => false
theorem kInt_ok : ∀ t : Th, kitB (tyN t) "int" = some t.kInt
  | .non => by decide +kernel
  | .bl _ => by show kitB "bool" "int" = some true; decide +kernel
  | .int _ => by show kitB "int" "int" = some true; decide +kernel
  | .str _ => by show kitB "str" "int" = some false; decide +kernel
  | .oth true => by show kitB "list" "int" = some false; decide +kernel
  | .oth false => by show kitB "dict" "int" = some false; decide +kernel
  | .tup _ => by show kitB "tuple" "int" = some false; decide +kernel
theorem kBool_ok : ∀ t : Th, kitB (tyN t) "bool" = some t.kBool
  | .non => by decide +kernel
  | .bl _ => by show kitB "bool" "bool" = some true; decide +kernel
  | .int _ => by show kitB "int" "bool" = some false; decide +kernel
  | .str _ => by show kitB "str" "bool" = some false; decide +kernel
  | .oth true => by show kitB "list" "bool" = some false; decide +kernel
  | .oth false => by show kitB "dict" "bool" = some false; decide +kernel
  | .tup _ => by show kitB "tuple" "bool" = some false; decide +kernel
theorem kTup_ok : ∀ t : Th, kitB (tyN t) "tuple" = some t.kTup
  | .non => by decide +kernel
  | .bl _ => by show kitB "bool" "tuple" = some false; decide +kernel
  | .int _ => by show kitB "int" "tuple" = some false; decide +kernel
  | .str _ => by show kitB "str" "tuple" = some false; decide +kernel
  | .oth true => by show kitB "list" "tuple" = some false; decide +kernel
  | .oth false => by show kitB "dict" "tuple" = some false; decide +kernel
  | .tup _ => by show kitB "tuple" "tuple" = some true; decide +kernel
/-! ### what is a net -/
def Th.whole : Th → Bool
  | .int _ => true
  | _ => false
def Th.isB (b : Int) : Th → Bool
  | .int i => decide (0 ≤ i) && decide (i < b)
  | _ => false
def Th.many : Th → Bool
  | .int i => decide (1 ≤ i) && decide (i ≤ 8)
  | _ => false
def Th.gate (w : Int) : Th → Bool
  | .tup [k, a, b] => k.isB 16 && a.isB w && b.isB w
  | _ => false
def gatesFrom (w : Int) : List Th → Bool
  | [] => true
  | t :: r => t.gate w && gatesFrom (w + 1) r
def Th.gates (m : Int) : Th → Bool
  | .tup ts => decide (ts.length ≤ 16) && gatesFrom m ts
  | _ => false
def Th.outs (c : Int) : Th → Bool
  | .tup ts => decide (1 ≤ ts.length) && decide (ts.length ≤ 8) && ts.all (Th.isB c)
  | _ => false
def Th.val : Th → Int
  | .int i => i
  | _ => 0
def Th.len : Th → Nat
  | .tup ts => ts.length
  | _ => 0
end GX
set_option Elab.async false
set_option linter.all false
set_option maxRecDepth 100000
set_option maxHeartbeats 4000000
/-! Things of whole numbers and tuples alone, no longer than n, no deeper than d. -/
namespace GX
open PySem PySem.Spec PyProof.Rows L2
def Th.pl (n : Nat) : Nat → Th → Bool
  | 0, _ => false
  | _ + 1, .int _ => true
  | d + 1, .tup ts => decide (ts.length ≤ n) && ts.all (Th.pl n d)
  | _ + 1, _ => false
/-- tuples stand -/
def KeepU (H H' : Hp) : Prop := ∀ b xs, H b = some (.tup xs) → H' b = some (.tup xs)
theorem KeepU.trans {H H1 H2 : Hp} (a : KeepU H H1) (b : KeepU H1 H2) : KeepU H H2 := fun c xs e => b c xs (a c xs e)
theorem KeepU.same {H H' : Hp} (s : Same H H') : KeepU H H' := fun b xs e => s b _ e
theorem pl_monoAll {H H' : Hp} {n d : Nat} (ih : ∀ v t, Th.pl n d t = true → Rep H v t → Rep H' v t) : ∀ {vs : List V} {ts : List Th}, ts.all (Th.pl n d) = true → RepAll H vs ts → RepAll H' vs ts
  | _, _, _, .nil => .nil
  | _, _, p, .cons a b => by
    rw [List.all_cons, Bool.and_eq_true] at p
    exact .cons (ih _ _ p.1 a) (pl_monoAll ih p.2 b)
theorem pl_mono {H H' : Hp} {n : Nat} (k : KeepU H H') : ∀ (d : Nat) (v : V) (t : Th), Th.pl n d t = true → Rep H v t → Rep H' v t
  | 0, _, _, p, _ => by cases p
  | d + 1, v, t, p, r => by
    cases r with
    | int i => exact .int i
    | @tup a vs ts e ra =>
      have p' : (decide (ts.length ≤ n) && ts.all (Th.pl n d)) = true := p
      rw [Bool.and_eq_true] at p'
      exact .tup (k _ _ e) (pl_monoAll (pl_mono k d) p'.2 ra)
    | _ => cases p
theorem pl_le {n m : Nat} (h : n ≤ m) : ∀ (d : Nat) (t : Th), Th.pl n d t = true → Th.pl m d t = true
  | 0, _, p => by cases p
  | d + 1, t, p => by
    cases t with
    | int i => rfl
    | tup ts =>
      have p' : (decide (ts.length ≤ n) && ts.all (Th.pl n d)) = true := p
      rw [Bool.and_eq_true] at p'
      show (decide (ts.length ≤ m) && ts.all (Th.pl m d)) = true
      rw [Bool.and_eq_true]
      refine ⟨decide_eq_true (Nat.le_trans (of_decide_eq_true p'.1) h), ?_⟩
      rw [List.all_eq_true]
      intro x hx
      exact pl_le h d x (List.all_eq_true.mp p'.2 x hx)
    | _ => cases p
theorem pl_dpAll {K : PySem.W.Frag} {H : Hp} {n d : Nat} (ih : ∀ v t, Th.pl n d t = true → Rep H v t → ∃ x, Dp K H v x ∧ x.canLay0 = true ∧ x.depth ≤ d) :
    ∀ {vs : List V} {ts : List Th}, ts.all (Th.pl n d) = true → RepAll H vs ts → ∃ xs, DpAll K H vs xs ∧ PyData.canLayAll0 xs = true ∧ PyData.depthAll xs ≤ d ∧ xs.length = vs.length
  | _, _, _, .nil => ⟨[], .nil, rfl, Nat.zero_le _, rfl⟩
  | _, _, p, .cons a b => by
    rw [List.all_cons, Bool.and_eq_true] at p
    obtain ⟨x, h1, h2, h3⟩ := ih _ _ p.1 a
    obtain ⟨xs, g1, g2, g3, g4⟩ := pl_dpAll ih p.2 b
    refine ⟨x :: xs, .cons h1 g1, ?_, ?_, by rw [List.length_cons, List.length_cons, g4]⟩
    · show (x.canLay0 && PyData.canLayAll0 xs) = true
      rw [h2, g2]
      rfl
    · show max x.depth (PyData.depthAll xs) ≤ d
      omega
theorem pl_dp {K : PySem.W.Frag} {H : Hp} {n : Nat} : ∀ (d : Nat) (v : V) (t : Th), Th.pl n d t = true → Rep H v t → ∃ x, Dp K H v x ∧ x.canLay0 = true ∧ x.depth ≤ d
  | 0, v, t, p, r => by cases p
  | d + 1, v, t, p, r => by
    cases r with
    | int i => exact ⟨.int i, .int i, rfl, Nat.zero_le _⟩
    | @tup a vs ts e ra =>
      have p' : (decide (ts.length ≤ n) && ts.all (Th.pl n d)) = true := p
      rw [Bool.and_eq_true] at p'
      obtain ⟨xs, g1, g2, g3, _⟩ := pl_dpAll (pl_dp d) p'.2 ra
      exact ⟨.tuple xs, .tup (SqT.of e) g1, g2, Nat.succ_le_succ g3⟩
    | _ => cases p
/-- things of the values: whole numbers and tuples -/
def Pl (n d : Nat) (H : Hp) (v : V) : Prop := ∃ t, Rep H v t ∧ Th.pl n d t = true
def PlAll (n d : Nat) (H : Hp) (vs : List V) : Prop := ∃ ts, RepAll H vs ts ∧ ts.all (Th.pl n d) = true
theorem Pl.mono {n d : Nat} {H H' : Hp} {v : V} (h : Pl n d H v) (k : KeepU H H') : Pl n d H' v := let ⟨t, r, p⟩ := h; ⟨t, pl_mono k d v t p r, p⟩
theorem PlAll.mono {n d : Nat} {H H' : Hp} {vs : List V} (h : PlAll n d H vs) (k : KeepU H H') : PlAll n d H' vs := let ⟨ts, r, p⟩ := h; ⟨ts, pl_monoAll (pl_mono k d) p r, p⟩
theorem all_sub {α : Type} {f : α → Bool} {xs ys : List α} (h : xs.all f = true) (s : ∀ x ∈ ys, x ∈ xs) : ys.all f = true := by
  rw [List.all_eq_true] at h ⊢
  exact fun x hx => h x (s x hx)
theorem PlAll.drop {n d : Nat} {H : Hp} {vs : List V} (i : Nat) (h : PlAll n d H vs) : PlAll n d H (vs.drop i) := let ⟨ts, r, p⟩ := h; ⟨ts.drop i, r.drop i, all_sub p fun _ hx => List.mem_of_mem_drop hx⟩
theorem PlAll.take {n d : Nat} {H : Hp} {vs : List V} (i : Nat) (h : PlAll n d H vs) : PlAll n d H (vs.take i) := let ⟨ts, r, p⟩ := h; ⟨ts.take i, r.take i, all_sub p fun _ hx => List.mem_of_mem_take hx⟩
theorem PlAll.cut {n d : Nat} {H : Hp} {vs : List V} (lo hi : Option Int) (h : PlAll n d H vs) : PlAll n d H (cutV vs lo hi) := by
  unfold cutV
  exact (h.drop _).take _
theorem PlAll.reverse {n d : Nat} {H : Hp} {vs : List V} (h : PlAll n d H vs) : PlAll n d H vs.reverse := let ⟨ts, r, p⟩ := h; ⟨ts.reverse, r.reverse, all_sub p fun _ hx => List.mem_reverse.mp hx⟩
theorem PlAll.append {n d : Nat} {H : Hp} {vs ws : List V} (h : PlAll n d H vs) (g : PlAll n d H ws) : PlAll n d H (vs ++ ws) := let ⟨ts, r, p⟩ := h; let ⟨us, s, q⟩ := g; ⟨ts ++ us, r.append s, by rw [List.all_append, p, q]; rfl⟩
theorem PlAll.one {n d : Nat} {H : Hp} {v : V} (h : Pl n d H v) : PlAll n d H [v] := let ⟨t, r, p⟩ := h; ⟨[t], .cons r .nil, by rw [List.all_cons, p]; rfl⟩
theorem PlAll.get {n d : Nat} {H : Hp} {vs : List V} {i : Nat} {v : V} (h : PlAll n d H vs) (e : vs[i]? = some v) : Pl n d H v := by
  obtain ⟨ts, r, p⟩ := h
  obtain ⟨t, ht, rt⟩ := r.get e
  exact ⟨t, rt, List.all_eq_true.mp p t (List.mem_of_getElem? ht)⟩
theorem PlAll.le {n m d : Nat} {H : Hp} {vs : List V} (h : PlAll n d H vs) (l : n ≤ m) : PlAll m d H vs := let ⟨ts, r, p⟩ := h; ⟨ts, r, by
  rw [List.all_eq_true] at p ⊢
  exact fun x hx => pl_le l d x (p x hx)⟩
theorem Pl.tup {n d : Nat} {H : Hp} {a : Addr} {vs : List V} (e : H a = some (.tup vs)) (hl : vs.length ≤ n) (h : PlAll n d H vs) : Pl n (d + 1) H (.ref a) := by
  obtain ⟨ts, r, p⟩ := h
  refine ⟨.tup ts, .tup e r, ?_⟩
  show (decide (ts.length ≤ n) && ts.all (Th.pl n d)) = true
  rw [p, Bool.and_true]
  exact decide_eq_true (by rw [← r.length]; exact hl)
theorem Pl.int {n d : Nat} {H : Hp} (i : Int) : Pl n (d + 1) H (.int i) := ⟨.int i, .int i, rfl⟩
theorem PlAll.dp {K : PySem.W.Frag} {n d : Nat} {H : Hp} {vs : List V} (h : PlAll n d H vs) : ∃ xs, DpAll K H vs xs ∧ PyData.canLayAll0 xs = true ∧ PyData.depthAll xs ≤ d ∧ xs.length = vs.length := let ⟨_, r, p⟩ := h; pl_dpAll (pl_dp d) p r
end GX
set_option Elab.async false
set_option linter.all false
set_option maxRecDepth 100000
set_option maxHeartbeats 4000000
/-! Dicts whose keys are wires; dicts of covers. -/
namespace GX
open PySem PySem.Spec PyProof.Rows L2
/-- a dict with True for each of these -/
def kvF (F : List Nat) : List (L2.Key × V) := F.map fun x : Nat => (nK x, V.bl true)
theorem kvF_len (F : List Nat) : (kvF F).length = F.length := List.length_map _
theorem kvF_some (F : List Nat) (x : Nat) : (valV (kvF F) (nK x)).isSome = decide (x ∈ F) := by
  rw [← valV_any]
  unfold kvF
  rw [List.any_map, Bool.eq_iff_iff, List.any_eq_true, decide_eq_true_iff]
  constructor
  · rintro ⟨y, hy, e⟩
    have e' : nK y = nK x := of_decide_eq_true e
    rw [← nK_inj e']
    exact hy
  · intro h
    exact ⟨x, h, decide_eq_true rfl⟩
theorem kvF_put {F : List Nat} {x : Nat} (h : x ∉ F) : putK (kvF F) (nK x) (.bl true) = kvF (F ++ [x]) := by
  have : valV (kvF F) (nK x) = none := by
    have := kvF_some F x
    rw [decide_eq_false h] at this
    cases e : valV (kvF F) (nK x) with
    | none => rfl
    | some v => rw [e] at this; cases this
  rw [putK_new _ this]
  unfold kvF
  rw [List.map_append]
  rfl
/-- a cover as data -/
def covD (cv : List Tb) : List PyData := cv.map fun t : Tb => .tuple [.int ((t.1 : Nat) : Int), .tuple ((t.2.map fun n : Nat => (n : Int)).map PyData.int)]
theorem dpCovAll {K : PySem.W.Frag} {H : Hp} : ∀ {qs : List Addr} {cv : List Tb}, PtsAt TbAt H qs cv → DpAll K H (qs.map V.ref) (covD cv)
  | [], cv, x => by
    have : cv = [] := List.length_eq_zero_iff.mp x.1.symm
    subst this
    exact .nil
  | p :: r, [], x => by cases x.1
  | p :: r, t :: cv, x => by
    obtain ⟨c, h1, h2⟩ := x.2 0 p t rfl rfl
    exact .cons (.tup (SqT.of h1) (.cons (.int _) (.cons (.tup (SqT.of h2) (dpNat K _ _)) .nil))) (dpCovAll (K := K) (H := H) (qs := r) (cv := cv) ⟨by simpa using x.1, fun i p' t' e1 e2 => x.2 (i + 1) p' t' (by simpa using e1) (by simpa using e2)⟩)
theorem CovAt.dp {K : PySem.W.Frag} {H : Hp} {a : Addr} {cv : List Tb} {qs : List Addr} (x : CovAt H a cv qs) : Dp K H (.ref a) (.tuple (covD cv)) := .tup (SqT.of x.top) (dpCovAll x.ts)
end GX
set_option Elab.async false
set_option linter.all false
set_option maxRecDepth 100000
set_option maxHeartbeats 4000000
/-! Masks as whole numbers. -/
namespace GX
open PySem PySem.Spec PyProof.Rows L2
theorem ip_and {X : Cx} : PIp X .BitAnd (ipI fun i j => Builtin.bitAnd i j) := by
  intro pins s σ H x y v u Q I r1 r2 h
  obtain ⟨i, j, e1, e2, q⟩ := h
  subst e1; subst e2
  obtain ⟨t, rfl⟩ := r1
  obtain ⟨t', rfl⟩ := r2
  exact iand_int ⟨.int _, H, I.tok _, ⟨_, rfl⟩, q⟩
theorem and_of (a b : Nat) : Builtin.bitAnd ((a : Nat) : Int) ((b : Nat) : Int) = ((a &&& b : Nat) : Int) := by
  rw [bitAnd_pp (Int.natCast_nonneg a) (Int.natCast_nonneg b), Int.toNat_natCast, Int.toNat_natCast]
theorem or_of (a b : Nat) : Builtin.bitOr ((a : Nat) : Int) ((b : Nat) : Int) = ((a ||| b : Nat) : Int) := by
  rw [bitOr_nn (Int.natCast_nonneg a) (Int.natCast_nonneg b), Int.toNat_natCast, Int.toNat_natCast]
theorem and_low (a : Nat) : Builtin.bitAnd ((a : Nat) : Int) (((a : Nat) : Int) - 1) = ((a &&& (a - 1) : Nat) : Int) := by
  cases a with
  | zero => rfl
  | succ a =>
    rw [show (((a + 1 : Nat) : Nat) : Int) - 1 = ((a : Nat) : Int) by omega, and_of]
    rfl
theorem and_next {p M : Nat} (h : 0 < p) : Builtin.bitAnd (((p : Nat) : Int) - 1) ((M : Nat) : Int) = (((p - 1) &&& M : Nat) : Int) := by
  rw [show ((p : Nat) : Int) - 1 = ((p - 1 : Nat) : Int) by omega, and_of]
theorem kvF_again {F : List Nat} {x : Nat} (h : x ∈ F) : putK (kvF F) (nK x) (.bl true) = kvF F := by
  have ha : ((kvF F).any fun kv => decide (kv.1 = nK x)) = true := by
    rw [List.any_eq_true]
    exact ⟨(nK x, .bl true), List.mem_map.mpr ⟨x, h, rfl⟩, decide_eq_true rfl⟩
  unfold putK
  rw [if_pos ha]
  conv => rhs; rw [← List.map_id (kvF F)]
  refine List.map_congr_left fun kv hkv => ?_
  obtain ⟨y, _, rfl⟩ := List.mem_map.mp hkv
  by_cases e : nK y = nK x
  · rw [if_pos e]; rfl
  · rw [if_neg e]; rfl
/-- what is found so far -/
def FoundW (k : Nat) (fs ss : List Nat) (i j : Nat) (F : List Nat) : Prop := ∀ M, M ∈ F ↔ ((∃ f ∈ fs.take i, ∃ s ∈ ss, M = f ||| s ∧ pop M ≤ k) ∨ ∃ s ∈ ss.take j, M = fs.getD i 0 ||| s ∧ pop M ≤ k)
theorem FoundW.zero (k : Nat) (fs ss : List Nat) : FoundW k fs ss 0 0 [] := fun M => ⟨fun h => (by cases h), fun h => by
  rcases h with ⟨f, hf, _⟩ | ⟨s, hs, _⟩
  · cases hf
  · cases hs⟩
theorem mem_take_succ {l : List Nat} {i : Nat} (h : i < l.length) (x : Nat) : x ∈ l.take (i + 1) ↔ (x ∈ l.take i ∨ x = l.getD i 0) := by
  rw [List.take_add_one, List.getElem?_eq_getElem h, Option.toList_some, List.mem_append, List.mem_singleton, List.getD_eq_getElem?_getD, List.getElem?_eq_getElem h]
  rfl
theorem FoundW.row {k : Nat} {fs ss : List Nat} {i : Nat} {F : List Nat} (hi : i < fs.length) (h : FoundW k fs ss i ss.length F) : FoundW k fs ss (i + 1) 0 F := fun M => by
  rw [h M, List.take_length]
  constructor
  · rintro (⟨f, hf, r⟩ | r)
    · exact .inl ⟨f, (mem_take_succ hi f).mpr (.inl hf), r⟩
    · exact .inl ⟨_, (mem_take_succ hi _).mpr (.inr rfl), r⟩
  · rintro (⟨f, hf, r⟩ | ⟨s, hs, _⟩)
    · rcases (mem_take_succ hi f).mp hf with hf | rfl
      · exact .inl ⟨f, hf, r⟩
      · exact .inr r
    · cases hs
theorem FoundW.no {k : Nat} {fs ss : List Nat} {i j : Nat} {F : List Nat} (hj : j < ss.length) (h : FoundW k fs ss i j F) (np : ¬ pop (fs.getD i 0 ||| ss.getD j 0) ≤ k) : FoundW k fs ss i (j + 1) F := fun M => by
  rw [h M]
  constructor
  · rintro (r | ⟨s, hs, r⟩)
    · exact .inl r
    · exact .inr ⟨s, (mem_take_succ hj s).mpr (.inl hs), r⟩
  · rintro (r | ⟨s, hs, rfl, r2⟩)
    · exact .inl r
    · rcases (mem_take_succ hj s).mp hs with hs | rfl
      · exact .inr ⟨s, hs, rfl, r2⟩
      · exact absurd r2 np
theorem FoundW.yes {k : Nat} {fs ss : List Nat} {i j : Nat} {F F' : List Nat} (hj : j < ss.length) (h : FoundW k fs ss i j F) (np : pop (fs.getD i 0 ||| ss.getD j 0) ≤ k) (hF : ∀ M, M ∈ F' ↔ (M ∈ F ∨ M = fs.getD i 0 ||| ss.getD j 0)) : FoundW k fs ss i (j + 1) F' := fun M => by
  rw [hF M, h M]
  constructor
  · rintro ((r | ⟨s, hs, r⟩) | rfl)
    · exact .inl r
    · exact .inr ⟨s, (mem_take_succ hj s).mpr (.inl hs), r⟩
    · exact .inr ⟨_, (mem_take_succ hj _).mpr (.inr rfl), rfl, np⟩
  · rintro (r | ⟨s, hs, rfl, r2⟩)
    · exact .inl (.inl r)
    · rcases (mem_take_succ hj s).mp hs with hs | rfl
      · exact .inl (.inr ⟨s, hs, rfl, r2⟩)
      · exact .inr rfl
theorem FoundW.all {k : Nat} {fs ss F : List Nat} (h : FoundW k fs ss fs.length 0 F) : Found k fs ss F := fun M => by
  rw [h M, List.take_length]
  constructor
  · rintro (r | ⟨s, hs, _⟩)
    · exact r
    · cases hs
  · exact fun r => .inl r
theorem or_lt23 {a b : Nat} (h : a < 2 ^ 23) (g : b < 2 ^ 23) : a ||| b < 2 ^ 23 := Nat.or_lt_two_pow h g
theorem nodup_lt23 {F : List Nat} (nd : F.Nodup) (h : ∀ M ∈ F, M < 2 ^ 23) : F.length < sizeLine := by
  have := nd.length_le_of_subset (l₂ := List.range (2 ^ 23)) fun x hx => List.mem_range.mpr (h x hx)
  rw [List.length_range] at this
  exact Nat.lt_of_le_of_lt this (by decide)
end GX
namespace GX
open PySem PySem.Spec PyProof.Rows L2
theorem bits_small {M : Nat} (h : M < 2 ^ 23) : Builtin.Int.intBits ((M : Nat) : Int) ≤ 10000 := by
  refine Nat.le_trans (m := 23) ?_ (by decide)
  rw [intBits_le_iff, Int.natAbs_natCast]
  exact h
end GX
namespace GX
open PySem PySem.Spec PyProof.Rows L2
theorem putK_le (kvs : List (L2.Key × V)) (k : L2.Key) (v : V) : (putK kvs k v).length ≤ kvs.length + 1 := by
  unfold putK
  by_cases h : (kvs.any fun kv => decide (kv.1 = k)) = true
  · rw [if_pos h, List.length_map]
    omega
  · rw [if_neg h, List.length_append]
    exact Nat.le_refl _
theorem mem_take_lt {ws : List Nat} (r : ws.Pairwise (· < ·)) {i y : Nat} (hi : i < ws.length) (hy : y ∈ ws) (h : y < ws.getD i 0) : y ∈ ws.take i := by
  obtain ⟨j, hj, rfl⟩ := List.mem_iff_getElem.mp hy
  have e : ws.getD i 0 = ws[i] := by rw [List.getD_eq_getElem?_getD, List.getElem?_eq_getElem hi]; rfl
  rw [e] at h
  refine List.mem_take_iff_getElem.mpr ⟨j, ?_, rfl⟩
  by_cases hji : j < i
  · omega
  · by_cases he : i = j
    · subst he
      omega
    · have := List.pairwise_iff_getElem.mp r i j hi hj (by omega)
      omega
theorem not_mem_take {ws : List Nat} (r : ws.Pairwise (· < ·)) {i y : Nat} (hi : i < ws.length) (hy : y ∈ ws.take i) : y < ws.getD i 0 := by
  obtain ⟨j, hj, rfl⟩ := List.mem_take_iff_getElem.mp hy
  have e : ws.getD i 0 = ws[i] := by rw [List.getD_eq_getElem?_getD, List.getElem?_eq_getElem hi]; rfl
  rw [e]
  exact List.pairwise_iff_getElem.mp r j i (by omega) hi (by omega)
/-- the cuts of a wire, as they lie in the dict -/
def CutsIn (n : Net) (k : Nat) (H : Hp) (kvs : List (L2.Key × V)) (x : Nat) : Prop := ∃ (p : Addr) (ms : List Nat), valV kvs (nK x) = some (.ref p) ∧ H p = some (.lst (ms.map nV)) ∧ ML n k x ms ∧ ms.Nodup
theorem CutsIn.mono {n : Net} {k x : Nat} {H H' : Hp} {kvs : List (L2.Key × V)} (h : CutsIn n k H kvs x) (m : ∀ b zs, H b = some (.lst zs) → H' b = some (.lst zs)) : CutsIn n k H' kvs x := by
  obtain ⟨p, ms, h1, h2, h3⟩ := h
  exact ⟨p, ms, h1, m _ _ h2, h3⟩
theorem CutsIn.put {n : Net} {k x y : Nat} {H : Hp} {kvs : List (L2.Key × V)} {v : V} (h : CutsIn n k H kvs x) (ne : x ≠ y) : CutsIn n k H (putK kvs (nK y) v) x := by
  obtain ⟨p, ms, h1, h2, h3⟩ := h
  exact ⟨p, ms, by rw [valV_put, if_neg (fun e => ne (nK_inj e))]; exact h1, h2, h3⟩
theorem ML.lt23 {n : Net} (ok : n.Ok) {k w M : Nat} {ms : List Nat} (hw : w < n.many + n.gates.length) (h : ML n k w ms) (hM : M ∈ ms) : 0 < M ∧ M < 2 ^ 23 := by
  obtain ⟨h1, h2, h3⟩ := (h M).mp hM
  have m8 := ok.m8
  have g16 := ok.g16
  refine ⟨Nat.pos_of_ne_zero fun z => tm_zero ok hw (by rw [← z]; exact h1.tl), ?_⟩
  refine Nat.lt_pow_two_of_testBit M fun j hj => ?_
  cases e : M.testBit j with
  | false => rfl
  | true =>
    have := h1.low ok j e
    have e2 : j = w := by omega
    rw [e2, h3] at e
    cases e
theorem pow_lt23 {x : Nat} (h : x < 23) : 0 < 2 ^ x ∧ 2 ^ x < 2 ^ 23 := ⟨Nat.two_pow_pos x, Nat.pow_lt_pow_right (by decide) h⟩
end GX
namespace GX
open PySem PySem.Spec PyProof.Rows L2
/-- with two wires a gate is told: so it has a least cut -/
theorem ML.some_ {n : Net} (ok : n.Ok) {k g : Nat} {kk : Nat × Nat × Nat} {ms : List Nat} (hk : 2 ≤ k) (hg : n.many ≤ g) (hkk : n.gates[g - n.many]? = some kk) (h : ML n k g ms) : ms ≠ [] := by
  have l1 := place_lt ok hg hkk (.inl rfl)
  have l2 := place_lt ok hg hkk (.inr rfl)
  have bit : ∀ j, (2 ^ kk.2.1 ||| 2 ^ kk.2.2).testBit j = true ↔ (j = kk.2.1 ∨ j = kk.2.2) := fun j => by
    rw [Nat.testBit_or, Nat.testBit_two_pow, Nat.testBit_two_pow, Bool.or_eq_true, decide_eq_true_iff, decide_eq_true_iff]
    omega
  have ht : Tm n g (2 ^ kk.2.1 ||| 2 ^ kk.2.2) := sep_first hg hkk fun z hz => mem_bits.mpr ((bit z).mpr hz)
  obtain ⟨f, f1, f2⟩ := min_ex _ _ (Nat.le_refl _) ht
  have hp : pop (2 ^ kk.2.1 ||| 2 ^ kk.2.2) ≤ 2 := by
    have := (bits_nodup (2 ^ kk.2.1 ||| 2 ^ kk.2.2)).length_le_of_subset (l₂ := [kk.2.1, kk.2.2]) fun x hx => by
      rcases (bit x).mp (mem_bits.mp hx) with e | e
      · rw [e]; exact List.mem_cons_self
      · rw [e]; exact List.mem_cons_of_mem _ List.mem_cons_self
    exact this
  have hm : f ∈ ms := (h f).mpr ⟨f2, Nat.le_trans (pop_sub f1) (by omega), by
    cases e : f.testBit g with
    | false => rfl
    | true =>
      rcases (bit g).mp (f1 g e) with e | e <;> omega⟩
  exact fun z => by
    rw [z] at hm
    cases hm
end GX
set_option Elab.async false
set_option linter.all false
set_option maxRecDepth 100000
set_option maxHeartbeats 4000000
/-! Slices of tuples and tuples put together, whatever object they are. -/
namespace GX
open PySem PySem.Spec PyProof.Rows L2
theorem catA_any {K : PySem.W.Frag} {x y : V} {H : Hp} {Q : VK} {a b : Addr} {xs ys : List V} (ex : x = .ref a) (ey : y = .ref b) (hx : H a = some (.tup xs)) (hy : H b = some (.tup ys)) (hl : xs.length + ys.length ≤ sizeLine) (h : ∀ p H', Same H H' → H' p = some (.tup (xs ++ ys)) → Q (.ref p) H') : rCatA K x y H Q := by
  refine ⟨a, b, xs, ys, ex, ey, SqT.of hx, SqT.of hy, hl, fun e => h b H (Same.refl _) (by rw [e, List.nil_append]; exact hy), fun _ e => h a H (Same.refl _) (by rw [e, List.append_nil]; exact hx), fun _ _ p np => h p _ (Same.new np) upd_same⟩
end GX
set_option Elab.async false
set_option linter.all false
set_option maxRecDepth 100000
set_option maxHeartbeats 4000000
/-! A net that stands in the heap, as a thing. -/
namespace GX
open PySem PySem.Spec PyProof.Rows L2
def thN (n : Nat) : Th := .int (n : Int)
def thG (g : Nat × Nat × Nat) : Th := .tup [thN g.1, thN g.2.1, thN g.2.2]
def thNet (n : Net) : Th := .tup [thN n.many, .tup (n.gates.map thG), .tup (n.outs.map thN)]
theorem rep_ns {H : Hp} : ∀ (os : List Nat), RepAll H (os.map nV) (os.map thN)
  | [] => .nil
  | o :: r => .cons (.int _) (rep_ns r)
theorem GatesAt.tail {H : Hp} {p : Addr} {ps : List Addr} {g : Nat × Nat × Nat} {gs : List (Nat × Nat × Nat)} (x : GatesAt H (p :: ps) (g :: gs)) : GatesAt H ps gs :=
  ⟨by have := x.1; simpa using this, fun i p g e1 e2 => x.2 (i + 1) p g e1 e2⟩
theorem rep_gs {H : Hp} : ∀ (ps : List Addr) (gs : List (Nat × Nat × Nat)), GatesAt H ps gs → RepAll H (ps.map V.ref) (gs.map thG)
  | [], [], _ => .nil
  | [], _ :: _, x => by have := x.1; simp at this
  | _ :: _, [], x => by have := x.1; simp at this
  | p :: ps, g :: gs, x => .cons (.tup (x.2 0 p g rfl rfl) (.cons (.int _) (.cons (.int _) (.cons (.int _) .nil)))) (rep_gs ps gs x.tail)
theorem NetAt.rep {H : Hp} {a g o : Addr} {n : Net} {ps : List Addr} (N : NetAt H a n g o ps) : Rep H (.ref a) (thNet n) :=
  .tup N.top (.cons (.int _) (.cons (.tup N.gt (rep_gs _ _ N.gs)) (.cons (.tup N.ot (rep_ns _)) .nil)))
theorem all_pl {α : Type} {n d : Nat} {f : α → Th} {xs : List α} (h : ∀ x ∈ xs, Th.pl n d (f x) = true) : (xs.map f).all (Th.pl n d) = true := by
  rw [List.all_eq_true]
  intro x hx
  obtain ⟨y, hy, rfl⟩ := List.mem_map.mp hx
  exact h y hy
theorem Net.Ok.pl {n : Net} (ok : n.Ok) : Th.pl 16 4 (thNet n) = true := by
  have e1 : Th.pl 16 3 (.tup (n.gates.map thG)) = true := by
    show (decide ((n.gates.map thG).length ≤ 16) && (n.gates.map thG).all (Th.pl 16 2)) = true
    rw [decide_eq_true (by rw [List.length_map]; exact ok.g16), all_pl fun _ _ => rfl]
    rfl
  have e2 : Th.pl 16 3 (.tup (n.outs.map thN)) = true := by
    show (decide ((n.outs.map thN).length ≤ 16) && (n.outs.map thN).all (Th.pl 16 2)) = true
    rw [decide_eq_true (by rw [List.length_map]; have := ok.o8; omega), all_pl fun _ _ => rfl]
    rfl
  show (decide (3 ≤ 16) && (true && (Th.pl 16 3 (.tup (n.gates.map thG)) && (Th.pl 16 3 (.tup (n.outs.map thN)) && true)))) = true
  rw [e1, e2]
  rfl
end GX
set_option Elab.async false
set_option linter.all false
set_option maxRecDepth 100000
set_option maxHeartbeats 4000000
/-! The worth of a wire where some wires are held. -/
namespace GX
open PySem PySem.Spec PyProof.Rows L2
def gw (k a b : Nat) : Nat := k / 2 ^ (a + 2 * b) % 2
/-- where a wire stands -/
def ixOf (x : Nat) : List Nat → Nat
  | [] => 0
  | y :: r => if y = x then 0 else ixOf x r + 1
def bitIn (ws : List Nat) (r x : Nat) : Nat := r / 2 ^ ixOf x ws % 2
/-- what a wire has, by those ahead -/
def valOf (n : Net) (ws : List Nat) (r : Nat) (acc : List Nat) (x : Nat) : Nat :=
  if x ∈ ws then bitIn ws r x else if x < n.many then 0 else match n.gates[x - n.many]? with
    | some k => gw k.1 (acc.getD k.2.1 0) (acc.getD k.2.2 0)
    | none => 0
def evl (n : Net) (ws : List Nat) (r : Nat) : Nat → List Nat
  | 0 => []
  | m + 1 => evl n ws r m ++ [valOf n ws r (evl n ws r m) m]
def ev (n : Net) (ws : List Nat) (r x : Nat) : Nat := valOf n ws r (evl n ws r x) x
/-- a content -/
def contOf (n : Net) (ws : List Nat) (w : Nat) : List Nat := (List.range (2 ^ ws.length)).map fun r => ev n ws r w
end GX
set_option Elab.async false
set_option linter.all false
set_option maxRecDepth 100000
set_option maxHeartbeats 4000000
/-! Contents with a place more, or one less. -/
namespace GX
open PySem PySem.Spec PyProof.Rows L2
def del (p n : Nat) : Nat := n / (2 * 2 ^ p) * 2 ^ p + n % 2 ^ p
/-- with a place more -/
def wd (xs : List Nat) (p : Nat) : List Nat := (List.range (2 * xs.length)).map fun n => xs.getD (del p n) 0
end GX
set_option Elab.async false
set_option linter.all false
set_option maxRecDepth 100000
set_option maxHeartbeats 4000000
/-! Lists of tuples of whole numbers, sorted. -/
namespace GX
open PySem PySem.Spec PyProof.Rows L2
def natV : V → Nat
  | .int i => i.toNat
  | _ => 0
/-- the whole numbers of a tuple -/
def tupN (H : Hp) : V → List Nat
  | .ref t => match H t with
    | some (.tup xs) => xs.map natV
    | _ => []
  | _ => []
theorem tupN_at {H : Hp} {t : Addr} {c : List Nat} (h : H t = some (.tup (c.map nV))) : tupN H (.ref t) = c := by
  show (match H t with | some (HO.tup xs) => xs.map natV | _ => []) = c
  rw [h]
  show (c.map nV).map natV = c
  rw [List.map_map]
  conv => rhs; rw [← List.map_id c]
  refine List.map_congr_left fun x _ => ?_
  show ((x : Nat) : Int).toNat = x
  exact Int.toNat_natCast x
abbrev TupsAt (H : Hp) (qs : List Addr) (cs : List (List Nat)) : Prop := RefsAt (fun c : List Nat => c.map nV) H qs cs
theorem TupsAt.map {H : Hp} : ∀ {qs : List Addr} {cs : List (List Nat)}, TupsAt H qs cs → (qs.map V.ref).map (tupN H) = cs
  | [], cs, h => (List.length_eq_zero_iff.mp h.1.symm).symm
  | q :: qs, [], h => by cases h.1
  | q :: qs, c :: cs, h => by
    have h1 := h.2 0 q c rfl rfl
    have h2 : TupsAt H qs cs := ⟨Nat.succ.inj h.1, fun i p x e1 e2 => h.2 (i + 1) p x e1 e2⟩
    show tupN H (.ref q) :: _ = _
    rw [tupN_at h1, TupsAt.map h2]
theorem TupsAt.all {H : Hp} {qs : List Addr} {cs : List (List Nat)} (h : TupsAt H qs cs) {x : V} (hx : x ∈ qs.map V.ref) : ∃ t c, x = .ref t ∧ c ∈ cs ∧ H t = some (.tup (c.map nV)) := by
  obtain ⟨i, hi, e⟩ := List.mem_iff_getElem.mp hx
  obtain ⟨t, c, e1, e2, e3⟩ := h.at_ (i := i) (v := x) (by rw [List.getElem?_eq_getElem hi, e])
  exact ⟨t, c, e1, List.mem_of_getElem? e2, e3⟩
/-- sorted: the tuples again -/
theorem tups_sorted {H : Hp} {qs : List Addr} {cs : List (List Nat)} (h : TupsAt H qs cs) {ys : List V} (srt : SrtO.Srtd (fun x y => HT.lexLt ((tupN H x).map fun n : Nat => (n : Int)) ((tupN H y).map fun n : Nat => (n : Int))) ys) (pm : ys.Perm (qs.map V.ref)) :
    ∃ (rs : List Addr) (ds : List (List Nat)), ys = rs.map V.ref ∧ TupsAt H rs ds ∧ ds.Perm cs ∧ ds.Pairwise fun a b => lexN b a = false := by
  have hall : ∀ y ∈ ys, ∃ t c, y = .ref t ∧ c ∈ cs ∧ H t = some (.tup (c.map nV)) := fun y hy => h.all (pm.mem_iff.mp hy)
  have mk : ∀ zs : List V, (∀ y ∈ zs, ∃ t c, y = .ref t ∧ c ∈ cs ∧ H t = some (.tup (c.map nV))) → ∃ rs : List Addr, zs = rs.map V.ref ∧ TupsAt H rs (zs.map (tupN H)) := by
    intro zs
    induction zs with
    | nil => exact fun _ => ⟨[], rfl, RefsAt.nil _ _⟩
    | cons y zs ih =>
      intro hz
      obtain ⟨t, c, rfl, _, ht⟩ := hz y List.mem_cons_self
      obtain ⟨rs, e, hr⟩ := ih fun y hy => hz y (List.mem_cons_of_mem _ hy)
      refine ⟨t :: rs, by rw [e]; rfl, ⟨congrArg Nat.succ hr.1, fun i p x e1 e2 => ?_⟩⟩
      cases i with
      | zero =>
        cases e1
        have e2' : some (tupN H (.ref t)) = some x := e2
        rw [tupN_at ht] at e2'
        cases e2'
        exact ht
      | succ i => exact hr.2 i p x e1 e2
  obtain ⟨rs, e, hr⟩ := mk ys hall
  refine ⟨rs, ys.map (tupN H), e, hr, ?_, ?_⟩
  · have := pm.map (tupN H)
    rw [TupsAt.map h] at this
    exact this
  · exact List.pairwise_map.mpr srt
end GX
set_option Elab.async false
set_option linter.all false
set_option maxRecDepth 100000
set_option maxHeartbeats 4000000
/-! All sets of some wires; the least that tell among them. -/
namespace GX
open PySem PySem.Spec PyProof.Rows L2
end GX
namespace GX
open PySem PySem.Spec PyProof.Rows L2
end GX
namespace GX
open PySem PySem.Spec PyProof.Rows L2
def tupsD (cs : List (List Nat)) : List PyData := cs.map fun c : List Nat => .tuple ((c.map fun n : Nat => (n : Int)).map PyData.int)
theorem dpTups {K : PySem.W.Frag} {H : Hp} : ∀ {qs : List Addr} {cs : List (List Nat)}, TupsAt H qs cs → DpAll K H (qs.map V.ref) (tupsD cs)
  | [], cs, x => by
    have : cs = [] := List.length_eq_zero_iff.mp x.1.symm
    subst this
    exact .nil
  | p :: r, [], x => by cases x.1
  | p :: r, c :: cs, x => by
    have h1 := x.2 0 p c rfl rfl
    exact .cons (.tup (SqT.of h1) (dpNat K _ _)) (dpTups (K := K) (H := H) (qs := r) (cs := cs) ⟨by simpa using x.1, fun i p' t' e1 e2 => x.2 (i + 1) p' t' (by simpa using e1) (by simpa using e2)⟩)
end GX
namespace GX
open PySem PySem.Spec PyProof.Rows L2
/-- a least cut lies within each that tells -/
theorem lc_within {n : Net} (ok : n.Ok) {k g : Nat} {xs : List Nat} (ris : xs.Pairwise (· < ·)) (lt : ∀ x ∈ xs, x < g) (sep : Sep n g xs) (hl : xs.length ≤ k) : ∃ c, LC n k g c ∧ ∀ x ∈ c, x ∈ xs := by
  have hb := bits_mask ris
  have ht : Tm n g (maskOf xs) := by
    unfold Tm
    rw [hb]
    exact sep
  obtain ⟨f, f1, f2⟩ := min_ex (maskOf xs) (maskOf xs) (Nat.le_refl _) ht
  have hp : pop f ≤ k := Nat.le_trans (pop_sub f1) (by unfold pop; rw [hb]; exact hl)
  have fg : f.testBit g = false := by
    cases e : f.testBit g with
    | false => rfl
    | true =>
      have h1 := f1 g e
      rw [mask_bit, decide_eq_true_iff] at h1
      exact absurd (lt g h1) (Nat.lt_irrefl _)
  refine ⟨bitsOf f, lc_bits ok ⟨f2, hp, fg⟩, fun x hx => ?_⟩
  have h1 := f1 x (mem_bits.mp hx)
  rwa [mask_bit, decide_eq_true_iff] at h1
end GX
namespace GX
open PySem PySem.Spec PyProof.Rows L2
end GX
set_option Elab.async false
set_option linter.all false
/-! Comprehensions within comprehensions. -/
namespace GX
open PySem PySem.Spec PyProof.Rows L2
end GX
set_option Elab.async false
set_option linter.all false
set_option maxRecDepth 100000
set_option maxHeartbeats 4000000
namespace GX
open PySem PySem.Spec PyProof.Rows L2
end GX
set_option Elab.async false
set_option linter.all false
set_option maxRecDepth 100000
set_option maxHeartbeats 4000000
/-! Depths in covers; lean covers. -/
namespace GX
open PySem PySem.Spec PyProof.Rows L2
def maxL : List Nat → Nat
  | [] => 0
  | x :: r => max x (maxL r)
theorem le_maxL {xs : List Nat} {x : Nat} (h : x ∈ xs) : x ≤ maxL xs := by
  induction xs with
  | nil => cases h
  | cons y r ih =>
    unfold maxL
    rcases List.mem_cons.mp h with h | h
    · omega
    · have := ih h
      omega
theorem maxL_mem {xs : List Nat} (h : 0 < xs.length) : maxL xs ∈ xs := by
  induction xs with
  | nil => cases h
  | cons y r ih =>
    unfold maxL
    cases r with
    | nil =>
      show max y 0 ∈ _
      rw [Nat.max_eq_left (Nat.zero_le _)]
      exact List.mem_cons_self
    | cons z t =>
      have := ih (Nat.succ_pos _)
      by_cases e : maxL (z :: t) ≤ y
      · rw [Nat.max_eq_left e]
        exact List.mem_cons_self
      · rw [Nat.max_eq_right (by omega)]
        exact List.mem_cons_of_mem _ this
theorem max_eq {xs : List Nat} {m : Int} (hm : m ∈ xs.map fun n : Nat => (n : Int)) (hb : ∀ y ∈ xs.map (fun n : Nat => (n : Int)), y ≤ m) : V.int m = nV (maxL xs) := by
  obtain ⟨x, hx, rfl⟩ := List.mem_map.mp hm
  have h1 := le_maxL hx
  have h2 := hb _ (List.mem_map.mpr ⟨_, maxL_mem (List.length_pos_of_mem hx), rfl⟩)
  show V.int _ = V.int _
  congr 1
  have h2' : ((maxL xs : Nat) : Int) ≤ ((x : Nat) : Int) := h2
  omega
theorem maxL_congr {ws : List Nat} {f g : Nat → Nat} (h : ∀ x ∈ ws, f x = g x) : maxL (ws.map f) = maxL (ws.map g) := by rw [List.map_congr_left h]
/-- depths, table by table -/
def dStep (f : Nat → Nat) (t : Tb) : Nat → Nat := fun x => if x = t.1 then 1 + maxL (t.2.map f) else f x
def dMap (cv : List Tb) : Nat → Nat := cv.foldl dStep (fun _ => 0)
/-- tables rising, their wires lesser -/
structure Ris (cv : List Tb) : Prop where
  rise : cv.Pairwise (fun a b => a.1 < b.1)
  lt : ∀ t ∈ cv, ∀ x ∈ t.2, x < t.1
theorem Ris.init {cv : List Tb} {t : Tb} (h : Ris (cv ++ [t])) : Ris cv ∧ (∀ u ∈ cv, u.1 < t.1) ∧ ∀ x ∈ t.2, x < t.1 := by
  obtain ⟨h1, _, h3⟩ := List.pairwise_append.mp h.rise
  exact ⟨⟨h1, fun u hu => h.lt u (List.mem_append.mpr (.inl hu))⟩, fun u hu => h3 u hu t List.mem_cons_self, h.lt t (List.mem_append.mpr (.inr List.mem_cons_self))⟩
/-- needed or not -/
noncomputable def needB (n : Net) (cv : List Tb) (x : Nat) : Bool := @decide (Need n cv x) (Classical.propDecidable _)
noncomputable def leanOf (n : Net) (cv : List Tb) : List Tb := cv.filter fun t => needB n cv t.1
theorem CovOk.ris {n : Net} {k : Nat} {cv : List Tb} (c : CovOk n k cv) : Ris cv := ⟨c.rise, fun t ht x hx => (c.cut t ht).1.lt x hx⟩
theorem Need.tab {n : Net} {k : Nat} {cv : List Tb} (c : CovOk n k cv) {x : Nat} (h : Need n cv x) : ∃ t ∈ cv, t.1 = x := by
  cases h with
  | out h1 h2 => exact c.outs _ h1 h2
  | step ht _ hx hm => exact c.clo _ ht _ hx hm
end GX
namespace GX
open PySem PySem.Spec PyProof.Rows L2
end GX
set_option Elab.async false
set_option linter.all false
set_option maxRecDepth 100000
set_option maxHeartbeats 4000000
/-! Data with lists or dicts as it stands in the heap, and its text by repr. -/
namespace GX
open PySem PySem.Spec PyProof.Rows L2
def keyD : Key → PyData
  | .inl i => .int i
  | .inr x => .str x
mutual
/-- l: lists may stand in it, else dicts may -/
inductive Rp (l : Bool) (H : Hp) : V → PyData → Prop
  | non : Rp l H .non .none
  | bl (b : Bool) : Rp l H (.bl b) (.bool b)
  | int (i : Int) : Rp l H (.int i) (.int i)
  | str (x : Str) : Rp l H (.str x) (.str x)
  | lst {a : Addr} {xs : List V} {ds : List PyData} (hl : l = true) (e : H a = some (.lst xs)) (r : RpAll l H xs ds) : Rp l H (.ref a) (.list ds)
  | tup {a : Addr} {xs : List V} {ds : List PyData} (e : H a = some (.tup xs)) (r : RpAll l H xs ds) : Rp l H (.ref a) (.tuple ds)
  | dic {a : Addr} {kvs : List (Key × V)} {ps : List (PyData × PyData)} (hl : l = false) (e : H a = some (.dK kvs)) (r : RpKv l H kvs ps) : Rp l H (.ref a) (.dict ps)
inductive RpAll (l : Bool) (H : Hp) : List V → List PyData → Prop
  | nil : RpAll l H [] []
  | cons {v : V} {vs : List V} {d : PyData} {ds : List PyData} : Rp l H v d → RpAll l H vs ds → RpAll l H (v :: vs) (d :: ds)
inductive RpKv (l : Bool) (H : Hp) : List (Key × V) → List (PyData × PyData) → Prop
  | nil : RpKv l H [] []
  | cons {k : Key} {v : V} {kvs : List (Key × V)} {d : PyData} {ps : List (PyData × PyData)} : Rp l H v d → RpKv l H kvs ps → RpKv l H ((k, v) :: kvs) ((keyD k, d) :: ps)
end
mutual
theorem Rp.mono {l : Bool} {H H' : Hp} (k : KeepT H H') : ∀ {v : V} {d : PyData}, Rp l H v d → Rp l H' v d
  | _, _, .non => .non
  | _, _, .bl b => .bl b
  | _, _, .int i => .int i
  | _, _, .str x => .str x
  | _, _, .lst hl e r => .lst hl (k _ _ e fun _ z => by cases z) (r.mono k)
  | _, _, .tup e r => .tup (k _ _ e fun _ z => by cases z) (r.mono k)
  | _, _, .dic hl e r => .dic hl (k _ _ e fun _ z => by cases z) (r.mono k)
theorem RpAll.mono {l : Bool} {H H' : Hp} (k : KeepT H H') : ∀ {vs : List V} {ds : List PyData}, RpAll l H vs ds → RpAll l H' vs ds
  | _, _, .nil => .nil
  | _, _, .cons a b => .cons (a.mono k) (b.mono k)
theorem RpKv.mono {l : Bool} {H H' : Hp} (k : KeepT H H') : ∀ {kvs : List (Key × V)} {ps : List (PyData × PyData)}, RpKv l H kvs ps → RpKv l H' kvs ps
  | _, _, .nil => .nil
  | _, _, .cons a b => .cons (a.mono k) (b.mono k)
end
/-- the thing that such data is -/
def thD : PyData → Th
  | .none => .non
  | .bool b => .bl b
  | .int i => .int i
  | .str x => .str x
  | .list _ => .oth true
  | .dict _ => .oth false
  | .tuple ds => .tup (thDs ds)
where thDs : List PyData → List Th
  | [] => []
  | d :: r => thD d :: thDs r
mutual
theorem Rp.rep {l : Bool} {H : Hp} : ∀ {v : V} {d : PyData}, Rp l H v d → Rep H v (thD d)
  | _, _, .non => by rw [thD]; exact .non
  | _, _, .bl b => by rw [thD]; exact .bl b
  | _, _, .int i => by rw [thD]; exact .int i
  | _, _, .str x => by rw [thD]; exact .str x
  | _, _, .lst _ e _ => by rw [thD]; exact .lst e
  | _, _, .tup e r => by rw [thD]; exact .tup e r.rep
  | _, _, .dic _ e _ => by rw [thD]; exact .dic e
theorem RpAll.rep {l : Bool} {H : Hp} : ∀ {vs : List V} {ds : List PyData}, RpAll l H vs ds → RepAll H vs (thD.thDs ds)
  | _, _, .nil => by rw [thD.thDs]; exact .nil
  | _, _, .cons a b => by rw [thD.thDs]; exact .cons a.rep b.rep
end
/-! ### what the model reads -/
section
variable {X : Cx} {pins : List (Addr × Obj)} {σ : L2.St} {H : Hp} {s : Shared}
theorem pairs_keys {P : Program} {w : World} {es : List DictEntry} {kvs : List (Key × Value)} (p : Pairs (mixKind P w) es kvs) (h : Heap) : ReadsAll h (es.map (·.key)) (kvs.map fun kv => keyD kv.1) [] := by
  induction p with
  | nil => exact .nil
  | cons hk _ _ ih =>
    rcases keyIs_shape hk with ⟨i, tk, e1, e2⟩ | ⟨x, tk, e1, e2⟩
    · rw [List.map_cons, List.map_cons, e1, e2]
      exact ReadsAll.cons (Reads.int i tk) ih
    · rw [List.map_cons, List.map_cons, e1, e2]
      exact ReadsAll.cons (Reads.str x tk) ih
theorem pairs_vals {P : Program} {w : World} : ∀ {es : List DictEntry} {kvs : List (Key × Value)}, Pairs (mixKind P w) es kvs → es.map (·.val) = kvs.map (·.2)
  | _, _, .nil => rfl
  | _, _, .cons _ e r => by rw [List.map_cons, List.map_cons, e, pairs_vals r]
theorem kv_keys {l : Bool} : ∀ {kvs : List (Key × V)} {ps : List (PyData × PyData)} {us : List (Key × Value)}, RpKv l H kvs ps → KV kvs us → us.map (fun kv => keyD kv.1) = ps.map (·.1)
  | _, _, _, .nil, .nil => rfl
  | _, _, _, .cons _ r, .cons k t => by rw [List.map_cons, List.map_cons, kv_keys r t, ← k.1]
/-- lists: no dict in it; dicts: not the table of the modules -/
def Fits (l : Bool) (d : PyData) (as : List Addr) : Prop := (l = true → d.hasDict = false) ∧ (l = false → sysModules ∉ as)
def FitsAll (l : Bool) (ds : List PyData) (as : List Addr) : Prop := (l = true → PyData.hasDictAll ds = false) ∧ (l = false → sysModules ∉ as)
mutual
theorem Rp.reads (I : Inv X pins σ H s) {l : Bool} : ∀ (d : PyData) (v : V) (u : Value), Rp l H v d → RelV v u → ∃ as, Reads s.heap u d as ∧ Fits l d as
  | .none, _, _, h, r => by
    cases h
    cases r
    exact ⟨_, Reads.none, fun _ => by rw [PyData.hasDict], fun _ z => by cases z⟩
  | .bool b, _, _, h, r => by
    cases h
    cases r
    exact ⟨_, Reads.bool b, fun _ => by rw [PyData.hasDict], fun _ z => by cases z⟩
  | .int i, _, _, h, r => by
    cases h
    obtain ⟨t, rfl⟩ := r
    exact ⟨_, Reads.int i t, fun _ => by rw [PyData.hasDict], fun _ z => by cases z⟩
  | .str x, _, _, h, r => by
    cases h
    obtain ⟨t, rfl⟩ := r
    exact ⟨_, Reads.str x t, fun _ => by rw [PyData.hasDict], fun _ z => by cases z⟩
  | .list ds, _, _, h, r => by
    cases h with
    | lst hl e ra =>
      cases r
      obtain ⟨_, its, n, rv, eo⟩ := I.hok _ _ e
      obtain ⟨as, hr, f1, f2⟩ := RpAll.reads I ds _ its ra rv
      exact ⟨_, Reads.list eo rfl rfl hr, fun hl => (by rw [PyData.hasDict]; exact f1 hl), fun z => by rw [hl] at z; cases z⟩
  | .tuple ds, _, _, h, r => by
    cases h with
    | tup e ra =>
      cases r
      obtain ⟨_, its, rv, o, eo, hc, n, hd⟩ := I.hok _ _ e
      obtain ⟨as, hr, f1, f2⟩ := RpAll.reads I ds _ its ra rv
      exact ⟨_, Reads.tuple eo hc hd hr, fun hl => (by rw [PyData.hasDict]; exact f1 hl), f2⟩
  | .dict ps, _, _, h, r => by
    cases h with
    | dic hl e ra =>
      cases r
      obtain ⟨_, hS, us, rk, o, es, ep, eo, hx, hd, _, hp, _⟩ := I.hok _ _ e
      obtain ⟨bs, hr, f1, f2⟩ := RpKv.reads I ps _ us ra rk
      have k1 := pairs_keys hp s.heap
      rw [kv_keys ra rk] at k1
      rw [← pairs_vals hp] at hr
      refine ⟨_, Reads.dict eo hx.1 hd k1 hr, fun hl' => (by rw [hl] at hl'; cases hl'), fun hl' z => ?_⟩
      rcases List.mem_append.mp z with z | z
      · rw [← List.mem_singleton.mp z] at hS
        simp at hS
      · exact f2 hl' z
theorem RpAll.reads (I : Inv X pins σ H s) {l : Bool} : ∀ (ds : List PyData) (vs : List V) (us : List Value), RpAll l H vs ds → Vals vs us → ∃ as, ReadsAll s.heap us ds as ∧ FitsAll l ds as
  | [], _, _, h, r => by
    cases h
    cases r
    exact ⟨_, ReadsAll.nil, fun _ => by rw [PyData.hasDictAll], fun _ z => by cases z⟩
  | d :: ds, _, _, h, r => by
    cases h with
    | cons h1 h2 =>
      cases r with
      | cons r1 r2 =>
        obtain ⟨as, q1, f1, f2⟩ := Rp.reads I d _ _ h1 r1
        obtain ⟨bs, q2, g1, g2⟩ := RpAll.reads I ds _ _ h2 r2
        refine ⟨_, ReadsAll.cons q1 q2, fun hl => (by rw [PyData.hasDictAll, f1 hl, g1 hl]; rfl), fun hl z => ?_⟩
        rcases List.mem_append.mp z with z | z
        · exact f2 hl z
        · exact g2 hl z
theorem RpKv.reads (I : Inv X pins σ H s) {l : Bool} : ∀ (ps : List (PyData × PyData)) (kvs : List (Key × V)) (us : List (Key × Value)), RpKv l H kvs ps → KV kvs us → ∃ as, ReadsAll s.heap (us.map (·.2)) (ps.map (·.2)) as ∧ FitsAll l (ps.map (·.2)) as
  | [], _, _, h, r => by
    cases h
    cases r
    exact ⟨_, ReadsAll.nil, fun _ => (by rw [List.map_nil, PyData.hasDictAll]), fun _ z => by cases z⟩
  | p :: ps, _, _, h, r => by
    cases h with
    | cons h1 h2 =>
      cases r with
      | cons r1 r2 =>
        obtain ⟨as, q1, f1, f2⟩ := Rp.reads I _ _ _ h1 r1.2
        obtain ⟨bs, q2, g1, g2⟩ := RpKv.reads I ps _ _ h2 r2
        refine ⟨_, ReadsAll.cons q1 q2, fun hl => (by rw [List.map_cons, PyData.hasDictAll, f1 hl, g1 hl]; rfl), fun hl z => ?_⟩
        rcases List.mem_append.mp z with z | z
        · exact f2 hl z
        · exact g2 hl z
end
end
/-- repr of such data, where no other repr is under way -/
def rRepr : List V → Hp → VK → Prop := fun xs H Q => ∃ (v : V) (l : Bool) (d : PyData), xs = [v] ∧ Rp l H v d ∧ d.showable = true ∧ d.depth ≤ 60 ∧ d.shown.length ≤ sizeLine ∧ Q (.str d.shown) H
theorem cr_repr {X : Cx} (hu : X.A.units + 64 < cLine) (hg : X.A.guards = some []) : CallR X (.builtin "repr") rRepr := by
  intro pins s σ H xs us Q I r h
  obtain ⟨v, l, d, rfl, rp, hs, hd, hz, q⟩ := h
  obtain ⟨u, rfl, ru⟩ := vals1 r
  obtain ⟨as, rd, f1, f2⟩ := rp.reads I d v u ru
  have fin : ∀ h' tk (t : Tok), (∀ b o, s.heap.get? b = some o → h'.get? b = some o) → EP X pins σ Q (.str d.shown t) { s with heap := h', toks := tk } := fun h' tk t k => ⟨.str d.shown, H, I.kept k, ⟨t, rfl⟩, q⟩
  cases rp with
  | non =>
    cases ru
    rw [PyData.shown] at q fin
    exact PySem.P.repr_of_none (fin s.heap _ _ fun _ _ e => e)
  | bl b =>
    cases ru
    rw [PyData.shown] at q fin
    exact PySem.P.repr_of_bool (fin s.heap _ _ fun _ _ e => e)
  | int i =>
    obtain ⟨t, rfl⟩ := ru
    rw [PyData.shown] at q fin
    exact PySem.P.repr_of_int (by simpa [PyData.showable] using hs) (fin s.heap _ _ fun _ _ e => e)
  | str x =>
    obtain ⟨t, rfl⟩ := ru
    rw [PyData.shown] at q fin hz
    exact PySem.P.repr_of_str (fin s.heap _ _ fun _ _ e => e) hz
  | lst hl e r =>
    cases ru
    exact repr_of_reads' rd hs (by
      cases l with
      | true => intro z; rw [f1 rfl] at z; cases z
      | false => exact fun _ => f2 rfl) hg (by omega) (fun _ _ e => e) (fun h' u tk k => fin h' tk u k) hz
  | tup e r =>
    cases ru
    exact repr_of_reads' rd hs (by
      cases l with
      | true => intro z; rw [f1 rfl] at z; cases z
      | false => exact fun _ => f2 rfl) hg (by omega) (fun _ _ e => e) (fun h' u tk k => fin h' tk u k) hz
  | dic hl e r =>
    cases ru
    exact repr_of_reads' rd hs (by
      cases l with
      | true => intro z; rw [f1 rfl] at z; cases z
      | false => exact fun _ => f2 rfl) hg (by omega) (fun _ _ e => e) (fun h' u tk k => fin h' tk u k) hz
end GX
set_option Elab.async false
set_option linter.all false
set_option maxRecDepth 100000
set_option maxHeartbeats 4000000
/-! Promises of defs that ask repr: they hold where no repr is under way. -/
namespace GX
open PySem PySem.Spec PyProof.Rows L2
open C8 (Cal pe_c)
structure FnG (P : Program) (w : World) (K : PySem.W.Frag) (mg : Str → Option Value) (base : Heap) (k : Nat) (f : Addr) (fd : FuncData) (ps : List Str) (sp : Sp) : Prop where
  len : ∀ vs H Q E, sp vs H Q E → vs.length = ps.length
  go : ∀ (A : Around), A.guards = some [] → Room k A → ∀ (fr : List Env) (s : Shared) (H : Hp), Env0 P w K mg base A fr s H → ∀ (args : Args) (us : List Value) (vs : List V), BindsTo s fd args (ps.zip us) → Vals vs us → ∀ (Q : VK) (E : XK), sp vs H Q E →
    codeAny (model P w) A (.call (.ref f) args) (CR L2.CX0 fr P w H s Q E) s
section
variable {P : Program} {w : World} {K : PySem.W.Frag} {mg : Str → Option Value} {base : Heap}
/-- such a def by its body -/
theorem fnG {x : Str} {st : Stmt} {f c : Addr} {N ps : List Str} {k : Nat} {sp : Sp} {oc kV doc pm ct : Value} {od an : Option Addr} {osl : Array (Option Value)}
    (lk : K.lookup f = some ⟨oc, od, .func (PySem.W.fnOf x x (defArgs st) (defBody st) (defScope st) .none kV doc pm an (.ref c) ct), osl⟩) (cd : PySem.W.codeIn K (.ref c) x = true)
    (S : FnScope N ps (defScope st)) (len : ∀ vs H Q E, sp vs H Q E → vs.length = ps.length)
    (body : ∀ (A : Around) (outer : List Env) (s : Shared) (H : Hp) (vs : List V) (Q : VK) (E : XK), A.guards = some [] → Room k (A.deeper (envOfC x (defScope st) s.heap.objs.size f (.ref c))) → sp vs H Q E →
      ∃ t, PSs (cxOf L2.CX0 P w K mg base N x (defScope st) f (.ref c) A outer s H E).nox (defBody st) t ∧ t { nx := fun _ H' => Q .non H', rt := Q } (start N vs) H) :
    FnG P w K mg base (k + 1) f (PySem.W.fnOf x x (defArgs st) (defBody st) (defScope st) .none kV doc pm an (.ref c) ct) ps sp where
  len := len
  go := by
    intro A hA hr fr s H e0 args us vs hb hv Q E hsp
    have stays := fun b o (e : base.get? b = some o) => (e0.bs b o e).1
    have KX : K.In s.heap := e0.mod.kin.keeps stays
    obtain ⟨t, ht, q⟩ := body A fr s H vs Q E hA (hr.deeper _) hsp
    refine codeAny_call_function hr.depth (KX _ _ lk) rfl S.co S.gen rfl (PySem.W.codeRec_of KX cd) (hb _ _ _ _ ?_)
    refine wpAny_newFunctionEnv_cells S.kind (fun y hy => ?_) fun env he s1 z => ?_
    · have hm : y.1 ∈ ps := (List.of_mem_zip (show (y.1, y.2) ∈ ps.zip us from hy)).1
      rcases S.par y.1 hm with a | a
      · exact .inl a
      · exact .inr ⟨a, PySem.W.cellsFrom_some _ _ _ (.inl a)⟩
    subst he
    have I := inv_start (CX := L2.CX0) (E := E) S hr.hd e0 (len _ _ _ _ hsp) hv z
    refine ⟨(e0.mod.nolimit.keeps stays).keeps z.toInCall.keep, codeAny_func ?_⟩
    refine wpAny_mono (ht.nox.run [] s1 _ H _ I q) (fun fl s' h => ?_) fun _ _ h => h
    cases fl with
    | ret u =>
      obtain ⟨v, σ', H', J, rv, q'⟩ := h
      exact ⟨v, H', J.os, J.bare, J.base, J.hok, rv, q'⟩
    | next =>
      obtain ⟨σ', H', J, q'⟩ := h
      exact ⟨V.non, H', J.os, J.bare, J.base, J.hok, rfl, q'⟩
    | brk => exact (h.elim fun _ h => h.elim fun _ h => False.elim h.2)
    | cont => exact (h.elim fun _ h => h.elim fun _ h => False.elim h.2)
/-- .. by its name -/
structure CalG (P : Program) (w : World) (K : PySem.W.Frag) (mg : Str → Option Value) (base : Heap) (k : Nat) (x : Str) (sp : Sp) : Prop where
  ex : ∃ (f : Addr) (fd : FuncData) (ps : List Str), FnG P w K mg base k f fd ps sp ∧ mg x = some (.ref f) ∧ PySem.W.keepIn K (.ref f) = true ∧ Binds K fd ps []
theorem calG {x : Str} {st : Stmt} {f c : Addr} {N ps : List Str} {k : Nat} {sp : Sp} (D : Dfn K mg x st f c)
    (hb : ∀ (kV doc pm : Value) (an : Option Addr) (cdv ct : Value) (us : List Value), us.length = ps.length → bindArgs (PySem.W.fnOf x x (defArgs st) (defBody st) (defScope st) .none kV doc pm an cdv ct) ⟨us, []⟩ = pure (ps.zip us))
    (S : FnScope N ps (defScope st)) (len : ∀ vs H Q E, sp vs H Q E → vs.length = ps.length)
    (body : ∀ (A : Around) (outer : List Env) (s : Shared) (H : Hp) (vs : List V) (Q : VK) (E : XK), A.guards = some [] → Room k (A.deeper (envOfC x (defScope st) s.heap.objs.size f (.ref c))) → sp vs H Q E →
      ∃ t, PSs (cxOf L2.CX0 P w K mg base N x (defScope st) f (.ref c) A outer s H E).nox (defBody st) t ∧ t { nx := fun _ H' => Q .non H', rt := Q } (start N vs) H) : CalG P w K mg base (k + 1) x sp := by
  obtain ⟨oc, od, kV, doc, pm, an, ct, osl, lk⟩ := D.ex
  exact ⟨f, _, ps, fnG lk D.hcd S len body, D.mgf, D.kp, .all (hb kV doc pm an (.ref c) ct)⟩
end
section
variable {X : Cx} {j k : Nat} {x : Str} {sp : Sp} {p pos : Pos} {e : Expr} {es : List Expr} {t : TA}
theorem pe_cG (c : CalG X.prog X.w X.K X.mg X.base k x sp) (hr : Room j X.A) (hA : X.A.guards = some []) (hk : k ≤ j) (hg : Gl X x) (ha : PA X (e :: es) t)
    (hdb : (x == ("__debug__" : Str)) = false := by decide) (he : starEach (e :: es) X.env = (false, eval e X.env) :: starEach es X.env := by rfl) (hpl : (backTo pos (starEach es X.env)).any (·.1) = false := by rfl) :
    PE X (.Call (.Name x p) (e :: es) [] pos) (tCall sp [] C8.E0 t) := by
  obtain ⟨f, fd, ps, F, hm, kp, b⟩ := c.ex
  refine ⟨fun pins s σ H Q I h => wpAny_Call_Name_kw (ld_glob I hg hm ?_ hdb)⟩
  refine PySem.W.callWith_K (h₀ := X.base) I.ok.mod.kin kp (thn (ha.run pos pins s σ H _ I h) fun us s1 ⟨vs, H1, I1, rv, q⟩ => ⟨I1.kIn, ?_⟩) he hpl
  have q : sp (vs ++ []) H1 Q C8.E0 := q
  rw [List.append_nil] at q
  show wpAny _ _ (call (.ref f) us) _ _ _
  have lu : us.length = ps.length := by rw [← rv.length]; exact F.len _ _ _ _ q
  have hb := b s1 us I1.kIn (by rw [List.append_nil]; exact lu)
  rw [List.append_nil] at hb
  refine wpAny_call (codeAny_mono (F.go X.A hA (hr.mono hk) X.stack s1 H1 I1.env0 ⟨us, []⟩ us vs hb rv _ _ q) fun r s' h => ?_)
  rcases r with e | fl
  · exact False.elim h
  · cases fl with
    | ret u => exact I1.after h
    | _ => exact False.elim h
end
/-! ### the law's end for such a law -/
section
variable {P : Program} {w : World} {K : PySem.W.Frag} {mg mb : Str → Option Value} {k : Nat} {fa a : Addr} {cs : List (Addr × Addr)} {fd : FuncData} {x : Str} {sp : Sp} {s : Shared} {vs : List Value} {ns : List Int}
def tabObj : Obj := { cls := .none, data := .fields #[] }
def scrObj (vs : List Value) : Obj := { cls := .type "list", data := .seq vs.toArray }
/-- what is tracked when the law begins: the tables, and the script where it is no part of the written -/
def begin' (Ts : List Addr) (K : PySem.W.Frag) (a : Addr) (vs : List Value) (ns : List Int) : Hp := fun b =>
  if b ∈ Ts then some (.tbl #[]) else if b = a ∧ K.lookup a = none then some (.frz (scrObj vs) (.lst (ns.map V.int))) else none
structure LawIn (K : PySem.W.Frag) (mg mb : Str → Option Value) (cs : List (Addr × Addr)) (a : Addr) (vs : List Value) (ns : List Int) (h : Heap) : Prop where
  kin : K.In h
  ns_ : h.Ns mainGlobals mg
  bl : h.Ns builtinsNs mb
  bb : ∀ x : Str, x ≠ "__name__" → mb x = bootBuiltins x
  nl : h.NoLimit
  tab : ∀ p ∈ cs, h.get? p.2 = some tabObj
  ntab : ∀ p ∈ cs, K.lookup p.2 = none
  code : ∀ p ∈ cs, PySem.W.CodeHd h p.1 p.2
  bm : ∃ (bm : Addr) (ob : Obj), mg "__builtins__" = some (.ref bm) ∧ bm ≠ builtinsNs ∧ h.get? bm = some ob ∧ ob.cls = .type "module" ∧ ob.dict = some builtinsNs ∧ ob.data = .plain
  scr : h.get? a = some (scrObj vs)
  iv : IntsAre vs ns
  room : ns.length ≤ sizeLine
section
variable {h : Heap} (L : LawIn K mg mb cs a vs ns h)
include L
theorem LawIn.tabs {b : Addr} (hb : b ∈ cs.map (·.2)) : h.get? b = some tabObj := by
  obtain ⟨p, hp, rfl⟩ := List.mem_map.mp hb
  exact L.tab p hp
theorem LawIn.apart : a ∉ cs.map (·.2) := fun hb => by
  have e := L.tabs hb
  rw [L.scr] at e
  have e2 := congrArg Obj.data (Option.some.inj e)
  cases e2
/-- where something is tracked there stands a table or the script -/
theorem LawIn.what {b : Addr} {u : HO} (e : begin' (cs.map (·.2)) K a vs ns b = some u) : (b ∈ cs.map (·.2) ∧ u = .tbl #[]) ∨ (b = a ∧ K.lookup a = none ∧ u = .frz (scrObj vs) (.lst (ns.map V.int))) := by
  unfold begin' at e
  by_cases hb : b ∈ cs.map (·.2)
  · rw [if_pos hb] at e
    exact .inl ⟨hb, (Option.some.inj e).symm⟩
  · rw [if_neg hb] at e
    by_cases hc : b = a ∧ K.lookup a = none
    · rw [if_pos hc] at e
      exact .inr ⟨hc.1, hc.2, (Option.some.inj e).symm⟩
    · rw [if_neg hc] at e
      cases e
theorem LawIn.free {b : Addr} {o : Obj} (e : h.get? b = some o) (h1 : o ≠ tabObj) (h2 : o ≠ scrObj vs) : begin' (cs.map (·.2)) K a vs ns b = none := by
  cases q : begin' (cs.map (·.2)) K a vs ns b with
  | none => rfl
  | some u =>
    rcases L.what q with ⟨hb, _⟩ | ⟨rfl, _⟩
    · rw [L.tabs hb] at e
      exact absurd (Option.some.inj e).symm h1
    · rw [L.scr] at e
      exact absurd (Option.some.inj e).symm h2
theorem LawIn.freeK {b : Addr} {o : Obj} (e : K.lookup b = some o) : begin' (cs.map (·.2)) K a vs ns b = none := by
  cases q : begin' (cs.map (·.2)) K a vs ns b with
  | none => rfl
  | some u =>
    rcases L.what q with ⟨hb, _⟩ | ⟨rfl, hk, _⟩
    · obtain ⟨p, hp, rfl⟩ := List.mem_map.mp hb
      rw [L.ntab p hp] at e
      cases e
    · rw [hk] at e
      cases e
theorem LawIn.holds {w : World} {P : Program} : HOk P w (begin' (cs.map (·.2)) K a vs ns) h := fun b u e => by
  rcases L.what e with ⟨hb, rfl⟩ | ⟨rfl, _, rfl⟩
  · exact L.tabs hb
  · exact ⟨L.scr, by rw [List.length_map]; exact L.room, vs, _, vals_ints L.iv, L.scr⟩
theorem LawIn.dicts {b : Addr} {m : Str → Option Value} (e : h.Ns b m) : (hidT h (begin' (cs.map (·.2)) K a vs ns)).Ns b m := by
  obtain ⟨o, es, ep, e1, e2, r⟩ := e
  exact ⟨o, es, ep, hidT_get e1 (L.free e1 (fun z => by rw [z] at e2; cases e2) (fun z => by rw [z] at e2; cases e2)), e2, r⟩
theorem LawIn.kinB : K.In (hidT h (begin' (cs.map (·.2)) K a vs ns)) := fun b o e => hidT_get (L.kin b o e) (L.freeK e)
theorem LawIn.mod : L2.Mod K mg (hidT h (begin' (cs.map (·.2)) K a vs ns)) :=
  ⟨L.kinB, L.dicts L.ns_, ⟨mb, L.dicts L.bl, L.bb⟩, let ⟨mc, z, n⟩ := L.nl; ⟨mc, L.dicts z, n⟩⟩
theorem LawIn.tabB : ∀ p ∈ cs, LamX.TabB (hidT h (begin' (cs.map (·.2)) K a vs ns)) mg p.1 p.2 := fun p hp => by
  have notMain : mainGlobals ≠ p.2 := fun z => by
    obtain ⟨o, es, ep, e, d, _⟩ := L.ns_
    rw [z, L.tab p hp] at e
    cases e
    cases d
  refine ⟨?_, ?_, notMain⟩
  · obtain ⟨o, us, file, tf, fl, tg, iF, tx, tt, e, r⟩ := L.code p hp
    refine ⟨o, us, file, tf, fl, tg, iF, tx, tt, hidT_get e (L.free e (fun z => ?_) fun z => ?_), r⟩
    · have := r.1
      rw [z] at this
      cases this
    · have := r.1
      rw [z] at this
      injection this with e
      exact absurd e (by decide)
  · obtain ⟨bm, ob, b1, b2, b3, b4, b5, b6⟩ := L.bm
    refine ⟨bm, ob, b1, b2, fun z => ?_, fun z => ?_, hidT_get b3 (L.free b3 (fun z => by rw [z] at b6; cases b6) fun z => by rw [z] at b6; cases b6), b4, b5, b6⟩
    · obtain ⟨o, es, ep, e, d, _⟩ := L.ns_
      rw [← z, b3] at e
      cases e
      rw [b6] at d
      cases d
    · rw [z, L.tab p hp] at b3
      cases b3
      cases b6
theorem LawIn.script : SqL K (begin' (cs.map (·.2)) K a vs ns) a (ns.map V.int) := by
  cases hk : K.lookup a with
  | none => exact .inl (.inr ⟨scrObj vs, by
      unfold begin'
      rw [if_neg L.apart, if_pos ⟨rfl, hk⟩]⟩)
  | some o =>
    have e := L.kin a o hk
    rw [L.scr] at e
    cases e
    exact .inr ⟨_, vs.toArray, _, hk, rfl, rfl, rfl, by rw [List.size_toArray, L.iv.length]; exact L.room, vals_ints L.iv⟩
end
theorem law_callG (L : LawIn K mg mb cs a vs ns s.heap) (hg : s.gens = #[]) (hr : Room k callerA)
    (F : ∀ base : Heap, K.In base → base.Ns mainGlobals mg → (∀ p ∈ cs, LamX.TabB base mg p.1 p.2) → FnG P w K mg base k fa fd [x] sp) (hbind : ∀ (z : Shared) (u : Value), BindsTo z fd ⟨[u], []⟩ [(x, u)])
    (hsp : ∀ H : Hp, (∀ p ∈ cs, H p.2 = some (.tbl #[])) → SqL K H a (ns.map V.int) → sp [.ref a] H (fun v _ => v = .bl true) fun _ _ _ => False) :
    codeAny (model P w) callerA (.call (.ref fa) ⟨[.ref a], []⟩) (fun r s' => r = .ok (.ret (.bool true)) ∧ OldK s.heap s'.heap ∧ s'.os = s.os ∧ AllBare s'.gens) s := by
  let B := begin' (cs.map (·.2)) K a vs ns
  have tb : ∀ p ∈ cs, B p.2 = some (.tbl #[]) := fun p hp => if_pos (List.mem_map.mpr ⟨p, hp, rfl⟩)
  have e0 : Env0 P w K mg (hidT s.heap B) callerA [] s B := ⟨rfl, L.mod, fun b o e => of_hidT e, Nat.le_of_eq (hidT_size _ _), trivial, fun b hb => (by cases hb), L.holds, .of_eq hg⟩
  refine codeAny_mono ((F _ L.kinB (L.dicts L.ns_) L.tabB).go callerA rfl hr [] s B e0 ⟨[.ref a], []⟩ [.ref a] [.ref a] (hbind s _) (.cons rfl .nil) _ _ (hsp B tb L.script)) fun r s' h => ?_
  rcases r with e | fl
  · exact False.elim h
  cases fl with
  | ret u =>
    obtain ⟨v, H', os, bare, un, ok', rv, q⟩ := h
    cases (show v = V.bl true from q)
    cases (show u = Value.bool true from rv)
    have stays : ∀ b o, b ∉ cs.map (·.2) → s.heap.get? b = some o → s'.heap.get? b = some o := fun b o nb e => by
      cases z : B b with
      | none => exact un.keep b o e z (fun m => by cases m) (fun m => by cases m)
      | some y =>
        rcases L.what z with ⟨hb, _⟩ | ⟨rfl, _, rfl⟩
        · exact absurd hb nb
        · have e2 := (ok' _ _ (un.frzs _ _ _ z)).1
          rw [L.scr] at e
          cases e
          exact e2
    refine ⟨rfl, ⟨fun b o e => ?_, fun b o e => ?_⟩, os, bare⟩
    all_goals by_cases hb : b ∈ cs.map (·.2)
    · obtain ⟨p, hp, rfl⟩ := List.mem_map.mp hb
      obtain ⟨more, z⟩ := un.tbls p.2 #[] (tb p hp)
      have e2 : s'.heap.get? p.2 = some { cls := .none, data := .fields (#[] ++ more) } := ok' _ _ z
      rw [L.tab p hp] at e
      cases e
      exact .inr (.inl ⟨((L.code p hp).tab (L.tab p hp)).isCodeTable, rfl, #[], more, rfl, e2⟩)
    · exact .inl (stays b o hb e)
    · obtain ⟨p, hp, rfl⟩ := List.mem_map.mp hb
      obtain ⟨more, z⟩ := un.tbls p.2 #[] (tb p hp)
      exact ⟨_, ok' _ _ z⟩
    · exact ⟨o, stays b o hb e⟩
  | _ => exact False.elim h
end
theorem tabs_of {q : Program} {loose : List Str} {XP : (Str → Option Value) → Heap → Prop} {R : PySem.W.WRecords} {w : World} {s₀ : Shared} {mg mb : Str → Option Value} {h : Heap} {K : PySem.W.Frag} (KX : K.In h) (G : PySem.W.Ground q loose R XP w s₀ mg mb h) (y : Str) (hy : ((recsOf q).any fun e => e.name == y) = true) : TabOf K mg h y := by
  intro fa c P o1 fd1 e dd vs1 sl k0 k1 k2 k3 k4 k5
  obtain ⟨dL, hm, hn⟩ := List.any_eq_true.mp hy
  have hn : dL.name = y := beq_iff_eq.mp hn
  obtain ⟨a', o', fd', c', P', h1, h2, h3, h4, h5, ⟨oc, vc, e1, _, e3, e4⟩, hP⟩ := G.T.tab dL hm
  rw [hn, k0] at h1
  cases h1
  rw [KX _ _ k1] at h2
  cases h2
  rw [k2] at h3
  cases h3
  rw [k3] at h4
  cases h4
  rw [KX _ _ k4] at e1
  cases e1
  cases e3
  rw [k5] at e4
  cases e4
  exact hP
/-- what is known of such a law's promise -/
def LawAtG (l : PySem.W.OpenLaw) (w : World) (K : PySem.W.Frag) (k n : Nat) (x : Str) (mg : Str → Option Value) (fa : Addr) (h : Heap) : Prop :=
  ∃ (fd : FuncData) (cs : List (Addr × Addr)) (sp : Sp), ((∀ p ∈ cs, h.get? p.2 = some tabObj) ∧ (∀ p ∈ cs, K.lookup p.2 = none) ∧ ∀ p ∈ cs, PySem.W.CodeHd h p.1 p.2) ∧ (∀ (s : Shared) (u : Value), BindsTo s fd ⟨[u], []⟩ [(x, u)]) ∧
    (∀ (H : Hp) (a : Addr) (ns : List Int), ns.length ≤ n → (∀ p ∈ cs, H p.2 = some (.tbl #[])) → SqL K H a (ns.map V.int) → sp [.ref a] H (fun v _ => v = .bl true) fun _ _ _ => False) ∧
    ∀ base : Heap, K.In base → base.Ns mainGlobals mg → (∀ p ∈ cs, LamX.TabB base mg p.1 p.2) → FnG l.prog w K mg base k fa fd [x] sp
theorem walk_defsG {l : PySem.W.OpenLaw} {n k : Nat} {q : Program} {loose : List Str} {XP : (Str → Option Value) → Heap → Prop} {YP : World → Heap → Prop} {d : DefRec} {K : Params → PySem.W.Frag} {x : Str}
    (hn : l.most = some n) (hn2 : n ≤ sizeLine) (hdf : d.params.defaults = []) (hr : Room k callerA) (hY : ∀ (w : World) (h : Heap), YP w h → (K w.params).In h)
    (F : ∀ (w : World) (mg : Str → Option Value) (fa : Addr) (h : Heap), YP w h → (K w.params).In h → h.Ns mainGlobals mg → mg d.name = some (.ref fa) → (∀ y : Str, ((recsOf q).any fun e => e.name == y) = true → TabOf (K w.params) mg h y) → LawAtG l w (K w.params) k n x mg fa h) :
    PySem.W.WalkO q loose XP YP l.row.toRowW d [] (fun f vs => PySem.call f vs) := by
  refine Att.attach_callB hn hdf fun w s₀ s₁ mg mb fa o pm cd doc a vs ns G Y ho hd hcd hmg hobj hints hlen hbits hg => ?_
  have KX := hY w _ Y
  obtain ⟨fd, cs, sp, ⟨t1, t2, t3⟩, hb, hsp, hF⟩ := F w mg fa _ Y KX G.T.g hmg (tabs_of KX G)
  exact law_callG ⟨KX, G.T.g, G.T.b, G.T.builtins, G.T.nolimit, t1, t2, t3, G.T.bmain, hobj, hints, Nat.le_trans hlen hn2⟩ hg hr hF hb fun H hH hS => hsp H a ns hlen hH hS
end GX
set_option Elab.async false
set_option linter.all false
set_option maxRecDepth 100000
set_option maxHeartbeats 4000000
/-! How long the texts are. -/
namespace GX
open PySem PySem.Spec PyProof.Rows L2
theorem textFrom_up : ∀ (ts : List Str) (k : Nat) (acc : Str), (textFrom k acc ts).length ≤ acc.length + piled ts
  | [], k, acc => Nat.le_add_right _ _
  | t :: r, k, acc => by
    have e : (acc ++ (if k > 0 then ", " else "" : String) ++ t).length ≤ acc.length + 2 + t.length := by
      rw [strLen_append, strLen_append]
      have : (((if k > 0 then ", " else "" : String) : Str)).length ≤ 2 := by split <;> decide
      omega
    have ih := textFrom_up r (k + 1) (acc ++ (if k > 0 then ", " else "" : String) ++ t)
    show (textFrom (k + 1) _ r).length ≤ _
    rw [piled_cons]
    omega
theorem listText_up (ts : List Str) : (listText ts).length ≤ piled ts + 2 := by
  have := textFrom_up ts 0 "["
  unfold listText
  rw [strLen_append]
  have e1 : ((("[" : String) : Str)).length = 1 := rfl
  have e2 : ((("]" : String) : Str)).length = 1 := rfl
  rw [e1] at this
  rw [e2]
  omega
theorem join_up (ts : List Str) : (Str.join ", " ts).length ≤ piled ts := by
  by_cases h : ts = []
  · subst h; exact Nat.zero_le _
  · have := join_length_add ts h
    omega
theorem tupleText_up (ts : List Str) : (tupleText ts).length ≤ piled ts + 3 := by
  have := join_up ts
  unfold tupleText
  rw [strLen_append, strLen_append]
  have e1 : ((("(" : String) : Str)).length = 1 := rfl
  have e3 : (((if ts.length == 1 then ",)" else ")" : String) : Str)).length ≤ 2 := by split <;> decide
  rw [e1]
  omega
/-- shown within m levels and n signs -/
structure Sd (m n : Nat) (d : PyData) : Prop where
  sh : d.showable = true
  dp : d.depth ≤ m
  ln : d.shown.length ≤ n
theorem Sd.mono {m n m' n' : Nat} {d : PyData} (h : Sd m n d) (a : m ≤ m') (b : n ≤ n') : Sd m' n' d := ⟨h.sh, Nat.le_trans h.dp a, Nat.le_trans h.ln b⟩
theorem sd_all {m n : Nat} : ∀ {ds : List PyData}, (∀ d ∈ ds, Sd m n d) → PyData.showableAll ds = true ∧ PyData.depthAll ds ≤ m ∧ piled (PyData.shownAll ds) ≤ ds.length * (n + 2)
  | [], _ => ⟨by rw [PyData.showableAll], Nat.zero_le _, by rw [PyData.shownAll]; exact Nat.zero_le _⟩
  | d :: ds, h => by
    obtain ⟨h1, h2, h3⟩ := sd_all fun e he => h e (List.mem_cons_of_mem _ he)
    have hd := h d List.mem_cons_self
    refine ⟨by rw [PyData.showableAll, hd.sh, h1]; rfl, ?_, ?_⟩
    · show max d.depth (PyData.depthAll ds) ≤ m
      have := hd.dp
      omega
    · rw [PyData.shownAll, piled_cons, List.length_cons, Nat.succ_mul]
      have := hd.ln
      omega
theorem Sd.tup {m n c : Nat} {ds : List PyData} (h : ∀ d ∈ ds, Sd m n d) (hc : ds.length ≤ c) : Sd (m + 1) (c * (n + 2) + 3) (.tuple ds) := by
  obtain ⟨h1, h2, h3⟩ := sd_all h
  refine ⟨by rw [PyData.showable]; exact h1, Nat.succ_le_succ h2, ?_⟩
  rw [PyData.shown]
  have := tupleText_up (PyData.shownAll ds)
  have := Nat.mul_le_mul_right (n + 2) hc
  omega
theorem Sd.lst {m n c : Nat} {ds : List PyData} (h : ∀ d ∈ ds, Sd m n d) (hc : ds.length ≤ c) : Sd (m + 1) (c * (n + 2) + 3) (.list ds) := by
  obtain ⟨h1, h2, h3⟩ := sd_all h
  refine ⟨by rw [PyData.showable]; exact h1, Nat.succ_le_succ h2, ?_⟩
  rw [PyData.shown]
  have := listText_up (PyData.shownAll ds)
  have := Nat.mul_le_mul_right (n + 2) hc
  omega
theorem small_text : ∀ k < 1000, ((toString ((k : Nat) : Int) : String) : Str).length ≤ 4 ∧ ((toString (-((k : Nat) : Int)) : String) : Str).length ≤ 4 ∧ (reprText ((toString ((k : Nat) : Int) : String) : Str)).length ≤ 6 ∧ (reprText ((toString (-((k : Nat) : Int)) : String) : Str)).length ≤ 6 := by decide +kernel
theorem small_int {i : Int} (h : i.natAbs < 1000) : ((toString i : String) : Str).length ≤ 4 ∧ (reprText ((toString i : String) : Str)).length ≤ 6 := by
  have := small_text i.natAbs h
  rcases Int.natAbs_eq i with e | e
  · rw [← e] at this
    exact ⟨this.1, this.2.2.1⟩
  · rw [← e] at this
    exact ⟨this.2.1, this.2.2.2⟩
theorem log_small {i : Nat} (h : i < 1000) : i.log2 < 1920 := by
  by_cases z : i = 0
  · subst z; decide
  · exact Nat.lt_of_lt_of_le ((Nat.log2_lt z).mpr (show i < 2 ^ 10 by omega)) (by decide)
theorem Sd.int {i : Int} (h : i.natAbs < 1000) : Sd 0 4 (.int i) := ⟨by rw [PyData.showable]; exact decide_eq_true (log_small h), Nat.zero_le _, by rw [PyData.shown]; exact (small_int h).1⟩
theorem Sd.none : Sd 0 4 .none := ⟨by decide +kernel, by decide +kernel, by decide +kernel⟩
theorem Sd.bl (b : Bool) : Sd 0 5 (.bool b) := by cases b <;> exact ⟨by decide +kernel, by decide +kernel, by decide +kernel⟩
/-- such a thing in the heap -/
def Shw (l : Bool) (m n : Nat) (H : Hp) (v : V) : Prop := ∃ d, Rp l H v d ∧ Sd m n d
def ShAll (l : Bool) (m n : Nat) (H : Hp) (vs : List V) : Prop := ∃ ds, RpAll l H vs ds ∧ ∀ d ∈ ds, Sd m n d
theorem RpAll.length {l : Bool} {H : Hp} : ∀ {vs : List V} {ds : List PyData}, RpAll l H vs ds → vs.length = ds.length
  | _, _, .nil => rfl
  | _, _, .cons _ b => by rw [List.length_cons, List.length_cons, b.length]
theorem RpAll.append {l : Bool} {H : Hp} : ∀ {vs ws : List V} {ds es : List PyData}, RpAll l H vs ds → RpAll l H ws es → RpAll l H (vs ++ ws) (ds ++ es)
  | _, _, _, _, .nil, s => s
  | _, _, _, _, .cons a b, s => .cons a (b.append s)
theorem RpAll.drop {l : Bool} {H : Hp} : ∀ {vs : List V} {ds : List PyData} (n : Nat), RpAll l H vs ds → RpAll l H (vs.drop n) (ds.drop n)
  | _, _, 0, r => r
  | _, _, _ + 1, .nil => .nil
  | _, _, n + 1, .cons _ b => b.drop n
theorem RpAll.take {l : Bool} {H : Hp} : ∀ {vs : List V} {ds : List PyData} (n : Nat), RpAll l H vs ds → RpAll l H (vs.take n) (ds.take n)
  | _, _, 0, _ => .nil
  | _, _, _ + 1, .nil => .nil
  | _, _, n + 1, .cons a b => .cons a (b.take n)
theorem RpAll.get {l : Bool} {H : Hp} : ∀ {vs : List V} {ds : List PyData} {i : Nat} {v : V}, RpAll l H vs ds → vs[i]? = some v → ∃ d, ds[i]? = some d ∧ Rp l H v d
  | _, _, _, _, .nil, h => by simp at h
  | _, _, 0, _, .cons a _, h => by cases h; exact ⟨_, rfl, a⟩
  | _, _, i + 1, _, .cons _ b, h => RpAll.get (i := i) b h
section
variable {l : Bool} {m n m' n' : Nat} {H H' : Hp} {v : V} {vs us : List V} {a : Addr}
theorem Shw.keep (k : KeepT H H') (h : Shw l m n H v) : Shw l m n H' v := let ⟨d, r, s⟩ := h; ⟨d, r.mono k, s⟩
theorem ShAll.keep (k : KeepT H H') (h : ShAll l m n H vs) : ShAll l m n H' vs := let ⟨d, r, s⟩ := h; ⟨d, r.mono k, s⟩
theorem Shw.mono (h : Shw l m n H v) (a : m ≤ m') (b : n ≤ n') : Shw l m' n' H v := let ⟨d, r, s⟩ := h; ⟨d, r, s.mono a b⟩
theorem ShAll.mono (h : ShAll l m n H vs) (a : m ≤ m') (b : n ≤ n') : ShAll l m' n' H vs := let ⟨d, r, s⟩ := h; ⟨d, r, fun e he => (s e he).mono a b⟩
theorem ShAll.nil : ShAll l m n H [] := ⟨[], .nil, fun d hd => by cases hd⟩
theorem Shw.cons (h : Shw l m n H v) (t : ShAll l m n H vs) : ShAll l m n H (v :: vs) := let ⟨d, r, s⟩ := h; let ⟨ds, q, z⟩ := t; ⟨d :: ds, .cons r q, fun e he => by
  rcases List.mem_cons.mp he with rfl | he
  · exact s
  · exact z e he⟩
theorem ShAll.append (h : ShAll l m n H vs) (t : ShAll l m n H us) : ShAll l m n H (vs ++ us) := let ⟨d, r, s⟩ := h; let ⟨ds, q, z⟩ := t; ⟨d ++ ds, r.append q, fun e he => by
  rcases List.mem_append.mp he with he | he
  · exact s e he
  · exact z e he⟩
theorem ShAll.take (i : Nat) (h : ShAll l m n H vs) : ShAll l m n H (vs.take i) := let ⟨d, r, s⟩ := h; ⟨d.take i, r.take i, fun e he => s e (List.mem_of_mem_take he)⟩
theorem ShAll.drop (i : Nat) (h : ShAll l m n H vs) : ShAll l m n H (vs.drop i) := let ⟨d, r, s⟩ := h; ⟨d.drop i, r.drop i, fun e he => s e (List.mem_of_mem_drop he)⟩
theorem ShAll.get {i : Nat} (h : ShAll l m n H vs) (e : vs[i]? = some v) : Shw l m n H v := by
  obtain ⟨ds, r, s⟩ := h
  obtain ⟨d, hd, rd⟩ := r.get e
  exact ⟨d, rd, s d (List.mem_of_getElem? hd)⟩
theorem Shw.tup {c : Nat} (e : H a = some (.tup vs)) (h : ShAll l m n H vs) (hc : vs.length ≤ c) : Shw l (m + 1) (c * (n + 2) + 3) H (.ref a) := let ⟨ds, r, s⟩ := h; ⟨.tuple ds, .tup e r, Sd.tup s (by rw [← r.length]; exact hc)⟩
theorem Shw.lst {c : Nat} (e : H a = some (.lst vs)) (h : ShAll true m n H vs) (hc : vs.length ≤ c) : Shw true (m + 1) (c * (n + 2) + 3) H (.ref a) := let ⟨ds, r, s⟩ := h; ⟨.list ds, .lst rfl e r, Sd.lst s (by rw [← r.length]; exact hc)⟩
theorem Shw.int {i : Int} (h : i.natAbs < 1000) : Shw l 0 4 H (.int i) := ⟨_, .int i, Sd.int h⟩
theorem Shw.non : Shw l 0 4 H .non := ⟨_, .non, Sd.none⟩
theorem Shw.bl (b : Bool) : Shw l 0 5 H (.bl b) := ⟨_, .bl b, Sd.bl b⟩
theorem Shw.str {x : Str} {n : Nat} (h : (reprText x).length ≤ n) : Shw l 0 n H (.str x) := ⟨_, .str x, ⟨by rw [PyData.showable], Nat.zero_le _, by rw [PyData.shown]; exact h⟩⟩
end
end GX
set_option Elab.async false
set_option linter.all false
set_option maxRecDepth 100000
set_option maxHeartbeats 4000000
/-! Items of tuples, by their texts' whole length. -/
namespace GX
open PySem PySem.Spec PyProof.Rows L2
structure Sdl (m n : Nat) (ds : List PyData) : Prop where
  sh : PyData.showableAll ds = true
  dp : PyData.depthAll ds ≤ m
  ln : piled (PyData.shownAll ds) ≤ n
theorem shownAll_append : ∀ xs ys : List PyData, PyData.shownAll (xs ++ ys) = PyData.shownAll xs ++ PyData.shownAll ys
  | [], ys => by rw [PyData.shownAll]; rfl
  | x :: xs, ys => by rw [List.cons_append, PyData.shownAll, PyData.shownAll, shownAll_append xs ys]; rfl
theorem depthAll_append : ∀ xs ys : List PyData, PyData.depthAll (xs ++ ys) = max (PyData.depthAll xs) (PyData.depthAll ys)
  | [], ys => by show PyData.depthAll ys = max 0 _; omega
  | x :: xs, ys => by
    show max x.depth (PyData.depthAll (xs ++ ys)) = max (max x.depth (PyData.depthAll xs)) (PyData.depthAll ys)
    rw [depthAll_append xs ys]
    omega
theorem showableAll_append : ∀ xs ys : List PyData, PyData.showableAll (xs ++ ys) = (PyData.showableAll xs && PyData.showableAll ys)
  | [], ys => by rw [PyData.showableAll]; rfl
  | x :: xs, ys => by rw [List.cons_append, PyData.showableAll, PyData.showableAll, showableAll_append xs ys, Bool.and_assoc]
theorem Sdl.append {m n m' n' : Nat} {xs ys : List PyData} (a : Sdl m n xs) (b : Sdl m' n' ys) : Sdl (max m m') (n + n') (xs ++ ys) := by
  refine ⟨by rw [showableAll_append, a.sh, b.sh]; rfl, ?_, ?_⟩
  · rw [depthAll_append]
    have := a.dp
    have := b.dp
    omega
  · rw [shownAll_append, piled_append]
    have := a.ln
    have := b.ln
    omega
theorem Sdl.split {m n : Nat} {xs ys : List PyData} (a : Sdl m n (xs ++ ys)) : Sdl m n xs ∧ Sdl m n ys := by
  obtain ⟨h1, h2, h3⟩ := a
  rw [showableAll_append, Bool.and_eq_true] at h1
  rw [depthAll_append] at h2
  rw [shownAll_append, piled_append] at h3
  exact ⟨⟨h1.1, by omega, by omega⟩, ⟨h1.2, by omega, by omega⟩⟩
theorem Sdl.take {m n : Nat} {xs : List PyData} (i : Nat) (a : Sdl m n xs) : Sdl m n (xs.take i) := (Sdl.split (by rw [List.take_append_drop]; exact a : Sdl m n (xs.take i ++ xs.drop i))).1
theorem Sdl.drop {m n : Nat} {xs : List PyData} (i : Nat) (a : Sdl m n xs) : Sdl m n (xs.drop i) := (Sdl.split (by rw [List.take_append_drop]; exact a : Sdl m n (xs.take i ++ xs.drop i))).2
theorem Sdl.of {m n : Nat} : ∀ {ds : List PyData}, (∀ d ∈ ds, Sd m n d) → Sdl m (ds.length * (n + 2)) ds := fun h => let ⟨a, b, c⟩ := sd_all h; ⟨a, b, c⟩
theorem Sdl.one {m n : Nat} {d : PyData} (h : Sd m n d) : Sdl m (n + 2) [d] := by
  have := Sdl.of (ds := [d]) fun e he => by rw [List.mem_singleton.mp he]; exact h
  rwa [List.length_singleton, Nat.one_mul] at this
theorem Sdl.mono {m n m' n' : Nat} {ds : List PyData} (h : Sdl m n ds) (a : m ≤ m') (b : n ≤ n') : Sdl m' n' ds := ⟨h.sh, Nat.le_trans h.dp a, Nat.le_trans h.ln b⟩
theorem Sdl.mem {m n : Nat} : ∀ {ds : List PyData}, Sdl m n ds → ∀ d ∈ ds, Sd m n d
  | d :: ds, h, e, he => by
    have s := Sdl.split (xs := [d]) (ys := ds) h
    rcases List.mem_cons.mp he with rfl | he
    · obtain ⟨h1, h2, h3⟩ := s.1
      rw [PyData.showableAll, PyData.showableAll, Bool.and_true] at h1
      rw [PyData.shownAll, PyData.shownAll, piled_cons, piled_nil] at h3
      exact ⟨h1, Nat.le_trans (Nat.le_max_left _ _) h2, by omega⟩
    · exact s.2.mem e he
def ShT (l : Bool) (m n : Nat) (H : Hp) (vs : List V) : Prop := ∃ ds, RpAll l H vs ds ∧ Sdl m n ds
section
variable {l : Bool} {m n m' n' : Nat} {H H' : Hp} {v : V} {vs us : List V} {a : Addr}
theorem ShT.keep (k : KeepT H H') (h : ShT l m n H vs) : ShT l m n H' vs := let ⟨d, r, s⟩ := h; ⟨d, r.mono k, s⟩
theorem ShT.mono (h : ShT l m n H vs) (a : m ≤ m') (b : n ≤ n') : ShT l m' n' H vs := let ⟨d, r, s⟩ := h; ⟨d, r, s.mono a b⟩
theorem ShT.append (h : ShT l m n H vs) (t : ShT l m' n' H us) : ShT l (max m m') (n + n') H (vs ++ us) := let ⟨d, r, s⟩ := h; let ⟨ds, q, z⟩ := t; ⟨d ++ ds, r.append q, s.append z⟩
theorem ShT.take (i : Nat) (h : ShT l m n H vs) : ShT l m n H (vs.take i) := let ⟨d, r, s⟩ := h; ⟨d.take i, r.take i, s.take i⟩
theorem ShT.drop (i : Nat) (h : ShT l m n H vs) : ShT l m n H (vs.drop i) := let ⟨d, r, s⟩ := h; ⟨d.drop i, r.drop i, s.drop i⟩
theorem ShT.nil : ShT l 0 0 H [] := ⟨[], .nil, by rw [PyData.showableAll], Nat.le_refl _, by rw [PyData.shownAll]; exact Nat.le_refl _⟩
theorem ShT.one (h : Shw l m n H v) : ShT l m (n + 2) H [v] := let ⟨d, r, s⟩ := h; ⟨[d], .cons r .nil, Sdl.one s⟩
theorem ShT.get {i : Nat} (h : ShT l m n H vs) (e : vs[i]? = some v) : Shw l m n H v := by
  obtain ⟨ds, r, s⟩ := h
  obtain ⟨d, hd, rd⟩ := r.get e
  exact ⟨d, rd, s.mem d (List.mem_of_getElem? hd)⟩
theorem ShAll.st (h : ShAll l m n H vs) : ShT l m (vs.length * (n + 2)) H vs := let ⟨ds, r, s⟩ := h; ⟨ds, r, by rw [r.length]; exact Sdl.of s⟩
/-- any of the two forms -/
def ShX (m n : Nat) (H : Hp) (v : V) : Prop := ∃ l, Shw l m n H v
theorem ShX.keep (k : KeepT H H') (h : ShX m n H v) : ShX m n H' v := let ⟨l, x⟩ := h; ⟨l, x.keep k⟩
theorem ShX.mono (h : ShX m n H v) (a : m ≤ m') (b : n ≤ n') : ShX m' n' H v := let ⟨l, x⟩ := h; ⟨l, x.mono a b⟩
theorem ShX.rep (h : ShX m n H v) : ∃ t, Rep H v t := let ⟨l, d, r, _⟩ := h; ⟨_, r.rep⟩
/-- whole numbers in a thing that are small -/
inductive Tiny : Th → Prop
  | int {i : Int} : i.natAbs < 1000 → Tiny (.int i)
  | tup {ts : List Th} : (∀ t ∈ ts, Tiny t) → Tiny (.tup ts)
theorem Tiny.of {ts : List Th} (h : Tiny (.tup ts)) : ∀ t ∈ ts, Tiny t := by
  cases h with
  | tup h => exact h
def bnd : Nat → Nat
  | 0 => 4
  | d + 1 => 16 * (bnd d + 2) + 3
end
end GX
set_option Elab.async false
set_option linter.all false
set_option maxRecDepth 100000
set_option maxHeartbeats 4000000
/-! All rising rows; what tells by what is held. -/
namespace GX
open PySem PySem.Spec PyProof.Rows L2
end GX
set_option Elab.async false
set_option linter.all false
set_option maxRecDepth 100000
set_option maxHeartbeats 4000000
/-! len of a set of whole numbers. -/
namespace GX
open PySem PySem.Spec PyProof.Rows L2
end GX
set_option Elab.async false
set_option linter.all false
set_option maxRecDepth 100000
set_option maxHeartbeats 4000000
/-! Likenesses: steps, pairs, what is shown. -/
namespace GX
open PySem PySem.Spec PyProof.Rows L2
abbrev IP := Int × Int
def pV (x : IP) : List V := [.int x.1, .int x.2]
structure Stp where
  a : Int
  b : Int
  ps : List IP
def PsAt (H : Hp) (p : Addr) (xs : List IP) : Prop := ∃ qs : List Addr, H p = some (.tup (qs.map V.ref)) ∧ RefsAt pV H qs xs
def StAt (H : Hp) (p : Addr) (s : Stp) : Prop := ∃ q, H p = some (.tup [.int s.a, .int s.b, .ref q]) ∧ PsAt H q s.ps
def LkAt (H : Hp) (p : Addr) (ss : List Stp) : Prop := ∃ qs : List Addr, H p = some (.tup (qs.map V.ref)) ∧ PtsAt StAt H qs ss
def Tups (H H' : Hp) : Prop := ∀ b xs, H b = some (.tup xs) → H' b = some (.tup xs)
theorem Tups.refl (H : Hp) : Tups H H := fun _ _ e => e
theorem Tups.trans {H1 H2 H3 : Hp} (a : Tups H1 H2) (b : Tups H2 H3) : Tups H1 H3 := fun _ _ e => b _ _ (a _ _ e)
theorem Tups.same {H H' : Hp} (s : Same H H') : Tups H H' := fun _ _ e => s _ _ e
theorem PsAt.mono {H H' : Hp} {p : Addr} {xs : List IP} (k : Tups H H') (x : PsAt H p xs) : PsAt H' p xs := by
  obtain ⟨qs, h1, h2⟩ := x
  exact ⟨qs, k _ _ h1, h2.mono k⟩
theorem StAt.mono {H H' : Hp} (k : Tups H H') (p : Addr) (s : Stp) (x : StAt H p s) : StAt H' p s := by
  obtain ⟨q, h1, h2⟩ := x
  exact ⟨q, k _ _ h1, h2.mono k⟩
theorem LkAt.mono {H H' : Hp} {p : Addr} {ss : List Stp} (k : Tups H H') (x : LkAt H p ss) : LkAt H' p ss := by
  obtain ⟨qs, h1, h2⟩ := x
  exact ⟨qs, k _ _ h1, h2.mono (StAt.mono k)⟩
/-! ### what is asked -/
def IsPr (n m : Net) (x : IP) : Prop := (0 ≤ x.1 ∧ x.1 < ((n.many + n.gates.length : Nat) : Int)) ∧ (0 ≤ x.2 ∧ x.2 < ((m.many + m.gates.length : Nat) : Int))
def SameI (n : Net) (x : IP) : Prop := x.1 = x.2 ∧ x.1 < ((n.many : Nat) : Int)
def Shn (n : Net) (S : List IP) (x : IP) : Prop := SameI n x ∨ x ∈ S
def fsts (xs : List IP) : List Nat := xs.map fun x => x.1.toNat
def snds (xs : List IP) : List Nat := xs.map fun x => x.2.toNat
structure PrsOk (n m : Net) (xs : List IP) : Prop where
  l1 : 1 ≤ xs.length
  l8 : xs.length ≤ 8
  each : ∀ x ∈ xs, IsPr n m x
  rise : (fsts xs).Pairwise (· < ·)
  nod : (snds xs).Nodup
structure StpOk (n m : Net) (S : List IP) (s : Stp) : Prop where
  pr : IsPr n m (s.a, s.b)
  ps : PrsOk n m s.ps
  shn : ∀ x ∈ s.ps, Shn n S x
  tl1 : Sep n s.a.toNat (fsts s.ps)
  tl2 : Sep m s.b.toNat (snds s.ps)
  ct : contOf n (fsts s.ps) s.a.toNat = contOf m (snds s.ps) s.b.toNat
def outPs (n m : Net) : List IP := (n.outs.zip m.outs).map fun x => (((x.1 : Nat) : Int), ((x.2 : Nat) : Int))
def key (s : Stp) : IP := (s.a, s.b)
def Hlds (n m : Net) : List IP → List Stp → Prop
  | S, [] => ∀ x ∈ outPs n m, Shn n S x
  | S, s :: r => StpOk n m S s ∧ Hlds n m (S ++ [key s]) r
theorem Hlds.at_ {n m : Net} {S : List IP} {ss : List Stp} {i : Nat} {s : Stp} (e : ss[i]? = some s) : Hlds n m S (ss.drop i) ↔ (StpOk n m S s ∧ Hlds n m (S ++ [key s]) (ss.drop (i + 1))) := by
  have hi := (List.getElem?_eq_some_iff.mp e).1
  have hs : ss[i] = s := (List.getElem?_eq_some_iff.mp e).2
  rw [List.drop_eq_getElem_cons hi, hs]
  exact Iff.rfl
/-! ### whole numbers -/
/-! ### rising pairs -/
/-! ### pairs in a list -/
/-! ### the dict of what is shown -/
def pK (x : IP) : List L2.Key := [.inl x.1, .inl x.2]
theorem pK_inj {x y : IP} (h : pK x = pK y) : x = y := by
  obtain ⟨h1, h2⟩ := List.cons.inj h
  obtain ⟨h3, _⟩ := List.cons.inj h2
  exact Prod.ext (Sum.inl.inj h1) (Sum.inl.inj h3)
structure ShD (H : Hp) (d : Addr) (S : List IP) (kvs : List (List L2.Key × V)) : Prop where
  at_ : H d = some (.dT kvs)
  len : kvs.length ≤ S.length
  iff : ∀ x, (valV kvs (pK x)).isSome = true ↔ x ∈ S
theorem ShD.put {H : Hp} {d : Addr} {S : List IP} {kvs : List (List L2.Key × V)} {x : IP} (h : ShD H d S kvs) : ShD (upd H d (.dT (putK kvs (pK x) (.bl true)))) d (S ++ [x]) (putK kvs (pK x) (.bl true)) := by
  refine ⟨upd_same, ?_, fun y => ?_⟩
  · have := length_putK kvs (pK x) (.bl true)
    have := h.len
    rw [List.length_append]
    show _ ≤ _ + 1
    omega
  · rw [valV_put, List.mem_append, List.mem_singleton]
    by_cases e : y = x
    · rw [if_pos (by rw [e])]
      exact ⟨fun _ => .inr e, fun _ => rfl⟩
    · rw [if_neg (fun z => e (pK_inj z)), h.iff]
      exact ⟨.inl, fun z => z.resolve_right e⟩
end GX
set_option Elab.async false
set_option linter.all false
set_option maxRecDepth 100000
set_option maxHeartbeats 4000000
namespace GX
open PySem PySem.Spec PyProof.Rows L2
theorem Aft.dT {Ts : List Addr} {H H' : Hp} (a : Aft Ts H H') (t : Tabs Ts H) {b : Addr} {kvs : List (List L2.Key × V)} (e : H b = some (.dT kvs)) : H' b = some (.dT kvs) := a.kp b _ e (t.nott e fun _ z => by cases z)
theorem ShD.aft {Ts : List Addr} {H H' : Hp} {d : Addr} {S : List IP} {kvs : List (List L2.Key × V)} (h : ShD H d S kvs) (a : Aft Ts H H') (t : Tabs Ts H) : ShD H' d S kvs := ⟨a.dT t h.at_, h.len, h.iff⟩
theorem ShD.same {H H' : Hp} {d : Addr} {S : List IP} {kvs : List (List L2.Key × V)} (h : ShD H d S kvs) (s : Same H H') : ShD H' d S kvs := ⟨s _ _ h.at_, h.len, h.iff⟩
theorem Aft.tups {Ts : List Addr} {H H' : Hp} (a : Aft Ts H H') (t : Tabs Ts H) : Tups H H' := fun _ _ e => a.tup t e
theorem PrsOk.nd {n m : Net} {xs : List IP} (h : PrsOk n m xs) : (fsts xs).Nodup := h.rise.imp fun z => Nat.ne_of_lt z
end GX
set_option Elab.async false
set_option linter.all false
set_option maxRecDepth 100000
set_option maxHeartbeats 4000000
/-! Things, and likenesses among them. -/
namespace GX
open PySem PySem.Spec PyProof.Rows L2
/-- tuples stand; lists stay lists, dicts dicts -/
def KeepR (H H' : Hp) : Prop := ∀ b, (∀ vs, H b = some (.tup vs) → H' b = some (.tup vs)) ∧ (∀ xs, H b = some (.lst xs) → ∃ ys, H' b = some (.lst ys)) ∧ (∀ k, H b = some (.dK k) → ∃ k', H' b = some (.dK k'))
mutual
theorem Rep.keepR {H H' : Hp} (k : KeepR H H') : ∀ {v : V} {t : Th}, Rep H v t → Rep H' v t
  | _, _, .non => .non
  | _, _, .bl b => .bl b
  | _, _, .int i => .int i
  | _, _, .str x => .str x
  | _, _, .lst (a := a) e => .lst ((k a).2.1 _ e).choose_spec
  | _, _, .dic (a := a) e => .dic ((k a).2.2 _ e).choose_spec
  | _, _, .tup (a := a) e r => .tup ((k a).1 _ e) (r.keepR k)
theorem RepAll.keepR {H H' : Hp} (k : KeepR H H') : ∀ {vs : List V} {ts : List Th}, RepAll H vs ts → RepAll H' vs ts
  | _, _, .nil => .nil
  | _, _, .cons a b => .cons (a.keepR k) (b.keepR k)
end
theorem KeepR.refl (H : Hp) : KeepR H H := fun b => ⟨fun _ e => e, fun _ e => ⟨_, e⟩, fun _ e => ⟨_, e⟩⟩
theorem KeepR.trans {H1 H2 H3 : Hp} (a : KeepR H1 H2) (c : KeepR H2 H3) : KeepR H1 H3 := fun b => ⟨fun _ e => (c b).1 _ ((a b).1 _ e), fun _ e => by
  obtain ⟨_, e'⟩ := (a b).2.1 _ e
  exact (c b).2.1 _ e', fun _ e => by
  obtain ⟨_, e'⟩ := (a b).2.2 _ e
  exact (c b).2.2 _ e'⟩
theorem KeepR.same {H H' : Hp} (s : Same H H') : KeepR H H' := fun b => ⟨fun _ e => s _ _ e, fun _ e => ⟨_, s _ _ e⟩, fun _ e => ⟨_, s _ _ e⟩⟩
theorem KeepR.aft {Ts : List Addr} {H H' : Hp} (t : Tabs Ts H) (a : Aft Ts H H') : KeepR H H' := fun b => ⟨fun _ e => a.kp b _ e (t.nott e fun _ z => by cases z), fun _ e => ⟨_, a.kp b _ e (t.nott e fun _ z => by cases z)⟩, fun _ e => ⟨_, a.kp b _ e (t.nott e fun _ z => by cases z)⟩⟩
theorem KeepR.put {H : Hp} {l : Addr} {xs ys : List V} (h : H l = some (.lst xs)) : KeepR H (upd H l (.lst ys)) := fun b => by
  by_cases e : b = l
  · subst e
    exact ⟨fun _ z => (by rw [h] at z; cases z), fun _ _ => ⟨_, upd_same⟩, fun _ z => (by rw [h] at z; cases z)⟩
  · exact ⟨fun _ z => (by rw [upd_ne e]; exact z), fun _ z => ⟨_, by rw [upd_ne e]; exact z⟩, fun _ z => ⟨_, by rw [upd_ne e]; exact z⟩⟩
theorem KeepR.wk {W C : Addr} {H H' : Hp} (w : Wd H W C) (k : Wk2 W C H H') : KeepR H H' := fun b => by
  obtain ⟨ns, x, y, h1, h2, _⟩ := w.ex
  obtain ⟨ns', x', y', g1, g2, _⟩ := k.wl.ex
  by_cases e1 : b = W
  · subst e1
    exact ⟨fun _ z => (by rw [h1] at z; cases z), fun _ _ => ⟨_, g1⟩, fun _ z => (by rw [h1] at z; cases z)⟩
  · by_cases e2 : b = C
    · subst e2
      exact ⟨fun _ z => (by rw [h2] at z; cases z), fun _ _ => ⟨_, g2⟩, fun _ z => (by rw [h2] at z; cases z)⟩
    · exact ⟨fun _ z => k.at_ ⟨e1, e2⟩ z, fun _ z => ⟨_, k.at_ ⟨e1, e2⟩ z⟩, fun _ z => ⟨_, k.at_ ⟨e1, e2⟩ z⟩⟩
/-! ### pairs, steps -/
theorem isB_iff {t : Th} {b : Int} : t.isB b = true ↔ ∃ i, t = .int i ∧ 0 ≤ i ∧ i < b := by
  cases t with
  | int i =>
    show (decide (0 ≤ i) && decide (i < b)) = true ↔ _
    rw [Bool.and_eq_true, decide_eq_true_iff, decide_eq_true_iff]
    exact ⟨fun h => ⟨i, rfl, h⟩, fun ⟨j, e, h⟩ => by cases e; exact h⟩
  | _ => exact ⟨fun h => (by cases h), fun ⟨_, e, _⟩ => by cases e⟩
end GX
set_option Elab.async false
set_option linter.all false
set_option maxRecDepth 100000
set_option maxHeartbeats 4000000
/-! The way past some wires, step by step up what is free. -/
namespace GX
open PySem PySem.Spec PyProof.Rows L2
def stB (n : Net) (x y : Nat) : Bool := decide (n.many ≤ y) && (match n.gates[y - n.many]? with | some k => decide (x = k.2.1 ∨ x = k.2.2) | none => false)
theorem stB_iff {n : Net} {x y : Nat} : stB n x y = true ↔ isSt n x y := by
  unfold stB isSt
  rw [Bool.and_eq_true, decide_eq_true_iff]
  refine ⟨fun ⟨h1, h2⟩ => ⟨h1, ?_⟩, fun ⟨h1, k, hk, h2⟩ => ⟨h1, ?_⟩⟩
  · cases e : n.gates[y - n.many]? with
    | none => rw [e] at h2; cases h2
    | some k =>
      rw [e] at h2
      exact ⟨k, rfl, of_decide_eq_true h2⟩
  · rw [hk]
    exact decide_eq_true h2
/-- None, or a tuple of whole numbers -/
def VRep (H : Hp) (v : V) : Option (List Nat) → Prop
  | none => v = .non
  | some ys => ∃ p, v = .ref p ∧ H p = some (.tup (ys.map nV))
theorem VRep.mono {H H' : Hp} {v : V} {r : Option (List Nat)} (h : VRep H v r) (k : ∀ b xs, H b = some (.tup xs) → H' b = some (.tup xs)) : VRep H' v r := by
  cases r with
  | none => exact h
  | some ys =>
    obtain ⟨p, e, hp⟩ := h
    exact ⟨p, e, k _ _ hp⟩
theorem dpNs (K : PySem.W.Frag) (H : Hp) : ∀ xs : List Nat, DpAll K H (xs.map nV) ((xs.map fun n : Nat => (n : Int)).map PyData.int)
  | [] => .nil
  | x :: r => .cons (.int _) (dpNs K H r)
/-- the same, compared -/
theorem VRep.dp {K : PySem.W.Frag} {H : Hp} {v : V} {r : Option (List Nat)} (h : VRep H v r) : ∃ d, (∀ v' : V, VRep H v' r → Dp K H v' d) ∧ SeqAt.shaped d = true ∧ PyData.eqv d d = true := by
  cases r with
  | none => exact ⟨.none, fun v' e => by cases e; exact .non, rfl, rfl⟩
  | some ys =>
    have sh : SeqAt.shaped (.tuple ((ys.map fun n : Nat => (n : Int)).map PyData.int)) = true := PySem.W.ke_shaped_ints (ys.map fun n : Nat => (n : Int))
    exact ⟨.tuple ((ys.map fun n : Nat => (n : Int)).map PyData.int), fun v' ⟨p, e, hp⟩ => by subst e; exact .tup (SqT.of hp) (dpNs K H ys), sh, SeqAt.eqv_refl _ (SeqAt.canLay_of_shaped sh)⟩
end GX
set_option Elab.async false
set_option linter.all false
set_option maxRecDepth 100000
set_option maxHeartbeats 4000000
/-! Covers among things. -/
namespace GX
open PySem PySem.Spec PyProof.Rows L2
theorem pts_rep {α : Type} {R : Hp → Addr → α → Prop} {f : α → Th} {H : Hp} (h : ∀ p x, R H p x → Rep H (.ref p) (f x)) : ∀ {qs : List Addr} {xs : List α}, PtsAt R H qs xs → RepAll H (qs.map V.ref) (xs.map f)
  | [], xs, p => by
    have : xs = [] := List.length_eq_zero_iff.mp p.1.symm
    subst this
    exact .nil
  | q :: qs, xs, p => by
    cases xs with
    | nil => cases p.1
    | cons y r => exact .cons (h q y (p.2 0 q y rfl rfl)) (pts_rep h ⟨Nat.succ.inj p.1, fun i p' z e1 e2 => p.2 (i + 1) p' z e1 e2⟩)
theorem map_inj' {α : Type} {f : α → Th} (h : ∀ x y, f x = f y → x = y) : ∀ {xs ys : List α}, xs.map f = ys.map f → xs = ys
  | [], [], _ => rfl
  | [], _ :: _, e => by cases e
  | _ :: _, [], e => by cases e
  | x :: xs, y :: ys, e => by
    rw [List.map_cons, List.map_cons] at e
    injection e with h1 h2
    rw [h _ _ h1, map_inj' h h2]
theorem tup_inj {xs ys : List Th} (h : Th.tup xs = Th.tup ys) : xs = ys := by injection h
theorem int_inj {x y : Int} (h : Th.int x = Th.int y) : x = y := by injection h
def thW (x : Nat) : Th := .int ((x : Nat) : Int)
theorem thW_inj (x y : Nat) (h : thW x = thW y) : x = y := Int.ofNat_inj.mp (int_inj h)
def thWs (xs : List Nat) : Th := .tup (xs.map thW)
theorem thWs_inj {xs ys : List Nat} (h : thWs xs = thWs ys) : xs = ys := map_inj' thW_inj (tup_inj h)
theorem rep_nats {H : Hp} : ∀ xs : List Nat, RepAll H (xs.map nV) (xs.map thW)
  | [] => .nil
  | x :: xs => .cons (.int _) (rep_nats xs)
theorem nats_rep {H : Hp} : ∀ {vs : List V} {xs : List Nat}, RepAll H vs (xs.map thW) → vs = xs.map nV
  | _, [], .nil => rfl
  | _, x :: xs, .cons r ra => by
    have e : ∀ v, Rep H v (thW x) → v = nV x := fun v r => by
      unfold thW at r
      cases r
      rfl
    rw [e _ r, nats_rep ra]
    rfl
theorem rep_wsT {H : Hp} {p : Addr} {xs : List Nat} (h : H p = some (.tup (xs.map nV))) : Rep H (.ref p) (thWs xs) := .tup h (rep_nats xs)
theorem wsT_rep {H : Hp} {v : V} {xs : List Nat} (r : Rep H v (thWs xs)) : ∃ p, v = .ref p ∧ H p = some (.tup (xs.map nV)) := by
  unfold thWs at r
  cases r with
  | @tup a vs _ e ra => exact ⟨a, rfl, by rw [e, nats_rep ra]⟩
/-- a thing that is no tuple -/
theorem Rep.tupI {H : Hp} {v : V} {t : Th} (r : Rep H v t) (h : ¬ ((!t.kTup) = true)) : ∃ a vs ts, v = .ref a ∧ t = .tup ts ∧ H a = some (.tup vs) ∧ RepAll H vs ts := by
  cases r with
  | @tup a vs ts e ra => exact ⟨a, vs, ts, rfl, rfl, e, ra⟩
  | _ => exact absurd rfl h
theorem yesK {t : Th} (h : (!t.kTup) = true) : ∀ ts, t ≠ .tup ts := fun ts e => by
  rw [e] at h
  cases h
theorem isB_nat {t : Th} {b : Nat} : t.isB ((b : Nat) : Int) = true ↔ ∃ x : Nat, t = thW x ∧ x < b := by
  rw [isB_iff]
  constructor
  · rintro ⟨i, e, h0, h1⟩
    obtain ⟨x, rfl⟩ := Int.eq_ofNat_of_zero_le h0
    exact ⟨x, e, by omega⟩
  · rintro ⟨x, e, h⟩
    exact ⟨_, e, by omega, by omega⟩
end GX
set_option Elab.async false
set_option linter.all false
set_option maxRecDepth 100000
set_option maxHeartbeats 4000000
/-! Layouts as data, and how they stand in the heap. -/
namespace GX
open PySem PySem.Spec PyProof.Rows L2
structure Lay where
  many : Nat
  tabs : List (List Nat × List Nat)
  outs : List Nat
structure tabOk (w : Nat) (t : List Nat × List Nat) : Prop where
  p1 : 1 ≤ t.1.length
  p4 : t.1.length ≤ 4
  lt : ∀ x ∈ t.1, x < w
  rise : t.1.Pairwise (· < ·)
  len : t.2.length = 2 ^ t.1.length
  bit : ∀ x ∈ t.2, x < 2
structure Lay.Ok (l : Lay) : Prop where
  m1 : 1 ≤ l.many
  m8 : l.many ≤ 8
  t16 : l.tabs.length ≤ 16
  ts : ∀ (i : Nat) (t : List Nat × List Nat), l.tabs[i]? = some t → tabOk (l.many + i) t
  o1 : 1 ≤ l.outs.length
  o8 : l.outs.length ≤ 8
  os : ∀ o ∈ l.outs, o < l.many + l.tabs.length
/-- a table in the heap -/
def TabAt (H : Hp) (p : Addr) (t : List Nat × List Nat) : Prop := ∃ a b, H p = some (.tup [.ref a, .ref b]) ∧ H a = some (.tup (t.1.map nV)) ∧ H b = some (.tup (t.2.map nV))
theorem TabAt.mono {H H' : Hp} {p : Addr} {t : List Nat × List Nat} (x : TabAt H p t) (k : ∀ b xs, H b = some (.tup xs) → H' b = some (.tup xs)) : TabAt H' p t := by
  obtain ⟨a, b, h1, h2, h3⟩ := x
  exact ⟨a, b, k _ _ h1, k _ _ h2, k _ _ h3⟩
def TabsAt (H : Hp) (ps : List Addr) (ts : List (List Nat × List Nat)) : Prop := ps.length = ts.length ∧ ∀ (i : Nat) (p : Addr) (t : List Nat × List Nat), ps[i]? = some p → ts[i]? = some t → TabAt H p t
theorem TabsAt.nil (H : Hp) : TabsAt H [] [] := ⟨rfl, fun i p g e _ => by simp at e⟩
theorem TabsAt.mono {H H' : Hp} {ps : List Addr} {ts : List (List Nat × List Nat)} (x : TabsAt H ps ts) (k : ∀ b xs, H b = some (.tup xs) → H' b = some (.tup xs)) : TabsAt H' ps ts := ⟨x.1, fun i p g e1 e2 => (x.2 i p g e1 e2).mono k⟩
theorem TabsAt.push {H : Hp} {ps : List Addr} {ts : List (List Nat × List Nat)} {q : Addr} {y : List Nat × List Nat} (x : TabsAt H ps ts) (h : TabAt H q y) : TabsAt H (ps ++ [q]) (ts ++ [y]) := by
  refine ⟨by rw [List.length_append, List.length_append, x.1]; rfl, fun i r g e1 e2 => ?_⟩
  by_cases hi : i < ps.length
  · rw [List.getElem?_append_left hi] at e1
    rw [List.getElem?_append_left (by rw [← x.1]; exact hi)] at e2
    exact x.2 i r g e1 e2
  · rw [List.getElem?_append_right (by omega)] at e1
    rw [List.getElem?_append_right (by rw [← x.1]; omega)] at e2
    have hz : i - ps.length = 0 := by
      obtain ⟨h1, _⟩ := List.getElem?_eq_some_iff.mp e1
      simp at h1
      omega
    rw [hz] at e1
    rw [← x.1, hz] at e2
    cases e1
    cases e2
    exact h
theorem TabsAt.at_ {H : Hp} {ps : List Addr} {ts : List (List Nat × List Nat)} (x : TabsAt H ps ts) {i : Nat} {v : V} (e : (ps.map V.ref)[i]? = some v) : ∃ q y, v = .ref q ∧ ts[i]? = some y ∧ TabAt H q y := by
  rw [List.getElem?_map] at e
  cases h : ps[i]? with
  | none => rw [h] at e; cases e
  | some q =>
    rw [h] at e
    cases e
    have h2 : i < ts.length := by rw [← x.1]; exact (List.getElem?_eq_some_iff.mp h).1
    exact ⟨q, ts[i], rfl, List.getElem?_eq_getElem h2, x.2 i q _ h (List.getElem?_eq_getElem h2)⟩
structure LayAt (H : Hp) (a : Addr) (l : Lay) (g o : Addr) (ps : List Addr) : Prop where
  top : H a = some (.tup [nV l.many, .ref g, .ref o])
  gt : H g = some (.tup (ps.map V.ref))
  ts : TabsAt H ps l.tabs
  ot : H o = some (.tup (l.outs.map nV))
theorem LayAt.mono {H H' : Hp} {a g o : Addr} {l : Lay} {ps : List Addr} (x : LayAt H a l g o ps) (k : ∀ b xs, H b = some (.tup xs) → H' b = some (.tup xs)) : LayAt H' a l g o ps := ⟨k _ _ x.top, k _ _ x.gt, x.ts.mono k, k _ _ x.ot⟩
end GX
set_option Elab.async false
set_option linter.all false
set_option maxRecDepth 100000
set_option maxHeartbeats 4000000
/-! Layouts among things. -/
namespace GX
open PySem PySem.Spec PyProof.Rows L2
theorem all_isB {c : Nat} : ∀ {ts : List Th}, ts.all (Th.isB ((c : Nat) : Int)) = true ↔ ∃ xs : List Nat, ts = xs.map thW ∧ ∀ x ∈ xs, x < c
  | [] => ⟨fun _ => ⟨[], rfl, fun x hx => by cases hx⟩, fun _ => rfl⟩
  | t :: ts => by
    rw [List.all_cons, Bool.and_eq_true, isB_nat, all_isB]
    constructor
    · rintro ⟨⟨x, rfl, h⟩, xs, rfl, g⟩
      exact ⟨x :: xs, rfl, fun y hy => by
        rcases List.mem_cons.mp hy with rfl | hy
        · exact h
        · exact g y hy⟩
    · rintro ⟨xs, e, g⟩
      cases xs with
      | nil => cases e
      | cons x xs =>
        rw [List.map_cons] at e
        injection e with e1 e2
        exact ⟨⟨x, e1, g x List.mem_cons_self⟩, xs, e2, fun y hy => g y (List.mem_cons_of_mem _ hy)⟩
end GX
set_option Elab.async false
set_option linter.all false
set_option maxRecDepth 100000
set_option maxHeartbeats 4000000
/-! Generator expressions of two clauses. -/
namespace GX
open PySem PySem.Spec PyProof.Rows L2 GenW
theorem compTurn2g_out (elt t0 i0 t1 i1 : Expr) (ifs0 ifs1 : List Expr) (scope : Scope) (pos : Pos) (it acc : Value) (env : Env) :
    compTurn (.GeneratorExp elt [⟨t0, i0, ifs0, 0⟩, ⟨t1, i1, ifs1, 0⟩] scope pos) 0 it acc env = (do
      standAt i0.pos
      match ← pyNext it with
      | none => pure (.done .next)
      | some v =>
        letOwnedTupleGo t0 it v
        assign t0 env v
        let mut ok := true
        for c in ifs0 do
          if ok then ok ← isTrue c env (eval c env)
        if ok then
          let x ← eval i1 env
          standAt i1.pos
          let x ← foldedSetIterable i1 env x
          let _ ← runOwn (.compStart (.GeneratorExp elt [⟨t0, i0, ifs0, 0⟩, ⟨t1, i1, ifs1, 0⟩] scope pos) 1 (← holding [x] (pyIter x)) acc env) env
        again (.compLoop (.GeneratorExp elt [⟨t0, i0, ifs0, 0⟩, ⟨t1, i1, ifs1, 0⟩] scope pos) 0 it acc env)) := by rfl
theorem compTurn2g_in (elt t0 i0 t1 i1 : Expr) (ifs0 ifs1 : List Expr) (scope : Scope) (pos : Pos) (it acc : Value) (env : Env) :
    compTurn (.GeneratorExp elt [⟨t0, i0, ifs0, 0⟩, ⟨t1, i1, ifs1, 0⟩] scope pos) 1 it acc env = (do
      standAt i1.pos
      match ← pyNext it with
      | none => pure (.done .next)
      | some v =>
        letOwnedTupleGo t1 it v
        assign t1 env v
        let mut ok := true
        for c in ifs1 do
          if ok then ok ← isTrue c env (eval c env)
        if ok then
          (do let v ← eval elt env; standAt elt.pos; let _ ← yieldOut env v)
        again (.compLoop (.GeneratorExp elt [⟨t0, i0, ifs0, 0⟩, ⟨t1, i1, ifs1, 0⟩] scope pos) 1 it acc env)) := by rfl
theorem over_comp1 {A : Around} {elt elt' : Expr} {gs gs' : List Comprehension} {scope scope' : Scope} {pos pos' : Pos} {it acc it' acc' : Value} {env env' : Env} {k : Result → Sem Fin} {g : Bool} {l : List Value} {p : Pos} :
    A.over (.compLoop (.GeneratorExp elt gs scope pos) 1 it acc env) [.ret k none g l (.compLoop (.GeneratorExp elt' gs' scope' pos') 0 it' acc' env') p []] = A.deeper env' := by
  rfl
/-- the turns' reading, two clauses: vs the names of both targets, vs1 those of the second -/
def Turns2 (J : It) (g : TG) (tt : TT) (wi1 : TI) (g1 : TG) (tt1 : TT) (te : TE) (vs vs1 : List Nat) (σ0 : L2.St) (C : Con) (W : Nat → Nat → List V → Hp → Prop) : Prop := ∀ i m ys H, W i m ys H →
  (J.stop i H ∧ C.Fi ys H) ∨ (J.go i H ∧ ∀ x H', J.yld i H x H' → g x σ0 H' fun σ2 H2 => wipe σ2 vs = σ0 ∧ tt σ2 H2 fun b H3 =>
    if b = true then wi1 σ2 H3 fun J1 H4 => ∃ W1 : Nat → Nat → List V → Hp → Prop, (∃ k, k < m ∧ W1 0 k ys H4) ∧ ∀ j k ys1 H, W1 j k ys1 H →
      (J1.stop j H ∧ ∃ m', m' < k ∧ W (i + 1) m' ys1 H) ∨ (J1.go j H ∧ ∃ Nx1 : List V → Hp → Prop, (∀ ys' H', Nx1 ys' H' → ∃ k', k' < k ∧ W1 (j + 1) k' ys' H') ∧ ∀ x H', J1.yld j H x H' → g1 x (wipe σ2 vs1) H' fun σ3 H5 => wipe σ3 vs1 = wipe σ2 vs1 ∧ tt1 σ3 H5 fun b H6 =>
        if b = true then te σ3 H6 fun y H7 => C.Kx ys1 y H7 ∧ (C.Cn ys1 y → Nx1 (ys1 ++ [y]) H7) else Nx1 ys1 H6)
    else ∃ m', m' < m ∧ W (i + 1) m' ys H3)
section
variable {Y : Cx} {C : Con} {A0 : Around} {elt tg iter tg1 iter1 : Expr} {ifs ifs1 : List Expr} {scope : Scope} {pos : Pos} {it a : Addr} {fp : List Addr} {tn : Nat → Heap → Prop} {go : Obj} {J : It} {g g1 : TG} {tt tt1 : TT} {wi1 : TI} {te : TE} {vs vs1 : List Nat} {σ0 : L2.St} {W : Nat → Nat → List V → Hp → Prop}
theorem seg_loop2 (hA : A0.deeper Y.env = Y.A) (hc : Y.calm = true) (hx : ∀ e s, Y.xe e s → False) (hpn : Y.pn = []) (hco : Y.env.scope.isCoroutine = false)
    (CO : C.Ok) (hB : Aprt Y C.B fp a) (hst : ∀ b ∈ fp, b ≠ Y.env.locals ∧ b ∉ Y.fs ∧ (b ∈ Y.ex ∨ Y.s_0.heap.objs.size ≤ b) ∧ ∀ x c, Y.env.cells.lookup x = some c → c ≠ b)
    (T : Turn Y.prog Y.w Y.K tg J fp it tn) (hg : PG Y tg g) (ht : PTs Y ifs tt) (hi1 : PI Y tg1 iter1 wi1) (hg1 : PG Y tg1 g1) (ht1 : PTs Y ifs1 tt1) (he : PE Y elt te) (hs1 : ∀ x, foldedSetIterable iter1 Y.env x = pure x) (hv : ∀ i ∈ vs1, i ∈ vs) (turns : Turns2 J g tt wi1 g1 tt1 te vs vs1 σ0 C W) :
    ∀ (m i n : Nat) (ys : List V) (s₀ s : Shared), m < n → GSt Y C fp tn a go σ0 W i m ys s →
      Seg (model Y.prog Y.w) A0 (fun n s₀ r s₁ => r = .ok .next ∧ RG Y C a go σ0 n s₀ s₁) (YG Y C a go σ0) n s₀
        (.compLoop (.GeneratorExp elt [⟨tg, iter, ifs, 0⟩, ⟨tg1, iter1, ifs1, 0⟩] scope pos) 0 (.ref it) .none Y.env)
        ((model Y.prog Y.w).den (.compLoop (.GeneratorExp elt [⟨tg, iter, ifs, 0⟩, ⟨tg1, iter1, ifs1, 0⟩] scope pos) 0 (.ref it) .none Y.env)) [] s := by
  have hA0 : A0.over (.compLoop (.GeneratorExp elt [⟨tg, iter, ifs, 0⟩, ⟨tg1, iter1, ifs1, 0⟩] scope pos) 0 (.ref it) .none Y.env) [] = Y.A := over_comp.trans hA
  have hy : ∀ v, yieldOut Y.env v = yieldValue v := fun v => by simp only [yieldOut, hco, Bool.false_eq_true, if_false]
  intro m
  induction m using Nat.strongRecOn with
  | ind m ih =>
    intro i n ys s₀ s hmn ⟨pins, H, hP, I, st, fr, w⟩
    have stat : ∀ {ys' : List V} {pins' : List (Addr × Obj)} {H' : Hp}, C.Pn ys' pins' → (∀ b ∈ fp, H' b = none) → ∀ b ∈ fp, FpOk Y ((a, go) :: pins') H' b := fun hP' hn b hb => by
      obtain ⟨h1, h2, h3, h4⟩ := hst b hb
      refine ⟨hn b hb, h1, h2, h3, h4, fun p hp => ?_⟩
      rw [hpn] at hp
      rcases List.mem_cons.mp (show p ∈ (a, go) :: _ from hp) with e | hp
      · rw [e]; intro e2; have e3 : a = b := e2; exact hB.af (by rw [e3]; exact hb)
      · intro e2; exact hB.bf _ (CO.pn _ _ hP' p hp).1 (by rw [e2]; exact hb)
    show Seg _ A0 _ _ _ s₀ _ ((compTurn (.GeneratorExp elt [⟨tg, iter, ifs, 0⟩, ⟨tg1, iter1, ifs1, 0⟩] scope pos) 0 (.ref it) .none Y.env).onRaise (leaving Y.env)) [] s
    rw [compTurn2g_out, Sem.onRaise_eq_wrap]
    refine seg_bind_wrap (wpAny_standAt ?_)
    rcases turns i m ys H w with ⟨stop, q⟩ | ⟨go1, step⟩
    · refine seg_bind_wrap ?_
      rw [hA0]
      refine thn (T.done Y rfl rfl rfl hc i _ s σ0 H _ I (stat hP fr) st stop) fun r s1 ⟨hr, I1⟩ => ?_
      subst hr
      exact seg_end (.ok .next) ⟨rfl, ys, pins, H, hP, I1, q⟩
    refine seg_bind_wrap ?_
    rw [hA0]
    refine thn (T.item Y rfl rfl rfl hc i _ s σ0 H _ I (stat hP fr) st go1) fun r s1 ⟨u, hr, h1⟩ => ?_
    subst hr
    refine seg_bind_wrap ?_
    rw [hA0]
    refine thn h1 fun _ s2 ⟨x, H2, I2, rx, y2, st2, fr2⟩ => ?_
    have I2' := I2.pinned (stat hP fr2) (T.obj _ _ st2)
    refine seg_bind_wrap ?_
    rw [hA0]
    refine wpAny_mono (hg.run _ s2 σ0 H2 x u _ I2' rx (step x H2 y2)) (fun _ s3 ⟨σ3, H3, I3, hw, q3⟩ => ?_) (fun e s' z => (hx e s' z).elim)
    refine seg_bind_wrap ?_
    rw [hA0]
    refine wpAny_mono (ht.run _ s3 σ3 H3 _ I3 q3) (fun b s4 ⟨H4, I4, q4⟩ => ?_) (fun e s' z => (hx e s' z).elim)
    have weak : ∀ {pl : List (Addr × Obj)} {H' : Hp} {s' : Shared}, Inv Y pl σ3 H' s' → Inv Y pl σ0 H' s' := fun I' => by
      refine I'.weak (by rw [← hw, wipe_length]) fun j v e => ?_
      rw [← hw] at e
      exact (wipe_some e).1
    have tnk : ∀ {σ' : L2.St} {H' : Hp} {s' : Shared}, Inv Y ((a, go) :: pins ++ pinsAt fp s2.heap) σ' H' s' → tn (i + 1) s'.heap ∧ ∀ b ∈ fp, H' b = none := fun I' => by
      refine ⟨T.keep _ _ _ st2 fun b hb o e => (I'.pin (b, o) (List.mem_append_right _ (List.mem_append_right _ (mem_pinsAt hb e)))).1, fun b hb => ?_⟩
      obtain ⟨o, e, d⟩ := T.obj _ _ st2 b hb
      exact (I'.pin (b, o) (List.mem_append_right _ (List.mem_append_right _ (mem_pinsAt hb e)))).2.1
    cases b with
    | false =>
      rw [if_neg Bool.false_ne_true] at q4
      obtain ⟨m', hm, w'⟩ := q4
      obtain ⟨t4, f4⟩ := tnk I4
      simp only [Bool.false_eq_true, if_false]
      exact seg_again rfl (ih m' hm (i + 1) n ys s₀ s4 (by omega) ⟨pins, H4, hP, (weak I4).unpinned, t4, f4, w'⟩)
    | true =>
      rw [if_pos rfl] at q4
      simp only [if_true]
      refine seg_bind_wrap ?_
      rw [hA0]
      refine wpAny_mono (hi1.run _ s4 σ3 H4 _ I4 q4) (fun xv s5 hx5 => ?_) (fun e s' z => (hx e s' z).elim)
      refine seg_bind_wrap (wpAny_standAt ?_)
      refine seg_bind_wrap (wpAny_of_eq (hs1 xv) ?_)
      refine seg_bind_wrap (wpAny_holding ?_)
      rw [hA0]
      refine wpAny_mono hx5 (fun itv s6 h6 => ?_) (fun e s' z => (hx e s' z).elim)
      obtain ⟨it1, fp1, tn1, J1, H6, e1, I6, T1, st6, f6, W1, ⟨k1, hk1, w1⟩, turn1⟩ := h6
      subst e1
      obtain ⟨t6, n6⟩ := tnk I6
      -- the inner loop, above a frame
      have inner : ∀ (K : Result → Sem Fin) (gd : Bool) (l : List Value) (p : Pos), gd = false → (∀ n s₀ s, Seg (model Y.prog Y.w) A0 (fun n s₀ r s₁ => r = .ok .next ∧ RG Y C a go σ0 n s₀ s₁) (YG Y C a go σ0) n s₀ (.compLoop (.GeneratorExp elt [⟨tg, iter, ifs, 0⟩, ⟨tg1, iter1, ifs1, 0⟩] scope pos) 0 (.ref it) .none Y.env) (.pure (.again (.compLoop (.GeneratorExp elt [⟨tg, iter, ifs, 0⟩, ⟨tg1, iter1, ifs1, 0⟩] scope pos) 0 (.ref it) .none Y.env))) [] s →
            Seg (model Y.prog Y.w) A0 (fun n s₀ r s₁ => r = .ok .next ∧ RG Y C a go σ0 n s₀ s₁) (YG Y C a go σ0) n s₀ (.compLoop (.GeneratorExp elt [⟨tg, iter, ifs, 0⟩, ⟨tg1, iter1, ifs1, 0⟩] scope pos) 0 (.ref it) .none Y.env) (K (.ok .next)) [] s) →
          ∀ k, k < m → ∀ (j n : Nat) (ys1 : List V) (s₀ s : Shared), k < n → (∃ pins' H', C.Pn ys1 pins' ∧ Inv Y ((a, go) :: pins') (wipe σ3 vs1) H' s ∧ tn (i + 1) s.heap ∧ (∀ b ∈ fp, H' b = none) ∧ tn1 j s.heap ∧ (∀ b ∈ fp1, H' b = none) ∧ W1 j k ys1 H') →
            Seg (model Y.prog Y.w) A0 (fun n s₀ r s₁ => r = .ok .next ∧ RG Y C a go σ0 n s₀ s₁) (YG Y C a go σ0) n s₀
              (.compLoop (.GeneratorExp elt [⟨tg, iter, ifs, 0⟩, ⟨tg1, iter1, ifs1, 0⟩] scope pos) 1 (.ref it1) .none Y.env)
              ((model Y.prog Y.w).den (.compLoop (.GeneratorExp elt [⟨tg, iter, ifs, 0⟩, ⟨tg1, iter1, ifs1, 0⟩] scope pos) 1 (.ref it1) .none Y.env))
              [.ret K none gd l (.compLoop (.GeneratorExp elt [⟨tg, iter, ifs, 0⟩, ⟨tg1, iter1, ifs1, 0⟩] scope pos) 0 (.ref it) .none Y.env) p []] s := by
        intro K gd l p hgd hK k
        subst hgd
        have hA1 : A0.over (.compLoop (.GeneratorExp elt [⟨tg, iter, ifs, 0⟩, ⟨tg1, iter1, ifs1, 0⟩] scope pos) 1 (.ref it1) .none Y.env) [.ret K none false l (.compLoop (.GeneratorExp elt [⟨tg, iter, ifs, 0⟩, ⟨tg1, iter1, ifs1, 0⟩] scope pos) 0 (.ref it) .none Y.env) p []] = Y.A := over_comp1.trans hA
        have nB : ∀ b ∈ fp1, b ∉ C.B := fun b hb hb2 => by
          obtain ⟨o, ho⟩ := CO.all _ _ hP b hb2
          exact (f6 b hb).2.2.2.2.2 (b, o) (List.mem_append_right _ (List.mem_append_left _ (List.mem_cons_of_mem _ ho))) rfl
        have nfp : ∀ b ∈ fp1, b ∉ fp := fun b hb hb2 => by
          obtain ⟨o, e, _⟩ := T.obj _ _ st2 b hb2
          exact (f6 b hb).2.2.2.2.2 (b, o) (List.mem_append_right _ (List.mem_append_right _ (mem_pinsAt hb2 e))) rfl
        have na : ∀ b ∈ fp1, a ≠ b := fun b hb => (f6 b hb).2.2.2.2.2 (a, go) (List.mem_append_right _ (List.mem_append_left _ List.mem_cons_self))
        have weak1 : ∀ {pl : List (Addr × Obj)} {H' : Hp} {s' : Shared}, Inv Y pl (wipe σ3 vs1) H' s' → Inv Y pl σ0 H' s' := fun I' => by
          refine I'.weak (by rw [← hw, wipe_length, wipe_length]) fun j v e => ?_
          rw [← hw] at e
          obtain ⟨e1, e2⟩ := wipe_some e
          rw [wipe_out fun z => e2 (hv j z)]
          exact e1
        induction k using Nat.strongRecOn with
        | ind k ih1 =>
          intro hkm j n ys1 s₀ s hkn ⟨pins', H', hP', I', st', fr', st1, fr1, w1⟩
          have Ip : Inv Y ((a, go) :: pins' ++ pinsAt fp s.heap) (wipe σ3 vs1) H' s := I'.pinned (stat hP' fr') (T.obj _ _ st')
          have stat1 : ∀ {H'' : Hp}, (∀ b ∈ fp1, H'' b = none) → ∀ b ∈ fp1, FpOk Y ((a, go) :: pins' ++ pinsAt fp s.heap) H'' b := fun hn b hb => by
            obtain ⟨_, h1, h2, h3, h4, _⟩ := f6 b hb
            refine ⟨hn b hb, h1, h2, h3, h4, fun p hp => ?_⟩
            rw [hpn] at hp
            rcases List.mem_append.mp (show p ∈ (a, go) :: pins' ++ pinsAt fp s.heap from hp) with hp | hp
            · rcases List.mem_cons.mp hp with e | hp
              · rw [e]; exact na b hb
              · intro e2; exact nB b hb (by rw [← e2]; exact (CO.pn _ _ hP' p hp).1)
            · intro e2; exact nfp b hb (by rw [← e2]; exact (of_pinsAt hp).1)
          show Seg _ A0 _ _ _ s₀ _ ((compTurn (.GeneratorExp elt [⟨tg, iter, ifs, 0⟩, ⟨tg1, iter1, ifs1, 0⟩] scope pos) 1 (.ref it1) .none Y.env).onRaise (fun x => do noteFrame x Y.env; theTreesLotGoes x)) _ s
          rw [compTurn2g_in, Sem.onRaise_eq_wrap]
          refine seg_bind_wrap (wpAny_standAt ?_)
          rcases turn1 j k ys1 H' w1 with ⟨stop1, m', hm', w'⟩ | ⟨go2, Nx1, hN1, step1⟩
          · refine seg_bind_wrap ?_
            rw [hA1]
            refine thn (T1.done Y rfl rfl rfl hc j _ s (wipe σ3 vs1) H' _ Ip (stat1 fr1) st1 stop1) fun r s7 ⟨hr, I7⟩ => ?_
            subst hr
            refine seg_leaf (.ok .next) (hK n s₀ s7 (seg_again rfl (ih m' (by omega) (i + 1) n ys1 s₀ s7 (by omega) ⟨pins', H', hP', weak1 I7.unpinned, ?_, fr', w'⟩)))
            exact T.keep _ _ _ st' fun b hb o e => (I7.pin (b, o) (List.mem_append_right _ (List.mem_append_right _ (mem_pinsAt hb e)))).1
          refine seg_bind_wrap ?_
          rw [hA1]
          refine thn (T1.item Y rfl rfl rfl hc j _ s (wipe σ3 vs1) H' _ Ip (stat1 fr1) st1 go2) fun r s7 ⟨u1, hr, h7⟩ => ?_
          subst hr
          refine seg_bind_wrap ?_
          rw [hA1]
          refine thn h7 fun _ s8 ⟨x1, H8, I8, r8, y8, st8, fr8⟩ => ?_
          have I8' := I8.pinned (stat1 fr8) (T1.obj _ _ st8)
          refine seg_bind_wrap ?_
          rw [hA1]
          refine wpAny_mono (hg1.run _ s8 (wipe σ3 vs1) H8 x1 u1 _ I8' r8 (step1 x1 H8 y8)) (fun _ s9 ⟨σ9, H9, I9, hw9, q9⟩ => ?_) (fun e s' z => (hx e s' z).elim)
          refine seg_bind_wrap ?_
          rw [hA1]
          refine wpAny_mono (ht1.run _ s9 σ9 H9 _ I9 q9) (fun b s10 ⟨H10, I10, q10⟩ => ?_) (fun e s' z => (hx e s' z).elim)
          have back : ∀ {H'' : Hp} {s'' : Shared}, Inv Y (((a, go) :: pins' ++ pinsAt fp s.heap) ++ pinsAt fp1 s8.heap) σ9 H'' s'' → Inv Y ((a, go) :: pins') (wipe σ3 vs1) H'' s'' ∧ tn (i + 1) s''.heap ∧ (∀ b ∈ fp, H'' b = none) ∧ tn1 (j + 1) s''.heap ∧ ∀ b ∈ fp1, H'' b = none := fun I'' => by
            have p1 : ∀ b ∈ fp, ∀ o, s.heap.get? b = some o → (b, o) ∈ Y.pn ++ (((a, go) :: pins' ++ pinsAt fp s.heap) ++ pinsAt fp1 s8.heap) := fun b hb o e => List.mem_append_right _ (List.mem_append_left _ (List.mem_append_right _ (mem_pinsAt hb e)))
            have p2 : ∀ b ∈ fp1, ∀ o, s8.heap.get? b = some o → (b, o) ∈ Y.pn ++ (((a, go) :: pins' ++ pinsAt fp s.heap) ++ pinsAt fp1 s8.heap) := fun b hb o e => List.mem_append_right _ (List.mem_append_right _ (mem_pinsAt hb e))
            refine ⟨I''.unpinned.unpinned.weak (by rw [← hw9, wipe_length]) fun j v e => ?_, T.keep _ _ _ st' fun b hb o e => (I''.pin _ (p1 b hb o e)).1, fun b hb => ?_, T1.keep _ _ _ st8 fun b hb o e => (I''.pin _ (p2 b hb o e)).1, fun b hb => ?_⟩
            · rw [← hw9] at e
              exact (wipe_some e).1
            · obtain ⟨o, e, d⟩ := T.obj _ _ st' b hb
              exact (I''.pin _ (p1 b hb o e)).2.1
            · obtain ⟨o, e, d⟩ := T1.obj _ _ st8 b hb
              exact (I''.pin _ (p2 b hb o e)).2.1
          cases b with
          | false =>
            rw [if_neg Bool.false_ne_true] at q10
            obtain ⟨k', hk', w'⟩ := hN1 _ _ q10
            obtain ⟨a1, a2, a3, a4, a5⟩ := back I10
            simp only [Bool.false_eq_true, if_false]
            exact seg_again rfl (ih1 k' hk' (by omega) (j + 1) n ys1 s₀ s10 (by omega) ⟨pins', H10, hP', a1, a2, a3, a4, a5, w'⟩)
          | true =>
            rw [if_pos rfl] at q10
            simp only [if_true]
            obtain ⟨n2, rfl⟩ : ∃ n2, n = n2 + 1 := ⟨n - 1, by omega⟩
            simp only [hy]
            rw [Sem.bind_eq_wrap', Sem.bind_eq_wrap', Sem.wrap_wrap, Sem.wrap_wrap]
            refine seg_wrap ?_
            rw [hA1]
            refine wpAny_mono (he.run _ s10 σ9 H10 _ I10 q10) (fun v s11 ⟨y, H11, I11, ry, kx, nx⟩ => ?_) (fun e s' z => (hx e s' z).elim)
            obtain ⟨a1, a2, a3, a4, a5⟩ := back I11
            refine seg_at (seg_yield rfl rfl rfl ⟨ys1, y, pins', H11, ry, hP', weak1 a1, kx, fun cn s12 z ⟨pins2, hP2, hp2⟩ => ?_⟩)
            obtain ⟨k', hk', w'⟩ := hN1 _ _ (nx cn)
            have hHB : ∀ b ∈ C.B, H11 b = none := fun b hb => by
              obtain ⟨o, ho⟩ := CO.all _ _ hP' b hb
              exact (a1.pin (b, o) (List.mem_append_right _ (List.mem_cons_of_mem _ ho))).2.1
            have I12 : Inv Y ((a, go) :: pins2) (wipe σ3 vs1) H11 s12 := woken hpn hB a1 hHB z fun p hp => ⟨(CO.pn _ _ hP2 p hp).1, hp2 p hp, (CO.pn _ _ hP2 p hp).2⟩
            exact seg_again rfl (ih1 k' hk' (by omega) (j + 1) n2 (ys1 ++ [y]) s12 s12 (by omega) ⟨pins2, H11, hP2, I12, T.keep _ _ _ a2 fun b hb o e => z.keep b o (fun hm => hB.bf b hm hb) e, a3, T1.keep _ _ _ a4 fun b hb o e => z.keep b o (nB b hb) e, a5, w'⟩)
      refine seg_call (c' := .compStart (.GeneratorExp elt [⟨tg, iter, ifs, 0⟩, ⟨tg1, iter1, ifs1, 0⟩] scope pos) 1 (.ref it1) .none Y.env) (fun p => ?_)
      have loop1 := fun K gd l p z1 z2 => inner K gd l p z1 z2 k1 hk1 0 n ys s₀ s6 (by omega) ⟨pins, H6, hP, I6.unpinned.weak (wipe_length _ _) (fun j v e => (wipe_some e).1), t6, n6, st6, fun b hb => (f6 b hb).1, w1⟩
      show Seg _ A0 _ _ _ s₀ _ ((compStart (.GeneratorExp elt [⟨tg, iter, ifs, 0⟩, ⟨tg1, iter1, ifs1, 0⟩] scope pos) 1 (.ref it1) .none Y.env).onRaise (fun x => do noteFrame x Y.env; standAt theWindowsPlace)) _ s6
      unfold compStart
      rw [Sem.onRaise_eq_wrap]
      show Seg _ A0 _ _ _ s₀ _ ((ask >>= _).wrap _ _ _ _) _ s6
      refine seg_bind_wrap (wpAny_askSetting ?_)
      split
      · refine seg_again rfl (loop1 _ _ _ p rfl ?_)
        exact fun _ _ _ h => h
      · refine seg_bind_wrap (wpAny_rule ?_)
        first
          | refine seg_bind_wrap (wpAny_standAt (seg_bind_wrap (T1.self _ 0 s6 _ _ st6 (seg_again rfl (loop1 _ _ _ p rfl ?_)))))
          | (show Seg _ A0 _ _ _ s₀ _ ((standAt iter1.pos >>= _).wrap _ _ _ _) _ s6; refine seg_bind_wrap (wpAny_standAt (seg_bind_wrap (T1.self _ 0 s6 _ _ st6 (seg_again rfl (loop1 _ _ _ p rfl ?_))))))
        exact fun _ _ _ h => h
end
end GX
set_option Elab.async false
set_option linter.all false
set_option maxRecDepth 100000
set_option maxHeartbeats 4000000
/-! Generator expressions of two clauses: made, and under all(..). -/
namespace GX
open PySem PySem.Spec PyProof.Rows L2 GenW
theorem eval_gx2 (elt t0 i0 t1 i1 : Expr) (f0 f1 : List Expr) (sc : Scope) (ps : Pos) (ev : Env) (nco : sc.isCoroutine = false) :
    eval (.GeneratorExp elt [⟨t0, i0, f0, 0⟩, ⟨t1, i1, f1, 0⟩] sc ps) ev = (do
      let xs ← eval i0 ev
      standAt i0.pos
      let xs ← genFold i0 ev xs
      let wk ← holding [xs] (pyIter xs)
      enterFrame
      let cz ← closureFor sc ev
      let cd ← genexprCode ev ps (ev.qual ++ "<genexpr>") sc
      let bt ← builtinsFor ev.globals ev.builtins
      let ce ← newFunctionEnv sc ev.globals cz [(".0", wk)] (ev.qual ++ "<genexpr>.") none cd none bt
      newGenerator (.compStart (.GeneratorExp elt [⟨t0, i0, f0, 0⟩, ⟨t1, i1, f1, 0⟩] sc ps) 0 wk .none ce) "<genexpr>" (ev.qual ++ "<genexpr>")) := by
  rw [arm_eval_GeneratorExp]
  simp only [nco, Bool.false_eq_true, if_false]
  cases i0 <;> rfl
theorem make_gx2 {M : Model} {A : Around} {E : Value → Shared → Prop} {s : Shared} {ev : Env} {elt t0 i0 t1 i1 : Expr} {f0 f1 : List Expr} {sc : Scope} {cz : List (Str × Addr)} {ps : Pos} {Q : Value → Shared → Prop}
    (nco : sc.isCoroutine = false) (ecz : closureFor sc ev = pure cz) (ncell : ∀ y ∈ sc.names, y.2 ≠ .cell) (dot : sc.names.lookup (".0" : Str) = some NameKind.local) (knd : sc.kind = .function) (dep : A.depth < recursionLimit)
    (h : wpAny M A (eval i0 ev) (fun xv s1 => wpAny M A (pyIter xv) (fun wk s2 => s2.heap.NoLimit ∧ wpAny M A (genexprCode ev ps (ev.qual ++ "<genexpr>") sc) (fun cd s3 => wpAny M A (builtinsFor ev.globals ev.builtins) (fun bt s4 => ∀ h1, h1.Ns s4.heap.objs.size (fun y => if y = ".0" then some wk else none) → Heap.SameBut s4.heap.objs.size (s4.heap.push { cls := .type "frame", data := .dict #[] }) h1 →
      Q (.ref h1.objs.size) { s4 with
        gens := s4.gens.push (.fresh (.compStart (.GeneratorExp elt [⟨t0, i0, f0, 0⟩, ⟨t1, i1, f1, 0⟩] sc ps) 0 wk .none (genEnv sc cz s4.heap.objs.size cd bt ev))),
        toks := s4.toks + 1 + 1 + 1,
        heap := h1.push { cls := .type "generator", data := .fields #[.int s4.gens.size 0, .str "<genexpr>" (s4.toks + 1), .str (ev.qual ++ "<genexpr>") (s4.toks + 1 + 1)] } }) E s3) E s2) E s1) E s)
    (hs : ∀ x, genFold i0 ev x = pure x) : wpAny M A (eval (.GeneratorExp elt [⟨t0, i0, f0, 0⟩, ⟨t1, i1, f1, 0⟩] sc ps) ev) Q E s := by
  rw [eval_gx2 _ _ _ _ _ _ _ _ _ _ nco, ecz]
  refine wpAny_bind (wpAny_mono h (fun xv s1 q1 => wpAny_bind (wpAny_standAt (wpAny_bind (wpAny_of_eq (hs xv) ?_)))) fun _ _ e => e)
  refine wpAny_bind (wpAny_holding (wpAny_mono q1 (fun wk s2 q2 => wpAny_bind (wpAny_enterFrame q2.1 dep (wpAny_bind (wpAny_pure ?_)))) fun _ _ e => e))
  refine wpAny_bind (wpAny_mono q2.2 (fun cd s3 q3 => wpAny_bind (wpAny_mono q3 (fun bt s4 q4 => ?_) fun _ _ e => e)) fun _ _ e => e)
  have bn : ∀ y ∈ ([((".0" : Str), wk)] : List (Str × Value)), sc.names.lookup y.1 = some NameKind.local := fun y hy => by
    rw [List.mem_singleton.mp hy]
    exact dot
  refine wpAny_bind (wpAny_newFunctionEnv ncell bn (fun h1 n1 b1 => ?_) knd)
  have el : (fun y : Str => ([((".0" : Str), wk)] : List (Str × Value)).reverse.lookup y) = fun y : Str => if y = (".0" : Str) then some wk else none := funext fun y => by
    by_cases z : y = ".0"
    · rw [z]; simp
    · have z2 : (y == (".0" : Str)) = false := by simpa using z
      simp [List.lookup, z2, z]
  rw [el] at n1
  simp only [newGenerator, newFields]
  refine wpAny_bind (wpAny_newGen (wpAny_bind (wpAny_mkText (wpAny_bind (wpAny_mkText (wpAny_newObj_type ?_ (by size_fits)))))))
  exact q4 h1 n1 b1
/-- a generator expression has been made -/
structure Made2 (X : Cx) (pins : List (Addr × Obj)) (σ : L2.St) (A0 : Around) (elt tg iter tg1 iter1 : Expr) (ifs ifs1 : List Expr) (scope : Scope) (gpos : Pos) (own : List (Str × Nat)) (it a : Addr) (fp : List Addr) (tn : Nat → Heap → Prop) (J : It) (H4 : Hp) (s4 s5 : Shared) (code : Value) (g : Nat) (go : Obj) : Prop where
  outer : Inv X pins σ H4 s4
  inner : Inv (gcx X A0 s4 H4 scope code fp) [(a, go)] (wipe σ (own.map (·.2))) H4 s5
  turn : Turn X.prog X.w X.K tg J fp it tn
  tn0 : tn 0 s5.heap
  fpk : ∀ b ∈ fp, FpOk X pins H4 b ∧ b < s4.heap.objs.size
  alo : s4.heap.objs.size < a
  asz : s5.heap.objs.size = a + 1
  gen : ∀ h : Heap, h.get? a = some go → h.IsGen a g
  gs : s5.gens[g]? = some (.fresh (.compStart (.GeneratorExp elt [⟨tg, iter, ifs, 0⟩, ⟨tg1, iter1, ifs1, 0⟩] scope gpos) 0 (.ref it) .none (gcx X A0 s4 H4 scope code fp).env))
  ga : s5.heap.get? a = some go
section
variable {X : Cx} {pins : List (Addr × Obj)} {σ : L2.St} {H : Hp} {s : Shared}
theorem gx_make2 {A0 : Around} {c P : Addr} {elt tg iter tg1 iter1 : Expr} {ifs ifs1 : List Expr} {gpos : Pos} {scope : Scope} {own : List (Str × Nat)} {wi : TI} {k : Nat} {R : It → Hp → Prop} {Q' : Value → Shared → Prop}
    (hA0h : A0.handled = none) (hA0f : A0.frames = X.A.frames) (hr : Room k X.A) (TB : GxR.TabB X.base X.mg c P) (hcode : X.env.code = .ref c) (ok : GxOk X.N X.env.scope scope own) (hN : X.N.Nodup) (hi : PI X tg iter wi)
    (hs : ∀ v, genFold iter X.env v = pure v) (I : Inv X pins σ H s) (h : wi σ H fun J H1 => GxR.TabG H1 P ∧ ∀ H2, GxR.Tabbed P H1 H2 → R J H2)
    (hQ : ∀ it a fp tn J H4 s4 s5 code g go, Made2 X pins σ A0 elt tg iter tg1 iter1 ifs ifs1 scope gpos own it a fp tn J H4 s4 s5 code g go → R J H4 → Q' (.ref a) s5) :
    wpAny (model X.prog X.w) X.A (eval (.GeneratorExp elt [⟨tg, iter, ifs, 0⟩, ⟨tg1, iter1, ifs1, 0⟩] scope gpos) X.env) Q' X.xe s := by
  have hfree : ∀ y ∈ scope.names, y.2 = .free → ∃ c, X.env.cells.lookup y.1 = some c := fun y hy e => by
    rcases ok.blk.free y hy e with k | k
    · exact I.ok.has _ (.inl k)
    · exact I.ok.has _ (.inr k)
  refine make_gx2 ok.co (closure_ok hfree) ok.cell ok.dot ok.blk.kind (by have := hr.dp; omega) ?_ hs
  refine thn (hi.run pins s σ H _ I h) fun xv s1 hx => thn hx fun itv s2 h2 => ?_
  obtain ⟨it, fp, tn, J, H2, e, I2, T, st2, f2, ⟨ps, hP, ht⟩, q⟩ := h2
  subst e
  have hPs : s2.heap.get? P = some { cls := .none, data := .fields ps } := I2.hok P _ hP
  have cd : PySem.W.CodeHd s2.heap c P := TB.code.keeps fun b u e => I2.bk b u e
  have sz : ∀ b ∈ fp, b < s2.heap.objs.size := fun b hb => by
    obtain ⟨o, e, _⟩ := T.obj _ _ st2 b hb
    exact Heap.lt_size e
  have fnP : ∀ b ∈ fp, b ≠ P := fun b hb e => by
    have q := (f2 b hb).1
    rw [e, hP] at q
    cases q
  have cont : ∀ (code : Value) (h3 : Heap) (tk : Nat) (ps' : Array Value), Heap.ExtBut P s2.heap h3 → s2.heap.objs.size ≤ h3.objs.size → h3.get? P = some { cls := .none, data := .fields ps' } → (∃ more, ps' = ps ++ more) → TriplesOk ps'.toList →
      wpAny (model X.prog X.w) X.A (builtinsFor X.env.globals X.env.builtins) (fun bi s₄ =>
        ∀ h', h'.Ns s₄.heap.objs.size (fun y => if y = ".0" then some (Value.ref it) else none) → Heap.SameBut s₄.heap.objs.size (s₄.heap.push { cls := .type "frame", data := .dict #[] }) h' →
          Q' (.ref h'.objs.size) { s₄ with
            gens := s₄.gens.push (.fresh (.compStart (.GeneratorExp elt [⟨tg, iter, ifs, 0⟩, ⟨tg1, iter1, ifs1, 0⟩] scope gpos) 0 (.ref it) .none (genEnv scope (cloFrom X.env.cells scope.names []) s₄.heap.objs.size code bi X.env))),
            toks := s₄.toks + 1 + 1 + 1,
            heap := h'.push { cls := .type "generator", data := .fields #[.int s₄.gens.size 0, .str "<genexpr>" (s₄.toks + 1), .str (X.env.qual ++ "<genexpr>") (s₄.toks + 1 + 1)] } }) X.xe { s2 with heap := h3, toks := tk } := by
    intro code h3 tk ps' hx hsz hP3 hmore ht3
    obtain ⟨more, em⟩ := hmore
    obtain ⟨bm, ob, e1, e2, e3, e4, e5, e6, e7, e8⟩ := TB.bm
    have keep3 : ∀ b u, b ≠ P → s2.heap.get? b = some u → h3.get? b = some u := fun b u hb e => hx b u hb e
    refine wpAny_builtinsFor (m := X.mg) (by rw [I2.ok.glob]; exact (I2.mod.glob.keeps I2.bk).extBut hx TB.gP) e1 e2 (keep3 _ _ e4 (I2.bk _ _ e5)) e6 e7 e8 ?_
    have I4 : Inv X pins σ (upd H2 P (.tbl (ps ++ more))) { s2 with heap := h3, toks := tk } :=
      GxR.inv_tab (more := more) (h' := h3) (g' := s2.gens) (d' := s2.drawn) (t' := tk) I2 hP (fun b u hb e => keep3 b u hb e) (by rw [← em]; exact hP3) I2.bare
    have hT4 : GxR.Tabbed P H2 (upd H2 P (.tbl (ps ++ more))) := ⟨⟨ps ++ more, upd_same, by rw [← em]; exact ht3⟩, fun b hb => upd_ne hb⟩
    have fk : ∀ b ∈ fp, FpOk X pins (upd H2 P (.tbl (ps ++ more))) b ∧ b < h3.objs.size := fun b hb => by
      refine ⟨⟨?_, (f2 b hb).2⟩, Nat.lt_of_lt_of_le (sz b hb) hsz⟩
      rw [upd_ne (fnP b hb)]
      exact (f2 b hb).1
    intro h' hn' hs'
    have hszh : h'.objs.size = h3.objs.size + 1 := by rw [hs'.1, Heap.size_push]
    have keep' : ∀ b o, h3.get? b = some o → h'.get? b = some o := fun b o e => hs'.extBut b o (Nat.ne_of_lt (Heap.lt_size e)) (Heap.get?_push_of_some _ e)
    have keep5 : ∀ b o, h3.get? b = some o → (h'.push { cls := .type "generator", data := .fields #[.int s2.gens.size 0, .str "<genexpr>" (tk + 1), .str (X.env.qual ++ "<genexpr>") (tk + 1 + 1)] }).get? b = some o := fun b o e => Heap.get?_push_of_some _ (keep' b o e)
    have hat : (h'.push { cls := .type "generator", data := .fields #[.int s2.gens.size 0, .str "<genexpr>" (tk + 1), .str (X.env.qual ++ "<genexpr>") (tk + 1 + 1)] }).get? h'.objs.size = some { cls := .type "generator", data := .fields #[.int s2.gens.size 0, .str "<genexpr>" (tk + 1), .str (X.env.qual ++ "<genexpr>") (tk + 1 + 1)] } := Heap.get?_push_size _ rfl
    have IY : Inv (gcx X A0 { s2 with heap := h3, toks := tk } (upd H2 P (.tbl (ps ++ more))) scope code fp) [] (wipe σ (own.map (·.2))) (upd H2 P (.tbl (ps ++ more)))
        { s2 with heap := h'.push { cls := .type "generator", data := .fields #[.int s2.gens.size 0, .str "<genexpr>" (tk + 1), .str (X.env.qual ++ "<genexpr>") (tk + 1 + 1)] }, gens := s2.gens.push (.fresh (.compStart (.GeneratorExp elt [⟨tg, iter, ifs, 0⟩, ⟨tg1, iter1, ifs1, 0⟩] scope gpos) 0 (.ref it) .none (genEnv scope (cloFrom X.env.cells scope.names []) h3.objs.size code builtinsNs X.env))), toks := tk + 1 + 1 + 1 } :=
      gen_start (s := { s2 with heap := h3, toks := tk }) I4 ok hN fk hA0h (hA0f.trans I2.ok.frames) (hn'.push _) keep5 (I2.bare.push rfl)
    have ano : ∀ b, b < h3.objs.size → h'.objs.size ≠ b := fun b hb => by rw [hszh]; omega
    refine hQ it h'.objs.size fp tn J _ { s2 with heap := h3, toks := tk } _ code s2.gens.size _ ⟨I4, IY.pins_of fun p hp => ?_, T, ?_, fk, ?_, ?_, ?_, Array.getElem?_push_size .., hat⟩ (q _ hT4)
    · rw [List.mem_singleton.mp hp]
      refine ⟨hat, I4.hok.fresh (by show h3.objs.size ≤ h'.objs.size; omega), ?_, fun hb => ?_, fun v z => by cases z⟩
      · show h'.objs.size ≠ h3.objs.size
        omega
      · obtain ⟨_, o, ho, _⟩ := (I4.stack).mem hb
        exact ano _ (Heap.lt_size ho) rfl
    · exact T.keep _ _ _ st2 fun b hb o e => keep5 b o (keep3 b o (fnP b hb) e)
    · show h3.objs.size < h'.objs.size
      omega
    · show (h'.push _).objs.size = h'.objs.size + 1
      rw [Heap.size_push]
    · intro h hh
      exact ⟨_, _, _, hh, rfl, rfl, rfl⟩
  refine ⟨I2.nolimit, ?_⟩
  cases hf : codeAmong gpos ps.toList with
  | none =>
    refine wpAny_genexprCodeX hcode (cd.code hPs ht) (cd.tab hPs) hf fun c' h' tk hx hge hlt hco' _ htab' _ => ?_
    obtain ⟨o1, vs, f1, tf, fl, tg', inF, tx, tt, op, _, _, _, _, _, _, _, _, _, htr, _⟩ := hco'
    exact cont _ h' tk _ hx (Nat.le_trans hge (Nat.le_of_lt hlt)) htab'.2 ⟨_, rfl⟩ htr
  | some cv =>
    refine wpAny_genexprCode_hit hcode (cd.code hPs ht) hf ?_
    exact cont cv s2.heap s2.toks ps (Heap.ExtBut.refl _ _) (Nat.le_refl _) hPs ⟨#[], by simp⟩ ht
end
section
variable {Y : Cx} {C : Con} {A0 : Around} {elt tg iter tg1 iter1 : Expr} {ifs ifs1 : List Expr} {scope : Scope} {pos : Pos} {it a : Addr} {fp : List Addr} {tn : Nat → Heap → Prop} {go : Obj} {J : It} {g g1 : TG} {tt tt1 : TT} {wi1 : TI} {te : TE} {vs vs1 : List Nat} {σ0 : L2.St} {W : Nat → Nat → List V → Hp → Prop}
theorem seg_start2 (hA : A0.deeper Y.env = Y.A) (hc : Y.calm = true) (hx : ∀ e s, Y.xe e s → False) (hpn : Y.pn = []) (hco : Y.env.scope.isCoroutine = false)
    (CO : C.Ok) (hB : Aprt Y C.B fp a) (hst : ∀ b ∈ fp, b ≠ Y.env.locals ∧ b ∉ Y.fs ∧ (b ∈ Y.ex ∨ Y.s_0.heap.objs.size ≤ b) ∧ ∀ x c, Y.env.cells.lookup x = some c → c ≠ b)
    (T : Turn Y.prog Y.w Y.K tg J fp it tn) (hg : PG Y tg g) (ht : PTs Y ifs tt) (hi1 : PI Y tg1 iter1 wi1) (hg1 : PG Y tg1 g1) (ht1 : PTs Y ifs1 tt1) (he : PE Y elt te) (hs1 : ∀ x, foldedSetIterable iter1 Y.env x = pure x) (hv : ∀ i ∈ vs1, i ∈ vs) (turns : Turns2 J g tt wi1 g1 tt1 te vs vs1 σ0 C W)
    (m i n : Nat) (ys : List V) (s₀ s : Shared) (hmn : m < n) (h : GSt Y C fp tn a go σ0 W i m ys s) :
      Seg (model Y.prog Y.w) A0 (fun n s₀ r s₁ => r = .ok .next ∧ RG Y C a go σ0 n s₀ s₁) (YG Y C a go σ0) n s₀
        (.compStart (.GeneratorExp elt [⟨tg, iter, ifs, 0⟩, ⟨tg1, iter1, ifs1, 0⟩] scope pos) 0 (.ref it) .none Y.env)
        ((model Y.prog Y.w).den (.compStart (.GeneratorExp elt [⟨tg, iter, ifs, 0⟩, ⟨tg1, iter1, ifs1, 0⟩] scope pos) 0 (.ref it) .none Y.env)) [] s := by
  have loop := seg_loop2 (iter := iter) (scope := scope) (pos := pos) hA hc hx hpn hco CO hB hst T hg ht hi1 hg1 ht1 he hs1 hv turns m i n ys s₀ s hmn h
  obtain ⟨pins, H, hP, I, st, fr, w⟩ := h
  show Seg _ A0 _ _ _ s₀ _ ((compStart (.GeneratorExp elt [⟨tg, iter, ifs, 0⟩, ⟨tg1, iter1, ifs1, 0⟩] scope pos) 0 (.ref it) .none Y.env).onRaise (leaving Y.env)) [] s
  unfold compStart
  rw [Sem.onRaise_eq_wrap]
  show Seg _ A0 _ _ _ s₀ _ ((ask >>= _).wrap _ _ _ _) [] s
  refine seg_bind_wrap (wpAny_askSetting ?_)
  split
  · exact seg_again rfl loop
  · first
      | exact seg_bind_wrap (wpAny_rule (seg_bind_wrap (wpAny_standAt (seg_bind_wrap (T.self _ i s _ _ st (seg_again rfl loop))))))
      | (refine seg_bind_wrap (wpAny_rule ?_); show Seg _ A0 _ _ _ s₀ _ ((standAt iter.pos >>= _).wrap _ _ _ _) [] s; exact seg_bind_wrap (wpAny_standAt (seg_bind_wrap (T.self _ i s _ _ st (seg_again rfl loop)))))
end
section
variable {X : Cx} {pins : List (Addr × Obj)} {σ : L2.St} {A0 : Around} {elt tg iter tg1 iter1 : Expr} {ifs ifs1 : List Expr} {scope : Scope} {gpos : Pos} {own : List (Str × Nat)} {it a : Addr} {fp : List Addr} {tn : Nat → Heap → Prop} {J : It} {H4 : Hp} {s4 s5 : Shared} {code : Value} {gn : Nat} {go : Obj}
/-- behind it: the outer frame again -/
theorem Made2.back (M : Made2 X pins σ A0 elt tg iter tg1 iter1 ifs ifs1 scope gpos own it a fp tn J H4 s4 s5 code gn go) {pl : List (Addr × Obj)} {σ' : L2.St} {H' : Hp} {s' : Shared} (I : Inv (gcx X A0 s4 H4 scope code fp) pl σ' H' s') : Inv X pins σ H' s' := by
  have os : s'.os = s4.os := I.os
  have un : Un (frs X.stack) fp H4 H' s4.heap s'.heap := I.base
  have hok : HOk X.prog X.w H' s'.heap := I.hok
  have bare := I.bare
  obtain ⟨h', g', d', t', o'⟩ := s'
  obtain rfl : o' = s4.os := os
  exact M.outer.call (h' := h') (g' := g') (d' := d') (t' := t') (ch := fp) un hok bare fun b hb => ⟨(M.fpk b hb).1.2.2.2.1, (M.fpk b hb).1.2.1, (M.fpk b hb).1.2.2.2.2.1, (M.fpk b hb).1.2.2.2.2.2⟩
theorem Made2.stat (M : Made2 X pins σ A0 elt tg iter tg1 iter1 ifs ifs1 scope gpos own it a fp tn J H4 s4 s5 code gn go) : ∀ b ∈ fp, b ≠ (gcx X A0 s4 H4 scope code fp).env.locals ∧ b ∉ (gcx X A0 s4 H4 scope code fp).fs ∧ (b ∈ (gcx X A0 s4 H4 scope code fp).ex ∨ (gcx X A0 s4 H4 scope code fp).s_0.heap.objs.size ≤ b) ∧ ∀ x c, (gcx X A0 s4 H4 scope code fp).env.cells.lookup x = some c → c ≠ b := fun b hb =>
  ⟨(M.inner.ok.exf b hb).1, M.inner.ok.exfs b hb, .inl hb, fun x c e => (M.inner.ok.exf b hb).2 x c e⟩
/-- the consumer's objects: none, or one that is new -/
theorem Made2.apart0 (M : Made2 X pins σ A0 elt tg iter tg1 iter1 ifs ifs1 scope gpos own it a fp tn J H4 s4 s5 code gn go) : Aprt (gcx X A0 s4 H4 scope code fp) [] fp a :=
  ⟨fun b hb => (by cases hb), fun b hb => (by cases hb), fun b hb => (by cases hb), fun b hb => (by cases hb), fun b hb => (by cases hb), fun hb => (by cases hb), fun hb =>
    absurd (Nat.lt_trans (M.fpk a hb).2 M.alo) (Nat.lt_irrefl _)⟩
theorem Made2.apart1 (M : Made2 X pins σ A0 elt tg iter tg1 iter1 ifs ifs1 scope gpos own it a fp tn J H4 s4 s5 code gn go) {S : Addr} (hS : a < S) : Aprt (gcx X A0 s4 H4 scope code fp) [S] fp a := by
  have h1 := M.alo
  have big : ∀ b ∈ [S], s5.heap.objs.size ≤ b := fun b hb => by
    rw [List.mem_singleton.mp hb, M.asz]
    exact hS
  have sz5 : s4.heap.objs.size ≤ s5.heap.objs.size := by rw [M.asz]; omega
  refine ⟨fun b hb => Nat.le_trans sz5 (big b hb), fun b hb => ?_, fun b hb x c e z => ?_, fun b hb => M.inner.nofs (big b hb), fun b hb hb2 => ?_, fun hb => ?_, M.apart0.af⟩
  · exact Nat.ne_of_gt (Nat.lt_of_lt_of_le M.inner.lt (big b hb))
  · obtain ⟨v, q⟩ := M.inner.cell x c e
    have q1 := q.lt
    have q2 := big b hb
    rw [z] at q1
    exact absurd (Nat.lt_of_lt_of_le q1 q2) (Nat.lt_irrefl _)
  · exact absurd (Nat.lt_of_lt_of_le (M.fpk b hb2).2 (Nat.le_trans sz5 (big b hb))) (Nat.lt_irrefl _)
  · exact Nat.ne_of_lt hS (List.mem_singleton.mp hb)
/-- the fresh generator, for a consumer whose objects stand in a later state -/
theorem Made2.live (M : Made2 X pins σ A0 elt tg iter tg1 iter1 ifs ifs1 scope gpos own it a fp tn J H4 s4 s5 code gn go) {C : Con} {g g1 : TG} {tt tt1 : TT} {wi1 : TI} {te : TE} {vs1 : List Nat} {W : Nat → Nat → List V → Hp → Prop} {m : Nat} {s6 : Shared} {pins' : List (Addr × Obj)} (CO : C.Ok) (hB : Aprt (gcx X A0 s4 H4 scope code fp) C.B fp a)
    (co : scope.isCoroutine = false)
    (hg : PG (gcx X A0 s4 H4 scope code fp) tg g) (ht : PTs (gcx X A0 s4 H4 scope code fp) ifs tt) (hi1 : PI (gcx X A0 s4 H4 scope code fp) tg1 iter1 wi1) (hg1 : PG (gcx X A0 s4 H4 scope code fp) tg1 g1) (ht1 : PTs (gcx X A0 s4 H4 scope code fp) ifs1 tt1) (he : PE (gcx X A0 s4 H4 scope code fp) elt te) (hs1 : ∀ env x, foldedSetIterable iter1 env x = pure x) (hv : ∀ i ∈ vs1, i ∈ own.map (·.2)) (turns : Turns2 J g tt wi1 g1 tt1 te (own.map (·.2)) vs1 (wipe σ (own.map (·.2))) C W) (w0 : W 0 m [] H4)
    (hHB : ∀ b ∈ C.B, H4 b = none) (z : Slp C.B s5 s6) (hP : C.Pn [] pins') (hp : ∀ p ∈ pins', s6.heap.get? p.1 = some p.2) (hgens : s6.gens = s5.gens) (hl : s6.heap.NoLimit) :
    Live (gcx X A0 s4 H4 scope code fp) C A0 a go (wipe σ (own.map (·.2))) gn (m + 1) s6 := by
  have ga6 : s6.heap.get? a = some go := z.keep a go hB.na M.ga
  have z' : Slp C.B s5 (s6.setGen gn .running) := ⟨z.os, allBare_setGen z.bare rfl, z.keep⟩
  have I6 : Inv (gcx X A0 s4 H4 scope code fp) ((a, go) :: pins') (wipe σ (own.map (·.2))) H4 (s6.setGen gn .running) := woken rfl hB M.inner hHB z' fun p hp' => ⟨(CO.pn _ _ hP p hp').1, hp p hp', (CO.pn _ _ hP p hp').2⟩
  refine ⟨M.gen _ ga6, hl, _, (by rw [hgens]; exact M.gs), ?_⟩
  refine ⟨rfl, ?_⟩
  exact seg_start2 rfl rfl (fun _ _ z => z) rfl co CO hB M.stat M.turn hg ht hi1 hg1 ht1 he (hs1 _) hv turns m 0 (m + 1) [] _ _ (Nat.lt_succ_self _)
    ⟨pins', H4, hP, I6, M.turn.keep _ _ _ M.tn0 fun b hb o e => z.keep b o (fun hm => hB.bf b hm hb) e, fun b hb => (M.fpk b hb).1.1, w0⟩
end
/-- all(elt for tg in iter if .. for tg1 in iter1 if ..) -/
def tAllG2 (P : Addr) (wi : TI) (g : TG) (tt : TT) (wi1 : TI) (g1 : TG) (tt1 : TT) (te : TE) (vs vs1 : List Nat) : TE := fun σ H Q => wi σ H fun J H1 => GxR.TabG H1 P ∧ ∀ H2, GxR.Tabbed P H1 H2 → ∃ W : Nat → Nat → List V → Hp → Prop, (∃ m, W 0 m [] H2) ∧ Turns2 J g tt wi1 g1 tt1 te vs vs1 (wipe σ vs) (conAll Q) W
section
variable {X : Cx} {c P : Addr} {elt tg iter tg1 iter1 : Expr} {ifs ifs1 : List Expr} {p pos gpos : Pos} {scope : Scope} {own : List (Str × Nat)} {wi wi1 : TI} {g g1 : TG} {tt tt1 : TT} {te : TE} {vs1 : List Nat} {k : Nat}
theorem pe_allG2 (hr : Room k X.A) (hgl : Gl X "all") (hm : X.mg "all" = none) (TB : GxR.TabB X.base X.mg c P) (hcode : X.env.code = .ref c) (ok : GxOk X.N X.env.scope scope own) (hN : X.N.Nodup) (hi : PI X tg iter wi)
    (hg : ∀ (s : Shared) (H : Hp) (code : Value) (fp : List Addr), PG (gcx X X.A.in1.in1 s H scope code fp) tg g) (ht : ∀ (s : Shared) (H : Hp) (code : Value) (fp : List Addr), PTs (gcx X X.A.in1.in1 s H scope code fp) ifs tt)
    (hi1 : ∀ (s : Shared) (H : Hp) (code : Value) (fp : List Addr), PI (gcx X X.A.in1.in1 s H scope code fp) tg1 iter1 wi1) (hg1 : ∀ (s : Shared) (H : Hp) (code : Value) (fp : List Addr), PG (gcx X X.A.in1.in1 s H scope code fp) tg1 g1) (ht1 : ∀ (s : Shared) (H : Hp) (code : Value) (fp : List Addr), PTs (gcx X X.A.in1.in1 s H scope code fp) ifs1 tt1)
    (hel : ∀ (s : Shared) (H : Hp) (code : Value) (fp : List Addr), PE (gcx X X.A.in1.in1 s H scope code fp) elt te) (hv : ∀ i ∈ vs1, i ∈ own.map (·.2)) (hs : ∀ v, genFold iter X.env v = pure v := by intro _; rfl) (hs1 : ∀ env x, foldedSetIterable iter1 env x = pure x := by intro _ _; rfl)
    (he : starEach [.GeneratorExp elt [⟨tg, iter, ifs, 0⟩, ⟨tg1, iter1, ifs1, 0⟩] scope gpos] X.env = (false, eval (.GeneratorExp elt [⟨tg, iter, ifs, 0⟩, ⟨tg1, iter1, ifs1, 0⟩] scope gpos) X.env) :: starEach [] X.env := by rfl) :
    PE X (.Call (.Name "all" p) [.GeneratorExp elt [⟨tg, iter, ifs, 0⟩, ⟨tg1, iter1, ifs1, 0⟩] scope gpos] [] pos) (tAllG2 P wi g tt wi1 g1 tt1 te (own.map (·.2)) vs1) := by
  refine ⟨fun pins s σ H Q I h => ?_⟩
  refine wpAny_Call_Name_kw (ld_blt I hgl hm (show bootBuiltins "all" = some (.builtin "all") by decide +kernel) ?_)
  refine PyProof.Rows.callWith_builtin1 ?_ he (by rfl)
  rw [he]
  show wpAny _ _ (spliced ((false, eval (.GeneratorExp elt [⟨tg, iter, ifs, 0⟩, ⟨tg1, iter1, ifs1, 0⟩] scope gpos) X.env) :: backTo pos (starEach [] X.env))) _ _ s
  refine Calls.spliced_cons (gx_make2 (A0 := X.A.in1.in1) (own := own) (R := fun J H2 => ∃ W : Nat → Nat → List V → Hp → Prop, (∃ m, W 0 m [] H2) ∧ Turns2 J g tt wi1 g1 tt1 te (own.map (fun q : Str × Nat => q.2)) vs1 (wipe σ (own.map (fun q : Str × Nat => q.2))) (conAll Q) W) hr.hd rfl hr TB hcode ok hN hi hs I h fun it a fp tn J H4 s4 s5 code gn go M q => ?_)
  obtain ⟨W, ⟨m, w0⟩, turns⟩ := q
  refine Calls.spliced_nil ?_
  have L : Live (gcx X X.A.in1.in1 s4 H4 scope code fp) (conAll Q) X.A.in1.in1 a go (wipe σ (own.map (·.2))) gn (m + 1) s5 :=
    M.live (s6 := s5) (pins' := []) (ok_all Q) M.apart0 ok.co (hg s4 H4 code fp) (ht s4 H4 code fp) (hi1 s4 H4 code fp) (hg1 s4 H4 code fp) (ht1 s4 H4 code fp) (hel s4 H4 code fp) hs1 hv turns w0 (fun b hb => (by cases hb)) ⟨rfl, M.inner.bare, fun _ _ _ e => e⟩ rfl (fun p hp => (by cases hp)) rfl M.inner.nolimit
  refine call_function_tree F.kind_all F.plain_all F.entry_all (F.args_all1 _) ?_
  unfold Builtin.«all»
  refine wpAny_bind (m := oneArg "all" _) (wpAny_pure ?_)
  refine wpAny_bind (wpAny_pyIter_gen (M.gen _ M.ga) ?_)
  refine wpAny_pure ⟨plainId_quiet F.plain_all_loop _, all_loop (Y := gcx X X.A.in1.in1 s4 H4 scope code fp) hr.hd hr.depth M.gen (fun b s' H' I' q' => ?_) (m + 1) s5 L⟩
  exact ⟨.bl b, H', M.back I', rfl, q'⟩
end
/-! ### turns over walks -/
def WB (n B : Nat) (Pv : Nat → List V → Hp → Prop) : Nat → Nat → List V → Hp → Prop := fun i m ys H => m = (n - i) * (B + 2) ∧ i ≤ n ∧ Pv i ys H
theorem turns2_it {J : It} {n : Nat} {G : Hp → Prop} {Yd : Nat → Hp → V → Hp → Prop} (w : Walk J n G Yd) (B : Nat) {g g1 : TG} {tt tt1 : TT} {wi1 : TI} {te : TE} {vs vs1 : List Nat} {σ0 : L2.St} {C : Con} {H : Hp} (Pv : Nat → List V → Hp → Prop) (h0 : Pv 0 [] H) (hG : ∀ i ys H, i ≤ n → Pv i ys H → G H)
    (hs : ∀ i x ys H H', i < n → Pv i ys H → Yd i H x H' → g x σ0 H' fun σ2 H2 => wipe σ2 vs = σ0 ∧ tt σ2 H2 fun b H3 =>
      if b = true then wi1 σ2 H3 fun J1 H4 => ∃ W1 : Nat → Nat → List V → Hp → Prop, (∃ k, k < (n - i) * (B + 2) ∧ W1 0 k ys H4) ∧ ∀ j k ys1 H, W1 j k ys1 H →
        (J1.stop j H ∧ ∃ m', m' < k ∧ WB n B Pv (i + 1) m' ys1 H) ∨ (J1.go j H ∧ ∃ Nx1 : List V → Hp → Prop, (∀ ys' H', Nx1 ys' H' → ∃ k', k' < k ∧ W1 (j + 1) k' ys' H') ∧ ∀ x H', J1.yld j H x H' → g1 x (wipe σ2 vs1) H' fun σ3 H5 => wipe σ3 vs1 = wipe σ2 vs1 ∧ tt1 σ3 H5 fun b H6 =>
          if b = true then te σ3 H6 fun y H7 => C.Kx ys1 y H7 ∧ (C.Cn ys1 y → Nx1 (ys1 ++ [y]) H7) else Nx1 ys1 H6)
      else ∃ m', m' < (n - i) * (B + 2) ∧ WB n B Pv (i + 1) m' ys H3) (hd : ∀ ys H, Pv n ys H → C.Fi ys H) :
    ∃ W : Nat → Nat → List V → Hp → Prop, (∃ m, W 0 m [] H) ∧ Turns2 J g tt wi1 g1 tt1 te vs vs1 σ0 C W := by
  refine ⟨WB n B Pv, ⟨(n - 0) * (B + 2), rfl, Nat.zero_le _, h0⟩, ?_⟩
  rintro i m ys H ⟨rfl, hi, p⟩
  have q := hG i ys H hi p
  by_cases hlt : i < n
  · exact .inr ⟨w.goes i H hlt q, fun x H' y => hs i x ys H H' hlt p (w.yields i H x H' hlt q y)⟩
  · have e : i = n := by omega
    subst e
    exact .inl ⟨w.stops H q, hd ys H p⟩
theorem inner_by {J1 : It} {n1 : Nat} {G1 : Hp → Prop} {Yd1 : Nat → Hp → V → Hp → Prop} (w : Walk J1 n1 G1 Yd1) {n B i : Nat} (hB : n1 ≤ B) (hi : i < n) {Pv : Nat → List V → Hp → Prop} {g1 : TG} {tt1 : TT} {te : TE} {vs1 : List Nat} {σ0 : L2.St} {C : Con} {ys : List V} {H : Hp} (Pv1 : Nat → List V → Hp → Prop) (h0 : Pv1 0 ys H) (hG : ∀ j ys H, j ≤ n1 → Pv1 j ys H → G1 H)
    (hs : ∀ j x ys H H', j < n1 → Pv1 j ys H → Yd1 j H x H' → g1 x σ0 H' fun σ3 H5 => wipe σ3 vs1 = σ0 ∧ tt1 σ3 H5 fun b H6 =>
      if b = true then te σ3 H6 fun y H7 => C.Kx ys y H7 ∧ (C.Cn ys y → Pv1 (j + 1) (ys ++ [y]) H7) else Pv1 (j + 1) ys H6) (hd : ∀ ys H, Pv1 n1 ys H → Pv (i + 1) ys H) :
    ∃ W1 : Nat → Nat → List V → Hp → Prop, (∃ k, k < (n - i) * (B + 2) ∧ W1 0 k ys H) ∧ ∀ j k ys1 H, W1 j k ys1 H →
        (J1.stop j H ∧ ∃ m', m' < k ∧ WB n B Pv (i + 1) m' ys1 H) ∨ (J1.go j H ∧ ∃ Nx1 : List V → Hp → Prop, (∀ ys' H', Nx1 ys' H' → ∃ k', k' < k ∧ W1 (j + 1) k' ys' H') ∧ ∀ x H', J1.yld j H x H' → g1 x σ0 H' fun σ3 H5 => wipe σ3 vs1 = σ0 ∧ tt1 σ3 H5 fun b H6 =>
          if b = true then te σ3 H6 fun y H7 => C.Kx ys1 y H7 ∧ (C.Cn ys1 y → Nx1 (ys1 ++ [y]) H7) else Nx1 ys1 H6) := by
  have e1 : (n - i) * (B + 2) = (n - (i + 1)) * (B + 2) + (B + 2) := by
    rw [show n - i = n - (i + 1) + 1 by omega, Nat.add_mul, Nat.one_mul]
  refine ⟨fun j k ys H => k = (n - i) * (B + 2) - 1 - j ∧ j ≤ n1 ∧ Pv1 j ys H, ⟨(n - i) * (B + 2) - 1, by omega, by omega, Nat.zero_le _, h0⟩, ?_⟩
  rintro j k ys1 H ⟨rfl, hj, p⟩
  have q := hG j ys1 H hj p
  by_cases hlt : j < n1
  · exact .inr ⟨w.goes j H hlt q, Pv1 (j + 1), fun ys' H' p' => ⟨_, by omega, rfl, hlt, p'⟩, fun x H' y => hs j x ys1 H H' hlt p (w.yields j H x H' hlt q y)⟩
  · have e : j = n1 := by omega
    subst e
    exact .inl ⟨w.stops H q, _, by omega, rfl, hi, hd ys1 H p⟩
end GX
set_option Elab.async false
set_option linter.all false
set_option maxRecDepth 100000
set_option maxHeartbeats 4000000
namespace K26
open PySem PySem.Spec PyProof.Rows L2 GX
open C8 (Cal pe_c pe_gc)
def topS (i : Nat) : Stmt := PySem.Challenge.pw_tablecover_k26_things_that_are_no_papers.main.body.getD i (.Pass ⟨0, 0, 0, 0⟩)
abbrev s_is_whole : Stmt := topS 1
theorem sc_is_whole : FnScope ["thing"] ["thing"] (defScope s_is_whole) := ⟨rfl, rfl, rfl, by decide +kernel, rfl, by decide +kernel, by decide +kernel⟩
abbrev s_is_below : Stmt := topS 2
theorem sc_is_below : FnScope ["thing", "bound"] ["thing", "bound"] (defScope s_is_below) := ⟨rfl, rfl, rfl, by decide +kernel, rfl, by decide +kernel, by decide +kernel⟩
abbrev s_wires_in : Stmt := topS 3
theorem sc_wires_in : FnScope ["net"] ["net"] (defScope s_wires_in) := ⟨rfl, rfl, rfl, by decide +kernel, rfl, by decide +kernel, by decide +kernel⟩
abbrev s_places : Stmt := topS 5
theorem sc_places : FnScope ["net", "gate", "kind", "one", "other"] ["net", "gate"] (defScope s_places) := ⟨rfl, rfl, rfl, by decide +kernel, rfl, by decide +kernel, by decide +kernel⟩
abbrev s_is_step : Stmt := topS 6
theorem sc_is_step : FnScope ["net", "ahead", "wire"] ["net", "ahead", "wire"] (defScope s_is_step) := ⟨rfl, rfl, rfl, by decide +kernel, rfl, by decide +kernel, by decide +kernel⟩
abbrev s_is_way : Stmt := topS 7
theorem sc_is_way : FnScope ["net", "wire", "thing", "count", "step", "ahead"] ["net", "wire", "thing"] (defScope s_is_way) := ⟨rfl, rfl, rfl, by decide +kernel, rfl, by decide +kernel, by decide +kernel⟩
abbrev s_reached : Stmt := topS 8
theorem sc_reached : FnScope ["net", "wire", "stops", "marks", "gate", "place", "at", "mark"] ["net", "wire", "stops"] (defScope s_reached) := ⟨rfl, rfl, rfl, by decide +kernel, rfl, by decide +kernel, by decide +kernel⟩
abbrev s_cone : Stmt := topS 9
theorem sc_cone : FnScope ["net", "wire"] ["net", "wire"] (defScope s_cone) := ⟨rfl, rfl, rfl, by decide +kernel, rfl, by decide +kernel, by decide +kernel⟩
abbrev s_is_entry : Stmt := topS 11
theorem sc_is_entry : FnScope ["thing", "label", "ways"] ["thing"] (defScope s_is_entry) := ⟨rfl, rfl, rfl, by decide +kernel, rfl, by decide +kernel, by decide +kernel⟩
abbrev s_are_entries : Stmt := topS 12
theorem sc_are_entries : FnScope ["net", "thing", "entry"] ["net", "thing"] (defScope s_are_entries) := ⟨rfl, rfl, rfl, by decide +kernel, rfl, by decide +kernel, by decide +kernel⟩
abbrev s_are_apart : Stmt := topS 13
theorem sc_are_apart : FnScope ["one", "other", "labels", "least", "wire"] ["one", "other", "labels", "least"] (defScope s_are_apart) := ⟨rfl, rfl, rfl, by decide +kernel, rfl, by decide +kernel, by decide +kernel⟩
abbrev s_shows_label : Stmt := topS 14
theorem sc_shows_label : FnScope ["net", "k", "gate", "labels", "ways", "way", "least", "at", "later"] ["net", "k", "gate", "labels", "ways"] (defScope s_shows_label) := ⟨rfl, rfl, rfl, by decide +kernel, rfl, by decide +kernel, by decide +kernel⟩
abbrev s_depth_paper_holds : Stmt := topS 15
theorem sc_depth_paper_holds : FnScope ["net", "k", "thing", "labels", "label", "ways", "at", "entry"] ["net", "k", "thing"] (defScope s_depth_paper_holds) := ⟨rfl, rfl, rfl, by decide +kernel, rfl, by decide +kernel, by decide +kernel⟩
abbrev s_wires_of : Stmt := topS 17
theorem sc_wires_of : FnScope ["mask", "wire"] ["mask"] (defScope s_wires_of) := ⟨rfl, rfl, rfl, by decide +kernel, rfl, by decide +kernel, by decide +kernel⟩
abbrev s_fits : Stmt := topS 18
theorem sc_fits : FnScope ["mask", "k", "turn"] ["mask", "k"] (defScope s_fits) := ⟨rfl, rfl, rfl, by decide +kernel, rfl, by decide +kernel, by decide +kernel⟩
abbrev s_has_part : Stmt := topS 19
theorem sc_has_part : FnScope ["masks", "mask", "part"] ["masks", "mask"] (defScope s_has_part) := ⟨rfl, rfl, rfl, by decide +kernel, rfl, by decide +kernel, by decide +kernel⟩
abbrev s_gate_masks : Stmt := topS 21
theorem sc_gate_masks : FnScope ["firsts", "seconds", "k", "found", "first", "second", "mask"] ["firsts", "seconds", "k"] (defScope s_gate_masks) := ⟨rfl, rfl, rfl, by decide +kernel, rfl, by decide +kernel, by decide +kernel⟩
abbrev s_cut_masks : Stmt := topS 22
theorem sc_cut_masks : FnScope ["net", "wires", "k", "masks", "wire", "one", "other"] ["net", "wires", "k"] (defScope s_cut_masks) := ⟨rfl, rfl, rfl, by decide +kernel, rfl, by decide +kernel, by decide +kernel⟩
abbrev s_told_cuts : Stmt := topS 23
theorem sc_told_cuts : FnScope ["masks", "mask"] ["masks"] (defScope s_told_cuts) := ⟨rfl, rfl, rfl, by decide +kernel, rfl, by decide +kernel, by decide +kernel⟩
abbrev s_all_cuts : Stmt := topS 24
theorem sc_all_cuts : FnScope ["net", "k", "wires", "masks", "gate", "one", "other", "wire"] ["net", "k"] (defScope s_all_cuts) := ⟨rfl, rfl, rfl, by decide +kernel, rfl, by decide +kernel, by decide +kernel⟩
abbrev s_one_deeper : Stmt := topS 26
theorem sc_one_deeper : FnScope ["told", "wires", "wire"] ["told", "wires"] (defScope s_one_deeper) := ⟨rfl, rfl, rfl, by decide +kernel, rfl, by decide +kernel, by decide +kernel⟩
abbrev s_depths_by : Stmt := topS 27
theorem sc_depths_by : FnScope ["net", "cuts", "told", "gate", "cut"] ["net", "cuts"] (defScope s_depths_by) := ⟨rfl, rfl, rfl, by decide +kernel, rfl, by decide +kernel, by decide +kernel⟩
abbrev s_depths : Stmt := topS 28
theorem sc_depths : FnScope ["net", "k"] ["net", "k"] (defScope s_depths) := ⟨rfl, rfl, rfl, by decide +kernel, rfl, by decide +kernel, by decide +kernel⟩
abbrev s_inlet : Stmt := topS 31
theorem sc_inlet : FnScope ["wire"] ["wire"] (defScope s_inlet) := ⟨rfl, rfl, rfl, by decide +kernel, rfl, by decide +kernel, by decide +kernel⟩
abbrev s_outlet : Stmt := topS 32
theorem sc_outlet : FnScope ["wire"] ["wire"] (defScope s_outlet) := ⟨rfl, rfl, rfl, by decide +kernel, rfl, by decide +kernel, by decide +kernel⟩
abbrev s_link : Stmt := topS 33
theorem sc_link : FnScope ["rooms", "low", "high", "room"] ["rooms", "low", "high", "room"] (defScope s_link) := ⟨rfl, rfl, rfl, by decide +kernel, rfl, by decide +kernel, by decide +kernel⟩
abbrev s_make_rooms : Stmt := topS 34
theorem sc_make_rooms : FnScope ["net", "gate", "shared", "count", "wires", "rooms", "wire", "place"] ["net", "gate", "shared", "count"] (defScope s_make_rooms) := ⟨rfl, rfl, rfl, by decide +kernel, rfl, by decide +kernel, by decide +kernel⟩
abbrev s_nodes_ahead : Stmt := topS 35
theorem sc_nodes_ahead : FnScope ["rooms", "goal", "ahead", "queue", "at", "node", "step"] ["rooms", "goal"] (defScope s_nodes_ahead) := ⟨rfl, rfl, rfl, by decide +kernel, rfl, by decide +kernel, by decide +kernel⟩
abbrev s_push_one : Stmt := topS 36
theorem sc_push_one : FnScope ["rooms", "goal", "ahead", "node", "low"] ["rooms", "goal"] (defScope s_push_one) := ⟨rfl, rfl, rfl, by decide +kernel, rfl, by decide +kernel, by decide +kernel⟩
abbrev s_draw_way : Stmt := topS 37
theorem sc_draw_way : FnScope ["rooms", "goal", "way", "node", "steps", "step"] ["rooms", "goal"] (defScope s_draw_way) := ⟨rfl, rfl, rfl, by decide +kernel, rfl, by decide +kernel, by decide +kernel⟩
abbrev s_apart_ways : Stmt := topS 38
theorem sc_apart_ways : FnScope ["net", "gate", "shared", "count", "rooms", "goal", "turn", "ways"] ["net", "gate", "shared", "count"] (defScope s_apart_ways) := ⟨rfl, rfl, rfl, by decide +kernel, rfl, by decide +kernel, by decide +kernel⟩
abbrev s_gate_paper : Stmt := topS 40
theorem sc_gate_paper : FnScope ["net", "gate", "k", "labels", "label", "shared", "wire"] ["net", "gate", "k", "labels"] (defScope s_gate_paper) := ⟨rfl, rfl, rfl, by decide +kernel, rfl, by decide +kernel, by decide +kernel⟩
abbrev s_depth_paper : Stmt := topS 41
theorem sc_depth_paper : FnScope ["net", "k", "labels", "gate"] ["net", "k"] (defScope s_depth_paper) := ⟨rfl, rfl, rfl, by decide +kernel, rfl, by decide +kernel, by decide +kernel⟩
abbrev s__law_deck : Stmt := topS 43
theorem sc__law_deck : FnScope ["_law_script", "_law_cells"] ["_law_script"] (defScope s__law_deck) := ⟨rfl, rfl, rfl, by decide +kernel, rfl, by decide +kernel, by decide +kernel⟩
abbrev s__law_draw : Stmt := topS 44
theorem sc__law_draw : FnScope ["_law_deck_here", "_law_most", "_law_cell", "_law_number"] ["_law_deck_here", "_law_most"] (defScope s__law_draw) := ⟨rfl, rfl, rfl, by decide +kernel, rfl, by decide +kernel, by decide +kernel⟩
abbrev s__law_gate : Stmt := topS 45
theorem sc__law_gate : FnScope ["_law_deck_here", "_law_many", "_law_wire", "_law_way", "_law_reach", "_law_twice", "_law_one", "_law_other"] ["_law_deck_here", "_law_many", "_law_wire", "_law_way"] (defScope s__law_gate) := ⟨rfl, rfl, rfl, by decide +kernel, rfl, by decide +kernel, by decide +kernel⟩
abbrev s__law_net : Stmt := topS 46
theorem sc__law_net : FnScope ["_law_deck_here", "_law_inputs", "_law_gates", "_law_way", "_law_many", "_law_count", "_law_made", "_law_k", "_law_outs", "_law_far"] ["_law_deck_here", "_law_inputs", "_law_gates"] (defScope s__law_net) := ⟨rfl, rfl, rfl, by decide +kernel, rfl, by decide +kernel, by decide +kernel⟩
abbrev s__law_is_way : Stmt := topS 47
theorem sc__law_is_way : FnScope ["_law_net_here", "_law_gate_here", "_law_way", "_law_wire", "_law_k"] ["_law_net_here", "_law_gate_here", "_law_way"] (defScope s__law_is_way) := ⟨rfl, rfl, rfl, by decide +kernel, rfl, by decide +kernel, by decide +kernel⟩
abbrev s__law_is_paper : Stmt := topS 48
theorem sc__law_is_paper : FnScope ["_law_net_here", "_law_k", "_law_thing", "_law_labels", "_law_entry", "_law_j"] ["_law_net_here", "_law_k", "_law_thing"] (defScope s__law_is_paper) := ⟨rfl, rfl, rfl, by decide +kernel, rfl, by decide +kernel, by decide +kernel⟩
abbrev s__law_is_entry : Stmt := topS 49
theorem sc__law_is_entry : FnScope ["_law_net_here", "_law_k", "_law_labels", "_law_gate_here", "_law_ways", "_law_way", "_law_at", "_law_other", "_law_wire"] ["_law_net_here", "_law_k", "_law_labels", "_law_gate_here", "_law_ways"] (defScope s__law_is_entry) := ⟨rfl, rfl, rfl, by decide +kernel, rfl, by decide +kernel, by decide +kernel⟩
abbrev s__law_deep : Stmt := topS 50
theorem sc__law_deep : FnScope ["_law_thing", "_law_many", "_law_turn"] ["_law_thing", "_law_many"] (defScope s__law_deep) := ⟨rfl, rfl, rfl, by decide +kernel, rfl, by decide +kernel, by decide +kernel⟩
abbrev s__law_things : Stmt := topS 51
theorem sc__law_things : FnScope ["_law_deck_here", "_law_paper", "_law_number", "_law_some", "_law_label", "_law_ways"] ["_law_deck_here", "_law_paper"] (defScope s__law_things) := ⟨rfl, rfl, rfl, by decide +kernel, rfl, by decide +kernel, by decide +kernel⟩
abbrev s_law : Stmt := topS 52
theorem sc_law : FnScope ["_law_script", "_law_deck_here", "_law_turn", "_law_net_here", "_law_k", "_law_paper", "_law_thing", "_law_told"] ["_law_script"] (defScope s_law) := ⟨rfl, rfl, rfl, by decide +kernel, rfl, by decide +kernel, by decide +kernel⟩
structure Txt (mg : Str → Option Value) : Prop where
  b_all : mg "all" = none
  b_bool : mg "bool" = none
  b_enumerate : mg "enumerate" = none
  b_int : mg "int" = none
  b_isinstance : mg "isinstance" = none
  b_len : mg "len" = none
  b_list : mg "list" = none
  b_max : mg "max" = none
  b_min : mg "min" = none
  b_range : mg "range" = none
  b_repr : mg "repr" = none
  b_sorted : mg "sorted" = none
  b_str : mg "str" = none
  b_sum : mg "sum" = none
  b_tuple : mg "tuple" = none
  b_zip : mg "zip" = none
  g_START : ∃ u, mg "START" = some u ∧ RelV (.int (-1)) u
theorem nat_at {l : List Nat} {i : Nat} (h : i < l.length) : (l.map nV)[i]? = some (nV (l.getD i 0)) := natAt h
section
variable {P : Program} {w : World} {K : PySem.W.Frag} {mg : Str → Option Value} {base : Heap} {Ts : List Addr}
def spWires : Sp := fun vs H Q _ => ∃ (a : Addr) (n : Net) (g o : Addr) (ps : List Addr), vs = [.ref a] ∧ NetAt H a n g o ps ∧ Q (nV (n.many + n.gates.length)) H
theorem ok_wires {f c : Addr} (D : Dfn K mg "wires_in" s_wires_in f c) (T : Txt mg) : Cal P w K mg base 1 "wires_in" spWires [] := by
  refine cal D (fun _ _ _ _ _ _ us hl => match us, hl with | [_], _ => rfl) sc_wires_in (fun vs H Q E h => ?_) (fun A outer s H vs Q E hr h => ?_)
  · obtain ⟨a, n, g, o, ps, rfl, _⟩ := h
    rfl
  · obtain ⟨a, n, g, o, ps, rfl, N, q⟩ := h
    refine ⟨_, (pss_one (ps_ret (pe_op op_add (pe_ix ix_tup (pv 0) pe_int (fun _ _ => rfl)) (pe_callB call_len_seq (by rfl) T.b_len (by decide +kernel) (pa_cons (pe_ix ix_tup (pv 0) pe_int (fun _ _ => rfl)) pa_nil))))), ?_⟩
    refine ⟨_, rfl, a, _, 0, _, rfl, rfl, SqT.of N.top, at0, _, rfl, a, _, 1, _, rfl, rfl, SqT.of N.top, at1, g, _, rfl, .inr (SqT.of N.gt), _, _, rfl, rfl, ?_⟩
    have e : (V.int ((n.many : Int) + ((ps.map V.ref).length : Int))) = nV (n.many + n.gates.length) := by
      rw [List.length_map, N.gs.1]
      rfl
    show Q (V.int ((n.many : Int) + ((ps.map V.ref).length : Int))) H
    rw [e]
    exact q
def spPlaces : Sp := fun vs H Q _ => ∃ (a : Addr) (n : Net) (g o : Addr) (ps : List Addr) (x : Nat) (k : Nat × Nat × Nat), vs = [.ref a, nV x] ∧ NetAt H a n g o ps ∧ n.many ≤ x ∧ n.gates[x - n.many]? = some k ∧ ∀ p, H p = none → Q (.ref p) (upd H p (.tup [nV k.2.1, nV k.2.2]))
theorem ok_places {f c : Addr} (D : Dfn K mg "places" s_places f c) : Cal P w K mg base 1 "places" spPlaces [] := by
  refine cal D (fun _ _ _ _ _ _ us hl => match us, hl with | [_, _], _ => rfl) sc_places (fun vs H Q E h => ?_) (fun A outer s H vs Q E hr h => ?_)
  · obtain ⟨a, n, g, o, ps, x, k, rfl, _⟩ := h
    rfl
  · obtain ⟨a, n, g, o, ps, x, k, rfl, N, hx, hk, q⟩ := h
    refine ⟨_, (pss_cons (ps_asg (pe_ix ix_tup (pe_ix ix_tup (pv 0) pe_int (fun _ _ => rfl)) (pe_op op_sub (pv 1) (pe_ix ix_tup (pv 0) pe_int (fun _ _ => rfl))) (fun _ _ => rfl)) (pg_tup rfl (pgs_cons (pg_name (i := 2) sc_places.nd rfl (by first | exact Or.inl rfl | exact Or.inr rfl)) (pgs_cons (pg_name (i := 3) sc_places.nd rfl (by first | exact Or.inl rfl | exact Or.inr rfl)) (pgs_cons (pg_name (i := 4) sc_places.nd rfl (by first | exact Or.inl rfl | exact Or.inr rfl)) pgs_nil)))))
      (pss_one (ps_ret (pe_tup (pa_cons (pv 3) (pa_cons (pv 4) pa_nil)))))), ?_⟩
    have hil : x - n.many < ps.length := by rw [N.gs.1]; exact (List.getElem?_eq_some_iff.mp hk).1
    have hp := N.gs.2 _ _ _ (List.getElem?_eq_getElem hil) hk
    have e1 : (ps.map V.ref)[x - n.many]? = some (.ref ps[x - n.many]) := by rw [List.getElem?_map, List.getElem?_eq_getElem hil]; rfl
    refine ⟨_, rfl, a, _, 1, _, rfl, rfl, SqT.of N.top, at1, _, rfl, _, rfl, a, _, 0, _, rfl, rfl, SqT.of N.top, at0, _, _, rfl, rfl, g, _, _, _, rfl, rfl, SqT.of N.gt, (by rw [show (((x : Nat) : Int) - ((n.many : Nat) : Int)) = ((x - n.many : Nat) : Int) by omega]; exact atI_nat e1), ?_⟩
    refine ⟨_, _, rfl, SqT.of hp, rfl, _, _, rfl, _, _, rfl, _, _, rfl, rfl, ?_⟩
    exact ⟨_, rfl, _, rfl, small 2, fun p np => q p np⟩
theorem in2 (x a b : Nat) : inV (nV x) [nV a, nV b] = decide (x = a ∨ x = b) := by
  have := inV_n x [a, b]
  rw [show [nV a, nV b] = [a, b].map nV from rfl, this]
  congr 1
  exact propext (by rw [List.mem_cons, List.mem_singleton])
end
section
variable {P : Program} {w : World} {K : PySem.W.Frag} {mg : Str → Option Value} {base : Heap} {Ts : List Addr}
theorem Own.same {H H1 H2 : Hp} {l : Addr} {xs : List V} (o : Own H H1 l xs) (s : Same H1 H2) : Own H H2 l xs := ⟨o.sm.trans s, s _ _ o.at_, o.nw⟩
theorem Own.put {H H' : Hp} {l : Addr} {xs ys : List V} (o : Own H H' l xs) : Own H (upd H' l (.lst ys)) l ys := ⟨fun b u e => by rw [upd_ne (ne_of_none e o.nw)]; exact o.sm b u e, upd_same, o.nw⟩
theorem map_set (ms : List Bool) (i : Nat) (b : Bool) : (ms.map V.bl).set i (.bl b) = (ms.set i b).map V.bl := List.map_set.symm
def spReached (Ts : List Addr) : Sp := fun vs H Q _ => ∃ (a : Addr) (n : Net) (g o : Addr) (ps : List Addr) (wr : Nat) (sa : Addr) (st : List Nat), vs = [.ref a, nV wr, .ref sa] ∧ NetAt H a n g o ps ∧ n.Ok ∧ wr < n.many + n.gates.length ∧ H sa = some (.tup (st.map nV)) ∧ Tabs Ts H ∧ ∀ p H' xs, Aft Ts H H' → H' p = some (.tup (xs.map nV)) → Rset n st wr xs → Q (.ref p) H'
theorem ok_reached {f c PR : Addr} (D : Dfn K mg "reached" s_reached f c) (T : Txt mg) (c_wires_in : Cal P w K mg base 1 "wires_in" spWires []) (c_places : Cal P w K mg base 1 "places" spPlaces []) (TB_reached : GxR.TabB base mg c PR) (hP : PR ∈ Ts) : Cal P w K mg base 2 "reached" (spReached Ts) [] := by
  refine cal D (fun _ _ _ _ _ _ us hl => match us, hl with | [_, _, _], _ => rfl) sc_reached (fun vs H Q E h => ?_) (fun A outer s H vs Q E hr h => ?_)
  · obtain ⟨a, n, g, o, ps, wr, sa, st, rfl, _⟩ := h
    rfl
  · obtain ⟨a, n, g, o, ps, wr, sa, st, rfl, N, ok, hw, hs, tb, q⟩ := h
    have m8 := ok.m8
    have g16 := ok.g16
    refine ⟨_, (pss_cons (ps_set (i := 3) sc_reached.nd rfl (by first | exact Or.inl rfl | exact Or.inr rfl) (pe_op op_rep (pe_lst (pa_cons pe_bl pa_nil)) (pe_c c_wires_in hr (by decide) (by rfl) (pa_cons (pv 0) pa_nil))))
      (pss_cons (ps_asg (pe_cmpR op_notIn_seq (pv 1) (pv 2) (by rfl)) (pg_sub (pv 3) (pv 1) set_list))
      (pss_cons (ps_for PassesOwn.never rfl (pi_range3 (by rfl) T.b_range (pa_cons (pv 1) (pa_cons (pe_op op_sub (pe_ix ix_tup (pv 0) pe_int (fun _ _ => rfl)) pe_int) (pa_cons (pe_un un_neg pe_int) pa_nil)))) (pg_name (i := 4) sc_reached.nd rfl (by first | exact Or.inl rfl | exact Or.inr rfl))
        (pss_one (ps_if (pt_val (pe_ix ix_list (pv 3) (pv 4) (fun _ _ => rfl))) (pss_one (ps_for PassesOwn.never rfl (pi_tup (pe_c c_places hr (by decide) (by rfl) (pa_cons (pv 0) (pa_cons (pv 4) pa_nil)))) (pg_name (i := 5) sc_reached.nd rfl (by first | exact Or.inl rfl | exact Or.inr rfl))
        (pss_one (ps_asg (pe_cmpR op_notIn_seq (pv 5) (pv 2) (by rfl)) (pg_sub (pv 3) (pv 5) set_list))))) pss_nil)))
      (pss_one (ps_ret (pe_tupG (own := [("at", 6), ("mark", 7)]) hr (by rfl) T.b_tuple TB_reached rfl (gxOk_by (N := ["net", "wire", "stops", "marks", "gate", "place", "at", "mark"]) (sc := defScope s_reached) (own := [("at", 6), ("mark", 7)]) (by decide +kernel)) sc_reached.nd (pi_enum (by rfl) T.b_enumerate (pa_cons (pv 3) pa_nil)) (fun _ _ _ _ => (pg_tupK (K := K) (n := 2) rfl rfl (pgs_cons (pg_name (i := 6) sc_reached.nd rfl (by first | exact Or.inl rfl | exact Or.inr rfl)) (pgs_cons (pg_name (i := 7) sc_reached.nd rfl (by first | exact Or.inl rfl | exact Or.inr rfl)) pgs_nil)))) (fun _ _ _ _ => (pts_one (pt_val (pv 7)))) (fun _ _ _ _ => (pv 6)))))))), ?_⟩
    refine ⟨small 1, fun z nz => ?_⟩
    have e1 := Same.new (o := .lst [.bl false]) nz
    refine ⟨_, rfl, a, n, g, o, ps, rfl, N.same e1, z, _, _, rfl, rfl, upd_same, by omega, by omega, ?_, fun l nl => ?_⟩
    · show 1 * (((n.many + n.gates.length : Nat)) : Int).toNat ≤ sizeLine
      rw [Int.toNat_natCast]
      exact small _ (by omega)
    have ef : (List.replicate (((n.many + n.gates.length : Nat)) : Int).toNat [V.bl false]).flatten = (List.replicate (n.many + n.gates.length) false).map V.bl := by
      rw [Int.toNat_natCast, List.map_replicate, List.flatten_replicate_singleton]
    rw [ef]
    have nlH : H l = none := by
      cases e : H l with
      | none => rfl
      | some u =>
        rw [e1 _ _ e] at nl
        cases nl
    have o2 : Own H _ l ((List.replicate (n.many + n.gates.length) false).map V.bl) := ⟨e1.trans (Same.new nl), upd_same, nlH⟩
    generalize upd (upd H z (.lst [.bl false])) l (.lst ((List.replicate (n.many + n.gates.length) false).map V.bl)) = H2 at o2 ⊢
    refine ⟨_, rfl, _, rfl, sa, _, rfl, .inr (SqT.of (o2.sm _ _ hs)), rfl, flat_ns st, ?_⟩
    refine ⟨_, rfl, _, rfl, l, _, _, _, rfl, rfl, o2.at_, ix_n (by rw [List.length_map, List.length_replicate]; exact hw), ?_⟩
    have ev : (if true = true then !inV (nV wr) (st.map nV) else inV (nV wr) (st.map nV)) = !decide (wr ∈ st) := by rw [if_pos rfl, inV_n]
    rw [ev, map_set]
    have o3 : Own H _ l (((List.replicate (n.many + n.gates.length) false).set wr (!decide (wr ∈ st))).map V.bl) := Own.put o2
    have mk := mark_first ok (st := st) hw
    generalize (List.replicate (n.many + n.gates.length) false).set wr (!decide (wr ∈ st)) = ms0 at o3 mk ⊢
    generalize upd H2 l (.lst (ms0.map V.bl)) = H3 at o3 ⊢
    have N3 := N.same o3.sm
    refine ⟨_, rfl, _, rfl, a, _, 0, _, rfl, rfl, SqT.of N3.top, at0, _, _, rfl, rfl, _, rfl, (wr : Int), (n.many : Int) - 1, -1, _, rfl, RgC.neg (by omega) (by omega) (by omega) (by omega), ?_⟩
    refine for_rangeC (lo := (wr : Int)) (c := -1) (n := ((wr : Int) - ((n.many : Int) - 1)).toNat) (fun i σ H' => ∃ ms x4 x5, σ = [some (.ref a), some (nV wr), some (.ref sa), some (.ref l), x4, x5, none, none] ∧ Own H H' l (ms.map V.bl) ∧ MarkOk n st wr (wr + 1 - i) ms) ⟨ms0, none, none, rfl, o3, mk⟩ ?_ ?_
    · rintro i σ H4 hi ⟨ms, x4, x5, rfl, o4, mk4⟩
      obtain ⟨gt, hgt⟩ : ∃ gt : Nat, wr = gt + i := ⟨wr - i, by omega⟩
      have hgm : n.many ≤ gt := by omega
      have eg : (wr : Int) + ((i : Nat) : Int) * (-1) = (gt : Int) := by omega
      have hkl : gt - n.many < n.gates.length := by omega
      obtain ⟨k, hk⟩ : ∃ k, n.gates[gt - n.many]? = some k := ⟨_, List.getElem?_eq_getElem hkl⟩
      have mk5 : MarkOk n st wr (gt + 1) ms := by
        rw [show gt + 1 = wr + 1 - i by omega]
        exact mk4
      have hml : ms.length = n.many + n.gates.length := mk5.1
      have N4 := N.same o4.sm
      rw [eg]
      refine ⟨_, rfl, _, rfl, l, _, _, _, rfl, rfl, SqL.of o4.at_, atI_nat (mark_at (by omega)), _, rfl, ite2 (fun hm => ?_) (fun hm => ?_)⟩
      · refine ⟨_, rfl, _, rfl, a, n, g, o, ps, gt, k, rfl, N4, hgm, hk, fun p np => ⟨p, rfl, ⟨_, SqT.of upd_same⟩, ?_⟩⟩
        have e5 := Same.new (o := .tup [nV k.2.1, nV k.2.2]) np
        have o5 := Own.same o4 e5
        have hp5 : upd H4 p (.tup [nV k.2.1, nV k.2.2]) p = some (.tup [nV k.2.1, nV k.2.2]) := upd_same
        have npl : p ≠ l := fun z => by
          rw [z, o4.at_] at np
          cases np
        generalize upd H4 p (.tup [nV k.2.1, nV k.2.2]) = H5 at e5 o5 hp5 ⊢
        have p1 := place_lt ok hgm hk (.inl rfl)
        have p2 := place_lt ok hgm hk (.inr rfl)
        refine for_tup (K := K) (a := p) (xs := [nV k.2.1, nV k.2.2]) (fun j σ H' => ∃ ms' x5, σ = [some (.ref a), some (nV wr), some (.ref sa), some (.ref l), some (nV gt), x5, none, none] ∧ Own H H' l (ms'.map V.bl) ∧ H' p = some (.tup [nV k.2.1, nV k.2.2]) ∧
          (j = 0 → ms' = ms) ∧ (j = 1 → ms' = ms.set k.2.1 (!decide (k.2.1 ∈ st))) ∧ (j = 2 → ms' = (ms.set k.2.1 (!decide (k.2.1 ∈ st))).set k.2.2 (!decide (k.2.2 ∈ st)))) ⟨ms, x5, rfl, o5, hp5, fun _ => rfl, fun z => (by cases z), fun z => (by cases z)⟩ ?_ ?_ ?_
        · rintro j σ H6 _ ⟨_, _, _, _, h, _⟩
          exact SqT.of h
        · rintro j x σ H6 hx ⟨ms', y5, rfl, o6, hp6, j0, j1, j2⟩
          have hj : j < 2 := (List.getElem?_eq_some_iff.mp hx).1
          have h01 : j = 0 ∨ j = 1 := by omega
          obtain ⟨pl, e, hl, hms, hh⟩ : ∃ pl : Nat, x = nV pl ∧ pl < gt ∧ ms'.length = ms.length ∧ ((j + 1 = 0 → ms'.set pl (!decide (pl ∈ st)) = ms) ∧ (j + 1 = 1 → ms'.set pl (!decide (pl ∈ st)) = ms.set k.2.1 (!decide (k.2.1 ∈ st))) ∧ (j + 1 = 2 → ms'.set pl (!decide (pl ∈ st)) = (ms.set k.2.1 (!decide (k.2.1 ∈ st))).set k.2.2 (!decide (k.2.2 ∈ st)))) := by
            rcases h01 with rfl | rfl
            · have e0 := j0 rfl
              exact ⟨k.2.1, (Option.some.inj hx).symm, p1, by rw [e0], fun z => (by cases z), fun _ => by rw [e0], fun z => (by cases z)⟩
            · have e1 := j1 rfl
              exact ⟨k.2.2, (Option.some.inj hx).symm, p2, by rw [e1, List.length_set], fun z => (by cases z), fun z => (by cases z), fun _ => by rw [e1]⟩
          subst e
          refine ⟨_, rfl, _, rfl, sa, _, rfl, .inr (SqT.of (o6.sm _ _ hs)), rfl, flat_ns st, ?_⟩
          refine ⟨_, rfl, _, rfl, l, _, _, _, rfl, rfl, o6.at_, ix_n (by rw [List.length_map, hms]; omega), ?_⟩
          have ev : (if true = true then !inV (nV pl) (st.map nV) else inV (nV pl) (st.map nV)) = !decide (pl ∈ st) := by rw [if_pos rfl, inV_n]
          rw [ev, map_set]
          refine ⟨ms'.set pl (!decide (pl ∈ st)), some (nV pl), rfl, Own.put o6, ?_, hh⟩
          rw [upd_ne npl]
          exact hp6
        · rintro σ H6 ⟨ms', y5, rfl, o6, hp6, _, _, j2⟩
          have e2 := j2 rfl
          refine ⟨ms', some (nV gt), y5, rfl, o6, ?_⟩
          rw [show wr + 1 - (i + 1) = gt by omega, e2]
          exact mark_down ok hgm hk mk5 hm
      · refine ⟨ms, some (nV gt), x5, rfl, o4, ?_⟩
        rw [show wr + 1 - (i + 1) = gt by omega]
        exact mark_skip ok hgm hk mk5 hm
    · rintro σ H4 ⟨ms, x4, x5, rfl, o4, mk4⟩
      have mk5 : MarkOk n st wr n.many ms := ⟨mk4.1, fun y hy => (mk4.2 y hy).trans (Rc.low_iff (by omega))⟩
      have hset := mark_set ok hw mk5
      have hml : ms.length = n.many + n.gates.length := mk5.1
      have a4 := Aft.ofSame tb o4.sm
      refine ⟨_, rfl, l, _, rfl, SqL.of o4.at_, a4.tb PR hP, fun H5 ht => ?_⟩
      have a5 : Aft Ts H4 H5 := ⟨Keep.tabbed hP ht, a4.tb.tabbed ht⟩
      refine turns_it (walk_enum (xs := ms.map V.bl)) (fun i ys H' => ys = ((List.range i).filter fun i => ms.getD i false).map nV ∧ Aft Ts H4 H') ⟨rfl, a5⟩ (fun i ys H' _ hp => SqL.of (hp.2.lst a4.tb o4.at_)) ?_ ?_
      · rintro i x ys H6 H7 hi ⟨rfl, a6⟩ ⟨T', v1, v2, rfl, nT, rfl, e1, e2⟩
        cases e1
        rw [List.length_map] at hi
        have e2' : (ms.map V.bl)[i]? = some v2 := e2
        rw [mark_at hi] at e2'
        cases e2'
        have a7 := a6.trans (Aft.new (o := .tup [.int (i : Nat), .bl (ms.getD i false)]) a6.tb nT)
        refine ⟨T', _, rfl, SqT.of upd_same, rfl, _, _, rfl, _, _, rfl, rfl, rfl, ?_⟩
        refine ⟨_, rfl, _, rfl, ite2 (fun hm => ?_) (fun hm => ?_)⟩
        · refine ⟨_, rfl, ?_, fun _ => ⟨?_, a7⟩⟩
          · show (List.map nV _).length < sizeLine
            rw [List.length_map]
            exact Nat.lt_of_le_of_lt (List.length_filter_le _ _) (by rw [List.length_range]; exact small1000 (by omega))
          · rw [picked_take, if_pos hm, List.map_append]
            rfl
        · refine ⟨?_, a7⟩
          rw [picked_take, if_neg hm, List.append_nil]
      · rintro ys H6 ⟨rfl, a6⟩
        rw [List.length_map]
        refine ⟨?_, fun p hp => ?_⟩
        · rw [List.length_map]
          exact Nat.le_trans (List.length_filter_le _ _) (by rw [List.length_range]; exact small _ (by omega))
        · exact q p _ _ ((a4.trans a6).trans (Aft.new a6.tb hp)) upd_same hset
end
section
variable {P : Program} {w : World} {K : PySem.W.Frag} {mg : Str → Option Value} {base : Heap} {Ts : List Addr}
def spCone (Ts : List Addr) : Sp := fun vs H Q _ => ∃ (a : Addr) (n : Net) (g o : Addr) (ps : List Addr) (wr : Nat), vs = [.ref a, nV wr] ∧ NetAt H a n g o ps ∧ n.Ok ∧ wr < n.many + n.gates.length ∧ Tabs Ts H ∧ ∀ p H' xs, Aft Ts H H' → H' p = some (.tup (xs.map nV)) → Rset n [] wr xs → Q (.ref p) H'
theorem ok_cone {f c : Addr} (D : Dfn K mg "cone" s_cone f c) (c_reached : Cal P w K mg base 2 "reached" (spReached Ts) []) : Cal P w K mg base 3 "cone" (spCone Ts) [] := by
  refine cal D (fun _ _ _ _ _ _ us hl => match us, hl with | [_, _], _ => rfl) sc_cone (fun vs H Q E h => ?_) (fun A outer s H vs Q E hr h => ?_)
  · obtain ⟨a, n, g, o, ps, wr, rfl, _⟩ := h
    rfl
  · obtain ⟨a, n, g, o, ps, wr, rfl, N, ok, hw, tb, q⟩ := h
    refine ⟨_, (pss_one (ps_ret (pe_c c_reached hr (by decide) (by rfl) (pa_cons (pv 0) (pa_cons (pv 1) (pa_cons (pe_tup pa_nil) pa_nil)))))), ?_⟩
    refine ⟨_, rfl, _, rfl, small 0, fun sa ns => ?_⟩
    have e1 := Same.new (o := .tup []) ns
    exact ⟨a, n, g, o, ps, wr, sa, [], rfl, N.same e1, ok, hw, upd_same, Tabs.same tb e1, fun p H' xs a' hp hr => q p H' xs ((Aft.ofSame tb e1).trans a') hp hr⟩
end
end K26
set_option Elab.async false
set_option linter.all false
set_option maxRecDepth 100000
set_option maxHeartbeats 4000000
namespace K26
open PySem PySem.Spec PyProof.Rows L2 GX
open C8 (Cal pe_c pe_gc)
section
variable {P : Program} {w : World} {K : PySem.W.Frag} {mg : Str → Option Value} {base : Heap} {Ts : List Addr}
def spWiresOf (Ts : List Addr) : Sp := fun vs H Q _ => ∃ M : Nat, vs = [nV M] ∧ M < 2 ^ 23 ∧ Tabs Ts H ∧ ∀ p H', Aft Ts H H' → H' p = some (.tup ((bitsOf M).map nV)) → Q (.ref p) H'
theorem bits_step (M i : Nat) : (List.range (i + 1)).filter (fun x => M.testBit x) = (List.range i).filter (fun x => M.testBit x) ++ (if M.testBit i = true then [i] else []) := by
  rw [List.range_succ, List.filter_append, List.filter_cons]
  rfl
theorem ok_wiresof {f c PG : Addr} (D : Dfn K mg "wires_of" s_wires_of f c) (T : Txt mg) (TB_wires_of : GxR.TabB base mg c PG) (hP : PG ∈ Ts) : Cal P w K mg base 1 "wires_of" (spWiresOf Ts) [] := by
  refine cal D (fun _ _ _ _ _ _ us hl => match us, hl with | [_], _ => rfl) sc_wires_of (fun vs H Q E h => ?_) (fun A outer s H vs Q E hr h => ?_)
  · obtain ⟨M, rfl, _⟩ := h
    rfl
  · obtain ⟨M, rfl, hM, tb, q⟩ := h
    refine ⟨_, (pss_one (ps_ret (pe_tupG (own := [("wire", 1)]) hr (by rfl) T.b_tuple TB_wires_of rfl (gxOk_by (N := ["mask", "wire"]) (sc := defScope s_wires_of) (own := [("wire", 1)]) (by decide +kernel)) sc_wires_of.nd (pi_range1 (by rfl) T.b_range (pa_cons (pe_bits (pv 0)) pa_nil)) (fun _ _ _ _ => (pg_name (i := 1) sc_wires_of.nd rfl (by first | exact Or.inl rfl | exact Or.inr rfl))) (fun _ _ _ _ => (pts_one (pt_truthK (K := K) (pe_op op_and (pe_op op_shr (pv 0) (pv 1)) pe_int) (by intro _; rfl)))) (fun _ _ _ _ => (pv 1))))), ?_⟩
    have hb : Builtin.Int.intBits ((M : Nat) : Int) ≤ 10000 := bits_small hM
    refine ⟨_, rfl, _, rfl, _, rfl, by omega, by omega, tb PG hP, fun H2 ht => ?_⟩
    have a2 : Aft Ts H H2 := ⟨Keep.tabbed hP ht, tb.tabbed ht⟩
    refine turns_it (walk_range (lo := 0) (n := ((Builtin.Int.intBits ((M : Nat) : Int) : Nat) : Int).toNat)) (fun i ys H' => ys = ((List.range i).filter fun x => M.testBit x).map nV ∧ Aft Ts H H') ⟨rfl, a2⟩ (fun i ys H' _ _ => trivial) ?_ ?_
    · rintro i x ys H3 H4 hi ⟨rfl, a3⟩ ⟨rfl, rfl⟩
      rw [Int.toNat_natCast] at hi
      refine ⟨rfl, _, rfl, _, rfl, _, _, rfl, rfl, by omega, _, _, rfl, rfl, ?_⟩
      dsimp -proj only
      rw [Int.zero_add, bit_of]
      refine ⟨_, rfl, ?_⟩
      have ev : ((((M / 2 ^ i % 2 : Nat) : Int) != 0)) = M.testBit i := by
        rw [Nat.testBit_eq_decide_div_mod_eq]
        by_cases h : M / 2 ^ i % 2 = 1
        · rw [h]
          rfl
        · rw [decide_eq_false h, show M / 2 ^ i % 2 = 0 by omega]
          rfl
      rw [ev]
      refine ite2 (fun h0 => ?_) (fun h0 => ?_)
      · refine ⟨_, rfl, ?_, fun _ => ⟨?_, a3⟩⟩
        · show (List.map nV _).length < sizeLine
          rw [List.length_map]
          exact Nat.lt_of_le_of_lt (List.length_filter_le _ _) (by rw [List.length_range]; exact small256 (by omega))
        · rw [bits_step, if_pos h0, List.map_append]
          rfl
      · refine ⟨?_, a3⟩
        rw [bits_step, if_neg h0, List.append_nil]
    · rintro ys H3 ⟨rfl, a3⟩
      rw [Int.toNat_natCast]
      refine ⟨?_, fun r hr => ?_⟩
      · rw [List.length_map]
        exact Nat.le_trans (List.length_filter_le _ _) (by rw [List.length_range]; exact Nat.le_of_lt (small256 hb))
      · exact q r _ (a3.trans (Aft.new a3.tb hr)) upd_same
def spFits : Sp := fun vs H Q _ => ∃ M k : Nat, vs = [nV M, nV k] ∧ k ≤ 1000 ∧ Q (.bl (decide (pop M ≤ k))) H
theorem ok_fits {f c : Addr} (D : Dfn K mg "fits" s_fits f c) (T : Txt mg) : Cal P w K mg base 1 "fits" spFits [] := by
  refine cal D (fun _ _ _ _ _ _ us hl => match us, hl with | [_, _], _ => rfl) sc_fits (fun vs H Q E h => ?_) (fun A outer s H vs Q E hr h => ?_)
  · obtain ⟨M, k, rfl, _⟩ := h
    rfl
  · obtain ⟨M, k, rfl, hk, q⟩ := h
    refine ⟨_, (pss_cons (ps_for PassesOwn.never rfl (pi_range1 (by rfl) T.b_range (pa_cons (pv 1) pa_nil)) (pg_name (i := 2) sc_fits.nd rfl (by first | exact Or.inl rfl | exact Or.inr rfl))
        (pss_one (ps_aug (i := 0) sc_fits.nd rfl (by first | exact Or.inl rfl | exact Or.inr rfl) (pe_op op_sub (pv 0) pe_int) ip_and)))
      (pss_one (ps_ret (pe_cmpR op_eq (pv 0) pe_int (nomark _))))), ?_⟩
    refine ⟨_, rfl, _, rfl, by omega, by omega, ?_⟩
    refine for_range (lo := 0) (n := ((k : Nat) : Int).toNat) (fun i σ H' => ∃ x2 : Option V, σ = [some (nV (clows i M)), some (nV k), x2] ∧ H' = H) ⟨none, rfl, rfl⟩ ?_ ?_
    · rintro i σ H' _ ⟨x2, rfl, rfl⟩
      refine ⟨_, rfl, _, rfl, _, _, rfl, rfl, _, _, rfl, rfl, ?_⟩
      refine ⟨some (V.int (0 + ((i : Nat) : Int))), ?_, rfl⟩
      show [some (V.int (Builtin.bitAnd ((clows i M : Nat) : Int) (((clows i M : Nat) : Int) - 1))), _, _] = _
      rw [and_low]
      rfl
    · rintro σ H' ⟨x2, rfl, rfl⟩
      rw [Int.toNat_natCast]
      refine ⟨_, rfl, rfl, ?_⟩
      have e : decide (nV (clows k M) = V.int 0) = decide (pop M ≤ k) := by
        refine decide_eq_decide.mpr ⟨fun z => (fits_iff M k).mp ?_, fun z => by rw [(fits_iff M k).mpr z]; rfl⟩
        have z' := V.int.inj z
        omega
      show Q (.bl (decide (nV (clows k M) = V.int 0))) H'
      rw [e]
      exact q
def spHasPart : Sp := fun vs H Q _ => ∃ (d : Addr) (F : List Nat) (M : Nat), vs = [.ref d, nV M] ∧ Rd H d (.dK (kvF F)) ∧ 0 < M ∧ Q (.bl (hasPart F M)) H
theorem ok_haspart {f c : Addr} (D : Dfn K mg "has_part" s_has_part f c) (T : Txt mg) : Cal P w K mg base 1 "has_part" spHasPart [] := by
  refine cal D (fun _ _ _ _ _ _ us hl => match us, hl with | [_, _], _ => rfl) sc_has_part (fun vs H Q E h => ?_) (fun A outer s H vs Q E hr h => ?_)
  · obtain ⟨d, F, M, rfl, _⟩ := h
    rfl
  · obtain ⟨d, F, M, rfl, hd, hM, q⟩ := h
    refine ⟨_, (pss_cons (ps_set (i := 2) sc_has_part.nd rfl (by first | exact Or.inl rfl | exact Or.inr rfl) (pe_op op_and (pe_op op_sub (pv 1) pe_int) (pv 1)))
      (pss_cons (ps_while PassesOwn.never (pt_cmpR op_gt (pv 2) pe_int (nomark _)) (pss_cons (ps_if (pt_cmp (pc_din (Nat.lt_of_le_of_lt (Nat.add_le_add_left (by decide) _) hr.units) (pv 2) (pv 0))) (pss_one (ps_ret pe_bl)) pss_nil)
      (pss_one (ps_set (i := 2) sc_has_part.nd rfl (by first | exact Or.inl rfl | exact Or.inr rfl) (pe_op op_and (pe_op op_sub (pv 2) pe_int) (pv 1))))))
      (pss_one (ps_ret pe_bl)))), ?_⟩
    refine ⟨_, rfl, _, _, rfl, rfl, _, rfl, _, _, rfl, rfl, ?_⟩
    dsimp -proj only
    rw [and_next hM]
    have sub1 : ∀ {p : Nat}, Sub ((p - 1) &&& M) M := fun {p} j hj => by
      rw [Nat.testBit_and] at hj
      exact (Bool.and_eq_true_iff.mp hj).2
    refine while_at (fun σ H' => ∃ p : Nat, σ = [some (.ref d), some (nV M), some (nV p)] ∧ H' = H ∧ Sub p M ∧ p < M ∧ ∀ q ∈ F, 0 < q → q ≠ M → Sub q M → q ≤ p) (fun σ _ => natOf σ 2) ⟨_, rfl, rfl, sub1, Nat.lt_of_le_of_lt Nat.and_le_left (by omega), fun q _ h0 ne sq => next_part M M M q (Nat.le_refl _) hM (Sub.refl M) sq (Nat.lt_of_le_of_ne sq.le ne)⟩ ?_
    rintro σ H' ⟨p, rfl, rfl, hp, hpM, hq⟩
    refine ⟨_, rfl, _, _, rfl, rfl, _, rfl, ite2 (fun h0 => ?_) (fun h0 => ?_)⟩
    · have p0 : 0 < p := by
        have := of_decide_eq_true h0
        omega
      refine ⟨_, whN, ?_⟩
      have dg : DGet H' d (nV p) (valV (kvF F) (nK p)) := .inl ⟨kvF F, nK p, hd, rfl, rfl⟩
      refine ⟨_, rfl, _, rfl, d, _, rfl, dg, _, rfl, ?_⟩
      rw [kvF_some]
      refine ite2 (fun hin => ?_) (fun hin => ?_)
      · have e : hasPart F M = true := hasPart_iff.mpr ⟨p, of_decide_eq_true hin, p0, Nat.ne_of_lt hpM, hp⟩
        rw [e] at q
        exact q
      · refine ⟨_, rfl, _, _, rfl, rfl, _, rfl, _, _, rfl, rfl, ?_⟩
        dsimp -proj only
        rw [and_next p0]
        have lt : (p - 1) &&& M < p := Nat.lt_of_le_of_lt Nat.and_le_left (by omega)
        refine ⟨⟨_, rfl, rfl, sub1, by omega, fun q hqF h0 ne sq => ?_⟩, ?_⟩
        · have le := hq q hqF h0 ne sq
          have ne2 : q ≠ p := fun z => hin (decide_eq_true (by rw [← z]; exact hqF))
          exact next_part p p M q (Nat.le_refl _) p0 hp sq (by omega)
        · exact lt
    · have p0 : p = 0 := by
        refine Classical.not_not.mp fun z => h0 (decide_eq_true ?_)
        show ((p : Nat) : Int) > 0
        omega
      have e : hasPart F M = false := by
        cases e : hasPart F M with
        | false => rfl
        | true =>
          obtain ⟨q', h1, h2, h3, h4⟩ := hasPart_iff.mp e
          have := hq q' h1 h2 h3 h4
          omega
      rw [e] at q
      exact q
def spGateMasks : Sp := fun vs H Q _ => ∃ (la lb : Addr) (fs ss : List Nat) (k : Nat), vs = [.ref la, .ref lb, nV k] ∧ H la = some (.lst (fs.map nV)) ∧ H lb = some (.lst (ss.map nV)) ∧ (∀ f ∈ fs, 0 < f ∧ f < 2 ^ 23) ∧ (∀ f ∈ ss, f < 2 ^ 23) ∧ k ≤ 1000 ∧
  ∀ p H' (F : List Nat), Same H H' → H p = none → H' p = some (.lst ((F.filter fun M => !hasPart F M).map nV)) → F.Nodup → (∀ M ∈ F, M < 2 ^ 23) → Found k fs ss F → Q (.ref p) H'
theorem ok_gatemasks {f c : Addr} (D : Dfn K mg "gate_masks" s_gate_masks f c) (T : Txt mg) (c_fits : Cal P w K mg base 1 "fits" spFits []) (c_has_part : Cal P w K mg base 1 "has_part" spHasPart []) : Cal P w K mg base 2 "gate_masks" spGateMasks [] := by
  refine cal D (fun _ _ _ _ _ _ us hl => match us, hl with | [_, _, _], _ => rfl) sc_gate_masks (fun vs H Q E h => ?_) (fun A outer s H vs Q E hr h => ?_)
  · obtain ⟨la, lb, fs, ss, k, rfl, _⟩ := h
    rfl
  · obtain ⟨la, lb, fs, ss, k, rfl, hla, hlb, hfs, hss, hk, q⟩ := h
    refine ⟨_, (pss_cons (ps_set (i := 3) sc_gate_masks.nd rfl (by first | exact Or.inl rfl | exact Or.inr rfl) pe_dnewK)
      (pss_cons (ps_for PassesOwn.never rfl (pi_list (pv 0)) (pg_name (i := 4) sc_gate_masks.nd rfl (by first | exact Or.inl rfl | exact Or.inr rfl))
        (pss_one (ps_for PassesOwn.never rfl (pi_list (pv 1)) (pg_name (i := 5) sc_gate_masks.nd rfl (by first | exact Or.inl rfl | exact Or.inr rfl))
        (pss_one (ps_if (pt_val (pe_c c_fits hr (by decide) (by rfl) (pa_cons (pe_op op_or (pv 4) (pv 5)) (pa_cons (pv 2) pa_nil)))) (pss_one (ps_dput (Nat.lt_of_le_of_lt (Nat.add_le_add_left (by decide) _) hr.units) (pv 3) (pe_op op_or (pv 4) (pv 5)) pe_bl (by rfl))) pss_nil)))))
      (pss_one (ps_ret (pe_lock (pe_lc (own := [("mask", 6)]) (g := gName 6)  rfl sc_gate_masks.nd (pi_keys (pv 3)) (blkOk_by (own := [("mask", 6)]) (N := ["firsts", "seconds", "k", "found", "first", "second", "mask"]) (sc := defScope s_gate_masks) (by decide +kernel)) (fun _ _ _ _ _ => (pg_name (i := 6) sc_gate_masks.nd rfl (by first | exact Or.inl rfl | exact Or.inr rfl))) (fun _ _ _ _ _ => (pts_one (pt_not (pt_val (pe_c c_has_part hr (by decide) (by rfl) (pa_cons (pv 3) (pa_cons (pv 6) pa_nil))))))) (fun _ _ _ _ _ => (pv 6)))))))), ?_⟩
    refine fun d nd => ?_
    have s1 := Same.new (o := .dK []) nd
    have putA : ∀ {Hx : Hp} {u : HO}, Same H Hx → Same H (upd Hx d u) := fun {Hx u} x b o e => by rw [upd_ne (ne_of_none e nd)]; exact x b o e
    have hd1 : upd H d (.dK []) d = some (.dK (kvF [])) := upd_same
    generalize upd H d (.dK []) = H1 at s1 hd1 ⊢
    refine ⟨_, rfl, la, rfl, ⟨_, SqL.of (s1 _ _ hla)⟩, ?_⟩
    refine for_list (K := K) (a := la) (xs := fs.map nV) (fun i σ H' => ∃ (x4 x5 x6 : Option V) (F : List Nat), σ = [some (.ref la), some (.ref lb), some (nV k), some (.ref d), x4, x5, x6] ∧ Same H H' ∧ H' d = some (.dK (kvF F)) ∧ F.Nodup ∧ (∀ M ∈ F, 0 < M ∧ M < 2 ^ 23) ∧ FoundW k fs ss i 0 F) ⟨none, none, none, [], rfl, s1, hd1, List.nodup_nil, fun M hM => (by cases hM), FoundW.zero _ _ _⟩ ?_ ?_ ?_
    · rintro i σ H' _ ⟨_, _, _, _, _, s', _⟩
      exact SqL.of (s' _ _ hla)
    · rintro i x σ H2 hx ⟨x4, x5, x6, F, rfl, s2, hd2, nF, lF, fw⟩
      have hi : i < fs.length := by
        have := (List.getElem?_eq_some_iff.mp hx).1
        rwa [List.length_map] at this
      rw [natAt hi] at hx
      cases hx
      obtain ⟨f0, f23⟩ := hfs _ (getD_mem hi)
      refine ⟨_, rfl, lb, rfl, ⟨_, SqL.of (s2 _ _ hlb)⟩, ?_⟩
      refine for_list (K := K) (a := lb) (xs := ss.map nV) (fun j σ H' => ∃ (x5 x6 : Option V) (F : List Nat), σ = [some (.ref la), some (.ref lb), some (nV k), some (.ref d), some (nV (fs.getD i 0)), x5, x6] ∧ Same H H' ∧ H' d = some (.dK (kvF F)) ∧ F.Nodup ∧ (∀ M ∈ F, 0 < M ∧ M < 2 ^ 23) ∧ FoundW k fs ss i j F) ⟨_, _, F, rfl, s2, hd2, nF, lF, fw⟩ ?_ ?_ ?_
      · rintro j σ H' _ ⟨_, _, _, _, s', _⟩
        exact SqL.of (s' _ _ hlb)
      · rintro j x σ H3 hx ⟨x5, x6, F, rfl, s3, hd3, nF, lF, fw⟩
        have hj : j < ss.length := by
          have := (List.getElem?_eq_some_iff.mp hx).1
          rwa [List.length_map] at this
        rw [natAt hj] at hx
        cases hx
        have s23 := hss _ (getD_mem hj)
        have o23 := or_lt23 f23 s23
        have o0 : 0 < fs.getD i 0 ||| ss.getD j 0 := Nat.lt_of_lt_of_le f0 (sub_or_left _ _).le
        refine ⟨_, rfl, _, rfl, _, _, rfl, rfl, _, rfl, fs.getD i 0 ||| ss.getD j 0, k, (by show [V.int (Builtin.bitOr _ _), _] = _; rw [or_of]; rfl), hk, _, rfl, ite2 (fun hp => ?_) (fun hp => ?_)⟩
        · have hp' := of_decide_eq_true hp
          refine ⟨_, rfl, _, rfl, _, rfl, _, _, rfl, rfl, ?_⟩
          dsimp -proj only
          rw [or_of]
          generalize hM : fs.getD i 0 ||| ss.getD j 0 = M at o23 o0 hp' ⊢
          refine ⟨d, _, rfl, DPut.k (k := nK M) hd3 (by rw [kvF_len]; exact nodup_lt23 nF fun M h => (lF M h).2), ?_⟩
          by_cases e : M ∈ F
          · rw [kvF_again e]
            exact ⟨_, _, F, rfl, putA s3, upd_same, nF, lF, fw.yes hj (by rw [hM]; exact hp') fun M' => by
              rw [hM]
              exact ⟨.inl, fun z => z.elim id fun z => by rw [z]; exact e⟩⟩
          · rw [kvF_put e]
            refine ⟨_, _, F ++ [M], rfl, putA s3, upd_same, nodup_snoc nF e, fun M' h => ?_, fw.yes hj (by rw [hM]; exact hp') fun M' => by rw [hM, List.mem_append, List.mem_singleton]⟩
            rcases List.mem_append.mp h with h | h
            · exact lF M' h
            · rw [List.mem_singleton.mp h]
              exact ⟨o0, o23⟩
        · exact ⟨_, _, F, rfl, s3, hd3, nF, lF, fw.no hj fun z => hp (decide_eq_true z)⟩
      · rintro σ H3 ⟨x5, x6, F, rfl, s3, hd3, nF, lF, fw⟩
        rw [List.length_map] at fw
        exact ⟨_, _, _, F, rfl, s3, hd3, nF, lF, fw.row hi⟩
    · rintro σ H2 ⟨x4, x5, x6, F, rfl, s2, hd2, nF, lF, fw⟩
      rw [List.length_map] at fw
      have fl := nodup_lt23 nF fun M h => (lF M h).2
      refine ⟨d, .dK (kvF F), hd2, trivial, fun od => ⟨_, rfl, d, od, rfl, .inl ⟨kvF F, upd_same, fun S nS => ?_⟩⟩⟩
      have hdl : upd H2 d (.frz od (.dK (kvF F))) d = some (.frz od (.dK (kvF F))) := upd_same
      have sl : Same H (upd H2 d (.frz od (.dK (kvF F)))) := putA s2
      generalize upd H2 d (.frz od (.dK (kvF F))) = Hl at nS hdl sl ⊢
      refine lc_it (walk_keys (kvs := kvF F)) (fun i H' => Own Hl H' S (((F.take i).filter fun M => !hasPart F M).map nV)) ⟨Same.new nS, upd_same, nS⟩ (fun i H' _ o' => o'.sm _ _ hdl) ?_ ?_
      · rintro i x H3 H4 hi o3 ⟨rfl, kk, v, hkv, rfl⟩
        rw [kvF_len] at hi
        have ek : kk = nK (F.getD i 0) := by
          unfold kvF at hkv
          rw [List.getElem?_map, List.getElem?_eq_getElem hi] at hkv
          rw [List.getD_eq_getElem?_getD, List.getElem?_eq_getElem hi]
          have := Option.some.inj hkv
          exact (congrArg Prod.fst this).symm
        subst ek
        have hm := getD_mem hi
        have ef : (F.take (i + 1)).filter (fun M => !hasPart F M) = (F.take i).filter (fun M => !hasPart F M) ++ (if (!hasPart F (F.getD i 0)) = true then [F.getD i 0] else []) := by
          rw [List.take_add_one, List.filter_append, List.getD_eq_getElem?_getD, List.getElem?_eq_getElem hi, Option.toList_some, List.filter_cons]
          rfl
        generalize F.getD i 0 = z at hm ef ⊢
        refine ⟨rfl, _, rfl, _, rfl, d, F, z, rfl, .inr ⟨od, o3.sm _ _ hdl⟩, (lF z hm).1, _, rfl, ite2 (fun hg => ?_) (fun hg => ?_)⟩
        · refine ⟨_, rfl, _, o3.at_, ?_, ?_⟩
          · rw [List.length_map]
            exact Nat.lt_of_le_of_lt (List.length_filter_le _ _) (by rw [List.length_take]; omega)
          · rw [ef, if_pos hg, List.map_append]
            exact o3.app
        · show Own Hl H4 S _
          rw [ef, if_neg hg, List.append_nil]
          exact o3
      · rintro H3 o3
        rw [kvF_len, List.take_length] at o3
        refine ⟨o3.sm _ _ hdl, ?_⟩
        have Sd : S ≠ d := fun z => by rw [z, hdl] at nS; cases nS
        have s4 : Same H (upd H3 d (.dK (kvF F))) := putA (sl.trans o3.sm)
        have S0 : H S = none := Classical.not_not.mp fun z => by
          obtain ⟨u, hu⟩ := Option.ne_none_iff_exists'.mp z
          rw [sl _ _ hu] at nS
          cases nS
        exact q S _ F s4 S0 (by rw [upd_ne Sd]; exact o3.at_) nF (fun M h => (lF M h).2) fw.all
end
section
variable {P : Program} {w : World} {K : PySem.W.Frag} {mg : Str → Option Value} {base : Heap} {Ts : List Addr}
structure WsOk (n : Net) (ws : List Nat) : Prop where
  ris : ws.Pairwise (· < ·)
  lt : ∀ x ∈ ws, x < n.many + n.gates.length
  clo : ∀ x ∈ ws, ∀ k, n.many ≤ x → n.gates[x - n.many]? = some k → k.2.1 ∈ ws ∧ k.2.2 ∈ ws
def spCutMasks : Sp := fun vs H Q _ => ∃ (a wa : Addr) (n : Net) (g o : Addr) (ps : List Addr) (ws : List Nat) (k : Nat), vs = [.ref a, .ref wa, nV k] ∧ NetAt H a n g o ps ∧ n.Ok ∧ H wa = some (.lst (ws.map nV)) ∧ WsOk n ws ∧ 1 ≤ k ∧ k ≤ 1000 ∧
  ∀ d H' kvs, Same H H' → H' d = some (.dK kvs) → (∀ x ∈ ws, CutsIn n k H' kvs x) → Q (.ref d) H'
theorem ok_cutmasks {f c : Addr} (D : Dfn K mg "cut_masks" s_cut_masks f c) (T : Txt mg) (c_places : Cal P w K mg base 1 "places" spPlaces []) (c_gate_masks : Cal P w K mg base 2 "gate_masks" spGateMasks []) : Cal P w K mg base 3 "cut_masks" spCutMasks [] := by
  refine cal D (fun _ _ _ _ _ _ us hl => match us, hl with | [_, _, _], _ => rfl) sc_cut_masks (fun vs H Q E h => ?_) (fun A outer s H vs Q E hr h => ?_)
  · obtain ⟨a, wa, n, g, o, ps, ws, k, rfl, _⟩ := h
    rfl
  · obtain ⟨a, wa, n, g, o, ps, ws, k, rfl, N, ok, hwa, wok, hk1, hk, q⟩ := h
    have m8 := ok.m8
    have g16 := ok.g16
    refine ⟨_, (pss_cons (ps_set (i := 3) sc_cut_masks.nd rfl (by first | exact Or.inl rfl | exact Or.inr rfl) pe_dnewK)
      (pss_cons (ps_for PassesOwn.never rfl (pi_list (pv 1)) (pg_name (i := 4) sc_cut_masks.nd rfl (by first | exact Or.inl rfl | exact Or.inr rfl))
        (pss_cons (ps_dput (Nat.lt_of_le_of_lt (Nat.add_le_add_left (by decide) _) hr.units) (pv 3) (pv 4) (pe_lst pa_nil) (by rfl))
      (pss_one (ps_if (pt_cmpR op_ge (pv 4) (pe_ix ix_tup (pv 0) pe_int (fun _ _ => rfl)) (nomark _)) (pss_cons (ps_asg (pe_c c_places hr (by decide) (by rfl) (pa_cons (pv 0) (pa_cons (pv 4) pa_nil))) (pg_tup rfl (pgs_cons (pg_name (i := 5) sc_cut_masks.nd rfl (by first | exact Or.inl rfl | exact Or.inr rfl)) (pgs_cons (pg_name (i := 6) sc_cut_masks.nd rfl (by first | exact Or.inl rfl | exact Or.inr rfl)) pgs_nil))))
      (pss_one (ps_dput (Nat.lt_of_le_of_lt (Nat.add_le_add_left (by decide) _) hr.units) (pv 3) (pv 4) (pe_c c_gate_masks hr (by decide) (by rfl) (pa_cons (pe_op op_cat (pe_dget (Nat.lt_of_le_of_lt (Nat.add_le_add_left (by decide) _) hr.units) (pv 3) (pv 5) (fun _ _ => rfl)) (pe_lst (pa_cons (pe_op op_shl pe_int (pv 5)) pa_nil))) (pa_cons (pe_op op_cat (pe_dget (Nat.lt_of_le_of_lt (Nat.add_le_add_left (by decide) _) hr.units) (pv 3) (pv 6) (fun _ _ => rfl)) (pe_lst (pa_cons (pe_op op_shl pe_int (pv 6)) pa_nil))) (pa_cons (pv 2) pa_nil)))) (by rfl)))) pss_nil))))
      (pss_one (ps_ret (pv 3))))), ?_⟩
    refine fun d nd => ?_
    have s1 := Same.new (o := .dK []) nd
    have putA : ∀ {Hx : Hp} {u : HO}, Same H Hx → Same H (upd Hx d u) := fun {Hx u} x b o e => by rw [upd_ne (ne_of_none e nd)]; exact x b o e
    have putL : ∀ {Hx : Hp} {u : HO} {kvs : List (L2.Key × V)}, Hx d = some (.dK kvs) → ∀ b zs, Hx b = some (.lst zs) → upd Hx d u b = some (.lst zs) := fun {Hx u kvs} hd b zs e => by
      rw [upd_ne (fun z => by rw [z, hd] at e; cases e)]
      exact e
    have hd1 : upd H d (.dK []) d = some (.dK []) := upd_same
    generalize upd H d (.dK []) = H1 at s1 hd1 ⊢
    have wl : ws.length ≤ 24 := by
      have nd : ws.Nodup := wok.ris.imp fun h => Nat.ne_of_lt h
      have := nd.length_le_of_subset (l₂ := List.range (n.many + n.gates.length)) fun x hx => List.mem_range.mpr (wok.lt x hx)
      rw [List.length_range] at this
      omega
    refine ⟨_, rfl, wa, rfl, ⟨_, SqL.of (s1 _ _ hwa)⟩, ?_⟩
    refine for_list (K := K) (a := wa) (xs := ws.map nV) (fun i σ H' => ∃ (x4 x5 x6 : Option V) (kvs : List (L2.Key × V)), σ = [some (.ref a), some (.ref wa), some (nV k), some (.ref d), x4, x5, x6] ∧ Same H H' ∧ H' d = some (.dK kvs) ∧ kvs.length ≤ 2 * i ∧ ∀ x ∈ ws.take i, CutsIn n k H' kvs x) ⟨none, none, none, [], rfl, s1, hd1, Nat.le_refl _, fun x hx => (by cases hx)⟩ ?_ ?_ ?_
    · rintro i σ H' _ ⟨_, _, _, _, _, s', _⟩
      exact SqL.of (s' _ _ hwa)
    · rintro i x σ H2 hx ⟨x4, x5, x6, kvs, rfl, s2, hd2, kl, ci⟩
      have hi : i < ws.length := by
        have := (List.getElem?_eq_some_iff.mp hx).1
        rwa [List.length_map] at this
      rw [natAt hi] at hx
      cases hx
      have hx := getD_mem hi
      have xlt := wok.lt _ hx
      have tk := mem_take_succ hi
      have inT : ∀ y ∈ ws, y < ws.getD i 0 → y ∈ ws.take i := fun y hy h => mem_take_lt wok.ris hi hy h
      have ne : ∀ y ∈ ws.take i, y ≠ ws.getD i 0 := fun y hy => Nat.ne_of_lt (not_mem_take wok.ris hi hy)
      have clo := wok.clo _ hx
      generalize ws.getD i 0 = x at hx xlt tk inT ne clo ⊢
      refine ⟨small 0, fun L nL => ⟨_, rfl, _, rfl, d, _, rfl, DPut.k (k := nK x) (Same.new nL _ _ hd2) (small256 (by omega)), ?_⟩⟩
      have hdL : upd H2 L (.lst []) d = some (.dK kvs) := Same.new nL _ _ hd2
      have s3 : Same H (upd (upd H2 L (.lst [])) d (.dK (putK kvs (nK x) (.ref L)))) := putA (s2.trans (Same.new nL))
      have hd3 : upd (upd H2 L (.lst [])) d (.dK (putK kvs (nK x) (.ref L))) d = some (.dK (putK kvs (nK x) (.ref L))) := upd_same
      have hL3 : upd (upd H2 L (.lst [])) d (.dK (putK kvs (nK x) (.ref L))) L = some (.lst []) := putL hdL _ _ upd_same
      have ci3 : ∀ y ∈ ws.take i, CutsIn n k (upd (upd H2 L (.lst [])) d (.dK (putK kvs (nK x) (.ref L)))) (putK kvs (nK x) (.ref L)) y := fun y hy => ((ci y hy).mono fun b zs e => putL hdL _ _ (Same.new nL _ _ e)).put (ne y hy)
      generalize upd (upd H2 L (.lst [])) d (.dK (putK kvs (nK x) (.ref L))) = H3 at s3 hd3 hL3 ci3 ⊢
      have kl3 := putK_le kvs (nK x) (.ref L)
      have val3 : valV (putK kvs (nK x) (.ref L)) (nK x) = some (.ref L) := by rw [valV_put, if_pos rfl]
      generalize putK kvs (nK x) (.ref L) = kv3 at hd3 ci3 kl3 val3 ⊢
      have N3 := N.same s3
      refine ⟨_, rfl, _, rfl, a, _, 0, _, rfl, rfl, SqT.of N3.top, at0, _, _, rfl, rfl, _, rfl, ite2 (fun hg => ?_) (fun hg => ?_)⟩
      · have hg' : n.many ≤ x := by
          have := of_decide_eq_true hg
          omega
        obtain ⟨kk, hkk⟩ : ∃ kk, n.gates[x - n.many]? = some kk := ⟨_, List.getElem?_eq_getElem (by omega)⟩
        obtain ⟨c1, c2⟩ := clo kk hg' hkk
        have l1 := place_lt ok hg' hkk (.inl rfl)
        have l2 := place_lt ok hg' hkk (.inr rfl)
        obtain ⟨p1, ms1, v1, h1, ml1, nd1⟩ := ci3 _ (inT _ c1 l1)
        obtain ⟨p2, ms2, v2, h2, ml2, nd2⟩ := ci3 _ (inT _ c2 l2)
        have lt1 := wok.lt _ c1
        have lt2 := wok.lt _ c2
        have f1 := ml1.full ok lt1 hk1
        have f2 := ml2.full ok lt2 hk1
        have b1 : ∀ M ∈ ms1, 0 < M ∧ M < 2 ^ 23 := fun M h => ml1.lt23 ok lt1 h
        have b2 : ∀ M ∈ ms2, 0 < M ∧ M < 2 ^ 23 := fun M h => ml2.lt23 ok lt2 h
        have lm1 := nodup_lt23 nd1 fun M h => (b1 M h).2
        have lm2 := nodup_lt23 nd2 fun M h => (b2 M h).2
        have w1 := pow_lt23 (x := kk.2.1) (by omega)
        have w2 := pow_lt23 (x := kk.2.2) (by omega)
        refine ⟨_, rfl, _, rfl, a, n, g, o, ps, x, kk, rfl, N3, hg', hkk, fun t nt => ?_⟩
        have s4 := s3.trans (Same.new (o := .tup [nV kk.2.1, nV kk.2.2]) nt)
        have ht4 : upd H3 t (.tup [nV kk.2.1, nV kk.2.2]) t = some (.tup [nV kk.2.1, nV kk.2.2]) := upd_same
        have st := Same.new (o := .tup [nV kk.2.1, nV kk.2.2]) nt
        generalize upd H3 t (.tup [nV kk.2.1, nV kk.2.2]) = H4 at s4 ht4 st ⊢
        have hd4 := st _ _ hd3
        refine ⟨t, _, rfl, SqT.of ht4, rfl, _, _, rfl, _, _, rfl, rfl, ?_⟩
        have dg1 : DGet H4 d (nV kk.2.1) (some (.ref p1)) := .inl ⟨kv3, nK kk.2.1, .inl hd4, rfl, v1.symm⟩
        refine ⟨_, rfl, _, rfl, d, _, rfl, dg1, _, rfl, _, _, rfl, rfl, ⟨by omega, by omega, by decide⟩, ?_⟩
        dsimp -proj only
        rw [shl_of]
        refine ⟨small 1, fun L1 nL1 => ⟨p1, L1, _, _, rfl, rfl, Same.new nL1 _ _ (st _ _ h1), upd_same, by rw [List.length_map]; exact lm1, fun R1 nR1 => ?_⟩⟩
        have s5 := (Same.new (o := .lst [V.int ((2 ^ kk.2.1 : Nat) : Int)]) nL1).trans (Same.new (o := .lst (ms1.map nV ++ [V.int ((2 ^ kk.2.1 : Nat) : Int)])) nR1)
        have hR1 : upd (upd H4 L1 (.lst [V.int ((2 ^ kk.2.1 : Nat) : Int)])) R1 (.lst (ms1.map nV ++ [V.int ((2 ^ kk.2.1 : Nat) : Int)])) R1 = some (.lst ((ms1 ++ [2 ^ kk.2.1]).map nV)) := by
          rw [upd_same, List.map_append]
          rfl
        generalize upd (upd H4 L1 (.lst [V.int ((2 ^ kk.2.1 : Nat) : Int)])) R1 (.lst (ms1.map nV ++ [V.int ((2 ^ kk.2.1 : Nat) : Int)])) = H5 at s5 hR1 ⊢
        have hd5 := s5 _ _ hd4
        have dg2 : DGet H5 d (nV kk.2.2) (some (.ref p2)) := .inl ⟨kv3, nK kk.2.2, .inl hd5, rfl, v2.symm⟩
        refine ⟨_, rfl, _, rfl, d, _, rfl, dg2, _, rfl, _, _, rfl, rfl, ⟨by omega, by omega, by decide⟩, ?_⟩
        dsimp -proj only
        rw [shl_of]
        refine ⟨small 1, fun L2 nL2 => ⟨p2, L2, _, _, rfl, rfl, Same.new nL2 _ _ (s5 _ _ (st _ _ h2)), upd_same, by rw [List.length_map]; exact lm2, fun R2 nR2 => ?_⟩⟩
        have s6 := (Same.new (o := .lst [V.int ((2 ^ kk.2.2 : Nat) : Int)]) nL2).trans (Same.new (o := .lst (ms2.map nV ++ [V.int ((2 ^ kk.2.2 : Nat) : Int)])) nR2)
        have hR2 : upd (upd H5 L2 (.lst [V.int ((2 ^ kk.2.2 : Nat) : Int)])) R2 (.lst (ms2.map nV ++ [V.int ((2 ^ kk.2.2 : Nat) : Int)])) R2 = some (.lst ((ms2 ++ [2 ^ kk.2.2]).map nV)) := by
          rw [upd_same, List.map_append]
          rfl
        generalize upd (upd H5 L2 (.lst [V.int ((2 ^ kk.2.2 : Nat) : Int)])) R2 (.lst (ms2.map nV ++ [V.int ((2 ^ kk.2.2 : Nat) : Int)])) = H6 at s6 hR2 ⊢
        have hd6 := s6 _ _ hd5
        refine ⟨_, rfl, R1, R2, _, _, k, rfl, s6 _ _ hR1, hR2, fun M hM => ?_, fun M hM => ?_, hk, fun p H7 F s7 np hp nF lF fd => ?_⟩
        · rcases List.mem_append.mp hM with h | h
          · exact b1 M h
          · rw [List.mem_singleton.mp h]
            exact w1
        · rcases List.mem_append.mp hM with h | h
          · exact (b2 M h).2
          · rw [List.mem_singleton.mp h]
            exact w2.2
        have ml := gate_found ok hg' xlt hkk f1 f2 fd
        have hd7 := s7 _ _ hd6
        have s47 := (st.trans (s5.trans s6)).trans s7
        refine ⟨_, rfl, _, rfl, d, _, rfl, DPut.k (k := nK x) hd7 (small256 (by omega)), ?_⟩
        have kl7 := putK_le kv3 (nK x) (.ref p)
        refine ⟨_, _, _, putK kv3 (nK x) (.ref p), rfl, putA (s3.trans s47), upd_same, by omega, fun y hy => ?_⟩
        rcases (tk y).mp hy with hy | rfl
        · exact ((ci3 y hy).mono fun b zs e => putL hd7 _ _ (s47 _ _ e)).put (ne y hy)
        · exact ⟨p, _, by rw [valV_put, if_pos rfl], putL hd7 _ _ hp, ml, nF.filter _⟩
      · have hx0 : x < n.many := by
          refine Nat.lt_of_not_le fun z => hg (decide_eq_true ?_)
          show ((x : Nat) : Int) ≥ ((n.many : Nat) : Int)
          omega
        refine ⟨_, _, _, kv3, rfl, s3, hd3, by omega, fun y hy => ?_⟩
        rcases (tk y).mp hy with hy | rfl
        · exact ci3 y hy
        · exact ⟨L, [], val3, hL3, ML.input hx0, List.nodup_nil⟩
    · rintro σ H2 ⟨x4, x5, x6, kvs, rfl, s2, hd2, kl, ci⟩
      rw [List.length_map, List.take_length] at ci
      exact ⟨_, rfl, q d H2 kvs s2 hd2 ci⟩
end
section
variable {P : Program} {w : World} {K : PySem.W.Frag} {mg : Str → Option Value} {base : Heap} {Ts : List Addr}
def spTold (Ts : List Addr) : Sp := fun vs H Q _ => ∃ (la : Addr) (ms : List Nat), vs = [.ref la] ∧ H la = some (.lst (ms.map nV)) ∧ ms.length < sizeLine ∧ (∀ M ∈ ms, 0 < M ∧ M < 2 ^ 23) ∧ Tabs Ts H ∧
  ∀ p H' (rs : List Addr) (cs : List (List Nat)), Aft Ts H H' → H' p = some (.tup (rs.map V.ref)) → TupsAt H' rs cs → cs.Perm (ms.map bitsOf) → (cs.Pairwise fun a b => lexN b a = false) → Q (.ref p) H'
theorem ok_told {f c : Addr} (D : Dfn K mg "told_cuts" s_told_cuts f c) (T : Txt mg) (c_wires_of : Cal P w K mg base 1 "wires_of" (spWiresOf Ts) []) : Cal P w K mg base 2 "told_cuts" (spTold Ts) [] := by
  refine cal D (fun _ _ _ _ _ _ us hl => match us, hl with | [_], _ => rfl) sc_told_cuts (fun vs H Q E h => ?_) (fun A outer s H vs Q E hr h => ?_)
  · obtain ⟨la, ms, rfl, _⟩ := h
    rfl
  · obtain ⟨la, ms, rfl, hla, hl, hb, tb, q⟩ := h
    refine ⟨_, (pss_one (ps_ret (pe_callTy call_tuple_of (by rfl) T.b_tuple (by decide +kernel) (pa_cons (pe_callB cr_sortTup (by rfl) T.b_sorted (by decide +kernel) (pa_cons (pe_lc (own := [("mask", 1)]) (g := gName 1) (tt := tYes) rfl sc_told_cuts.nd (pi_list (pv 0)) (blkOk_by (own := [("mask", 1)]) (N := ["masks", "mask"]) (sc := defScope s_told_cuts) (by decide +kernel)) (fun _ _ _ _ _ => (pg_name (i := 1) sc_told_cuts.nd rfl (by first | exact Or.inl rfl | exact Or.inr rfl))) (fun _ _ _ _ _ => pts_nil) (fun _ _ _ _ _ => (pe_c c_wires_of hr (by decide) (by rfl) (pa_cons (pv 1) pa_nil)))) pa_nil)) pa_nil)))), ?_⟩
    refine ⟨_, rfl, la, rfl, ⟨_, SqL.of hla⟩, fun M nM => ?_⟩
    have laM : la ≠ M := fun z => by rw [z, nM] at hla; cases hla
    refine lc_list (K := K) (a := la) (xs := ms.map nV) (fun i H' => ∃ ts : List Addr, H' M = some (.lst (ts.map V.ref)) ∧ Aft Ts H H' ∧ RefsAt (fun x => (bitsOf x).map nV) H' ts (ms.take i)) ⟨[], upd_same, Aft.new tb nM, RefsAt.nil _ _⟩ (fun _ H' _ h => h.elim fun ts h => SqL.of (h.2.1.lst tb hla)) ?_ ?_
    · rintro i x H4 hx ⟨ts, hM4, a4, R4⟩
      have hi : i < ms.length := by
        have := (List.getElem?_eq_some_iff.mp hx).1
        rwa [List.length_map] at this
      rw [natAt hi] at hx
      cases hx
      refine ⟨rfl, ?_⟩
      unfold tYes
      refine iteT ?_
      refine ⟨_, rfl, ms.getD i 0, rfl, (hb _ (getD_mem hi)).2, a4.tb, fun cp H5 a5 hcp => ?_⟩
      have hM5 := a5.lst a4.tb hM4
      have R5 := (R4.mono fun b zs e => a5.tup a4.tb e).push (y := ms.getD i 0) hcp
      have tl : ts.length ≤ i := by
        rw [R4.1, List.length_take]
        omega
      refine ⟨_, hM5, by rw [List.length_map]; omega, ts ++ [cp], by rw [upd_same, List.map_append]; rfl, ?_, ?_⟩
      · exact ⟨fun b u e nb => by rw [upd_ne (ne_of_none e nM)]; exact (a4.trans a5).kp b u e nb, a5.tb.upd (tb.none nM)⟩
      · have ew : ms.getD i 0 = ms[i] := by rw [List.getD_eq_getElem?_getD, List.getElem?_eq_getElem hi]; rfl
        rw [List.take_add_one, List.getElem?_eq_getElem hi, Option.toList_some, ← ew]
        exact R5.mono fun b zs e => by
          rw [upd_ne (fun z => by rw [z, hM5] at e; cases e)]
          exact e
    · rintro H4 ⟨ts, hM4, a4, R4⟩
      rw [List.length_map, List.take_length] at R4
      have R4' : TupsAt H4 ts (ms.map bitsOf) := ⟨by rw [List.length_map]; exact R4.1, fun i p x e1 e2 => by
        rw [List.getElem?_map] at e2
        cases e : ms[i]? with
        | none => rw [e] at e2; cases e2
        | some y =>
          rw [e] at e2
          cases e2
          exact R4.2 i p y e1 e⟩
      refine ⟨M, ts.map V.ref, fun x => (tupN H4 x).map (fun n : Nat => (n : Int)), rfl, SqL.of hM4, fun x hx => ?_, fun ys p srt pm np => ?_⟩
      · obtain ⟨t, c', rfl, hc, ht⟩ := R4'.all hx
        dsimp only
        rw [tupN_at ht]
        refine ⟨⟨t, rfl, by rw [mapV]; exact ht⟩, fun z => ?_⟩
        obtain ⟨M', hM', rfl⟩ := List.mem_map.mp hc
        have z' := List.map_eq_nil_iff.mp z
        have : pop M' = 0 := by
          unfold pop
          rw [z']
          rfl
        have := pop_zero_iff.mp this
        have := (hb M' hM').1
        omega
      · obtain ⟨rs, ds, rfl, hr', pd, sd⟩ := tups_sorted R4' srt pm
        refine ⟨p, _, rfl, .inl ⟨SqL.of upd_same, fun r nr => ?_⟩⟩
        have a5 := Aft.new (o := .lst (rs.map V.ref)) a4.tb np
        have a6 := Aft.new (o := .tup (rs.map V.ref)) a5.tb nr
        exact q r _ rs ds ((a4.trans a5).trans a6) upd_same (hr'.mono fun b zs e => a6.tup a5.tb (a5.tup a4.tb e)) pd sd
end
section
variable {P : Program} {w : World} {K : PySem.W.Frag} {mg : Str → Option Value} {base : Heap} {Ts : List Addr}
/-- the cuts of a wire, told -/
def CutsTold (n : Net) (k : Nat) (H : Hp) (q : Addr) (x : Nat) : Prop := ∃ (rs : List Addr) (cs : List (List Nat)), H q = some (.tup (rs.map V.ref)) ∧ TupsAt H rs cs ∧ CutsAre n k x cs ∧ cs.length < sizeLine
theorem CutsTold.mono {n : Net} {k : Nat} {H H' : Hp} {q : Addr} {x : Nat} (h : CutsTold n k H q x) (m : ∀ b xs, H b = some (.tup xs) → H' b = some (.tup xs)) : CutsTold n k H' q x := by
  obtain ⟨rs, cs, h1, h2, h3⟩ := h
  exact ⟨rs, cs, m _ _ h1, h2.mono m, h3⟩
def spAllCuts (Ts : List Addr) : Sp := fun vs H Q _ => ∃ (a : Addr) (n : Net) (g o : Addr) (ps : List Addr) (k : Nat), vs = [.ref a, nV k] ∧ NetAt H a n g o ps ∧ n.Ok ∧ 2 ≤ k ∧ k ≤ 1000 ∧ Tabs Ts H ∧
  ∀ p H' (qs : List Addr), Aft Ts H H' → H' p = some (.tup (qs.map V.ref)) → PtsAt (CutsTold n k) H' qs (List.range (n.many + n.gates.length)) → Q (.ref p) H'
theorem ok_allcuts {f c PA' : Addr} (D : Dfn K mg "all_cuts" s_all_cuts f c) (T : Txt mg) (c_wires_in : Cal P w K mg base 1 "wires_in" spWires []) (c_cut_masks : Cal P w K mg base 3 "cut_masks" spCutMasks []) (c_places : Cal P w K mg base 1 "places" spPlaces []) (c_told_cuts : Cal P w K mg base 2 "told_cuts" (spTold Ts) []) (TB_all_cuts : GxR.TabB base mg c PA') (hP : PA' ∈ Ts) : Cal P w K mg base 4 "all_cuts" (spAllCuts Ts) [] := by
  refine cal D (fun _ _ _ _ _ _ us hl => match us, hl with | [_, _], _ => rfl) sc_all_cuts (fun vs H Q E h => ?_) (fun A outer s H vs Q E hr h => ?_)
  · obtain ⟨a, n, g, o, ps, k, rfl, _⟩ := h
    rfl
  · obtain ⟨a, n, g, o, ps, k, rfl, N, ok, hk2, hk, tb, q⟩ := h
    have m8 := ok.m8
    have g16 := ok.g16
    refine ⟨_, (pss_cons (ps_set (i := 2) sc_all_cuts.nd rfl (by first | exact Or.inl rfl | exact Or.inr rfl) (pe_listRg rfl (by rfl) T.b_list (prg_1 (by rfl) T.b_range (pe_c c_wires_in hr (by decide) (by rfl) (pa_cons (pv 0) pa_nil)))))
      (pss_cons (ps_set (i := 3) sc_all_cuts.nd rfl (by first | exact Or.inl rfl | exact Or.inr rfl) (pe_c c_cut_masks hr (by decide) (by rfl) (pa_cons (pv 0) (pa_cons (pv 2) (pa_cons (pv 1) pa_nil)))))
      (pss_cons (ps_for PassesOwn.never rfl (pi_list (pe_slice sl_list (pv 2) (po_some (pe_ix ix_tup (pv 0) pe_int (fun _ _ => rfl))) po_none)) (pg_name (i := 4) sc_all_cuts.nd rfl (by first | exact Or.inl rfl | exact Or.inr rfl))
        (pss_one (ps_if (pt_cmpR op_eq (pe_callB call_len_seq (by rfl) T.b_len (by decide +kernel) (pa_cons (pe_dget (Nat.lt_of_le_of_lt (Nat.add_le_add_left (by decide) _) hr.units) (pv 3) (pv 4) (fun _ _ => rfl)) pa_nil)) pe_int (nomark _)) (pss_cons (ps_asg (pe_c c_places hr (by decide) (by rfl) (pa_cons (pv 0) (pa_cons (pv 4) pa_nil))) (pg_tup rfl (pgs_cons (pg_name (i := 5) sc_all_cuts.nd rfl (by first | exact Or.inl rfl | exact Or.inr rfl)) (pgs_cons (pg_name (i := 6) sc_all_cuts.nd rfl (by first | exact Or.inl rfl | exact Or.inr rfl)) pgs_nil))))
      (pss_one (ps_dput (Nat.lt_of_le_of_lt (Nat.add_le_add_left (by decide) _) hr.units) (pv 3) (pv 4) (pe_lst (pa_cons (pe_op op_or (pe_op op_shl pe_int (pv 5)) (pe_op op_shl pe_int (pv 6))) pa_nil)) (by rfl)))) pss_nil)))
      (pss_one (ps_ret (pe_tupG (own := [("wire", 7)]) hr (by rfl) T.b_tuple TB_all_cuts rfl (gxOk_by (N := ["net", "k", "wires", "masks", "gate", "one", "other", "wire"]) (sc := defScope s_all_cuts) (own := [("wire", 7)]) (by decide +kernel)) sc_all_cuts.nd (pi_list (pv 2)) (fun _ _ _ _ => (pg_name (i := 7) sc_all_cuts.nd rfl (by first | exact Or.inl rfl | exact Or.inr rfl))) (fun _ _ _ _ => pts_nil) (fun _ _ _ _ => (pe_c c_told_cuts (GX.Room.gx4 hr) (by decide) (by rfl) (pa_cons (pe_dget (Nat.lt_of_le_of_lt (Nat.add_le_add_left (by decide) _) (GX.Room.gx4 hr).units) (pv 3) (pv 7) (fun _ _ => rfl)) pa_nil))))))))), ?_⟩
    refine ⟨_, rfl, a, n, g, o, ps, rfl, N, _, rfl, RgOk.of_le (by decide) (by show ((n.many + n.gates.length : Nat) : Int) ≤ 16777216; omega) (by decide) (by show (0 : Int) ≤ ((n.many + n.gates.length : Nat) : Int); omega), fun rp nrp => ?_⟩
    have et : rgV 0 ((n.many + n.gates.length : Nat) : Int) = (List.range (n.many + n.gates.length)).map nV := by
      unfold rgV
      rw [Int.sub_zero, Int.toNat_natCast]
      refine List.map_congr_left fun i _ => ?_
      rw [Int.zero_add]
      rfl
    have s1 := Same.new (o := .lst (rgV 0 ((n.many + n.gates.length : Nat) : Int))) nrp
    have hrp : upd H rp (.lst (rgV 0 ((n.many + n.gates.length : Nat) : Int))) rp = some (.lst ((List.range (n.many + n.gates.length)).map nV)) := by rw [upd_same, et]
    generalize upd H rp (.lst (rgV 0 ((n.many + n.gates.length : Nat) : Int))) = H1 at s1 hrp ⊢
    have wok : WsOk n (List.range (n.many + n.gates.length)) := ⟨List.pairwise_lt_range, fun x hx => List.mem_range.mp hx, fun x hx kk hm hkk => by
      have l1 := place_lt ok hm hkk (.inl rfl)
      have l2 := place_lt ok hm hkk (.inr rfl)
      have := List.mem_range.mp hx
      exact ⟨List.mem_range.mpr (by omega), List.mem_range.mpr (by omega)⟩⟩
    refine ⟨_, rfl, _, rfl, _, rfl, a, rp, n, g, o, ps, _, k, rfl, N.same s1, ok, hrp, wok, by omega, hk, fun d H2 kvs s2 hd ci => ?_⟩
    have N2 := (N.same s1).same s2
    have hrp2 := s2 _ _ hrp
    have tb2 := tb.same (s1.trans s2)
    refine ⟨_, rfl, _, rfl, a, _, 0, _, rfl, rfl, SqT.of N2.top, at0, _, rfl, ?_⟩
    unfold tNoPart
    refine ⟨rp, _, rfl, SqL.of hrp2, fun S nS => ?_⟩
    rw [cut_lo, ← List.map_drop]
    have s3 := Same.new (o := .lst (((List.range (n.many + n.gates.length)).drop n.many).map nV)) nS
    have hS3 : upd H2 S (.lst (((List.range (n.many + n.gates.length)).drop n.many).map nV)) S = some (.lst (((List.range (n.many + n.gates.length)).drop n.many).map nV)) := upd_same
    have hd3 := s3 _ _ hd
    have hrp3 := s3 _ _ hrp2
    have tb3 := tb2.same s3
    have ci3 : ∀ x ∈ List.range (n.many + n.gates.length), CutsIn n k (upd H2 S (.lst (((List.range (n.many + n.gates.length)).drop n.many).map nV))) kvs x := fun x hx => (ci x hx).mono fun b zs e => s3 _ _ e
    have a03 : Aft Ts H (upd H2 S (.lst (((List.range (n.many + n.gates.length)).drop n.many).map nV))) := Aft.ofSame tb ((s1.trans s2).trans s3)
    generalize upd H2 S (.lst (((List.range (n.many + n.gates.length)).drop n.many).map nV)) = H3 at s3 hS3 hd3 hrp3 tb3 ci3 a03 ⊢
    refine ⟨S, rfl, ⟨_, SqL.of hS3⟩, ?_⟩
    refine for_list (K := K) (a := S) (xs := ((List.range (n.many + n.gates.length)).drop n.many).map nV) (fun i σ H' => ∃ (x4 x5 x6 x7 : Option V), σ = [some (.ref a), some (nV k), some (.ref rp), some (.ref d), x4, x5, x6, x7] ∧ H' = H3) ⟨_, _, _, _, rfl, rfl⟩ ?_ ?_ ?_
    · rintro i σ H' _ ⟨_, _, _, _, _, rfl⟩
      exact SqL.of hS3
    · rintro i x σ H' hx ⟨x4, x5, x6, x7, rfl, rfl⟩
      have hi : i < ((List.range (n.many + n.gates.length)).drop n.many).length := by
        have := (List.getElem?_eq_some_iff.mp hx).1
        rwa [List.length_map] at this
      rw [natAt hi] at hx
      cases hx
      have hm := getD_mem hi
      have hxe : n.many ≤ ((List.range (n.many + n.gates.length)).drop n.many).getD i 0 ∧ ((List.range (n.many + n.gates.length)).drop n.many).getD i 0 < n.many + n.gates.length := by
        rw [List.length_drop, List.length_range] at hi
        rw [List.getD_eq_getElem?_getD, List.getElem?_drop, List.getElem?_range (by omega)]
        show n.many ≤ n.many + i ∧ n.many + i < _
        omega
      generalize ((List.range (n.many + n.gates.length)).drop n.many).getD i 0 = x at hm hxe ⊢
      obtain ⟨p, ms, v, hp, ml, nd⟩ := ci3 x (List.mem_range.mpr hxe.2)
      have ne := ml.some_ ok hk2 hxe.1 (List.getElem?_eq_getElem (show x - n.many < n.gates.length by omega))
      have dg : DGet H' d (nV x) (some (.ref p)) := .inl ⟨kvs, nK x, .inl hd3, rfl, v.symm⟩
      refine ⟨_, rfl, _, rfl, d, _, rfl, dg, p, _, rfl, .inl (SqL.of hp), rfl, _, rfl, ?_⟩
      rw [decide_eq_false (fun z => ne (List.length_eq_zero_iff.mp (by have := V.int.inj z; rw [List.length_map] at this; omega)))]
      refine iteF ?_
      exact ⟨_, _, _, _, rfl, rfl⟩
    · rintro σ H' ⟨x4, x5, x6, x7, rfl, rfl⟩
      refine ⟨_, rfl, rp, rfl, ⟨_, SqL.of hrp3⟩, tb3 PA' hP, fun H4 ht => ?_⟩
      have a4 : Aft Ts H' H4 := ⟨Keep.tabbed hP ht, tb3.tabbed ht⟩
      have a04 := a4
      refine turns_it (walk_list (xs := (List.range (n.many + n.gates.length)).map nV)) (fun i ys H5 => ∃ qs : List Addr, ys = qs.map V.ref ∧ Aft Ts H' H5 ∧ PtsAt (CutsTold n k) H5 qs ((List.range (n.many + n.gates.length)).take i)) ⟨[], rfl, a4, PtsAt.nil _ _⟩ (fun i ys H5 _ h => h.elim fun qs h => SqL.of (h.2.1.lst tb3 hrp3)) ?_ ?_
      · rintro i x ys H5 H6 hi ⟨qs, rfl, a5, P5⟩ ⟨rfl, hx⟩
        rw [List.length_map] at hi
        rw [natAt hi] at hx
        cases hx
        have hxm := getD_mem hi
        have ex : (List.range (n.many + n.gates.length)).getD i 0 = (List.range (n.many + n.gates.length))[i] := by rw [List.getD_eq_getElem?_getD, List.getElem?_eq_getElem hi]; rfl
        have ql : qs.length ≤ 24 := by
          rw [P5.1, List.length_take, List.length_range]
          omega
        obtain ⟨p, ms, v, hp, ml, nd⟩ := ci3 _ hxm
        have xlt := List.mem_range.mp hxm
        have bnd := fun M (h : M ∈ ms) => ml.lt23 ok xlt h
        have hd5 : Rd H6 d (.dK kvs) := .inl (a5.kp _ _ hd3 (tb3.nott hd3 fun _ z => by cases z))
        have dg : DGet H6 d (nV ((List.range (n.many + n.gates.length)).getD i 0)) (some (.ref p)) := .inl ⟨kvs, nK _, hd5, rfl, v.symm⟩
        refine ⟨rfl, ?_⟩
        unfold tYes
        refine iteT ?_
        refine ⟨_, rfl, _, rfl, d, _, rfl, dg, p, ms, rfl, a5.lst tb3 hp, nodup_lt23 nd fun M h => (bnd M h).2, bnd, a5.tb, fun r H7 rs cs a7 hr7 ht7 pm srt => ⟨?_, fun _ => ⟨qs ++ [r], by rw [List.map_append]; rfl, a5.trans a7, ?_⟩⟩⟩
        · show (List.map V.ref qs).length < sizeLine
          rw [List.length_map]
          exact small256 (by omega)
        · rw [List.take_add_one, List.getElem?_eq_getElem hi, Option.toList_some, ← ex]
          exact (P5.mono fun p x h => CutsTold.mono h fun b zs e => a7.tup a5.tb e).push ⟨rs, cs, hr7, ht7, cuts_of_masks ok ml nd pm srt, by rw [pm.length_eq, List.length_map]; exact nodup_lt23 nd fun M h => (bnd M h).2⟩
      · rintro ys H5 ⟨qs, rfl, a5, P5⟩
        rw [List.length_map, List.take_length] at P5
        refine ⟨?_, fun p np => ?_⟩
        · rw [List.length_map, P5.1, List.length_range]
          exact small _ (by omega)
        · have a6 := Aft.new (o := .tup (qs.map V.ref)) a5.tb np
          exact q p _ qs ((a03.trans a5).trans a6) upd_same (P5.mono fun p x h => CutsTold.mono h fun b zs e => a6.tup a5.tb e)
end
end K26
set_option Elab.async false
set_option linter.all false
set_option maxRecDepth 100000
set_option maxHeartbeats 4000000
namespace K26
open PySem PySem.Spec PyProof.Rows L2 GX
open C8 (Cal pe_c pe_gc)
section
variable {P : Program} {w : World} {K : PySem.W.Frag} {mg : Str → Option Value} {base : Heap} {Ts : List Addr}
def spOneDeepL : Sp := fun vs H Q _ => ∃ (l ca : Addr) (ds ws : List Nat), vs = [.ref l, .ref ca] ∧ H l = some (.lst (ds.map nV)) ∧ H ca = some (.tup (ws.map nV)) ∧ 0 < ws.length ∧ ws.length ≤ 1000 ∧ (∀ x ∈ ws, x < ds.length) ∧ ∀ H', Same H H' → Q (nV (1 + maxL (ws.map fun x => ds.getD x 0))) H'
theorem ok_onedeepL {f c : Addr} (D : Dfn K mg "one_deeper" s_one_deeper f c) (T : Txt mg) : Cal P w K mg base 1 "one_deeper" spOneDeepL [] := by
  refine cal D (fun _ _ _ _ _ _ us hl => match us, hl with | [_, _], _ => rfl) sc_one_deeper (fun vs H Q E h => ?_) (fun A outer s H vs Q E hr h => ?_)
  · obtain ⟨l, ca, ds, ws, rfl, _⟩ := h
    rfl
  · obtain ⟨l, ca, ds, ws, rfl, hl, hca, w0, w24, hv, q⟩ := h
    refine ⟨_, (pss_one (ps_ret (pe_op op_add pe_int (pe_callB (cr_max rfl) (by rfl) T.b_max (by decide +kernel) (pa_cons (pe_lc (own := [("wire", 2)]) (g := gName 2) (tt := tYes) rfl sc_one_deeper.nd (pi_tup (pv 1)) (blkOk_by (own := [("wire", 2)]) (N := ["told", "wires", "wire"]) (sc := defScope s_one_deeper) (by decide +kernel)) (fun _ _ _ _ _ => (pg_name (i := 2) sc_one_deeper.nd rfl (by first | exact Or.inl rfl | exact Or.inr rfl))) (fun _ _ _ _ _ => pts_nil) (fun _ _ _ _ _ => (pe_ix (ix_listK (K := K)) (pv 0) (pv 2) (fun _ _ => rfl)))) pa_nil))))), ?_⟩
    refine ⟨_, rfl, ca, rfl, ⟨_, SqT.of hca⟩, fun M nM => ?_⟩
    refine lc_tup (K := K) (a := ca) (xs := ws.map nV) (fun i H' => Own H H' M (((ws.take i).map fun x => ds.getD x 0).map nV)) ⟨Same.new nM, upd_same, nM⟩ (fun k H' _ o' => SqT.of (o'.sm _ _ hca)) ?_ ?_
    · rintro i x H2 hx o2
      have hi : i < ws.length := by
        have := (List.getElem?_eq_some_iff.mp hx).1
        rwa [List.length_map] at this
      rw [natAt hi] at hx
      cases hx
      refine ⟨rfl, ?_⟩
      unfold tYes
      refine iteT ?_
      refine ⟨_, rfl, _, rfl, l, _, _, _, rfl, rfl, SqL.of (o2.sm _ _ hl), atI_nat (natAt (hv _ (getD_mem hi))), _, o2.at_, by rw [List.length_map, List.length_map, List.length_take]; exact small256 (by omega), ?_⟩
      have : ws.getD i 0 = ws[i] := by rw [List.getD_eq_getElem?_getD, List.getElem?_eq_getElem hi]; rfl
      rw [List.take_add_one, List.getElem?_eq_getElem hi, Option.toList_some, List.map_append, List.map_append, this]
      exact o2.app
    · rintro H2 o2
      rw [List.length_map, List.take_length] at o2
      refine ⟨M, (ws.map fun x => ds.getD x 0).map (fun n : Nat => (n : Int)), rfl, (by rw [mapV]; exact SqL.of o2.at_), by rw [List.length_map, List.length_map]; exact w0, fun m hm hb => ⟨_, _, rfl, rfl, ?_⟩⟩
      have e := max_eq hm hb
      have e2 : V.int (1 + m) = nV (1 + maxL (ws.map fun x => ds.getD x 0)) := by
        have := V.int.inj e
        rw [this]
        rfl
      dsimp -proj only
      rw [e2]
      exact q H2 o2.sm
/-- depths, so far -/
structure DepsTo (n : Net) (k : Nat) (ds : List Nat) : Prop where
  low : ∀ x, x < n.many → x < ds.length → ds.getD x 0 = 0
  at_ : ∀ g, n.many ≤ g → g < ds.length → (∃ c, LC n k g c ∧ ds.getD g 0 = 1 + maxL (c.map fun x => ds.getD x 0)) ∧ ∀ c, LC n k g c → ds.getD g 0 ≤ 1 + maxL (c.map fun x => ds.getD x 0)
theorem lc_any {n : Net} (ok : n.Ok) {k g : Nat} {kk : Nat × Nat × Nat} (hk : 2 ≤ k) (hg : n.many ≤ g) (hkk : n.gates[g - n.many]? = some kk) : ∃ c, LC n k g c := by
  have l1 := place_lt ok hg hkk (.inl rfl)
  have l2 := place_lt ok hg hkk (.inr rfl)
  have bit : ∀ j, (2 ^ kk.2.1 ||| 2 ^ kk.2.2).testBit j = true ↔ (j = kk.2.1 ∨ j = kk.2.2) := fun j => by
    rw [Nat.testBit_or, Nat.testBit_two_pow, Nat.testBit_two_pow, Bool.or_eq_true, decide_eq_true_iff, decide_eq_true_iff]
    omega
  have hp : (bitsOf (2 ^ kk.2.1 ||| 2 ^ kk.2.2)).length ≤ 2 := by
    have := (bits_nodup (2 ^ kk.2.1 ||| 2 ^ kk.2.2)).length_le_of_subset (l₂ := [kk.2.1, kk.2.2]) fun x hx => by
      rcases (bit x).mp (mem_bits.mp hx) with e | e
      · rw [e]; exact List.mem_cons_self
      · rw [e]; exact List.mem_cons_of_mem _ List.mem_cons_self
    exact this
  obtain ⟨c, h, _⟩ := lc_within ok (k := k) (g := g) (bits_rise (2 ^ kk.2.1 ||| 2 ^ kk.2.2)) (fun x hx => by rcases (bit x).mp (mem_bits.mp hx) with e | e <;> omega) (sep_first hg hkk fun z hz => mem_bits.mpr ((bit z).mpr hz)) (by omega)
  exact ⟨c, h⟩
def spDepthsBy : Sp := fun vs H Q _ => ∃ (a p : Addr) (n : Net) (g o : Addr) (ps qs : List Addr) (k : Nat), vs = [.ref a, .ref p] ∧ NetAt H a n g o ps ∧ n.Ok ∧ 2 ≤ k ∧ k ≤ 1000 ∧ H p = some (.tup (qs.map V.ref)) ∧ PtsAt (CutsTold n k) H qs (List.range (n.many + n.gates.length)) ∧
  ∀ r H' (ds : List Nat), Same H H' → H' r = some (.tup (ds.map nV)) → ds.length = n.many + n.gates.length → DepsTo n k ds → Q (.ref r) H'
theorem ok_depthsby {f c : Addr} (D : Dfn K mg "depths_by" s_depths_by f c) (T : Txt mg) (c_one_deeper : Cal P w K mg base 1 "one_deeper" spOneDeepL []) : Cal P w K mg base 2 "depths_by" spDepthsBy [] := by
  refine cal D (fun _ _ _ _ _ _ us hl => match us, hl with | [_, _], _ => rfl) sc_depths_by (fun vs H Q E h => ?_) (fun A outer s H vs Q E hr h => ?_)
  · obtain ⟨a, p, n, g, o, ps, qs, k, rfl, _⟩ := h
    rfl
  · obtain ⟨a, p, n, g, o, ps, qs, k, rfl, N, ok, hk2, hk, hp, PQ, q⟩ := h
    have m8 := ok.m8
    have g16 := ok.g16
    refine ⟨_, (pss_cons (ps_set (i := 2) sc_depths_by.nd rfl (by first | exact Or.inl rfl | exact Or.inr rfl) (pe_op op_rep (pe_lst (pa_cons pe_int pa_nil)) (pe_ix ix_tup (pv 0) pe_int (fun _ _ => rfl))))
      (pss_cons (ps_for PassesOwn.never rfl (pi_range2 (by rfl) T.b_range (pa_cons (pe_ix ix_tup (pv 0) pe_int (fun _ _ => rfl)) (pa_cons (pe_callB call_len_seq (by rfl) T.b_len (by decide +kernel) (pa_cons (pv 1) pa_nil)) pa_nil))) (pg_name (i := 3) sc_depths_by.nd rfl (by first | exact Or.inl rfl | exact Or.inr rfl))
        (pss_one (ps_expr (pe_bm PySem.F.plainAttrs_list PySem.F.slot_list_append PySem.F.type_list_append mt_append (pv 2) (pa_cons (pe_callB (cr_min rfl) (by rfl) T.b_min (by decide +kernel) (pa_cons (pe_lc (own := [("cut", 4)]) (g := gName 4) (tt := tYes) rfl sc_depths_by.nd (pi_tup (pe_ix ix_tup (pv 1) (pv 3) (fun _ _ => rfl))) (blkOk_by (own := [("cut", 4)]) (N := ["net", "cuts", "told", "gate", "cut"]) (sc := defScope s_depths_by) (by decide +kernel)) (fun _ _ _ _ _ => (pg_name (i := 4) sc_depths_by.nd rfl (by first | exact Or.inl rfl | exact Or.inr rfl))) (fun _ _ _ _ _ => pts_nil) (fun _ _ _ _ _ => (pe_c c_one_deeper hr (by decide) (by rfl) (pa_cons (pv 2) (pa_cons (pv 4) pa_nil))))) pa_nil)) pa_nil)))))
      (pss_one (ps_ret (pe_callTy call_tuple_of (by rfl) T.b_tuple (by decide +kernel) (pa_cons (pv 2) pa_nil)))))), ?_⟩
    refine ⟨small 1, fun z nz => ?_⟩
    have e1 := Same.new (o := .lst [.int 0]) nz
    refine ⟨_, rfl, a, _, 0, _, rfl, rfl, SqT.of (N.same e1).top, at0, z, _, _, rfl, rfl, upd_same, by omega, by omega, ?_, fun l nl => ?_⟩
    · show 1 * (((n.many : Nat)) : Int).toNat ≤ sizeLine
      rw [Int.toNat_natCast]
      exact small _ (by omega)
    have ef : (List.replicate (((n.many : Nat)) : Int).toNat [V.int 0]).flatten = (List.replicate n.many 0).map nV := by
      rw [Int.toNat_natCast, List.map_replicate, List.flatten_replicate_singleton]
      rfl
    rw [ef]
    have nlH : H l = none := by
      cases e : H l with
      | none => rfl
      | some u =>
        have := e1 _ _ e
        rw [nl] at this
        cases this
    have o1 : Own H (upd (upd H z (.lst [.int 0])) l (.lst ((List.replicate n.many 0).map nV))) l ((List.replicate n.many 0).map nV) := ⟨e1.trans (Same.new nl), upd_same, nlH⟩
    generalize upd (upd H z (.lst [.int 0])) l (.lst ((List.replicate n.many 0).map nV)) = H1 at o1 ⊢
    have N1 := N.same o1.sm
    have hp1 := o1.sm _ _ hp
    have ql : qs.length = n.many + n.gates.length := by rw [PQ.1, List.length_range]
    refine ⟨_, rfl, a, _, 0, _, rfl, rfl, SqT.of N1.top, at0, _, rfl, p, _, rfl, .inr (SqT.of hp1), _, _, rfl, ⟨by omega, by omega, by omega, by rw [List.length_map]; omega⟩, ?_⟩
    refine for_range (lo := ((n.many : Nat) : Int)) (n := ((((qs.map V.ref).length : Nat) : Int) - ((n.many : Nat) : Int)).toNat) (fun j σ H' => ∃ (x3 x4 : Option V) (ds : List Nat), σ = [some (.ref a), some (.ref p), some (.ref l), x3, x4] ∧ Own H H' l (ds.map nV) ∧ ds.length = n.many + j ∧ DepsTo n k ds) ⟨none, none, List.replicate n.many 0, rfl, o1, by rw [List.length_replicate]; rfl, ⟨fun x hx _ => by rw [List.getD_eq_getElem?_getD, List.getElem?_replicate, if_pos hx]; rfl, fun g' h1 h2 => by rw [List.length_replicate] at h2; omega⟩⟩ ?_ ?_
    · rintro j σ H2 hj ⟨x3, x4, ds, rfl, o2, dl, dt⟩
      rw [List.length_map, ql] at hj
      have hgl : n.many + j < (List.range (n.many + n.gates.length)).length := by rw [List.length_range]; omega
      obtain ⟨qg, eq, hq⟩ := PQ.get (i := n.many + j) (y := n.many + j) (by rw [List.getElem?_range (by omega)])
      obtain ⟨rs, cs, h1, h2, ca, cl⟩ := CutsTold.mono hq fun b xs e => o2.sm b _ e
      have hp2 := o2.sm _ _ hp
      have csne : 0 < cs.length := by
        obtain ⟨c0, h0⟩ := lc_any ok hk2 (Nat.le_add_right n.many j) (List.getElem?_eq_getElem (show n.many + j - n.many < n.gates.length by omega))
        exact List.length_pos_of_mem ((ca.mem c0).mpr h0)
      have cok : ∀ c ∈ cs, 0 < c.length ∧ c.length ≤ k ∧ ∀ x ∈ c, x < ds.length := fun c hc => by
        have h := (ca.mem c).mp hc
        refine ⟨Nat.pos_of_ne_zero fun z => ?_, h.len, fun x hx => by rw [dl]; exact h.lt x hx⟩
        have hs := h.sep
        rw [List.length_eq_zero_iff.mp z] at hs
        exact sep_none ok _ _ (Nat.le_refl _) (by omega) hs
      refine ⟨_, rfl, .inl ⟨rfl, _, SqL.of o2.at_⟩, _, rfl, _, rfl, p, _, ((n.many + j : Nat) : Int), _, rfl, rfl, SqT.of hp2, atI_nat eq, qg, rfl, ⟨_, SqT.of h1⟩, fun M nM => ?_⟩
      refine lc_tup (K := K) (a := qg) (xs := rs.map V.ref) (fun i H' => Own H2 H' M (((cs.take i).map fun c => 1 + maxL (c.map fun x => ds.getD x 0)).map nV)) ⟨Same.new nM, upd_same, nM⟩ (fun _ H' _ o' => SqT.of (o'.sm _ _ h1)) ?_ ?_
      · rintro i v H3 hv o3
        have hi : i < cs.length := by
          have := (List.getElem?_eq_some_iff.mp hv).1
          rwa [List.length_map, h2.1] at this
        obtain ⟨tq, c', rfl, hc, hat⟩ := h2.at_ hv
        obtain ⟨k1, k2, k3⟩ := cok c' (List.mem_of_getElem? hc)
        refine ⟨rfl, ?_⟩
        unfold tYes
        refine iteT ?_
        refine ⟨_, rfl, _, rfl, l, tq, ds, c', rfl, o3.sm _ _ o2.at_, o3.sm _ _ hat, k1, by omega, k3, fun H4 s4 => ?_⟩
        have o4 : Own H2 H4 M (((cs.take i).map fun c => 1 + maxL (c.map fun x => ds.getD x 0)).map nV) := ⟨o3.sm.trans s4, s4 _ _ o3.at_, o3.nw⟩
        refine ⟨_, o4.at_, by rw [List.length_map, List.length_map, List.length_take]; omega, ?_⟩
        rw [List.take_add_one, hc, Option.toList_some, List.map_append, List.map_append]
        exact o4.app
      · rintro H3 o3
        rw [List.length_map, h2.1, List.take_length] at o3
        refine ⟨M, (cs.map fun c => 1 + maxL (c.map fun x => ds.getD x 0)).map (fun n : Nat => (n : Int)), rfl, (by rw [mapV]; exact SqL.of o3.at_), by rw [List.length_map, List.length_map]; exact csne, fun m hm hb => ?_⟩
        obtain ⟨mn, hmn, rfl⟩ := List.mem_map.mp hm
        have hb' : ∀ y ∈ (cs.map fun c => 1 + maxL (c.map fun x => ds.getD x 0)), mn ≤ y := fun y hy => by
          have := hb _ (List.mem_map.mpr ⟨y, hy, rfl⟩)
          omega
        have oo : Own H H3 l (ds.map nV) := ⟨o2.sm.trans o3.sm, o3.sm _ _ o2.at_, o2.nw⟩
        refine ⟨l, _, _, rfl, rfl, oo.at_, by rw [List.length_map]; exact small256 (by omega), _, _, ds ++ [mn], rfl, by rw [List.map_append]; exact oo.app, by rw [List.length_append, dl]; rfl, ?_⟩
        have gs : ∀ x, x < ds.length → (ds ++ [mn]).getD x 0 = ds.getD x 0 := fun x hx => getSnoc hx
        have gl : (ds ++ [mn]).getD (n.many + j) 0 = mn := by
          rw [← dl]
          exact getLastN
        have cong : ∀ g' c, g' ≤ ds.length → LC n k g' c → maxL (c.map fun x => (ds ++ [mn]).getD x 0) = maxL (c.map fun x => ds.getD x 0) := fun g' c hg' lc => maxL_congr fun x hx => gs x (by have := lc.lt x hx; omega)
        refine ⟨fun x hx hx2 => ?_, fun g' hg1 hg2 => ?_⟩
        · rw [gs x (by omega)]
          exact dt.low x hx (by omega)
        · rw [List.length_append] at hg2
          have hg2' : g' < ds.length + 1 := hg2
          by_cases e : g' < ds.length
          · obtain ⟨⟨c, hc, e1⟩, e2⟩ := dt.at_ g' hg1 e
            rw [gs g' e]
            refine ⟨⟨c, hc, by rw [cong g' c (by omega) hc]; exact e1⟩, fun c hc => by rw [cong g' c (by omega) hc]; exact e2 c hc⟩
          · have eg : g' = n.many + j := by omega
            subst eg
            rw [gl]
            refine ⟨?_, fun c hc => by rw [cong _ c (by omega) hc]; exact hb' _ (List.mem_map.mpr ⟨c, (ca.mem c).mpr hc, rfl⟩)⟩
            obtain ⟨c, hc, e1⟩ := List.mem_map.mp hmn
            have lc := (ca.mem c).mp hc
            exact ⟨c, lc, by rw [cong _ c (by omega) lc]; exact e1.symm⟩
    · rintro σ H2 ⟨x3, x4, ds, rfl, o2, dl, dt⟩
      rw [List.length_map, ql, show (((n.many + n.gates.length : Nat) : Int) - ((n.many : Nat) : Int)).toNat = n.gates.length by omega] at dl
      refine ⟨_, rfl, l, _, rfl, .inl ⟨SqL.of o2.at_, fun r nr => ?_⟩⟩
      exact q r _ ds (o2.sm.trans (Same.new nr)) upd_same dl dt
def spDepths (Ts : List Addr) : Sp := fun vs H Q _ => ∃ (a : Addr) (n : Net) (g o : Addr) (ps : List Addr) (k : Nat), vs = [.ref a, nV k] ∧ NetAt H a n g o ps ∧ n.Ok ∧ 2 ≤ k ∧ k ≤ 1000 ∧ Tabs Ts H ∧
  ∀ r H' (ds : List Nat), Aft Ts H H' → H' r = some (.tup (ds.map nV)) → ds.length = n.many + n.gates.length → DepsTo n k ds → Q (.ref r) H'
theorem ok_depths {f c : Addr} (D : Dfn K mg "depths" s_depths f c) (T : Txt mg) (c_all_cuts : Cal P w K mg base 4 "all_cuts" (spAllCuts Ts) []) (c_depths_by : Cal P w K mg base 2 "depths_by" spDepthsBy []) : Cal P w K mg base 5 "depths" (spDepths Ts) [] := by
  refine cal D (fun _ _ _ _ _ _ us hl => match us, hl with | [_, _], _ => rfl) sc_depths (fun vs H Q E h => ?_) (fun A outer s H vs Q E hr h => ?_)
  · obtain ⟨a, n, g, o, ps, k, rfl, _⟩ := h
    rfl
  · obtain ⟨a, n, g, o, ps, k, rfl, N, ok, hk2, hk, tb, q⟩ := h
    refine ⟨_, (pss_one (ps_ret (pe_c c_depths_by hr (by decide) (by rfl) (pa_cons (pv 0) (pa_cons (pe_c c_all_cuts hr (by decide) (by rfl) (pa_cons (pv 0) (pa_cons (pv 1) pa_nil))) pa_nil))))), ?_⟩
    refine ⟨_, rfl, _, rfl, _, rfl, a, n, g, o, ps, k, rfl, N, ok, hk2, hk, tb, fun p H1 qs a1 hp PQ => ?_⟩
    exact ⟨a, p, n, g, o, ps, qs, k, rfl, N.aft tb a1, ok, hk2, hk, hp, PQ, fun r H2 ds s2 hr dl dt => q r H2 ds (a1.trans (Aft.ofSame a1.tb s2)) hr dl dt⟩
end
end K26
set_option Elab.async false
set_option linter.all false
set_option maxRecDepth 100000
set_option maxHeartbeats 4000000
/-! A flow from the start to a goal, pushed along ways with room and drawn out again. -/
namespace GX
/-! ### sums -/
def sm (f : Int → Int) : List Int → Int
  | [] => 0
  | x :: r => f x + sm f r
theorem sm_congr {f g : Int → Int} : ∀ {N : List Int}, (∀ x ∈ N, f x = g x) → sm f N = sm g N
  | [], _ => rfl
  | x :: r, h => by
    show f x + sm f r = g x + sm g r
    rw [h x List.mem_cons_self, sm_congr fun y hy => h y (List.mem_cons_of_mem _ hy)]
theorem sm_add (f g : Int → Int) : ∀ N : List Int, sm (fun x => f x + g x) N = sm f N + sm g N
  | [] => rfl
  | x :: r => by
    have := sm_add f g r
    simp only [sm] at *
    omega
theorem sm_neg (f : Int → Int) : ∀ N : List Int, sm (fun x => - f x) N = - sm f N
  | [] => rfl
  | x :: r => by
    have := sm_neg f r
    simp only [sm] at *
    omega
theorem sm_nonneg {f : Int → Int} : ∀ {N : List Int}, (∀ x ∈ N, 0 ≤ f x) → 0 ≤ sm f N
  | [], _ => Int.le_refl _
  | x :: r, h => by
    have h1 := h x List.mem_cons_self
    have h2 := sm_nonneg fun y hy => h y (List.mem_cons_of_mem x hy)
    simp only [sm]
    omega
theorem sm_zero {f : Int → Int} : ∀ {N : List Int}, (∀ x ∈ N, f x = 0) → sm f N = 0
  | [], _ => rfl
  | x :: r, h => by
    have h1 := h x List.mem_cons_self
    have h2 := sm_zero fun y hy => h y (List.mem_cons_of_mem x hy)
    simp only [sm]
    omega
theorem sm_one {f : Int → Int} : ∀ {N : List Int} {x : Int}, (∀ y ∈ N, 0 ≤ f y) → x ∈ N → f x ≤ sm f N
  | y :: r, x, h, hx => by
    have h1 := h y List.mem_cons_self
    have h2 := sm_nonneg fun z hz => h z (List.mem_cons_of_mem y hz)
    simp only [sm]
    rcases List.mem_cons.mp hx with rfl | hx
    · omega
    · have := sm_one (fun z hz => h z (List.mem_cons_of_mem y hz)) hx
      omega
theorem sm_upd {f g : Int → Int} {a d : Int} : ∀ {N : List Int}, N.Nodup → a ∈ N → (∀ x ∈ N, x ≠ a → f x = g x) → f a = g a + d → sm f N = sm g N + d
  | y :: r, nd, ha, h, e => by
    have nd := List.nodup_cons.mp nd
    simp only [sm]
    rcases List.mem_cons.mp ha with rfl | ha
    · have := sm_congr (f := f) (g := g) (N := r) fun x hx => h x (List.mem_cons_of_mem _ hx) fun z => nd.1 (z ▸ hx)
      omega
    · have := sm_upd nd.2 ha (fun x hx => h x (List.mem_cons_of_mem _ hx)) e
      have := h y List.mem_cons_self fun z => nd.1 (z ▸ ha)
      omega
theorem sm_pos {f : Int → Int} : ∀ {N : List Int}, 1 ≤ sm f N → ∃ x ∈ N, 1 ≤ f x
  | [], h => by simp only [sm] at h; omega
  | x :: r, h => by
    by_cases hx : 1 ≤ f x
    · exact ⟨x, List.mem_cons_self, hx⟩
    · obtain ⟨y, hy, e⟩ := sm_pos (f := f) (N := r) (by simp only [sm] at h; omega)
      exact ⟨y, List.mem_cons_of_mem _ hy, e⟩
theorem sm_split (f : Int → Int) (p : Int → Bool) : ∀ N : List Int, sm f N = sm f (N.filter p) + sm f (N.filter fun x => !p x)
  | [] => rfl
  | x :: r => by
    have := sm_split f p r
    cases e : p x <;> simp only [List.filter_cons, e, sm] <;> simp [sm] <;> omega
theorem sm_perm {f : Int → Int} {N M : List Int} (h : N.Perm M) : sm f N = sm f M := by
  induction h with
  | nil => rfl
  | cons x _ ih => simp only [sm]; omega
  | swap x y l => simp only [sm]; omega
  | trans _ _ h1 h2 => omega
theorem sm_len {h : Int → Int} {S Y : List Int} (nd : Y.Nodup) (sub : ∀ y ∈ Y, y ∈ S) (h0 : ∀ x ∈ S, 0 ≤ h x) (h1 : ∀ x ∈ Y, 1 ≤ h x) : (Y.length : Int) ≤ sm h S := by
  have a : ∀ T : List Int, (∀ x ∈ T, 0 ≤ h x) → ((T.filter fun x => decide (x ∈ Y)).length : Int) ≤ sm h T := by
    intro T
    induction T with
    | nil => intro _; exact Int.le_refl _
    | cons x r ih =>
      intro g
      have := ih fun y hy => g y (List.mem_cons_of_mem _ hy)
      have g0 := g x List.mem_cons_self
      by_cases e : x ∈ Y
      · have := h1 x e
        rw [List.filter_cons, if_pos (decide_eq_true e), List.length_cons]
        simp only [sm]
        omega
      · rw [List.filter_cons, if_neg (by rw [decide_eq_false e]; decide)]
        simp only [sm]
        omega
  have b := nd.length_le_of_subset (l₂ := S.filter fun x => decide (x ∈ Y)) fun y hy => List.mem_filter.mpr ⟨sub y hy, decide_eq_true hy⟩
  have := a S h0
  omega
theorem sm_anti {g : Int → Int → Int} (h : ∀ u v, g u v = - g v u) : ∀ S : List Int, sm (fun u => sm (g u) S) S = 0
  | [] => rfl
  | x :: S => by
    have ih := sm_anti h S
    have h0 := h x x
    have e1 : sm (fun u => g u x) S = - sm (g x) S := by
      rw [← sm_neg]
      exact sm_congr fun y _ => h y x
    have e2 := sm_add (fun u => g u x) (fun u => sm (g u) S) S
    show g x x + sm (g x) S + sm (fun u => g u x + sm (g u) S) S = 0
    omega
/-! ### rooms -/
abbrev Ad := List (Int × Int)
abbrev Rm := Int → Ad
def getA (xs : Ad) (v : Int) : Option Int := (xs.find? fun e => decide (e.1 = v)).map (·.2)
def putA (xs : Ad) (v x : Int) : Ad := if (xs.any fun e => decide (e.1 = v)) = true then xs.map (fun e => if e.1 = v then (e.1, x) else e) else xs ++ [(v, x)]
theorem getA_nil {v : Int} : getA [] v = none := rfl
theorem getA_cons {e : Int × Int} {r : Ad} {v : Int} : getA (e :: r) v = if e.1 = v then some e.2 else getA r v := by
  unfold getA
  rw [List.find?_cons]
  by_cases h : e.1 = v
  · rw [decide_eq_true h, if_pos h]
    rfl
  · rw [decide_eq_false h, if_neg h]
theorem getA_any (xs : Ad) (v : Int) : (xs.any fun e => decide (e.1 = v)) = (getA xs v).isSome := by
  induction xs with
  | nil => rfl
  | cons e r ih =>
    rw [List.any_cons, getA_cons, ih]
    by_cases h : e.1 = v
    · rw [decide_eq_true h, if_pos h]
      rfl
    · rw [decide_eq_false h, if_neg h]
      rfl
theorem getA_map (xs : Ad) (v x u : Int) : getA (xs.map fun e => if e.1 = v then (e.1, x) else e) u = if u = v then (getA xs u).map fun _ => x else getA xs u := by
  induction xs with
  | nil => rw [List.map_nil, getA_nil]; split <;> rfl
  | cons e r ih =>
    rw [List.map_cons, getA_cons, getA_cons, ih]
    by_cases h : e.1 = v
    · rw [if_pos h]
      by_cases h2 : e.1 = u
      · rw [if_pos h2, if_pos h2, if_pos (h2.symm.trans h)]
        rfl
      · rw [if_neg h2, if_neg h2]
    · rw [if_neg h]
      by_cases h2 : e.1 = u
      · rw [if_pos h2, if_pos h2, if_neg (fun z => h (h2.trans z))]
      · rw [if_neg h2, if_neg h2]
theorem getA_app (xs ys : Ad) (u : Int) : getA (xs ++ ys) u = (getA xs u).or (getA ys u) := by
  induction xs with
  | nil => rfl
  | cons e r ih =>
    rw [List.cons_append, getA_cons, getA_cons, ih]
    split <;> rfl
theorem get_put (xs : Ad) (v x u : Int) : getA (putA xs v x) u = if u = v then some x else getA xs u := by
  unfold putA
  split
  · rename_i h
    rw [getA_any] at h
    rw [getA_map]
    by_cases e : u = v
    · subst e
      rw [if_pos rfl, if_pos rfl]
      obtain ⟨y, hy⟩ := Option.isSome_iff_exists.mp h
      rw [hy]
      rfl
    · rw [if_neg e, if_neg e]
  · rename_i h
    rw [getA_any] at h
    rw [getA_app, getA_cons, getA_nil]
    by_cases e : u = v
    · subst e
      rw [if_pos rfl, if_pos rfl]
      cases hg : getA xs u with
      | none => rfl
      | some y => rw [hg] at h; exact absurd rfl h
    · rw [if_neg e, if_neg (fun z => e z.symm)]
      cases getA xs u <;> rfl
def keyA (A : Ad) : List Int := A.map (·.1)
theorem keyA_iff {xs : Ad} {v : Int} : v ∈ keyA xs ↔ (getA xs v).isSome = true := by
  rw [← getA_any, List.any_eq_true]
  unfold keyA
  rw [List.mem_map]
  exact ⟨fun ⟨e, h1, h2⟩ => ⟨e, h1, decide_eq_true h2⟩, fun ⟨e, h1, h2⟩ => ⟨e, h1, of_decide_eq_true h2⟩⟩
def room (R : Rm) (u v : Int) : Int := (getA (R u) v).getD 0
def setR (R : Rm) (u v x : Int) : Rm := fun w => if w = u then putA (R u) v x else R w
theorem get_set {R : Rm} {u v x a b : Int} : getA (setR R u v x a) b = if a = u ∧ b = v then some x else getA (R a) b := by
  unfold setR
  by_cases h : a = u
  · subst h
    rw [if_pos rfl, get_put]
    by_cases e : b = v
    · rw [if_pos e, if_pos ⟨rfl, e⟩]
    · rw [if_neg e, if_neg (fun z => e z.2)]
  · rw [if_neg h, if_neg (fun z => h z.1)]
theorem room_set {R : Rm} {u v x a b : Int} : room (setR R u v x) a b = if a = u ∧ b = v then x else room R a b := by
  unfold room
  rw [get_set]
  split <;> rfl
theorem key_set {R : Rm} {u v x a b : Int} (h : (getA (R u) v).isSome = true) : (getA (setR R u v x a) b).isSome = (getA (R a) b).isSome := by
  rw [get_set]
  split
  · rename_i e
    rw [e.1, e.2, h]
    rfl
  · rfl
theorem room_key {R : Rm} {u v : Int} (h : 0 < room R u v) : (getA (R u) v).isSome = true := by
  unfold room at h
  cases e : getA (R u) v with
  | none => rw [e] at h; exact absurd h (by decide)
  | some x => rfl
/-! ### the search, the push and the draw -/
def scanS (R : Rm) (node : Int) (A : Ad) (step : Int) : Ad := if 0 < room R node step ∧ step ∉ keyA A then A ++ [(step, node)] else A
def scanR (R : Rm) (node : Int) (A : Ad) : Ad := (keyA (R node)).foldl (scanS R node) A
def bfs (R : Rm) (goal : Int) : Nat → Ad → Nat → Ad
  | 0, A, _ => A
  | f + 1, A, i => if goal ∈ keyA A then A else match A[i]? with
    | none => A
    | some e => bfs R goal f (scanR R e.1 A) (i + 1)
def lookA (A : Ad) (v : Int) : Int := (getA A v).getD (-1)
def pushS (R : Rm) (low node : Int) : Rm := setR (setR R low node (room R low node - 1)) node low (room (setR R low node (room R low node - 1)) node low + 1)
def pushF (A : Ad) : Nat → Rm → Int → Rm
  | 0, R, _ => R
  | f + 1, R, node => if node = -1 then R else pushF A f (pushS R (lookA A node) node) (lookA A node)
def stepsD (R : Rm) (node : Int) : List Int := (keyA (R node)).filter fun s => decide (node < s) && decide (0 < room R s node)
def drawF (goal : Int) : Nat → Rm → Int → List Nat → Rm × List Nat
  | 0, R, _, W => (R, W)
  | f + 1, R, node, W => if node = goal then (R, W) else match stepsD R node with
    | [] => (R, W)
    | s :: _ => drawF goal f (setR R s node (room R s node - 1)) s (if s % 2 = 0 then W ++ [(s / 2).toNat] else W)
def push1 (goal : Int) (f : Nat) (R : Rm) : Rm := pushF (bfs R goal f [(-1, -1)] 0) f R goal
def pushN (goal : Int) (f : Nat) (R : Rm) : Nat → Rm
  | 0 => R
  | c + 1 => push1 goal f (pushN goal f R c)
def drawN (goal : Int) (f : Nat) (R : Rm) : Nat → Rm × List (List Nat)
  | 0 => (R, [])
  | c + 1 => ((drawF goal f (drawN goal f R c).1 (-1) []).1, (drawN goal f R c).2 ++ [(drawF goal f (drawN goal f R c).1 (-1) []).2])
/-! ### what is held -/
structure Nds (N : List Int) (goal : Int) (R0 : Rm) (count : Int) : Prop where
  nd : N.Nodup
  st : -1 ∈ N
  gl : goal ∈ N
  ge : ∀ v ∈ N, -1 ≤ v ∧ v ≤ goal
  g0 : 0 ≤ goal
  pos : ∀ u v, 0 ≤ room R0 u v
  sub : ∀ u v, (getA (R0 u) v).isSome = true → u ∈ N ∧ v ∈ N
  sym : ∀ u v, (getA (R0 u) v).isSome = true → (getA (R0 v) u).isSome = true
  up : ∀ u v, v < u → room R0 u v = 0
  cut : ∀ S : List Int, S.Nodup → (∀ v ∈ S, v ∈ N) → -1 ∈ S → goal ∉ S → count ≤ sm (fun u => sm (room R0 u) (N.filter fun w => !decide (w ∈ S))) S
structure Flw (N : List Int) (goal : Int) (R0 R : Rm) (t : Int) : Prop where
  key : ∀ u v, (getA (R u) v).isSome = (getA (R0 u) v).isSome
  pos : ∀ u v, 0 ≤ room R u v
  sum : ∀ u v, room R u v + room R v u = room R0 u v + room R0 v u
  con : ∀ v ∈ N, v ≠ -1 → v ≠ goal → sm (fun w => room R0 v w - room R v w) N = 0
  val : sm (fun w => room R0 (-1) w - room R (-1) w) N = t
theorem Flw.init {N : List Int} {goal : Int} {R0 : Rm} {c : Int} (nn : Nds N goal R0 c) : Flw N goal R0 R0 0 := ⟨fun _ _ => rfl, nn.pos, fun _ _ => rfl, fun v _ _ _ => sm_zero fun w _ => by omega, sm_zero fun w _ => by omega⟩
/-- the search -/
structure Bf (N : List Int) (R : Rm) (A : Ad) (i : Nat) : Prop where
  zero : A[0]? = some (-1, -1)
  nd : (keyA A).Nodup
  sub : ∀ v ∈ keyA A, v ∈ N
  pred : ∀ (j : Nat) (e : Int × Int), A[j]? = some e → j ≠ 0 → ∃ l, l < j ∧ ∃ p, A[l]? = some (e.2, p) ∧ 0 < room R e.2 e.1
  seen : ∀ j, j < i → ∀ e, A[j]? = some e → ∀ v, 0 < room R e.1 v → v ∈ keyA A
  le : i ≤ A.length
theorem Bf.len {N : List Int} {R : Rm} {A : Ad} {i : Nat} (b : Bf N R A i) : A.length ≤ N.length := by
  have := b.nd.length_le_of_subset (l₂ := N) b.sub
  unfold keyA at this
  rwa [List.length_map] at this
theorem mem_keyA {A : Ad} {j : Nat} {e : Int × Int} (h : A[j]? = some e) : e.1 ∈ keyA A := List.mem_map.mpr ⟨e, List.mem_of_getElem? h, rfl⟩
theorem bf_zero {N : List Int} {R : Rm} (h : -1 ∈ N) : Bf N R [(-1, -1)] 0 := ⟨rfl, by simp [keyA], fun v hv => by
  have : v = -1 := by simpa [keyA] using hv
  rw [this]; exact h, fun j e he hj => by
  have := (List.getElem?_eq_some_iff.mp he).1
  rw [List.length_singleton] at this
  omega, fun j hj => absurd hj (Nat.not_lt_zero _), Nat.zero_le _⟩
theorem scan_ok {N : List Int} {R : Rm} {node : Int} {a : Nat} {p : Int} (hN : ∀ v, 0 < room R node v → v ∈ N) : ∀ (ks : List Int) (A : Ad), A[0]? = some (-1, -1) → (keyA A).Nodup → (∀ v ∈ keyA A, v ∈ N) → A[a]? = some (node, p) →
    (∀ (j : Nat) (e : Int × Int), A[j]? = some e → j ≠ 0 → ∃ l, l < j ∧ ∃ p, A[l]? = some (e.2, p) ∧ 0 < room R e.2 e.1) →
    (keyA (ks.foldl (scanS R node) A)).Nodup ∧ (∀ v ∈ keyA (ks.foldl (scanS R node) A), v ∈ N) ∧ (∀ (j : Nat) (e : Int × Int), A[j]? = some e → (ks.foldl (scanS R node) A)[j]? = some e) ∧
    (∀ (j : Nat) (e : Int × Int), (ks.foldl (scanS R node) A)[j]? = some e → j ≠ 0 → ∃ l, l < j ∧ ∃ p, (ks.foldl (scanS R node) A)[l]? = some (e.2, p) ∧ 0 < room R e.2 e.1) ∧ (∀ k ∈ ks, 0 < room R node k → k ∈ keyA (ks.foldl (scanS R node) A))
  | [], A, h0, nd, sub, ha, pr => ⟨nd, sub, fun _ _ e => e, pr, fun k hk => by cases hk⟩
  | k :: ks, A, h0, nd, sub, ha, pr => by
    rw [List.foldl_cons]
    have mono : ∀ (B : Ad) (j : Nat) (e : Int × Int), B[j]? = some e → (B ++ [(k, node)])[j]? = some e := fun B j e he => by
      rw [List.getElem?_append_left (List.getElem?_eq_some_iff.mp he).1]
      exact he
    by_cases c : 0 < room R node k ∧ k ∉ keyA A
    · have e : scanS R node A k = A ++ [(k, node)] := by unfold scanS; rw [if_pos c]
      have ek : keyA (A ++ [(k, node)]) = keyA A ++ [k] := by unfold keyA; rw [List.map_append]; rfl
      rw [e]
      have al := (List.getElem?_eq_some_iff.mp ha).1
      obtain ⟨i1, i2, i3, i4, i5⟩ := scan_ok hN ks (A ++ [(k, node)]) (mono _ _ _ h0) (by
        rw [ek, List.nodup_append]
        exact ⟨nd, by simp, fun x hx y hy z => c.2 (by rw [List.mem_singleton.mp hy] at z; rw [← z]; exact hx)⟩) (fun v hv => by
        rw [ek] at hv
        rcases List.mem_append.mp hv with hv | hv
        · exact sub v hv
        · rw [List.mem_singleton.mp hv]; exact hN k c.1) (mono _ _ _ ha) (fun j e he hj => by
        by_cases hl : j < A.length
        · rw [List.getElem?_append_left hl] at he
          obtain ⟨l, h1, q, h2, h3⟩ := pr j e he hj
          exact ⟨l, h1, q, mono _ _ _ h2, h3⟩
        · have hl2 := (List.getElem?_eq_some_iff.mp he).1
          rw [List.length_append, List.length_singleton] at hl2
          have ej : j = A.length := by omega
          subst ej
          rw [List.getElem?_append_right (Nat.le_refl _), Nat.sub_self] at he
          have he : some (k, node) = some e := he
          obtain rfl := Option.some.inj he
          exact ⟨a, al, p, mono _ _ _ ha, c.1⟩)
      refine ⟨i1, i2, fun j e he => i3 j e (mono _ _ _ he), i4, fun x hx hr => ?_⟩
      rcases List.mem_cons.mp hx with rfl | hx
      · exact mem_keyA (i3 A.length (x, node) (by rw [List.getElem?_append_right (Nat.le_refl _), Nat.sub_self]; rfl))
      · exact i5 x hx hr
    · have e : scanS R node A k = A := by unfold scanS; rw [if_neg c]
      rw [e]
      obtain ⟨i1, i2, i3, i4, i5⟩ := scan_ok hN ks A h0 nd sub ha pr
      refine ⟨i1, i2, i3, i4, fun x hx hr => ?_⟩
      rcases List.mem_cons.mp hx with rfl | hx
      · have hm : x ∈ keyA A := Classical.byContradiction fun z => c ⟨hr, z⟩
        obtain ⟨e, he, ee⟩ := List.mem_map.mp hm
        obtain ⟨j, hj⟩ := List.getElem?_of_mem he
        rw [← ee]
        exact mem_keyA (i3 j e hj)
      · exact i5 x hx hr
theorem Bf.next {N : List Int} {R : Rm} {A : Ad} {i : Nat} {e : Int × Int} (b : Bf N R A i) (hN : ∀ u v, 0 < room R u v → v ∈ N) (he : A[i]? = some e) : Bf N R (scanR R e.1 A) (i + 1) := by
  obtain ⟨i1, i2, i3, i4, i5⟩ := scan_ok (hN e.1) (keyA (R e.1)) A b.zero b.nd b.sub (show A[i]? = some (e.1, e.2) from he) b.pred
  have hl := (List.getElem?_eq_some_iff.mp he).1
  refine ⟨i3 _ _ b.zero, i1, i2, i4, fun j hj e' he' v hv => ?_, ?_⟩
  · by_cases c : j < i
    · have ha : A[j]? = some e' := by
        obtain ⟨h1, h2⟩ := List.getElem?_eq_some_iff.mp (i3 j _ (List.getElem?_eq_getElem (show j < A.length by omega)))
        have := he'
        unfold scanR at this
        rw [List.getElem?_eq_getElem h1] at this
        rw [List.getElem?_eq_getElem (show j < A.length by omega), ← h2]
        exact this
      have := b.seen j c e' ha v hv
      obtain ⟨x, hx, ex⟩ := List.mem_map.mp this
      obtain ⟨l, hl⟩ := List.getElem?_of_mem hx
      rw [← ex]
      exact mem_keyA (i3 l x hl)
    · have ej : j = i := by omega
      subst ej
      have := i3 j e he
      have he' : (scanR R e.1 A)[j]? = some e' := he'
      unfold scanR at he'
      rw [this] at he'
      obtain rfl := Option.some.inj he'
      exact i5 v (keyA_iff.mpr (room_key hv)) hv
  · have := (List.getElem?_eq_some_iff.mp (i3 i e he)).1
    unfold scanR
    omega
theorem Flw.inN {N : List Int} {goal : Int} {R0 R : Rm} {t c : Int} (nn : Nds N goal R0 c) (F : Flw N goal R0 R t) (u v : Int) (h : 0 < room R u v) : u ∈ N ∧ v ∈ N := nn.sub u v (by rw [← F.key]; exact room_key h)
/-- while less than the least cut goes, the search comes to the goal -/
theorem Flw.more {N : List Int} {goal : Int} {R0 R : Rm} {t c : Int} (nn : Nds N goal R0 c) (F : Flw N goal R0 R t) (ht : t < c) {A : Ad} {i : Nat} (b : Bf N R A i) (hg : goal ∉ keyA A) : i < A.length := Classical.byContradiction fun hi => by
  have hi : i = A.length := by have := b.le; omega
  have s0 : -1 ∈ keyA A := mem_keyA b.zero
  have cl : ∀ u ∈ keyA A, ∀ v, 0 < room R u v → v ∈ keyA A := fun u hu v hv => by
    obtain ⟨e, he, rfl⟩ := List.mem_map.mp hu
    obtain ⟨j, hj⟩ := List.getElem?_of_mem he
    exact b.seen j (by rw [hi]; exact (List.getElem?_eq_some_iff.mp hj).1) e hj v hv
  have hc := nn.cut (keyA A) b.nd b.sub s0 hg
  have e1 : sm (fun u => sm (fun w => room R0 u w - room R u w) N) (keyA A) = t := by
    have : sm (fun u => sm (fun w => room R0 u w - room R u w) N) (keyA A) = sm (fun _ => 0) (keyA A) + t := sm_upd b.nd s0 (fun x hx h1 => F.con x (b.sub x hx) h1 fun z => hg (z ▸ hx)) (by rw [F.val]; omega)
    rw [sm_zero (f := fun _ => 0) (fun _ _ => rfl)] at this
    omega
  have e2 : ∀ u ∈ keyA A, sm (fun w => room R0 u w - room R u w) N = sm (fun w => room R0 u w - room R u w) (keyA A) + sm (room R0 u) (N.filter fun w => !decide (w ∈ keyA A)) := fun u hu => by
    rw [sm_split _ (fun w => decide (w ∈ keyA A)) N]
    congr 1
    · refine sm_perm ?_
      exact (List.perm_ext_iff_of_nodup (nn.nd.filter _) b.nd).mpr fun w => by
        rw [List.mem_filter]
        exact ⟨fun h => of_decide_eq_true h.2, fun h => ⟨b.sub w h, decide_eq_true h⟩⟩
    · refine sm_congr fun w hw => ?_
      have hw := (List.mem_filter.mp hw).2
      have nw : w ∉ keyA A := fun z => by rw [decide_eq_true z] at hw; cases hw
      have : room R u w = 0 := by
        have h1 := F.pos u w
        have h2 : ¬ 0 < room R u w := fun z => nw (cl u hu w z)
        omega
      rw [this]
      omega
  rw [sm_congr e2, sm_add, sm_anti (g := fun u w => room R0 u w - room R u w) (fun u w => by have := F.sum u w; omega)] at e1
  omega
end GX
set_option Elab.async false
set_option linter.all false
set_option maxRecDepth 100000
set_option maxHeartbeats 4000000
/-! One more way is let go; one way is taken out. -/
namespace GX
theorem lookA_at {A : Ad} (nd : (keyA A).Nodup) {j : Nat} {e : Int × Int} (h : A[j]? = some e) : lookA A e.1 = e.2 := by
  unfold lookA
  have : ∀ (A : Ad), (keyA A).Nodup → e ∈ A → getA A e.1 = some e.2 := by
    intro A
    induction A with
    | nil => intro _ h; cases h
    | cons x r ih =>
      intro nd h
      have nd := List.nodup_cons.mp (show (x.1 :: keyA r).Nodup from nd)
      rw [getA_cons]
      rcases List.mem_cons.mp h with rfl | h
      · rw [if_pos rfl]
      · rw [if_neg (fun z => nd.1 (by rw [z]; exact List.mem_map.mpr ⟨e, h, rfl⟩))]
        exact ih nd.2 h
  rw [this A nd (List.mem_of_getElem? h)]
  rfl
theorem key_inj {A : Ad} (nd : (keyA A).Nodup) {i j : Nat} {e e' : Int × Int} (h : A[i]? = some e) (h' : A[j]? = some e') (x : e.1 = e'.1) : i = j := by
  have h1 : (keyA A)[i]? = some e.1 := by unfold keyA; rw [List.getElem?_map, h]; rfl
  have h2 : (keyA A)[j]? = some e.1 := by unfold keyA; rw [List.getElem?_map, h', x]; rfl
  obtain ⟨l1, e1⟩ := List.getElem?_eq_some_iff.mp h1
  obtain ⟨l2, e2⟩ := List.getElem?_eq_some_iff.mp h2
  have pw := List.pairwise_iff_getElem.mp (List.nodup_iff_pairwise_ne.mp nd)
  refine Classical.byContradiction fun ne => ?_
  rcases Nat.lt_or_gt_of_ne ne with h | h
  · exact pw i j l1 l2 h (e1.trans e2.symm)
  · exact pw j i l2 l1 h (e2.trans e1.symm)
/-- a way partly pushed: from the goal back to a node -/
structure Psh (N : List Int) (goal : Int) (R0 R : Rm) (t : Int) (A : Ad) (i : Nat) (node : Int) : Prop where
  key : ∀ u v, (getA (R u) v).isSome = (getA (R0 u) v).isSome
  pos : ∀ u v, 0 ≤ room R u v
  sum : ∀ u v, room R u v + room R v u = room R0 u v + room R0 v u
  here : ∃ p, A[i]? = some (node, p)
  con : ∀ v ∈ N, v ≠ -1 → v ≠ goal → v ≠ node → sm (fun w => room R0 v w - room R v w) N = 0
  one : node ≠ -1 → node ≠ goal → sm (fun w => room R0 node w - room R node w) N = 1
  val : sm (fun w => room R0 (-1) w - room R (-1) w) N = if node = -1 then t + 1 else t
  way : ∀ j, j ≤ i → ∀ e, A[j]? = some e → j ≠ 0 → 0 < room R e.2 e.1
theorem Psh.init {N : List Int} {goal : Int} {R0 R : Rm} {t c : Int} (nn : Nds N goal R0 c) (F : Flw N goal R0 R t) {A : Ad} {i k : Nat} (b : Bf N R A k) {p : Int} (h : A[i]? = some (goal, p)) : Psh N goal R0 R t A i goal := by
  have := nn.g0
  refine ⟨F.key, F.pos, F.sum, ⟨p, h⟩, fun v hv h1 h2 _ => F.con v hv h1 h2, fun _ z => absurd rfl z, ?_, fun j _ e he hj => ?_⟩
  · rw [if_neg (by omega)]
    exact F.val
  · obtain ⟨_, _, _, _, h3⟩ := b.pred j e he hj
    exact h3
theorem Psh.done {N : List Int} {goal : Int} {R0 R : Rm} {t : Int} {A : Ad} {i : Nat} (P : Psh N goal R0 R t A i (-1)) : Flw N goal R0 R (t + 1) := ⟨P.key, P.pos, P.sum, fun v hv h1 h2 => P.con v hv h1 h2 h1, by have := P.val; rwa [if_pos rfl] at this⟩
/-- the room behind a step of the push -/
theorem room_push {R : Rm} {low node : Int} (ne : low ≠ node) (a b : Int) : room (pushS R low node) a b = if a = low ∧ b = node then room R low node - 1 else if a = node ∧ b = low then room R node low + 1 else room R a b := by
  unfold pushS
  rw [room_set, room_set, room_set]
  by_cases h1 : a = node ∧ b = low
  · rw [if_pos h1, if_neg (fun z => ne z.1.symm), if_neg (fun z => ne (z.1.symm.trans h1.1)), if_pos h1]
  · rw [if_neg h1, if_neg h1]
theorem Psh.next {N : List Int} {goal : Int} {R0 R R1 : Rm} {t c : Int} (nn : Nds N goal R0 c) {A : Ad} {i k : Nat} {node : Int} (b : Bf N R1 A k) (P : Psh N goal R0 R t A i node) (hn : node ≠ -1) : ∃ (l : Nat) (low : Int), l < i ∧ lookA A node = low ∧ low ∈ N ∧ node ∈ N ∧ low ≠ node ∧ (getA (R low) node).isSome = true ∧ (getA (R node) low).isSome = true ∧ Psh N goal R0 (pushS R low node) t A l low := by
  obtain ⟨p, hp⟩ := P.here
  have hi : i ≠ 0 := fun z => by
    subst z
    rw [b.zero] at hp
    exact hn (congrArg Prod.fst (Option.some.inj hp)).symm
  obtain ⟨l, hl, q, hq, _⟩ := b.pred i _ hp hi
  have rm := P.way i (Nat.le_refl _) _ hp hi
  have rm : 0 < room R p node := rm
  have e1 : lookA A node = p := lookA_at b.nd hp
  have ne : p ≠ node := fun z => by
    have := key_inj b.nd hq hp z
    omega
  have k1 := room_key rm
  have k2 : (getA (R node) p).isSome = true := by
    rw [P.key] at k1 ⊢
    exact nn.sym _ _ k1
  have pN : p ∈ N := b.sub p (mem_keyA hq)
  have nN : node ∈ N := b.sub node (mem_keyA hp)
  have rp := room_push (R := R) ne
  refine ⟨l, p, hl, e1, pN, nN, ne, k1, k2, ?_⟩
  have sumP : sm (fun w => room R0 p w - room (pushS R p node) p w) N = sm (fun w => room R0 p w - room R p w) N + 1 := sm_upd nn.nd nN (fun x _ hx => by
    rw [rp, if_neg (fun z => hx z.2), if_neg (fun z => ne z.1)]) (by rw [rp, if_pos ⟨rfl, rfl⟩]; omega)
  have sumN : sm (fun w => room R0 node w - room (pushS R p node) node w) N = sm (fun w => room R0 node w - room R node w) N + (-1) := sm_upd nn.nd pN (fun x _ hx => by
    rw [rp, if_neg (fun z => ne z.1.symm), if_neg (fun z => hx z.2)]) (by rw [rp, if_neg (fun z => ne z.1.symm), if_pos ⟨rfl, rfl⟩]; omega)
  have sumO : ∀ v, v ≠ p → v ≠ node → sm (fun w => room R0 v w - room (pushS R p node) v w) N = sm (fun w => room R0 v w - room R v w) N := fun v h1 h2 => sm_congr fun w _ => by
    rw [rp, if_neg (fun z => h1 z.1), if_neg (fun z => h2 z.1)]
  refine ⟨fun u v => ?_, fun u v => ?_, fun u v => ?_, ⟨q, hq⟩, fun v hv h1 h2 h3 => ?_, fun h1 h2 => ?_, ?_, fun j hj e he hj0 => ?_⟩
  · unfold pushS
    rw [key_set (by rw [key_set k1]; exact k2), key_set k1]
    exact P.key u v
  · rw [rp]
    have := P.pos u v
    have := P.pos node p
    split
    · omega
    · split <;> omega
  · rw [rp, rp]
    have := P.sum u v
    by_cases a1 : u = p ∧ v = node
    · obtain ⟨rfl, rfl⟩ := a1
      rw [if_pos ⟨rfl, rfl⟩, if_neg (fun z => ne z.1.symm), if_pos ⟨rfl, rfl⟩]
      omega
    · rw [if_neg a1]
      by_cases a2 : u = node ∧ v = p
      · obtain ⟨rfl, rfl⟩ := a2
        rw [if_pos ⟨rfl, rfl⟩, if_pos ⟨rfl, rfl⟩]
        omega
      · rw [if_neg a2, if_neg (fun z => a2 ⟨z.2, z.1⟩), if_neg (fun z => a1 ⟨z.2, z.1⟩)]
        omega
  · by_cases e : v = node
    · rw [e, sumN, P.one (e ▸ h1) (e ▸ h2)]
      omega
    · rw [sumO v h3 e]
      exact P.con v hv h1 h2 e
  · rw [sumP, P.con p pN h1 h2 ne]
    omega
  · by_cases e : p = -1
    · subst e
      have v := P.val
      rw [if_neg hn] at v
      rw [if_pos rfl, sumP, v]
    · have v := P.val
      rw [if_neg hn] at v
      rw [if_neg e, sumO (-1) (fun z => e z.symm) (fun z => hn z.symm)]
      exact v
  · have w := P.way j (by omega) e he hj0
    rw [rp]
    have n1 : e.1 ≠ node := fun z => by have := key_inj b.nd he hp z; omega
    obtain ⟨l', hl', q', hq', _⟩ := b.pred j e he hj0
    have n2 : e.2 ≠ node := fun z => by have := key_inj b.nd hq' hp z; omega
    rw [if_neg (fun z => n1 z.2), if_neg (fun z => n2 z.1)]
    exact w
/-! ### ways taken out -/
def psi (R : Rm) (v w : Int) : Int := if v < w then room R w v else if w < v then - room R v w else 0
structure Drw (N : List Int) (goal : Int) (R0 R : Rm) (m : Int) (node : Int) : Prop where
  key : ∀ u v, (getA (R u) v).isSome = (getA (R0 u) v).isSome
  pos : ∀ u v, 0 ≤ room R u v
  nn : node ∈ N
  con : ∀ v ∈ N, v ≠ -1 → v ≠ goal → v ≠ node → sm (psi R v) N = 0
  one : node ≠ -1 → node ≠ goal → sm (psi R node) N = 1
  val : sm (psi R (-1)) N = m + if node = -1 then 1 else 0
theorem Flw.draw {N : List Int} {goal : Int} {R0 R : Rm} {t c : Int} (nn : Nds N goal R0 c) (F : Flw N goal R0 R (t + 1)) : Drw N goal R0 R t (-1) := by
  have e : ∀ v w, psi R v w = room R0 v w - room R v w := fun v w => by
    unfold psi
    have s := F.sum v w
    have s' := F.sum w v
    by_cases h : v < w
    · have := nn.up w v h
      rw [if_pos h]
      omega
    · rw [if_neg h]
      by_cases h2 : w < v
      · have := nn.up v w h2
        rw [if_pos h2]
        omega
      · have : v = w := by omega
        subst this
        rw [if_neg h2]
        omega
  refine ⟨F.key, F.pos, nn.st, fun v hv h1 h2 _ => ?_, fun z => absurd rfl z, ?_⟩
  · rw [sm_congr fun w _ => e v w]
    exact F.con v hv h1 h2
  · rw [sm_congr fun w _ => e (-1) w, F.val, if_pos rfl]
theorem Drw.again {N : List Int} {goal : Int} {R0 R : Rm} {m c : Int} (nn : Nds N goal R0 c) (D : Drw N goal R0 R (m + 1) goal) : Drw N goal R0 R m (-1) := by
  have := nn.g0
  refine ⟨D.key, D.pos, nn.st, fun v hv h1 h2 _ => D.con v hv h1 h2 h2, fun z => absurd rfl z, ?_⟩
  have := D.val
  rw [if_neg (by omega)] at this
  rw [if_pos rfl, this]
  omega
theorem Drw.next {N : List Int} {goal : Int} {R0 R : Rm} {m c : Int} (nn : Nds N goal R0 c) {node : Int} (D : Drw N goal R0 R m node) (hm : 0 ≤ m) (hg : node ≠ goal) : ∃ s r, stepsD R node = s :: r ∧ s ∈ N ∧ node < s ∧ 0 < room R s node ∧ (getA (R node) s).isSome = true ∧ (getA (R s) node).isSome = true ∧ Drw N goal R0 (setR R s node (room R s node - 1)) m s := by
  have h1 : 1 ≤ sm (psi R node) N := by
    by_cases e : node = -1
    · subst e
      rw [D.val, if_pos rfl]
      omega
    · rw [D.one e hg]
      exact Int.le_refl _
  obtain ⟨w, hw, hw1⟩ := sm_pos h1
  have lt : node < w := by
    unfold psi at hw1
    split at hw1
    · assumption
    · have := D.pos node w
      split at hw1 <;> omega
  have rw_ : 0 < room R w node := by
    unfold psi at hw1
    rw [if_pos lt] at hw1
    omega
  have kw : (getA (R node) w).isSome = true := by
    have := room_key rw_
    rw [D.key] at this ⊢
    exact nn.sym _ _ this
  have mem : w ∈ stepsD R node := by
    unfold stepsD
    exact List.mem_filter.mpr ⟨keyA_iff.mpr kw, by rw [decide_eq_true lt, decide_eq_true rw_]; rfl⟩
  match hs : stepsD R node with
  | [] => rw [hs] at mem; cases mem
  | s :: r =>
    have hm : s ∈ stepsD R node := by rw [hs]; exact List.mem_cons_self
    unfold stepsD at hm
    obtain ⟨m1, m2⟩ := List.mem_filter.mp hm
    obtain ⟨m3, m4⟩ := (Bool.and_eq_true _ _).mp m2 |> fun h => h
    have m3 := of_decide_eq_true m3
    have m4 := of_decide_eq_true m4
    have k1 := keyA_iff.mp m1
    have k2 := room_key m4
    have sN : s ∈ N := (nn.sub s node (by rw [← D.key]; exact k2)).1
    refine ⟨s, r, rfl, sN, m3, m4, k1, k2, ?_⟩
    have rs : ∀ a b, room (setR R s node (room R s node - 1)) a b = if a = s ∧ b = node then room R s node - 1 else room R a b := fun a b => room_set
    have pN : ∀ w, w ≠ s → psi (setR R s node (room R s node - 1)) node w = psi R node w := fun w hw => by
      have a1 : room (setR R s node (room R s node - 1)) w node = room R w node := by rw [rs, if_neg (fun z => hw z.1)]
      have a2 : room (setR R s node (room R s node - 1)) node w = room R node w := by rw [rs, if_neg (fun z => by omega)]
      unfold psi
      rw [a1, a2]
    have pN1 : psi (setR R s node (room R s node - 1)) node s = psi R node s + (-1) := by
      unfold psi
      rw [if_pos m3, if_pos m3, rs, if_pos ⟨rfl, rfl⟩]
      omega
    have pS : ∀ w, w ≠ node → psi (setR R s node (room R s node - 1)) s w = psi R s w := fun w hw => by
      have a1 : room (setR R s node (room R s node - 1)) w s = room R w s := by rw [rs, if_neg (fun z => by omega)]
      have a2 : room (setR R s node (room R s node - 1)) s w = room R s w := by rw [rs, if_neg (fun z => hw z.2)]
      unfold psi
      rw [a1, a2]
    have pS1 : psi (setR R s node (room R s node - 1)) s node = psi R s node + 1 := by
      unfold psi
      rw [if_neg (by omega), if_pos m3, if_neg (by omega), if_pos m3, rs, if_pos ⟨rfl, rfl⟩]
      omega
    have pO : ∀ v w, v ≠ s → v ≠ node → psi (setR R s node (room R s node - 1)) v w = psi R v w := fun v w h1 h2 => by
      have a1 : room (setR R s node (room R s node - 1)) w v = room R w v := by rw [rs, if_neg (fun z => h2 z.2)]
      have a2 : room (setR R s node (room R s node - 1)) v w = room R v w := by rw [rs, if_neg (fun z => h1 z.1)]
      unfold psi
      rw [a1, a2]
    have sumN : sm (psi (setR R s node (room R s node - 1)) node) N = sm (psi R node) N + (-1) := sm_upd nn.nd sN (fun x _ hx => pN x hx) pN1
    have sumS : sm (psi (setR R s node (room R s node - 1)) s) N = sm (psi R s) N + 1 := sm_upd nn.nd D.nn (fun x _ hx => pS x hx) pS1
    have sumO : ∀ v, v ≠ s → v ≠ node → sm (psi (setR R s node (room R s node - 1)) v) N = sm (psi R v) N := fun v h1 h2 => sm_congr fun w _ => pO v w h1 h2
    have gN := nn.ge node D.nn
    refine ⟨fun u v => ?_, fun u v => ?_, sN, fun v hv h1 h2 h3 => ?_, fun h1 h2 => ?_, ?_⟩
    · rw [key_set k2]
      exact D.key u v
    · rw [rs]
      have := D.pos u v
      split <;> omega
    · by_cases e : v = node
      · rw [e, sumN, D.one (e ▸ h1) (e ▸ h2)]
        omega
      · rw [sumO v h3 e]
        exact D.con v hv h1 h2 e
    · rw [sumS, D.con s sN h1 h2 (by omega)]
      omega
    · by_cases e : node = -1
      · subst e
        rw [if_neg (by omega), sumN, D.val, if_pos rfl]
        omega
      · rw [if_neg (by omega), sumO (-1) (by omega) (fun z => e z.symm), D.val, if_neg e]
end GX
set_option Elab.async false
set_option linter.all false
set_option maxRecDepth 100000
set_option maxHeartbeats 4000000
/-! The flow of a gate's cone: as many ways as asked, apart but for the shared wires. -/
namespace GX
theorem bfs_ok {N : List Int} {goal : Int} {R0 R : Rm} {t c : Int} (nn : Nds N goal R0 c) (F : Flw N goal R0 R t) (ht : t < c) : ∀ (f : Nat) (A : Ad) (i : Nat), Bf N R A i → N.length + 1 - i ≤ f → (∃ k, Bf N R (bfs R goal f A i) k) ∧ goal ∈ keyA (bfs R goal f A i)
  | 0, A, i, b, hf => by
    have := b.le
    have := b.len
    omega
  | f + 1, A, i, b, hf => by
    unfold bfs
    by_cases h : goal ∈ keyA A
    · rw [if_pos h]
      exact ⟨⟨i, b⟩, h⟩
    · rw [if_neg h, List.getElem?_eq_getElem (F.more nn ht b h)]
      exact bfs_ok nn F ht f _ (i + 1) (b.next (fun u v hr => (F.inN nn u v hr).2) (List.getElem?_eq_getElem (F.more nn ht b h))) (by omega)
theorem pushF_ok {N : List Int} {goal : Int} {R0 R1 : Rm} {t c : Int} (nn : Nds N goal R0 c) {A : Ad} {k : Nat} (b : Bf N R1 A k) : ∀ (f : Nat) (R : Rm) (i : Nat) (node : Int), Psh N goal R0 R t A i node → i < f → Flw N goal R0 (pushF A f R node) (t + 1)
  | 0, R, i, node, _, h => absurd h (Nat.not_lt_zero _)
  | f + 1, R, i, node, P, h => by
    unfold pushF
    by_cases e : node = -1
    · subst e
      rw [if_pos rfl]
      exact P.done
    · rw [if_neg e]
      obtain ⟨l, low, h1, h2, _, _, _, _, _, P'⟩ := P.next nn b e
      rw [h2]
      exact pushF_ok nn b f _ l low P' (by omega)
theorem push1_ok {N : List Int} {goal : Int} {R0 R : Rm} {t c : Int} (nn : Nds N goal R0 c) (F : Flw N goal R0 R t) (ht : t < c) {f : Nat} (hf : N.length + 1 ≤ f) : Flw N goal R0 (push1 goal f R) (t + 1) := by
  obtain ⟨⟨k, b⟩, hg⟩ := bfs_ok nn F ht f [(-1, -1)] 0 (bf_zero nn.st) (by omega)
  obtain ⟨e, he, ee⟩ := List.mem_map.mp hg
  obtain ⟨i, hi⟩ := List.getElem?_of_mem he
  have := b.len
  have := (List.getElem?_eq_some_iff.mp hi).1
  unfold push1
  exact pushF_ok nn b f R i goal (Psh.init nn F b (show (bfs R goal f [(-1, -1)] 0)[i]? = some (goal, e.2) by rw [hi, ← ee])) (by omega)
theorem pushN_ok {N : List Int} {goal : Int} {R0 : Rm} {c : Int} (nn : Nds N goal R0 c) {f : Nat} (hf : N.length + 1 ≤ f) : ∀ j : Nat, ((j : Nat) : Int) ≤ c → Flw N goal R0 (pushN goal f R0 j) ((j : Nat) : Int)
  | 0, _ => Flw.init nn
  | j + 1, h => by
    have ih := pushN_ok nn hf j (by omega)
    have := push1_ok nn ih (by omega) hf
    exact this
/-! ### the links of a cone -/
abbrev Lnk := Int × Int × Int
def plc (n : Net) (w : Nat) : List Nat := match n.gates[w - n.many]? with
  | some k => [k.2.1, k.2.2]
  | none => []
def lkW (n : Net) (sh : List Nat) (c : Int) (w : Nat) : List Lnk := (2 * (w : Int), 2 * (w : Int) + 1, if w ∈ sh then c else 1) :: (if w < n.many then [(-1, 2 * (w : Int), c)] else (plc n w).map fun p : Nat => (2 * (p : Int) + 1, 2 * (w : Int), c))
def lks (n : Net) (ws sh : List Nat) (c : Int) : List Lnk := ws.flatMap (lkW n sh c)
def linkR (R : Rm) (e : Lnk) : Rm := setR (setR R e.1 e.2.1 e.2.2) e.2.1 e.1 0
def mkR (L : List Lnk) : Rm := L.foldl linkR fun _ => []
def ndsL (ws : List Nat) : List Int := -1 :: ws.flatMap fun w : Nat => [2 * (w : Int), 2 * (w : Int) + 1]
theorem mem_lks {n : Net} {ws sh : List Nat} {c a b x : Int} : (a, b, x) ∈ lks n ws sh c ↔ ∃ w ∈ ws, (a = 2 * (w : Int) ∧ b = 2 * (w : Int) + 1 ∧ x = if w ∈ sh then c else 1) ∨ (w < n.many ∧ a = -1 ∧ b = 2 * (w : Int) ∧ x = c) ∨ (¬ w < n.many ∧ ∃ p ∈ plc n w, a = 2 * (p : Int) + 1 ∧ b = 2 * (w : Int) ∧ x = c) := by
  unfold lks
  rw [List.mem_flatMap]
  refine ⟨fun ⟨w, hw, h⟩ => ⟨w, hw, ?_⟩, fun ⟨w, hw, h⟩ => ⟨w, hw, ?_⟩⟩
  · unfold lkW at h
    rcases List.mem_cons.mp h with h | h
    · cases h
      exact .inl ⟨rfl, rfl, rfl⟩
    · by_cases e : w < n.many
      · rw [if_pos e] at h
        cases List.mem_singleton.mp h
        exact .inr (.inl ⟨e, rfl, rfl, rfl⟩)
      · rw [if_neg e] at h
        obtain ⟨p, hp, h⟩ := List.mem_map.mp h
        cases h
        exact .inr (.inr ⟨e, p, hp, rfl, rfl, rfl⟩)
  · unfold lkW
    rcases h with ⟨rfl, rfl, rfl⟩ | ⟨e, rfl, rfl, rfl⟩ | ⟨e, p, hp, rfl, rfl, rfl⟩
    · exact List.mem_cons_self
    · rw [if_pos e]
      exact List.mem_cons_of_mem _ (List.mem_singleton.mpr rfl)
    · rw [if_neg e]
      exact List.mem_cons_of_mem _ (List.mem_map.mpr ⟨p, hp, rfl⟩)
theorem get_link {R : Rm} {e : Lnk} {a b : Int} : getA (linkR R e a) b = if a = e.2.1 ∧ b = e.1 then some 0 else if a = e.1 ∧ b = e.2.1 then some e.2.2 else getA (R a) b := by
  unfold linkR
  rw [get_set, get_set]
theorem mk_get {a b x : Int} : ∀ M : List Lnk, (∀ e ∈ M, e.1 < e.2.1) → (∀ e ∈ M, ∀ e' ∈ M, e.1 = e'.1 → e.2.1 = e'.2.1 → e.2.2 = e'.2.2) → (getA (mkR M.reverse a) b = some x ↔ (a, b, x) ∈ M ∨ (x = 0 ∧ ∃ c, (b, a, c) ∈ M))
  | [], _, _ => by
    show getA [] b = some x ↔ _
    rw [getA_nil]
    exact ⟨fun h => (by cases h), fun h => by rcases h with h | ⟨_, _, h⟩ <;> cases h⟩
  | (u, v, c) :: M, lt, cs => by
    have ih := mk_get (a := a) (b := b) (x := x) M (fun e he => lt e (List.mem_cons_of_mem _ he)) (fun e he e' he' => cs e (List.mem_cons_of_mem _ he) e' (List.mem_cons_of_mem _ he'))
    have uv : u < v := lt (u, v, c) List.mem_cons_self
    have e1 : mkR ((u, v, c) :: M).reverse = linkR (mkR M.reverse) (u, v, c) := by
      unfold mkR
      rw [List.reverse_cons, List.foldl_append]
      rfl
    rw [e1, get_link]
    show (if a = v ∧ b = u then some 0 else if a = u ∧ b = v then some c else getA (mkR M.reverse a) b) = some x ↔ _
    by_cases h1 : a = v ∧ b = u
    · obtain ⟨rfl, rfl⟩ := h1
      rw [if_pos ⟨rfl, rfl⟩]
      refine ⟨fun h => .inr ⟨(Option.some.inj h).symm, c, List.mem_cons_self⟩, fun h => ?_⟩
      rcases h with h | ⟨rfl, _⟩
      · have := lt _ h
        have : a < b := this
        omega
      · rfl
    · rw [if_neg h1]
      by_cases h2 : a = u ∧ b = v
      · obtain ⟨rfl, rfl⟩ := h2
        rw [if_pos ⟨rfl, rfl⟩]
        refine ⟨fun h => .inl (by rw [Option.some.inj h]; exact List.mem_cons_self), fun h => ?_⟩
        rcases h with h | ⟨rfl, c', h⟩
        · have : c = x := cs (a, b, c) List.mem_cons_self (a, b, x) h rfl rfl
          rw [this]
        · have := lt _ h
          have : b < a := this
          omega
      · rw [if_neg h2, ih]
        refine ⟨fun h => ?_, fun h => ?_⟩
        · rcases h with h | ⟨e, c', h⟩
          · exact .inl (List.mem_cons_of_mem _ h)
          · exact .inr ⟨e, c', List.mem_cons_of_mem _ h⟩
        · rcases h with h | ⟨e, c', h⟩
          · rcases List.mem_cons.mp h with h | h
            · cases h; exact absurd ⟨rfl, rfl⟩ h2
            · exact .inl h
          · rcases List.mem_cons.mp h with h | h
            · cases h; exact absurd ⟨rfl, rfl⟩ h1
            · exact .inr ⟨e, c', h⟩
theorem lks_lt {n : Net} {ws sh : List Nat} {c : Int} (pl : ∀ w ∈ ws, ¬ w < n.many → ∀ p ∈ plc n w, p < w) : ∀ e ∈ lks n ws sh c, e.1 < e.2.1 := fun ⟨a, b, x⟩ h => by
  obtain ⟨w, hw, h⟩ := mem_lks.mp h
  show a < b
  rcases h with ⟨rfl, rfl, _⟩ | ⟨_, rfl, rfl, _⟩ | ⟨e, p, hp, rfl, rfl, _⟩
  · omega
  · omega
  · have := pl w hw e p hp
    omega
theorem lks_cs {n : Net} {ws sh : List Nat} {c : Int} : ∀ e ∈ lks n ws sh c, ∀ e' ∈ lks n ws sh c, e.1 = e'.1 → e.2.1 = e'.2.1 → e.2.2 = e'.2.2 := fun ⟨a, b, x⟩ h ⟨a', b', x'⟩ h' => by
  rintro (rfl : a = a') (rfl : b = b')
  show x = x'
  obtain ⟨w, hw, h⟩ := mem_lks.mp h
  obtain ⟨w', hw', h'⟩ := mem_lks.mp h'
  rcases h with ⟨h1, h2, h3⟩ | ⟨h0, h1, h2, h3⟩ | ⟨h0, p, hp, h1, h2, h3⟩ <;> rcases h' with ⟨g1, g2, g3⟩ | ⟨g0, g1, g2, g3⟩ | ⟨g0, q, hq, g1, g2, g3⟩ <;> try omega
  have : w = w' := by omega
  rw [h3, g3, this]
theorem get_lks {n : Net} {ws sh : List Nat} {c : Int} (pl : ∀ w ∈ ws, ¬ w < n.many → ∀ p ∈ plc n w, p < w) {a b x : Int} : getA (mkR (lks n ws sh c) a) b = some x ↔ (a, b, x) ∈ lks n ws sh c ∨ (x = 0 ∧ ∃ c', (b, a, c') ∈ lks n ws sh c) := by
  have := mk_get (a := a) (b := b) (x := x) (lks n ws sh c).reverse (fun e he => lks_lt pl e (List.mem_reverse.mp he)) (fun e he e' he' => lks_cs e (List.mem_reverse.mp he) e' (List.mem_reverse.mp he'))
  rw [List.reverse_reverse] at this
  simp only [List.mem_reverse] at this
  exact this
theorem mem_nds {ws : List Nat} {v : Int} : v ∈ ndsL ws ↔ v = -1 ∨ ∃ w ∈ ws, v = 2 * (w : Int) ∨ v = 2 * (w : Int) + 1 := by
  unfold ndsL
  rw [List.mem_cons, List.mem_flatMap]
  refine or_congr Iff.rfl ⟨fun ⟨w, hw, h⟩ => ⟨w, hw, ?_⟩, fun ⟨w, hw, h⟩ => ⟨w, hw, ?_⟩⟩
  · simpa using h
  · simpa using h
theorem nds_nodup {ws : List Nat} (nd : ws.Nodup) : (ndsL ws).Nodup := by
  unfold ndsL
  refine List.nodup_cons.mpr ⟨fun h => ?_, ?_⟩
  · obtain ⟨w, _, h⟩ := List.mem_flatMap.mp h
    have : (-1 : Int) = 2 * (w : Int) ∨ (-1 : Int) = 2 * (w : Int) + 1 := by simpa using h
    omega
  · induction ws with
    | nil => exact List.nodup_nil
    | cons w r ih =>
      have nd := List.nodup_cons.mp nd
      rw [List.flatMap_cons, List.nodup_append]
      refine ⟨by simp; omega, ih nd.2, fun x hx y hy z => ?_⟩
      obtain ⟨w', hw', h⟩ := List.mem_flatMap.mp hy
      have h1 : x = 2 * (w : Int) ∨ x = 2 * (w : Int) + 1 := by simpa using hx
      have h2 : y = 2 * (w' : Int) ∨ y = 2 * (w' : Int) + 1 := by simpa using h
      exact nd.1 (by rw [show w = w' by omega]; exact hw')
theorem nds_len (ws : List Nat) : (ndsL ws).length = 2 * ws.length + 1 := by
  unfold ndsL
  rw [List.length_cons]
  congr 1
  induction ws with
  | nil => rfl
  | cons w r ih => rw [List.flatMap_cons, List.length_append, ih]; simp only [List.length_cons, List.length_nil]; omega
end GX
set_option Elab.async false
set_option linter.all false
set_option maxRecDepth 100000
set_option maxHeartbeats 4000000
/-! The flow of a gate's cone: the ways. -/
namespace GX
theorem Rc.bare {n : Net} {st : List Nat} {w j y : Nat} (h : Rc n st w j y) : Rc n [] w j y := by
  induction h with
  | here _ => exact .here (fun z => by cases z)
  | step _ hg hj hk hp _ ih => exact .step ih hg hj hk hp fun z => by cases z
theorem plc_at {n : Net} {w p : Nat} (h : p ∈ plc n w) : ∃ k, n.gates[w - n.many]? = some k ∧ (p = k.2.1 ∨ p = k.2.2) := by
  unfold plc at h
  split at h
  · rename_i k e
    exact ⟨k, e, by simpa using h⟩
  · cases h
theorem plc_of {n : Net} {w p : Nat} {k : Nat × Nat × Nat} (e : n.gates[w - n.many]? = some k) (h : p = k.2.1 ∨ p = k.2.2) : p ∈ plc n w := by
  unfold plc
  rw [e]
  simpa using h
/-- a cone with its shared wires -/
structure Cn (n : Net) (ws sh : List Nat) (gate k : Nat) : Prop where
  ok : n.Ok
  rs : Rset n [] gate ws
  g1 : n.many ≤ gate
  g2 : gate < n.many + n.gates.length
  gs : gate ∈ sh
  no : ∀ X : List Nat, X.Pairwise (· < ·) → (∀ x ∈ X, x < gate) → (∀ x ∈ X, x ∈ ws ∧ x ∉ sh) → X.length ≤ k → ¬ Sep n gate X
section
variable {n : Net} {ws sh : List Nat} {gate k : Nat}
theorem Cn.gw (c : Cn n ws sh gate k) : gate ∈ ws := (c.rs.2 gate).mpr (.here fun z => by cases z)
theorem Cn.le (c : Cn n ws sh gate k) {w : Nat} (h : w ∈ ws) : w ≤ gate := ((c.rs.2 w).mp h).le c.ok
theorem Cn.pl (c : Cn n ws sh gate k) : ∀ w ∈ ws, ¬ w < n.many → ∀ p ∈ plc n w, p < w := fun w hw h p hp => by
  obtain ⟨g, e, h2⟩ := plc_at hp
  exact place_lt c.ok (by omega) e h2
theorem Cn.pw (c : Cn n ws sh gate k) {w p : Nat} (hw : w ∈ ws) (h : ¬ w < n.many) (hp : p ∈ plc n w) : p ∈ ws := by
  obtain ⟨g, e, h2⟩ := plc_at hp
  exact (c.rs.2 p).mpr (.step ((c.rs.2 w).mp hw) (by omega) (by omega) e h2 fun z => by cases z)
theorem Cn.nd (c : Cn n ws sh gate k) : ws.Nodup := List.nodup_iff_pairwise_ne.mpr (c.rs.1.imp fun h => by omega)
theorem Cn.mem (c : Cn n ws sh gate k) {a b x : Int} (h : (a, b, x) ∈ lks n ws sh ((k : Int) + 1)) : a ∈ ndsL ws ∧ b ∈ ndsL ws ∧ 1 ≤ x := by
  obtain ⟨w, hw, h⟩ := mem_lks.mp h
  rcases h with ⟨rfl, rfl, rfl⟩ | ⟨_, rfl, rfl, rfl⟩ | ⟨e, p, hp, rfl, rfl, rfl⟩
  · exact ⟨mem_nds.mpr (.inr ⟨w, hw, .inl rfl⟩), mem_nds.mpr (.inr ⟨w, hw, .inr rfl⟩), by split <;> omega⟩
  · exact ⟨mem_nds.mpr (.inl rfl), mem_nds.mpr (.inr ⟨w, hw, .inl rfl⟩), by omega⟩
  · exact ⟨mem_nds.mpr (.inr ⟨p, c.pw hw e hp, .inr rfl⟩), mem_nds.mpr (.inr ⟨w, hw, .inl rfl⟩), by omega⟩
abbrev rm0 (n : Net) (ws sh : List Nat) (k : Nat) : Rm := mkR (lks n ws sh ((k : Int) + 1))
theorem Cn.roomL (c : Cn n ws sh gate k) {a b x : Int} (h : (a, b, x) ∈ lks n ws sh ((k : Int) + 1)) : room (rm0 n ws sh k) a b = x := by
  unfold room
  rw [(get_lks c.pl).mpr (.inl h)]
  rfl
theorem Cn.nds (c : Cn n ws sh gate k) : Nds (ndsL ws) (2 * (gate : Int) + 1) (rm0 n ws sh k) ((k : Int) + 1) := by
  have pos : ∀ u v, 0 ≤ room (rm0 n ws sh k) u v := fun u v => by
    unfold room
    cases e : getA (rm0 n ws sh k u) v with
    | none => exact Int.le_refl _
    | some x =>
      show 0 ≤ x
      rcases (get_lks c.pl).mp e with h | ⟨rfl, _⟩
      · have := (c.mem h).2.2
        omega
      · exact Int.le_refl _
  refine ⟨nds_nodup c.nd, mem_nds.mpr (.inl rfl), mem_nds.mpr (.inr ⟨gate, c.gw, .inr rfl⟩), fun v hv => ?_, by omega, pos, fun u v h => ?_, fun u v h => ?_, fun u v h => ?_, fun S nd sub st gl => ?_⟩
  · rcases mem_nds.mp hv with rfl | ⟨w, hw, h⟩
    · omega
    · have := c.le hw
      omega
  · obtain ⟨x, e⟩ := Option.isSome_iff_exists.mp h
    rcases (get_lks c.pl).mp e with h | ⟨_, _, h⟩
    · exact ⟨(c.mem h).1, (c.mem h).2.1⟩
    · exact ⟨(c.mem h).2.1, (c.mem h).1⟩
  · obtain ⟨x, e⟩ := Option.isSome_iff_exists.mp h
    rcases (get_lks c.pl).mp e with h | ⟨_, x', h⟩
    · rw [(get_lks c.pl).mpr (.inr ⟨rfl, x, h⟩)]; rfl
    · rw [(get_lks c.pl).mpr (.inl h)]; rfl
  · unfold room
    cases e : getA (rm0 n ws sh k u) v with
    | none => rfl
    | some x =>
      rcases (get_lks c.pl).mp e with h' | ⟨rfl, _⟩
      · have := lks_lt c.pl _ h'
        have : u < v := this
        omega
      · rfl
  · refine Classical.byContradiction fun lt => ?_
    have h0 : ∀ u ∈ S, 0 ≤ sm (room (rm0 n ws sh k) u) ((ndsL ws).filter fun w => !decide (w ∈ S)) := fun u _ => sm_nonneg fun w _ => pos u w
    have out : ∀ {w}, w ∈ ndsL ws → w ∉ S → w ∈ (ndsL ws).filter fun w => !decide (w ∈ S) := fun h1 h2 => List.mem_filter.mpr ⟨h1, by rw [decide_eq_false h2]; rfl⟩
    have big : ∀ u ∈ S, ∀ w ∈ ndsL ws, w ∉ S → room (rm0 n ws sh k) u w ≤ k := fun u hu w hw hn => by
      have h1 := sm_one (f := room (rm0 n ws sh k) u) (fun y _ => pos u y) (out hw hn)
      have h2 := sm_one h0 hu
      omega
    have edge : ∀ {u w : Int}, (u, w, (k : Int) + 1) ∈ lks n ws sh ((k : Int) + 1) → u ∈ S → w ∈ S := fun {u w} h hu => Classical.byContradiction fun hn => by
      have := big u hu w (c.mem h).2.1 hn
      rw [c.roomL h] at this
      omega
    obtain ⟨X, hX⟩ : ∃ X : List Nat, X = ws.filter fun w : Nat => decide (2 * (w : Int) ∈ S) && !decide (2 * (w : Int) + 1 ∈ S) := ⟨_, rfl⟩
    have mX : ∀ x, x ∈ X ↔ x ∈ ws ∧ 2 * (x : Int) ∈ S ∧ 2 * (x : Int) + 1 ∉ S := fun x => by
      rw [hX, List.mem_filter]
      simp
    have ns : ∀ x ∈ X, x ∉ sh := fun x hx hs => by
      obtain ⟨h1, h2, h3⟩ := (mX x).mp hx
      exact h3 (edge (mem_lks.mpr ⟨x, h1, .inl ⟨rfl, rfl, by rw [if_pos hs]⟩⟩) h2)
    have len : X.length ≤ k := by
      have nx : X.Nodup := by rw [hX]; exact c.nd.filter _
      have l := sm_len (h := fun u => sm (room (rm0 n ws sh k) u) ((ndsL ws).filter fun w => !decide (w ∈ S))) (S := S) (Y := X.map fun x : Nat => 2 * (x : Int)) (by
        rw [List.nodup_iff_pairwise_ne, List.pairwise_map]
        exact (List.nodup_iff_pairwise_ne.mp nx).imp fun h z => h (by omega)) (fun y hy => by
        obtain ⟨x, hx, rfl⟩ := List.mem_map.mp hy
        exact ((mX x).mp hx).2.1) h0 (fun y hy => by
        obtain ⟨x, hx, rfl⟩ := List.mem_map.mp hy
        obtain ⟨h1, h2, h3⟩ := (mX x).mp hx
        have e := c.roomL (a := 2 * (x : Int)) (b := 2 * (x : Int) + 1) (x := 1) (mem_lks.mpr ⟨x, h1, .inl ⟨rfl, rfl, by rw [if_neg (ns x hx)]⟩⟩)
        rw [← e]
        exact sm_one (fun y _ => pos _ y) (out (mem_nds.mpr (.inr ⟨x, h1, .inr rfl⟩)) h3))
      rw [List.length_map] at l
      omega
    have up : ∀ y, y ∈ ws → y ∉ X → 2 * (y : Int) + 1 ∉ S → 2 * (y : Int) ∉ S := fun y h1 h2 h3 h4 => h2 ((mX y).mpr ⟨h1, h4, h3⟩)
    have key : ∀ y, Rc n X gate n.many y → 2 * (y : Int) + 1 ∉ S := fun y hy => by
      induction hy with
      | here _ => exact gl
      | @step g p kk h1 hg _ hk hp hs ih =>
        have gw : g ∈ ws := (c.rs.2 g).mpr h1.bare
        have g0 := up g gw h1.free ih
        intro z
        exact g0 (edge (mem_lks.mpr ⟨g, gw, .inr (.inr ⟨by omega, p, plc_of hk hp, rfl, rfl, rfl⟩)⟩) z)
    refine c.no X (by rw [hX]; exact c.rs.1.filter _) (fun x hx => ?_) (fun x hx => ⟨((mX x).mp hx).1, ns x hx⟩) len fun y hy => ?_
    · have h1 := c.le ((mX x).mp hx).1
      have h2 : x ≠ gate := fun z => ns x hx (z ▸ c.gs)
      omega
    · refine Classical.byContradiction fun lt => ?_
      have yw : y ∈ ws := (c.rs.2 y).mpr hy.bare
      exact up y yw hy.free (key y hy) (edge (mem_lks.mpr ⟨y, yw, .inr (.inl ⟨by omega, rfl, rfl, rfl⟩)⟩) st)
/-! ### a way as it is drawn -/
def WyK (n : Net) (node : Int) (W : List Nat) : Prop := (node = -1 ∧ W = []) ∨ ∃ w : Nat, (node = 2 * (w : Int) ∨ node = 2 * (w : Int) + 1) ∧ Way n w W
theorem way_one {w : Nat} (h : w < n.many) : Way n w [w] := ⟨Nat.zero_lt_one, fun x hx => by rw [List.mem_singleton.mp hx]; omega, h, rfl, fun i hi => by simp at hi⟩
theorem way_snoc {p w : Nat} {W : List Nat} (h : Way n p W) (hm : n.many ≤ w) (hw : w < n.many + n.gates.length) (hp : p ∈ plc n w) : Way n w (W ++ [w]) := by
  obtain ⟨g, e, h2⟩ := plc_at hp
  exact h.join (Up.cons ⟨hm, g, e, h2⟩ hw (Up.nil n w))
theorem Cn.step (c : Cn n ws sh gate k) {node s : Int} {W : List Nat} (h : WyK n node W) (hk : (getA (rm0 n ws sh k node) s).isSome = true) (lt : node < s) :
    WyK n s (if s % 2 = 0 then W ++ [(s / 2).toNat] else W) ∧ ((s % 2 = 0 ∧ ∃ w : Nat, s = 2 * (w : Int) ∧ ∀ x : Nat, node ≠ 2 * (x : Int)) ∨ (s % 2 = 1 ∧ ∃ w : Nat, node = 2 * (w : Int) ∧ s = 2 * (w : Int) + 1)) := by
  obtain ⟨x, e⟩ := Option.isSome_iff_exists.mp hk
  have hl : (node, s, x) ∈ lks n ws sh ((k : Int) + 1) := by
    rcases (get_lks c.pl).mp e with h' | ⟨_, _, h'⟩
    · exact h'
    · have := lks_lt c.pl _ h'
      have : s < node := this
      omega
  obtain ⟨w, hw, hc⟩ := mem_lks.mp hl
  rcases hc with ⟨rfl, rfl, _⟩ | ⟨hm, rfl, rfl, _⟩ | ⟨hm, p, hp, rfl, rfl, _⟩
  · refine ⟨?_, .inr ⟨by omega, w, rfl, rfl⟩⟩
    rw [if_neg (by omega)]
    rcases h with ⟨h, _⟩ | ⟨w', h, W'⟩
    · omega
    · rw [show w' = w by omega] at W'
      exact .inr ⟨w, .inr rfl, W'⟩
  · refine ⟨?_, .inl ⟨by omega, w, rfl, fun x => by omega⟩⟩
    rw [if_pos (by omega), show (2 * (w : Int) / 2).toNat = w by omega]
    rcases h with ⟨_, rfl⟩ | ⟨w', h, _⟩
    · exact .inr ⟨w, .inl rfl, way_one hm⟩
    · omega
  · refine ⟨?_, .inl ⟨by omega, w, rfl, fun x => by omega⟩⟩
    rw [if_pos (by omega), show (2 * (w : Int) / 2).toNat = w by omega]
    rcases h with ⟨h, _⟩ | ⟨w', h, W'⟩
    · omega
    · rw [show w' = p by omega] at W'
      have := c.le hw
      have := c.g2
      exact .inr ⟨w, .inl rfl, way_snoc W' (by omega) (by omega) hp⟩
def Cnt (R : Rm) (node : Int) (W : List Nat) (cx : Nat → Int) : Prop := ∀ x : Nat, ((W.count x : Nat) : Int) + room R (2 * (x : Int) + 1) (2 * (x : Int)) = cx x + if node = 2 * (x : Int) then 1 else 0
/-- a way under way -/
structure Dw (n : Net) (ws sh : List Nat) (gate k : Nat) (R : Rm) (m : Int) (node : Int) (W : List Nat) (cx : Nat → Int) : Prop where
  drw : Drw (ndsL ws) (2 * (gate : Int) + 1) (rm0 n ws sh k) R m node
  wk : WyK n node W
  cnt : Cnt R node W cx
  len : (W.length : Int) ≤ node + 1
theorem Dw.next (c : Cn n ws sh gate k) {R : Rm} {m node : Int} {W : List Nat} {cx : Nat → Int} (d : Dw n ws sh gate k R m node W cx) (hm : 0 ≤ m) (hg : node ≠ 2 * (gate : Int) + 1) : ∃ s r, stepsD R node = s :: r ∧ s ∈ ndsL ws ∧ node < s ∧ 0 < room R s node ∧ (getA (R node) s).isSome = true ∧ (getA (R s) node).isSome = true ∧ Dw n ws sh gate k (setR R s node (room R s node - 1)) m s (if s % 2 = 0 then W ++ [(s / 2).toNat] else W) cx := by
  obtain ⟨s, r, h1, h2, h3, h4, h5, h6, h7⟩ := d.drw.next c.nds hm hg
  have n1 := (c.nds.ge node d.drw.nn).1
  obtain ⟨w1, alt⟩ := c.step d.wk (by rw [← d.drw.key]; exact h5) h3
  refine ⟨s, r, h1, h2, h3, h4, h5, h6, h7, w1, fun x => ?_, ?_⟩
  · have cn := d.cnt x
    rw [room_set]
    rcases alt with ⟨e, w, rfl, no⟩ | ⟨e, w, rfl, rfl⟩
    · rw [if_neg (no x)] at cn
      rw [if_pos e, if_neg (fun z => by omega), List.count_append, show (2 * (w : Int) / 2).toNat = w by omega, List.count_singleton]
      by_cases ex : w = x
      · subst ex
        rw [if_pos (by simp), if_pos rfl]
        omega
      · rw [if_neg (by simpa using ex), if_neg (by omega)]
        omega
    · have a1 : (if (2 * (w : Int) + 1) % 2 = 0 then W ++ [((2 * (w : Int) + 1) / 2).toNat] else W) = W := if_neg (by omega)
      have a2 : (if 2 * (w : Int) + 1 = 2 * (x : Int) then (1 : Int) else 0) = 0 := if_neg (by omega)
      rw [a1, a2]
      by_cases ex : w = x
      · subst ex
        rw [if_pos rfl] at cn
        rw [if_pos ⟨rfl, rfl⟩]
        omega
      · rw [if_neg (by omega)] at cn
        rw [if_neg (fun z => by omega)]
        omega
  · have := d.len
    split
    · rw [List.length_append, List.length_singleton]
      omega
    · omega
theorem drawF_ok (c : Cn n ws sh gate k) {m : Int} (hm : 0 ≤ m) {cx : Nat → Int} : ∀ (f : Nat) (R : Rm) (node : Int) (W : List Nat), Dw n ws sh gate k R m node W cx → (2 * (gate : Int) + 1 - node).toNat < f → Dw n ws sh gate k (drawF (2 * (gate : Int) + 1) f R node W).1 m (2 * (gate : Int) + 1) (drawF (2 * (gate : Int) + 1) f R node W).2 cx
  | 0, R, node, W, _, h => absurd h (Nat.not_lt_zero _)
  | f + 1, R, node, W, d, h => by
    by_cases e : node = 2 * (gate : Int) + 1
    · have : drawF (2 * (gate : Int) + 1) (f + 1) R node W = (R, W) := by
        conv => lhs; unfold drawF
        rw [if_pos e]
      rw [this]
      rw [← e]
      exact d
    · obtain ⟨s, r, h1, h2, h3, _, _, _, d'⟩ := d.next c hm e
      have gs := (c.nds.ge s h2).2
      have : drawF (2 * (gate : Int) + 1) (f + 1) R node W = drawF (2 * (gate : Int) + 1) f (setR R s node (room R s node - 1)) s (if s % 2 = 0 then W ++ [(s / 2).toNat] else W) := by
        conv => lhs; unfold drawF
        rw [if_neg e, h1]
      rw [this]
      exact drawF_ok c hm f _ _ _ d' (by omega)
theorem Dw.way {R : Rm} {m : Int} {W : List Nat} {cx : Nat → Int} (d : Dw n ws sh gate k R m (2 * (gate : Int) + 1) W cx) : Way n gate W := by
  rcases d.wk with ⟨h, _⟩ | ⟨w, h, W'⟩
  · omega
  · rw [show w = gate by omega] at W'
    exact W'
def cntL (Ws : List (List Nat)) (x : Nat) : Int := ((Ws.map fun W => W.count x).sum : Nat)
theorem cntL_snoc (Ws : List (List Nat)) (W : List Nat) (x : Nat) : cntL (Ws ++ [W]) x = cntL Ws x + W.count x := by
  unfold cntL
  rw [List.map_append, List.sum_append]
  simp
/-- ways drawn -/
structure Dn (n : Net) (ws sh : List Nat) (gate k : Nat) (R : Rm) (Ws : List (List Nat)) (m : Int) (cx : Nat → Int) : Prop where
  drw : 0 ≤ m → Drw (ndsL ws) (2 * (gate : Int) + 1) (rm0 n ws sh k) R m (-1)
  pos : ∀ u v, 0 ≤ room R u v
  ways : ∀ W ∈ Ws, Way n gate W ∧ W.length ≤ 60
  cnt : ∀ x : Nat, cntL Ws x + room R (2 * (x : Int) + 1) (2 * (x : Int)) = cx x
theorem Dn.dw {R : Rm} {Ws : List (List Nat)} {m : Int} {cx : Nat → Int} (d : Dn n ws sh gate k R Ws m cx) (hm : 0 ≤ m) : Dw n ws sh gate k R m (-1) [] fun x => cx x - cntL Ws x := by
  refine ⟨d.drw hm, .inl ⟨rfl, rfl⟩, fun x => ?_, by decide⟩
  have := d.cnt x
  rw [if_neg (by omega), List.count_nil]
  omega
theorem Dn.next (c : Cn n ws sh gate k) {R : Rm} {Ws : List (List Nat)} {W : List Nat} {m : Int} {cx : Nat → Int} (d : Dn n ws sh gate k R Ws (m + 1) cx) {R' : Rm} (d' : Dw n ws sh gate k R' (m + 1) (2 * (gate : Int) + 1) W fun x => cx x - cntL Ws x) : Dn n ws sh gate k R' (Ws ++ [W]) m cx := by
  have m8 := c.ok.m8
  have g16 := c.ok.g16
  have g2 := c.g2
  refine ⟨fun hm => d'.drw.again c.nds, d'.drw.pos, fun V hV => ?_, fun x => ?_⟩
  · rcases List.mem_append.mp hV with hV | hV
    · exact d.ways V hV
    · rw [List.mem_singleton.mp hV]
      have := d'.len
      exact ⟨d'.way, by omega⟩
  · have := d'.cnt x
    rw [if_neg (by omega)] at this
    rw [cntL_snoc]
    omega
theorem Cn.small (c : Cn n ws sh gate k) : (ndsL ws).length ≤ 49 := by
  have m8 := c.ok.m8
  have g16 := c.ok.g16
  have g2 := c.g2
  have := c.nd.length_le_of_subset (l₂ := List.range 24) fun w hw => List.mem_range.mpr (by have := c.le hw; omega)
  rw [List.length_range] at this
  rw [nds_len]
  omega
/-- the ways told -/
def apW (n : Net) (ws sh : List Nat) (gate k : Nat) : List (List Nat) := (drawN (2 * (gate : Int) + 1) 100 (pushN (2 * (gate : Int) + 1) 100 (rm0 n ws sh k) (k + 1)) (k + 1)).2
theorem Cn.flw (c : Cn n ws sh gate k) {j : Nat} (h : j ≤ k + 1) : Flw (ndsL ws) (2 * (gate : Int) + 1) (rm0 n ws sh k) (pushN (2 * (gate : Int) + 1) 100 (rm0 n ws sh k) j) ((j : Nat) : Int) := pushN_ok c.nds (by have := c.small; omega) j (by omega)
theorem Cn.drawn (c : Cn n ws sh gate k) : ∀ {j : Nat}, j ≤ k + 1 → Dn n ws sh gate k (drawN (2 * (gate : Int) + 1) 100 (pushN (2 * (gate : Int) + 1) 100 (rm0 n ws sh k) (k + 1)) j).1 (drawN (2 * (gate : Int) + 1) 100 (pushN (2 * (gate : Int) + 1) 100 (rm0 n ws sh k) (k + 1)) j).2 ((k : Int) - j) (fun x => room (pushN (2 * (gate : Int) + 1) 100 (rm0 n ws sh k) (k + 1)) (2 * (x : Int) + 1) (2 * (x : Int)))
  | 0, _ => by
    have F := c.flw (j := k + 1) (Nat.le_refl _)
    refine ⟨fun _ => ?_, F.pos, fun W hW => (by cases hW), fun x => ?_⟩
    · have := Flw.draw c.nds (t := (k : Int)) F
      rw [show (k : Int) - ((0 : Nat) : Int) = k by omega]
      exact this
    · show (0 : Int) + _ = _
      rw [Int.zero_add]
      rfl
  | j + 1, h => by
    have ih := c.drawn (j := j) (by omega)
    have m8 := c.ok.m8
    have g16 := c.ok.g16
    have g2 := c.g2
    have hm : (0 : Int) ≤ (k : Int) - (j : Int) := by omega
    have d' := drawF_ok c hm 100 _ _ _ (ih.dw hm) (by omega)
    refine Dn.next c (m := (k : Int) - ((j + 1 : Nat) : Int)) ?_ ?_ (Ws := (drawN (2 * (gate : Int) + 1) 100 (pushN (2 * (gate : Int) + 1) 100 (rm0 n ws sh k) (k + 1)) j).2) (R := (drawN (2 * (gate : Int) + 1) 100 (pushN (2 * (gate : Int) + 1) 100 (rm0 n ws sh k) (k + 1)) j).1)
    · rw [show (k : Int) - ((j + 1 : Nat) : Int) + 1 = (k : Int) - (j : Int) by omega]
      exact ih
    · rw [show (k : Int) - ((j + 1 : Nat) : Int) + 1 = (k : Int) - (j : Int) by omega]
      exact d'
theorem drawN_len (goal : Int) (f : Nat) (R : Rm) : ∀ j, (drawN goal f R j).2.length = j
  | 0 => rfl
  | j + 1 => by
    show (_ ++ [_]).length = _
    rw [List.length_append, drawN_len goal f R j]
    rfl
theorem cnt_two {x : Nat} : ∀ {Ws : List (List Nat)} {i j : Nat}, i < j → j < Ws.length → x ∈ Ws.getD i [] → x ∈ Ws.getD j [] → 2 ≤ (Ws.map fun W => W.count x).sum
  | W :: r, i, j, hij, hj, h1, h2 => by
    have one : ∀ {V : List Nat}, x ∈ V → 1 ≤ V.count x := fun h => List.count_pos_iff.mpr h
    have all : ∀ {Ws : List (List Nat)} {i : Nat}, i < Ws.length → x ∈ Ws.getD i [] → 1 ≤ (Ws.map fun W => W.count x).sum := fun {Ws} => by
      induction Ws with
      | nil => intro i h; exact absurd h (Nat.not_lt_zero _)
      | cons V s ih =>
        intro i hi h
        rw [List.map_cons, List.sum_cons]
        cases i with
        | zero => have := one (V := V) h; omega
        | succ i => have := ih (i := i) (by simpa using hi) (by simpa using h); omega
    rw [List.map_cons, List.sum_cons]
    cases j with
    | zero => omega
    | succ j =>
      cases i with
      | zero =>
        have := one (V := W) h1
        have := all (Ws := r) (i := j) (by simpa using hj) (by simpa using h2)
        omega
      | succ i =>
        have := cnt_two (Ws := r) (i := i) (j := j) (by omega) (by simpa using hj) (by simpa using h1) (by simpa using h2)
        omega
theorem Cn.ways (c : Cn n ws sh gate k) : (apW n ws sh gate k).length = k + 1 ∧ (∀ W ∈ apW n ws sh gate k, Way n gate W ∧ W.length ≤ 60) ∧ ∀ i j, i < j → j < (apW n ws sh gate k).length → ∀ x, x ∈ (apW n ws sh gate k).getD i [] → x ∈ (apW n ws sh gate k).getD j [] → x ∈ sh := by
  have d := c.drawn (j := k + 1) (Nat.le_refl _)
  refine ⟨drawN_len _ _ _ _, d.ways, fun i j hij hj x h1 h2 => Classical.byContradiction fun ns => ?_⟩
  have t := cnt_two hij hj h1 h2
  have cn := d.cnt x
  have ps := d.pos (2 * (x : Int) + 1) (2 * (x : Int))
  have F := c.flw (j := k + 1) (Nat.le_refl _)
  have s := F.sum (2 * (x : Int)) (2 * (x : Int) + 1)
  have p := F.pos (2 * (x : Int)) (2 * (x : Int) + 1)
  have u := c.nds.up (2 * (x : Int) + 1) (2 * (x : Int)) (by omega)
  have le : room (rm0 n ws sh k) (2 * (x : Int)) (2 * (x : Int) + 1) ≤ 1 := by
    unfold room
    cases e : getA (rm0 n ws sh k (2 * (x : Int))) (2 * (x : Int) + 1) with
    | none => exact (by decide : (0 : Int) ≤ 1)
    | some y =>
      show y ≤ 1
      rcases (get_lks c.pl).mp e with h | ⟨rfl, _⟩
      · obtain ⟨w, hw, h⟩ := mem_lks.mp h
        rcases h with ⟨h1, _, h3⟩ | ⟨_, h1, _, _⟩ | ⟨_, p, _, h1, _, _⟩
        · rw [if_neg (by rw [show w = x by omega]; exact ns)] at h3
          omega
        · omega
        · omega
      · decide
  have t : (2 : Int) ≤ cntL (apW n ws sh gate k) x := by
    unfold cntL
    omega
  have cn : cntL (apW n ws sh gate k) x + room (drawN (2 * (gate : Int) + 1) 100 (pushN (2 * (gate : Int) + 1) 100 (rm0 n ws sh k) (k + 1)) (k + 1)).1 (2 * (x : Int) + 1) (2 * (x : Int)) = room (pushN (2 * (gate : Int) + 1) 100 (rm0 n ws sh k) (k + 1)) (2 * (x : Int) + 1) (2 * (x : Int)) := cn
  omega
end
end GX
set_option Elab.async false
set_option linter.all false
set_option maxRecDepth 100000
set_option maxHeartbeats 4000000
/-! Rooms in a heap: a dict of dicts. -/
namespace GX
open PySem PySem.Spec PyProof.Rows L2
abbrev iK (v : Int) : L2.Key := Sum.inl v
def kvA (xs : Ad) : List (L2.Key × V) := xs.map fun e => (iK e.1, V.int e.2)
theorem kvA_len (xs : Ad) : (kvA xs).length = xs.length := List.length_map _
theorem kvA_val (xs : Ad) (v : Int) : valV (kvA xs) (iK v) = (getA xs v).map V.int := by
  unfold valV kvA getA
  rw [List.find?_map, Option.map_map, Option.map_map]
  have e : ((fun kv : L2.Key × V => decide (kv.1 = iK v)) ∘ fun e : Int × Int => (iK e.1, V.int e.2)) = fun e : Int × Int => decide (e.1 = v) := by
    funext e
    show decide (iK e.1 = iK v) = decide (e.1 = v)
    exact decide_eq_decide.mpr ⟨fun h => Sum.inl.inj h, fun h => by rw [h]⟩
  rw [e]
  rfl
theorem kvA_put (xs : Ad) (v x : Int) : putK (kvA xs) (iK v) (.int x) = kvA (putA xs v x) := by
  have e : (kvA xs).any (fun kv => decide (kv.1 = iK v)) = xs.any fun e => decide (e.1 = v) := by
    unfold kvA
    rw [List.any_map]
    congr 1
    funext e
    show decide (iK e.1 = iK v) = decide (e.1 = v)
    exact decide_eq_decide.mpr ⟨fun h => Sum.inl.inj h, fun h => by rw [h]⟩
  unfold putK putA
  rw [e]
  split
  · unfold kvA
    rw [List.map_map, List.map_map]
    refine List.map_congr_left fun p _ => ?_
    show (if iK p.1 = iK v then (iK p.1, V.int x) else (iK p.1, V.int p.2)) = _
    by_cases h : p.1 = v
    · rw [if_pos (by rw [h])]
      show _ = (iK (if p.1 = v then (p.1, x) else p).1, V.int (if p.1 = v then (p.1, x) else p).2)
      rw [if_pos h]
    · rw [if_neg (fun z => h (Sum.inl.inj z))]
      show _ = (iK (if p.1 = v then (p.1, x) else p).1, V.int (if p.1 = v then (p.1, x) else p).2)
      rw [if_neg h]
  · unfold kvA
    rw [List.map_append]
    rfl
theorem kvA_key {xs : Ad} {i : Nat} {k : L2.Key} {v : V} (h : (kvA xs)[i]? = some (k, v)) : ∃ e, xs[i]? = some e ∧ k = iK e.1 ∧ (keyA xs)[i]? = some e.1 := by
  unfold kvA at h
  rw [List.getElem?_map] at h
  obtain ⟨e, he, h⟩ := Option.map_eq_some_iff.mp h
  cases h
  exact ⟨e, he, rfl, by unfold keyA; rw [List.getElem?_map, he]; rfl⟩
theorem putA_keys {xs : Ad} {v x : Int} (nd : (keyA xs).Nodup) : (keyA (putA xs v x)).Nodup ∧ ∀ w, w ∈ keyA (putA xs v x) ↔ w ∈ keyA xs ∨ w = v := by
  refine ⟨?_, fun w => ?_⟩
  · unfold putA
    split
    · have : keyA (xs.map fun e => if e.1 = v then (e.1, x) else e) = keyA xs := by
        unfold keyA
        rw [List.map_map]
        refine List.map_congr_left fun e _ => ?_
        show (if e.1 = v then (e.1, x) else e).1 = e.1
        split <;> rfl
      rw [this]
      exact nd
    · rename_i h
      have : keyA (xs ++ [(v, x)]) = keyA xs ++ [v] := by unfold keyA; rw [List.map_append]; rfl
      rw [this, List.nodup_append]
      refine ⟨nd, by simp, fun a ha b hb z => h ?_⟩
      rw [List.mem_singleton.mp hb] at z
      rw [getA_any]
      exact keyA_iff.mp (z ▸ ha)
  · rw [keyA_iff, keyA_iff, get_put]
    by_cases h : w = v
    · rw [if_pos h]
      simp [h]
    · rw [if_neg h]
      simp [h]
/-- rooms -/
structure RmAt (H : Hp) (r : Addr) (N : List Int) (ad : Int → Addr) (R : Rm) : Prop where
  top : H r = some (.dK (N.map fun v => (iK v, V.ref (ad v))))
  nd : N.Nodup
  inn : ∀ v ∈ N, H (ad v) = some (.dK (kvA (R v)))
  ne : ∀ v ∈ N, ad v ≠ r
  inj : ∀ u ∈ N, ∀ v ∈ N, ad u = ad v → u = v
  ks : ∀ v ∈ N, (keyA (R v)).Nodup ∧ ∀ w ∈ keyA (R v), w ∈ N
  sm : N.length ≤ 60
section
variable {H H' : Hp} {r : Addr} {N : List Int} {ad : Int → Addr} {R : Rm}
theorem RmAt.len (h : RmAt H r N ad R) {v : Int} (hv : v ∈ N) : (R v).length ≤ 60 := by
  obtain ⟨k1, k2⟩ := h.ks v hv
  have := k1.length_le_of_subset (l₂ := N) k2
  unfold keyA at this
  rw [List.length_map] at this
  have := h.sm
  omega
theorem RmAt.mono (h : RmAt H r N ad R) (m : ∀ b o, (b = r ∨ ∃ v ∈ N, b = ad v) → H b = some (.dK o) → H' b = some (.dK o)) : RmAt H' r N ad R := ⟨m _ _ (.inl rfl) h.top, h.nd, fun v hv => m _ _ (.inr ⟨v, hv, rfl⟩) (h.inn v hv), h.ne, h.inj, h.ks, h.sm⟩
theorem RmAt.same (h : RmAt H r N ad R) (s : Same H H') : RmAt H' r N ad R := h.mono fun b o _ e => s _ _ e
theorem topN_val {N : List Int} {ad : Int → Addr} {u : Int} (hu : u ∈ N) : valV (N.map fun v => (iK v, V.ref (ad v))) (iK u) = some (.ref (ad u)) := by
  unfold valV
  induction N with
  | nil => cases hu
  | cons v r ih =>
    rw [List.map_cons, List.find?_cons]
    by_cases h : v = u
    · subst h
      rw [decide_eq_true rfl]
      rfl
    · rw [decide_eq_false (show ¬ (iK v = iK u) from fun z => h (Sum.inl.inj z))]
      exact ih ((List.mem_cons.mp hu).resolve_left fun z => h z.symm)
theorem RmAt.get (h : RmAt H r N ad R) {u : Int} (hu : u ∈ N) : DGet H r (.int u) (some (.ref (ad u))) := .inl ⟨_, iK u, .inl h.top, rfl, (topN_val hu).symm⟩
theorem RmAt.get2 (h : RmAt H r N ad R) {u v x : Int} (hu : u ∈ N) (e : getA (R u) v = some x) : DGet H (ad u) (.int v) (some (.int x)) := .inl ⟨_, iK v, .inl (h.inn u hu), rfl, by rw [kvA_val, e]; rfl⟩
theorem room_get {R : Rm} {u v : Int} (k : (getA (R u) v).isSome = true) : getA (R u) v = some (room R u v) := by
  unfold room
  obtain ⟨x, hx⟩ := Option.isSome_iff_exists.mp k
  rw [hx]
  rfl
theorem RmAt.putR (h : RmAt H r N ad R) {u v x : Int} (hu : u ∈ N) (hv : v ∈ N) : RmAt (upd H (ad u) (.dK (kvA (putA (R u) v x)))) r N ad (setR R u v x) := by
  refine ⟨by rw [upd_ne (Ne.symm (h.ne u hu))]; exact h.top, h.nd, fun w hw => ?_, h.ne, h.inj, fun w hw => ?_, h.sm⟩
  · unfold setR
    by_cases e : w = u
    · subst e
      rw [if_pos rfl]
      exact upd_same
    · rw [if_neg e, upd_ne (fun z => e (h.inj w hw u hu z))]
      exact h.inn w hw
  · unfold setR
    by_cases e : w = u
    · subst e
      rw [if_pos rfl]
      obtain ⟨k1, k2⟩ := h.ks w hw
      obtain ⟨p1, p2⟩ := putA_keys (v := v) (x := x) k1
      exact ⟨p1, fun z hz => ((p2 z).mp hz).elim (k2 z) fun e => e ▸ hv⟩
    · rw [if_neg e]
      exact h.ks w hw
theorem RmAt.put (h : RmAt H r N ad R) {u v x : Int} (hu : u ∈ N) : DPut H (ad u) (.int v) (.int x) (upd H (ad u) (.dK (kvA (putA (R u) v x)))) := by
  rw [← kvA_put]
  exact .inl ⟨_, iK v, h.inn u hu, rfl, Nat.lt_of_le_of_lt (by rw [kvA_len]; exact h.len hu) (by decide), rfl⟩
theorem RmAt.kp (h : RmAt H r N ad R) {u : Int} {o : HO} (hu : u ∈ N) : Keep (N.map ad) H (upd H (ad u) o) := Keep.put (List.mem_map.mpr ⟨u, hu, rfl⟩)
/-- a node more -/
theorem RmAt.more (h : RmAt H r N ad R) {u : Int} {p : Addr} (hu : u ∉ N) (np : H p = none) (hN : N.length < 60) : RmAt (upd (upd H p (.dK [])) r (.dK ((N ++ [u]).map fun v => (iK v, V.ref ((fun v => if v = u then p else ad v) v))))) r (N ++ [u]) (fun v => if v = u then p else ad v) (fun v => if v = u then [] else R v) := by
  have pr : p ≠ r := fun z => by rw [z, h.top] at np; cases np
  have pv : ∀ v ∈ N, ad v ≠ p := fun v hv z => by have := h.inn v hv; rw [z, np] at this; cases this
  have mem : ∀ v, v ∈ N ++ [u] ↔ v ∈ N ∨ v = u := fun v => by rw [List.mem_append, List.mem_singleton]
  have nu : ∀ v ∈ N, v ≠ u := fun v hv z => hu (z ▸ hv)
  refine ⟨upd_same, ?_, fun v hv => ?_, fun v hv => ?_, fun v hv w hw e => ?_, fun v hv => ?_, by rw [List.length_append, List.length_singleton]; omega⟩
  · rw [List.nodup_append]
    exact ⟨h.nd, by simp, fun a ha b hb z => nu a ha (z.trans (List.mem_singleton.mp hb))⟩
  · by_cases e : v = u
    · rw [if_pos e, if_pos e, upd_ne pr, upd_same]
      rfl
    · have hv := ((mem v).mp hv).resolve_right e
      rw [if_neg e, if_neg e, upd_ne (h.ne v hv), upd_ne (pv v hv)]
      exact h.inn v hv
  · by_cases e : v = u
    · rw [if_pos e]
      exact pr
    · rw [if_neg e]
      exact h.ne v (((mem v).mp hv).resolve_right e)
  · by_cases e1 : v = u
    · by_cases e2 : w = u
      · rw [e1, e2]
      · rw [if_pos e1, if_neg e2] at e
        exact absurd e.symm (pv w (((mem w).mp hw).resolve_right e2))
    · by_cases e2 : w = u
      · rw [if_neg e1, if_pos e2] at e
        exact absurd e (pv v (((mem v).mp hv).resolve_right e1))
      · rw [if_neg e1, if_neg e2] at e
        exact h.inj v (((mem v).mp hv).resolve_right e1) w (((mem w).mp hw).resolve_right e2) e
  · by_cases e : v = u
    · rw [if_pos e]
      exact ⟨List.nodup_nil, fun w hw => by cases hw⟩
    · rw [if_neg e]
      obtain ⟨k1, k2⟩ := h.ks v (((mem v).mp hv).resolve_right e)
      exact ⟨k1, fun w hw => (mem w).mpr (.inl (k2 w hw))⟩
theorem RmAt.putNew (h : RmAt H r N ad R) {u : Int} {p : Addr} (hu : u ∉ N) (np : H p = none) : DPut (upd H p (.dK [])) r (.int u) (.ref p) (upd (upd H p (.dK [])) r (.dK ((N ++ [u]).map fun v => (iK v, V.ref ((fun v => if v = u then p else ad v) v))))) := by
  have pr : p ≠ r := fun z => by rw [z, h.top] at np; cases np
  refine .inl ⟨_, iK u, (by rw [upd_ne (Ne.symm pr)]; exact h.top), rfl, Nat.lt_of_le_of_lt (by rw [List.length_map]; exact h.sm) (by decide), ?_⟩
  have e : valV (N.map fun v => (iK v, V.ref (ad v))) (iK u) = none := by
    unfold valV
    rw [List.find?_eq_none.mpr fun x hx => ?_]
    · rfl
    · obtain ⟨v, hv, rfl⟩ := List.mem_map.mp hx
      rw [decide_eq_false (show ¬ (iK v = iK u) from fun z => hu (Sum.inl.inj z ▸ hv))]
      decide
  rw [putK_new _ e]
  congr 1
  rw [List.map_append]
  congr 2
  · refine List.map_congr_left fun v hv => ?_
    show (iK v, V.ref (if v = u then p else ad v)) = _
    rw [if_neg (fun z : v = u => hu (by rw [← z]; exact hv))]
  · show [(iK u, V.ref (if u = u then p else ad u))] = [(iK u, V.ref p)]
    rw [if_pos rfl]
end
theorem keep_off {X : List Addr} {H1 Ha Hb : Hp} (s : Same H1 Ha) (k : Keep X Ha Hb) (n : ∀ b ∈ X, H1 b = none) : Same H1 Hb := fun b u e => k b u (s b u e) fun z => by rw [n b z] at e; cases e
theorem none_nil (u : Int) : (fun v : Int => if v = u then ([] : Ad) else (fun _ => []) v) = fun _ => [] := by
  funext v
  split <;> rfl
theorem nds_take {ws : List Nat} {i w : Nat} (h : ws[i]? = some w) : ndsL (ws.take (i + 1)) = ndsL (ws.take i) ++ [2 * (w : Int)] ++ [2 * (w : Int) + 1] := by
  unfold ndsL
  rw [List.take_add_one, h, Option.toList_some, List.flatMap_append]
  simp
theorem lks_take {n : Net} {ws sh : List Nat} {c : Int} {i w : Nat} (h : ws[i]? = some w) : mkR (lks n (ws.take (i + 1)) sh c) = (lkW n sh c w).foldl linkR (mkR (lks n (ws.take i) sh c)) := by
  unfold lks mkR
  rw [List.take_add_one, h, Option.toList_some, List.flatMap_append, List.foldl_append]
  congr 1
  simp
theorem putA_new {xs : Ad} {v x : Int} (h : v ∉ keyA xs) : putA xs v x = xs ++ [(v, x)] := by
  unfold putA
  rw [if_neg]
  rw [getA_any]
  exact fun z => h (keyA_iff.mpr z)
theorem keyA_app (xs : Ad) (v x : Int) : keyA (xs ++ [(v, x)]) = keyA xs ++ [v] := by unfold keyA; rw [List.map_append]; rfl
theorem scan_take {R : Rm} {node : Int} {ks : List Int} {j : Nat} {k : Int} (h : ks[j]? = some k) (A : Ad) : (ks.take (j + 1)).foldl (scanS R node) A = scanS R node ((ks.take j).foldl (scanS R node) A) k := by
  rw [List.take_add_one, h, Option.toList_some, List.foldl_append]
  rfl
theorem Bf.scan_len {N : List Int} {R : Rm} {A : Ad} {i : Nat} {e : Int × Int} (b : Bf N R A i) (hN : ∀ u v, 0 < room R u v → v ∈ N) (he : A[i]? = some e) (ks : List Int) : (ks.foldl (scanS R e.1) A).length ≤ N.length := by
  obtain ⟨i1, i2, _, _, _⟩ := scan_ok (hN e.1) ks A b.zero b.nd b.sub (show A[i]? = some (e.1, e.2) from he) b.pred
  have := i1.length_le_of_subset (l₂ := N) i2
  unfold keyA at this
  rwa [List.length_map] at this
theorem bfs_end {R : Rm} {goal : Int} {f : Nat} {A : Ad} {i : Nat} (h : goal ∈ keyA A) : bfs R goal (f + 1) A i = A := by
  unfold bfs
  rw [if_pos h]
theorem bfs_step {R : Rm} {goal : Int} {f : Nat} {A : Ad} {i : Nat} {e : Int × Int} (h : goal ∉ keyA A) (he : A[i]? = some e) : bfs R goal (f + 1) A i = bfs R goal f (scanR R e.1 A) (i + 1) := by
  conv => lhs; unfold bfs
  rw [if_neg h, he]
end GX
set_option Elab.async false
set_option linter.all false
/-! A statement by what stands behind it. -/
namespace GX
open PySem PySem.Spec PyProof.Rows L2
theorem te_cut {te : TE} {σ : L2.St} {H : Hp} {Q : VK} (Iv : V → Hp → Prop) (h1 : ∀ Q' : VK, (∀ v H', Iv v H' → Q' v H') → te σ H Q') (h2 : ∀ v H', Iv v H' → Q v H') : te σ H Q := h1 Q h2
end GX
set_option Elab.async false
set_option linter.all false
set_option maxRecDepth 100000
set_option maxHeartbeats 4000000
namespace K26
open PySem PySem.Spec PyProof.Rows L2 GX
open C8 (Cal pe_c pe_gc)
section
variable {P : Program} {w : World} {K : PySem.W.Frag} {mg : Str → Option Value} {base : Heap} {Ts : List Addr}
def spInlet : Sp := fun vs H Q _ => ∃ x : Int, vs = [.int x] ∧ Q (.int (2 * x)) H
def spOutlet : Sp := fun vs H Q _ => ∃ x : Int, vs = [.int x] ∧ Q (.int (2 * x + 1)) H
theorem ok_inlet {f c : Addr} (D : Dfn K mg "inlet" s_inlet f c) : Cal P w K mg base 1 "inlet" spInlet [] := by
  refine cal D (fun _ _ _ _ _ _ us hl => match us, hl with | [_], _ => rfl) sc_inlet (fun vs H Q E h => ?_) (fun A outer s H vs Q E hr h => ?_)
  · obtain ⟨x, rfl, _⟩ := h
    rfl
  · obtain ⟨x, rfl, q⟩ := h
    refine ⟨_, (pss_one (ps_ret (pe_op op_mul pe_int (pv 0)))), ?_⟩
    exact ⟨_, rfl, 2, x, rfl, rfl, .inl (by decide), q⟩
theorem ok_outlet {f c : Addr} (D : Dfn K mg "outlet" s_outlet f c) : Cal P w K mg base 1 "outlet" spOutlet [] := by
  refine cal D (fun _ _ _ _ _ _ us hl => match us, hl with | [_], _ => rfl) sc_outlet (fun vs H Q E h => ?_) (fun A outer s H vs Q E hr h => ?_)
  · obtain ⟨x, rfl, _⟩ := h
    rfl
  · obtain ⟨x, rfl, q⟩ := h
    refine ⟨_, (pss_one (ps_ret (pe_op op_add (pe_op op_mul pe_int (pv 0)) pe_int))), ?_⟩
    exact ⟨_, rfl, 2, x, rfl, rfl, .inl (by decide), _, _, rfl, rfl, q⟩
def spLink : Sp := fun vs H Q _ => ∃ (r : Addr) (N : List Int) (ad : Int → Addr) (R : Rm) (u v x : Int), vs = [.ref r, .int u, .int v, .int x] ∧ RmAt H r N ad R ∧ u ∈ N ∧ v ∈ N ∧ ∀ H', RmAt H' r N ad (linkR R (u, v, x)) → Keep (N.map ad) H H' → Q .non H'
theorem ok_link {f c : Addr} (D : Dfn K mg "link" s_link f c) : Cal P w K mg base 1 "link" spLink [] := by
  refine cal D (fun _ _ _ _ _ _ us hl => match us, hl with | [_, _, _, _], _ => rfl) sc_link (fun vs H Q E h => ?_) (fun A outer s H vs Q E hr h => ?_)
  · obtain ⟨r, N, ad, R, u, v, x, rfl, _⟩ := h
    rfl
  · obtain ⟨r, N, ad, R, u, v, x, rfl, A0, hu, hv, q⟩ := h
    refine ⟨_, (pss_cons (ps_dput (Nat.lt_of_le_of_lt (Nat.add_le_add_left (by decide) _) hr.units) (pe_dget (Nat.lt_of_le_of_lt (Nat.add_le_add_left (by decide) _) hr.units) (pv 0) (pv 1) (fun _ _ => rfl)) (pv 2) (pv 3) (by rfl))
      (pss_one (ps_dput (Nat.lt_of_le_of_lt (Nat.add_le_add_left (by decide) _) hr.units) (pe_dget (Nat.lt_of_le_of_lt (Nat.add_le_add_left (by decide) _) hr.units) (pv 0) (pv 2) (fun _ _ => rfl)) (pv 1) pe_int (by rfl)))), ?_⟩
    have A1 := A0.putR (x := x) hu hv
    have A2 := A1.putR (x := 0) hv hu
    have k1 := A0.kp (o := .dK (kvA (putA (R u) v x))) hu
    have k2 := A1.kp (o := .dK (kvA (putA (setR R u v x v) u 0))) hv
    refine ⟨_, rfl, _, rfl, _, rfl, r, _, rfl, A0.get hu, ?_⟩
    refine ⟨_, rfl, _, _, rfl, A0.put hu, ?_⟩
    refine ⟨_, rfl, _, rfl, r, _, rfl, A1.get hv, ?_⟩
    refine ⟨_, rfl, _, _, rfl, A1.put hv, ?_⟩
    exact q _ A2 (k1.trans k2)
end
end K26
set_option Elab.async false
set_option linter.all false
set_option maxRecDepth 100000
set_option maxHeartbeats 4000000
namespace K26
open PySem PySem.Spec PyProof.Rows L2 GX
open C8 (Cal pe_c pe_gc)
section
variable {P : Program} {w : World} {K : PySem.W.Frag} {mg : Str → Option Value} {base : Heap} {Ts : List Addr}
def spRooms (Ts : List Addr) : Sp := fun vs H Q _ => ∃ (a : Addr) (n : Net) (g o : Addr) (ps : List Addr) (gt : Nat) (sl : Addr) (sh : List Nat) (c : Int), vs = [.ref a, nV gt, .ref sl, .int c] ∧ NetAt H a n g o ps ∧ n.Ok ∧ gt < n.many + n.gates.length ∧ H sl = some (.lst (sh.map nV)) ∧ sh.length ≤ 100 ∧ Tabs Ts H ∧
  ∀ (H1 H' : Hp) r ad ws, Aft Ts H H1 → Same H1 H' → Rset n [] gt ws → RmAt H' r (ndsL ws) ad (mkR (lks n ws sh c)) → (∀ v ∈ ndsL ws, H1 (ad v) = none) → H1 r = none → Q (.ref r) H'
theorem ok_rooms {f c : Addr} (D : Dfn K mg "make_rooms" s_make_rooms f c) (T : Txt mg) (c_cone : Cal P w K mg base 3 "cone" (spCone Ts) []) (c_inlet : Cal P w K mg base 1 "inlet" spInlet []) (c_outlet : Cal P w K mg base 1 "outlet" spOutlet []) (c_link : Cal P w K mg base 1 "link" spLink []) (c_places : Cal P w K mg base 1 "places" spPlaces []) : Cal P w K mg base 4 "make_rooms" (spRooms Ts) [] := by
  refine cal D (fun _ _ _ _ _ _ us hl => match us, hl with | [_, _, _, _], _ => rfl) sc_make_rooms (fun vs H Q E h => ?_) (fun A outer s H vs Q E hr h => ?_)
  · obtain ⟨a, n, g, o, ps, gt, sl, sh, c, rfl, _⟩ := h
    rfl
  · obtain ⟨a, n, g, o, ps, gt, sl, sh, c, rfl, N0, ok, hgt, hsl, shl, tb, q⟩ := h
    refine ⟨_, (pss_cons (ps_set (i := 4) sc_make_rooms.nd rfl (by first | exact Or.inl rfl | exact Or.inr rfl) (pe_c c_cone hr (by decide) (by rfl) (pa_cons (pv 0) (pa_cons (pv 1) pa_nil))))
      (pss_cons (ps_set (i := 5) sc_make_rooms.nd rfl (by first | exact Or.inl rfl | exact Or.inr rfl) (pe_disp (pps_cons (pe_gc (by rfl) T.g_START) pe_dnewK pps_nil) rfl rfl (by intro h; cases h) (by decide)))
      (pss_cons (ps_for PassesOwn.never rfl (pi_tup (pv 4)) (pg_name (i := 6) sc_make_rooms.nd rfl (by first | exact Or.inl rfl | exact Or.inr rfl))
        (pss_cons (ps_dput (Nat.lt_of_le_of_lt (Nat.add_le_add_left (by decide) _) hr.units) (pv 5) (pe_c c_inlet hr (by decide) (by rfl) (pa_cons (pv 6) pa_nil)) pe_dnewK (by rfl))
      (pss_one (ps_dput (Nat.lt_of_le_of_lt (Nat.add_le_add_left (by decide) _) hr.units) (pv 5) (pe_c c_outlet hr (by decide) (by rfl) (pa_cons (pv 6) pa_nil)) pe_dnewK (by rfl)))))
      (pss_cons (ps_for PassesOwn.never rfl (pi_tup (pv 4)) (pg_name (i := 6) sc_make_rooms.nd rfl (by first | exact Or.inl rfl | exact Or.inr rfl))
        (pss_cons (ps_expr (pe_c c_link hr (by decide) (by rfl) (pa_cons (pv 5) (pa_cons (pe_c c_inlet hr (by decide) (by rfl) (pa_cons (pv 6) pa_nil)) (pa_cons (pe_c c_outlet hr (by decide) (by rfl) (pa_cons (pv 6) pa_nil)) (pa_cons (pe_ifExp (pt_cmpR op_in_seq (pv 6) (pv 2) (by rfl)) (pv 3) pe_int) pa_nil))))))
      (pss_one (ps_if (pt_cmpR op_lt (pv 6) (pe_ix ix_tup (pv 0) pe_int (fun _ _ => rfl)) (nomark _)) (pss_one (ps_expr (pe_c c_link hr (by decide) (by rfl) (pa_cons (pv 5) (pa_cons (pe_gc (by rfl) T.g_START) (pa_cons (pe_c c_inlet hr (by decide) (by rfl) (pa_cons (pv 6) pa_nil)) (pa_cons (pv 3) pa_nil))))))) (pss_one (ps_for PassesOwn.never rfl (pi_tup (pe_c c_places hr (by decide) (by rfl) (pa_cons (pv 0) (pa_cons (pv 6) pa_nil)))) (pg_name (i := 7) sc_make_rooms.nd rfl (by first | exact Or.inl rfl | exact Or.inr rfl))
        (pss_one (ps_expr (pe_c c_link hr (by decide) (by rfl) (pa_cons (pv 5) (pa_cons (pe_c c_outlet hr (by decide) (by rfl) (pa_cons (pv 7) pa_nil)) (pa_cons (pe_c c_inlet hr (by decide) (by rfl) (pa_cons (pv 6) pa_nil)) (pa_cons (pv 3) pa_nil)))))))))))))
      (pss_one (ps_ret (pv 5))))))), ?_⟩
    clear hr
    refine ⟨_, rfl, _, rfl, a, n, g, o, ps, gt, rfl, N0, ok, hgt, tb, fun p H1 ws a1 hp rs => ?_⟩
    have N1 := N0.aft tb a1
    have hsl1 := a1.lst tb hsl
    have q := q H1
    have m8 := ok.m8
    have g16 := ok.g16
    have wlt : ∀ w ∈ ws, w < n.many + n.gates.length := fun w hw => by have := ((rs.2 w).mp hw).le ok; omega
    have wnd : ws.Nodup := List.nodup_iff_pairwise_ne.mpr (rs.1.imp fun h => by omega)
    have wl : ws.length ≤ 24 := by
      have := wnd.length_le_of_subset (l₂ := List.range 24) fun w hw => List.mem_range.mpr (by have := wlt w hw; omega)
      rwa [List.length_range] at this
    refine fun r nr => fun q0 nq => ?_
    have qr : q0 ≠ r := fun z => by rw [z, upd_same] at nq; cases nq
    have nq1 : H1 q0 = none := by rw [upd_ne qr] at nq; exact nq
    refine ⟨by rw [upd_ne (Ne.symm qr)]; exact upd_same, [(iK (-1), V.ref q0)], rfl, (show 1 ≤ 15 by decide), ?_⟩
    have s2 : Same H1 (upd (upd (upd H1 r (.dK [])) q0 (.dK [])) r (.dK (mergeK [] [(iK (-1), V.ref q0)]))) := fun b u e => by rw [upd_ne (ne_of_none e nr), upd_ne (ne_of_none e nq1), upd_ne (ne_of_none e nr)]; exact e
    have A2 : RmAt (upd (upd (upd H1 r (.dK [])) q0 (.dK [])) r (.dK (mergeK [] [(iK (-1), V.ref q0)]))) r [-1] (fun _ => q0) fun _ => [] := ⟨upd_same, by simp, fun v hv => by rw [upd_ne qr]; exact upd_same, fun v hv => qr, fun u hu v hv _ => by rw [List.mem_singleton.mp hu, List.mem_singleton.mp hv], fun v hv => ⟨List.nodup_nil, fun w hw => by cases hw⟩, by decide⟩
    show gName 5 (V.ref r) _ (upd (upd (upd H1 r (.dK [])) q0 (.dK [])) r (.dK (mergeK [] [(iK (-1), V.ref q0)]))) _
    generalize upd (upd (upd H1 r (.dK [])) q0 (.dK [])) r (.dK (mergeK [] [(iK (-1), V.ref q0)])) = H2 at s2 A2 ⊢
    have hp2 := s2 _ _ hp
    refine ⟨_, rfl, p, rfl, ⟨_, SqT.of hp2⟩, ?_⟩
    refine for_tup (K := K) (a := p) (xs := ws.map nV) (fun i σ H' => ∃ (x6 x7 : Option V) (ad : Int → Addr), σ = [some (.ref a), some (nV gt), some (.ref sl), some (.int c), some (.ref p), some (.ref r), x6, x7] ∧ Same H1 H' ∧ RmAt H' r (ndsL (ws.take i)) ad (fun _ => []) ∧ ∀ v ∈ ndsL (ws.take i), H1 (ad v) = none) ⟨_, _, _, rfl, s2, A2, fun v hv => nq1⟩ (fun j σ H' _ h => by obtain ⟨_, _, _, _, s', _⟩ := h; exact SqT.of (s' _ _ hp)) ?_ ?_
    · clear A2 s2 hp2 nq qr nq1 H2 q0
      rintro i x σ H2 hx ⟨x6, x7, ad, rfl, s2, A2, nad⟩
      obtain ⟨w, hw, rfl⟩ : ∃ w, ws[i]? = some w ∧ x = nV w := by
        rw [List.getElem?_map] at hx
        obtain ⟨w, h1, h2⟩ := Option.map_eq_some_iff.mp hx
        exact ⟨w, h1, h2.symm⟩
      have hil : i < ws.length := (List.getElem?_eq_some_iff.mp hw).1
      have wn : ∀ v ∈ ws.take i, v ≠ w := fun v hv z => by
        subst z
        obtain ⟨j, hj⟩ := List.getElem?_of_mem hv
        rw [List.getElem?_take] at hj
        split at hj
        · rename_i hji
          have := List.pairwise_iff_getElem.mp rs.1 j i (by omega) hil hji
          rw [(List.getElem?_eq_some_iff.mp hj).2, (List.getElem?_eq_some_iff.mp hw).2] at this
          omega
        · cases hj
      have u1 : 2 * (w : Int) ∉ ndsL (ws.take i) := fun z => by
        rcases mem_nds.mp z with z | ⟨v, hv, z⟩
        · omega
        · exact wn v hv (by omega)
      have nl : (ndsL (ws.take i)).length < 59 := by
        rw [nds_len, List.length_take]
        omega
      refine fun p1 np1 => ⟨_, rfl, _, rfl, (w : Int), rfl, r, _, rfl, A2.putNew u1 np1, ?_⟩
      have A3 := A2.more u1 np1 (by omega)
      have n1 : H1 p1 = none := Same.was s2 np1
      have s3 : Same H1 (upd (upd H2 p1 (.dK [])) r (.dK ((ndsL (ws.take i) ++ [2 * (w : Int)]).map fun v => (iK v, V.ref ((fun v => if v = 2 * (w : Int) then p1 else ad v) v))))) := fun b u e => by rw [upd_ne (ne_of_none e nr), upd_ne (ne_of_none e n1)]; exact s2 _ _ e
      rw [none_nil] at A3
      generalize upd (upd H2 p1 (.dK [])) r (.dK ((ndsL (ws.take i) ++ [2 * (w : Int)]).map fun v => (iK v, V.ref ((fun v => if v = 2 * (w : Int) then p1 else ad v) v)))) = H3 at A3 s3 ⊢
      have nad3 : ∀ v ∈ ndsL (ws.take i) ++ [2 * (w : Int)], H1 ((fun v => if v = 2 * (w : Int) then p1 else ad v) v) = none := fun v hv => by
        show H1 (if v = 2 * (w : Int) then p1 else ad v) = none
        split
        · exact n1
        · rename_i ne
          exact nad v ((List.mem_append.mp hv).resolve_right fun z => ne (List.mem_singleton.mp z))
      generalize (fun v => if v = 2 * (w : Int) then p1 else ad v) = ad3 at A3 nad3
      have u2 : 2 * (w : Int) + 1 ∉ ndsL (ws.take i) ++ [2 * (w : Int)] := fun z => by
        rcases List.mem_append.mp z with z | z
        · rcases mem_nds.mp z with z | ⟨v, hv, z⟩
          · omega
          · exact wn v hv (by omega)
        · have := List.mem_singleton.mp z
          omega
      refine fun p2 np2 => ⟨_, rfl, _, rfl, (w : Int), rfl, r, _, rfl, A3.putNew u2 np2, ?_⟩
      have A4 := A3.more u2 np2 (by rw [List.length_append, List.length_singleton]; omega)
      rw [none_nil] at A4
      have n2 : H1 p2 = none := Same.was s3 np2
      refine ⟨_, _, (fun v => if v = 2 * (w : Int) + 1 then p2 else ad3 v), rfl, fun b u e => ?_, (by rw [nds_take hw]; exact A4), fun v hv => ?_⟩
      · rw [upd_ne (ne_of_none e nr), upd_ne (ne_of_none e n2)]
        exact s3 _ _ e
      · rw [nds_take hw] at hv
        show H1 (if v = 2 * (w : Int) + 1 then p2 else ad3 v) = none
        split
        · exact n2
        · rename_i ne
          exact nad3 v ((List.mem_append.mp hv).resolve_right fun z => ne (List.mem_singleton.mp z))
    · clear A2 s2 hp2 nq qr nq1 H2 q0
      rintro σ H2 ⟨x6, x7, ad, rfl, s2, A2, nad⟩
      rw [List.length_map, List.take_length] at A2 nad
      have hp2 := s2 _ _ hp
      refine ⟨_, rfl, p, rfl, ⟨_, SqT.of hp2⟩, ?_⟩
      refine for_tup (K := K) (a := p) (xs := ws.map nV) (fun i σ H' => ∃ (x6 x7 : Option V), σ = [some (.ref a), some (nV gt), some (.ref sl), some (.int c), some (.ref p), some (.ref r), x6, x7] ∧ Same H1 H' ∧ RmAt H' r (ndsL ws) ad (mkR (lks n (ws.take i) sh c))) ⟨_, _, rfl, s2, A2⟩ (fun j σ H' _ h => by obtain ⟨_, _, _, s', _⟩ := h; exact SqT.of (s' _ _ hp)) ?_ ?_
      · clear A2 s2 hp2 H2 x6 x7
        rintro i x σ H2 hx ⟨x6, x7, rfl, s2, A2⟩
        obtain ⟨w, hw, rfl⟩ : ∃ w, ws[i]? = some w ∧ x = nV w := by
          rw [List.getElem?_map] at hx
          obtain ⟨w, h1, h2⟩ := Option.map_eq_some_iff.mp hx
          exact ⟨w, h1, h2.symm⟩
        have mN : ∀ {v : Int} {x : Nat}, x ∈ ws → (v = 2 * (x : Int) ∨ v = 2 * (x : Int) + 1) → v ∈ ndsL ws := fun h1 h2 => mem_nds.mpr (.inr ⟨_, h1, h2⟩)
        have ww := List.mem_of_getElem? hw
        have adn : ∀ b ∈ (ndsL ws).map ad, H1 b = none := fun b hb => by
          obtain ⟨v, hv, rfl⟩ := List.mem_map.mp hb
          exact nad v hv
        refine ⟨_, rfl, _, rfl, (w : Int), rfl, _, rfl, (w : Int), rfl, ?_⟩
        show tIf _ _ _ _ _ _
        refine te_cut (fun v H' => H' = H2 ∧ v = V.int (if w ∈ sh then c else 1)) (fun Q' hQ => ?_) ?_
        · refine ⟨_, rfl, _, rfl, sl, _, rfl, .inl (SqL.of (s2 _ _ hsl1)), rfl, flat_ns _, _, rfl, ?_⟩
          rw [if_neg (by decide), inV_n]
          refine ite2 (fun h => ?_) (fun h => ?_)
          · exact ⟨_, rfl, hQ _ _ ⟨rfl, by rw [if_pos (of_decide_eq_true h)]⟩⟩
          · exact hQ _ _ ⟨rfl, by rw [if_neg (fun z => h (decide_eq_true z))]⟩
        rintro v H2' ⟨rfl, rfl⟩
        refine ⟨r, ndsL ws, ad, _, _, _, _, rfl, A2, mN ww (.inl rfl), mN ww (.inr rfl), fun H3 A3 k3 => ?_⟩
        have s3 := keep_off s2 k3 adn
        have N3 := N1.same s3
        have e2 := lks_take (n := n) (sh := sh) (c := c) hw
        have e3 : lkW n sh c w = (2 * (w : Int), 2 * (w : Int) + 1, if w ∈ sh then c else 1) :: (if w < n.many then [(-1, 2 * (w : Int), c)] else (plc n w).map fun p : Nat => (2 * (p : Int) + 1, 2 * (w : Int), c)) := rfl
        rw [e3, List.foldl_cons] at e2
        clear k3
        refine ⟨_, rfl, _, rfl, a, _, 0, _, rfl, rfl, SqT.of N3.top, at0, _, _, rfl, rfl, _, rfl, ite2 (fun h => ?_) (fun h => ?_)⟩
        · have h : w < n.many := by have := of_decide_eq_true h; omega
          rw [if_pos h] at e2
          refine ⟨_, rfl, _, rfl, (w : Int), rfl, _, rfl, ?_⟩
          refine ⟨r, ndsL ws, ad, _, _, _, _, rfl, A3, mem_nds.mpr (.inl rfl), mN ww (.inl rfl), fun H4 A4 k4 => ?_⟩
          exact ⟨_, _, rfl, keep_off s3 k4 adn, by rw [e2]; exact A4⟩
        · have h : ¬ w < n.many := fun z => h (decide_eq_true (by omega))
          rw [if_neg h] at e2
          have wt := wlt w ww
          obtain ⟨kk, hkk⟩ : ∃ kk, n.gates[w - n.many]? = some kk := ⟨_, List.getElem?_eq_getElem (show w - n.many < n.gates.length by omega)⟩
          have ep : plc n w = [kk.2.1, kk.2.2] := by unfold plc; rw [hkk]
          have pin : ∀ x ∈ [kk.2.1, kk.2.2], x ∈ ws := fun x hx => (rs.2 x).mpr (.step ((rs.2 w).mp ww) (by omega) (by omega) hkk (by simpa using hx) fun z => by cases z)
          rw [ep] at e2
          refine ⟨_, rfl, _, rfl, a, n, g, o, ps, w, kk, rfl, N3, by omega, hkk, fun pp npp => ?_⟩
          have s4 : Same H1 (upd H3 pp (.tup [nV kk.2.1, nV kk.2.2])) := fun b u e => Same.new npp _ _ (s3 _ _ e)
          have A4 := A3.same (Same.new (o := .tup [nV kk.2.1, nV kk.2.2]) npp)
          have hpp : upd H3 pp (.tup [nV kk.2.1, nV kk.2.2]) pp = some (.tup [nV kk.2.1, nV kk.2.2]) := upd_same
          have npn : ∀ v ∈ ndsL ws, ad v ≠ pp := fun v hv z => by have := A3.inn v hv; rw [z, npp] at this; cases this
          generalize upd H3 pp (.tup [nV kk.2.1, nV kk.2.2]) = H4 at s4 A4 hpp ⊢
          refine ⟨pp, rfl, ⟨_, SqT.of hpp⟩, ?_⟩
          refine for_tup (K := K) (a := pp) (xs := [kk.2.1, kk.2.2].map nV) (fun j σ H' => ∃ (x7 : Option V), σ = [some (.ref a), some (nV gt), some (.ref sl), some (.int c), some (.ref p), some (.ref r), some (nV w), x7] ∧ Same H1 H' ∧ H' pp = some (.tup [nV kk.2.1, nV kk.2.2]) ∧ RmAt H' r (ndsL ws) ad ((([kk.2.1, kk.2.2].take j).map fun p : Nat => (2 * (p : Int) + 1, 2 * (w : Int), c)).foldl linkR (linkR (mkR (lks n (ws.take i) sh c)) (2 * (w : Int), 2 * (w : Int) + 1, if w ∈ sh then c else 1)))) ⟨_, rfl, s4, hpp, A4⟩ (fun j σ H' _ h => by obtain ⟨_, _, _, h', _⟩ := h; exact SqT.of h') ?_ ?_
          · rintro j x σ H5 hx ⟨x7, rfl, s5, h5, A5⟩
            obtain ⟨y, hy, rfl⟩ : ∃ y, [kk.2.1, kk.2.2][j]? = some y ∧ x = nV y := by
              rw [List.getElem?_map] at hx
              obtain ⟨y, h1, h2⟩ := Option.map_eq_some_iff.mp hx
              exact ⟨y, h1, h2.symm⟩
            refine ⟨_, rfl, _, rfl, (y : Int), rfl, _, rfl, (w : Int), rfl, _, rfl, ?_⟩
            refine ⟨r, ndsL ws, ad, _, _, _, _, rfl, A5, mN (pin y (List.mem_of_getElem? hy)) (.inr rfl), mN ww (.inl rfl), fun H6 A6 k6 => ?_⟩
            refine ⟨_, rfl, keep_off s5 k6 adn, k6 _ _ h5 (fun z => ?_), ?_⟩
            · obtain ⟨v, hv, e⟩ := List.mem_map.mp z
              exact npn v hv e
            · rw [List.take_add_one, hy, Option.toList_some, List.map_append, List.foldl_append]
              exact A6
          · rintro σ H5 ⟨x7, rfl, s5, h5, A5⟩
            exact ⟨_, _, rfl, s5, by rw [e2]; exact A5⟩
      · rintro σ H3 ⟨x6, x7, rfl, s3, A3⟩
        rw [List.length_map, List.take_length] at A3
        exact ⟨_, rfl, q H3 r ad ws a1 s3 rs A3 nad nr⟩
end
end K26
set_option Elab.async false
set_option linter.all false
set_option maxRecDepth 100000
set_option maxHeartbeats 4000000
/-! Each wire has its least cuts, as a list in order. -/
namespace GX
open PySem PySem.Spec PyProof.Rows L2
end GX
set_option Elab.async false
set_option linter.all false
set_option maxRecDepth 100000
set_option maxHeartbeats 4000000
/-! A cover eased, turn by turn: what it is. -/
namespace GX
open PySem PySem.Spec PyProof.Rows L2
/-- every gate's table, by a function of the gates -/
def fullC (n : Net) (v : Nat → List Nat) : List Tb := (List.range n.gates.length).map fun i => (n.many + i, v (n.many + i))
/-- what is laid, by a function -/
noncomputable def leanV (n : Net) (v : Nat → List Nat) : List Tb := leanOf n (fullC n v)
/-- the cut that a cover has of a gate -/
def lookC (cv : List Tb) (x : Nat) : Option (List Nat) := (cv.find? fun t => t.1 == x).map fun t => t.2
/-- a cover's value with choices below it, and one turn -/
def coverV (ch : Nat → List Nat) (cv : List Tb) : Nat → List Nat := fun x => (lookC cv x).getD (ch x)
def turnV (ch : Nat → List Nat) (cv : List Tb) (t : Tb) : Nat → List Nat := fun x => if x = t.1 then t.2 else coverV ch cv x
/-- the turns that a cover has, in order -/
def turnsOf (cs : Nat → List (List Nat)) (cv : List Tb) : List Tb := cv.flatMap fun t => ((cs t.1).filter fun c => decide (c ≠ t.2)).map fun c => (t.1, c)
def depC (n : Net) (cv : List Tb) : Nat := maxL (n.outs.map (dMap cv))
noncomputable def goodT (n : Net) (ch : Nat → List Nat) (d : Int) (cv : List Tb) (t : Tb) : Bool := decide ((leanV n (turnV ch cv t)).length < cv.length) && decide (((depC n (leanV n (turnV ch cv t)) : Nat) : Int) ≤ d)
noncomputable def fstG (n : Net) (cs : Nat → List (List Nat)) (ch : Nat → List Nat) (d : Int) (cv : List Tb) : Option Tb := (turnsOf cs cv).find? (goodT n ch d cv)
inductive Easd (n : Net) (cs : Nat → List (List Nat)) (ch : Nat → List Nat) (d : Int) : List Tb → List Tb → List Tb → Prop
  | stop {cv : List Tb} : fstG n cs ch d cv = none → Easd n cs ch d cv cv []
  | go {cv r ts : List Tb} {t : Tb} : fstG n cs ch d cv = some t → Easd n cs ch d (leanV n (turnV ch cv t)) r ts → Easd n cs ch d cv r (t :: ts)
theorem Easd.uniq {n : Net} {cs : Nat → List (List Nat)} {ch : Nat → List Nat} {d : Int} {cv r ts r' ts' : List Tb} (h : Easd n cs ch d cv r ts) (h' : Easd n cs ch d cv r' ts') : r = r' ∧ ts = ts' := by
  induction h generalizing r' ts' with
  | stop e =>
    cases h' with
    | stop _ => exact ⟨rfl, rfl⟩
    | go e' _ => rw [e] at e'; cases e'
  | go e _ ih =>
    cases h' with
    | stop e' => rw [e] at e'; cases e'
    | go e' h' =>
      rw [e] at e'
      cases e'
      obtain ⟨h1, h2⟩ := ih h'
      rw [h1, h2]
      exact ⟨rfl, rfl⟩
theorem Easd.last {n : Net} {cs : Nat → List (List Nat)} {ch : Nat → List Nat} {d : Int} {cv r ts : List Tb} (h : Easd n cs ch d cv r ts) : Easd n cs ch d r r [] := by
  induction h with
  | stop e => exact .stop e
  | go _ _ ih => exact ih
end GX
set_option Elab.async false
set_option linter.all false
set_option maxRecDepth 100000
set_option maxHeartbeats 4000000
/-! Cuts put together as tuples. -/
namespace GX
open PySem PySem.Spec PyProof.Rows L2
/-! ### a dict whose keys are tuples of numbers -/
/-! ### masks of rising lists -/
/-! ### least ones, those of few wires first -/
def SubL (c d : List Nat) : Prop := ∀ x ∈ c, x ∈ d
def Minl (F : List (List Nat)) (c : List Nat) : Prop := ∀ c' ∈ F, SubL c' c → c' = c
/-- what is kept so far: all least ones below a size, and the first few of it -/
structure KeptL (F : List (List Nat)) (s : Nat) (rows : List (List Nat)) (R : List (List Nat)) : Prop where
  nd : R.Nodup
  mem : ∀ c, c ∈ R ↔ ((c ∈ F ∧ c.length < s ∨ c ∈ rows) ∧ Minl F c)
theorem KeptL.yes {F : List (List Nat)} {s : Nat} {rows R : List (List Nat)} (h : KeptL F s rows R) {c : List Nat} (hs : c.length = s) (hr : c ∉ rows) (hm : Minl F c) : KeptL F s (rows ++ [c]) (R ++ [c]) := by
  refine ⟨?_, fun d => ?_⟩
  · refine List.nodup_append.mpr ⟨h.nd, List.nodup_cons.mpr ⟨fun z => (by cases z), List.nodup_nil⟩, fun a ha b hb e => ?_⟩
    rw [List.mem_singleton.mp hb] at e
    rw [e] at ha
    rcases ((h.mem c).mp ha).1 with z | z
    · omega
    · exact hr z
  · rw [List.mem_append, h.mem, List.mem_append, List.mem_singleton]
    constructor
    · rintro (⟨h1, h2⟩ | rfl)
      · exact ⟨h1.imp id .inl, h2⟩
      · exact ⟨.inr (.inr rfl), hm⟩
    · rintro ⟨h1 | h1 | rfl, h2⟩
      · exact .inl ⟨.inl h1, h2⟩
      · exact .inl ⟨.inr h1, h2⟩
      · exact .inr rfl
theorem KeptL.no {F : List (List Nat)} {s : Nat} {rows R : List (List Nat)} (h : KeptL F s rows R) {c : List Nat} (hm : ¬ Minl F c) : KeptL F s (rows ++ [c]) R := by
  refine ⟨h.nd, fun d => ?_⟩
  rw [h.mem, List.mem_append, List.mem_singleton]
  constructor
  · rintro ⟨h1, h2⟩
    exact ⟨h1.imp id .inl, h2⟩
  · rintro ⟨h1 | h1 | rfl, h2⟩
    · exact ⟨.inl h1, h2⟩
    · exact ⟨.inr h1, h2⟩
    · exact absurd h2 hm
theorem KeptL.next {F : List (List Nat)} {s : Nat} {R : List (List Nat)} (h : KeptL F s (F.filter fun c => decide (c.length = s)) R) : KeptL F (s + 1) [] R := by
  refine ⟨h.nd, fun c => ?_⟩
  rw [h.mem]
  refine and_congr_left fun _ => ?_
  rw [List.mem_filter, decide_eq_true_iff]
  constructor
  · rintro (⟨h1, h2⟩ | ⟨h1, h2⟩)
    · exact .inl ⟨h1, by omega⟩
    · exact .inl ⟨h1, by omega⟩
  · rintro (⟨h1, h2⟩ | h1)
    · by_cases e : c.length = s
      · exact .inr ⟨h1, e⟩
      · exact .inl ⟨h1, by omega⟩
    · cases h1
/-! ### cuts of wires as masks -/
end GX
set_option Elab.async false
set_option linter.all false
set_option maxRecDepth 100000
set_option maxHeartbeats 4000000
/-! How many turns there are. -/
namespace GX
open PySem PySem.Spec PyProof.Rows L2
theorem while_m {c : TT} {tb : TS} {D : Ends} {σ : L2.St} {H : Hp} (Pv : Nat → L2.St → Hp → Prop) (m0 : Nat) (h0 : Pv m0 σ H)
    (hs : ∀ m σ H, Pv m σ H → c σ H fun b H1 => if b = true then ∃ N : L2.St → Hp → Prop, (∀ σ' H', N σ' H' → ∃ m', m' < m ∧ Pv m' σ' H') ∧ tb { D with nx := N, ct := N, bk := D.nx } σ H1 else D.nx σ H1) : tWhile c tb D σ H := ⟨Pv, ⟨m0, h0⟩, hs⟩
theorem whM {Pv : Nat → L2.St → Hp → Prop} {m : Nat} : ∀ σ' H', (∃ m', m' < m ∧ Pv m' σ' H') → ∃ m', m' < m ∧ Pv m' σ' H' := fun _ _ h => h
end GX
set_option Elab.async false
set_option linter.all false
set_option maxRecDepth 100000
set_option maxHeartbeats 4000000
namespace K26
open PySem PySem.Spec PyProof.Rows L2 GX
open C8 (Cal pe_c pe_gc)
section
variable {P : Program} {w : World} {K : PySem.W.Frag} {mg : Str → Option Value} {base : Heap} {Ts : List Addr}
def spAhead : Sp := fun vs H Q _ => ∃ (r : Addr) (N : List Int) (ad : Int → Addr) (R R0 : Rm) (goal t c : Int), vs = [.ref r, .int goal] ∧ RmAt H r N ad R ∧ Nds N goal R0 c ∧ Flw N goal R0 R t ∧ t < c ∧
  ∀ d H', Same H H' → H' d = some (.dK (kvA (bfs R goal 100 [(-1, -1)] 0))) → H d = none → Q (.ref d) H'
theorem ok_ahead {f c : Addr} (D : Dfn K mg "nodes_ahead" s_nodes_ahead f c) (T : Txt mg) : Cal P w K mg base 1 "nodes_ahead" spAhead [] := by
  refine cal D (fun _ _ _ _ _ _ us hl => match us, hl with | [_, _], _ => rfl) sc_nodes_ahead (fun vs H Q E h => ?_) (fun A outer s H vs Q E hr h => ?_)
  · obtain ⟨r, N, ad, R, R0, goal, t, c, rfl, _⟩ := h
    rfl
  · obtain ⟨r, N, ad, R, R0, goal, t, c, rfl, A0, nn, F, ht, q⟩ := h
    refine ⟨_, (pss_cons (ps_set (i := 2) sc_nodes_ahead.nd rfl (by first | exact Or.inl rfl | exact Or.inr rfl) (pe_disp (pps_cons (pe_gc (by rfl) T.g_START) (pe_gc (by rfl) T.g_START) pps_nil) rfl rfl (by intro h; cases h) (by decide)))
      (pss_cons (ps_set (i := 3) sc_nodes_ahead.nd rfl (by first | exact Or.inl rfl | exact Or.inr rfl) (pe_lst (pa_cons (pe_gc (by rfl) T.g_START) pa_nil)))
      (pss_cons (ps_set (i := 4) sc_nodes_ahead.nd rfl (by first | exact Or.inl rfl | exact Or.inr rfl) pe_int)
      (pss_cons (ps_while PassesOwn.never (pt_cmp (pc_dnotin (Nat.lt_of_le_of_lt (Nat.add_le_add_left (by decide) _) hr.units) (pv 1) (pv 2))) (pss_cons (ps_set (i := 5) sc_nodes_ahead.nd rfl (by first | exact Or.inl rfl | exact Or.inr rfl) (pe_ix ix_list (pv 3) (pv 4) (fun _ _ => rfl)))
      (pss_cons (ps_lock (ps_for PassesOwn.never rfl (pi_keys (pe_dget (Nat.lt_of_le_of_lt (Nat.add_le_add_left (by decide) _) hr.units) (pv 0) (pv 5) (fun _ _ => rfl))) (pg_name (i := 6) sc_nodes_ahead.nd rfl (by first | exact Or.inl rfl | exact Or.inr rfl))
        (pss_one (ps_if (PW.pt (pw_and (pt_cmpR op_gt (pe_dget (Nat.lt_of_le_of_lt (Nat.add_le_add_left (by decide) _) hr.units) (pe_dget (Nat.lt_of_le_of_lt (Nat.add_le_add_left (by decide) _) hr.units) (pv 0) (pv 5) (fun _ _ => rfl)) (pv 6) (fun _ _ => rfl)) pe_int (nomark _)) (pw_and1 (pt_cmp (pc_dnotin (Nat.lt_of_le_of_lt (Nat.add_le_add_left (by decide) _) hr.units) (pv 6) (pv 2)))))) (pss_cons (ps_dput (Nat.lt_of_le_of_lt (Nat.add_le_add_left (by decide) _) hr.units) (pv 2) (pv 6) (pv 5) (by rfl))
      (pss_one (ps_expr (pe_bm PySem.F.plainAttrs_list PySem.F.slot_list_append PySem.F.type_list_append mt_append (pv 3) (pa_cons (pv 6) pa_nil))))) pss_nil))))
      (pss_one (ps_aug (i := 4) sc_nodes_ahead.nd rfl (by first | exact Or.inl rfl | exact Or.inr rfl) pe_int ip_add)))))
      (pss_one (ps_ret (pv 2))))))), ?_⟩
    have Nl := A0.sm
    refine fun d nd => ⟨upd_same, [(iK (-1), V.int (-1))], rfl, (show 1 ≤ 15 by decide), ?_⟩
    have s1 : Same H (upd (upd H d (.dK [])) d (.dK (mergeK [] [(iK (-1), V.int (-1))]))) := fun b u e => by rw [upd_ne (ne_of_none e nd), upd_ne (ne_of_none e nd)]; exact e
    have hd1 : upd (upd H d (.dK [])) d (.dK (mergeK [] [(iK (-1), V.int (-1))])) d = some (.dK (kvA [(-1, -1)])) := upd_same
    show gName 2 (V.ref d) _ (upd (upd H d (.dK [])) d (.dK (mergeK [] [(iK (-1), V.int (-1))]))) _
    generalize upd (upd H d (.dK [])) d (.dK (mergeK [] [(iK (-1), V.int (-1))])) = H1 at s1 hd1 ⊢
    refine ⟨small 1, fun ql nq => ?_⟩
    have s2 : Same H1 (upd H1 ql (.lst [V.int (-1)])) := Same.new nq
    have dq : d ≠ ql := fun z => by rw [← z, hd1] at nq; cases nq
    have hd2 := s2 _ _ hd1
    have hq2 : upd H1 ql (.lst [V.int (-1)]) ql = some (.lst ((keyA [(-1, -1)]).map V.int)) := upd_same
    have nq0 := Same.was s1 nq
    have s2 := s1.trans s2
    show gName 3 (V.ref ql) _ (upd H1 ql (.lst [V.int (-1)])) _
    generalize upd H1 ql (.lst [V.int (-1)]) = H2 at s2 hd2 hq2 ⊢
    clear hd1 s1 nq
    have inN : ∀ u v, 0 < room R u v → v ∈ N := fun u v h => (F.inN nn u v h).2
    refine while_m (fun m σ H' => ∃ (A : Ad) (i : Nat) (x5 x6 : Option V), σ = [some (.ref r), some (.int goal), some (.ref d), some (.ref ql), some (.int ((i : Nat) : Int)), x5, x6] ∧ Same H H' ∧ H' d = some (.dK (kvA A)) ∧ H' ql = some (.lst ((keyA A).map V.int)) ∧ Bf N R A i ∧ N.length + 1 - i ≤ m ∧ bfs R goal m A i = bfs R goal 100 [(-1, -1)] 0) 100 ⟨[(-1, -1)], 0, _, _, rfl, s2, hd2, hq2, bf_zero nn.st, by omega, rfl⟩ ?_
    clear hd2 hq2 s2 H2
    rintro m σ H2 ⟨A, i, x5, x6, rfl, s2, hd2, hq2, b, hm, eb⟩
    have bl := b.len
    have ble := b.le
    obtain ⟨m, rfl⟩ : ∃ m', m = m' + 1 := ⟨m - 1, by omega⟩
    refine ⟨_, rfl, _, rfl, d, _, rfl, .inl ⟨kvA A, iK goal, .inl hd2, rfl, rfl⟩, _, rfl, ?_⟩
    rw [kvA_val, Option.isSome_map]
    by_cases hg : goal ∈ keyA A
    · rw [keyA_iff.mp hg]
      refine iteF ?_
      rw [bfs_end hg] at eb
      exact ⟨_, rfl, q d H2 s2 (by rw [← eb]; exact hd2) nd⟩
    · have hg0 : (getA A goal).isSome = false := by
        cases e : (getA A goal).isSome with
        | false => rfl
        | true => exact absurd (keyA_iff.mpr e) hg
      rw [hg0]
      refine iteT ⟨_, whM, ?_⟩
      have il := F.more nn ht b hg
      obtain ⟨e, he⟩ : ∃ e, A[i]? = some e := ⟨_, List.getElem?_eq_getElem il⟩
      have hk : (keyA A)[i]? = some e.1 := by unfold keyA; rw [List.getElem?_map, he]; rfl
      have eN : e.1 ∈ N := b.sub _ (mem_keyA he)
      rw [bfs_step hg he] at eb
      refine ⟨_, rfl, _, rfl, ql, _, _, _, rfl, rfl, SqL.of hq2, atI_nat (show ((keyA A).map V.int)[i]? = some (V.int e.1) by rw [List.getElem?_map, hk]; rfl), ?_⟩
      have A2 := A0.same s2
      have hin := A2.inn e.1 eN
      have rad : r ≠ ad e.1 := fun z => A0.ne e.1 eN z.symm
      have dad : d ≠ ad e.1 := fun z => by have := A0.inn e.1 eN; rw [← z, nd] at this; cases this
      have qad : ql ≠ ad e.1 := fun z => by have := A0.inn e.1 eN; rw [← z, nq0] at this; cases this
      refine ⟨ad e.1, .dK (kvA (R e.1)), hin, trivial, fun od => ?_⟩
      have lk : upd H2 (ad e.1) (.frz od (.dK (kvA (R e.1)))) (ad e.1) = some (.frz od (.dK (kvA (R e.1)))) := upd_same
      have lo : ∀ b' u, b' ≠ ad e.1 → H2 b' = some u → upd H2 (ad e.1) (.frz od (.dK (kvA (R e.1)))) b' = some u := fun b' u n e' => by rw [upd_ne n]; exact e'
      have ld := lo _ _ dad hd2
      have lq := lo _ _ qad hq2
      have lr := lo _ _ rad A2.top
      generalize upd H2 (ad e.1) (.frz od (.dK (kvA (R e.1)))) = H3 at lk lo ld lq lr ⊢
      refine ⟨_, rfl, _, rfl, r, _, rfl, .inl ⟨_, iK e.1, .inl lr, rfl, (topN_val eN).symm⟩, ad e.1, od, rfl, .inl ⟨_, lk, ?_⟩⟩
      refine for_it (walk_keys (kvs := kvA (R e.1))) (fun j σ H' => ∃ (x6 : Option V), σ = [some (.ref r), some (.int goal), some (.ref d), some (.ref ql), some (.int ((i : Nat) : Int)), some (.int e.1), x6] ∧ Keep [d, ql] H3 H' ∧ H' d = some (.dK (kvA (((keyA (R e.1)).take j).foldl (scanS R e.1) A))) ∧ H' ql = some (.lst ((keyA (((keyA (R e.1)).take j).foldl (scanS R e.1) A)).map V.int))) ⟨_, rfl, Keep.refl, ld, lq⟩ (fun j σ H' _ h => by obtain ⟨_, _, k', _, _⟩ := h; exact k' _ _ lk (by simp [Ne.symm dad, Ne.symm qad])) ?_ ?_
      · rintro j x σ H0 H4 hj ⟨x6, rfl, k4, hd4, hq4⟩ ⟨rfl, kk, v, hkv, rfl⟩
        obtain ⟨e', he', rfl, hke⟩ := kvA_key hkv
        have sl := b.scan_len inN he ((keyA (R e.1)).take j)
        have stp := scan_take (R := R) (node := e.1) hke A
        generalize ((keyA (R e.1)).take j).foldl (scanS R e.1) A = Aj at hd4 hq4 sl stp
        have r4 : H4 r = some (.dK (N.map fun v => (iK v, V.ref (ad v)))) := k4 _ _ lr (fun z => by
          have t := A0.top
          rcases List.mem_cons.mp z with z | z
          · rw [z, nd] at t; cases t
          · rw [List.mem_singleton.mp z, nq0] at t; cases t)
        have lk4 := k4 _ _ lk (by simp [Ne.symm dad, Ne.symm qad])
        have ek : getA (R e.1) e'.1 = some (room R e.1 e'.1) := room_get (keyA_iff.mp (List.mem_of_getElem? hke))
        refine ⟨_, rfl, _, rfl, r, _, rfl, .inl ⟨_, iK e.1, .inl r4, rfl, (topN_val eN).symm⟩, _, rfl, ad e.1, _, rfl, .inl ⟨kvA (R e.1), iK e'.1, .inr ⟨od, lk4⟩, rfl, by rw [kvA_val, ek]; rfl⟩, ?_⟩
        have sc : scanS R e.1 Aj e'.1 = if 0 < room R e.1 e'.1 ∧ e'.1 ∉ keyA Aj then Aj ++ [(e'.1, e.1)] else Aj := rfl
        refine ⟨_, _, rfl, rfl, _, rfl, ite2 (fun h1 => ?_) (fun h1 => ?_)⟩
        · have h1 := of_decide_eq_true h1
          refine ⟨_, rfl, _, rfl, d, _, rfl, .inl ⟨kvA Aj, iK e'.1, .inl hd4, rfl, rfl⟩, _, rfl, ?_⟩
          rw [kvA_val, Option.isSome_map]
          by_cases h2 : e'.1 ∈ keyA Aj
          · rw [keyA_iff.mp h2]
            refine iteF ?_
            rw [if_neg (fun z => z.2 h2)] at sc
            rw [sc] at stp
            exact ⟨_, rfl, k4, by rw [stp]; exact hd4, by rw [stp]; exact hq4⟩
          · have h20 : (getA Aj e'.1).isSome = false := by
              cases e0 : (getA Aj e'.1).isSome with
              | false => rfl
              | true => exact absurd (keyA_iff.mpr e0) h2
            rw [h20]
            refine iteT ?_
            rw [if_pos ⟨h1, h2⟩] at sc
            rw [sc] at stp
            have dput : DPut H4 d (.int e'.1) (.int e.1) (upd H4 d (.dK (kvA (Aj ++ [(e'.1, e.1)])))) := by
              rw [← putA_new h2, ← kvA_put]
              exact .inl ⟨_, iK e'.1, hd4, rfl, Nat.lt_of_le_of_lt (by rw [kvA_len]; exact (by omega : Aj.length ≤ 60)) (by decide), rfl⟩
            refine ⟨_, rfl, _, rfl, _, rfl, d, _, rfl, dput, ?_⟩
            have hq5 : upd H4 d (.dK (kvA (Aj ++ [(e'.1, e.1)]))) ql = some (.lst ((keyA Aj).map V.int)) := by rw [upd_ne (Ne.symm dq)]; exact hq4
            refine ⟨_, rfl, .inl ⟨rfl, _, SqL.of hq5⟩, _, rfl, ql, _, _, rfl, rfl, hq5, (by
              rw [List.length_map]
              unfold keyA
              rw [List.length_map]
              exact small256 (by omega)), ?_⟩
            refine ⟨_, rfl, k4.trans ((Keep.put (by simp)).trans (Keep.put (by simp))), ?_, ?_⟩
            · rw [upd_ne dq, upd_same, stp]
            · rw [upd_same, stp, keyA_app, List.map_append]
              rfl
        · rw [if_neg (fun z => h1 (decide_eq_true z.1))] at sc
          rw [sc] at stp
          exact ⟨_, rfl, k4, by rw [stp]; exact hd4, by rw [stp]; exact hq4⟩
      · rintro σ H4 ⟨x6, rfl, k4, hd4, hq4⟩
        rw [kvA_len, show (R e.1).length = (keyA (R e.1)).length from (List.length_map _).symm, List.take_length] at hd4 hq4
        have lk4 := k4 _ _ lk (by simp [Ne.symm dad, Ne.symm qad])
        refine ⟨lk4, ?_⟩
        refine ⟨_, rfl, _, _, rfl, rfl, m, Nat.lt_succ_self m, scanR R e.1 A, i + 1, _, _, rfl, fun b' u e' => ?_, ?_, ?_, b.next inN he, by omega, eb⟩
        · by_cases z : b' = ad e.1
          · subst z
            rw [s2 _ _ e'] at hin
            rw [upd_same, ← hin]
          · rw [upd_ne z]
            exact k4 _ _ (lo _ _ z (s2 _ _ e')) (fun y => by
              rcases List.mem_cons.mp y with y | y
              · rw [y, nd] at e'; cases e'
              · rw [List.mem_singleton.mp y, nq0] at e'; cases e')
        · rw [upd_ne dad]
          exact hd4
        · rw [upd_ne qad]
          exact hq4
end
end K26
set_option Elab.async false
set_option linter.all false
set_option maxRecDepth 100000
set_option maxHeartbeats 4000000
namespace K26
open PySem PySem.Spec PyProof.Rows L2 GX
open C8 (Cal pe_c pe_gc)
section
variable {P : Program} {w : World} {K : PySem.W.Frag} {mg : Str → Option Value} {base : Heap} {Ts : List Addr}
def spPush1 : Sp := fun vs H Q _ => ∃ (r : Addr) (N : List Int) (ad : Int → Addr) (R R0 : Rm) (goal t c : Int), vs = [.ref r, .int goal] ∧ RmAt H r N ad R ∧ Nds N goal R0 c ∧ Flw N goal R0 R t ∧ t < c ∧
  ∀ H', RmAt H' r N ad (push1 goal 100 R) → Keep (N.map ad) H H' → Q .non H'
theorem ok_push1 {f c : Addr} (D : Dfn K mg "push_one" s_push_one f c) (T : Txt mg) (c_nodes_ahead : Cal P w K mg base 1 "nodes_ahead" spAhead []) : Cal P w K mg base 2 "push_one" spPush1 [] := by
  refine cal D (fun _ _ _ _ _ _ us hl => match us, hl with | [_, _], _ => rfl) sc_push_one (fun vs H Q E h => ?_) (fun A outer s H vs Q E hr h => ?_)
  · obtain ⟨r, N, ad, R, R0, goal, t, c, rfl, _⟩ := h
    rfl
  · obtain ⟨r, N, ad, R, R0, goal, t, c, rfl, A0, nn, F, ht, q⟩ := h
    refine ⟨_, (pss_cons (ps_set (i := 2) sc_push_one.nd rfl (by first | exact Or.inl rfl | exact Or.inr rfl) (pe_c c_nodes_ahead hr (by decide) (by rfl) (pa_cons (pv 0) (pa_cons (pv 1) pa_nil))))
      (pss_cons (ps_set (i := 3) sc_push_one.nd rfl (by first | exact Or.inl rfl | exact Or.inr rfl) (pv 1))
      (pss_one (ps_while PassesOwn.never (pt_cmpR op_ne (pv 3) (pe_gc (by rfl) T.g_START) (nomark _)) (pss_cons (ps_set (i := 4) sc_push_one.nd rfl (by first | exact Or.inl rfl | exact Or.inr rfl) (pe_dget (Nat.lt_of_le_of_lt (Nat.add_le_add_left (by decide) _) hr.units) (pv 2) (pv 3) (fun _ _ => rfl)))
      (pss_cons (ps_daug (Nat.lt_of_le_of_lt (Nat.add_le_add_left (by decide) _) hr.units) (pe_dget (Nat.lt_of_le_of_lt (Nat.add_le_add_left (by decide) _) hr.units) (pv 0) (pv 4) (fun _ _ => rfl)) (pv 3) pe_int in_sub (fun _ _ _ => rfl))
      (pss_cons (ps_daug (Nat.lt_of_le_of_lt (Nat.add_le_add_left (by decide) _) hr.units) (pe_dget (Nat.lt_of_le_of_lt (Nat.add_le_add_left (by decide) _) hr.units) (pv 0) (pv 3) (fun _ _ => rfl)) (pv 4) pe_int in_add (fun _ _ _ => rfl))
      (pss_one (ps_set (i := 3) sc_push_one.nd rfl (by first | exact Or.inl rfl | exact Or.inr rfl) (pv 4)))))))))), ?_⟩
    have Nl := A0.sm
    refine ⟨_, rfl, _, rfl, r, N, ad, R, R0, goal, t, c, rfl, A0, nn, F, ht, fun d H1 s1 hd nd => ?_⟩
    obtain ⟨⟨k, b⟩, hg⟩ := bfs_ok nn F ht 100 [(-1, -1)] 0 (bf_zero nn.st) (by omega)
    have q : ∀ H', RmAt H' r N ad (pushF (bfs R goal 100 [(-1, -1)] 0) 100 R goal) → Keep (N.map ad) H H' → Q .non H' := q
    generalize bfs R goal 100 [(-1, -1)] 0 = B at hd b hg q
    obtain ⟨e, he, ee⟩ := List.mem_map.mp hg
    obtain ⟨i0, hi0⟩ := List.getElem?_of_mem he
    have bl := b.len
    have il0 := (List.getElem?_eq_some_iff.mp hi0).1
    have dad : d ∉ N.map ad := fun z => by
      obtain ⟨v, hv, z⟩ := List.mem_map.mp z
      have := A0.inn v hv
      rw [z, nd] at this
      cases this
    have P0 : Psh N goal R0 R t B i0 goal := Psh.init nn F b (show B[i0]? = some (goal, e.2) by rw [hi0, ← ee])
    refine ⟨_, rfl, ?_⟩
    refine while_m (fun m σ H' => ∃ (R' : Rm) (i : Nat) (node : Int) (x4 : Option V), σ = [some (.ref r), some (.int goal), some (.ref d), some (.int node), x4] ∧ Keep (N.map ad) H1 H' ∧ RmAt H' r N ad R' ∧ Psh N goal R0 R' t B i node ∧ i < m ∧ pushF B m R' node = pushF B 100 R goal) 100 ⟨R, i0, goal, _, rfl, Keep.refl, A0.same s1, P0, by omega, rfl⟩ ?_
    rintro m σ H2 ⟨R', i, node, x4, rfl, k2, A2, P2, hm, eb⟩
    obtain ⟨m, rfl⟩ : ∃ m', m = m' + 1 := ⟨m - 1, by omega⟩
    refine ⟨_, rfl, rfl, _, rfl, ?_⟩
    by_cases hn : node = -1
    · subst hn
      rw [decide_eq_true (show V.int (-1) = V.int (-1) from rfl)]
      refine iteF ?_
      have : pushF B (m + 1) R' (-1) = R' := by unfold pushF; rw [if_pos rfl]
      rw [this] at eb
      exact q H2 (by rw [← eb]; exact A2) fun b' u e' n => k2 _ _ (s1 _ _ e') n
    · rw [decide_eq_false (show ¬ (V.int node = V.int (-1)) from fun z => hn (V.int.inj z))]
      refine iteT ⟨_, whM, ?_⟩
      obtain ⟨l, low, hl, elow, lowN, nodeN, lne, kk1, kk2, P3⟩ := P2.next nn b hn
      have es : pushF B (m + 1) R' node = pushF B m (pushS R' low node) low := by
        conv => lhs; unfold pushF
        rw [if_neg hn, elow]
      rw [es] at eb
      obtain ⟨p, hp⟩ := P2.here
      have eg : getA B node = some low := by
        have := (keyA_iff.mp (mem_keyA hp) : (getA B (node, p).1).isSome = true)
        obtain ⟨y, hy⟩ := Option.isSome_iff_exists.mp this
        have hy : getA B node = some y := hy
        unfold lookA at elow
        rw [hy] at elow
        rw [hy, ← elow]
        rfl
      have A3 := A2.putR (x := room R' low node - 1) lowN nodeN
      have g3 : getA (setR R' low node (room R' low node - 1) node) low = some (room (setR R' low node (room R' low node - 1)) node low) := room_get (by rw [key_set kk1]; exact kk2)
      have A4 := A3.putR (x := room (setR R' low node (room R' low node - 1)) node low + 1) nodeN lowN
      refine ⟨_, rfl, _, rfl, d, _, rfl, .inl ⟨kvA B, iK node, .inl (k2 _ _ hd dad), rfl, by rw [kvA_val, eg]; rfl⟩, ?_⟩
      refine ⟨_, rfl, _, rfl, r, _, rfl, A2.get lowN, _, rfl, ad low, _, rfl, A2.get2 lowN (room_get kk1), _, _, rfl, rfl, _, A2.put lowN, ?_⟩
      refine ⟨_, rfl, _, rfl, r, _, rfl, A3.get nodeN, _, rfl, ad node, _, rfl, A3.get2 nodeN g3, _, _, rfl, rfl, _, A3.put nodeN, ?_⟩
      exact ⟨_, rfl, m, Nat.lt_succ_self m, pushS R' low node, l, low, _, rfl, (k2.trans (A2.kp lowN)).trans (A3.kp nodeN), A4, P3, by omega, eb⟩
end
end K26
set_option Elab.async false
set_option linter.all false
set_option maxRecDepth 100000
set_option maxHeartbeats 4000000
namespace K26
open PySem PySem.Spec PyProof.Rows L2 GX
open C8 (Cal pe_c pe_gc)
section
variable {P : Program} {w : World} {K : PySem.W.Frag} {mg : Str → Option Value} {base : Heap} {Ts : List Addr}
def spDrawW : Sp := fun vs H Q _ => ∃ (r : Addr) (n : Net) (ws sh : List Nat) (gate k : Nat) (ad : Int → Addr) (R : Rm) (m : Int) (cx : Nat → Int), vs = [.ref r, .int (2 * (gate : Int) + 1)] ∧ Cn n ws sh gate k ∧ RmAt H r (ndsL ws) ad R ∧ 0 ≤ m ∧ Dw n ws sh gate k R m (-1) [] cx ∧
  ∀ p H', RmAt H' r (ndsL ws) ad (drawF (2 * (gate : Int) + 1) 100 R (-1) []).1 → Keep ((ndsL ws).map ad) H H' → H' p = some (.tup ((drawF (2 * (gate : Int) + 1) 100 R (-1) []).2.map nV)) → Q (.ref p) H'
theorem ok_draww {f c : Addr} (D : Dfn K mg "draw_way" s_draw_way f c) (T : Txt mg) (c_inlet : Cal P w K mg base 1 "inlet" spInlet []) : Cal P w K mg base 2 "draw_way" spDrawW [] := by
  refine cal D (fun _ _ _ _ _ _ us hl => match us, hl with | [_, _], _ => rfl) sc_draw_way (fun vs H Q E h => ?_) (fun A outer s H vs Q E hr h => ?_)
  · obtain ⟨r, n, ws, sh, gate, k, ad, R, m, cx, rfl, _⟩ := h
    rfl
  · obtain ⟨r, n, ws, sh, gate, k, ad, R, m0, cx, rfl, c, A0, hm0, d0, q⟩ := h
    refine ⟨_, (pss_cons (ps_set (i := 2) sc_draw_way.nd rfl (by first | exact Or.inl rfl | exact Or.inr rfl) (pe_lst pa_nil))
      (pss_cons (ps_set (i := 3) sc_draw_way.nd rfl (by first | exact Or.inl rfl | exact Or.inr rfl) (pe_gc (by rfl) T.g_START))
      (pss_cons (ps_while PassesOwn.never (pt_cmpR op_ne (pv 3) (pv 1) (nomark _)) (pss_cons (ps_lock (ps_setLc (i := 4) (own := [("step", 5)]) (g := gName 5)  rfl sc_draw_way.nd rfl rfl (sw_true rfl rfl rfl (by decide +kernel)) (pi_keys (pe_dget (Nat.lt_of_le_of_lt (Nat.add_le_add_left (by decide) _) hr.units) (pv 0) (pv 3) (fun _ _ => rfl))) (blkOk_by (own := [("step", 5)]) (N := ["rooms", "goal", "way", "node", "steps", "step"]) (sc := defScope s_draw_way) (by decide +kernel)) (fun _ _ _ _ _ => (pg_name (i := 5) sc_draw_way.nd rfl (by first | exact Or.inl rfl | exact Or.inr rfl))) (fun _ _ _ _ _ => (pts_one (PW.pt (pw_and (pt_cmpR op_gt (pv 5) (pv 3) (nomark _)) (pw_and1 (pt_cmpR op_gt (pe_dget (Nat.lt_of_le_of_lt (Nat.add_le_add_left (by decide) _) hr.units) (pe_dget (Nat.lt_of_le_of_lt (Nat.add_le_add_left (by decide) _) hr.units) (pv 0) (pv 5) (fun _ _ => rfl)) (pv 3) (fun _ _ => rfl)) pe_int (nomark _))))))) (fun _ _ _ _ _ => (pv 5))))
      (pss_cons (ps_set (i := 5) sc_draw_way.nd rfl (by first | exact Or.inl rfl | exact Or.inr rfl) (pe_ix ix_list (pv 4) pe_int (fun _ _ => rfl)))
      (pss_cons (ps_daug (Nat.lt_of_le_of_lt (Nat.add_le_add_left (by decide) _) hr.units) (pe_dget (Nat.lt_of_le_of_lt (Nat.add_le_add_left (by decide) _) hr.units) (pv 0) (pv 5) (fun _ _ => rfl)) (pv 3) pe_int in_sub (fun _ _ _ => rfl))
      (pss_cons (ps_if (pt_cmpR op_eq (pv 5) (pe_c c_inlet hr (by decide) (by rfl) (pa_cons (pe_op op_fdiv (pv 5) pe_int) pa_nil)) (nomark _)) (pss_one (ps_expr (pe_bm PySem.F.plainAttrs_list PySem.F.slot_list_append PySem.F.type_list_append mt_append (pv 2) (pa_cons (pe_op op_fdiv (pv 5) pe_int) pa_nil)))) pss_nil)
      (pss_one (ps_set (i := 3) sc_draw_way.nd rfl (by first | exact Or.inl rfl | exact Or.inr rfl) (pv 5))))))))
      (pss_one (ps_ret (pe_callTy call_tuple_of (by rfl) T.b_tuple (by decide +kernel) (pa_cons (pv 2) pa_nil))))))), ?_⟩
    refine ⟨small 0, fun wl nw => ?_⟩
    have s1 := Same.new (o := .lst []) nw
    have hw1 : upd H wl (.lst []) wl = some (.lst ([].map nV)) := upd_same
    have A1 := A0.same s1
    have wad : wl ∉ (ndsL ws).map ad := fun z => by
      obtain ⟨v, hv, z⟩ := List.mem_map.mp z
      have := A0.inn v hv
      rw [z, nw] at this
      cases this
    show gName 2 (V.ref wl) _ (upd H wl (.lst [])) _
    generalize upd H wl (.lst []) = H1 at s1 hw1 A1 ⊢
    have m8 := c.ok.m8
    have g16 := c.ok.g16
    have g2 := c.g2
    refine while_m (fun m σ H' => ∃ (R' : Rm) (node : Int) (W : List Nat) (x4 x5 : Option V), σ = [some (.ref r), some (.int (2 * (gate : Int) + 1)), some (.ref wl), some (.int node), x4, x5] ∧ Keep ((ndsL ws).map ad) H H' ∧ RmAt H' r (ndsL ws) ad R' ∧ H' wl = some (.lst (W.map nV)) ∧ Dw n ws sh gate k R' m0 node W cx ∧ (2 * (gate : Int) + 1 - node).toNat < m ∧ drawF (2 * (gate : Int) + 1) m R' node W = drawF (2 * (gate : Int) + 1) 100 R (-1) []) 100 ⟨R, -1, [], _, _, rfl, fun b u e _ => s1 _ _ e, A1, hw1, d0, by omega, rfl⟩ ?_
    clear hw1 A1 s1 H1
    rintro m σ H2 ⟨R', node, W, x4, x5, rfl, k2, A2, hw2, d2, hm, eb⟩
    obtain ⟨m, rfl⟩ : ∃ m', m = m' + 1 := ⟨m - 1, by omega⟩
    refine ⟨_, rfl, _, rfl, rfl, _, rfl, ?_⟩
    by_cases hn : node = 2 * (gate : Int) + 1
    · subst hn
      rw [decide_eq_true (show V.int (2 * (gate : Int) + 1) = V.int (2 * (gate : Int) + 1) from rfl)]
      refine iteF ?_
      have : drawF (2 * (gate : Int) + 1) (m + 1) R' (2 * (gate : Int) + 1) W = (R', W) := by
        conv => lhs; unfold drawF
        rw [if_pos rfl]
      rw [this] at eb
      refine ⟨_, rfl, wl, _, rfl, .inl ⟨SqL.of hw2, fun p np => ?_⟩⟩
      exact q p _ (by rw [← eb]; exact A2.same (Same.new np)) (fun b' u e' n' => Same.new np _ _ (k2 _ _ e' n')) (by rw [← eb]; exact upd_same)
    · rw [decide_eq_false (show ¬ (V.int node = V.int (2 * (gate : Int) + 1)) from fun z => hn (V.int.inj z))]
      refine iteT ⟨_, whM, ?_⟩
      obtain ⟨s, rr, hs, sN, lt, rpos, key1, key2, d3⟩ := d2.next c hm0 hn
      have es : drawF (2 * (gate : Int) + 1) (m + 1) R' node W = drawF (2 * (gate : Int) + 1) m (setR R' s node (room R' s node - 1)) s (if s % 2 = 0 then W ++ [(s / 2).toNat] else W) := by
        conv => lhs; unfold drawF
        rw [if_neg hn, hs]
      rw [es] at eb
      have nN := d2.drw.nn
      have hin := A2.inn node nN
      have rad : r ≠ ad node := fun z => A2.ne node nN z.symm
      refine ⟨ad node, .dK (kvA (R' node)), hin, trivial, fun od => ?_⟩
      have lk : upd H2 (ad node) (.frz od (.dK (kvA (R' node)))) (ad node) = some (.frz od (.dK (kvA (R' node)))) := upd_same
      have lo : ∀ b' u, b' ≠ ad node → H2 b' = some u → upd H2 (ad node) (.frz od (.dK (kvA (R' node)))) b' = some u := fun b' u n e' => by rw [upd_ne n]; exact e'
      have lr := lo _ _ rad A2.top
      generalize upd H2 (ad node) (.frz od (.dK (kvA (R' node)))) = H3 at lk lo lr ⊢
      refine ⟨_, rfl, _, rfl, r, _, rfl, .inl ⟨_, iK node, .inl lr, rfl, (topN_val nN).symm⟩, ad node, od, rfl, .inl ⟨_, lk, fun S nS => ?_⟩⟩
      refine lc_it (walk_keys (kvs := kvA (R' node))) (fun j H' => Own H3 H' S ((((keyA (R' node)).take j).filter fun s => decide (node < s) && decide (0 < room R' s node)).map V.int)) ⟨Same.new nS, upd_same, nS⟩ (fun i H' _ o' => o'.sm _ _ lk) ?_ ?_
      · rintro j x H0 H4 hj o4 ⟨rfl, kk, v, hkv, rfl⟩
        obtain ⟨e', he', rfl, hke⟩ := kvA_key hkv
        have ks := List.mem_of_getElem? hke
        have eN : e'.1 ∈ ndsL ws := (A2.ks node nN).2 _ ks
        have le : ((((keyA (R' node)).take j).filter fun s => decide (node < s) && decide (0 < room R' s node)).map V.int).length ≤ 60 := by
          rw [List.length_map]
          refine Nat.le_trans (List.length_filter_le _ _) ?_
          rw [List.length_take]
          refine Nat.le_trans (Nat.min_le_right _ _) ?_
          unfold keyA
          rw [List.length_map]
          exact A2.len nN
        refine ⟨rfl, ?_⟩
        have nx : (((keyA (R' node)).take (j + 1)).filter fun s => decide (node < s) && decide (0 < room R' s node)) = ((keyA (R' node)).take j).filter (fun s => decide (node < s) && decide (0 < room R' s node)) ++ (if (decide (node < e'.1) && decide (0 < room R' e'.1 node)) = true then [e'.1] else []) := by
          rw [List.take_add_one, hke, Option.toList_some, List.filter_append, List.filter_cons, List.filter_nil]
        refine ⟨_, rfl, _, rfl, _, _, rfl, rfl, _, rfl, ite2 (fun h1 => ?_) (fun h1 => ?_)⟩
        · have h1 := of_decide_eq_true h1
          have kk3 : (getA (R' e'.1) node).isSome = true := by
            have := keyA_iff.mp ks
            rw [d2.drw.key] at this ⊢
            exact c.nds.sym _ _ this
          have adn : ad e'.1 ≠ ad node := fun z => by have := A2.inj _ eN _ nN z; omega
          refine ⟨_, rfl, _, rfl, r, _, rfl, .inl ⟨_, iK e'.1, .inl (o4.sm _ _ lr), rfl, (topN_val eN).symm⟩, _, rfl, ad e'.1, _, rfl, .inl ⟨kvA (R' e'.1), iK node, .inl (o4.sm _ _ (lo _ _ adn (A2.inn _ eN))), rfl, by rw [kvA_val, room_get kk3]; rfl⟩, _, _, rfl, rfl, _, rfl, ite2 (fun h2 => ?_) (fun h2 => ?_)⟩
          · refine ⟨_, rfl, _, o4.at_, small256 (by omega), ?_⟩
            rw [nx, if_pos (by rw [decide_eq_true h1, h2]; rfl), List.map_append]
            exact o4.app
          · rw [nx, if_neg (by rw [decide_eq_true h1, Bool.true_and]; exact h2), List.append_nil]
            exact o4
        · rw [nx, if_neg (fun z => h1 ((Bool.and_eq_true _ _).mp z).1), List.append_nil]
          exact o4
      · rintro H4 o4
        rw [kvA_len, show (R' node).length = (keyA (R' node)).length from (List.length_map _).symm, List.take_length] at o4
        have eS : ((keyA (R' node)).filter fun s => decide (node < s) && decide (0 < room R' s node)) = s :: rr := hs
        rw [eS] at o4
        refine ⟨o4.sm _ _ lk, ?_⟩
        have s25 : Same H2 (upd H4 (ad node) (.dK (kvA (R' node)))) := fun b' u e' => by
          by_cases z : b' = ad node
          · subst z
            rw [upd_same, ← hin, e']
          · rw [upd_ne z]
            exact o4.sm _ _ (lo _ _ z e')
        have Sad : S ≠ ad node := fun z => by rw [z, lk] at nS; cases nS
        have nS2 : H2 S = none := by
          cases e0 : H2 S with
          | none => rfl
          | some u => rw [lo _ _ Sad e0] at nS; cases nS
        have hS5 : upd H4 (ad node) (.dK (kvA (R' node))) S = some (.lst ((s :: rr).map V.int)) := by rw [upd_ne Sad]; exact o4.at_
        have hw5 := s25 _ _ hw2
        have A5 := A2.same s25
        generalize upd H4 (ad node) (.dK (kvA (R' node))) = H5 at s25 hS5 hw5 A5 ⊢
        refine ⟨_, rfl, S, _, 0, _, rfl, rfl, SqL.of hS5, at0, ?_⟩
        refine ⟨_, rfl, _, rfl, r, _, rfl, A5.get sN, _, rfl, ad s, _, rfl, A5.get2 sN (room_get key2), _, _, rfl, rfl, _, A5.put sN, ?_⟩
        have A6 := A5.putR (x := room R' s node - 1) sN nN
        have k6 := A5.kp (o := .dK (kvA (putA (R' s) node (room R' s node - 1)))) sN
        have k26 : Keep ((ndsL ws).map ad) H (upd H5 (ad s) (.dK (kvA (putA (R' s) node (room R' s node - 1))))) := fun b' u e' n' => k6 _ _ (s25 _ _ (k2 _ _ e' n')) n'
        have hw6 := k6 _ _ hw5 wad
        generalize upd H5 (ad s) (.dK (kvA (putA (R' s) node (room R' s node - 1)))) = H6 at A6 k26 hw6 ⊢
        have sge := c.nds.ge s sN
        have nge := c.nds.ge node nN
        refine ⟨_, rfl, _, rfl, _, _, rfl, rfl, (show CDiv s 2 by unfold CDiv; omega), s / 2, rfl, ?_⟩
        refine ⟨rfl, _, rfl, ?_⟩
        by_cases ev : s % 2 = 0
        · rw [if_pos ev] at eb d3
          rw [decide_eq_true (show V.int s = V.int (2 * (s / 2)) by congr 1; omega)]
          refine iteT ?_
          have wlen := d2.len
          have e2 : V.int (s / 2) = nV (s / 2).toNat := congrArg V.int (by omega)
          refine ⟨_, rfl, .inl ⟨rfl, _, SqL.of hw6⟩, _, rfl, _, _, rfl, rfl, (show CDiv s 2 by unfold CDiv; omega), wl, _, _, rfl, rfl, hw6, (by rw [List.length_map]; exact small256 (by omega)), ?_⟩
          refine ⟨_, rfl, m, Nat.lt_succ_self m, _, s, W ++ [(s / 2).toNat], _, _, rfl, fun b' u e' n' => ?_, A6.mono fun b' o' hb e' => ?_, ?_, d3, by omega, eb⟩
          · rw [upd_ne (fun z => by rw [z, nw] at e'; cases e')]
            exact k26 _ _ e' n'
          · rw [upd_ne (fun z => by
              rcases hb with hb | ⟨v, hv, hb⟩
              · have t := A0.top; rw [← hb, z, nw] at t; cases t
              · have t := A0.inn v hv; rw [← hb, z, nw] at t; cases t)]
            exact e'
          · rw [upd_same, List.map_append]
            show some (HO.lst (List.map nV W ++ [V.int (s / 2)])) = _
            rw [e2]
            rfl
        · rw [if_neg ev] at eb d3
          rw [decide_eq_false (show ¬ V.int s = V.int (2 * (s / 2)) from fun z => by have := V.int.inj z; omega)]
          refine iteF ?_
          exact ⟨_, rfl, m, Nat.lt_succ_self m, _, s, W, _, _, rfl, k26, A6, hw6, d3, by omega, eb⟩
end
end K26
set_option Elab.async false
set_option linter.all false
set_option maxRecDepth 100000
set_option maxHeartbeats 4000000
namespace K26
open PySem PySem.Spec PyProof.Rows L2 GX
open C8 (Cal pe_c pe_gc)
section
variable {P : Program} {w : World} {K : PySem.W.Frag} {mg : Str → Option Value} {base : Heap} {Ts : List Addr}
def spApartW (Ts : List Addr) : Sp := fun vs H Q _ => ∃ (a : Addr) (n : Net) (g o : Addr) (ps : List Addr) (gt : Nat) (sl : Addr) (sh ws : List Nat) (k : Nat), vs = [.ref a, nV gt, .ref sl, .int ((k : Int) + 1)] ∧ NetAt H a n g o ps ∧ H sl = some (.lst (sh.map nV)) ∧ sh.length ≤ 100 ∧ Cn n ws sh gt k ∧ k ≤ 100 ∧ Tabs Ts H ∧
  ∀ p us H', Aft Ts H H' → H' p = some (.tup (us.map V.ref)) → TupsAt H' us (apW n ws sh gt k) → Q (.ref p) H'
theorem ok_apart_ways {f c : Addr} (D : Dfn K mg "apart_ways" s_apart_ways f c) (T : Txt mg) (c_make_rooms : Cal P w K mg base 4 "make_rooms" (spRooms Ts) []) (c_outlet : Cal P w K mg base 1 "outlet" spOutlet []) (c_push_one : Cal P w K mg base 2 "push_one" spPush1 []) (c_draw_way : Cal P w K mg base 2 "draw_way" spDrawW []) : Cal P w K mg base 5 "apart_ways" (spApartW Ts) [] := by
  refine cal D (fun _ _ _ _ _ _ us hl => match us, hl with | [_, _, _, _], _ => rfl) sc_apart_ways (fun vs H Q E h => ?_) (fun A outer s H vs Q E hr h => ?_)
  · obtain ⟨a, n, g, o, ps, gt, sl, sh, ws, k, rfl, _⟩ := h
    rfl
  · obtain ⟨a, n, g, o, ps, gt, sl, sh, ws, k, rfl, N0, hsl, shl, c, k100, tb, q⟩ := h
    refine ⟨_, (pss_cons (ps_set (i := 4) sc_apart_ways.nd rfl (by first | exact Or.inl rfl | exact Or.inr rfl) (pe_c c_make_rooms hr (by decide) (by rfl) (pa_cons (pv 0) (pa_cons (pv 1) (pa_cons (pv 2) (pa_cons (pv 3) pa_nil))))))
      (pss_cons (ps_set (i := 5) sc_apart_ways.nd rfl (by first | exact Or.inl rfl | exact Or.inr rfl) (pe_c c_outlet hr (by decide) (by rfl) (pa_cons (pv 1) pa_nil)))
      (pss_cons (ps_for PassesOwn.never rfl (pi_range1 (by rfl) T.b_range (pa_cons (pv 3) pa_nil)) (pg_name (i := 6) sc_apart_ways.nd rfl (by first | exact Or.inl rfl | exact Or.inr rfl))
        (pss_one (ps_expr (pe_c c_push_one hr (by decide) (by rfl) (pa_cons (pv 4) (pa_cons (pv 5) pa_nil))))))
      (pss_cons (ps_set (i := 7) sc_apart_ways.nd rfl (by first | exact Or.inl rfl | exact Or.inr rfl) (pe_lst pa_nil))
      (pss_cons (ps_for PassesOwn.never rfl (pi_range1 (by rfl) T.b_range (pa_cons (pv 3) pa_nil)) (pg_name (i := 6) sc_apart_ways.nd rfl (by first | exact Or.inl rfl | exact Or.inr rfl))
        (pss_one (ps_expr (pe_bm PySem.F.plainAttrs_list PySem.F.slot_list_append PySem.F.type_list_append mt_append (pv 7) (pa_cons (pe_c c_draw_way hr (by decide) (by rfl) (pa_cons (pv 4) (pa_cons (pv 5) pa_nil))) pa_nil)))))
      (pss_one (ps_ret (pe_callTy call_tuple_of (by rfl) T.b_tuple (by decide +kernel) (pa_cons (pv 7) pa_nil))))))))), ?_⟩
    refine ⟨_, rfl, _, rfl, _, rfl, _, rfl, a, n, g, o, ps, gt, sl, sh, _, rfl, N0, c.ok, c.g2, hsl, shl, tb, fun H1 H2 r ad ws' a1 s2 rs A2 nad nr => ?_⟩
    obtain rfl : ws' = ws := Rset.eq rs c.rs
    refine ⟨_, rfl, (gt : Int), rfl, ?_⟩
    have a12 := Aft.ofSame a1.tb s2
    have an : ∀ b ∈ (ndsL ws').map ad, H1 b = none := fun b hb => by
      obtain ⟨v, hv, rfl⟩ := List.mem_map.mp hb
      exact nad v hv
    have F := fun {j : Nat} (h : j ≤ k + 1) => c.flw h
    refine ⟨_, rfl, _, rfl, by omega, by omega, ?_⟩
    refine for_range (lo := 0) (n := ((k : Int) + 1).toNat) (fun j σ H' => ∃ x6 : Option V, σ = [some (.ref a), some (nV gt), some (.ref sl), some (.int ((k : Int) + 1)), some (.ref r), some (.int (2 * (gt : Int) + 1)), x6, none] ∧ Keep ((ndsL ws').map ad) H2 H' ∧ RmAt H' r (ndsL ws') ad (pushN (2 * (gt : Int) + 1) 100 (rm0 n ws' sh k) j)) ⟨_, rfl, Keep.refl, A2⟩ ?_ ?_
    · rintro j σ H3 hj ⟨x6, rfl, k3, A3⟩
      refine ⟨_, rfl, _, rfl, r, ndsL ws', ad, _, rm0 n ws' sh k, _, ((j : Nat) : Int), (k : Int) + 1, rfl, A3, c.nds, F (by omega), by omega, fun H4 A4 k4 => ?_⟩
      exact ⟨_, rfl, k3.trans k4, A4⟩
    · rintro σ H3 ⟨x6, rfl, k3, A3⟩
      rw [show ((k : Int) + 1).toNat = k + 1 by omega] at A3
      have s3 := keep_off s2 k3 an
      refine ⟨small 0, fun wl nw => ?_⟩
      have s4 : Same H1 (upd H3 wl (.lst [])) := fun b u e => Same.new nw _ _ (s3 _ _ e)
      have A4 := A3.same (Same.new (o := .lst []) nw)
      have hw4 : upd H3 wl (.lst []) wl = some (.lst ([].map V.ref)) := upd_same
      have wad : wl ∉ (ndsL ws').map ad := fun z => by
        obtain ⟨v, hv, z⟩ := List.mem_map.mp z
        have := A3.inn v hv
        rw [z, nw] at this
        cases this
      have wr : wl ≠ r := fun z => by have := A3.top; rw [← z, nw] at this; cases this
      have nw1 : H1 wl = none := Same.was s3 nw
      show gName 7 (V.ref wl) _ (upd H3 wl (.lst [])) _
      generalize upd H3 wl (.lst []) = H4 at s4 A4 hw4 ⊢
      clear k3 A3 s3 nw H3
      refine ⟨_, rfl, _, rfl, by omega, by omega, ?_⟩
      refine for_range (lo := 0) (n := ((k : Int) + 1).toNat) (fun j σ H' => ∃ (x6 : Option V) (us : List Addr), σ = [some (.ref a), some (nV gt), some (.ref sl), some (.int ((k : Int) + 1)), some (.ref r), some (.int (2 * (gt : Int) + 1)), x6, some (.ref wl)] ∧ Same H1 H' ∧ RmAt H' r (ndsL ws') ad (drawN (2 * (gt : Int) + 1) 100 (pushN (2 * (gt : Int) + 1) 100 (rm0 n ws' sh k) (k + 1)) j).1 ∧ H' wl = some (.lst (us.map V.ref)) ∧ TupsAt H' us (drawN (2 * (gt : Int) + 1) 100 (pushN (2 * (gt : Int) + 1) 100 (rm0 n ws' sh k) (k + 1)) j).2) ⟨_, [], rfl, s4, A4, hw4, RefsAt.nil _ _⟩ ?_ ?_
      · clear A4 s4 hw4 H4
        rintro j σ H4 hj ⟨x6, us, rfl, s4, A4, hw4, t4⟩
        have dn := c.drawn (j := j) (by omega)
        have ul : us.length = j := by rw [t4.1, drawN_len]
        refine ⟨_, rfl, .inl ⟨rfl, _, SqL.of hw4⟩, _, rfl, _, rfl, ?_⟩
        refine ⟨r, n, ws', sh, gt, k, ad, _, (k : Int) - j, _, rfl, c, A4, by omega, dn.dw (by omega), fun p H5 A5 k5 hp => ?_⟩
        have hw5 := k5 _ _ hw4 wad
        refine ⟨wl, _, _, rfl, rfl, hw5, by rw [List.length_map, ul]; exact small256 (by omega), ?_⟩
        have pw : p ≠ wl := fun z => by rw [z, hw5] at hp; cases hp
        have tm : ∀ b xs, H4 b = some (.tup xs) → upd H5 wl (.lst (us.map V.ref ++ [.ref p])) b = some (.tup xs) := fun b xs e => by
          rw [upd_ne (fun z => by rw [z, hw4] at e; cases e)]
          refine k5 _ _ e fun z => ?_
          obtain ⟨v, hv, z⟩ := List.mem_map.mp z
          have := A4.inn v hv
          rw [z, e] at this
          cases this
        refine ⟨_, us ++ [p], rfl, fun b u e => ?_, A5.mono fun b o' hb e => ?_, ?_, ?_⟩
        · rw [upd_ne (ne_of_none e nw1)]
          refine k5 _ _ (s4 _ _ e) fun z => ?_
          rw [an b z] at e
          cases e
        · rw [upd_ne (fun z => by
            rcases hb with hb | ⟨v, hv, hb⟩
            · exact wr (z.symm.trans hb)
            · exact wad (List.mem_map.mpr ⟨v, hv, hb.symm.trans z⟩))]
          exact e
        · rw [upd_same, List.map_append]
          rfl
        · exact (t4.mono tm).push (by rw [upd_ne pw]; exact hp)
      · clear A4 s4 hw4 H4
        rintro σ H4 ⟨x6, us, rfl, s4, A4, hw4, t4⟩
        rw [show ((k : Int) + 1).toNat = k + 1 by omega] at t4
        refine ⟨_, rfl, wl, _, rfl, .inl ⟨SqL.of hw4, fun p np => ?_⟩⟩
        have s5 : Same H1 (upd H4 p (.tup (us.map V.ref))) := fun b u e => Same.new np _ _ (s4 _ _ e)
        exact q p us _ (a1.trans (Aft.ofSame a1.tb s5)) upd_same (t4.mono fun b xs e => Same.new np _ _ e)
end
end K26
set_option Elab.async false
set_option linter.all false
set_option maxRecDepth 100000
set_option maxHeartbeats 4000000
namespace K26
open PySem PySem.Spec PyProof.Rows L2 GX
open C8 (Cal pe_c pe_gc)
section
variable {P : Program} {w : World} {K : PySem.W.Frag} {mg : Str → Option Value} {base : Heap} {Ts : List Addr}
def spWhole : Sp := fun vs H Q _ => ∃ v t, vs = [v] ∧ Rep H v t ∧ Q (.bl t.whole) H
theorem ok_whole {f c : Addr} (D : Dfn K mg "is_whole" s_is_whole f c) (T : Txt mg) : Cal P w K mg base 1 "is_whole" spWhole [] := by
  refine cal D (fun _ _ _ _ _ _ us hl => match us, hl with | [_], _ => rfl) sc_is_whole (fun vs H Q E h => ?_) (fun A outer s H vs Q E hr h => ?_)
  · obtain ⟨v, t, rfl, _⟩ := h
    rfl
  · obtain ⟨v, t, rfl, r, q⟩ := h
    refine ⟨_, (pss_one (ps_ret (pe_and (pe_callB call_isi (by rfl) T.b_isinstance (by decide +kernel) (pa_cons (pv 0) (pa_cons (pe_bltn (v := .ty "int") (by rfl) T.b_int (by decide +kernel) rfl) pa_nil))) (pe_one (pe_not (pe_callB call_isi (by rfl) T.b_isinstance (by decide +kernel) (pa_cons (pv 0) (pa_cons (pe_bltn (v := .ty "bool") (by rfl) T.b_bool (by decide +kernel) rfl) pa_nil)))))))), ?_⟩
    refine ⟨_, rfl, _, _, _, _, t.kInt, rfl, .ty "int", tyx r, kit_ty (kInt_ok t), _, rfl, ite2 (fun h1 => ?_) (fun h1 => ?_)⟩
    · refine ⟨_, rfl, _, _, _, _, t.kBool, rfl, .ty "bool", tyx r, kit_ty (kBool_ok t), _, rfl, ?_⟩
      have e : (!t.kBool) = t.whole := by cases t <;> first | rfl | cases h1
      rw [e]
      exact q
    · have e : t.whole = false := by cases t <;> first | rfl | exact absurd rfl h1
      rw [e] at q
      exact q
def spBelow : Sp := fun vs H Q _ => ∃ v t b, vs = [v, .int b] ∧ Rep H v t ∧ Q (.bl (t.isB b)) H
theorem ok_below {f c : Addr} (D : Dfn K mg "is_below" s_is_below f c) (c_is_whole : Cal P w K mg base 1 "is_whole" spWhole []) : Cal P w K mg base 2 "is_below" spBelow [] := by
  refine cal D (fun _ _ _ _ _ _ us hl => match us, hl with | [_, _], _ => rfl) sc_is_below (fun vs H Q E h => ?_) (fun A outer s H vs Q E hr h => ?_)
  · obtain ⟨v, t, b, rfl, _⟩ := h
    rfl
  · obtain ⟨v, t, b, rfl, r, q⟩ := h
    refine ⟨_, (pss_one (ps_ret (pe_and (pe_c c_is_whole hr (by decide) (by rfl) (pa_cons (pv 0) pa_nil)) (pe_one (pe_chain op_le op_lt pe_int (pv 0) (pv 1)))))), ?_⟩
    refine ⟨_, rfl, v, t, rfl, r, _, rfl, ite2 (fun h1 => ?_) (fun h1 => ?_)⟩
    · cases r with
      | int i =>
        refine ⟨_, rfl, _, _, rfl, rfl, _, rfl, ite2 (fun h2 => ?_) (fun h2 => ?_)⟩
        · refine ⟨_, rfl, _, _, rfl, rfl, ?_⟩
          have e : (Th.int i).isB b = decide (i < b) := by
            show (decide (0 ≤ i) && decide (i < b)) = decide (i < b)
            rw [h2, Bool.true_and]
          rw [e] at q
          exact q
        · have e : (Th.int i).isB b = false := by
            show (decide (0 ≤ i) && decide (i < b)) = false
            rw [Bool.eq_false_iff.mpr h2, Bool.false_and]
          rw [e] at q
          exact q
      | _ => cases h1
    · have e : t.isB b = false := by cases t <;> first | rfl | exact absurd rfl h1
      rw [e] at q
      exact q
end
section
variable {P : Program} {w : World} {K : PySem.W.Frag} {mg : Str → Option Value} {base : Heap} {Ts : List Addr}
def spStep : Sp := fun vs H Q _ => ∃ (a : Addr) (n : Net) (g o : Addr) (ps : List Addr) (x y : Nat), vs = [.ref a, nV x, nV y] ∧ NetAt H a n g o ps ∧ y < n.many + n.gates.length ∧ ∀ H', Same H H' → Q (.bl (stB n x y)) H'
theorem ok_step {f c : Addr} (D : Dfn K mg "is_step" s_is_step f c) (c_places : Cal P w K mg base 1 "places" spPlaces []) : Cal P w K mg base 2 "is_step" spStep [] := by
  refine cal D (fun _ _ _ _ _ _ us hl => match us, hl with | [_, _, _], _ => rfl) sc_is_step (fun vs H Q E h => ?_) (fun A outer s H vs Q E hr h => ?_)
  · obtain ⟨a, n, g, o, ps, x, y, rfl, _⟩ := h
    rfl
  · obtain ⟨a, n, g, o, ps, x, y, rfl, N, hy, q⟩ := h
    refine ⟨_, (pss_one (ps_ret (pe_and (pe_cmpR op_ge (pv 2) (pe_ix ix_tup (pv 0) pe_int (fun _ _ => rfl)) (nomark _)) (pe_one (pe_cmpR op_in_seq (pv 1) (pe_c c_places hr (by decide) (by rfl) (pa_cons (pv 0) (pa_cons (pv 2) pa_nil))) (by rfl)))))), ?_⟩
    refine ⟨_, rfl, _, rfl, a, _, 0, _, rfl, rfl, SqT.of N.top, at0, _, _, rfl, rfl, _, rfl, ite2 (fun hg => ?_) (fun hg => ?_)⟩
    · have hg' : n.many ≤ y := by
        have := of_decide_eq_true hg
        omega
      obtain ⟨k, hk⟩ : ∃ k, n.gates[y - n.many]? = some k := ⟨_, List.getElem?_eq_getElem (by omega)⟩
      refine ⟨_, rfl, _, rfl, _, rfl, a, n, g, o, ps, y, k, rfl, N, hg', hk, fun p np => ?_⟩
      refine ⟨p, _, rfl, .inr (SqT.of upd_same), rfl, rfl, ?_⟩
      have e : inV (nV x) [nV k.2.1, nV k.2.2] = stB n x y := by
        rw [in2]
        unfold stB
        rw [decide_eq_true hg', hk, Bool.true_and]
      show Q (.bl (inV (nV x) [nV k.2.1, nV k.2.2])) _
      rw [e]
      exact q _ (Same.new np)
    · have hg' : ¬ (n.many ≤ y) := fun z => hg (decide_eq_true (by show ((y : Nat) : Int) ≥ ((n.many : Nat) : Int); omega))
      have e : stB n x y = false := by
        unfold stB
        rw [decide_eq_false hg', Bool.false_and]
      have q' := q H (Same.refl _)
      rw [e] at q'
      exact q'
end
theorem atI_last {xs : List V} {v : V} (h : xs[xs.length - 1]? = some v) : atI xs (-1) = some v := by
  have hl := (List.getElem?_eq_some_iff.mp h).1
  unfold atI
  have e : ixN xs.length (-1) = some (xs.length - 1) := by
    unfold ixN
    rw [if_neg (by decide)]
    first
      | rw [if_pos (by omega)]; congr 1; omega
      | simp; omega
  rw [e]
  exact h
section
variable {P : Program} {w : World} {K : PySem.W.Frag} {mg : Str → Option Value} {base : Heap} {Ts : List Addr}
theorem way_iff {n : Net} {wr : Nat} {xs : List Nat} (h0 : 0 < xs.length) (lt : ∀ x ∈ xs, x < n.many + n.gates.length) : Way n wr xs ↔ (xs.getD 0 0 < n.many ∧ xs.getD (xs.length - 1) 0 = wr ∧ ∀ i, i + 1 < xs.length → stB n (xs.getD i 0) (xs.getD (i + 1) 0) = true) :=
  ⟨fun w => ⟨w.first, w.last, fun i hi => stB_iff.mpr (w.steps i hi)⟩, fun ⟨h1, h2, h3⟩ => ⟨h0, lt, h1, h2, fun i hi => stB_iff.mp (h3 i hi)⟩⟩
def spIsWayT (Ts : List Addr) : Sp := fun vs H Q _ => ∃ (a : Addr) (n : Net) (g o : Addr) (ps : List Addr) (wr : Nat) (v : V) (t : Th), vs = [.ref a, nV wr, v] ∧ NetAt H a n g o ps ∧ n.Ok ∧ Rep H v t ∧ Tabs Ts H ∧ ∀ (b : Bool) H', (b = true ↔ ∃ xs, t = thWs xs ∧ Way n wr xs) → Aft Ts H H' → Q (.bl b) H'
theorem ok_iswayT {f c PW' : Addr} (D : Dfn K mg "is_way" s_is_way f c) (T : Txt mg) (c_is_below : Cal P w K mg base 2 "is_below" spBelow []) (c_wires_in : Cal P w K mg base 1 "wires_in" spWires []) (c_is_step : Cal P w K mg base 2 "is_step" spStep []) (TB_is_way : GxR.TabB base mg c PW') (hP : PW' ∈ Ts) : Cal P w K mg base 4 "is_way" (spIsWayT Ts) [] := by
  refine cal D (fun _ _ _ _ _ _ us hl => match us, hl with | [_, _, _], _ => rfl) sc_is_way (fun vs H Q E h => ?_) (fun A outer s H vs Q E hr h => ?_)
  · obtain ⟨a, n, g, o, ps, wr, v, t, rfl, _⟩ := h
    rfl
  · obtain ⟨a, n, g, o, ps, wr, v, t, rfl, N, ok, r, tb, q⟩ := h
    refine ⟨_, (pss_cons (ps_if (PW.pt (pw_or (pt_not (pt_val (pe_callB call_isi (by rfl) T.b_isinstance (by decide +kernel) (pa_cons (pv 2) (pa_cons (pe_bltn (v := .ty "tuple") (by rfl) T.b_tuple (by decide +kernel) rfl) pa_nil))))) (pw_or1 (pt_cmpR op_eq (pe_callB call_len_seq (by rfl) T.b_len (by decide +kernel) (pa_cons (pv 2) pa_nil)) pe_int (nomark _))))) (pss_one (ps_ret pe_bl)) pss_nil)
      (pss_cons (ps_set (i := 3) sc_is_way.nd rfl (by first | exact Or.inl rfl | exact Or.inr rfl) (pe_c c_wires_in hr (by decide) (by rfl) (pa_cons (pv 0) pa_nil)))
      (pss_cons (ps_if (pt_not (pt_val (pe_allG (own := [("step", 4)]) hr (by rfl) T.b_all TB_is_way rfl (gxOk_by (N := ["net", "wire", "thing", "count", "step", "ahead"]) (sc := defScope s_is_way) (own := [("step", 4)]) (by decide +kernel)) sc_is_way.nd (pi_tup (pv 2)) (fun _ _ _ _ => (pg_name (i := 4) sc_is_way.nd rfl (by first | exact Or.inl rfl | exact Or.inr rfl))) (fun _ _ _ _ => pts_nil) (fun _ _ _ _ => (pe_c c_is_below (GX.Room.gx2 hr) (by decide) (by rfl) (pa_cons (pv 4) (pa_cons (pv 3) pa_nil))))))) (pss_one (ps_ret pe_bl)) pss_nil)
      (pss_cons (ps_if (PW.pt (pw_or (pt_cmpR op_ge (pe_ix ix_tup (pv 2) pe_int (fun _ _ => rfl)) (pe_ix ix_tup (pv 0) pe_int (fun _ _ => rfl)) (nomark _)) (pw_or1 (pt_cmpR op_ne (pe_ix ix_tup (pv 2) (pe_un un_neg pe_int) (fun _ _ => rfl)) (pv 1) (nomark _))))) (pss_one (ps_ret pe_bl)) pss_nil)
      (pss_one (ps_ret (pe_allG (own := [("ahead", 5), ("step", 4)]) hr (by rfl) T.b_all TB_is_way rfl (gxOk_by (N := ["net", "wire", "thing", "count", "step", "ahead"]) (sc := defScope s_is_way) (own := [("ahead", 5), ("step", 4)]) (by decide +kernel)) sc_is_way.nd (RZ.pi_zipA (by rfl) T.b_zip (pa_cons (pv 2) (pa_cons (pe_slice sl_tupA (pv 2) (po_some pe_int) po_none) pa_nil))) (fun _ _ _ _ => (pg_tupK (K := K) (n := 2) rfl rfl (pgs_cons (pg_name (i := 5) sc_is_way.nd rfl (by first | exact Or.inl rfl | exact Or.inr rfl)) (pgs_cons (pg_name (i := 4) sc_is_way.nd rfl (by first | exact Or.inl rfl | exact Or.inr rfl)) pgs_nil)))) (fun _ _ _ _ => pts_nil) (fun _ _ _ _ => (pe_c c_is_step (GX.Room.gx2 hr) (by decide) (by rfl) (pa_cons (pv 0) (pa_cons (pv 5) (pa_cons (pv 4) pa_nil)))))))))))), ?_⟩
    refine ⟨_, rfl, _, _, _, _, t.kTup, rfl, .ty "tuple", tyx r, kit_ty (kTup_ok t), _, rfl, ite2 (fun h1 => ?_) (fun h1 => ?_)⟩
    · exact q false _ ⟨fun z => (by cases z), fun ⟨u, e, _⟩ => absurd e (yesK h1 _)⟩ (Aft.refl tb)
    obtain ⟨ta, vs, ts, rfl, rfl, ht, ra⟩ := r.tupI h1
    have vl := ra.length
    refine ⟨_, rfl, ta, _, rfl, .inr (SqT.of ht), rfl, _, rfl, ite2 (fun h2 => ?_) (fun h2 => ?_)⟩
    · refine q false _ ⟨fun z => (by cases z), fun ⟨xs, e, w⟩ => ?_⟩ (Aft.refl tb)
      have := V.int.inj (of_decide_eq_true h2)
      rw [tup_inj e, List.length_map] at vl
      have := w.ne
      omega
    have l0 : 0 < vs.length := Nat.pos_of_ne_zero fun z => h2 (decide_eq_true (by rw [z]; rfl))
    refine ⟨_, rfl, a, n, g, o, ps, rfl, N, ?_⟩
    refine ⟨_, rfl, ta, rfl, ⟨_, SqT.of ht⟩, tb PW' hP, fun H2 htab => ?_⟩
    have a2 : Aft Ts H H2 := ⟨Keep.tabbed hP htab, tb.tabbed htab⟩
    refine turns_it (walk_tup (xs := vs)) (fun i ys H' => Aft Ts H H' ∧ (ts.take i).all (Th.isB ((n.many + n.gates.length : Nat) : Int)) = true) ⟨a2, rfl⟩ (fun i ys H' _ hp => SqT.of (hp.1.tup tb ht)) ?_ ?_
    · rintro i x ys H3 H4 hi ⟨a3, al⟩ ⟨rfl, hx⟩
      obtain ⟨t', ht', rt⟩ := ra.get hx
      refine ⟨rfl, ?_⟩
      unfold tYes
      refine iteT ?_
      refine ⟨_, rfl, _, rfl, x, t', _, rfl, rt.keepR (KeepR.aft tb a3), ⟨_, rfl, fun hf => ?_⟩, fun hn => ⟨a3, ?_⟩⟩
      · refine ⟨_, rfl, iteT ?_⟩
        refine q false _ ⟨fun z => (by cases z), fun ⟨xs, e2, w⟩ => ?_⟩ a3
        rw [tup_inj e2, List.getElem?_map] at ht'
        obtain ⟨y, ey, e3⟩ := Option.map_eq_some_iff.mp ht'
        have : t'.isB ((n.many + n.gates.length : Nat) : Int) = true := isB_nat.mpr ⟨y, e3.symm, w.lt y (List.mem_of_getElem? ey)⟩
        rw [show t'.isB ((n.many + n.gates.length : Nat) : Int) = false from hf] at this
        cases this
      · rw [List.take_add_one, ht', List.all_append, al, Option.toList_some]
        show (true && (t'.isB ((n.many + n.gates.length : Nat) : Int) && true)) = true
        rw [V.bl.inj hn]
        rfl
    · rintro ys H3 ⟨a3, al⟩
      rw [vl, List.take_length] at al
      obtain ⟨xs, rfl, lt⟩ := all_isB.mp al
      obtain rfl := nats_rep ra
      rw [List.length_map] at l0
      refine ⟨_, rfl, iteF ?_⟩
      have q := fun (b : Bool) H' (hb : b = true ↔ (xs.getD 0 0 < n.many ∧ xs.getD (xs.length - 1) 0 = wr ∧ ∀ i, i + 1 < xs.length → stB n (xs.getD i 0) (xs.getD (i + 1) 0) = true)) (aa : Aft Ts H H') => q b H' (hb.trans ((way_iff l0 lt).symm.trans ⟨fun w => ⟨xs, rfl, w⟩, fun ⟨ys, e, w⟩ => by rw [map_inj' thW_inj (tup_inj e)]; exact w⟩)) aa
      have N3 := N.aft tb a3
      have ht3 := a3.tup tb ht
      refine ⟨_, rfl, ta, _, 0, _, rfl, rfl, SqT.of ht3, atI_nat (j := 0) (nat_at l0), _, rfl, a, _, 0, _, rfl, rfl, SqT.of N3.top, at0, _, _, rfl, rfl, _, rfl, ite2 (fun h3 => ?_) (fun h3 => ?_)⟩
      · have h3' := of_decide_eq_true h3
        exact q false _ ⟨fun z => (by cases z), fun ⟨z, _⟩ => by omega⟩ a3
      have h3' : xs.getD 0 0 < n.many := by
        have : ¬ (((xs.getD 0 0 : Nat) : Int) ≥ ((n.many : Nat) : Int)) := fun z => h3 (decide_eq_true z)
        omega
      have hlast : (xs.map nV)[(xs.map nV).length - 1]? = some (nV (xs.getD (xs.length - 1) 0)) := by
        rw [List.length_map, nat_at (by omega)]
      refine ⟨_, rfl, _, rfl, ta, _, -1, _, rfl, rfl, SqT.of ht3, atI_last hlast, _, rfl, rfl, _, rfl, ite2 (fun h4 => ?_) (fun h4 => ?_)⟩
      · refine q false _ ⟨fun z => (by cases z), fun ⟨_, z, _⟩ => ?_⟩ a3
        rw [z, decide_eq_true rfl] at h4
        cases h4
      have h4' : xs.getD (xs.length - 1) 0 = wr := by
        have := Classical.not_not.mp fun z => h4 (by rw [decide_eq_false z]; rfl)
        have := V.int.inj this
        omega
      refine ⟨_, rfl, _, rfl, 1, rfl, ?_⟩
      try unfold tNoPart
      refine slA (lo := some ((1 : Nat) : Int)) (hi := none) ht3 fun r H5 s5 h5 => ?_
      rw [cut_lo, ← List.map_drop] at h5
      have a5 := Aft.ofSame a3.tb s5
      have ht5 := s5 _ _ ht3
      refine ⟨ta, r, _, _, rfl, .inr ⟨SqT.of ht5, SqT.of h5, ?_⟩⟩
      refine ⟨a5.tb PW' hP, fun H6 htab6 => ?_⟩
      have a6 : Aft Ts H5 H6 := ⟨Keep.tabbed hP htab6, a5.tb.tabbed htab6⟩
      have a35 := a3.trans a5
      refine turns_it (walk_zipT (n := xs.length - 1) (xs := xs.map nV) (ys := (xs.drop 1).map nV) (by rw [List.length_map, List.length_map, List.length_drop]; omega)) (fun i ys H' => Aft Ts H5 H' ∧ ∀ j, j < i → stB n (xs.getD j 0) (xs.getD (j + 1) 0) = true) ⟨a6, fun j hj => absurd hj (Nat.not_lt_zero _)⟩ (fun i ys H' _ hp => ⟨SqT.of (hp.1.tup a5.tb ht5), SqT.of (hp.1.tup a5.tb h5)⟩) ?_ ?_
      · rintro i x ys H7 H8 hi ⟨a7, al⟩ ⟨T', v1, v2, rfl, nT, rfl, e1, e2⟩
        have e1' : (xs.map nV)[i]? = some v1 := e1
        have e2' : ((xs.drop 1).map nV)[i]? = some v2 := e2
        rw [nat_at (by omega)] at e1'
        rw [List.map_drop, List.getElem?_drop, Nat.add_comm, nat_at (by omega)] at e2'
        cases e1'
        cases e2'
        have a8 := a7.trans (Aft.new (o := .tup [nV (xs.getD i 0), nV (xs.getD (i + 1) 0)]) a7.tb nT)
        refine ⟨T', _, rfl, SqT.of upd_same, rfl, _, _, rfl, _, _, rfl, rfl, rfl, ?_⟩
        try unfold tYes
        refine iteT ?_
        refine ⟨_, rfl, _, rfl, _, rfl, a, n, g, o, ps, _, _, rfl, (N.aft tb a35).aft a5.tb a8, lt _ (getD_mem (by omega)), fun H9 s9 => ?_⟩
        have a9 := a8.trans (Aft.ofSame a8.tb s9)
        refine ⟨⟨_, rfl, fun hc => ?_⟩, fun hc => ⟨a9, fun j hj => ?_⟩⟩
        · refine q false _ ⟨fun z => (by cases z), fun ⟨_, _, z⟩ => ?_⟩ (a35.trans a9)
          rw [z i (by omega)] at hc
          cases hc
        · by_cases e : j = i
          · subst e
            exact V.bl.inj hc
          · exact al j (by omega)
      · rintro ys H7 ⟨a7, al⟩
        exact q true _ ⟨fun _ => ⟨h3', h4', fun i hi => al i (by omega)⟩, fun _ => rfl⟩ (a35.trans a7)
end
end K26
set_option Elab.async false
set_option linter.all false
set_option maxRecDepth 100000
set_option maxHeartbeats 4000000
namespace K26
open PySem PySem.Spec PyProof.Rows L2 GX
open C8 (Cal pe_c pe_gc)
section
variable {P : Program} {w : World} {K : PySem.W.Frag} {mg : Str → Option Value} {base : Heap} {Ts : List Addr}
theorem tyesP {σ : L2.St} {H : Hp} {A B : Hp → Prop} (h : A H) : tYes σ H fun b H3 => if b = true then A H3 else B H3 := by
  unfold tYes
  exact iteT h
/-! ### papers of depths over things -/
def posB : Th → Bool
  | .int l => decide (1 ≤ l)
  | _ => false
def entB : Th → Bool
  | .tup [a, b] => posB a && b.kTup
  | _ => false
def spEntry : Sp := fun vs H Q _ => ∃ v t, vs = [v] ∧ Rep H v t ∧ Q (.bl (entB t)) H
theorem ent_bad {ts : List Th} (h : ts.length ≠ 2) : entB (.tup ts) = false := by
  match ts, h with
  | [], _ => rfl
  | [a], _ => simp [entB]
  | [a, b], h => exact absurd rfl h
  | a :: b :: c :: r, _ => simp [entB]
theorem ent_no {t : Th} (h : ∀ ts, t ≠ .tup ts) : entB t = false := by
  cases t <;> first | rfl | (exact absurd rfl (h _))
theorem ok_entry {f c : Addr} (D : Dfn K mg "is_entry" s_is_entry f c) (T : Txt mg) (c_is_whole : Cal P w K mg base 1 "is_whole" spWhole []) : Cal P w K mg base 2 "is_entry" spEntry [] := by
  refine cal D (fun _ _ _ _ _ _ us hl => match us, hl with | [_], _ => rfl) sc_is_entry (fun vs H Q E h => ?_) (fun A outer s H vs Q E hr h => ?_)
  · obtain ⟨v, t, rfl, _⟩ := h
    rfl
  · obtain ⟨v, t, rfl, r, q⟩ := h
    refine ⟨_, (pss_cons (ps_if (PW.pt (pw_or (pt_not (pt_val (pe_callB call_isi (by rfl) T.b_isinstance (by decide +kernel) (pa_cons (pv 0) (pa_cons (pe_bltn (v := .ty "tuple") (by rfl) T.b_tuple (by decide +kernel) rfl) pa_nil))))) (pw_or1 (pt_cmpR op_ne (pe_callB call_len_seq (by rfl) T.b_len (by decide +kernel) (pa_cons (pv 0) pa_nil)) pe_int (nomark _))))) (pss_one (ps_ret pe_bl)) pss_nil)
      (pss_cons (ps_asg (pv 0) (pg_tup rfl (pgs_cons (pg_name (i := 1) sc_is_entry.nd rfl (by first | exact Or.inl rfl | exact Or.inr rfl)) (pgs_cons (pg_name (i := 2) sc_is_entry.nd rfl (by first | exact Or.inl rfl | exact Or.inr rfl)) pgs_nil))))
      (pss_one (ps_ret (pe_and (pe_c c_is_whole hr (by decide) (by rfl) (pa_cons (pv 1) pa_nil)) (pe_and (pe_cmpR op_ge (pv 1) pe_int (nomark _)) (pe_one (pe_callB call_isi (by rfl) T.b_isinstance (by decide +kernel) (pa_cons (pv 2) (pa_cons (pe_bltn (v := .ty "tuple") (by rfl) T.b_tuple (by decide +kernel) rfl) pa_nil)))))))))), ?_⟩
    refine ⟨_, rfl, _, _, _, _, t.kTup, rfl, .ty "tuple", tyx r, kit_ty (kTup_ok t), _, rfl, ite2 (fun h1 => ?_) (fun h1 => ?_)⟩
    · rw [ent_no (yesK h1)] at q
      exact q
    obtain ⟨ta, vs, ts, rfl, rfl, ht, ra⟩ := r.tupI h1
    have vl := ra.length
    refine ⟨_, rfl, ta, _, rfl, .inr (SqT.of ht), rfl, _, rfl, ite2 (fun h2 => ?_) (fun h2 => ?_)⟩
    · rw [ent_bad] at q
      · exact q
      · intro z
        rw [vl, z] at h2
        simp at h2
    have l2 : vs.length = 2 := by
      by_cases z : vs.length = 2
      · exact z
      · exact absurd (by simp; omega) h2
    match vs, ts, ra, l2 with
    | [v1, v2], [t1, t2], .cons r1 (.cons r2 .nil), _ =>
      refine ⟨_, rfl, ta, _, rfl, SqT.of ht, rfl, _, _, rfl, _, _, rfl, rfl, ?_⟩
      refine ⟨_, rfl, v1, t1, rfl, r1, _, rfl, ?_⟩
      have q : Q (.bl (posB t1 && t2.kTup)) H := q
      by_cases hw : t1.whole = true
      · rw [if_pos hw]
        cases r1 with
        | int l =>
          refine ⟨_, rfl, _, _, rfl, rfl, _, rfl, ?_⟩
          by_cases hl : decide (1 ≤ l) = true
          · rw [if_pos hl]
            refine ⟨_, rfl, _, _, _, _, t2.kTup, rfl, .ty "tuple", tyx r2, kit_ty (kTup_ok t2), ?_⟩
            rw [show posB (.int l) = true from hl, Bool.true_and] at q
            exact q
          · rw [if_neg hl]
            rw [show posB (.int l) = false from Bool.eq_false_iff.mpr hl, Bool.false_and] at q
            exact q
        | _ => cases hw
      · rw [if_neg hw]
        have : posB t1 = false := by cases t1 <;> first | rfl | exact absurd rfl hw
        rw [this, Bool.false_and] at q
        exact q
def entsB (n : Net) : Th → Bool
  | .tup ts => decide (ts.length = n.gates.length) && ts.all entB
  | _ => false
def spEntries (Ts : List Addr) : Sp := fun vs H Q _ => ∃ (a : Addr) (n : Net) (g o : Addr) (ps : List Addr) (v : V) (t : Th), vs = [.ref a, v] ∧ NetAt H a n g o ps ∧ Rep H v t ∧ Tabs Ts H ∧ ∀ H', Aft Ts H H' → Q (.bl (entsB n t)) H'
theorem ok_entries {f c PE' : Addr} (D : Dfn K mg "are_entries" s_are_entries f c) (T : Txt mg) (c_is_entry : Cal P w K mg base 2 "is_entry" spEntry []) (TB_are_entries : GxR.TabB base mg c PE') (hP : PE' ∈ Ts) : Cal P w K mg base 4 "are_entries" (spEntries Ts) [] := by
  refine cal D (fun _ _ _ _ _ _ us hl => match us, hl with | [_, _], _ => rfl) sc_are_entries (fun vs H Q E h => ?_) (fun A outer s H vs Q E hr h => ?_)
  · obtain ⟨a, n, g, o, ps, v, t, rfl, _⟩ := h
    rfl
  · obtain ⟨a, n, g, o, ps, v, t, rfl, N, r, tb, q⟩ := h
    refine ⟨_, (pss_cons (ps_if (PW.pt (pw_or (pt_not (pt_val (pe_callB call_isi (by rfl) T.b_isinstance (by decide +kernel) (pa_cons (pv 1) (pa_cons (pe_bltn (v := .ty "tuple") (by rfl) T.b_tuple (by decide +kernel) rfl) pa_nil))))) (pw_or1 (pt_cmpR op_ne (pe_callB call_len_seq (by rfl) T.b_len (by decide +kernel) (pa_cons (pv 1) pa_nil)) (pe_callB call_len_seq (by rfl) T.b_len (by decide +kernel) (pa_cons (pe_ix ix_tup (pv 0) pe_int (fun _ _ => rfl)) pa_nil)) (nomark _))))) (pss_one (ps_ret pe_bl)) pss_nil)
      (pss_one (ps_ret (pe_allG (own := [("entry", 2)]) hr (by rfl) T.b_all TB_are_entries rfl (gxOk_by (N := ["net", "thing", "entry"]) (sc := defScope s_are_entries) (own := [("entry", 2)]) (by decide +kernel)) sc_are_entries.nd (pi_tup (pv 1)) (fun _ _ _ _ => (pg_name (i := 2) sc_are_entries.nd rfl (by first | exact Or.inl rfl | exact Or.inr rfl))) (fun _ _ _ _ => pts_nil) (fun _ _ _ _ => (pe_c c_is_entry (GX.Room.gx2 hr) (by decide) (by rfl) (pa_cons (pv 2) pa_nil))))))), ?_⟩
    have gl : (ps.map V.ref).length = n.gates.length := by rw [List.length_map]; exact N.gs.1
    refine ⟨_, rfl, _, _, _, _, t.kTup, rfl, .ty "tuple", tyx r, kit_ty (kTup_ok t), _, rfl, ite2 (fun h1 => ?_) (fun h1 => ?_)⟩
    · have q := q H (Aft.refl tb)
      have : entsB n t = false := by cases t <;> first | rfl | (exact absurd rfl (yesK h1 _))
      rw [this] at q
      exact q
    obtain ⟨ta, vs, ts, rfl, rfl, ht, ra⟩ := r.tupI h1
    have vl := ra.length
    have q : ∀ H', Aft Ts H H' → Q (.bl (decide (ts.length = n.gates.length) && ts.all entB)) H' := q
    refine ⟨_, rfl, ta, _, rfl, .inr (SqT.of ht), _, rfl, a, _, 1, _, rfl, rfl, SqT.of N.top, at1, g, _, rfl, .inr (SqT.of N.gt), rfl, _, rfl, ?_⟩
    rw [gl, vl, dec_int]
    refine ite2 (fun h2 => ?_) (fun h2 => ?_)
    · have q := q H (Aft.refl tb)
      rw [decide_eq_false (fun z => by rw [z] at h2; simp at h2), Bool.false_and] at q
      exact q
    have hl : ts.length = n.gates.length := by
      by_cases z : ts.length = n.gates.length
      · exact z
      · exact absurd (by simp; omega) h2
    rw [decide_eq_true hl, Bool.true_and] at q
    refine ⟨_, rfl, ta, rfl, ⟨_, SqT.of ht⟩, tb PE' hP, fun H2 htab => ?_⟩
    have a2 : Aft Ts H H2 := ⟨Keep.tabbed hP htab, tb.tabbed htab⟩
    refine turns_it (walk_tup (xs := vs)) (fun i ys H' => Aft Ts H H' ∧ (ts.take i).all entB = true) ⟨a2, rfl⟩ (fun i ys H' _ hp => SqT.of (hp.1.tup tb ht)) ?_ ?_
    · rintro i x ys H3 H4 hi ⟨a3, al⟩ ⟨rfl, hx⟩
      obtain ⟨t', ht', rt⟩ := ra.get hx
      refine ⟨rfl, ?_⟩
      unfold tYes
      refine iteT ?_
      refine ⟨_, rfl, x, t', rfl, rt.mono (KeepT.aft tb a3), ⟨_, rfl, fun hf => ?_⟩, fun hn => ⟨a3, ?_⟩⟩
      · have q := q _ a3
        have : ts.all entB = false := by
          rw [Bool.eq_false_iff]
          intro z
          rw [List.all_eq_true.mp z t' (List.mem_of_getElem? ht')] at hf
          cases hf
        rw [this] at q
        exact q
      · rw [List.take_add_one, ht', List.all_append, al, Option.toList_some]
        show (true && (entB t' && true)) = true
        rw [V.bl.inj hn]
        rfl
    · rintro ys H3 ⟨a3, al⟩
      rw [vl, List.take_length] at al
      have q := q _ a3
      rw [al] at q
      exact q
/-- whether two ways are apart -/
def apB (lab : List Int) (least : Int) (xs ys : List Nat) : Bool := xs.all fun x => !decide (x ∈ ys) || decide (least ≤ lab.getD x 0)
def spApart (Ts : List Addr) : Sp := fun vs H Q _ => ∃ (p p' l : Addr) (xs ys : List Nat) (lab : List Int) (least : Int), vs = [.ref p, .ref p', .ref l, .int least] ∧ H p = some (.tup (xs.map nV)) ∧ H p' = some (.tup (ys.map nV)) ∧ H l = some (.lst (lab.map V.int)) ∧ (∀ x ∈ xs, x < lab.length) ∧ Tabs Ts H ∧ ∀ H', Aft Ts H H' → Q (.bl (apB lab least xs ys)) H'
theorem ok_apart {f c PE' : Addr} (D : Dfn K mg "are_apart" s_are_apart f c) (T : Txt mg) (TB_are_apart : GxR.TabB base mg c PE') (hP : PE' ∈ Ts) : Cal P w K mg base 2 "are_apart" (spApart Ts) [] := by
  refine cal D (fun _ _ _ _ _ _ us hl => match us, hl with | [_, _, _, _], _ => rfl) sc_are_apart (fun vs H Q E h => ?_) (fun A outer s H vs Q E hr h => ?_)
  · obtain ⟨p, p', l, xs, ys, lab, least, rfl, _⟩ := h
    rfl
  · obtain ⟨p, p', l, xs, ys, lab, least, rfl, hp, hp', hl, lt, tb, q⟩ := h
    refine ⟨_, (pss_one (ps_ret (pe_allG (own := [("wire", 4)]) hr (by rfl) T.b_all TB_are_apart rfl (gxOk_by (N := ["one", "other", "labels", "least", "wire"]) (sc := defScope s_are_apart) (own := [("wire", 4)]) (by decide +kernel)) sc_are_apart.nd (pi_tup (pv 0)) (fun _ _ _ _ => (pg_name (i := 4) sc_are_apart.nd rfl (by first | exact Or.inl rfl | exact Or.inr rfl))) (fun _ _ _ _ => (pts_one (pt_cmpR (op_in_seqK (K := K)) (pv 4) (pv 1) (by rfl)))) (fun _ _ _ _ => (pe_cmpR op_ge (pe_ix (ix_listK (K := K)) (pv 2) (pv 4) (fun _ _ => rfl)) (pv 3) (nomark _)))))), ?_⟩
    refine ⟨_, rfl, p, rfl, ⟨_, SqT.of hp⟩, tb PE' hP, fun H2 htab => ?_⟩
    have a2 : Aft Ts H H2 := ⟨Keep.tabbed hP htab, tb.tabbed htab⟩
    refine turns_it (walk_tup (xs := xs.map nV)) (fun i zs H' => Aft Ts H H' ∧ apB lab least (xs.take i) ys = true) ⟨a2, rfl⟩ (fun i zs H' _ hh => SqT.of (hh.1.tup tb hp)) ?_ ?_
    · rintro i x zs H3 H4 hi ⟨a3, al⟩ ⟨rfl, hx⟩
      rw [List.length_map] at hi
      have ex : xs[i]? = some xs[i] := List.getElem?_eq_getElem hi
      rw [List.getElem?_map, ex] at hx
      cases hx
      have xl := lt _ (List.getElem_mem hi)
      have step : ∀ b : Bool, (!decide (xs[i] ∈ ys) || decide (least ≤ lab.getD xs[i] 0)) = b → apB lab least (xs.take (i + 1)) ys = b := fun b hb => by
        unfold apB at al ⊢
        rw [List.take_add_one, ex, List.all_append, al, Option.toList_some]
        show (true && ((!decide (xs[i] ∈ ys) || decide (least ≤ lab.getD xs[i] 0)) && true)) = b
        rw [hb]
        cases b <;> rfl
      generalize xs[i] = x at ex xl step ⊢
      refine ⟨rfl, ?_⟩
      refine ⟨_, rfl, _, rfl, p', _, rfl, .inr (SqT.of (a3.tup tb hp')), rfl, flat_ns ys, _, rfl, ?_⟩
      rw [if_neg Bool.false_ne_true, inV_n]
      by_cases hm : x ∈ ys
      · rw [decide_eq_true hm]
        refine iteT ?_
        have hle : (lab.map V.int)[x]? = some (V.int (lab.getD x 0)) := by
          rw [List.getElem?_map, List.getD_eq_getElem?_getD, List.getElem?_eq_getElem xl]
          rfl
        refine ⟨_, rfl, _, rfl, l, _, _, _, rfl, rfl, SqL.of (a3.lst tb hl), atI_nat hle, _, rfl, _, _, rfl, rfl, ⟨_, rfl, fun hf => ?_⟩, fun hn => ⟨a3, step true ?_⟩⟩
        · have q := q _ a3
          have : apB lab least xs ys = false := by
            rw [Bool.eq_false_iff]
            intro z
            have := List.all_eq_true.mp z x (List.mem_of_getElem? ex)
            rw [decide_eq_true hm, Bool.not_true, Bool.false_or] at this
            exact absurd (of_decide_eq_true this) (of_decide_eq_false hf)
          rw [this] at q
          exact q
        · rw [show decide (least ≤ lab.getD x 0) = true from V.bl.inj hn, Bool.or_true]
      · rw [decide_eq_false hm]
        refine iteF ⟨a3, step true ?_⟩
        rw [decide_eq_false hm]
        rfl
    · rintro zs H3 ⟨a3, al⟩
      rw [List.length_map, List.take_length] at al
      have q := q _ a3
      rw [al] at q
      exact q
/-- whether a tuple of things shows the gate's label -/
def ShowsT (n : Net) (k : Nat) (lab : List Int) (g : Nat) (ws : List Th) : Prop := (lab.getD g 0 = 1 ∧ ws = []) ∨ (lab.getD g 0 ≠ 1 ∧ ∃ xss : List (List Nat), ws = xss.map thWs ∧ xss.length = k + 1 ∧ (∀ xs ∈ xss, Way n g xs) ∧ ∀ i j, i < j → j < xss.length → apB lab (lab.getD g 0 - 1) (xss.getD i []) (xss.getD j []) = true)
def spShows (Ts : List Addr) : Sp := fun vs H Q _ => ∃ (a : Addr) (n : Net) (g o : Addr) (ps : List Addr) (k gt : Nat) (l wa : Addr) (lab : List Int) (us : List V) (ws : List Th), vs = [.ref a, nV k, nV gt, .ref l, .ref wa] ∧ NetAt H a n g o ps ∧ n.Ok ∧ H l = some (.lst (lab.map V.int)) ∧ lab.length = n.many + n.gates.length ∧ gt < n.many + n.gates.length ∧ H wa = some (.tup us) ∧ RepAll H us ws ∧ k ≤ 100 ∧ Tabs Ts H ∧ ∀ (b : Bool) H', (b = true ↔ ShowsT n k lab gt ws) → Aft Ts H H' → Q (.bl b) H'
theorem ok_shows {f c PE' : Addr} (D : Dfn K mg "shows_label" s_shows_label f c) (T : Txt mg) (c_is_way : Cal P w K mg base 4 "is_way" (spIsWayT Ts) []) (c_are_apart : Cal P w K mg base 2 "are_apart" (spApart Ts) []) (TB_shows_label : GxR.TabB base mg c PE') (hP : PE' ∈ Ts) : Cal P w K mg base 6 "shows_label" (spShows Ts) [] := by
  refine cal D (fun _ _ _ _ _ _ us hl => match us, hl with | [_, _, _, _, _], _ => rfl) sc_shows_label (fun vs H Q E h => ?_) (fun A outer s H vs Q E hr h => ?_)
  · obtain ⟨a, n, g, o, ps, k, gt, l, wa, lab, us, ws, rfl, _⟩ := h
    rfl
  · obtain ⟨a, n, g, o, ps, k, gt, l, wa, lab, us, ws, rfl, N, ok, hl, ll, hgt, hwa, ra, hk, tb, q⟩ := h
    refine ⟨_, (pss_cons (ps_if (pt_cmpR op_eq (pe_ix ix_list (pv 3) (pv 2) (fun _ _ => rfl)) pe_int (nomark _)) (pss_one (ps_ret (pe_cmpR op_eq (pe_callB call_len_seq (by rfl) T.b_len (by decide +kernel) (pa_cons (pv 4) pa_nil)) pe_int (nomark _)))) pss_nil)
      (pss_cons (ps_if (PW.pt (pw_or (pt_cmpR op_ne (pe_callB call_len_seq (by rfl) T.b_len (by decide +kernel) (pa_cons (pv 4) pa_nil)) (pe_op op_add (pv 1) pe_int) (nomark _)) (pw_or1 (pt_not (pt_val (pe_allG (own := [("way", 5)]) hr (by rfl) T.b_all TB_shows_label rfl (gxOk_by (N := ["net", "k", "gate", "labels", "ways", "way", "least", "at", "later"]) (sc := defScope s_shows_label) (own := [("way", 5)]) (by decide +kernel)) sc_shows_label.nd (pi_tup (pv 4)) (fun _ _ _ _ => (pg_name (i := 5) sc_shows_label.nd rfl (by first | exact Or.inl rfl | exact Or.inr rfl))) (fun _ _ _ _ => pts_nil) (fun _ _ _ _ => (pe_c c_is_way (GX.Room.gx2 hr) (by decide) (by rfl) (pa_cons (pv 0) (pa_cons (pv 2) (pa_cons (pv 5) pa_nil))))))))))) (pss_one (ps_ret pe_bl)) pss_nil)
      (pss_cons (ps_set (i := 6) sc_shows_label.nd rfl (by first | exact Or.inl rfl | exact Or.inr rfl) (pe_op op_sub (pe_ix ix_list (pv 3) (pv 2) (fun _ _ => rfl)) pe_int))
      (pss_one (ps_ret (pe_allG2 (own := [("at", 7), ("way", 5), ("later", 8)]) (vs1 := [8]) hr (by rfl) T.b_all TB_shows_label rfl (gxOk_by (N := ["net", "k", "gate", "labels", "ways", "way", "least", "at", "later"]) (sc := defScope s_shows_label) (own := [("at", 7), ("way", 5), ("later", 8)]) (by decide +kernel)) sc_shows_label.nd (pi_enumT (by rfl) T.b_enumerate (pa_cons (pv 4) pa_nil)) (fun _ _ _ _ => (pg_tupK (K := K) (n := 2) rfl rfl (pgs_cons (pg_name (i := 7) sc_shows_label.nd rfl (by first | exact Or.inl rfl | exact Or.inr rfl)) (pgs_cons (pg_name (i := 5) sc_shows_label.nd rfl (by first | exact Or.inl rfl | exact Or.inr rfl)) pgs_nil)))) (fun _ _ _ _ => pts_nil) (fun _ _ _ _ => (pi_range2 (by rfl) T.b_range (pa_cons (pe_op op_add (pv 7) pe_int) (pa_cons (pe_callB (len_seqK (K := K)) (by rfl) T.b_len (by decide +kernel) (pa_cons (pv 4) pa_nil)) pa_nil)))) (fun _ _ _ _ => (pg_name (i := 8) sc_shows_label.nd rfl (by first | exact Or.inl rfl | exact Or.inr rfl))) (fun _ _ _ _ => pts_nil) (fun _ _ _ _ => (pe_c c_are_apart (GX.Room.gx2 hr) (by decide) (by rfl) (pa_cons (pv 5) (pa_cons (pe_ix (ix_tupK (K := K)) (pv 4) (pv 8) (fun _ _ => rfl)) (pa_cons (pv 3) (pa_cons (pv 6) pa_nil)))))) (by decide))))))), ?_⟩
    have vl := ra.length
    have hle : (lab.map V.int)[gt]? = some (V.int (lab.getD gt 0)) := by
      rw [List.getElem?_map, List.getD_eq_getElem?_getD, List.getElem?_eq_getElem (by rw [ll]; exact hgt)]
      rfl
    refine ⟨_, rfl, _, rfl, l, _, _, _, rfl, rfl, SqL.of hl, atI_nat hle, rfl, _, rfl, ?_⟩
    rw [show decide (V.int (lab.getD gt 0) = V.int 1) = decide (lab.getD gt 0 = 1) by simp]
    refine ite2 (fun h1 => ?_) (fun h1 => ?_)
    · have h1 := of_decide_eq_true h1
      refine ⟨_, rfl, wa, _, rfl, .inr (SqT.of hwa), rfl, ?_⟩
      refine q _ H ?_ (Aft.refl tb)
      rw [decide_eq_true_iff, V.int.injEq, vl]
      constructor
      · intro z
        exact .inl ⟨h1, List.length_eq_zero_iff.mp (by omega)⟩
      · rintro (⟨_, z⟩ | ⟨z, _⟩)
        · rw [z]; rfl
        · exact absurd h1 z
    have h1 : lab.getD gt 0 ≠ 1 := fun z => h1 (decide_eq_true z)
    have q2 : ∀ (b : Bool) H', (b = true ↔ ∃ xss : List (List Nat), ws = xss.map thWs ∧ xss.length = k + 1 ∧ (∀ xs ∈ xss, Way n gt xs) ∧ ∀ i j, i < j → j < xss.length → apB lab (lab.getD gt 0 - 1) (xss.getD i []) (xss.getD j []) = true) → Aft Ts H H' → Q (.bl b) H' := fun b H' hb aa => q b H' (hb.trans ⟨fun z => .inr ⟨h1, z⟩, fun z => z.elim (fun y => absurd y.1 h1) (fun y => y.2)⟩) aa
    clear q
    refine ⟨_, rfl, wa, _, rfl, .inr (SqT.of hwa), _, rfl, _, _, rfl, rfl, rfl, _, rfl, ?_⟩
    refine ite2 (fun h2 => ?_) (fun h2 => ?_)
    · have h2 : (!decide (V.int ((us.length : Nat) : Int) = V.int (((k : Nat) : Int) + 1))) = true := h2
      refine q2 false _ ⟨fun z => (by cases z), fun ⟨xss, e, el, _⟩ => ?_⟩ (Aft.refl tb)
      rw [decide_eq_true (show V.int ((us.length : Nat) : Int) = V.int (((k : Nat) : Int) + 1) by
        rw [vl, e, List.length_map, el]
        rfl)] at h2
      cases h2
    have wl : ws.length = k + 1 := by
      have h2 : ¬ (!decide (V.int ((us.length : Nat) : Int) = V.int (((k : Nat) : Int) + 1))) = true := h2
      by_cases z : ws.length = k + 1
      · exact z
      · refine absurd ?_ h2
        rw [decide_eq_false (fun y => by have := V.int.inj y; omega)]
        rfl
    refine ⟨_, rfl, wa, rfl, ⟨_, SqT.of hwa⟩, tb PE' hP, fun H2 htab => ?_⟩
    have a2 : Aft Ts H H2 := ⟨Keep.tabbed hP htab, tb.tabbed htab⟩
    refine turns_it (walk_tup (xs := us)) (fun i ys H' => Aft Ts H H' ∧ ∃ xss : List (List Nat), ws.take i = xss.map thWs ∧ ∀ xs ∈ xss, Way n gt xs) ⟨a2, [], rfl, fun xs hx => (by cases hx)⟩ (fun i ys H' _ hp => SqT.of (hp.1.tup tb hwa)) ?_ ?_
    · rintro i x ys H3 H4 hi ⟨a3, xss, ex, hw⟩ ⟨rfl, hx⟩
      obtain ⟨t', ht', rt⟩ := ra.get hx
      refine ⟨rfl, ?_⟩
      unfold tYes
      refine iteT ?_
      refine ⟨_, rfl, _, rfl, _, rfl, a, n, g, o, ps, gt, x, t', rfl, N.aft tb a3, ok, rt.mono (KeepT.aft tb a3), a3.tb, fun b H5 hb a5 => ?_⟩
      have a35 := a3.trans a5
      refine ⟨⟨_, rfl, fun hf => ?_⟩, fun hn => ⟨a35, ?_⟩⟩
      · refine ⟨_, rfl, iteT ?_⟩
        refine q2 false _ ⟨fun z => (by cases z), fun ⟨yss, e, _, wy, _⟩ => ?_⟩ a35
        rw [e, List.getElem?_map] at ht'
        obtain ⟨y, ey, e3⟩ := Option.map_eq_some_iff.mp ht'
        have := hb.mpr ⟨y, e3.symm, wy y (List.mem_of_getElem? ey)⟩
        rw [hf] at this
        cases this
      · obtain ⟨zs, rfl, wz⟩ := hb.mp (V.bl.inj hn)
        refine ⟨xss ++ [zs], ?_, fun xs hx => ?_⟩
        · rw [List.take_add_one, ht', ex, List.map_append]
          rfl
        · rcases List.mem_append.mp hx with h | h
          · exact hw xs h
          · rw [List.mem_singleton.mp h]; exact wz
    · rintro ys H3 ⟨a3, xss, ex, hw⟩
      rw [vl, List.take_length] at ex
      subst ex
      rw [List.length_map] at wl
      have us_at : ∀ i, i < xss.length → ∃ p, us[i]? = some (.ref p) ∧ H p = some (.tup ((xss.getD i []).map nV)) := fun i hi => by
        have hil : i < us.length := by rw [vl, List.length_map]; exact hi
        obtain ⟨t', ht', rt⟩ := ra.get (List.getElem?_eq_getElem hil)
        rw [List.getElem?_map, List.getElem?_eq_getElem hi] at ht'
        cases ht'
        obtain ⟨p, e, hp⟩ := wsT_rep rt
        refine ⟨p, by rw [List.getElem?_eq_getElem hil, e], ?_⟩
        rw [List.getD_eq_getElem?_getD, List.getElem?_eq_getElem hi]
        exact hp
      have wlen : ∀ i, i < xss.length → ∀ x ∈ xss.getD i [], x < lab.length := fun i hi x hx => by
        rw [ll]
        have := hw (xss.getD i []) (by rw [List.getD_eq_getElem?_getD, List.getElem?_eq_getElem hi]; exact List.getElem_mem hi)
        exact this.lt x hx
      refine ⟨_, rfl, iteF ?_⟩
      have hl3 := a3.lst tb hl
      refine ⟨_, rfl, _, rfl, l, _, _, _, rfl, rfl, SqL.of hl3, atI_nat hle, _, _, rfl, rfl, ?_⟩
      have hwa3 := a3.tup tb hwa
      have ul : us.length = xss.length := by rw [vl, List.length_map]
      refine ⟨_, rfl, wa, _, rfl, SqT.of hwa3, a3.tb PE' hP, fun H4 htab2 => ?_⟩
      have a4 : Aft Ts H H4 := a3.trans ⟨Keep.tabbed hP htab2, a3.tb.tabbed htab2⟩
      refine turns2_it (walk_enumT (xs := us)) 200 (fun i ys H' => Aft Ts H H' ∧ ∀ i' j, i' < i → i' < j → j < xss.length → apB lab (lab.getD gt 0 - 1) (xss.getD i' []) (xss.getD j []) = true) ⟨a4, fun i' j h => absurd h (Nat.not_lt_zero _)⟩ (fun i ys H' _ hp => SqT.of (hp.1.tup tb hwa)) ?_ ?_
      · rintro i x ys H5 H6 hi ⟨a5, al⟩ ⟨T', v1, v2, rfl, nT, rfl, e1, e2⟩
        cases e1
        obtain ⟨p, ep, hp⟩ := us_at i (by omega)
        have e2 : us[i]? = some v2 := e2
        rw [ep] at e2
        cases e2
        have a6 := a5.trans (Aft.new (o := .tup [.int (i : Nat), .ref p]) a5.tb nT)
        refine ⟨T', _, rfl, SqT.of upd_same, rfl, _, _, rfl, _, _, rfl, rfl, rfl, tyesP ?_⟩
        refine ⟨_, rfl, _, _, rfl, rfl, _, rfl, wa, _, rfl, .inr (SqT.of (a6.tup tb hwa)), _, _, rfl, ⟨by omega, by omega, by omega, by omega⟩, ?_⟩
        refine inner_by (walk_range (lo := ((i : Nat) : Int) + 1) (n := (((us.length : Nat) : Int) - (((i : Nat) : Int) + 1)).toNat)) (n := us.length) (B := 200) (i := i) (by omega) hi (fun j ys H' => Aft Ts H H' ∧ ∀ j', i < j' → j' < i + 1 + j → j' < xss.length → apB lab (lab.getD gt 0 - 1) (xss.getD i []) (xss.getD j' []) = true) ⟨a6, fun j' h1 h2 => absurd h1 (by omega)⟩ (fun _ _ _ _ _ => trivial) ?_ ?_
        · rintro j x ys H7 H8 hj ⟨a7, al1⟩ ⟨rfl, rfl⟩
          refine ⟨rfl, ?_⟩
          unfold tYes
          refine iteT ?_
          have hjl : i + 1 + j < xss.length := by omega
          obtain ⟨p2, ep2, hp2⟩ := us_at (i + 1 + j) hjl
          refine ⟨_, rfl, _, rfl, _, rfl, wa, _, _, _, rfl, rfl, SqT.of (a7.tup tb hwa), (by rw [show ((i : Nat) : Int) + 1 + ((j : Nat) : Int) = ((i + 1 + j : Nat) : Int) by omega]; exact atI_nat ep2), _, rfl, _, rfl, ?_⟩
          refine ⟨p, p2, l, _, _, lab, _, rfl, a7.tup tb hp, a7.tup tb hp2, a7.lst tb hl, wlen i (by omega), a7.tb, fun H9 a9 => ?_⟩
          have a79 := a7.trans a9
          refine ⟨⟨_, rfl, fun hf => ?_⟩, fun hn => ⟨a79, fun j' h1 h2 h3 => ?_⟩⟩
          · refine q2 false _ ⟨fun z => (by cases z), fun ⟨yss, e, _, _, wy⟩ => ?_⟩ a79
            obtain rfl : xss = yss := map_inj' (fun _ _ => thWs_inj) e
            rw [wy i (i + 1 + j) (by omega) hjl] at hf
            cases hf
          · by_cases e : j' = i + 1 + j
            · rw [e]
              exact V.bl.inj hn
            · exact al1 j' h1 (by omega) h3
        · rintro ys H7 ⟨a7, al1⟩
          refine ⟨a7, fun i' j' h1 h2 h3 => ?_⟩
          by_cases e : i' = i
          · rw [e]
            exact al1 j' (by omega) (by omega) h3
          · exact al i' j' (by omega) h2 h3
      · rintro ys H5 ⟨a5, al⟩
        exact q2 true _ ⟨fun _ => ⟨xss, rfl, wl, hw, fun i j h1 h2 => al i j (by omega) h1 h2⟩, fun _ => rfl⟩ a5
end
end K26
set_option Elab.async false
set_option linter.all false
set_option maxRecDepth 100000
set_option maxHeartbeats 4000000
namespace K26
open PySem PySem.Spec PyProof.Rows L2 GX
open C8 (Cal pe_c pe_gc)
section
variable {P : Program} {w : World} {K : PySem.W.Frag} {mg : Str → Option Value} {base : Heap} {Ts : List Addr}
def labT : Th → Int
  | .tup (.int l :: _) => l
  | _ => 0
def waysT : Th → List Th
  | .tup [_, .tup ws] => ws
  | _ => []
def labsT (n : Net) (ts : List Th) : List Int := List.replicate n.many 0 ++ ts.map labT
/-- a paper of depths, of anything -/
def PaperT (n : Net) (k : Nat) (t : Th) : Prop := ∃ ts : List Th, t = .tup ts ∧ ts.length = n.gates.length ∧ ts.all entB = true ∧ ∀ (i : Nat) (e : Th), ts[i]? = some e → ShowsT n k (labsT n ts) (n.many + i) (waysT e)
theorem labs_len (n : Net) (ts : List Th) : (labsT n ts).length = n.many + ts.length := by
  unfold labsT
  rw [List.length_append, List.length_replicate, List.length_map]
/-- an entry in the heap -/
theorem ent_at {H : Hp} {v : V} {t : Th} (r : Rep H v t) (h : entB t = true) : ∃ (p q : Addr) (us : List V), v = .ref p ∧ H p = some (.tup [.int (labT t), .ref q]) ∧ H q = some (.tup us) ∧ RepAll H us (waysT t) := by
  cases r with
  | tup hp ra =>
    cases ra with
    | nil => cases h
    | cons r1 ra =>
      cases ra with
      | nil => simp [entB] at h
      | cons r2 ra =>
        cases ra with
        | cons r3 ra => simp [entB] at h
        | nil =>
          rename_i v1 t1 v2 t2
          have h : (posB t1 && t2.kTup) = true := h
          rw [Bool.and_eq_true] at h
          cases r1 with
          | int l =>
            cases r2 with
            | tup hq rq => exact ⟨_, _, _, rfl, hp, hq, rq⟩
            | _ => cases h.2
          | _ => cases h.1
  | _ => cases h
def spPaper (Ts : List Addr) : Sp := fun vs H Q _ => ∃ (a : Addr) (n : Net) (g o : Addr) (ps : List Addr) (k : Nat) (v : V) (t : Th), vs = [.ref a, nV k, v] ∧ NetAt H a n g o ps ∧ n.Ok ∧ Rep H v t ∧ k ≤ 100 ∧ Tabs Ts H ∧ ∀ (b : Bool) H', (b = true ↔ PaperT n k t) → Aft Ts H H' → Q (.bl b) H'
theorem ok_paper {f c PE' : Addr} (D : Dfn K mg "depth_paper_holds" s_depth_paper_holds f c) (T : Txt mg) (c_are_entries : Cal P w K mg base 4 "are_entries" (spEntries Ts) []) (c_shows_label : Cal P w K mg base 6 "shows_label" (spShows Ts) []) (TB_depth_paper_holds : GxR.TabB base mg c PE') (hP : PE' ∈ Ts) : Cal P w K mg base 8 "depth_paper_holds" (spPaper Ts) [] := by
  refine cal D (fun _ _ _ _ _ _ us hl => match us, hl with | [_, _, _], _ => rfl) sc_depth_paper_holds (fun vs H Q E h => ?_) (fun A outer s H vs Q E hr h => ?_)
  · obtain ⟨a, n, g, o, ps, k, v, t, rfl, _⟩ := h
    rfl
  · obtain ⟨a, n, g, o, ps, k, v, t, rfl, N, ok, r, hk, tb, q⟩ := h
    refine ⟨_, (pss_cons (ps_if (pt_not (pt_val (pe_c c_are_entries hr (by decide) (by rfl) (pa_cons (pv 0) (pa_cons (pv 2) pa_nil))))) (pss_one (ps_ret pe_bl)) pss_nil)
      (pss_cons (ps_set (i := 3) sc_depth_paper_holds.nd rfl (by first | exact Or.inl rfl | exact Or.inr rfl) (pe_op op_cat (pe_op op_rep (pe_lst (pa_cons pe_int pa_nil)) (pe_ix ix_tup (pv 0) pe_int (fun _ _ => rfl))) (pe_lc (own := [("label", 4), ("ways", 5)])  (tt := tYes) rfl sc_depth_paper_holds.nd (pi_tup (pv 2)) (blkOk_by (own := [("label", 4), ("ways", 5)]) (N := ["net", "k", "thing", "labels", "label", "ways", "at", "entry"]) (sc := defScope s_depth_paper_holds) (by decide +kernel)) (fun _ _ _ _ _ => (pg_tupK (K := K) (n := 2) rfl rfl (pgs_cons (pg_name (i := 4) sc_depth_paper_holds.nd rfl (by first | exact Or.inl rfl | exact Or.inr rfl)) (pgs_cons (pg_name (i := 5) sc_depth_paper_holds.nd rfl (by first | exact Or.inl rfl | exact Or.inr rfl)) pgs_nil)))) (fun _ _ _ _ _ => pts_nil) (fun _ _ _ _ _ => (pv 4)))))
      (pss_one (ps_ret (pe_allG (own := [("at", 6), ("entry", 7)]) hr (by rfl) T.b_all TB_depth_paper_holds rfl (gxOk_by (N := ["net", "k", "thing", "labels", "label", "ways", "at", "entry"]) (sc := defScope s_depth_paper_holds) (own := [("at", 6), ("entry", 7)]) (by decide +kernel)) sc_depth_paper_holds.nd (pi_enumT (by rfl) T.b_enumerate (pa_cons (pv 2) pa_nil)) (fun _ _ _ _ => (pg_tupK (K := K) (n := 2) rfl rfl (pgs_cons (pg_name (i := 6) sc_depth_paper_holds.nd rfl (by first | exact Or.inl rfl | exact Or.inr rfl)) (pgs_cons (pg_name (i := 7) sc_depth_paper_holds.nd rfl (by first | exact Or.inl rfl | exact Or.inr rfl)) pgs_nil)))) (fun _ _ _ _ => pts_nil) (fun _ _ _ _ => (pe_c c_shows_label (GX.Room.gx2 hr) (by decide) (by rfl) (pa_cons (pv 0) (pa_cons (pv 1) (pa_cons (pe_op op_add (pe_ix (ix_tupK (K := K)) (pv 0) pe_int (fun _ _ => rfl)) (pv 6)) (pa_cons (pv 3) (pa_cons (pe_ix (ix_tupK (K := K)) (pv 7) pe_int (fun _ _ => rfl)) pa_nil)))))))))))), ?_⟩
    have m8 := ok.m8
    have g16 := ok.g16
    refine ⟨_, rfl, _, rfl, a, n, g, o, ps, v, t, rfl, N, r, tb, fun H1 a1 => ?_⟩
    refine ⟨_, rfl, ite2 (fun h1 => ?_) (fun h1 => ?_)⟩
    · refine q false _ ⟨fun z => (by cases z), fun ⟨ts, e, el, al, _⟩ => ?_⟩ a1
      rw [e] at h1
      have h1 : (!(decide (ts.length = n.gates.length) && ts.all entB)) = true := h1
      rw [decide_eq_true el, al] at h1
      cases h1
    have h1 : entsB n t = true := by
      cases z : entsB n t with
      | true => rfl
      | false => rw [z] at h1; exact absurd rfl h1
    obtain ⟨ta, us, ts, rfl, rfl, ht, ra⟩ : ∃ ta us ts, v = .ref ta ∧ t = .tup ts ∧ H ta = some (.tup us) ∧ RepAll H us ts := by
      cases r with
      | tup h ra => exact ⟨_, _, _, rfl, rfl, h, ra⟩
      | _ => cases h1
    have h1 : (decide (ts.length = n.gates.length) && ts.all entB) = true := h1
    rw [Bool.and_eq_true] at h1
    have el := of_decide_eq_true h1.1
    have al := h1.2
    have ul := ra.length
    have N1 := N.aft tb a1
    have ht1 := a1.tup tb ht
    refine ⟨small 1, fun z0 n0 => ?_⟩
    have s2 := Same.new (o := .lst [.int 0]) n0
    refine ⟨_, rfl, a, _, 0, _, rfl, rfl, SqT.of (N1.same s2).top, at0, z0, _, _, rfl, rfl, upd_same, by omega, by omega, ?_, fun l0 nl0 => ?_⟩
    · show 1 * (((n.many : Nat)) : Int).toNat ≤ sizeLine
      rw [Int.toNat_natCast]
      exact small _ (by omega)
    have ef : (List.replicate (((n.many : Nat)) : Int).toNat [V.int 0]).flatten = (List.replicate n.many (0 : Int)).map V.int := by
      rw [Int.toNat_natCast, List.map_replicate, List.flatten_replicate_singleton]
    rw [ef]
    have s3 := s2.trans (Same.new (o := .lst ((List.replicate n.many (0 : Int)).map V.int)) nl0)
    have hl0 : upd (upd H1 z0 (.lst [.int 0])) l0 (.lst ((List.replicate n.many (0 : Int)).map V.int)) l0 = some (.lst ((List.replicate n.many (0 : Int)).map V.int)) := upd_same
    generalize upd (upd H1 z0 (.lst [.int 0])) l0 (.lst ((List.replicate n.many (0 : Int)).map V.int)) = H3 at s3 hl0 ⊢
    have ht3 := s3 _ _ ht1
    have ra3 := (ra.mono (KeepT.aft tb a1)).mono (KeepT.same s3)
    refine ⟨_, rfl, ta, rfl, ⟨_, SqT.of ht3⟩, fun M nM => ?_⟩
    refine lc_tup (K := K) (a := ta) (xs := us) (fun i H' => Own H3 H' M (((ts.take i).map labT).map V.int)) ⟨Same.new nM, upd_same, nM⟩ (fun _ H' _ o' => SqT.of (o'.sm _ _ ht3)) ?_ ?_
    · rintro i x H4 hx o4
      obtain ⟨t', ht', rt⟩ := ra3.get hx
      have hil : i < ts.length := (List.getElem?_eq_some_iff.mp ht').1
      obtain ⟨p, q1, us1, rfl, hp, hq, rq⟩ := ent_at (rt.mono (KeepT.same o4.sm)) (List.all_eq_true.mp al t' (List.mem_of_getElem? ht'))
      refine ⟨p, _, rfl, SqT.of hp, rfl, _, _, rfl, _, _, rfl, rfl, rfl, ?_⟩
      unfold tYes
      refine iteT ?_
      refine ⟨_, rfl, _, o4.at_, by rw [List.length_map, List.length_map, List.length_take]; exact small256 (by omega), ?_⟩
      rw [List.take_add_one, ht', Option.toList_some, List.map_append, List.map_append]
      exact o4.app
    rintro H4 o4
    rw [ul, List.take_length] at o4
    refine ⟨l0, M, _, _, rfl, rfl, o4.sm _ _ hl0, o4.at_, by rw [List.length_map, List.length_map, List.length_map, List.length_replicate]; exact small _ (by omega), fun L nL => ?_⟩
    rw [← List.map_append]
    have s5 := (s3.trans o4.sm).trans (Same.new (o := .lst ((labsT n ts).map V.int)) nL)
    have hL : upd H4 L (.lst ((labsT n ts).map V.int)) L = some (.lst ((labsT n ts).map V.int)) := upd_same
    show _
    generalize hH5 : upd H4 L (.lst ((labsT n ts).map V.int)) = H5 at s5 hL
    rw [show List.replicate n.many (0 : Int) ++ List.map labT ts = labsT n ts from rfl, hH5]
    have a5 : Aft Ts H H5 := a1.trans (Aft.ofSame a1.tb s5)
    have ht5 := s5 _ _ ht1
    have N5 := N1.same s5
    have ra5 := ra.mono (KeepT.aft tb a5)
    have tb5 := a5.tb
    have ll := labs_len n ts
    refine ⟨_, rfl, ta, _, rfl, SqT.of ht5, tb5 PE' hP, fun H6 htab => ?_⟩
    have a6 : Aft Ts H5 H6 := ⟨Keep.tabbed hP htab, tb5.tabbed htab⟩
    refine turns_it (walk_enumT (xs := us)) (fun i ys H' => Aft Ts H5 H' ∧ ∀ (j : Nat) (e : Th), j < i → ts[j]? = some e → ShowsT n k (labsT n ts) (n.many + j) (waysT e)) ⟨a6, fun j e h => absurd h (Nat.not_lt_zero _)⟩ (fun i ys H' _ hp => SqT.of (hp.1.tup tb5 ht5)) ?_ ?_
    · rintro i x ys H7 H8 hi ⟨a7, sh⟩ ⟨T', v1, v2, rfl, nT, rfl, e1, e2⟩
      cases e1
      have e2 : us[i]? = some v2 := e2
      obtain ⟨t', ht', rt⟩ := ra5.get e2
      have hil : i < ts.length := (List.getElem?_eq_some_iff.mp ht').1
      have a8 := a7.trans (Aft.new (o := .tup [.int (i : Nat), v2]) a7.tb nT)
      obtain ⟨p, q1, us1, rfl, hp, hq, rq⟩ := ent_at (rt.mono (KeepT.aft tb5 a8)) (List.all_eq_true.mp al t' (List.mem_of_getElem? ht'))
      have N8 := N5.aft tb5 a8
      refine ⟨T', _, rfl, SqT.of upd_same, rfl, _, _, rfl, _, _, rfl, rfl, rfl, ?_⟩
      unfold tYes
      refine iteT ?_
      refine ⟨_, rfl, _, rfl, _, rfl, a, _, 0, _, rfl, rfl, SqT.of N8.top, at0, _, rfl, _, _, rfl, rfl, _, rfl, _, rfl, p, _, 1, _, rfl, rfl, SqT.of hp, at1, ?_⟩
      refine ⟨a, n, g, o, ps, k, n.many + i, L, q1, labsT n ts, us1, waysT t', rfl, N8, ok, a8.lst tb5 hL, by rw [ll, el], by omega, hq, rq, hk, a8.tb, fun b H9 hb a9 => ?_⟩
      have a89 := a8.trans a9
      refine ⟨⟨_, rfl, fun hf => ?_⟩, fun hn => ⟨a89, fun j e h1 h2 => ?_⟩⟩
      · refine q false _ ⟨fun z => (by cases z), fun ⟨ts2, e, _, _, sh2⟩ => ?_⟩ (a5.trans a89)
        obtain rfl := tup_inj e
        have := hb.mpr (sh2 i t' ht')
        rw [hf] at this
        cases this
      · by_cases z : j = i
        · rw [z] at h2 ⊢
          rw [ht'] at h2
          cases h2
          exact hb.mp (V.bl.inj hn)
        · exact sh j e (by omega) h2
    · rintro ys H7 ⟨a7, sh⟩
      exact q true _ ⟨fun _ => ⟨ts, rfl, el, al, fun i e h => sh i e (by rw [ul]; exact (List.getElem?_eq_some_iff.mp h).1) h⟩, fun _ => rfl⟩ (a5.trans a7)
end
end K26
set_option Elab.async false
set_option linter.all false
set_option maxRecDepth 100000
set_option maxHeartbeats 4000000
namespace K26
open PySem PySem.Spec PyProof.Rows L2 GX
open C8 (Cal pe_c pe_gc)
section
variable {P : Program} {w : World} {K : PySem.W.Frag} {mg : Str → Option Value} {base : Heap} {Ts : List Addr}
/-! ### papers as data -/
abbrev Pap := List (Nat × List (List Nat))
def EntAt (H : Hp) (p : Addr) (e : Nat × List (List Nat)) : Prop := ∃ (q : Addr) (us : List Addr), H p = some (.tup [nV e.1, .ref q]) ∧ H q = some (.tup (us.map V.ref)) ∧ TupsAt H us e.2
theorem EntAt.mono {H H' : Hp} (m : ∀ b xs, H b = some (.tup xs) → H' b = some (.tup xs)) {p : Addr} {e : Nat × List (List Nat)} (h : EntAt H p e) : EntAt H' p e := by
  obtain ⟨q, us, h1, h2, h3⟩ := h
  exact ⟨q, us, m _ _ h1, m _ _ h2, h3.mono m⟩
structure PapAt (H : Hp) (a : Addr) (es : Pap) (qs : List Addr) : Prop where
  top : H a = some (.tup (qs.map V.ref))
  ts : PtsAt EntAt H qs es
theorem PapAt.mono {H H' : Hp} {a : Addr} {es : Pap} {qs : List Addr} (h : PapAt H a es qs) (m : ∀ b xs, H b = some (.tup xs) → H' b = some (.tup xs)) : PapAt H' a es qs := ⟨m _ _ h.top, h.ts.mono fun p e z => z.mono m⟩
def thEnt (e : Nat × List (List Nat)) : Th := .tup [thW e.1, .tup (e.2.map thWs)]
def thPap (es : Pap) : Th := .tup (es.map thEnt)
theorem rep_ent {H : Hp} (p : Addr) (e : Nat × List (List Nat)) (h : EntAt H p e) : Rep H (.ref p) (thEnt e) := by
  obtain ⟨q, us, h1, h2, h3⟩ := h
  refine .tup h1 (.cons (.int _) (.cons (.tup h2 ?_) .nil))
  exact pts_rep (R := fun H p (x : List Nat) => H p = some (.tup (x.map nV))) (f := thWs) (fun p x hx => rep_wsT hx) ⟨h3.1, fun i p x e1 e2 => h3.2 i p x e1 e2⟩
theorem PapAt.rep {H : Hp} {a : Addr} {es : Pap} {qs : List Addr} (h : PapAt H a es qs) : Rep H (.ref a) (thPap es) := .tup h.top (pts_rep rep_ent h.ts)
def labE (n : Net) (es : Pap) : List Int := List.replicate n.many 0 ++ es.map fun e => ((e.1 : Nat) : Int)
theorem labs_ent (n : Net) (es : Pap) : labsT n (es.map thEnt) = labE n es := by
  unfold labsT labE
  rw [List.map_map]
  rfl
structure PapOk (n : Net) (es : Pap) : Prop where
  len : es.length = n.gates.length
  lab : ∀ e ∈ es, 1 ≤ e.1
  few : ∀ e ∈ es, e.2.length ≤ 100
  way : ∀ e ∈ es, ∀ xs ∈ e.2, xs.length ≤ 1000 ∧ ∀ x ∈ xs, x < n.many + n.gates.length
theorem paper_ent {n : Net} {k : Nat} {es : Pap} (h : PapOk n es) : PaperT n k (thPap es) ↔ ∀ (j : Nat) (e : Nat × List (List Nat)), es[j]? = some e → ShowsT n k (labE n es) (n.many + j) (e.2.map thWs) := by
  unfold PaperT
  constructor
  · rintro ⟨ts, e, _, _, sh⟩ j x hx
    obtain rfl := tup_inj e
    have := sh j (thEnt x) (by rw [List.getElem?_map, hx]; rfl)
    rw [labs_ent] at this
    exact this
  · intro sh
    refine ⟨es.map thEnt, rfl, by rw [List.length_map, h.len], ?_, fun i e he => ?_⟩
    · rw [List.all_map, List.all_eq_true]
      intro e he
      have h1 := h.lab e he
      show (decide ((1 : Int) ≤ ((e.1 : Nat) : Int)) && true) = true
      rw [decide_eq_true (by omega)]
      rfl
    · rw [List.getElem?_map] at he
      obtain ⟨x, hx, rfl⟩ := Option.map_eq_some_iff.mp he
      rw [labs_ent]
      exact sh i x hx
end
end K26
set_option Elab.async false
set_option linter.all false
set_option maxRecDepth 100000
set_option maxHeartbeats 4000000
/-! The least ones, out of pairs (how many, tuple) in their order. -/
namespace GX
open PySem PySem.Spec PyProof.Rows L2
/-- a pair: how many, the tuple -/
def PrAt (H : Hp) (p : Addr) (c : List Nat) : Prop := ∃ t, H p = some (.tup [.int (c.length : Int), .ref t]) ∧ H t = some (.tup (c.map nV))
theorem PrAt.mono {H H' : Hp} {p : Addr} {c : List Nat} (h : PrAt H p c) (m : ∀ b xs, H b = some (.tup xs) → H' b = some (.tup xs)) : PrAt H' p c := by
  obtain ⟨t, h1, h2⟩ := h
  exact ⟨t, m _ _ h1, m _ _ h2⟩
/-- what is kept of the first few, by size -/
structure KeptS (F cs : List (List Nat)) (j : Nat) (R : List (List Nat)) : Prop where
  nd : R.Nodup
  mem : ∀ c, c ∈ R ↔ (c ∈ cs.take j ∧ Minl F c)
theorem KeptS.zero (F cs : List (List Nat)) : KeptS F cs 0 [] := ⟨List.nodup_nil, fun c => ⟨fun z => (by cases z), fun z => by
  have := z.1
  rw [List.take_zero] at this
  cases this⟩⟩
theorem not_taken {cs : List (List Nat)} (nd : cs.Nodup) {j : Nat} {c : List Nat} (hc : cs[j]? = some c) : c ∉ cs.take j := fun z => by
  obtain ⟨i', hi', e'⟩ := List.mem_iff_getElem.mp z
  rw [List.getElem_take] at e'
  rw [List.length_take] at hi'
  obtain ⟨h3, h4⟩ := List.getElem?_eq_some_iff.mp hc
  have := (List.getElem_inj (xs := cs) (i := i') (j := j) (h₀ := by omega) (h₁ := h3) nd).mp (by rw [e', h4])
  omega
theorem KeptS.yes {F cs : List (List Nat)} (nd : cs.Nodup) {j : Nat} {R : List (List Nat)} (h : KeptS F cs j R) {c : List Nat} (hc : cs[j]? = some c) (hm : Minl F c) : KeptS F cs (j + 1) (R ++ [c]) := by
  have tk : cs.take (j + 1) = cs.take j ++ [c] := by rw [List.take_add_one, hc]; rfl
  refine ⟨?_, fun d => ?_⟩
  · refine List.nodup_append.mpr ⟨h.nd, List.nodup_cons.mpr ⟨fun z => (by cases z), List.nodup_nil⟩, fun a ha b hb e => ?_⟩
    rw [List.mem_singleton.mp hb] at e
    rw [e] at ha
    exact not_taken nd hc ((h.mem c).mp ha).1
  · rw [List.mem_append, h.mem, tk, List.mem_append, List.mem_singleton]
    constructor
    · rintro (⟨h1, h2⟩ | rfl)
      · exact ⟨.inl h1, h2⟩
      · exact ⟨.inr rfl, hm⟩
    · rintro ⟨h1 | rfl, h2⟩
      · exact .inl ⟨h1, h2⟩
      · exact .inr rfl
theorem KeptS.no {F cs : List (List Nat)} {j : Nat} {R : List (List Nat)} (h : KeptS F cs j R) {c : List Nat} (hc : cs[j]? = some c) (hm : ¬ Minl F c) : KeptS F cs (j + 1) R := by
  have tk : cs.take (j + 1) = cs.take j ++ [c] := by rw [List.take_add_one, hc]; rfl
  refine ⟨h.nd, fun d => ?_⟩
  rw [h.mem, tk, List.mem_append, List.mem_singleton]
  constructor
  · rintro ⟨h1, h2⟩
    exact ⟨.inl h1, h2⟩
  · rintro ⟨h1 | rfl, h2⟩
    · exact ⟨h1, h2⟩
    · exact absurd h2 hm
end GX
set_option Elab.async false
set_option linter.all false
/-! A gate of a net. -/
namespace GX
open PySem PySem.Spec PyProof.Rows L2
end GX
set_option Elab.async false
set_option linter.all false
set_option maxRecDepth 100000
set_option maxHeartbeats 4000000
namespace K26
open PySem PySem.Spec PyProof.Rows L2 GX
open C8 (Cal pe_c pe_gc)
section
/-! ### depths of chains -/
theorem deps_one {n : Net} {k : Nat} {ds : List Nat} (d : DepsTo n k ds) {g : Nat} (hg : n.many ≤ g) (hl : g < ds.length) : 1 ≤ ds.getD g 0 := by
  obtain ⟨⟨c, lc, e1⟩, _⟩ := d.at_ g hg hl
  rw [e1]
  omega
/-- the same places, either way about -/
structure Like (n n' : Net) : Prop where
  m : n.many = n'.many
  l : n.gates.length = n'.gates.length
  g : ∀ (i : Nat) (k : Nat × Nat × Nat), n.gates[i]? = some k → ∃ k' : Nat × Nat × Nat, n'.gates[i]? = some k' ∧ ∀ z, (z = k.2.1 ∨ z = k.2.2) ↔ (z = k'.2.1 ∨ z = k'.2.2)
theorem Like.symm {n n' : Net} (h : Like n n') : Like n' n := ⟨h.m.symm, h.l.symm, fun i k hk => by
  have hi : i < n.gates.length := by rw [h.l]; exact (List.getElem?_eq_some_iff.mp hk).1
  obtain ⟨k', e, hz⟩ := h.g i _ (List.getElem?_eq_getElem hi)
  rw [hk] at e
  cases e
  exact ⟨_, List.getElem?_eq_getElem hi, fun z => (hz z).symm⟩⟩
theorem Like.rc {n n' : Net} (h : Like n n') {st : List Nat} {w y : Nat} (r : Rc n st w n.many y) : Rc n' st w n'.many y := by
  induction r with
  | here e => exact .here e
  | @step g p k _ hg _ hk hp hs ih =>
    obtain ⟨k', e, hz⟩ := h.g _ k hk
    rw [h.m] at e hg
    exact .step ih hg hg e ((hz p).mp hp) hs
theorem Like.sep {n n' : Net} (h : Like n n') {st : List Nat} {w : Nat} : Sep n w st ↔ Sep n' w st := ⟨fun s y r => by rw [← h.m]; exact s y (h.symm.rc r), fun s y r => by rw [h.m]; exact s y (h.rc r)⟩
end
end K26
set_option Elab.async false
set_option linter.all false
set_option maxRecDepth 100000
set_option maxHeartbeats 4000000
namespace K26
open PySem PySem.Spec PyProof.Rows L2 GX
open C8 (Cal pe_c pe_gc)
section
variable {P : Program} {w : World} {K : PySem.W.Frag} {mg : Str → Option Value} {base : Heap} {Ts : List Addr}
/-! ### papers told -/
def shOf (ds ws : List Nat) (gt : Nat) : List Nat := ws.filter fun w => decide (ds.getD gt 0 ≤ ds.getD w 0 + 1)
theorem cn_deps {n : Net} (ok : n.Ok) {k : Nat} {ds : List Nat} (dl : ds.length = n.many + n.gates.length) (dt : DepsTo n k ds) {gt : Nat} {ws : List Nat} (rs : Rset n [] gt ws) (g1 : n.many ≤ gt) (g2 : gt < n.many + n.gates.length) (l2 : 2 ≤ ds.getD gt 0) : Cn n ws (shOf ds ws gt) gt k := by
  refine ⟨ok, rs, g1, g2, List.mem_filter.mpr ⟨(rs.2 gt).mpr (.here fun z => by cases z), decide_eq_true (by omega)⟩, fun X ris lt out len sep => ?_⟩
  obtain ⟨c, lc, sub⟩ := lc_within ok ris lt sep len
  have h := (dt.at_ gt g1 (by omega)).2 c lc
  have b : maxL (c.map fun x => ds.getD x 0) + 2 ≤ ds.getD gt 0 := by
    by_cases e : 0 < (c.map fun x => ds.getD x 0).length
    · obtain ⟨x, hx, ex⟩ := List.mem_map.mp (maxL_mem e)
      rw [← ex]
      obtain ⟨o1, o2⟩ := out x (sub x hx)
      have : ¬ ds.getD gt 0 ≤ ds.getD x 0 + 1 := fun z => o2 (List.mem_filter.mpr ⟨o1, decide_eq_true z⟩)
      omega
    · have e0 : c.map (fun x => ds.getD x 0) = [] := List.length_eq_zero_iff.mp (by omega)
      rw [e0]
      exact l2
  omega
def entP (n : Net) (k : Nat) (ds : List Nat) (gt : Nat) (ws : List Nat) : Nat × List (List Nat) := (ds.getD gt 0, if ds.getD gt 0 = 1 then [] else apW n ws (shOf ds ws gt) gt k)
structure PapIs (n : Net) (k : Nat) (ds : List Nat) (es : Pap) : Prop where
  len : es.length = n.gates.length
  at_ : ∀ (j : Nat) (e : Nat × List (List Nat)), es[j]? = some e → ∃ ws, Rset n [] (n.many + j) ws ∧ e = entP n k ds (n.many + j) ws
theorem PapIs.uniq {n : Net} {k : Nat} {ds : List Nat} {es es' : Pap} (a : PapIs n k ds es) (b : PapIs n k ds es') : es = es' := by
  refine List.ext_getElem (a.len.trans b.len.symm) fun j h1 h2 => ?_
  obtain ⟨ws, r1, e1⟩ := a.at_ j _ (List.getElem?_eq_getElem h1)
  obtain ⟨ws', r2, e2⟩ := b.at_ j _ (List.getElem?_eq_getElem h2)
  rw [e1, e2, r1.eq r2]
section
variable {n : Net} {k : Nat} {ds : List Nat} {es : Pap}
theorem PapIs.lab (a : PapIs n k ds es) (dl : ds.length = n.many + n.gates.length) (dt : DepsTo n k ds) (x : Nat) (hx : x < n.many + n.gates.length) : (labE n es).getD x 0 = ((ds.getD x 0 : Nat) : Int) := by
  unfold labE
  rw [List.getD_eq_getElem?_getD]
  by_cases h : x < n.many
  · rw [List.getElem?_append_left (by rw [List.length_replicate]; exact h), List.getElem?_replicate, if_pos h, dt.low x h (by omega)]
    rfl
  · rw [List.getElem?_append_right (by rw [List.length_replicate]; omega), List.length_replicate, List.getElem?_map]
    have hl : x - n.many < es.length := by rw [a.len]; omega
    obtain ⟨ws, _, e⟩ := a.at_ (x - n.many) _ (List.getElem?_eq_getElem hl)
    rw [show n.many + (x - n.many) = x by omega] at e
    rw [List.getElem?_eq_getElem hl, e]
    rfl
theorem PapIs.sh (a : PapIs n k ds es) (ok : n.Ok) (dl : ds.length = n.many + n.gates.length) (dt : DepsTo n k ds) : ∀ (j : Nat) (e : Nat × List (List Nat)), es[j]? = some e → ShowsT n k (labE n es) (n.many + j) (e.2.map thWs) := fun j e he => by
  have hj : j < n.gates.length := by rw [← a.len]; exact (List.getElem?_eq_some_iff.mp he).1
  obtain ⟨ws, rs, rfl⟩ := a.at_ j e he
  have g1 : n.many ≤ n.many + j := Nat.le_add_right _ _
  have g2 : n.many + j < n.many + n.gates.length := by omega
  have d1 : 1 ≤ ds.getD (n.many + j) 0 := deps_one dt g1 (by omega)
  have lg := a.lab dl dt (n.many + j) g2
  unfold ShowsT
  rw [lg]
  by_cases h : ds.getD (n.many + j) 0 = 1
  · refine .inl ⟨by rw [h]; rfl, ?_⟩
    unfold entP
    rw [if_pos h]
    rfl
  · have c := cn_deps ok dl dt rs g1 g2 (by omega)
    obtain ⟨w1, w2, w3⟩ := c.ways
    refine .inr ⟨by omega, apW n ws (shOf ds ws (n.many + j)) (n.many + j) k, ?_, w1, fun xs hx => (w2 xs hx).1, fun i l hil hl => List.all_eq_true.mpr fun x hx => ?_⟩
    · unfold entP
      rw [if_neg h]
    · by_cases hm : x ∈ (apW n ws (shOf ds ws (n.many + j)) (n.many + j) k).getD l []
      · have hs := of_decide_eq_true (List.mem_filter.mp (w3 i l hil hl x hx hm)).2
        have xw := (List.mem_filter.mp (w3 i l hil hl x hx hm)).1
        have xl := ((rs.2 x).mp xw).le ok
        rw [a.lab dl dt x (by omega), decide_eq_true hm, Bool.not_true, Bool.false_or]
        exact decide_eq_true (by omega)
      · rw [decide_eq_false hm]
        rfl
theorem PapIs.ok (a : PapIs n k ds es) (nok : n.Ok) (dl : ds.length = n.many + n.gates.length) (dt : DepsTo n k ds) (hk : k ≤ 50) : PapOk n es := by
  have all : ∀ e ∈ es, ∃ j ws, j < n.gates.length ∧ Rset n [] (n.many + j) ws ∧ e = entP n k ds (n.many + j) ws := fun e he => by
    obtain ⟨j, hj⟩ := List.getElem?_of_mem he
    obtain ⟨ws, r, e1⟩ := a.at_ j e hj
    exact ⟨j, ws, by rw [← a.len]; exact (List.getElem?_eq_some_iff.mp hj).1, r, e1⟩
  refine ⟨a.len, fun e he => ?_, fun e he => ?_, fun e he xs hx => ?_⟩
  · obtain ⟨j, ws, hj, r, rfl⟩ := all e he
    exact deps_one dt (Nat.le_add_right _ _) (by omega)
  · obtain ⟨j, ws, hj, r, rfl⟩ := all e he
    unfold entP
    by_cases h : ds.getD (n.many + j) 0 = 1
    · rw [if_pos h]
      exact Nat.zero_le _
    · rw [if_neg h]
      show (apW n ws (shOf ds ws (n.many + j)) (n.many + j) k).length ≤ 100
      have : (apW n ws (shOf ds ws (n.many + j)) (n.many + j) k).length = k + 1 := drawN_len _ _ _ _
      omega
  · obtain ⟨j, ws, hj, r, rfl⟩ := all e he
    unfold entP at hx
    have d1 : 1 ≤ ds.getD (n.many + j) 0 := deps_one dt (Nat.le_add_right _ _) (by omega)
    by_cases h : ds.getD (n.many + j) 0 = 1
    · rw [if_pos h] at hx
      cases hx
    · rw [if_neg h] at hx
      have c := cn_deps nok dl dt r (Nat.le_add_right _ _) (show n.many + j < n.many + n.gates.length by omega) (by omega)
      obtain ⟨w1, w2⟩ := c.ways.2.1 xs hx
      exact ⟨by omega, w1.lt⟩
end
theorem rset_ex (n : Net) (ok : n.Ok) {gt : Nat} (g2 : gt < n.many + n.gates.length) : ∃ ws, Rset n [] gt ws := by
  classical
  refine ⟨(List.range (n.many + n.gates.length)).filter fun y => decide (Rc n [] gt n.many y), List.Pairwise.filter _ List.pairwise_lt_range, fun y => ?_⟩
  rw [List.mem_filter, List.mem_range]
  refine ⟨fun h => of_decide_eq_true h.2, fun h => ⟨?_, decide_eq_true h⟩⟩
  have := h.le ok
  omega
def spGatePaper (Ts : List Addr) : Sp := fun vs H Q _ => ∃ (a : Addr) (n : Net) (g o : Addr) (ps : List Addr) (gt k : Nat) (la : Addr) (ds : List Nat), vs = [.ref a, nV gt, nV k, .ref la] ∧ NetAt H a n g o ps ∧ n.Ok ∧ n.many ≤ gt ∧ gt < n.many + n.gates.length ∧ k ≤ 50 ∧ H la = some (.tup (ds.map nV)) ∧ ds.length = n.many + n.gates.length ∧ DepsTo n k ds ∧ Tabs Ts H ∧
  ∀ p H' ws, Aft Ts H H' → Rset n [] gt ws → EntAt H' p (entP n k ds gt ws) → Q (.ref p) H'
theorem ok_gate_paper {f c : Addr} (D : Dfn K mg "gate_paper" s_gate_paper f c) (T : Txt mg) (c_cone : Cal P w K mg base 3 "cone" (spCone Ts) []) (c_apart_ways : Cal P w K mg base 5 "apart_ways" (spApartW Ts) []) : Cal P w K mg base 6 "gate_paper" (spGatePaper Ts) [] := by
  refine cal D (fun _ _ _ _ _ _ us hl => match us, hl with | [_, _, _, _], _ => rfl) sc_gate_paper (fun vs H Q E h => ?_) (fun A outer s H vs Q E hr h => ?_)
  · obtain ⟨a, n, g, o, ps, gt, k, la, ds, rfl, _⟩ := h
    rfl
  · obtain ⟨a, n, g, o, ps, gt, k, la, ds, rfl, N0, ok, g1, g2, k50, hla, dl, dt, tb, q⟩ := h
    refine ⟨_, (pss_cons (ps_set (i := 4) sc_gate_paper.nd rfl (by first | exact Or.inl rfl | exact Or.inr rfl) (pe_ix ix_tup (pv 3) (pv 1) (fun _ _ => rfl)))
      (pss_cons (ps_if (pt_cmpR op_eq (pv 4) pe_int (nomark _)) (pss_one (ps_ret (pe_tup (pa_cons (pv 4) (pa_cons (pe_tup pa_nil) pa_nil))))) pss_nil)
      (pss_cons (ps_setLc (i := 5) (own := [("wire", 6)]) (g := gName 6)  rfl sc_gate_paper.nd rfl rfl (sw_true rfl rfl rfl (by decide +kernel)) (pi_tup (pe_c c_cone hr (by decide) (by rfl) (pa_cons (pv 0) (pa_cons (pv 1) pa_nil)))) (blkOk_by (own := [("wire", 6)]) (N := ["net", "gate", "k", "labels", "label", "shared", "wire"]) (sc := defScope s_gate_paper) (by decide +kernel)) (fun _ _ _ _ _ => (pg_name (i := 6) sc_gate_paper.nd rfl (by first | exact Or.inl rfl | exact Or.inr rfl))) (fun _ _ _ _ _ => (pts_one (pt_cmpR op_ge (pe_ix (ix_tupK (K := K)) (pv 3) (pv 6) (fun _ _ => rfl)) (pe_op op_sub (pv 4) pe_int) (nomark _)))) (fun _ _ _ _ _ => (pv 6)))
      (pss_one (ps_ret (pe_tup (pa_cons (pv 4) (pa_cons (pe_c c_apart_ways hr (by decide) (by rfl) (pa_cons (pv 0) (pa_cons (pv 1) (pa_cons (pv 5) (pa_cons (pe_op op_add (pv 2) pe_int) pa_nil))))) pa_nil)))))))), ?_⟩
    have m8 := ok.m8
    have g16 := ok.g16
    have d1 : 1 ≤ ds.getD gt 0 := deps_one dt g1 (by omega)
    have glt : gt < ds.length := by omega
    refine ⟨_, rfl, _, rfl, la, _, _, _, rfl, rfl, SqT.of hla, atI_nat (natAt glt), ?_⟩
    refine ⟨_, rfl, rfl, _, rfl, ?_⟩
    by_cases h1 : ds.getD gt 0 = 1
    · rw [decide_eq_true (show nV (ds.getD gt 0) = V.int 1 by rw [h1]; rfl)]
      refine iteT ?_
      refine ⟨_, rfl, small 0, fun p0 np0 => ⟨small 2, fun p np => ?_⟩⟩
      obtain ⟨ws, rs⟩ := rset_ex n ok g2
      have s0 := Same.new (o := .tup []) np0
      have s1 := Same.new (o := .tup [nV (ds.getD gt 0), .ref p0]) np
      refine q p _ ws (Aft.ofSame tb (s0.trans s1)) rs ⟨p0, [], ?_, ?_, ?_⟩
      · exact upd_same
      · exact s1 _ _ upd_same
      · unfold entP
        rw [if_pos h1]
        exact RefsAt.nil _ _
    · rw [decide_eq_false (show ¬ nV (ds.getD gt 0) = V.int 1 from fun z => h1 (by have := V.int.inj z; omega))]
      refine iteF ?_
      refine ⟨_, rfl, _, rfl, a, n, g, o, ps, gt, rfl, N0, ok, g2, tb, fun p1 H1 ws a1 hp1 rs => ?_⟩
      have hla1 := a1.tup tb hla
      have N1 := N0.aft tb a1
      have wl : ws.length ≤ 24 := by
        have wnd : ws.Nodup := List.nodup_iff_pairwise_ne.mpr (rs.1.imp fun h => by omega)
        have := wnd.length_le_of_subset (l₂ := List.range 24) fun w hw => List.mem_range.mpr (by have := ((rs.2 w).mp hw).le ok; omega)
        rwa [List.length_range] at this
      refine ⟨p1, rfl, ⟨_, SqT.of hp1⟩, fun M nM => ?_⟩
      refine lc_tup (K := K) (a := p1) (xs := ws.map nV) (fun i H' => Own H1 H' M (((ws.take i).filter fun w => decide (ds.getD gt 0 ≤ ds.getD w 0 + 1)).map nV)) ⟨Same.new nM, upd_same, nM⟩ (fun i H' _ o' => SqT.of (o'.sm _ _ hp1)) ?_ ?_
      · rintro i x H2 hx o2
        obtain ⟨w, hw, rfl⟩ : ∃ w, ws[i]? = some w ∧ x = nV w := by
          rw [List.getElem?_map] at hx
          obtain ⟨w, e1, e2⟩ := Option.map_eq_some_iff.mp hx
          exact ⟨w, e1, e2.symm⟩
        have ww := List.mem_of_getElem? hw
        have wlt : w < ds.length := by have := ((rs.2 w).mp ww).le ok; omega
        have hil : i < ws.length := (List.getElem?_eq_some_iff.mp hw).1
        have le : (((ws.take i).filter fun w => decide (ds.getD gt 0 ≤ ds.getD w 0 + 1)).map nV).length ≤ 24 := by
          rw [List.length_map]
          refine Nat.le_trans (List.length_filter_le _ _) ?_
          rw [List.length_take]
          omega
        have nx : ((ws.take (i + 1)).filter fun w => decide (ds.getD gt 0 ≤ ds.getD w 0 + 1)) = (ws.take i).filter (fun w => decide (ds.getD gt 0 ≤ ds.getD w 0 + 1)) ++ (if decide (ds.getD gt 0 ≤ ds.getD w 0 + 1) = true then [w] else []) := by
          rw [List.take_add_one, hw, Option.toList_some, List.filter_append, List.filter_cons, List.filter_nil]
        refine ⟨rfl, ?_⟩
        refine ⟨_, rfl, _, rfl, la, _, _, _, rfl, rfl, SqT.of (o2.sm _ _ hla1), atI_nat (natAt wlt), _, rfl, _, _, rfl, rfl, _, _, rfl, rfl, _, rfl, ite2 (fun h => ?_) (fun h => ?_)⟩
        · have h : ds.getD gt 0 ≤ ds.getD w 0 + 1 := by have := of_decide_eq_true h; omega
          refine ⟨_, rfl, _, o2.at_, small256 (by omega), ?_⟩
          rw [nx, if_pos (decide_eq_true h), List.map_append]
          exact o2.app
        · rw [nx, if_neg (fun z => h (decide_eq_true (by have := of_decide_eq_true z; omega))), List.append_nil]
          exact o2
      · rintro H2 o2
        rw [List.length_map, List.take_length] at o2
        have cn := cn_deps ok dl dt rs g1 g2 (by omega)
        have shl : (shOf ds ws gt).length ≤ 100 := Nat.le_trans (List.length_filter_le _ _) (by omega)
        have a12 := Aft.ofSame a1.tb o2.sm
        refine ⟨_, rfl, _, rfl, _, rfl, _, rfl, _, rfl, _, _, rfl, rfl, a, n, g, o, ps, gt, M, shOf ds ws gt, ws, k, rfl, N1.same o2.sm, o2.at_, shl, cn, by omega, a12.tb, fun p2 us H3 a3 hp2 t3 => ⟨small 2, fun p np => ?_⟩⟩
        have s4 := Same.new (o := .tup [nV (ds.getD gt 0), .ref p2]) np
        refine q p _ ws (((a1.trans a12).trans a3).trans (Aft.ofSame a3.tb s4)) rs ⟨p2, us, upd_same, s4 _ _ hp2, ?_⟩
        unfold entP
        rw [if_neg h1]
        exact t3.mono fun b xs e => s4 _ _ e
def spDepthPaper (Ts : List Addr) : Sp := fun vs H Q _ => ∃ (a : Addr) (n : Net) (g o : Addr) (ps : List Addr) (k : Nat), vs = [.ref a, nV k] ∧ NetAt H a n g o ps ∧ n.Ok ∧ 2 ≤ k ∧ k ≤ 50 ∧ Tabs Ts H ∧
  ∀ p H' ds es qs, Aft Ts H H' → ds.length = n.many + n.gates.length → DepsTo n k ds → PapIs n k ds es → PapAt H' p es qs → Q (.ref p) H'
theorem ok_depth_paper {f c PA : Addr} (D : Dfn K mg "depth_paper" s_depth_paper f c) (T : Txt mg) (c_depths : Cal P w K mg base 5 "depths" (spDepths Ts) []) (c_gate_paper : Cal P w K mg base 6 "gate_paper" (spGatePaper Ts) []) (c_wires_in : Cal P w K mg base 1 "wires_in" spWires []) (TB_depth_paper : GxR.TabB base mg c PA) (hP : PA ∈ Ts) : Cal P w K mg base 8 "depth_paper" (spDepthPaper Ts) [] := by
  refine cal D (fun _ _ _ _ _ _ us hl => match us, hl with | [_, _], _ => rfl) sc_depth_paper (fun vs H Q E h => ?_) (fun A outer s H vs Q E hr h => ?_)
  · obtain ⟨a, n, g, o, ps, k, rfl, _⟩ := h
    rfl
  · obtain ⟨a, n, g, o, ps, k, rfl, N0, ok, k2, k50, tb, q⟩ := h
    refine ⟨_, (pss_cons (ps_set (i := 2) sc_depth_paper.nd rfl (by first | exact Or.inl rfl | exact Or.inr rfl) (pe_c c_depths hr (by decide) (by rfl) (pa_cons (pv 0) (pa_cons (pv 1) pa_nil))))
      (pss_one (ps_ret (pe_tupG (own := [("gate", 3)]) hr (by rfl) T.b_tuple TB_depth_paper rfl (gxOk_by (N := ["net", "k", "labels", "gate"]) (sc := defScope s_depth_paper) (own := [("gate", 3)]) (by decide +kernel)) sc_depth_paper.nd (pi_range2 (by rfl) T.b_range (pa_cons (pe_ix ix_tup (pv 0) pe_int (fun _ _ => rfl)) (pa_cons (pe_c c_wires_in hr (by decide) (by rfl) (pa_cons (pv 0) pa_nil)) pa_nil))) (fun _ _ _ _ => (pg_name (i := 3) sc_depth_paper.nd rfl (by first | exact Or.inl rfl | exact Or.inr rfl))) (fun _ _ _ _ => pts_nil) (fun _ _ _ _ => (pe_c c_gate_paper (GX.Room.gx4 hr) (by decide) (by rfl) (pa_cons (pv 0) (pa_cons (pv 3) (pa_cons (pv 1) (pa_cons (pv 2) pa_nil)))))))))), ?_⟩
    have m8 := ok.m8
    have g16 := ok.g16
    refine ⟨_, rfl, _, rfl, a, n, g, o, ps, k, rfl, N0, ok, k2, by omega, tb, fun la H1 ds a1 hla dl dt => ?_⟩
    have N1 := N0.aft tb a1
    have tb1 := a1.tb
    refine ⟨_, rfl, a, _, 0, _, rfl, rfl, SqT.of N1.top, at0, _, rfl, a, n, g, o, ps, rfl, N1, _, _, rfl, ⟨by omega, by omega, by omega, by omega⟩, tb1 PA hP, fun H2 ht => ?_⟩
    have a2 : Aft Ts H1 H2 := ⟨Keep.tabbed hP ht, tb1.tabbed ht⟩
    refine turns_it (walk_range (lo := ((n.many : Nat) : Int)) (n := (((n.many + n.gates.length : Nat) : Int) - ((n.many : Nat) : Int)).toNat)) (fun i ys H' => ∃ (rs : List Addr) (es : Pap), ys = rs.map V.ref ∧ PtsAt EntAt H' rs es ∧ es.length = i ∧ (∀ (j : Nat) (e : Nat × List (List Nat)), es[j]? = some e → ∃ ws, Rset n [] (n.many + j) ws ∧ e = entP n k ds (n.many + j) ws) ∧ Aft Ts H1 H') ⟨[], [], rfl, PtsAt.nil _ _, rfl, fun i t e => (by simp at e), a2⟩ (fun i ys H' _ _ => trivial) ?_ ?_
    · rintro i x ys H3 H4 hi ⟨rs, es, rfl, PT, el, ch, a3⟩ ⟨rfl, rfl⟩
      rw [show (((n.many + n.gates.length : Nat) : Int) - ((n.many : Nat) : Int)).toNat = n.gates.length by omega] at hi
      have ei : V.int (((n.many : Nat) : Int) + ((i : Nat) : Int)) = nV (n.many + i) := congrArg V.int (by omega)
      show gName 3 (V.int (((n.many : Nat) : Int) + ((i : Nat) : Int))) _ _ _
      rw [ei]
      refine ⟨rfl, ?_⟩
      unfold tYes
      refine iteT ?_
      refine ⟨_, rfl, _, rfl, _, rfl, _, rfl, a, n, g, o, ps, n.many + i, k, la, ds, rfl, N1.aft tb1 a3, ok, Nat.le_add_right _ _, by omega, k50, a3.tup tb1 hla, dl, dt, a3.tb, fun p H5 ws a5 r5 e5 => ?_⟩
      refine ⟨?_, fun _ => ⟨rs ++ [p], es ++ [entP n k ds (n.many + i) ws], by rw [List.map_append]; rfl, PtsAt.push (PT.mono fun p x hx => EntAt.mono (fun b xs e => a5.tup a3.tb e) hx) e5, by rw [List.length_append, el]; rfl, fun j t e => ?_, a3.trans a5⟩⟩
      · show (List.map V.ref rs).length < sizeLine
        rw [List.length_map, PT.1, el]
        exact small256 (by omega)
      · by_cases hj : j < es.length
        · rw [List.getElem?_append_left hj] at e
          exact ch j t e
        · have : j = i := by
            have := (List.getElem?_eq_some_iff.mp e).1
            rw [List.length_append] at this
            have : j < es.length + 1 := this
            omega
          subst this
          rw [List.getElem?_append_right (by omega), el, Nat.sub_self] at e
          cases e
          exact ⟨ws, r5, rfl⟩
    · rintro ys H3 ⟨rs, es, rfl, PT, el, ch, a3⟩
      rw [show (((n.many + n.gates.length : Nat) : Int) - ((n.many : Nat) : Int)).toNat = n.gates.length by omega] at el
      refine ⟨by rw [List.length_map, PT.1, el]; exact small _ (by omega), fun tp ntp => ?_⟩
      have s6 := Same.new (o := .tup (rs.map V.ref)) ntp
      exact q tp _ ds es rs ((a1.trans a3).trans (Aft.ofSame a3.tb s6)) dl dt ⟨el, ch⟩ ⟨upd_same, PT.mono fun p x hx => EntAt.mono (fun b xs e => s6 _ _ e) hx⟩
end
end K26
set_option Elab.async false
set_option linter.all false
set_option maxRecDepth 100000
set_option maxHeartbeats 4000000
/-! A list or a tuple of anything, held against an empty one. -/
namespace GX
open PySem PySem.Spec PyProof.Rows L2
def rEq0 (K : PySem.W.Frag) : R2 := fun x y H Q => ∃ (a b : Addr) (xs : List V), x = .ref a ∧ y = .ref b ∧ ((SqT K H a xs ∧ SqT K H b []) ∨ (SqL K H a xs ∧ SqL K H b [])) ∧ Q (.bl (decide (xs.length = 0))) H
def rNe0 (K : PySem.W.Frag) : R2 := fun x y H Q => ∃ (a b : Addr) (xs : List V), x = .ref a ∧ y = .ref b ∧ ((SqT K H a xs ∧ SqT K H b []) ∨ (SqL K H a xs ∧ SqL K H b [])) ∧ Q (.bl (!decide (xs.length = 0))) H
theorem vals_nil {its : List Value} (h : Vals [] its) : its = [] := by cases h; rfl
theorem op_eq0 {X : Cx} (hu : X.A.units < cLine) : OpR X (compareOp .Eq) (rEq0 X.K) := by
  intro pins s σ H x y v u Q I rx ry h
  obtain ⟨a, b, xs, rfl, rfl, hh, q⟩ := h
  cases rx
  cases ry
  rcases hh with ⟨ha, hb⟩ | ⟨ha, hb⟩
  · obtain ⟨its, r, ⟨o, e, c, n, d⟩, _⟩ := I.tuple ha
    obtain ⟨its2, r2, ⟨o2, e2, c2, n2, d2⟩, _⟩ := I.tuple hb
    obtain rfl := vals_nil r2
    have hl : its.length = xs.length := r.length.symm
    refine PySem.SeqAt.eq_tupleAt (items := its.toArray) (items2 := #[]) (e := fun _ => true) ⟨o, e, c, n, d⟩ ⟨o2, e2, c2, n2, d2⟩ hu (fun j h1 h2 => by simp at h2) ⟨.bl (decide (xs.length = 0)), H, I, ?_, q⟩
    show Value.bool _ = Value.bool _
    congr 1
    cases xs with
    | nil => simp [hl]
    | cons _ _ => simp [hl]
  · obtain ⟨its, r, ⟨o, n, e, c, d0, d⟩, _⟩ := I.list ha
    obtain ⟨its2, r2, ⟨o2, n2, e2, c2, d02, d2⟩, _⟩ := I.list hb
    obtain rfl := vals_nil r2
    have hl : its.length = xs.length := r.length.symm
    by_cases h0 : xs.length = 0
    · refine PySem.SeqAt.eq_listAt (items := its.toArray) (items2 := #[]) (e := fun _ => true) ⟨o, e, c, n, d⟩ ⟨o2, e2, c2, n2, d2⟩ (by simp [hl, h0]) hu (fun j h1 h2 => by simp at h2) ⟨.bl (decide (xs.length = 0)), H, I, ?_, q⟩
      show Value.bool _ = Value.bool _
      simp [h0]
    · refine PySem.SeqAt.eq_list_lengthsAt (items := its.toArray) (items2 := #[]) ⟨o, e, c, n, d⟩ ⟨o2, e2, c2, n2, d2⟩ (by simp [hl, h0]) hu ⟨.bl (decide (xs.length = 0)), H, I, ?_, q⟩
      show Value.bool _ = Value.bool _
      simp [h0]
theorem op_ne0 {X : Cx} (hu : X.A.units < cLine) : OpR X (compareOp .NotEq) (rNe0 X.K) := by
  intro pins s σ H x y v u Q I rx ry h
  obtain ⟨a, b, xs, rfl, rfl, hh, q⟩ := h
  cases rx
  cases ry
  rcases hh with ⟨ha, hb⟩ | ⟨ha, hb⟩
  · obtain ⟨its, r, ⟨o, e, c, n, d⟩, _⟩ := I.tuple ha
    obtain ⟨its2, r2, ⟨o2, e2, c2, n2, d2⟩, _⟩ := I.tuple hb
    obtain rfl := vals_nil r2
    have hl : its.length = xs.length := r.length.symm
    refine PySem.SeqAt.RcNeAt.tuples (items := its.toArray) (items2 := #[]) (e := fun _ => true) ⟨o, e, c, n, d⟩ ⟨o2, e2, c2, n2, d2⟩ hu (fun j h1 h2 => by simp at h2) X.prog X.w _ _ ⟨.bl (!decide (xs.length = 0)), H, I, ?_, q⟩
    show Value.bool _ = Value.bool _
    congr 1
    cases xs with
    | nil => simp [hl]
    | cons _ _ => simp [hl]
  · obtain ⟨its, r, ⟨o, n, e, c, d0, d⟩, _⟩ := I.list ha
    obtain ⟨its2, r2, ⟨o2, n2, e2, c2, d02, d2⟩, _⟩ := I.list hb
    obtain rfl := vals_nil r2
    have hl : its.length = xs.length := r.length.symm
    by_cases h0 : xs.length = 0
    · refine PySem.SeqAt.RcNeAt.lists (items := its.toArray) (items2 := #[]) (e := fun _ => true) ⟨o, e, c, n, d⟩ ⟨o2, e2, c2, n2, d2⟩ (by simp [hl, h0]) hu (fun j h1 h2 => by simp at h2) X.prog X.w _ _ ⟨.bl (!decide (xs.length = 0)), H, I, ?_, q⟩
      show Value.bool _ = Value.bool _
      simp [h0]
    · refine PySem.SeqAt.RcNeAt.lists_lengths (items := its.toArray) (items2 := #[]) ⟨o, e, c, n, d⟩ ⟨o2, e2, c2, n2, d2⟩ (by simp [hl, h0]) hu X.prog X.w _ _ ⟨.bl (!decide (xs.length = 0)), H, I, ?_, q⟩
      show Value.bool _ = Value.bool _
      simp [h0]
end GX
set_option Elab.async false
set_option linter.all false
set_option maxRecDepth 100000
set_option maxHeartbeats 4000000
namespace K26
open PySem PySem.Spec PyProof.Rows L2 GX
open C8 (Cal pe_c pe_gc)
section
variable {P : Program} {w : World} {K : PySem.W.Frag} {mg : Str → Option Value} {base : Heap} {Ts : List Addr}
/-! ### the law's own judge, of papers of the right form -/
theorem way_le {n : Net} (ok : n.Ok) {g : Nat} {xs : List Nat} (W : Way n g xs) : ∀ d i, i + d + 1 = xs.length → xs.getD i 0 ≤ g := by
  intro d
  induction d with
  | zero =>
    intro i hi
    have := W.last
    rw [show xs.length - 1 = i by omega] at this
    omega
  | succ d ih =>
    intro i hi
    obtain ⟨h1, k, hk, h2⟩ := W.steps i (by omega)
    have h3 := ih (i + 1) (by omega)
    have gk := ok.gs _ k hk
    have p1 := gk.2.1
    have p2 := gk.2.2
    omega
theorem eqv_int (x y : Int) : PyData.eqv (.int x) (.int y) = decide (x = y) := by
  rw [PyData.eqv]
  rw [Bool.eq_iff_iff, beq_iff_eq, decide_eq_true_iff]
def nbT : Th → Bool
  | .int _ => true
  | .bl _ => true
  | _ => false
theorem nats_of {H : Hp} : ∀ {xs : List Nat} {vs : List V}, RepAll H vs (xs.map thW) → vs = xs.map nV
  | [], _, .nil => rfl
  | x :: r, _, .cons a b => by
    rw [List.map_cons, ← nats_of b]
    congr 1
    unfold thW at a
    cases a
    rfl
def spLWayT : Sp := fun vs H Q _ => ∃ (a : Addr) (n : Net) (g o : Addr) (ps : List Addr) (gt : Nat) (v : V) (t : Th), vs = [.ref a, nV gt, v] ∧ NetAt H a n g o ps ∧ n.Ok ∧ Rep H v t ∧ (∀ ts, t = .tup ts → ts.length ≤ 1000 ∧ ∀ x ∈ ts, nbT x = true) ∧ n.many ≤ gt ∧ gt < n.many + n.gates.length ∧ ∀ (b : Bool) H', (b = true ↔ ∃ xs, t = thWs xs ∧ Way n gt xs) → Same H H' → Q (.bl b) H'
theorem ok_lwayT {f c : Addr} (D : Dfn K mg "_law_is_way" s__law_is_way f c) (T : Txt mg) : Cal P w K mg base 1 "_law_is_way" spLWayT [] := by
  refine cal D (fun _ _ _ _ _ _ us hl => match us, hl with | [_, _, _], _ => rfl) sc__law_is_way (fun vs H Q E h => ?_) (fun A outer s H vs Q E hr h => ?_)
  · obtain ⟨a, n, g, o, ps, gt, v, t, rfl, _⟩ := h
    rfl
  · obtain ⟨a, n, g, o, ps, gt, v, t, rfl, N, ok, r, nb, hm, hgt, q⟩ := h
    refine ⟨_, (pss_cons (ps_if (PW.pt (pw_or (pt_not (pt_val (pe_callB call_isi (by rfl) T.b_isinstance (by decide +kernel) (pa_cons (pv 2) (pa_cons (pe_bltn (v := .ty "tuple") (by rfl) T.b_tuple (by decide +kernel) rfl) pa_nil))))) (pw_or (pt_cmpR (op_eq0 hr.units0) (pv 2) (pe_tup pa_nil) (nomark _)) (pw_or1 (pt_cmpR (op_neD hr.units) (pe_ix ix_tup (pv 2) (pe_un un_neg pe_int) (fun _ _ => rfl)) (pv 1) (nomark _)))))) (pss_one (ps_ret pe_bl)) pss_nil)
      (pss_cons (ps_for PassesOwn.never rfl (pi_tup (pv 2)) (pg_name (i := 3) sc__law_is_way.nd rfl (by first | exact Or.inl rfl | exact Or.inr rfl))
        (pss_one (ps_if (PW.pt (pw_or (pt_val (pe_callB call_isi (by rfl) T.b_isinstance (by decide +kernel) (pa_cons (pv 3) (pa_cons (pe_bltn (v := .ty "bool") (by rfl) T.b_bool (by decide +kernel) rfl) pa_nil)))) (pw_or (pt_not (pt_val (pe_callB call_isi (by rfl) T.b_isinstance (by decide +kernel) (pa_cons (pv 3) (pa_cons (pe_bltn (v := .ty "int") (by rfl) T.b_int (by decide +kernel) rfl) pa_nil))))) (pw_or1 (pt_not (pt_chain op_le op_le pe_int (pv 3) (pv 1))))))) (pss_one (ps_ret pe_bl)) pss_nil)))
      (pss_cons (ps_if (pt_cmpR op_ge (pe_ix ix_tup (pv 2) pe_int (fun _ _ => rfl)) (pe_ix ix_tup (pv 0) pe_int (fun _ _ => rfl)) (nomark _)) (pss_one (ps_ret pe_bl)) pss_nil)
      (pss_one (ps_ret (pe_cmpR (op_eq0 hr.units0) (pe_lc (own := [("_law_k", 4)]) (g := gName 4)  rfl sc__law_is_way.nd (pi_range2 (by rfl) T.b_range (pa_cons pe_int (pa_cons (pe_callB call_len_seq (by rfl) T.b_len (by decide +kernel) (pa_cons (pv 2) pa_nil)) pa_nil))) (blkOk_by (own := [("_law_k", 4)]) (N := ["_law_net_here", "_law_gate_here", "_law_way", "_law_wire", "_law_k"]) (sc := defScope s__law_is_way) (by decide +kernel)) (fun _ _ _ _ _ => (pg_name (i := 4) sc__law_is_way.nd rfl (by first | exact Or.inl rfl | exact Or.inr rfl))) (fun _ _ _ _ _ => (pts_one (PW.pt (pw_or (pt_cmpR op_lt (pe_ix (ix_tupK (K := K)) (pv 2) (pv 4) (fun _ _ => rfl)) (pe_ix (ix_tupK (K := K)) (pv 0) pe_int (fun _ _ => rfl)) (nomark _)) (pw_or1 (pt_cmpR (op_notIn_seqK (K := K)) (pe_ix (ix_tupK (K := K)) (pv 2) (pe_op op_sub (pv 4) pe_int) (fun _ _ => rfl)) (pe_slice (sl_tupAK (K := K)) (pe_ix (ix_tupK (K := K)) (pe_ix (ix_tupK (K := K)) (pv 0) pe_int (fun _ _ => rfl)) (pe_op op_sub (pe_ix (ix_tupK (K := K)) (pv 2) (pv 4) (fun _ _ => rfl)) (pe_ix (ix_tupK (K := K)) (pv 0) pe_int (fun _ _ => rfl))) (fun _ _ => rfl)) (po_some pe_int) po_none) (by rfl))))))) (fun _ _ _ _ _ => (pv 4))) (pe_lst pa_nil) (nomark _))))))), ?_⟩
    by_cases good : ∃ xs, t = thWs xs
    case neg =>
      have qf : ∀ H', Same H H' → Q (.bl false) H' := fun H' s => q false H' ⟨fun z => (by cases z), fun ⟨xs, e, _⟩ => absurd ⟨xs, e⟩ good⟩ s
      refine ⟨_, rfl, _, _, _, _, t.kTup, rfl, .ty "tuple", tyx r, kit_ty (kTup_ok t), _, rfl, ite2 (fun h1 => qf H (Same.refl H)) (fun h1 => ?_)⟩
      obtain ⟨p, vs, ts, rfl, rfl, hp, ra⟩ := r.tupI h1
      obtain ⟨tl, nb⟩ := nb ts rfl
      have vl := ra.length
      have l0 : 0 < ts.length := Nat.pos_of_ne_zero fun z => good ⟨[], by rw [List.length_eq_zero_iff.mp z]; rfl⟩
      refine ⟨_, rfl, small 0, fun e ne => ?_⟩
      have s1 := Same.new (o := .tup []) ne
      refine ⟨p, e, _, rfl, rfl, .inl ⟨SqT.of (s1 _ _ hp), SqT.of upd_same⟩, _, rfl, ?_⟩
      have hp1 := s1 _ _ hp
      have ra1 := ra.mono (KeepT.same s1)
      generalize upd H e (.tup []) = H1 at s1 hp1 ra1 ⊢
      rw [decide_eq_false (by omega)]
      refine iteF ?_
      have hlast : vs[vs.length - 1]? = some vs[vs.length - 1] := List.getElem?_eq_getElem (by omega)
      obtain ⟨tz, htz, rz⟩ := ra1.get hlast
      have nz := nb tz (List.mem_of_getElem? htz)
      have dz : ∃ d, Dp K H1 vs[vs.length - 1] d ∧ SeqAt.shaped d = true := by
        generalize vs[vs.length - 1] = y at rz
        cases rz with
        | bl c => exact ⟨_, .bl c, rfl⟩
        | int i => exact ⟨_, .int i, rfl⟩
        | _ => cases nz
      obtain ⟨dd, hd1, hd2⟩ := dz
      refine ⟨_, rfl, _, rfl, p, _, -1, _, rfl, rfl, SqT.of hp1, atI_last hlast, _, rfl, dd, .int ((gt : Nat) : Int), hd1, .int _, hd2, rfl, _, rfl, ite2 (fun h2 => qf _ s1) (fun h2 => ?_)⟩
      refine ⟨_, rfl, p, rfl, ⟨_, SqT.of hp1⟩, ?_⟩
      refine for_tup (K := K) (a := p) (xs := vs) (fun i σ H' => ∃ x3 : Option V, σ = [some (.ref a), some (nV gt), some (.ref p), x3, none] ∧ H' = H1 ∧ ∃ ms : List Nat, ts.take i = ms.map thW) ⟨none, rfl, rfl, [], rfl⟩ ?_ ?_ ?_
      · rintro i σ H' _ ⟨_, _, rfl, _⟩
        exact SqT.of hp1
      · rintro i x σ H2 hx ⟨x3, rfl, rfl, ms, al⟩
        obtain ⟨ty, hty, ry⟩ := ra1.get hx
        have ny := nb ty (List.mem_of_getElem? hty)
        cases ry with
        | bl cb =>
          refine ⟨_, rfl, _, _, _, _, true, rfl, .ty "bool", tyx (.bl _), kit_ty (kBool_ok (.bl _)), _, rfl, iteT ?_⟩
          exact qf _ s1
        | int z =>
          refine ⟨_, rfl, _, _, _, _, false, rfl, .ty "bool", tyx (.int _), kit_ty (kBool_ok (.int _)), _, rfl, iteF ?_⟩
          refine ⟨_, rfl, _, _, _, _, true, rfl, .ty "int", tyx (.int _), kit_ty (kInt_ok (.int _)), _, rfl, iteF ?_⟩
          refine ⟨_, rfl, _, _, rfl, rfl, _, rfl, ?_⟩
          by_cases h0 : 0 ≤ z
          · rw [if_pos (decide_eq_true h0)]
            refine ⟨_, rfl, _, _, rfl, rfl, _, rfl, ?_⟩
            by_cases hx : z ≤ ((gt : Nat) : Int)
            · dsimp -proj only
              rw [decide_eq_true hx]
              refine iteF ?_
              refine ⟨_, rfl, rfl, ms ++ [z.toNat], ?_⟩
              rw [List.take_add_one, hty, al, Option.toList_some, List.map_append]
              congr 1
              show [Th.int z] = [thW z.toNat]
              unfold thW
              rw [show ((z.toNat : Nat) : Int) = z by omega]
            · dsimp -proj only
              rw [decide_eq_false hx]
              exact iteT (qf _ s1)
          · rw [if_neg (fun y => h0 (of_decide_eq_true y))]
            refine ⟨_, rfl, iteT ?_⟩
            exact qf _ s1
        | _ => cases ny
      · rintro σ H2 ⟨x3, rfl, rfl, ms, al⟩
        rw [vl, List.take_length] at al
        exact absurd ⟨ms, by rw [al]; rfl⟩ good
    obtain ⟨xs, rfl⟩ := good
    obtain ⟨x1000, _⟩ := nb _ rfl
    obtain ⟨p, rfl, hp⟩ : ∃ p, v = .ref p ∧ H p = some (.tup (xs.map nV)) := by
      unfold thWs at r
      cases r with
      | tup e ra => rw [nats_of ra] at e; exact ⟨_, rfl, e⟩
    rw [List.length_map] at x1000
    have q : ∀ (b : Bool) H', (b = true ↔ Way n gt xs) → Same H H' → Q (.bl b) H' := fun b H' hb s => q b H' (hb.trans ⟨fun W => ⟨xs, rfl, W⟩, fun ⟨ys, e, W⟩ => by rw [thWs_inj e]; exact W⟩) s
    clear nb r
    have n0 := Same.refl H
    refine ⟨_, rfl, _, _, _, _, true, rfl, .ty "tuple", .base (.tup hp), kit_ty (by decide +kernel), _, rfl, iteF ?_⟩
    refine ⟨_, rfl, small 0, fun e ne => ?_⟩
    have s1 := Same.new (o := .tup []) ne
    refine ⟨p, e, _, rfl, rfl, .inl ⟨SqT.of (s1 _ _ hp), SqT.of upd_same⟩, _, rfl, ?_⟩
    rw [List.length_map]
    have hp1 := s1 _ _ hp
    have N1 := N.same s1
    generalize upd H e (.tup []) = H1 at s1 hp1 N1 ⊢
    refine ite2 (fun h1 => ?_) (fun h1 => ?_)
    · have h1 := of_decide_eq_true h1
      exact q false _ ⟨fun z => (by cases z), fun W => by have := W.ne; omega⟩ s1
    have l0 : 0 < xs.length := Nat.pos_of_ne_zero fun z => h1 (decide_eq_true z)
    have hlast : (xs.map nV)[(xs.map nV).length - 1]? = some (nV (xs.getD (xs.length - 1) 0)) := by
      rw [List.length_map, nat_at (by omega)]
    refine ⟨_, rfl, _, rfl, p, _, -1, _, rfl, rfl, SqT.of hp1, atI_last hlast, _, rfl, .int ((xs.getD (xs.length - 1) 0 : Nat) : Int), .int ((gt : Nat) : Int), .int _, .int _, rfl, rfl, _, rfl, ?_⟩
    rw [eqv_int]
    refine ite2 (fun h2 => ?_) (fun h2 => ?_)
    · refine q false _ ⟨fun z => (by cases z), fun W => ?_⟩ s1
      rw [W.last, decide_eq_true rfl] at h2
      cases h2
    have hl : xs.getD (xs.length - 1) 0 = gt := by
      have := Classical.not_not.mp fun z => h2 (by rw [decide_eq_false z]; rfl)
      omega
    refine ⟨_, rfl, p, rfl, ⟨_, SqT.of hp1⟩, ?_⟩
    refine for_tup (K := K) (a := p) (xs := xs.map nV) (fun i σ H' => ∃ x3 : Option V, σ = [some (.ref a), some (nV gt), some (.ref p), x3, none] ∧ H' = H1 ∧ ∀ j, j < i → xs.getD j 0 ≤ gt) ⟨none, rfl, rfl, fun j h => absurd h (Nat.not_lt_zero _)⟩ ?_ ?_ ?_
    · rintro i σ H' _ ⟨_, _, rfl, _⟩
      exact SqT.of hp1
    · rintro i x σ H2 hx ⟨x3, rfl, rfl, al⟩
      have hi : i < xs.length := by
        have := (List.getElem?_eq_some_iff.mp hx).1
        rwa [List.length_map] at this
      rw [natAt hi] at hx
      cases hx
      refine ⟨_, rfl, _, _, _, _, false, rfl, .ty "bool", tyx (.int _), kit_ty (kBool_ok (.int _)), _, rfl, iteF ?_⟩
      refine ⟨_, rfl, _, _, _, _, true, rfl, .ty "int", tyx (.int _), kit_ty (kInt_ok (.int _)), _, rfl, iteF ?_⟩
      refine ⟨_, rfl, _, _, rfl, rfl, _, rfl, ?_⟩
      rw [if_pos (decide_eq_true (by omega))]
      refine ⟨_, rfl, _, _, rfl, rfl, _, rfl, ?_⟩
      by_cases hx : xs.getD i 0 ≤ gt
      · dsimp -proj only
        rw [decide_eq_true (show ((xs.getD i 0 : Nat) : Int) ≤ ((gt : Nat) : Int) by omega)]
        refine iteF ?_
        refine ⟨_, rfl, rfl, fun j hj => ?_⟩
        by_cases e : j = i
        · rw [e]; exact hx
        · exact al j (by omega)
      · dsimp -proj only
        rw [decide_eq_false (show ¬ ((xs.getD i 0 : Nat) : Int) ≤ ((gt : Nat) : Int) by omega)]
        refine iteT ?_
        exact q false _ ⟨fun z => (by cases z), fun W => absurd (way_le ok W (xs.length - 1 - i) i (by omega)) hx⟩ s1
    · rintro σ H2 ⟨x3, rfl, rfl, al⟩
      rw [List.length_map] at al
      have le : ∀ x ∈ xs, x ≤ gt := fun x hx => by
        obtain ⟨j, hj, rfl⟩ := List.getElem_of_mem hx
        have := al j hj
        rwa [List.getD_eq_getElem?_getD, List.getElem?_eq_getElem hj] at this
      refine ⟨_, rfl, p, _, 0, _, rfl, rfl, SqT.of hp1, atI_nat (j := 0) (nat_at l0), _, rfl, a, _, 0, _, rfl, rfl, SqT.of N1.top, at0, _, _, rfl, rfl, _, rfl, ite2 (fun h3 => ?_) (fun h3 => ?_)⟩
      · have h3' := of_decide_eq_true h3
        exact q false _ ⟨fun z => (by cases z), fun W => by have := W.first; omega⟩ s1
      have h3' : xs.getD 0 0 < n.many := by
        have : ¬ (((xs.getD 0 0 : Nat) : Int) ≥ ((n.many : Nat) : Int)) := fun z => h3 (decide_eq_true z)
        omega
      refine ⟨_, rfl, p, _, rfl, .inr (SqT.of hp1), _, _, rfl, ⟨by omega, by omega, by omega, by rw [List.length_map]; omega⟩, fun M nM => ?_⟩
      refine lc_range (lo := 1) (n := ((((xs.map nV).length : Nat) : Int) - 1).toNat) (fun i H' => ∃ ks : List Nat, Own H2 H' M (ks.map nV) ∧ ks.length ≤ i ∧ (ks = [] ↔ ∀ j, j < i → stB n (xs.getD j 0) (xs.getD (j + 1) 0) = true)) ⟨[], ⟨Same.new nM, upd_same, nM⟩, Nat.zero_le _, fun _ j h => absurd h (Nat.not_lt_zero _), fun _ => rfl⟩ ?_ ?_
      · rintro i H3 hi ⟨ks, o3, kl, kst⟩
        rw [List.length_map] at hi
        refine ⟨rfl, ?_⟩
        have hi2 : i + 1 < xs.length := by omega
        have e1 : (xs.map nV)[i + 1]? = some (nV (xs.getD (i + 1) 0)) := nat_at hi2
        have e0 : (xs.map nV)[i]? = some (nV (xs.getD i 0)) := nat_at (by omega)
        have hp3 := o3.sm _ _ hp1
        have N3 := N1.same o3.sm
        have y1 := le (xs.getD (i + 1) 0) (getD_mem hi2)
        refine ⟨_, rfl, _, rfl, p, _, _, _, rfl, rfl, SqT.of hp3, (by rw [show (1 : Int) + ((i : Nat) : Int) = ((i + 1 : Nat) : Int) by omega]; exact atI_nat e1), _, rfl, a, _, 0, _, rfl, rfl, SqT.of N3.top, at0, _, _, rfl, rfl, _, rfl, ?_⟩
        dsimp -proj only
        have bad : ∀ (H4 : Hp), Own H2 H4 M (ks.map nV) → stB n (xs.getD i 0) (xs.getD (i + 1) 0) = false → Own H2 (upd H4 M (.lst (ks.map nV ++ [V.int (1 + ((i : Nat) : Int))]))) M ((ks ++ [i + 1]).map nV) ∧ (ks ++ [i + 1]).length ≤ i + 1 ∧ (ks ++ [i + 1] = [] ↔ ∀ j, j < i + 1 → stB n (xs.getD j 0) (xs.getD (j + 1) 0) = true) := fun H4 o4 hb => by
          refine ⟨?_, by rw [List.length_append]; show _ + 1 ≤ _; omega, fun z => absurd z (by simp), fun z => ?_⟩
          · rw [List.map_append, show (1 : Int) + ((i : Nat) : Int) = ((i + 1 : Nat) : Int) by omega]
            exact o4.app
          · rw [z i (by omega)] at hb
            cases hb
        have good : stB n (xs.getD i 0) (xs.getD (i + 1) 0) = true → ks.length ≤ i + 1 ∧ (ks = [] ↔ ∀ j, j < i + 1 → stB n (xs.getD j 0) (xs.getD (j + 1) 0) = true) := fun hb => by
          refine ⟨by omega, kst.trans ⟨fun z j hj => ?_, fun z j hj => z j (by omega)⟩⟩
          by_cases e : j = i
          · rw [e]; exact hb
          · exact z j (by omega)
        by_cases hm2 : xs.getD (i + 1) 0 < n.many
        · rw [decide_eq_true (show ((xs.getD (i + 1) 0 : Nat) : Int) < ((n.many : Nat) : Int) by omega)]
          refine iteT ?_
          refine ⟨_, rfl, _, o3.at_, by rw [List.length_map]; exact small256 (by omega), ks ++ [i + 1], ?_⟩
          exact bad _ o3 (by unfold stB; rw [decide_eq_false (by omega)]; rfl)
        · rw [decide_eq_false (show ¬ ((xs.getD (i + 1) 0 : Nat) : Int) < ((n.many : Nat) : Int) by omega)]
          refine iteF ?_
          have hgl : xs.getD (i + 1) 0 - n.many < n.gates.length := by omega
          obtain ⟨gk, hgk⟩ : ∃ gk, n.gates[xs.getD (i + 1) 0 - n.many]? = some gk := ⟨_, List.getElem?_eq_getElem hgl⟩
          have hpl : xs.getD (i + 1) 0 - n.many < ps.length := by rw [N.gs.1]; exact hgl
          have hpj : ps[xs.getD (i + 1) 0 - n.many]? = some ps[xs.getD (i + 1) 0 - n.many] := List.getElem?_eq_getElem hpl
          have hp9 := N3.gs.2 _ _ gk hpj hgk
          have ge : (ps.map V.ref)[xs.getD (i + 1) 0 - n.many]? = some (.ref ps[xs.getD (i + 1) 0 - n.many]) := by rw [List.getElem?_map, hpj]; rfl
          refine ⟨_, rfl, _, rfl, _, _, rfl, rfl, p, _, _, _, rfl, rfl, SqT.of hp3, (by rw [show (1 : Int) + ((i : Nat) : Int) - 1 = ((i : Nat) : Int) by omega]; exact atI_nat e0), ?_⟩
          refine ⟨_, rfl, a, _, 1, _, rfl, rfl, SqT.of N3.top, at1, _, rfl, _, rfl, p, _, _, _, rfl, rfl, SqT.of hp3, (by rw [show (1 : Int) + ((i : Nat) : Int) = ((i + 1 : Nat) : Int) by omega]; exact atI_nat e1), _, rfl, a, _, 0, _, rfl, rfl, SqT.of N3.top, at0, _, _, rfl, rfl, g, _, _, _, rfl, rfl, SqT.of N3.gt, (by rw [show ((xs.getD (i + 1) 0 : Nat) : Int) - ((n.many : Nat) : Int) = ((xs.getD (i + 1) 0 - n.many : Nat) : Int) by omega]; exact atI_nat ge), ?_⟩
          unfold tNoPart
          refine ⟨_, rfl, ?_⟩
          refine slA (lo := some ((1 : Nat) : Int)) (hi := none) hp9 fun r1 H4 s4 e4 => ?_
          rw [cut_lo] at e4
          have e4 : H4 r1 = some (.tup [nV gk.2.1, nV gk.2.2]) := e4
          have o4 : Own H2 H4 M (ks.map nV) := ⟨o3.sm.trans s4, s4 _ _ o3.at_, o3.nw⟩
          refine ⟨r1, _, rfl, .inr (SqT.of e4), rfl, rfl, _, rfl, ?_⟩
          rw [if_pos rfl, in2]
          have sb : stB n (xs.getD i 0) (xs.getD (i + 1) 0) = decide (xs.getD i 0 = gk.2.1 ∨ xs.getD i 0 = gk.2.2) := by
            unfold stB
            rw [hgk, decide_eq_true (show n.many ≤ xs.getD (i + 1) 0 by omega)]
            rfl
          by_cases hb : xs.getD i 0 = gk.2.1 ∨ xs.getD i 0 = gk.2.2
          · rw [decide_eq_true hb] at sb ⊢
            refine iteF ⟨ks, o4, good sb⟩
          · rw [decide_eq_false hb] at sb ⊢
            refine iteT ?_
            exact ⟨_, rfl, _, o4.at_, by rw [List.length_map]; exact small256 (by omega), ks ++ [i + 1], bad _ o4 sb⟩
      · rintro H3 ⟨ks, o3, kl, kst⟩
        rw [List.length_map] at kst
        refine ⟨small 0, fun e ne => ?_⟩
        have s4 := Same.new (o := .lst []) ne
        refine ⟨M, e, _, rfl, rfl, .inr ⟨SqL.of (s4 _ _ o3.at_), SqL.of upd_same⟩, ?_⟩
        refine q _ _ ?_ ((s1.trans o3.sm).trans s4)
        rw [decide_eq_true_iff, List.length_map, List.length_eq_zero_iff, kst, way_iff l0 fun x hx => by have := le x hx; omega]
        exact ⟨fun z => ⟨h3', hl, fun i hi => z i (by omega)⟩, fun z j hj => z.2.2 j (by omega)⟩
end
end K26
set_option Elab.async false
set_option linter.all false
set_option maxRecDepth 100000
set_option maxHeartbeats 4000000
namespace K26
open PySem PySem.Spec PyProof.Rows L2 GX
open C8 (Cal pe_c pe_gc)
section
variable {P : Program} {w : World} {K : PySem.W.Frag} {mg : Str → Option Value} {base : Heap} {Ts : List Addr}
/-- what a way may be made of -/
def nbW (t : Th) : Prop := ∀ ts, t = .tup ts → ts.length ≤ 1000 ∧ ∀ x ∈ ts, nbT x = true
theorem tups_of {H : Hp} : ∀ {ws : List (List Nat)} {vs : List V}, RepAll H vs (ws.map thWs) → ∃ as : List Addr, vs = as.map V.ref ∧ TupsAt H as ws
  | [], _, .nil => ⟨[], rfl, RefsAt.nil _ _⟩
  | x :: r, _, .cons (v := v) (vs := vs) a b => by
    obtain ⟨as, e, t⟩ := tups_of b
    have ha : ∃ p, v = .ref p ∧ H p = some (.tup (x.map nV)) := by
      unfold thWs at a
      cases a with
      | tup e ra => rw [nats_of ra] at e; exact ⟨_, rfl, e⟩
    obtain ⟨p, rfl, hp⟩ := ha
    refine ⟨p :: as, by rw [e]; rfl, by rw [List.length_cons, List.length_cons, t.1], fun i q y e1 e2 => ?_⟩
    cases i with
    | zero =>
      cases e1
      cases e2
      exact hp
    | succ i => exact t.2 i q y e1 e2
theorem ways_of {n : Net} {gt : Nat} : ∀ {ts : List Th}, (∀ t ∈ ts, ∃ xs, t = thWs xs ∧ Way n gt xs) → ∃ ws : List (List Nat), ts = ws.map thWs ∧ ∀ xs ∈ ws, Way n gt xs
  | [], _ => ⟨[], rfl, fun xs h => by cases h⟩
  | t :: r, h => by
    obtain ⟨ws, e, hw⟩ := ways_of (ts := r) fun t ht => h t (List.mem_cons_of_mem _ ht)
    obtain ⟨xs, rfl, W⟩ := h t List.mem_cons_self
    exact ⟨xs :: ws, by rw [e]; rfl, fun ys hy => (List.mem_cons.mp hy).elim (fun z => z ▸ W) (hw ys)⟩
def spLEntT : Sp := fun vs H Q _ => ∃ (a : Addr) (n : Net) (g o : Addr) (ps : List Addr) (k gt : Nat) (l wa : Addr) (lab : List Int) (us : List V) (ts : List Th), vs = [.ref a, nV k, .ref l, nV gt, .ref wa] ∧ NetAt H a n g o ps ∧ n.Ok ∧ H l = some (.lst (lab.map V.int)) ∧ lab.length = n.many + n.gates.length ∧ n.many ≤ gt ∧ gt < n.many + n.gates.length ∧ H wa = some (.tup us) ∧ RepAll H us ts ∧ (lab.getD gt 0 ≠ 1 → ts.length = k + 1 → ∀ t ∈ ts, nbW t) ∧ k ≤ 100 ∧
  ∀ (b : Bool) H', (b = true ↔ ShowsT n k lab gt ts) → Same H H' → Q (.bl b) H'
theorem ok_lentT {f c : Addr} (D : Dfn K mg "_law_is_entry" s__law_is_entry f c) (T : Txt mg) (c__law_is_way : Cal P w K mg base 1 "_law_is_way" spLWayT []) : Cal P w K mg base 2 "_law_is_entry" spLEntT [] := by
  refine cal D (fun _ _ _ _ _ _ us hl => match us, hl with | [_, _, _, _, _], _ => rfl) sc__law_is_entry (fun vs H Q E h => ?_) (fun A outer s H vs Q E hr h => ?_)
  · obtain ⟨a, n, g, o, ps, k, gt, l, wa, lab, us, ts, rfl, _⟩ := h
    rfl
  · obtain ⟨a, n, g, o, ps, k, gt, l, wa, lab, us, ts, rfl, N, ok, hl, ll, hgm, hgt, hwa, ra, nb, hk, q⟩ := h
    refine ⟨_, (pss_cons (ps_if (PW.pt (pw_or (pt_cmpR op_eq (pe_ix ix_list (pv 2) (pv 3) (fun _ _ => rfl)) pe_int (nomark _)) (pw_or1 (pt_cmpR op_ne (pe_callB call_len_seq (by rfl) T.b_len (by decide +kernel) (pa_cons (pv 4) pa_nil)) (pe_op op_add (pv 1) pe_int) (nomark _))))) (pss_one (ps_ret (pe_and (pe_cmpR op_eq (pe_ix ix_list (pv 2) (pv 3) (fun _ _ => rfl)) pe_int (nomark _)) (pe_one (pe_cmpR (op_eq0 hr.units0) (pv 4) (pe_tup pa_nil) (nomark _)))))) pss_nil)
      (pss_cons (ps_if (pt_cmpR (op_ne0 hr.units0) (pe_lc (own := [("_law_way", 5)]) (g := gName 5)  rfl sc__law_is_entry.nd (pi_tup (pv 4)) (blkOk_by (own := [("_law_way", 5)]) (N := ["_law_net_here", "_law_k", "_law_labels", "_law_gate_here", "_law_ways", "_law_way", "_law_at", "_law_other", "_law_wire"]) (sc := defScope s__law_is_entry) (by decide +kernel)) (fun _ _ _ _ _ => (pg_name (i := 5) sc__law_is_entry.nd rfl (by first | exact Or.inl rfl | exact Or.inr rfl))) (fun _ _ _ _ _ => (pts_one (pt_not (pt_val (pe_c c__law_is_way hr (by decide) (by rfl) (pa_cons (pv 0) (pa_cons (pv 3) (pa_cons (pv 5) pa_nil)))))))) (fun _ _ _ _ _ => (pv 5))) (pe_lst pa_nil) (nomark _)) (pss_one (ps_ret pe_bl)) pss_nil)
      (pss_cons (ps_for PassesOwn.never rfl (pi_range1 (by rfl) T.b_range (pa_cons (pe_callB call_len_seq (by rfl) T.b_len (by decide +kernel) (pa_cons (pv 4) pa_nil)) pa_nil)) (pg_name (i := 6) sc__law_is_entry.nd rfl (by first | exact Or.inl rfl | exact Or.inr rfl))
        (pss_one (ps_for PassesOwn.never rfl (pi_tup (pe_slice sl_tupA (pv 4) po_none (po_some (pv 6)))) (pg_name (i := 7) sc__law_is_entry.nd rfl (by first | exact Or.inl rfl | exact Or.inr rfl))
        (pss_one (ps_if (pt_cmpR (op_ne0 hr.units0) (pe_lc (own := [("_law_wire", 8)]) (g := gName 8)  rfl sc__law_is_entry.nd (pi_tup (pv 7)) (blkOk_by (own := [("_law_wire", 8)]) (N := ["_law_net_here", "_law_k", "_law_labels", "_law_gate_here", "_law_ways", "_law_way", "_law_at", "_law_other", "_law_wire"]) (sc := defScope s__law_is_entry) (by decide +kernel)) (fun _ _ _ _ _ => (pg_name (i := 8) sc__law_is_entry.nd rfl (by first | exact Or.inl rfl | exact Or.inr rfl))) (fun _ _ _ _ _ => (pts_one (PW.pt (pw_and (pt_cmpR (op_in_seqK (K := K)) (pv 8) (pe_ix (ix_tupK (K := K)) (pv 4) (pv 6) (fun _ _ => rfl)) (by rfl)) (pw_and1 (pt_cmpR op_lt (pe_ix (ix_listK (K := K)) (pv 2) (pv 8) (fun _ _ => rfl)) (pe_op op_sub (pe_ix (ix_listK (K := K)) (pv 2) (pv 3) (fun _ _ => rfl)) pe_int) (nomark _))))))) (fun _ _ _ _ _ => (pv 8))) (pe_lst pa_nil) (nomark _)) (pss_one (ps_ret pe_bl)) pss_nil)))))
      (pss_one (ps_ret pe_bl))))), ?_⟩
    have hle : (lab.map V.int)[gt]? = some (V.int (lab.getD gt 0)) := by
      rw [List.getElem?_map, List.getD_eq_getElem?_getD, List.getElem?_eq_getElem (by rw [ll]; exact hgt)]
      rfl
    have ul : us.length = ts.length := ra.length
    refine ⟨_, rfl, _, rfl, l, _, _, _, rfl, rfl, SqL.of hl, atI_nat hle, rfl, _, rfl, ?_⟩
    by_cases h1 : lab.getD gt 0 = 1
    · rw [decide_eq_true (show V.int (lab.getD gt 0) = V.int 1 by rw [h1])]
      refine iteT ?_
      refine ⟨_, rfl, _, rfl, l, _, _, _, rfl, rfl, SqL.of hl, atI_nat hle, rfl, _, rfl, ?_⟩
      rw [decide_eq_true (show V.int (lab.getD gt 0) = V.int 1 by rw [h1]), if_pos rfl]
      refine ⟨_, rfl, small 0, fun e ne => ?_⟩
      have s1 := Same.new (o := .tup []) ne
      refine ⟨wa, e, _, rfl, rfl, .inl ⟨SqT.of (s1 _ _ hwa), SqT.of upd_same⟩, ?_⟩
      refine q _ _ ?_ s1
      rw [decide_eq_true_iff, ul]
      constructor
      · intro z
        exact .inl ⟨h1, List.length_eq_zero_iff.mp z⟩
      · rintro (⟨_, z⟩ | ⟨z, _⟩)
        · rw [z]; rfl
        · exact absurd h1 z
    rw [decide_eq_false (show ¬ V.int (lab.getD gt 0) = V.int 1 from fun z => h1 (V.int.inj z))]
    refine iteF ?_
    have q2 : ∀ (b : Bool) H', (b = true ↔ ∃ xss : List (List Nat), ts = xss.map thWs ∧ xss.length = k + 1 ∧ (∀ xs ∈ xss, Way n gt xs) ∧ ∀ i j, i < j → j < xss.length → apB lab (lab.getD gt 0 - 1) (xss.getD i []) (xss.getD j []) = true) → Same H H' → Q (.bl b) H' := fun b H' hb aa => q b H' (hb.trans ⟨fun z => .inr ⟨h1, z⟩, fun z => z.elim (fun y => absurd y.1 h1) fun y => y.2⟩) aa
    clear q
    refine ⟨_, rfl, wa, _, rfl, .inr (SqT.of hwa), _, rfl, _, _, rfl, rfl, rfl, _, rfl, ?_⟩
    by_cases wl : ts.length = k + 1
    case neg =>
      refine ite2 (fun _ => ?_) (fun h2 => absurd ?_ h2)
      · refine ⟨_, rfl, _, rfl, l, _, _, _, rfl, rfl, SqL.of hl, atI_nat hle, rfl, _, rfl, ?_⟩
        rw [decide_eq_false (show ¬ V.int (lab.getD gt 0) = V.int 1 from fun z => h1 (V.int.inj z)), if_neg Bool.false_ne_true]
        exact q2 false _ ⟨fun z => (by cases z), fun ⟨xss, e, e2, _⟩ => absurd (by rw [e, List.length_map]; exact e2) wl⟩ (Same.refl _)
      · show (!decide (V.int ((us.length : Nat) : Int) = V.int (((k : Nat) : Int) + 1))) = true
        rw [decide_eq_false (fun y => by have := V.int.inj y; rw [ul] at this; omega)]
        rfl
    refine ite2 (fun h2 => absurd (show (!decide (V.int ((us.length : Nat) : Int) = V.int (((k : Nat) : Int) + 1))) = true from h2) ?_) (fun _ => ?_)
    · rw [decide_eq_true (by rw [ul, wl]; rfl)]
      exact Bool.false_ne_true
    have nb := nb h1 wl
    refine ⟨_, rfl, wa, rfl, ⟨_, SqT.of hwa⟩, fun M nM => ?_⟩
    refine lc_tup (K := K) (a := wa) (xs := us) (fun i H' => ∃ bs : List V, Own H H' M bs ∧ bs.length ≤ i ∧ (bs = [] ↔ ∀ j t, j < i → ts[j]? = some t → ∃ xs, t = thWs xs ∧ Way n gt xs)) ⟨[], ⟨Same.new nM, upd_same, nM⟩, Nat.zero_le _, fun _ j xs h => absurd h (Nat.not_lt_zero _), fun _ => rfl⟩ (fun _ H' _ ⟨_, o', _⟩ => SqT.of (o'.sm _ _ hwa)) ?_ ?_
    · rintro i x H2 hx ⟨bs, o2, bl, biff⟩
      obtain ⟨t, ht, rt⟩ := ra.get hx
      have tm := List.mem_of_getElem? ht
      have hil : i < ts.length := (List.getElem?_eq_some_iff.mp ht).1
      refine ⟨rfl, ?_⟩
      refine ⟨_, rfl, _, rfl, _, rfl, a, n, g, o, ps, gt, x, t, rfl, N.same o2.sm, ok, rt.mono (KeepT.same o2.sm), nb t tm, hgm, hgt, fun b H3 hb s3 => ?_⟩
      have o3 : Own H H3 M bs := ⟨o2.sm.trans s3, s3 _ _ o2.at_, o2.nw⟩
      refine ⟨_, rfl, ?_⟩
      cases b with
      | false =>
        refine iteT ?_
        refine ⟨_, rfl, _, o3.at_, small256 (by omega), bs ++ [x], o3.app, by rw [List.length_append]; show _ + 1 ≤ _; omega, fun z => absurd z (by simp), fun z => ?_⟩
        have := hb.mpr (z i t (Nat.lt_succ_self _) ht)
        cases this
      | true =>
        refine iteF ⟨bs, o3, by omega, biff.trans ⟨fun z j y hj hy => ?_, fun z j y hj hy => z j y (by omega) hy⟩⟩
        by_cases e : j = i
        · rw [e, ht] at hy
          cases hy
          exact hb.mp rfl
        · exact z j y (by omega) hy
    rintro H2 ⟨bs, o2, bl, biff⟩
    rw [ul] at biff bl
    refine ⟨small 0, fun e ne => ?_⟩
    have s3 := Same.new (o := .lst []) ne
    refine ⟨M, e, _, rfl, rfl, .inr ⟨SqL.of (s3 _ _ o2.at_), SqL.of upd_same⟩, _, rfl, ?_⟩
    have s13 := o2.sm.trans s3
    generalize upd H2 e (.lst []) = H3 at s13 ⊢
    by_cases bz : bs = []
    case neg =>
      rw [decide_eq_false (fun z => bz (List.length_eq_zero_iff.mp z))]
      refine iteT ?_
      refine q2 false _ ⟨fun z => (by cases z), fun z => ?_⟩ s13
      obtain ⟨xss, e, _, hw, _⟩ := z
      refine absurd (biff.mpr fun j t _ ht => ?_) bz
      rw [e, List.getElem?_map] at ht
      obtain ⟨xs, hx, rfl⟩ := Option.map_eq_some_iff.mp ht
      exact ⟨xs, rfl, hw xs (List.mem_of_getElem? hx)⟩
    obtain ⟨ws, rfl, hw⟩ : ∃ ws : List (List Nat), ts = ws.map thWs ∧ ∀ xs ∈ ws, Way n gt xs := ways_of fun t ht => by
      obtain ⟨j, hj⟩ := List.getElem?_of_mem ht
      exact biff.mp bz j t (List.getElem?_eq_some_iff.mp hj).1 hj
    obtain ⟨us, rfl, TW⟩ := tups_of ra
    have x1000 : ∀ xs ∈ ws, xs.length ≤ 1000 := fun xs hx => by
      have := (nb (thWs xs) (List.mem_map.mpr ⟨xs, hx, rfl⟩) _ rfl).1
      rwa [List.length_map] at this
    rw [List.length_map, List.length_map] at ul
    rw [List.length_map] at wl
    have w100 : ws.length ≤ 101 := by omega
    have wx : ∀ xs ∈ ws, xs.length ≤ 1000 ∧ ∀ x ∈ xs, x < lab.length := fun xs hx => ⟨x1000 xs hx, fun x hx' => by rw [ll]; exact (hw xs hx).lt x hx'⟩
    have q2 : ∀ (b : Bool) H', (b = true ↔ (ws.length = k + 1 ∧ (∀ xs ∈ ws, Way n gt xs) ∧ ∀ i j, i < j → j < ws.length → apB lab (lab.getD gt 0 - 1) (ws.getD i []) (ws.getD j []) = true)) → Same H H' → Q (.bl b) H' := fun b H' hb aa => q2 b H' (hb.trans ⟨fun z => ⟨ws, rfl, z⟩, fun ⟨yss, e, y⟩ => by
      obtain rfl : ws = yss := map_inj' (fun _ _ => thWs_inj) e
      exact y⟩) aa
    rw [decide_eq_true (show bs.length = 0 by rw [bz]; rfl)]
    refine iteF ?_
    have hwa3 := s13 _ _ hwa
    refine ⟨_, rfl, wa, _, rfl, .inr (SqT.of hwa3), _, rfl, by rw [List.length_map]; omega, by rw [List.length_map]; omega, ?_⟩
    refine for_range (lo := 0) (n := (((us.map V.ref).length : Nat) : Int).toNat) (fun i σ H' => ∃ x6 x7 : Option V, σ = [some (.ref a), some (nV k), some (.ref l), some (nV gt), some (.ref wa), none, x6, x7, none] ∧ Same H H' ∧ ∀ i' j, i' < j → j < i → apB lab (lab.getD gt 0 - 1) (ws.getD i' []) (ws.getD j []) = true) ⟨none, none, rfl, s13, fun i' j _ h => absurd h (Nat.not_lt_zero _)⟩ ?_ ?_
    · rintro i σ H4 hi ⟨x6, x7, rfl, s4, ap⟩
      rw [Int.toNat_natCast, List.length_map, ul] at hi
      rw [show V.int (0 + ((i : Nat) : Int)) = nV i from congrArg V.int (Int.zero_add _)]
      refine ⟨_, rfl, ?_⟩
      unfold tNoPart
      refine ⟨_, rfl, _, rfl, ?_⟩
      have hwa4 := s4 _ _ hwa
      refine slA (lo := none) (hi := some ((i : Nat) : Int)) hwa4 fun r1 H5 s5 e5 => ?_
      rw [cut_hi, ← List.map_take] at e5
      have s05 := s4.trans s5
      refine ⟨r1, rfl, ⟨_, SqT.of e5⟩, ?_⟩
      have hil : i < us.length := by omega
      have T5 := TW.mono fun b zs e => s05 _ _ e
      have ei : (us.map V.ref)[i]? = some (.ref us[i]) := by rw [List.getElem?_map, List.getElem?_eq_getElem hil]; rfl
      obtain ⟨pi, yi, epi, hyi, hati⟩ := T5.at_ ei
      have epi : V.ref us[i] = V.ref pi := epi
      rw [epi] at ei
      have hyi' : ws.getD i [] = yi := by rw [List.getD_eq_getElem?_getD, hyi]; rfl
      refine for_tup (K := K) (a := r1) (xs := (us.take i).map V.ref) (fun j σ H' => ∃ x7 : Option V, σ = [some (.ref a), some (nV k), some (.ref l), some (nV gt), some (.ref wa), none, some (nV i), x7, none] ∧ Same H5 H' ∧ ∀ i', i' < j → apB lab (lab.getD gt 0 - 1) (ws.getD i' []) (ws.getD i []) = true) ⟨x7, rfl, Same.refl _, fun i' h => absurd h (Nat.not_lt_zero _)⟩ ?_ ?_ ?_
      · rintro j σ H' _ ⟨_, _, s, _⟩
        exact SqT.of (s _ _ e5)
      · rintro j x σ H6 hx ⟨x7, rfl, s6, ap6⟩
        have hj : j < i := by
          have := (List.getElem?_eq_some_iff.mp hx).1
          rw [List.length_map, List.length_take] at this
          omega
        have hx : (us.map V.ref)[j]? = some x := by
          rw [List.map_take, List.getElem?_take_of_lt hj] at hx
          exact hx
        have s06 := s05.trans s6
        have T6 := TW.mono fun b zs e => s06 _ _ e
        obtain ⟨tq, xs, rfl, hxs, hat⟩ := T6.at_ hx
        have hxs' : ws.getD j [] = xs := by rw [List.getD_eq_getElem?_getD, hxs]; rfl
        have xm := List.mem_of_getElem? hxs
        have hati6 := s6 _ _ hati
        have hl6 := s06 _ _ hl
        have hwa6 := s06 _ _ hwa
        refine ⟨_, rfl, tq, rfl, ⟨_, SqT.of hat⟩, fun M2 nM2 => ?_⟩
        refine lc_tup (K := K) (a := tq) (xs := xs.map nV) (fun m H' => ∃ ks : List Nat, Own H6 H' M2 (ks.map nV) ∧ ks.length ≤ m ∧ (ks = [] ↔ apB lab (lab.getD gt 0 - 1) (xs.take m) yi = true)) ⟨[], ⟨Same.new nM2, upd_same, nM2⟩, Nat.zero_le _, fun _ => rfl, fun _ => rfl⟩ (fun _ H' _ ⟨_, o', _⟩ => SqT.of (o'.sm _ _ hat)) ?_ ?_
        · rintro m x H7 hx ⟨ks, o7, kl, kiff⟩
          have hm : m < xs.length := by
            have := (List.getElem?_eq_some_iff.mp hx).1
            rwa [List.length_map] at this
          have ex : xs[m]? = some xs[m] := List.getElem?_eq_getElem hm
          rw [List.getElem?_map, ex] at hx
          cases hx
          have xl := (wx xs xm).2 xs[m] (List.getElem_mem hm)
          have x1000 := (wx xs xm).1
          have step : apB lab (lab.getD gt 0 - 1) (xs.take (m + 1)) yi = (apB lab (lab.getD gt 0 - 1) (xs.take m) yi && (!decide (xs[m] ∈ yi) || decide (lab.getD gt 0 - 1 ≤ lab.getD xs[m] 0))) := by
            unfold apB
            rw [List.take_add_one, ex, List.all_append, Option.toList_some]
            show (_ && (_ && true)) = _
            rw [Bool.and_true]
          generalize xs[m] = y at ex xl step ⊢
          have hly : (lab.map V.int)[y]? = some (V.int (lab.getD y 0)) := by
            rw [List.getElem?_map, List.getD_eq_getElem?_getD, List.getElem?_eq_getElem xl]
            rfl
          have good : (!decide (y ∈ yi) || decide (lab.getD gt 0 - 1 ≤ lab.getD y 0)) = true → ∃ ks : List Nat, Own H6 H7 M2 (ks.map nV) ∧ ks.length ≤ m + 1 ∧ (ks = [] ↔ apB lab (lab.getD gt 0 - 1) (xs.take (m + 1)) yi = true) := fun hg => ⟨ks, o7, by omega, by rw [step, hg, Bool.and_true]; exact kiff⟩
          refine ⟨rfl, ?_⟩
          refine ⟨_, rfl, _, rfl, _, rfl, wa, _, _, _, rfl, rfl, SqT.of (o7.sm _ _ hwa6), atI_nat ei, pi, _, rfl, .inr (SqT.of (o7.sm _ _ hati6)), rfl, flat_ns yi, _, rfl, ?_⟩
          rw [if_neg Bool.false_ne_true, inV_n]
          by_cases hy : y ∈ yi
          · rw [decide_eq_true hy]
            refine iteT ?_
            refine ⟨_, rfl, _, rfl, l, _, _, _, rfl, rfl, SqL.of (o7.sm _ _ hl6), atI_nat hly, _, rfl, _, rfl, l, _, _, _, rfl, rfl, SqL.of (o7.sm _ _ hl6), atI_nat hle, _, _, rfl, rfl, _, _, rfl, rfl, _, rfl, ite2 (fun h3 => ?_) (fun h3 => ?_)⟩
            · have h3 : lab.getD y 0 < lab.getD gt 0 - 1 := of_decide_eq_true h3
              refine ⟨_, rfl, _, o7.at_, by rw [List.length_map]; exact small256 (by omega), ks ++ [y], by rw [List.map_append]; exact o7.app, by rw [List.length_append]; show _ + 1 ≤ _; omega, fun z => absurd z (by simp), fun z => ?_⟩
              rw [step, decide_eq_true hy, decide_eq_false (by omega)] at z
              simp at z
            · have h3 : ¬ lab.getD y 0 < lab.getD gt 0 - 1 := fun z => h3 (decide_eq_true z)
              exact good (by rw [decide_eq_true (show lab.getD gt 0 - 1 ≤ lab.getD y 0 by omega), Bool.or_true])
          · rw [decide_eq_false hy]
            refine iteF ?_
            exact good (by rw [decide_eq_false hy]; rfl)
        rintro H7 ⟨ks, o7, kl, kiff⟩
        rw [List.length_map, List.take_length] at kiff
        refine ⟨small 0, fun e ne => ?_⟩
        have s8 := Same.new (o := .lst []) ne
        refine ⟨M2, e, _, rfl, rfl, .inr ⟨SqL.of (s8 _ _ o7.at_), SqL.of upd_same⟩, _, rfl, ?_⟩
        rw [List.length_map]
        have s68 := o7.sm.trans s8
        generalize upd H7 e (.lst []) = H8 at s68 ⊢
        by_cases kz : ks = []
        case neg =>
          rw [decide_eq_false (fun z => kz (List.length_eq_zero_iff.mp z))]
          refine iteT ?_
          refine q2 false _ ⟨fun z => (by cases z), fun z => ?_⟩ (s06.trans s68)
          refine absurd (kiff.mpr ?_) kz
          have := z.2.2 j i hj hi
          rwa [hxs', hyi'] at this
        rw [decide_eq_true (show ks.length = 0 by rw [kz]; rfl)]
        refine iteF ?_
        refine ⟨_, rfl, s6.trans s68, fun i' h => ?_⟩
        by_cases e : i' = j
        · rw [e, hxs', hyi']
          exact kiff.mp kz
        · exact ap6 i' (by omega)
      · rintro σ H6 ⟨x7, rfl, s6, ap6⟩
        have tl : ((us.take i).map V.ref).length = i := by rw [List.length_map, List.length_take]; omega
        rw [tl] at ap6
        refine ⟨_, _, rfl, s05.trans s6, fun i' j h1 h2 => ?_⟩
        by_cases e : j = i
        · rw [e] at h1 ⊢
          exact ap6 i' h1
        · exact ap i' j h1 (by omega)
    · rintro σ H4 ⟨x6, x7, rfl, s4, ap⟩
      rw [Int.toNat_natCast, List.length_map, ul] at ap
      exact q2 true _ ⟨fun _ => ⟨wl, hw, ap⟩, fun _ => rfl⟩ s4
end
end K26
set_option Elab.async false
set_option linter.all false
set_option maxRecDepth 100000
set_option maxHeartbeats 4000000
namespace K26
open PySem PySem.Spec PyProof.Rows L2 GX
open C8 (Cal pe_c pe_gc)
section
variable {P : Program} {w : World} {K : PySem.W.Frag} {mg : Str → Option Value} {base : Heap} {Ts : List Addr}
def nbP (k : Nat) (t : Th) : Prop := ∀ ts, t = .tup ts → ∀ e ∈ ts, entB e = true → labT e ≠ 1 → (waysT e).length = k + 1 → ∀ u ∈ waysT e, nbW u
def spLPapT : Sp := fun vs H Q _ => ∃ (a : Addr) (n : Net) (g o : Addr) (ps : List Addr) (k : Nat) (v : V) (t : Th), vs = [.ref a, nV k, v] ∧ NetAt H a n g o ps ∧ n.Ok ∧ Rep H v t ∧ nbP k t ∧ k ≤ 100 ∧ ∀ (b : Bool) H', (b = true ↔ PaperT n k t) → Same H H' → Q (.bl b) H'
theorem labs_at {n : Net} {ts : List Th} {i : Nat} {e : Th} (h : ts[i]? = some e) : (labsT n ts).getD (n.many + i) 0 = labT e := by
  unfold labsT
  rw [List.getD_eq_getElem?_getD, List.getElem?_append_right (by rw [List.length_replicate]; omega), List.length_replicate, List.getElem?_map, show n.many + i - n.many = i by omega, h]
  rfl
theorem ok_lpapT {f c : Addr} (D : Dfn K mg "_law_is_paper" s__law_is_paper f c) (T : Txt mg) (c__law_is_entry : Cal P w K mg base 2 "_law_is_entry" spLEntT []) : Cal P w K mg base 3 "_law_is_paper" spLPapT [] := by
  refine cal D (fun _ _ _ _ _ _ us hl => match us, hl with | [_, _, _], _ => rfl) sc__law_is_paper (fun vs H Q E h => ?_) (fun A outer s H vs Q E hr h => ?_)
  · obtain ⟨a, n, g, o, ps, k, v, t, rfl, _⟩ := h
    rfl
  · obtain ⟨a, n, g, o, ps, k, v, t, rfl, N, ok, r, nb, hk, q⟩ := h
    refine ⟨_, (pss_cons (ps_if (PW.pt (pw_or (pt_not (pt_val (pe_callB call_isi (by rfl) T.b_isinstance (by decide +kernel) (pa_cons (pv 2) (pa_cons (pe_bltn (v := .ty "tuple") (by rfl) T.b_tuple (by decide +kernel) rfl) pa_nil))))) (pw_or1 (pt_cmpR op_ne (pe_callB call_len_seq (by rfl) T.b_len (by decide +kernel) (pa_cons (pv 2) pa_nil)) (pe_callB call_len_seq (by rfl) T.b_len (by decide +kernel) (pa_cons (pe_ix ix_tup (pv 0) pe_int (fun _ _ => rfl)) pa_nil)) (nomark _))))) (pss_one (ps_ret pe_bl)) pss_nil)
      (pss_cons (ps_set (i := 3) sc__law_is_paper.nd rfl (by first | exact Or.inl rfl | exact Or.inr rfl) (pe_op op_rep (pe_lst (pa_cons pe_int pa_nil)) (pe_ix ix_tup (pv 0) pe_int (fun _ _ => rfl))))
      (pss_cons (ps_for PassesOwn.never rfl (pi_tup (pv 2)) (pg_name (i := 4) sc__law_is_paper.nd rfl (by first | exact Or.inl rfl | exact Or.inr rfl))
        (pss_cons (ps_if (PW.pt (pw_or (pt_not (pt_val (pe_callB call_isi (by rfl) T.b_isinstance (by decide +kernel) (pa_cons (pv 4) (pa_cons (pe_bltn (v := .ty "tuple") (by rfl) T.b_tuple (by decide +kernel) rfl) pa_nil))))) (pw_or (pt_cmpR op_ne (pe_callB call_len_seq (by rfl) T.b_len (by decide +kernel) (pa_cons (pv 4) pa_nil)) pe_int (nomark _)) (pw_or1 (pt_not (pt_val (pe_callB call_isi (by rfl) T.b_isinstance (by decide +kernel) (pa_cons (pe_ix ix_tup (pv 4) pe_int (fun _ _ => rfl)) (pa_cons (pe_bltn (v := .ty "tuple") (by rfl) T.b_tuple (by decide +kernel) rfl) pa_nil))))))))) (pss_one (ps_ret pe_bl)) pss_nil)
      (pss_cons (ps_if (PW.pt (pw_or (pt_val (pe_callB call_isi (by rfl) T.b_isinstance (by decide +kernel) (pa_cons (pe_ix ix_tup (pv 4) pe_int (fun _ _ => rfl)) (pa_cons (pe_bltn (v := .ty "bool") (by rfl) T.b_bool (by decide +kernel) rfl) pa_nil)))) (pw_or (pt_not (pt_val (pe_callB call_isi (by rfl) T.b_isinstance (by decide +kernel) (pa_cons (pe_ix ix_tup (pv 4) pe_int (fun _ _ => rfl)) (pa_cons (pe_bltn (v := .ty "int") (by rfl) T.b_int (by decide +kernel) rfl) pa_nil))))) (pw_or1 (pt_cmpR op_lt (pe_ix ix_tup (pv 4) pe_int (fun _ _ => rfl)) pe_int (nomark _)))))) (pss_one (ps_ret pe_bl)) pss_nil)
      (pss_one (ps_expr (pe_bm PySem.F.plainAttrs_list PySem.F.slot_list_append PySem.F.type_list_append mt_append (pv 3) (pa_cons (pe_ix ix_tup (pv 4) pe_int (fun _ _ => rfl)) pa_nil)))))))
      (pss_one (ps_ret (pe_cmpR (op_eq0 hr.units0) (pe_lc (own := [("_law_j", 5)]) (g := gName 5)  rfl sc__law_is_paper.nd (pi_range1 (by rfl) T.b_range (pa_cons (pe_callB call_len_seq (by rfl) T.b_len (by decide +kernel) (pa_cons (pv 2) pa_nil)) pa_nil)) (blkOk_by (own := [("_law_j", 5)]) (N := ["_law_net_here", "_law_k", "_law_thing", "_law_labels", "_law_entry", "_law_j"]) (sc := defScope s__law_is_paper) (by decide +kernel)) (fun _ _ _ _ _ => (pg_name (i := 5) sc__law_is_paper.nd rfl (by first | exact Or.inl rfl | exact Or.inr rfl))) (fun _ _ _ _ _ => (pts_one (pt_not (pt_val (pe_c c__law_is_entry hr (by decide) (by rfl) (pa_cons (pv 0) (pa_cons (pv 1) (pa_cons (pv 3) (pa_cons (pe_op op_add (pe_ix (ix_tupK (K := K)) (pv 0) pe_int (fun _ _ => rfl)) (pv 5)) (pa_cons (pe_ix (ix_tupK (K := K)) (pe_ix (ix_tupK (K := K)) (pv 2) (pv 5) (fun _ _ => rfl)) pe_int (fun _ _ => rfl)) pa_nil)))))))))) (fun _ _ _ _ _ => (pv 5))) (pe_lst pa_nil) (nomark _))))))), ?_⟩
    have m8 := ok.m8
    have g16 := ok.g16
    refine ⟨_, rfl, _, _, _, _, t.kTup, rfl, .ty "tuple", tyx r, kit_ty (kTup_ok t), _, rfl, ite2 (fun h1 => ?_) (fun h1 => ?_)⟩
    · exact q false H ⟨fun z => (by cases z), fun ⟨ts, e, _⟩ => absurd e (yesK h1 ts)⟩ (Same.refl H)
    obtain ⟨ta, vs, ts, rfl, rfl, ht, ra⟩ := r.tupI h1
    have vl := ra.length
    have nb := nb ts rfl
    have qf : ¬ (ts.length = n.gates.length ∧ ts.all entB = true) → ∀ H', Same H H' → Q (.bl false) H' := fun no H' s => q false H' ⟨fun z => (by cases z), fun ⟨ts', e, e2, e3, _⟩ => by
      obtain rfl := tup_inj e
      exact absurd ⟨e2, e3⟩ no⟩ s
    refine ⟨_, rfl, ta, _, rfl, .inr (SqT.of ht), _, rfl, a, _, 1, _, rfl, rfl, SqT.of N.top, at1, g, _, rfl, .inr (SqT.of N.gt), rfl, _, rfl, ?_⟩
    rw [List.length_map, N.gs.1, vl, dec_int]
    refine ite2 (fun h2 => qf (fun z => by rw [z.1] at h2; simp at h2) H (Same.refl H)) (fun h2 => ?_)
    have el : ts.length = n.gates.length := by
      by_cases z : ts.length = n.gates.length
      · exact z
      · exact absurd (by simp; omega) h2
    refine ⟨small 1, fun z0 n0 => ?_⟩
    have s2 := Same.new (o := .lst [.int 0]) n0
    refine ⟨_, rfl, a, _, 0, _, rfl, rfl, SqT.of (N.same s2).top, at0, z0, _, _, rfl, rfl, upd_same, by omega, by omega, ?_, fun l nl => ?_⟩
    · show 1 * (((n.many : Nat)) : Int).toNat ≤ sizeLine
      rw [Int.toNat_natCast]
      exact small _ (by omega)
    have ef : (List.replicate (((n.many : Nat)) : Int).toNat [V.int 0]).flatten = (labsT n (ts.take 0)).map V.int := by
      rw [Int.toNat_natCast, List.flatten_replicate_singleton]
      unfold labsT
      rw [List.take_zero, List.map_nil, List.append_nil, List.map_replicate]
    rw [ef]
    have nl0 : H l = none := Same.was s2 nl
    have o3 : Own H (upd (upd H z0 (.lst [.int 0])) l (.lst ((labsT n (ts.take 0)).map V.int))) l ((labsT n (ts.take 0)).map V.int) := ⟨s2.trans (Same.new nl), upd_same, nl0⟩
    generalize upd (upd H z0 (.lst [.int 0])) l (.lst ((labsT n (ts.take 0)).map V.int)) = H3 at o3 ⊢
    refine ⟨_, rfl, ta, rfl, ⟨_, SqT.of (o3.sm _ _ ht)⟩, ?_⟩
    refine for_tup (K := K) (a := ta) (xs := vs) (fun i σ H' => ∃ x4 : Option V, σ = [some (.ref a), some (nV k), some (.ref ta), some (.ref l), x4, none] ∧ Own H H' l ((labsT n (ts.take i)).map V.int) ∧ (ts.take i).all entB = true) ⟨none, rfl, o3, rfl⟩ ?_ ?_ ?_
    · rintro i σ H' _ ⟨_, _, o', _⟩
      exact SqT.of (o'.sm _ _ ht)
    · rintro i x σ H4 hx ⟨x4, rfl, o4, al⟩
      obtain ⟨te, hte, rt⟩ := ra.get hx
      have rt := rt.mono (KeepT.same o4.sm)
      have hil : i < ts.length := (List.getElem?_eq_some_iff.mp hte).1
      have bad : entB te = false → ∀ H', Same H H' → Q (.bl false) H' := fun hb => qf fun ⟨_, z⟩ => by
        rw [List.all_eq_true.mp z te (List.mem_of_getElem? hte)] at hb
        cases hb
      refine ⟨_, rfl, _, _, _, _, te.kTup, rfl, .ty "tuple", tyx rt, kit_ty (kTup_ok te), _, rfl, ite2 (fun h3 => bad (ent_no (yesK h3)) _ o4.sm) (fun h3 => ?_)⟩
      obtain ⟨pe, ws, us, rfl, rfl, hp, re⟩ := rt.tupI h3
      have wl := re.length
      refine ⟨_, rfl, pe, _, rfl, .inr (SqT.of hp), rfl, _, rfl, ite2 (fun h4 => bad (ent_bad fun z => by rw [wl, z] at h4; simp at h4) _ o4.sm) (fun h4 => ?_)⟩
      have l2 : ws.length = 2 := by
        by_cases z : ws.length = 2
        · exact z
        · exact absurd (by simp; omega) h4
      match ws, us, re, l2 with
      | [v1, v2], [t1, t2], .cons r1 (.cons r2 .nil), _ =>
        have bad : (posB t1 && t2.kTup) = false → ∀ H', Same H H' → Q (.bl false) H' := bad
        refine ⟨_, rfl, pe, _, 1, _, rfl, rfl, SqT.of hp, at1, _, _, _, _, t2.kTup, rfl, .ty "tuple", tyx r2, kit_ty (kTup_ok t2), _, rfl, ite2 (fun h5 => bad (by rw [Bool.not_eq_true' _ |>.mp h5, Bool.and_false]) _ o4.sm) (fun h5 => ?_)⟩
        have h5 : t2.kTup = true := by
          cases z : t2.kTup with
          | true => rfl
          | false => rw [z] at h5; exact absurd rfl h5
        refine ⟨_, rfl, pe, _, 0, _, rfl, rfl, SqT.of hp, at0, _, _, _, _, t1.kBool, rfl, .ty "bool", tyx r1, kit_ty (kBool_ok t1), _, rfl, ite2 (fun h6 => bad (by cases t1 <;> first | rfl | cases h6) _ o4.sm) (fun h6 => ?_)⟩
        refine ⟨_, rfl, pe, _, 0, _, rfl, rfl, SqT.of hp, at0, _, _, _, _, t1.kInt, rfl, .ty "int", tyx r1, kit_ty (kInt_ok t1), _, rfl, ite2 (fun h7 => bad (by cases t1 <;> first | rfl | cases h7) _ o4.sm) (fun h7 => ?_)⟩
        obtain ⟨z, rfl, rfl⟩ : ∃ z, t1 = .int z ∧ v1 = .int z := by
          cases r1 with
          | int z => exact ⟨z, rfl, rfl⟩
          | bl c => exact absurd rfl h6
          | _ => exact absurd rfl h7
        refine ⟨_, rfl, pe, _, 0, _, rfl, rfl, SqT.of hp, at0, _, _, rfl, rfl, _, rfl, ite2 (fun h8 => ?_) (fun h8 => ?_)⟩
        · have h8 := of_decide_eq_true h8
          exact bad (by show (decide (1 ≤ z) && _) = false; rw [decide_eq_false (by omega), Bool.false_and]) _ o4.sm
        have h8 : 1 ≤ z := by
          have : ¬ z < 1 := fun y => h8 (decide_eq_true y)
          omega
        refine ⟨_, rfl, .inl ⟨rfl, _, SqL.of o4.at_⟩, _, rfl, pe, _, 0, _, rfl, rfl, SqT.of hp, at0, l, _, _, rfl, rfl, o4.at_, by rw [List.length_map, labs_len, List.length_take]; exact small256 (by omega), ?_⟩
        refine ⟨_, rfl, ?_, ?_⟩
        · have : labsT n (ts.take (i + 1)) = labsT n (ts.take i) ++ [z] := by
            unfold labsT
            rw [List.take_add_one, hte, Option.toList_some, List.map_append, List.append_assoc]
            rfl
          rw [this, List.map_append]
          exact o4.app
        · rw [List.take_add_one, hte, Option.toList_some, List.all_append, al]
          show (true && ((decide (1 ≤ z) && t2.kTup) && true)) = true
          rw [decide_eq_true h8, h5]
          rfl
    · rintro σ H4 ⟨x4, rfl, o4, al⟩
      rw [vl, List.take_length] at o4 al
      have ll := labs_len n ts
      have ht4 := o4.sm _ _ ht
      have q : ∀ (b : Bool) H', (b = true ↔ ∀ (j : Nat) (e : Th), ts[j]? = some e → ShowsT n k (labsT n ts) (n.many + j) (waysT e)) → Same H H' → Q (.bl b) H' := fun b H' hb s => q b H' (hb.trans ⟨fun z => ⟨ts, rfl, el, al, z⟩, fun ⟨ts', e, _, _, z⟩ => by
        obtain rfl := tup_inj e
        exact z⟩) s
      refine ⟨_, rfl, ta, _, rfl, .inr (SqT.of ht4), _, rfl, by omega, by omega, fun M nM => ?_⟩
      refine lc_range (lo := 0) (n := (((vs.length : Nat)) : Int).toNat) (fun i H' => ∃ ks : List Nat, Own H4 H' M (ks.map nV) ∧ ks.length ≤ i ∧ (ks = [] ↔ ∀ (j : Nat) (e : Th), j < i → ts[j]? = some e → ShowsT n k (labsT n ts) (n.many + j) (waysT e))) ⟨[], ⟨Same.new nM, upd_same, nM⟩, Nat.zero_le _, fun _ j e h => absurd h (Nat.not_lt_zero _), fun _ => rfl⟩ ?_ ?_
      · rintro i H5 hi ⟨ks, o5, kl, kiff⟩
        rw [Int.toNat_natCast, vl] at hi
        have s45 := o4.sm.trans o5.sm
        have N5 := N.same s45
        have hx : vs[i]? = some vs[i] := List.getElem?_eq_getElem (by omega)
        obtain ⟨te, hte, rt⟩ := ra.get hx
        have rt := rt.mono (KeepT.same s45)
        have em := List.mem_of_getElem? hte
        have eb := List.all_eq_true.mp al te em
        obtain ⟨pe, q1, us, ev, hp, hq, rw_⟩ := ent_at rt eb
        rw [ev] at hx
        rw [show V.int (0 + ((i : Nat) : Int)) = nV i from congrArg V.int (Int.zero_add _)]
        refine ⟨rfl, ?_⟩
        refine ⟨_, rfl, _, rfl, _, rfl, _, rfl, a, _, 0, _, rfl, rfl, SqT.of N5.top, at0, _, rfl, _, _, rfl, rfl, _, rfl, _, rfl, ta, _, _, _, rfl, rfl, SqT.of (o5.sm _ _ ht4), atI_nat hx, pe, _, 1, _, rfl, rfl, SqT.of hp, at1, ?_⟩
        refine ⟨a, n, g, o, ps, k, n.many + i, l, q1, labsT n ts, us, waysT te, rfl, N5, ok, o5.sm _ _ o4.at_, by rw [ll, el], Nat.le_add_right _ _, by omega, hq, rw_, fun h1 h2 => nb te em eb (by rw [← labs_at hte]; exact h1) h2, hk, fun b H6 hb s6 => ?_⟩
        have o6 : Own H4 H6 M (ks.map nV) := ⟨o5.sm.trans s6, s6 _ _ o5.at_, o5.nw⟩
        refine ⟨_, rfl, ?_⟩
        cases b with
        | false =>
          refine iteT ?_
          refine ⟨_, rfl, _, o6.at_, by rw [List.length_map]; exact small256 (by omega), ks ++ [i], by rw [List.map_append]; exact o6.app, by rw [List.length_append]; show _ + 1 ≤ _; omega, fun z => absurd z (by simp), fun z => ?_⟩
          have := hb.mpr (z i te (Nat.lt_succ_self _) hte)
          cases this
        | true =>
          refine iteF ⟨ks, o6, by omega, kiff.trans ⟨fun z j y hj hy => ?_, fun z j y hj hy => z j y (by omega) hy⟩⟩
          by_cases e1 : j = i
          · rw [e1] at hy ⊢
            rw [hte] at hy
            cases hy
            exact hb.mp rfl
          · exact z j y (by omega) hy
      · rintro H5 ⟨ks, o5, kl, kiff⟩
        rw [Int.toNat_natCast, vl] at kiff
        refine ⟨small 0, fun e ne => ?_⟩
        have s6 := Same.new (o := .lst []) ne
        refine ⟨M, e, _, rfl, rfl, .inr ⟨SqL.of (s6 _ _ o5.at_), SqL.of upd_same⟩, ?_⟩
        refine q _ _ ?_ ((o4.sm.trans o5.sm).trans s6)
        rw [decide_eq_true_iff, List.length_map, List.length_eq_zero_iff, kiff]
        exact ⟨fun z j y hy => z j y (List.getElem?_eq_some_iff.mp hy).1 hy, fun z j y _ hy => z j y hy⟩
end
end K26
set_option Elab.async false
set_option linter.all false
set_option maxRecDepth 100000
set_option maxHeartbeats 4000000
/-! Shown texts hold code points alone. -/
namespace GX
open PySem PySem.Spec PyProof.Rows L2
theorem sok_app {a b : Str} (ha : PyData.strOk a = true) (hb : PyData.strOk b = true) : PyData.strOk (a ++ b) = true := by
  unfold PyData.strOk at *
  show (a.cps ++ b.cps).all _ = true
  rw [Array.all_append, ha, hb]
  rfl
theorem sok_join {s : Str} (hs : PyData.strOk s = true) : ∀ {ts : List Str}, (∀ t ∈ ts, PyData.strOk t = true) → PyData.strOk (Str.join s ts) = true
  | [], _ => by show PyData.strOk Str.empty = true; decide +kernel
  | [x], h => h x List.mem_cons_self
  | x :: y :: r, h => by
    show PyData.strOk (x ++ s ++ Str.join s (y :: r)) = true
    exact sok_app (sok_app (h x List.mem_cons_self) hs) (sok_join hs fun t ht => h t (List.mem_cons_of_mem _ ht))
theorem sok_tup {ds : List PyData} (h : ∀ d ∈ ds, PyData.strOk d.shown = true) : PyData.strOk (PyData.tuple ds).shown = true := by
  have hall : ∀ ds : List PyData, (∀ d ∈ ds, PyData.strOk d.shown = true) → ∀ t ∈ PyData.shownAll ds, PyData.strOk t = true := by
    intro ds
    induction ds with
    | nil => intro _ t ht; rw [PyData.shownAll] at ht; cases ht
    | cons d r ih =>
      intro h t ht
      rw [PyData.shownAll] at ht
      rcases List.mem_cons.mp ht with rfl | ht
      · exact h d List.mem_cons_self
      · exact ih (fun e he => h e (List.mem_cons_of_mem _ he)) t ht
  rw [PyData.shown]
  unfold tupleText
  refine sok_app (sok_app (by decide +kernel) (sok_join (by decide +kernel) (hall ds h))) ?_
  split <;> decide +kernel
theorem sok_nat : ∀ n : Nat, n < 100 → PyData.strOk (PyData.int ((n : Nat) : Int)).shown = true := by
  intro n hn
  rw [PyData.shown]
  exact (show ∀ n : Nat, n < 100 → PyData.strOk (Str.ofString (toString ((n : Nat) : Int))) = true by decide +kernel) n hn
end GX
set_option Elab.async false
set_option linter.all false
set_option maxRecDepth 100000
set_option maxHeartbeats 4000000
namespace K26
open PySem PySem.Spec PyProof.Rows L2 GX
open C8 (Cal pe_c pe_gc)
section
/-! ### papers as data to be held against one another and shown -/
def entD (e : Nat × List (List Nat)) : PyData := .tuple [.int ((e.1 : Nat) : Int), .tuple (tupsD e.2)]
def papD (es : Pap) : List PyData := es.map entD
theorem dpPapAll {K : PySem.W.Frag} {H : Hp} : ∀ {qs : List Addr} {es : Pap}, PtsAt EntAt H qs es → DpAll K H (qs.map V.ref) (papD es)
  | [], es, x => by
    have : es = [] := List.length_eq_zero_iff.mp x.1.symm
    subst this
    exact .nil
  | p :: r, [], x => by cases x.1
  | p :: r, e :: es, x => by
    obtain ⟨q, us, h1, h2, h3⟩ := x.2 0 p e rfl rfl
    exact .cons (.tup (SqT.of h1) (.cons (.int _) (.cons (.tup (SqT.of h2) (dpTups h3)) .nil))) (dpPapAll (K := K) (H := H) (qs := r) (es := es) ⟨by simpa using x.1, fun i p' t' e1 e2 => x.2 (i + 1) p' t' (by simpa using e1) (by simpa using e2)⟩)
theorem PapAt.dp {K : PySem.W.Frag} {H : Hp} {a : Addr} {es : Pap} {qs : List Addr} (x : PapAt H a es qs) : Dp K H (.ref a) (.tuple (papD es)) := .tup (SqT.of x.top) (dpPapAll x.ts)
theorem rpNats {H : Hp} : ∀ xs : List Nat, RpAll false H (xs.map nV) ((xs.map fun n : Nat => (n : Int)).map PyData.int)
  | [] => .nil
  | x :: r => .cons (.int _) (rpNats r)
theorem rpTups {H : Hp} : ∀ {qs : List Addr} {cs : List (List Nat)}, TupsAt H qs cs → RpAll false H (qs.map V.ref) (tupsD cs)
  | [], cs, x => by
    have : cs = [] := List.length_eq_zero_iff.mp x.1.symm
    subst this
    exact .nil
  | p :: r, [], x => by cases x.1
  | p :: r, c :: cs, x => .cons (.tup (x.2 0 p c rfl rfl) (rpNats c)) (rpTups (H := H) (qs := r) (cs := cs) ⟨by simpa using x.1, fun i p' t' e1 e2 => x.2 (i + 1) p' t' (by simpa using e1) (by simpa using e2)⟩)
theorem rpPapAll {H : Hp} : ∀ {qs : List Addr} {es : Pap}, PtsAt EntAt H qs es → RpAll false H (qs.map V.ref) (papD es)
  | [], es, x => by
    have : es = [] := List.length_eq_zero_iff.mp x.1.symm
    subst this
    exact .nil
  | p :: r, [], x => by cases x.1
  | p :: r, e :: es, x => by
    obtain ⟨q, us, h1, h2, h3⟩ := x.2 0 p e rfl rfl
    exact .cons (.tup h1 (.cons (.int _) (.cons (.tup h2 (rpTups h3)) .nil))) (rpPapAll (H := H) (qs := r) (es := es) ⟨by simpa using x.1, fun i p' t' e1 e2 => x.2 (i + 1) p' t' (by simpa using e1) (by simpa using e2)⟩)
theorem PapAt.rp {H : Hp} {a : Addr} {es : Pap} {qs : List Addr} (x : PapAt H a es qs) : Rp false H (.ref a) (.tuple (papD es)) := .tup x.top (rpPapAll x.ts)
theorem sdNats {xs : List Nat} (h : ∀ x ∈ xs, x < 100) : ∀ d ∈ (xs.map fun n : Nat => (n : Int)).map PyData.int, Sd 0 4 d := fun d hd => by
  rw [List.map_map] at hd
  obtain ⟨x, hx, rfl⟩ := List.mem_map.mp hd
  have := h x hx
  exact Sd.int (show (((x : Nat) : Int)).natAbs < 1000 by omega)
/-- a paper of few and small numbers -/
structure PapS (es : Pap) : Prop where
  len : es.length ≤ 16
  lab : ∀ e ∈ es, e.1 < 100
  few : ∀ e ∈ es, e.2.length ≤ 60
  way : ∀ e ∈ es, ∀ xs ∈ e.2, xs.length ≤ 60 ∧ ∀ x ∈ xs, x < 100
theorem pap_sd {es : Pap} (h : PapS es) : Sd 4 (16 * (60 * (60 * (4 + 2) + 3 + 2) + 3 + 4 + 2 + 2 * 2 + 100000 + 2) + 3) (.tuple (papD es)) := by
  refine Sd.tup (m := 3) (fun d hd => ?_) (by unfold papD; rw [List.length_map]; exact h.len)
  obtain ⟨e, he, rfl⟩ := List.mem_map.mp hd
  have s1 : Sd 1 (60 * (60 * (4 + 2) + 3 + 2) + 3) (.tuple (tupsD e.2)) → Sd 2 (60 * (60 * (4 + 2) + 3 + 2) + 3) (.tuple (tupsD e.2)) := fun z => z.mono (by decide) (Nat.le_refl _)
  have s2 : Sd 2 (60 * (60 * (4 + 2) + 3 + 2) + 3) (.tuple (tupsD e.2)) := Sd.tup (m := 1) (fun d hd => by
    obtain ⟨c, hc, rfl⟩ := List.mem_map.mp hd
    exact Sd.tup (m := 0) (sdNats (h.way e he c hc).2) (by rw [List.length_map, List.length_map]; exact (h.way e he c hc).1)) (by unfold tupsD; rw [List.length_map]; exact h.few e he)
  have s3 : ∀ d ∈ [PyData.int ((e.1 : Nat) : Int), PyData.tuple (tupsD e.2)], Sd 2 (60 * (60 * (4 + 2) + 3 + 2) + 3) d := fun d hd => by
    rcases List.mem_cons.mp hd with rfl | hd
    · have := h.lab e he
      exact (Sd.int (show (((e.1 : Nat) : Int)).natAbs < 1000 by omega)).mono (by decide) (by decide)
    · rw [List.mem_singleton.mp hd]
      exact s2
  exact (Sd.tup s3 (show 2 ≤ 2 by decide)).mono (Nat.le_refl _) (by decide)
theorem pap_sok {es : Pap} (h : PapS es) : PyData.strOk (PyData.tuple (papD es)).shown = true := by
  have nats : ∀ {xs : List Nat}, (∀ x ∈ xs, x < 100) → ∀ d ∈ (xs.map fun n : Nat => (n : Int)).map PyData.int, PyData.strOk d.shown = true := fun hx d hd => by
    rw [List.map_map] at hd
    obtain ⟨x, hx', rfl⟩ := List.mem_map.mp hd
    exact sok_nat x (hx x hx')
  refine sok_tup fun d hd => ?_
  obtain ⟨e, he, rfl⟩ := List.mem_map.mp hd
  refine sok_tup fun d hd => ?_
  rcases List.mem_cons.mp hd with rfl | hd
  · exact sok_nat _ (h.lab e he)
  · rw [List.mem_singleton.mp hd]
    refine sok_tup fun d hd => ?_
    obtain ⟨c, hc, rfl⟩ := List.mem_map.mp hd
    exact sok_tup (nats (h.way e he c hc).2)
theorem deps_lt23 {n : Net} (ok : n.Ok) {k : Nat} {ds : List Nat} (dt : DepsTo n k ds) : ∀ m x, x ≤ m → x < ds.length → ds.getD x 0 ≤ x := by
  have m1 := ok.m1
  intro m
  induction m with
  | zero =>
    intro x h hx
    rw [dt.low x (by omega) hx]
    exact Nat.zero_le _
  | succ m ih =>
    intro x h hx
    by_cases hm : x < n.many
    · rw [dt.low x hm hx]
      exact Nat.zero_le _
    · obtain ⟨c, lc, e⟩ := (dt.at_ x (by omega) hx).1
      rw [e]
      by_cases e0 : 0 < (c.map fun x => ds.getD x 0).length
      · obtain ⟨y, hy, ey⟩ := List.mem_map.mp (maxL_mem e0)
        have l := lc.lt y hy
        have := ih y (by omega) (by omega)
        have ey : ds.getD y 0 = maxL (c.map fun x => ds.getD x 0) := ey
        omega
      · have e0 : (c.map fun x => ds.getD x 0) = [] := List.length_eq_zero_iff.mp (by omega)
        rw [e0]
        show 1 + 0 ≤ x
        omega
/-! ### cuts as texts -/
theorem PapIs.small {n : Net} {k : Nat} {ds : List Nat} {es : Pap} (a : PapIs n k ds es) (nok : n.Ok) (dl : ds.length = n.many + n.gates.length) (dt : DepsTo n k ds) (hk : k ≤ 50) : PapS es := by
  have m8 := nok.m8
  have g16 := nok.g16
  have all : ∀ e ∈ es, ∃ j ws, j < n.gates.length ∧ Rset n [] (n.many + j) ws ∧ e = entP n k ds (n.many + j) ws := fun e he => by
    obtain ⟨j, hj⟩ := List.getElem?_of_mem he
    obtain ⟨ws, r, e1⟩ := a.at_ j e hj
    exact ⟨j, ws, by rw [← a.len]; exact (List.getElem?_eq_some_iff.mp hj).1, r, e1⟩
  refine ⟨by rw [a.len]; exact g16, fun e he => ?_, fun e he => ?_, fun e he xs hx => ?_⟩
  · obtain ⟨j, ws, hj, r, rfl⟩ := all e he
    have := deps_lt23 nok dt (n.many + j) (n.many + j) (Nat.le_refl _) (by omega)
    show ds.getD (n.many + j) 0 < 100
    omega
  · obtain ⟨j, ws, hj, r, rfl⟩ := all e he
    unfold entP
    by_cases h : ds.getD (n.many + j) 0 = 1
    · rw [if_pos h]
      exact Nat.zero_le _
    · rw [if_neg h]
      show (apW n ws (shOf ds ws (n.many + j)) (n.many + j) k).length ≤ 60
      have : (apW n ws (shOf ds ws (n.many + j)) (n.many + j) k).length = k + 1 := drawN_len _ _ _ _
      omega
  · obtain ⟨j, ws, hj, r, rfl⟩ := all e he
    unfold entP at hx
    have d1 : 1 ≤ ds.getD (n.many + j) 0 := deps_one dt (Nat.le_add_right _ _) (by omega)
    by_cases h : ds.getD (n.many + j) 0 = 1
    · rw [if_pos h] at hx
      cases hx
    · rw [if_neg h] at hx
      have c := cn_deps nok dl dt r (Nat.le_add_right _ _) (show n.many + j < n.many + n.gates.length by omega) (by omega)
      obtain ⟨w1, w2⟩ := c.ways.2.1 xs hx
      exact ⟨w2, fun x hx => by have := w1.lt x hx; omega⟩
end
end K26
set_option Elab.async false
set_option linter.all false
set_option maxRecDepth 100000
set_option maxHeartbeats 4000000
/-! A deck whose count is bounded. -/
namespace GX
open PySem PySem.Spec PyProof.Rows L2
structure Wt (H : Hp) (W C : Addr) (t : Nat) : Prop where
  ex : ∃ (ns : List Int) (a b : Int), H W = some (.lst [.ref C, .int a, .int b]) ∧ H C = some (.lst (ns.map V.int)) ∧ ns.length ≤ 64 ∧ 0 ≤ b ∧ b ≤ (t : Int)
  ne : W ≠ C
theorem Wt.wd {H : Hp} {W C : Addr} {t : Nat} (h : Wt H W C t) : Wd H W C := by
  obtain ⟨⟨ns, a, b, e1, e2, l, _⟩, ne⟩ := h
  exact ⟨⟨ns, a, b, e1, e2, l⟩, ne⟩
theorem Wt.le {H : Hp} {W C : Addr} {t u : Nat} (h : Wt H W C t) (l : t ≤ u) : Wt H W C u := by
  obtain ⟨⟨ns, a, b, e1, e2, l1, l2, l3⟩, ne⟩ := h
  exact ⟨⟨ns, a, b, e1, e2, l1, l2, by omega⟩, ne⟩
theorem Wt.same {H H' : Hp} {W C : Addr} {t : Nat} (h : Wt H W C t) (s : Same H H') : Wt H' W C t := by
  obtain ⟨⟨ns, a, c, e1, e2, l⟩, ne⟩ := h
  exact ⟨⟨ns, a, c, s _ _ e1, s _ _ e2, l⟩, ne⟩
theorem Wt.keep {X : List Addr} {H H' : Hp} {W C : Addr} {t : Nat} (h : Wt H W C t) (k : Keep X H H') (n : W ∉ X) (m : C ∉ X) : Wt H' W C t := by
  obtain ⟨⟨ns, a, c, e1, e2, l⟩, ne⟩ := h
  exact ⟨⟨ns, a, c, k _ _ e1 n, k _ _ e2 m, l⟩, ne⟩
theorem Wt.put {H : Hp} {W C l : Addr} {t : Nat} {o : HO} (h : Wt H W C t) (n : l ≠ W ∧ l ≠ C) : Wt (upd H l o) W C t := by
  obtain ⟨⟨ns, a, c, e1, e2, z⟩, ne⟩ := h
  exact ⟨⟨ns, a, c, by rw [upd_ne (Ne.symm n.1)]; exact e1, by rw [upd_ne (Ne.symm n.2)]; exact e2, z⟩, ne⟩
/-- the deck stands, all else is kept -/
structure Wkt (W C : Addr) (t : Nat) (H H' : Hp) : Prop where
  wl : Wt H' W C t
  kp : Keep [W, C] H H'
theorem Wkt.wk {W C : Addr} {t : Nat} {H H' : Hp} (s : Wkt W C t H H') : Wk2 W C H H' := ⟨s.wl.wd, s.kp⟩
theorem Wkt.le {W C : Addr} {t u : Nat} {H H' : Hp} (s : Wkt W C t H H') (l : t ≤ u) : Wkt W C u H H' := ⟨s.wl.le l, s.kp⟩
theorem Wkt.nxt {W C : Addr} {t u : Nat} {H H1 H2 : Hp} (s : Wkt W C t H H1) (r : Wkt W C u H1 H2) : Wkt W C u H H2 := ⟨r.wl, s.kp.trans r.kp⟩
theorem Wkt.same {W C : Addr} {t : Nat} {H H1 H2 : Hp} (s : Wkt W C t H H1) (e : Same H1 H2) : Wkt W C t H H2 := ⟨s.wl.same e, s.kp.trans (Same.keep e)⟩
theorem Wkt.new {W C : Addr} {t : Nat} {H H1 : Hp} {p : Addr} {o : HO} (s : Wkt W C t H H1) (n : H1 p = none) : Wkt W C t H (upd H1 p o) := s.same (Same.new n)
theorem Wkt.refl {W C : Addr} {t : Nat} {H : Hp} (h : Wt H W C t) : Wkt W C t H H := ⟨h, Keep.refl⟩
theorem Wkt.at_ {W C : Addr} {t : Nat} {H H' : Hp} {l : Addr} {o : HO} (k : Wkt W C t H H') (n : l ≠ W ∧ l ≠ C) (e : H l = some o) : H' l = some o := k.wk.at_ n e
theorem Wkt.was {W C : Addr} {t : Nat} {H H' : Hp} {l : Addr} (k : Wkt W C t H H') (n : H' l = none) : H l = none := k.wk.was n
theorem Wkt.put {W C : Addr} {t : Nat} {H H' : Hp} {l : Addr} {o : HO} (s : Wkt W C t H H') (nl : H l = none) (n : l ≠ W ∧ l ≠ C) : Wkt W C t H (upd H' l o) := ⟨s.wl.put n, (s.wk.put nl n).kp⟩
theorem Wt.new {H : Hp} {W C l : Addr} {t : Nat} (h : Wt H W C t) (n : H l = none) : l ≠ W ∧ l ≠ C := h.wd.new n
theorem Wt.tup {H H' : Hp} {W C : Addr} {t u : Nat} (h : Wt H W C t) (k : Wkt W C u H H') {b : Addr} {xs : List V} (e : H b = some (.tup xs)) : H' b = some (.tup xs) := h.wd.tup k.wk e
theorem Wt.gates {H H' : Hp} {W C : Addr} {t u : Nat} (h : Wt H W C t) (k : Wkt W C u H H') {ps : List Addr} {gs : List (Nat × Nat × Nat)} (x : GatesAt H ps gs) : GatesAt H' ps gs := x.mono fun b xs e => h.tup k e
/-- the deck, the tables stand; all else is kept -/
structure Dkt (W C : Addr) (t : Nat) (Ts : List Addr) (H H' : Hp) : Prop where
  wl : Wt H' W C t
  tb : Tabs Ts H'
  kp : Keep (W :: C :: Ts) H H'
theorem Dkt.dk {W C : Addr} {t : Nat} {Ts : List Addr} {H H1 : Hp} (d : Dkt W C t Ts H H1) : Dk2 W C Ts H H1 := ⟨d.wl.wd, d.tb, d.kp⟩
theorem Dkt.le {W C : Addr} {t u : Nat} {Ts : List Addr} {H H1 : Hp} (d : Dkt W C t Ts H H1) (l : t ≤ u) : Dkt W C u Ts H H1 := ⟨d.wl.le l, d.tb, d.kp⟩
theorem Dkt.refl {W C : Addr} {t : Nat} {Ts : List Addr} {H : Hp} (w : Wt H W C t) (tb : Tabs Ts H) : Dkt W C t Ts H H := ⟨w, tb, Keep.refl⟩
theorem Dkt.aft {W C : Addr} {t : Nat} {Ts : List Addr} {H H1 H2 : Hp} (d : Dkt W C t Ts H H1) (a : Aft Ts H1 H2) : Dkt W C t Ts H H2 := ⟨d.wl.keep a.kp (d.wl.wd.tabW d.tb) (d.wl.wd.tabC d.tb), a.tb, (d.dk.aft a).kp⟩
theorem Dkt.same {W C : Addr} {t : Nat} {Ts : List Addr} {H H1 H2 : Hp} (d : Dkt W C t Ts H H1) (s : Same H1 H2) : Dkt W C t Ts H H2 := d.aft (Aft.ofSame d.tb s)
theorem Dkt.draw {W C : Addr} {t u : Nat} {Ts : List Addr} {H H1 H2 : Hp} (d : Dkt W C t Ts H H1) (s : Wkt W C u H1 H2) : Dkt W C u Ts H H2 := ⟨s.wl, (d.dk.draw s.wk).tb, (d.dk.draw s.wk).kp⟩
theorem Dkt.put {W C : Addr} {t : Nat} {Ts : List Addr} {H H1 : Hp} {l : Addr} {o : HO} {xs : List V} (d : Dkt W C t Ts H H1) (nl : H l = none) (hl : H1 l = some (.lst xs)) (n : l ≠ W ∧ l ≠ C) : Dkt W C t Ts H (upd H1 l o) := ⟨d.wl.put n, (d.dk.put nl hl n).tb, (d.dk.put nl hl n).kp⟩
theorem Dkt.was {W C : Addr} {t : Nat} {Ts : List Addr} {H H1 : Hp} {l : Addr} (d : Dkt W C t Ts H H1) (n : H1 l = none) : H l = none := d.dk.was n
/-- what stood stands, but the deck -/
theorem Dkt.at_ {W C : Addr} {t : Nat} {Ts : List Addr} {H H1 : Hp} {l : Addr} {o : HO} (d : Dkt W C t Ts H H1) (n : l ≠ W ∧ l ≠ C) (m : l ∉ Ts) (e : H l = some o) : H1 l = some o := d.kp _ _ e fun z => by
  rcases List.mem_cons.mp z with z | z
  · exact n.1 z
  · rcases List.mem_cons.mp z with z | z
    · exact n.2 z
    · exact m z
end GX
set_option Elab.async false
set_option linter.all false
set_option maxRecDepth 100000
set_option maxHeartbeats 4000000
namespace K26
open PySem PySem.Spec PyProof.Rows L2 GX
open C8 (Cal pe_c pe_gc)
section
variable {P : Program} {w : World} {K : PySem.W.Frag} {mg : Str → Option Value} {base : Heap}
/-! ### the deck -/
def spDraw : Sp := fun vs H Q _ => ∃ (W C : Addr) (m : Int) (t : Nat), vs = [.ref W, .int m] ∧ Wt H W C t ∧ t ≤ 1000000 ∧ 0 < m ∧ m < 1361129467683753853853498429727072845824 ∧ ∀ d H', 0 ≤ d → d < m → Wkt W C (t + 1) H H' → Q (.int d) H'
theorem ok_draw {f c : Addr} (D : Dfn K mg "_law_draw" s__law_draw f c) (T : Txt mg) : Cal P w K mg base 1 "_law_draw" spDraw [] := by
  refine cal D (fun _ _ _ _ _ _ us hl => match us, hl with | [_, _], _ => rfl) sc__law_draw (fun vs H Q E h => ?_) (fun A outer s H vs Q E hr h => ?_)
  · obtain ⟨W, C, m, t, rfl, _⟩ := h
    rfl
  · obtain ⟨W, C, m, t, rfl, ⟨⟨ns, a, b, hW, hC, hl, b0, bt⟩, ne⟩, ht, hm0, hm1, q⟩ := h
    have lgm : m.natAbs.log2 < 9000 := (Nat.log2_lt (by omega)).mpr (Nat.lt_of_lt_of_le (show m.natAbs < 2 ^ 130 by omega) (Nat.pow_le_pow_right (by decide) (by decide)))
    refine ⟨_, (pss_cons (ps_asg (pe_op op_add (pe_ix ix_list (pv 0) pe_int (fun _ _ => rfl)) pe_int) (pg_sub (pv 0) pe_int set_list))
      (pss_cons (ps_set (i := 2) sc__law_draw.nd rfl (by first | exact Or.inl rfl | exact Or.inr rfl) (pe_ix ix_list (pv 0) pe_int (fun _ _ => rfl)))
      (pss_cons (ps_if (pt_cmpR (op_neD hr.units) (pe_ix ix_list (pv 0) pe_int (fun _ _ => rfl)) (pe_lst pa_nil) (nomark _)) (pss_cons (ps_set (i := 2) sc__law_draw.nd rfl (by first | exact Or.inl rfl | exact Or.inr rfl) (pe_bm0 PySem.F.plainAttrs_list PySem.F.slot_list_pop PySem.F.type_list_pop mt_pop (pe_ix ix_list (pv 0) pe_int (fun _ _ => rfl))))
      (pss_one (ps_if (pt_cmpR op_ge (pv 2) (pe_op op_pow pe_int pe_int) (nomark _)) (pss_cons (ps_expr (pe_bm PySem.F.plainAttrs_list PySem.F.slot_list_append PySem.F.type_list_append mt_append (pe_ix ix_list (pv 0) pe_int (fun _ _ => rfl)) (pa_cons (pe_op op_fdivW (pv 2) (pv 1)) pa_nil)))
      (pss_one (ps_ret (pe_op op_mod (pv 2) (pv 1))))) pss_nil))) pss_nil)
      (pss_cons (ps_set (i := 3) sc__law_draw.nd rfl (by first | exact Or.inl rfl | exact Or.inr rfl) (pe_op op_mod (pe_op op_mul (pe_op op_add (pe_op op_mod (pv 2) pe_int) pe_int) (pe_op op_add (pe_op op_mul (pe_ix ix_list (pv 0) pe_int (fun _ _ => rfl)) (pe_ix ix_list (pv 0) pe_int (fun _ _ => rfl))) pe_int)) pe_int))
      (pss_cons (ps_set (i := 3) sc__law_draw.nd rfl (by first | exact Or.inl rfl | exact Or.inr rfl) (pe_op op_mod (pe_op op_pow (pv 3) pe_int) pe_int))
      (pss_cons (ps_set (i := 3) sc__law_draw.nd rfl (by first | exact Or.inl rfl | exact Or.inr rfl) (pe_op op_mod (pe_op op_add (pe_op op_add (pe_op op_mul (pv 3) pe_int) (pe_op op_mul pe_int (pe_ix ix_list (pv 0) pe_int (fun _ _ => rfl)))) pe_int) pe_int))
      (pss_cons (ps_set (i := 3) sc__law_draw.nd rfl (by first | exact Or.inl rfl | exact Or.inr rfl) (pe_op op_mod (pe_op op_mul (pv 3) (pe_op op_add (pe_op op_fdivW (pv 3) pe_int) pe_int)) pe_int))
      (pss_one (ps_ret (pe_op op_mod (pe_op op_fdivW (pe_op op_mod (pe_op op_mul (pv 3) pe_int) pe_int) pe_int) (pv 1))))))))))), ?_⟩
    refine ⟨_, rfl, W, _, 2, _, rfl, rfl, SqL.of hW, at2, _, _, rfl, rfl, _, rfl, W, _, 2, 2, rfl, rfl, hW, rfl, ?_⟩
    have hW1 : (upd H W (.lst ([.ref C, .int a, .int b].set 2 (.int (b + 1))))) W = some (.lst [.ref C, .int a, .int (b + 1)]) := upd_same
    have hC1 : (upd H W (.lst ([.ref C, .int a, .int b].set 2 (.int (b + 1))))) C = some (.lst (ns.map V.int)) := by rw [upd_ne (Ne.symm ne)]; exact hC
    have k1 : Keep [W, C] H (upd H W (.lst ([.ref C, .int a, .int b].set 2 (.int (b + 1))))) := Keep.put List.mem_cons_self
    generalize (upd H W (.lst ([.ref C, .int a, .int b].set 2 (.int (b + 1))))) = H1 at hW1 hC1 k1 ⊢
    refine ⟨_, rfl, W, _, 1, _, rfl, rfl, SqL.of hW1, at1, ?_⟩
    refine ⟨_, rfl, W, _, 0, _, rfl, rfl, SqL.of hW1, at0, small 0, fun z nz => ?_⟩
    have e2 := Same.new (o := .lst []) nz
    refine ⟨.list (ns.map PyData.int), .list [], .lst (SqL.of (e2 _ _ hC1)) (dpInt K _ _), .lst (SqL.of upd_same) .nil, PySem.W.ke_shaped_ints ns, by decide, _, rfl, ?_⟩
    have hW2 := e2 _ _ hW1
    have hC2 := e2 _ _ hC1
    have k2 : Keep [W, C] H (upd H1 z (.lst [])) := k1.trans (Same.keep e2)
    generalize upd H1 z (.lst []) = H2 at e2 hW2 hC2 k2 ⊢
    refine ite2 (fun g => ?_) (fun g => ?_)
    · have g' : ns.length ≠ 0 := fun z => by
        have : PyData.eqv (.list (ns.map PyData.int)) (.list []) = true := by
          show PyData.eqvAll _ [] = true
          rw [eqvAllN, List.length_map]
          exact decide_eq_true z
        rw [this] at g
        cases g
      obtain ⟨ms, x, rfl⟩ : ∃ ms x, ns = ms ++ [x] := ⟨ns.dropLast, ns.getLast (fun z => g' (by rw [z]; rfl)), (List.dropLast_concat_getLast _).symm⟩
      have el : ((ms ++ [x]).map V.int)[((ms ++ [x]).map V.int).length - 1]? = some (.int x) := by
        rw [List.map_append, List.length_append, List.length_map]
        show (ms.map V.int ++ [V.int x])[ms.length + 1 - 1]? = _
        rw [List.getElem?_append_right (by rw [List.length_map]; omega), List.length_map, Nat.add_sub_cancel, Nat.sub_self]
        rfl
      have ed : ((ms ++ [x]).map V.int).dropLast = ms.map V.int := by
        rw [List.map_append]
        exact List.dropLast_concat
      refine ⟨_, rfl, W, _, 0, _, rfl, rfl, SqL.of hW2, at0, .inl ⟨rfl, _, SqL.of hC2⟩, C, _, _, rfl, rfl, hC2, el, ?_⟩
      rw [ed]
      have hW3 : (upd H2 C (.lst (ms.map V.int))) W = some (.lst [.ref C, .int a, .int (b + 1)]) := by rw [upd_ne ne]; exact hW2
      have hC3 : (upd H2 C (.lst (ms.map V.int))) C = some (.lst (ms.map V.int)) := upd_same
      have k3 : Keep [W, C] H (upd H2 C (.lst (ms.map V.int))) := k2.trans (Keep.put (List.mem_cons_of_mem _ List.mem_cons_self))
      have hl3 : ms.length + 1 ≤ 64 := by rw [List.length_append] at hl; exact hl
      generalize upd H2 C (.lst (ms.map V.int)) = H3 at hW3 hC3 k3 ⊢
      refine ⟨_, rfl, _, _, rfl, rfl, ⟨by decide, by decide, by decide⟩, _, _, rfl, rfl, _, rfl, ite2 (fun g2 => ?_) (fun g2 => ?_)⟩
      · refine ⟨_, rfl, W, _, 0, _, rfl, rfl, SqL.of hW3, at0, .inl ⟨rfl, _, SqL.of hC3⟩, _, rfl, _, rfl, _, _, rfl, rfl, ⟨hm0, lgm⟩, C, _, _, rfl, rfl, hC3, by rw [List.length_map]; exact len64 (by omega), ?_⟩
        refine ⟨_, rfl, _, rfl, _, _, rfl, rfl, hm0, ?_⟩
        refine q _ _ (Int.emod_nonneg _ (by omega)) (Int.emod_lt_of_pos _ hm0) ⟨⟨⟨ms ++ [x / m], _, _, by rw [upd_ne ne]; exact hW3, by rw [upd_same, List.map_append]; rfl, by rw [List.length_append]; exact hl3, by omega, by omega⟩, ne⟩, k3.trans (Keep.put (List.mem_cons_of_mem _ List.mem_cons_self))⟩
      · refine ⟨_, rfl, _, _, rfl, rfl, (by show (0 : Int) < 2147483587; decide), _, _, rfl, rfl, _, rfl, W, _, 2, _, rfl, rfl, SqL.of hW3, at2, _, rfl, W, _, 2, _, rfl, rfl, SqL.of hW3, at2, _, _, rfl, rfl, .inl (by omega), _, _, rfl, rfl, _, _, rfl, rfl, .inl (by omega), _, _, rfl, rfl, (by show (0 : Int) < 2147483647; decide), ?_⟩
        have b1 := Int.emod_nonneg ((x % 2147483587 + 1) * ((b + 1) * (b + 1) + 48271)) (show (2147483647 : Int) ≠ 0 by decide)
        have b2 := Int.emod_lt_of_pos ((x % 2147483587 + 1) * ((b + 1) * (b + 1) + 48271)) (show (0 : Int) < 2147483647 by decide)
        generalize ((x % 2147483587 + 1) * ((b + 1) * (b + 1) + 48271)) % 2147483647 = n1 at b1 b2 ⊢
        refine ⟨_, rfl, _, _, rfl, rfl, ⟨by decide, by decide, by omega⟩, _, _, rfl, rfl, (by show (0 : Int) < 2147483629; decide), ?_⟩
        have b3 := Int.emod_nonneg (n1 ^ (3 : Int).toNat) (show (2147483629 : Int) ≠ 0 by decide)
        have b4 := Int.emod_lt_of_pos (n1 ^ (3 : Int).toNat) (show (0 : Int) < 2147483629 by decide)
        generalize n1 ^ (3 : Int).toNat % 2147483629 = n2 at b3 b4 ⊢
        refine ⟨_, rfl, _, _, rfl, rfl, .inl (by omega), _, rfl, W, _, 2, _, rfl, rfl, SqL.of hW3, at2, _, _, rfl, rfl, .inl (by omega), _, _, rfl, rfl, _, _, rfl, rfl, _, _, rfl, rfl, (by show (0 : Int) < 2147483579; decide), ?_⟩
        have b5 := Int.emod_nonneg (n2 * 39373 + 69621 * (b + 1) + 7919) (show (2147483579 : Int) ≠ 0 by decide)
        have b6 := Int.emod_lt_of_pos (n2 * 39373 + 69621 * (b + 1) + 7919) (show (0 : Int) < 2147483579 by decide)
        generalize (n2 * 39373 + 69621 * (b + 1) + 7919) % 2147483579 = n3 at b5 b6 ⊢
        refine ⟨_, rfl, _, rfl, _, _, rfl, rfl, ⟨by decide, by decide +kernel⟩, _, _, rfl, rfl, _, _, rfl, rfl, .inl (by omega), _, _, rfl, rfl, (by show (0 : Int) < 2147483563; decide), ?_⟩
        have b7 := Int.emod_nonneg (n3 * (n3 / 5 + 11)) (show (2147483563 : Int) ≠ 0 by decide)
        have b8 := Int.emod_lt_of_pos (n3 * (n3 / 5 + 11)) (show (0 : Int) < 2147483563 by decide)
        generalize (n3 * (n3 / 5 + 11)) % 2147483563 = n4 at b7 b8 ⊢
        refine ⟨_, rfl, _, _, rfl, rfl, .inl (by omega), _, _, rfl, rfl, (by show (0 : Int) < 2305843009213693951; decide), _, _, rfl, rfl, ⟨by decide, by decide +kernel⟩, _, rfl, _, _, rfl, rfl, hm0, ?_⟩
        exact q _ _ (Int.emod_nonneg _ (by omega)) (Int.emod_lt_of_pos _ hm0) ⟨⟨⟨ms, _, _, hW3, hC3, by omega, by omega, by omega⟩, ne⟩, k3⟩
    · refine ⟨_, rfl, _, _, rfl, rfl, (by show (0 : Int) < 2147483587; decide), _, _, rfl, rfl, _, rfl, W, _, 2, _, rfl, rfl, SqL.of hW2, at2, _, rfl, W, _, 2, _, rfl, rfl, SqL.of hW2, at2, _, _, rfl, rfl, .inl (by omega), _, _, rfl, rfl, _, _, rfl, rfl, .inl (by omega), _, _, rfl, rfl, (by show (0 : Int) < 2147483647; decide), ?_⟩
      have b1 := Int.emod_nonneg ((a % 2147483587 + 1) * ((b + 1) * (b + 1) + 48271)) (show (2147483647 : Int) ≠ 0 by decide)
      have b2 := Int.emod_lt_of_pos ((a % 2147483587 + 1) * ((b + 1) * (b + 1) + 48271)) (show (0 : Int) < 2147483647 by decide)
      generalize ((a % 2147483587 + 1) * ((b + 1) * (b + 1) + 48271)) % 2147483647 = n1 at b1 b2 ⊢
      refine ⟨_, rfl, _, _, rfl, rfl, ⟨by decide, by decide, by omega⟩, _, _, rfl, rfl, (by show (0 : Int) < 2147483629; decide), ?_⟩
      have b3 := Int.emod_nonneg (n1 ^ (3 : Int).toNat) (show (2147483629 : Int) ≠ 0 by decide)
      have b4 := Int.emod_lt_of_pos (n1 ^ (3 : Int).toNat) (show (0 : Int) < 2147483629 by decide)
      generalize n1 ^ (3 : Int).toNat % 2147483629 = n2 at b3 b4 ⊢
      refine ⟨_, rfl, _, _, rfl, rfl, .inl (by omega), _, rfl, W, _, 2, _, rfl, rfl, SqL.of hW2, at2, _, _, rfl, rfl, .inl (by omega), _, _, rfl, rfl, _, _, rfl, rfl, _, _, rfl, rfl, (by show (0 : Int) < 2147483579; decide), ?_⟩
      have b5 := Int.emod_nonneg (n2 * 39373 + 69621 * (b + 1) + 7919) (show (2147483579 : Int) ≠ 0 by decide)
      have b6 := Int.emod_lt_of_pos (n2 * 39373 + 69621 * (b + 1) + 7919) (show (0 : Int) < 2147483579 by decide)
      generalize (n2 * 39373 + 69621 * (b + 1) + 7919) % 2147483579 = n3 at b5 b6 ⊢
      refine ⟨_, rfl, _, rfl, _, _, rfl, rfl, ⟨by decide, by decide +kernel⟩, _, _, rfl, rfl, _, _, rfl, rfl, .inl (by omega), _, _, rfl, rfl, (by show (0 : Int) < 2147483563; decide), ?_⟩
      have b7 := Int.emod_nonneg (n3 * (n3 / 5 + 11)) (show (2147483563 : Int) ≠ 0 by decide)
      have b8 := Int.emod_lt_of_pos (n3 * (n3 / 5 + 11)) (show (0 : Int) < 2147483563 by decide)
      generalize (n3 * (n3 / 5 + 11)) % 2147483563 = n4 at b7 b8 ⊢
      refine ⟨_, rfl, _, _, rfl, rfl, .inl (by omega), _, _, rfl, rfl, (by show (0 : Int) < 2305843009213693951; decide), _, _, rfl, rfl, ⟨by decide, by decide +kernel⟩, _, rfl, _, _, rfl, rfl, hm0, ?_⟩
      exact q _ _ (Int.emod_nonneg _ (by omega)) (Int.emod_lt_of_pos _ hm0) ⟨⟨⟨ns, _, _, hW2, hC2, hl, by omega, by omega⟩, ne⟩, k2⟩
def spDeck (K : PySem.W.Frag) : Sp := fun vs H Q _ => ∃ (a : Addr) (ns : List Int), vs = [.ref a] ∧ SqL K H a (ns.map V.int) ∧ ns.length ≤ 63 ∧ ∀ p C H', H p = none → H C = none → Wt H' p C 0 → Same H H' → Q (.ref p) H'
theorem ok_deck {f c : Addr} (D : Dfn K mg "_law_deck" s__law_deck f c) (T : Txt mg) : Cal P w K mg base 1 "_law_deck" (spDeck K) [] := by
  refine cal D (fun _ _ _ _ _ _ us hl => match us, hl with | [_], _ => rfl) sc__law_deck (fun vs H Q E h => ?_) (fun A outer s H vs Q E hr h => ?_)
  · obtain ⟨a, ns, rfl, _⟩ := h
    rfl
  · obtain ⟨a, ns, rfl, hS, hl, q⟩ := h
    refine ⟨_, (pss_cons (ps_set (i := 1) sc__law_deck.nd rfl (by first | exact Or.inl rfl | exact Or.inr rfl) (pe_callTy call_list_of (by rfl) T.b_list (by decide +kernel) (pa_cons (pe_slice sl_list (pv 0) po_none (po_some pe_int)) pa_nil)))
      (pss_one (ps_ret (pe_lst (pa_cons (pe_revL (pv 1)) (pa_cons (pe_op op_add (pe_op op_mod (pe_callB (cr_sum rfl) (by rfl) T.b_sum (by decide +kernel) (pa_cons (pv 1) pa_nil)) pe_int) (pe_op op_mul pe_int (pe_callB call_len_seq (by rfl) T.b_len (by decide +kernel) (pa_cons (pv 1) pa_nil)))) (pa_cons pe_int pa_nil))))))), ?_⟩
    refine ⟨_, rfl, 63, rfl, ?_⟩
    refine ⟨a, _, rfl, hS, fun p np => ?_⟩
    have e1 := Same.new (o := .lst (cutV (ns.map V.int) none (some 63))) np
    have ec : cutV (ns.map V.int) none (some 63) = ns.map V.int := by
      rw [show (some (63 : Int)) = some ((63 : Nat) : Int) from rfl, cut_hi, List.take_of_length_le (by rw [List.length_map]; exact hl)]
    rw [ec] at e1 ⊢
    refine ⟨p, _, rfl, .inl (SqL.of upd_same), fun L nL => ?_⟩
    have e2 := e1.trans (Same.new (o := .lst (ns.map V.int)) nL)
    have hL : (upd (upd H p (.lst (ns.map V.int))) L (.lst (ns.map V.int))) L = some (.lst (ns.map V.int)) := upd_same
    generalize upd (upd H p (.lst (ns.map V.int))) L (.lst (ns.map V.int)) = H1 at e2 hL ⊢
    refine ⟨_, rfl, L, _, rfl, SqL.of hL, fun C nC => ?_⟩
    have e3 := Same.new (o := .lst (ns.map V.int).reverse) nC
    have hC : upd H1 C (.lst (ns.map V.int).reverse) C = some (.lst (ns.reverse.map V.int)) := by rw [upd_same, List.map_reverse]
    have hL2 := e3 _ _ hL
    have sm := e2.trans e3
    have C0 : H C = none := by
      cases e : H C with
      | none => rfl
      | some u =>
        have := e2 _ _ e
        rw [nC] at this
        cases this
    generalize upd H1 C (.lst (ns.map V.int).reverse) = H2 at sm hC hL2 ⊢
    refine ⟨_, rfl, L, ns, rfl, SqL.of hL2, _, _, rfl, rfl, (by show (0 : Int) < 2147483629; decide), _, rfl, L, _, rfl, .inl (SqL.of hL2), _, _, rfl, rfl, .inl (by omega), _, _, rfl, rfl, small 3, fun W nW => ?_⟩
    have e4 := Same.new (o := .lst [.ref C, .int (ns.sum % 2147483629 + 31 * (((ns.map V.int).length : Nat) : Int)), .int 0]) nW
    have W0 : H W = none := by
      cases e : H W with
      | none => rfl
      | some u =>
        have := sm _ _ e
        rw [nW] at this
        cases this
    exact q W C _ W0 C0 ⟨⟨ns.reverse, _, _, upd_same, e4 _ _ hC, by rw [List.length_reverse]; omega, by omega, by omega⟩, fun z => by rw [z, hC] at nW; cases nW⟩ (sm.trans e4)
end
section
variable {P : Program} {w : World} {K : PySem.W.Frag} {mg : Str → Option Value} {base : Heap}
def spGate : Sp := fun vs H Q _ => ∃ (W C : Addr) (many wire : Nat) (way : Int) (t : Nat), vs = [.ref W, nV many, nV wire, .int way] ∧ Wt H W C t ∧ t ≤ 900000 ∧ 1 ≤ wire ∧ wire ≤ 1000 ∧ many ≤ 1000 ∧ 0 ≤ way ∧ way < 4 ∧
  ∀ p H' (g : Nat × Nat × Nat), g.1 < 16 → g.2.1 < wire → g.2.2 < wire → H' p = some (.tup (gV g)) → Wkt W C (t + 4) H H' → H p = none → Q (.ref p) H'
theorem ok_gate {f c : Addr} (D : Dfn K mg "_law_gate" s__law_gate f c) (T : Txt mg) (c__law_draw : Cal P w K mg base 1 "_law_draw" spDraw []) : Cal P w K mg base 2 "_law_gate" spGate [] := by
  refine cal D (fun _ _ _ _ _ _ us hl => match us, hl with | [_, _, _, _], _ => rfl) sc__law_gate (fun vs H Q E h => ?_) (fun A outer s H vs Q E hr h => ?_)
  · obtain ⟨W, C, many, wire, way, t, rfl, _⟩ := h
    rfl
  · obtain ⟨W, C, many, wire, way, t, rfl, wl, ht, hw1, hw2, hm, y0, y4, q⟩ := h
    refine ⟨_, (pss_cons (ps_set (i := 4) sc__law_gate.nd rfl (by first | exact Or.inl rfl | exact Or.inr rfl) (pe_ix ix_list (pe_lst (pa_cons (pv 2) (pa_cons (pe_callB (call_min2 rfl) (by rfl) T.b_min (by decide +kernel) (pa_cons (pv 2) (pa_cons pe_int pa_nil))) (pa_cons (pe_callB (call_min2 rfl) (by rfl) T.b_min (by decide +kernel) (pa_cons (pv 2) (pa_cons (pe_op op_add (pv 1) pe_int) pa_nil))) (pa_cons (pv 2) pa_nil))))) (pv 3) (fun _ _ => rfl)))
      (pss_cons (ps_set (i := 5) sc__law_gate.nd rfl (by first | exact Or.inl rfl | exact Or.inr rfl) (pe_cmpR op_eq (pe_c c__law_draw hr (by decide) (by rfl) (pa_cons (pv 0) (pa_cons pe_int pa_nil))) pe_int (nomark _)))
      (pss_cons (ps_set (i := 6) sc__law_gate.nd rfl (by first | exact Or.inl rfl | exact Or.inr rfl) (pe_op op_sub (pe_op op_sub (pv 2) pe_int) (pe_c c__law_draw hr (by decide) (by rfl) (pa_cons (pv 0) (pa_cons (pe_ix ix_list (pe_lst (pa_cons (pv 4) (pa_cons pe_int pa_nil))) (pe_callTy call_int1 (by rfl) T.b_int (by decide +kernel) (pa_cons (pe_cmpR op_eq (pv 3) pe_int (nomark _)) pa_nil)) (fun _ _ => rfl)) pa_nil)))))
      (pss_cons (ps_set (i := 7) sc__law_gate.nd rfl (by first | exact Or.inl rfl | exact Or.inr rfl) (pe_op op_sub (pe_op op_sub (pv 2) pe_int) (pe_c c__law_draw hr (by decide) (by rfl) (pa_cons (pv 0) (pa_cons (pv 4) pa_nil)))))
      (pss_one (ps_ret (pe_tup (pa_cons (pe_c c__law_draw hr (by decide) (by rfl) (pa_cons (pv 0) (pa_cons pe_int pa_nil))) (pa_cons (pv 6) (pa_cons (pe_ix ix_list (pe_lst (pa_cons (pv 7) (pa_cons (pv 6) pa_nil))) (pe_callTy call_int1 (by rfl) T.b_int (by decide +kernel) (pa_cons (pv 5) pa_nil)) (fun _ _ => rfl)) pa_nil)))))))))), ?_⟩
    refine ⟨_, rfl, _, rfl, _, _, rfl, _, rfl, _, rfl, _, _, rfl, rfl, _, _, rfl, _, rfl, small 4, fun l nl => ?_⟩
    obtain ⟨r, er, r1, r2⟩ : ∃ r : Int, atI [nV wire, V.int (if (3 : Int) < ((wire : Nat) : Int) then 3 else ((wire : Nat) : Int)), V.int (if ((many : Nat) : Int) + 1 < ((wire : Nat) : Int) then ((many : Nat) : Int) + 1 else ((wire : Nat) : Int)), nV wire] way = some (.int r) ∧ 1 ≤ r ∧ r ≤ ((wire : Nat) : Int) := by
      rcases (by omega : way = 0 ∨ way = 1 ∨ way = 2 ∨ way = 3) with e | e | e | e <;> subst e
      · exact ⟨_, at0, by omega, by omega⟩
      · exact ⟨_, at1, by split <;> omega, by split <;> omega⟩
      · exact ⟨_, at2, by split <;> omega, by split <;> omega⟩
      · exact ⟨_, atI_nat (j := 3) rfl, by omega, by omega⟩
    refine ⟨_, rfl, l, _, _, .int r, rfl, rfl, SqL.of upd_same, er, ?_⟩
    have s1 : Wkt W C t H (upd H l _) := (Wkt.refl wl).new (o := .lst [nV wire, V.int (if (3 : Int) < ((wire : Nat) : Int) then 3 else ((wire : Nat) : Int)), V.int (if ((many : Nat) : Int) + 1 < ((wire : Nat) : Int) then ((many : Nat) : Int) + 1 else ((wire : Nat) : Int)), nV wire]) nl
    refine ⟨_, rfl, W, C, 8, t, rfl, s1.wl, by omega, by decide, by decide, fun dt H2 _ _ k2 => ⟨rfl, ?_⟩⟩
    have s2 := s1.nxt k2
    refine ⟨_, rfl, _, _, rfl, rfl, _, rfl, _, rfl, small 2, fun l3 n3 => ?_⟩
    have s3 := s2.new (o := .lst [.int r, .int 1]) n3
    have h33 : upd H2 l3 (.lst [.int r, .int 1]) l3 = some (.lst [.int r, .int 1]) := upd_same
    generalize upd H2 l3 (.lst [.int r, .int 1]) = H3 at s3 h33 ⊢
    obtain ⟨m1, em1, m10, m11⟩ : ∃ m1 : Int, (if decide (V.int way = V.int 3) = true then V.int 1 else V.int r) = V.int m1 ∧ 1 ≤ m1 ∧ m1 ≤ ((wire : Nat) : Int) := by
      split
      · exact ⟨_, rfl, by omega, by omega⟩
      · exact ⟨_, rfl, r1, r2⟩
    refine ⟨_, rfl, rfl, .inr ⟨_, rfl, l3, _, _, .int m1, rfl, rfl, SqL.of h33, (by rw [atIf]; exact congrArg some em1), ?_⟩⟩
    refine ⟨W, C, m1, t + 1, rfl, s3.wl, by omega, by omega, by omega, fun d1 H4 d10 d11 k4 => ⟨_, _, rfl, rfl, ?_⟩⟩
    have s4 := s3.nxt k4
    refine ⟨_, rfl, _, _, rfl, rfl, _, rfl, _, rfl, W, C, r, t + 1 + 1, rfl, s4.wl, by omega, by omega, by omega, fun d2 H5 d20 d21 k5 => ⟨_, _, rfl, rfl, ?_⟩⟩
    have s5 := s4.nxt k5
    refine ⟨_, rfl, W, C, 16, t + 1 + 1 + 1, rfl, s5.wl, by omega, by decide, by decide, fun kd H6 k60 k61 k6 => ?_⟩
    have s6 := s5.nxt k6
    refine ⟨_, rfl, _, rfl, _, rfl, small 2, fun l7 n7 => ?_⟩
    have s7 := s6.new (o := .lst [.int (((wire : Nat) : Int) - 1 - d2), .int (((wire : Nat) : Int) - 1 - d1)]) n7
    have h77 : upd H6 l7 (.lst [.int (((wire : Nat) : Int) - 1 - d2), .int (((wire : Nat) : Int) - 1 - d1)]) l7 = some (.lst [.int (((wire : Nat) : Int) - 1 - d2), .int (((wire : Nat) : Int) - 1 - d1)]) := upd_same
    generalize upd H6 l7 (.lst [.int (((wire : Nat) : Int) - 1 - d2), .int (((wire : Nat) : Int) - 1 - d1)]) = H7 at s7 h77 ⊢
    obtain ⟨o2, eo, o20, o21⟩ : ∃ o2 : Int, (if decide (V.int dt = V.int 3) = true then V.int (((wire : Nat) : Int) - 1 - d1) else V.int (((wire : Nat) : Int) - 1 - d2)) = V.int o2 ∧ 0 ≤ o2 ∧ o2 < ((wire : Nat) : Int) := by
      split
      · exact ⟨_, rfl, by omega, by omega⟩
      · exact ⟨_, rfl, by omega, by omega⟩
    refine ⟨_, rfl, .inr ⟨_, rfl, l7, _, _, .int o2, rfl, rfl, SqL.of h77, (by rw [atIf]; exact congrArg some eo), small 3, fun p np => ?_⟩⟩
    have s8 := s7.new (o := .tup [.int kd, .int (((wire : Nat) : Int) - 1 - d1), .int o2]) np
    refine q p _ (kd.toNat, (((wire : Nat) : Int) - 1 - d1).toNat, o2.toNat) (by show kd.toNat < 16; omega) (by show (((wire : Nat) : Int) - 1 - d1).toNat < wire; omega) (by show o2.toNat < wire; omega) ?_ s8 (s7.was np)
    rw [upd_same]
    show some (HO.tup [V.int kd, V.int (((wire : Nat) : Int) - 1 - d1), V.int o2]) = some (HO.tup [V.int (kd.toNat : Int), V.int ((((wire : Nat) : Int) - 1 - d1).toNat : Int), V.int (o2.toNat : Int)])
    rw [Int.toNat_of_nonneg k60, Int.toNat_of_nonneg (by omega), Int.toNat_of_nonneg o20]
def spNet : Sp := fun vs H Q _ => ∃ (W C : Addr) (most gm t : Nat), vs = [.ref W, nV most, nV gm] ∧ Wt H W C t ∧ t ≤ 800000 ∧ 1 ≤ most ∧ most ≤ 8 ∧ gm ≤ 16 ∧ ∀ a n g o ps H', n.Ok → n.many ≤ most → n.gates.length ≤ gm → NetAt H' a n g o ps → Wkt W C (t + 200) H H' → Q (.ref a) H'
theorem ok_net {f c : Addr} (D : Dfn K mg "_law_net" s__law_net f c) (T : Txt mg) (c__law_draw : Cal P w K mg base 1 "_law_draw" spDraw []) (c__law_gate : Cal P w K mg base 2 "_law_gate" spGate []) : Cal P w K mg base 3 "_law_net" spNet [] := by
  refine cal D (fun _ _ _ _ _ _ us hl => match us, hl with | [_, _, _], _ => rfl) sc__law_net (fun vs H Q E h => ?_) (fun A outer s H vs Q E hr h => ?_)
  · obtain ⟨W, C, most, gm, t, rfl, _⟩ := h
    rfl
  · obtain ⟨W, C, most, gm, t, rfl, wl, ht, h1, h8, hg, q⟩ := h
    refine ⟨_, (pss_cons (ps_set (i := 3) sc__law_net.nd rfl (by first | exact Or.inl rfl | exact Or.inr rfl) (pe_c c__law_draw hr (by decide) (by rfl) (pa_cons (pv 0) (pa_cons pe_int pa_nil))))
      (pss_cons (ps_set (i := 4) sc__law_net.nd rfl (by first | exact Or.inl rfl | exact Or.inr rfl) (pe_op op_add pe_int (pe_c c__law_draw hr (by decide) (by rfl) (pa_cons (pv 0) (pa_cons (pv 1) pa_nil)))))
      (pss_cons (ps_set (i := 5) sc__law_net.nd rfl (by first | exact Or.inl rfl | exact Or.inr rfl) (pe_c c__law_draw hr (by decide) (by rfl) (pa_cons (pv 0) (pa_cons (pe_op op_add (pv 2) pe_int) pa_nil))))
      (pss_cons (ps_set (i := 6) sc__law_net.nd rfl (by first | exact Or.inl rfl | exact Or.inr rfl) (pe_lst pa_nil))
      (pss_cons (ps_for PassesOwn.never rfl (pi_range1 (by rfl) T.b_range (pa_cons (pv 5) pa_nil)) (pg_name (i := 7) sc__law_net.nd rfl (by first | exact Or.inl rfl | exact Or.inr rfl))
        (pss_one (ps_expr (pe_bm PySem.F.plainAttrs_list PySem.F.slot_list_append PySem.F.type_list_append mt_append (pv 6) (pa_cons (pe_c c__law_gate hr (by decide) (by rfl) (pa_cons (pv 0) (pa_cons (pv 4) (pa_cons (pe_op op_add (pv 4) (pv 7)) (pa_cons (pv 3) pa_nil))))) pa_nil)))))
      (pss_cons (ps_set (i := 8) sc__law_net.nd rfl (by first | exact Or.inl rfl | exact Or.inr rfl) (pe_lst pa_nil))
      (pss_cons (ps_for PassesOwn.never rfl (pi_range1 (by rfl) T.b_range (pa_cons (pe_op op_add pe_int (pe_c c__law_draw hr (by decide) (by rfl) (pa_cons (pv 0) (pa_cons (pe_ix ix_list (pe_lst (pa_cons pe_int (pa_cons pe_int pa_nil))) (pe_callTy call_int1 (by rfl) T.b_int (by decide +kernel) (pa_cons (pe_cmpR op_eq (pe_c c__law_draw hr (by decide) (by rfl) (pa_cons (pv 0) (pa_cons pe_int pa_nil))) pe_int (nomark _)) pa_nil)) (fun _ _ => rfl)) pa_nil)))) pa_nil)) (pg_name (i := 7) sc__law_net.nd rfl (by first | exact Or.inl rfl | exact Or.inr rfl))
        (pss_cons (ps_set (i := 9) sc__law_net.nd rfl (by first | exact Or.inl rfl | exact Or.inr rfl) (pe_c c__law_draw hr (by decide) (by rfl) (pa_cons (pv 0) (pa_cons (pe_ix ix_list (pe_lst (pa_cons (pe_callB (call_min2 rfl) (by rfl) T.b_min (by decide +kernel) (pa_cons pe_int (pa_cons (pe_op op_add (pv 4) (pv 5)) pa_nil))) (pa_cons (pe_op op_add (pv 4) (pv 5)) pa_nil))) (pe_c c__law_draw hr (by decide) (by rfl) (pa_cons (pv 0) (pa_cons pe_int pa_nil))) (fun _ _ => rfl)) pa_nil))))
      (pss_one (ps_expr (pe_bm PySem.F.plainAttrs_list PySem.F.slot_list_append PySem.F.type_list_append mt_append (pv 8) (pa_cons (pe_op op_sub (pe_op op_sub (pe_op op_add (pv 4) (pv 5)) pe_int) (pv 9)) pa_nil))))))
      (pss_one (ps_ret (pe_tup (pa_cons (pv 4) (pa_cons (pe_callTy call_tuple_of (by rfl) T.b_tuple (by decide +kernel) (pa_cons (pv 6) pa_nil)) (pa_cons (pe_callTy call_tuple_of (by rfl) T.b_tuple (by decide +kernel) (pa_cons (pv 8) pa_nil)) pa_nil))))))))))))), ?_⟩
    refine ⟨_, rfl, W, C, 4, t, rfl, wl, by omega, by decide, by decide, fun way H1 y0 y4 s1 => ?_⟩
    refine ⟨_, rfl, _, rfl, W, C, most, t + 1, rfl, s1.wl, by omega, by omega, by omega, fun m0 H2 m1 m2 k2 => ⟨_, _, rfl, rfl, ?_⟩⟩
    have s2 := s1.nxt k2
    refine ⟨_, rfl, _, rfl, _, _, rfl, rfl, W, C, gm + 1, t + 1 + 1, rfl, s2.wl, by omega, by omega, by omega, fun count H3 c0 c1 k3 => ?_⟩
    have s3 := s2.nxt k3
    refine ⟨small 0, fun l nl => ?_⟩
    have s4 := s3.new (o := .lst []) nl
    have nlW := s3.wl.new nl
    have nlH := s3.was nl
    obtain ⟨m, em⟩ : ∃ m : Nat, 1 + m0 = ((m : Nat) : Int) := ⟨(1 + m0).toNat, by omega⟩
    dsimp -proj only
    rw [em]
    refine ⟨_, rfl, _, rfl, by omega, by omega, ?_⟩
    refine for_range (lo := 0) (n := count.toNat) (fun i σ H' => ∃ (ps : List Addr) (gs : List (Nat × Nat × Nat)) (x7 : Option V), σ = [some (.ref W), some (nV most), some (nV gm), some (.int way), some (.int ((m : Nat) : Int)), some (.int count), some (.ref l), x7, none, none] ∧ Wkt W C (t + 3 + 4 * i) H H' ∧
      H' l = some (.lst (ps.map V.ref)) ∧ GatesAt H' ps gs ∧ gs.length = i ∧ ∀ (j : Nat) (g : Nat × Nat × Nat), gs[j]? = some g → gateOk m j g) ⟨[], [], none, rfl, s4, upd_same, GatesAt.nil _, rfl, fun j g e => by simp at e⟩ ?_ ?_
    · rintro i σ H5 hi ⟨ps, gs, x7, rfl, s5, hl, hgs, hlen, hok⟩
      have hi' : i < 16 := by omega
      refine ⟨_, rfl, .inl ⟨rfl, _, SqL.of hl⟩, _, rfl, _, rfl, _, rfl, _, rfl, _, _, rfl, rfl, _, rfl, W, C, m, m + i, way, t + 3 + 4 * i, (by rw [Int.zero_add]; rfl), s5.wl, by omega, by omega, by omega, by omega, y0, y4, fun p H6 g g1 g2 g3 hp k6 np => ?_⟩
      have s6 := s5.nxt k6
      have hl6 := k6.at_ nlW hl
      have hgs6 := s5.wl.gates k6 hgs
      refine ⟨l, _, _, rfl, rfl, hl6, by rw [List.length_map, hgs.1, hlen]; exact small1000 (by omega), ?_⟩
      refine ⟨ps ++ [p], gs ++ [g], _, rfl, (s6.put nlH nlW).le (by omega), by rw [upd_same, List.map_append]; rfl, (hgs6.mono (tupPut hl6)).push (tupPut hl6 _ _ hp), by rw [List.length_append, hlen]; rfl, fun j g' e => ?_⟩
      by_cases hj : j < gs.length
      · rw [List.getElem?_append_left hj] at e
        exact hok j g' e
      · rw [List.getElem?_append_right (by omega)] at e
        have hz : j - gs.length = 0 := by
          obtain ⟨h1, _⟩ := List.getElem?_eq_some_iff.mp e
          simp at h1
          omega
        rw [hz] at e
        cases e
        have ej : j = i := by omega
        rw [ej]
        exact ⟨g1, g2, g3⟩
    · rintro σ H5 ⟨ps, gs, x7, rfl, s5, hl, hgs, hlen, hok⟩
      -- outs
      refine ⟨small 0, fun lo nlo => ?_⟩
      have s6 := s5.new (o := .lst []) nlo
      have noW := s5.wl.new nlo
      have noH := s5.was nlo
      have nol : lo ≠ l := fun y => by
        rw [y, hl] at nlo
        cases nlo
      have e6 := Same.new (o := .lst []) nlo
      have hl6 := e6 _ _ hl
      have hgs6 := Same.gates e6 hgs
      have ho6 : upd H5 lo (.lst []) lo = some (.lst []) := upd_same
      generalize upd H5 lo (.lst []) = H6 at s6 hl6 hgs6 ho6 ⊢
      refine ⟨_, rfl, small 2, fun l2 n2 => ?_⟩
      have e7 := Same.new (o := .lst [.int 2, .int 8]) n2
      have s7 := s6.same e7
      have hl7 := e7 _ _ hl6
      have hgs7 := Same.gates e7 hgs6
      have ho7 := e7 _ _ ho6
      have h27 : upd H6 l2 (.lst [.int 2, .int 8]) l2 = some (.lst [.int 2, .int 8]) := upd_same
      have n2W := s6.wl.new n2
      generalize upd H6 l2 (.lst [.int 2, .int 8]) = H7 at s7 hl7 hgs7 ho7 h27 ⊢
      refine ⟨_, rfl, W, C, 4, _, rfl, s7.wl, by omega, by decide, by decide, fun cd H8 _ _ k8 => ⟨rfl, ?_⟩⟩
      have s8 := s7.nxt k8
      obtain ⟨m3, em3, m30, m31⟩ : ∃ m3 : Int, (if decide (V.int cd = V.int 1) = true then V.int 8 else V.int 2) = V.int m3 ∧ 1 ≤ m3 ∧ m3 ≤ 8 := by
        split
        · exact ⟨_, rfl, by decide, by decide⟩
        · exact ⟨_, rfl, by decide, by decide⟩
      refine .inr ⟨_, rfl, l2, _, _, .int m3, rfl, rfl, SqL.of (k8.at_ n2W h27), (by rw [atIf]; exact congrArg some em3), ?_⟩
      refine ⟨W, C, m3, _, rfl, s8.wl, by omega, by omega, by omega, fun more H9 r0 r1 k9 => ⟨_, _, rfl, rfl, _, rfl, by omega, by omega, ?_⟩⟩
      have s9 := s8.nxt k9
      refine for_range (lo := 0) (n := (1 + more).toNat) (fun i σ H' => ∃ (os : List Nat) (x7 x9 : Option V), σ = [some (.ref W), some (nV most), some (nV gm), some (.int way), some (.int ((m : Nat) : Int)), some (.int count), some (.ref l), x7, some (.ref lo), x9] ∧ Wkt W C (t + 100 + 2 * i) H H' ∧
        H' l = some (.lst (ps.map V.ref)) ∧ GatesAt H' ps gs ∧ H' lo = some (.lst (os.map nV)) ∧ os.length = i ∧ ∀ o ∈ os, o < m + gs.length) ⟨[], x7, none, rfl, s9.le (by omega), k9.at_ nlW (k8.at_ nlW hl7), s8.wl.gates k9 (s7.wl.gates k8 hgs7), k9.at_ noW (k8.at_ noW ho7), rfl, fun o ho => by cases ho⟩ ?_ ?_
      · rintro i σ H10 hi ⟨os, y7, y9, rfl, s10, hl10, hgs10, ho10, hol, hos⟩
        refine ⟨_, rfl, _, rfl, _, rfl, _, _, rfl, rfl, _, _, rfl, _, rfl, _, rfl, _, _, rfl, rfl, small 2, fun l11 n11 => ?_⟩
        have e11 := Same.new (o := .lst [.int (if ((m : Nat) : Int) + count < 3 then ((m : Nat) : Int) + count else 3), .int (((m : Nat) : Int) + count)]) n11
        have s11 := s10.same e11
        have n11W := s10.wl.new n11
        have hl11 := e11 _ _ hl10
        have hgs11 := Same.gates e11 hgs10
        have ho11 := e11 _ _ ho10
        have h11 : upd H10 l11 (.lst [.int (if ((m : Nat) : Int) + count < 3 then ((m : Nat) : Int) + count else 3), .int (((m : Nat) : Int) + count)]) l11 = some (.lst [.int (if ((m : Nat) : Int) + count < 3 then ((m : Nat) : Int) + count else 3), .int (((m : Nat) : Int) + count)]) := upd_same
        generalize upd H10 l11 (.lst [.int (if ((m : Nat) : Int) + count < 3 then ((m : Nat) : Int) + count else 3), .int (((m : Nat) : Int) + count)]) = H11 at s11 hl11 hgs11 ho11 h11 ⊢
        refine ⟨_, rfl, W, C, 2, _, rfl, s11.wl, by omega, by decide, by decide, fun d2 H12 d20 d21 k12 => ?_⟩
        have s12 := s11.nxt k12
        obtain ⟨m4, em4, m40, m41⟩ : ∃ m4 : Int, atI [V.int (if ((m : Nat) : Int) + count < 3 then ((m : Nat) : Int) + count else 3), V.int (((m : Nat) : Int) + count)] d2 = some (.int m4) ∧ 1 ≤ m4 ∧ m4 ≤ ((m : Nat) : Int) + count := by
          rcases (by omega : d2 = 0 ∨ d2 = 1) with e | e <;> subst e
          · exact ⟨_, at0, by split <;> omega, by split <;> omega⟩
          · exact ⟨_, at1, by omega, by omega⟩
        refine ⟨l11, _, _, .int m4, rfl, rfl, SqL.of (k12.at_ n11W h11), em4, ?_⟩
        refine ⟨W, C, m4, _, rfl, s12.wl, by omega, by omega, by omega, fun far H13 f0 f1 k13 => ?_⟩
        have s13 := s12.nxt k13
        have hl13 := k13.at_ nlW (k12.at_ nlW hl11)
        have ho13 := k13.at_ noW (k12.at_ noW ho11)
        have hgs13 := s12.wl.gates k13 (s11.wl.gates k12 hgs11)
        refine ⟨_, rfl, .inl ⟨rfl, _, SqL.of ho13⟩, _, rfl, _, rfl, _, _, rfl, rfl, _, _, rfl, rfl, _, rfl, _, _, rfl, rfl, lo, _, _, rfl, rfl, ho13, by rw [List.length_map, hol]; exact small1000 (by omega), ?_⟩
        obtain ⟨o, eo⟩ : ∃ o : Nat, ((m : Nat) : Int) + count - 1 - far = ((o : Nat) : Int) := ⟨(((m : Nat) : Int) + count - 1 - far).toNat, by omega⟩
        dsimp -proj only
        rw [eo]
        refine ⟨os ++ [o], _, _, rfl, (s13.put noH noW).le (by omega), ?_, hgs13.mono (tupPut ho13), ?_, by rw [List.length_append, hol]; rfl, fun o' ho' => ?_⟩
        · rw [upd_ne (Ne.symm nol)]
          exact hl13
        · rw [upd_same, List.map_append]
          rfl
        · rcases List.mem_append.mp ho' with ho' | ho'
          · exact hos o' ho'
          · rw [List.mem_singleton.mp ho']
            omega
      · rintro σ H10 ⟨os, y7, y9, rfl, s10, hl10, hgs10, ho10, hol, hos⟩
        refine ⟨_, rfl, _, rfl, l, _, rfl, .inl ⟨SqL.of hl10, fun g ng => ?_⟩⟩
        have e11 := Same.new (o := .tup (ps.map V.ref)) ng
        refine ⟨_, rfl, lo, _, rfl, .inl ⟨SqL.of (e11 _ _ ho10), fun o no => ?_⟩⟩
        have e12 := Same.new (o := .tup (os.map nV)) no
        refine ⟨small 3, fun a na => ?_⟩
        have e13 := Same.new (o := .tup [.int ((m : Nat) : Int), .ref g, .ref o]) na
        have hps : ps.length = gs.length := hgs10.1
        refine q a ⟨m, gs, os⟩ g o ps _ ⟨?_, ?_, ?_, ?_, ?_, ?_, ?_⟩ ?_ ?_ ⟨?_, ?_, ?_, ?_⟩ ((((s10.same e11).same e12).same e13).le (by omega))
        · show 1 ≤ m; omega
        · show m ≤ 8; omega
        · show gs.length ≤ 16; omega
        · exact hok
        · show 1 ≤ os.length; omega
        · show os.length ≤ 8; omega
        · exact hos
        · show m ≤ most; omega
        · show gs.length ≤ gm; omega
        · exact upd_same
        · exact e13 _ _ (e12 _ _ upd_same)
        · exact Same.gates e13 (Same.gates e12 (Same.gates e11 hgs10))
        · exact e13 _ _ upd_same
end
end K26
set_option Elab.async false
set_option linter.all false
set_option maxRecDepth 100000
set_option maxHeartbeats 4000000
namespace K26
open PySem PySem.Spec PyProof.Rows L2 GX
open C8 (Cal pe_c pe_gc)
section
variable {P : Program} {w : World} {K : PySem.W.Frag} {mg : Str → Option Value} {base : Heap} {Ts : List Addr}
theorem new_tup {H : Hp} {p : Addr} {vs : List V} {ts : List Th} (np : H p = none) (r : RepAll H vs ts) : Same H (upd H p (.tup vs)) ∧ Rep (upd H p (.tup vs)) (.ref p) (.tup ts) := ⟨Same.new np, .tup upd_same (r.mono (KeepT.same (Same.new np)))⟩
theorem new_lst {H : Hp} {p : Addr} {xs : List V} (np : H p = none) : Same H (upd H p (.lst xs)) ∧ Rep (upd H p (.lst xs)) (.ref p) (.oth true) := ⟨Same.new np, .lst upd_same⟩
theorem new_dic {H : Hp} {p : Addr} {ks : List (Key × V)} (np : H p = none) : Same H (upd H p (.dK ks)) ∧ Rep (upd H p (.dK ks)) (.ref p) (.oth false) := ⟨Same.new np, .dic upd_same⟩
theorem _root_.GX.Rep.sm {H H' : Hp} {v : V} {t : Th} (r : Rep H v t) (s : Same H H') : Rep H' v t := r.mono (KeepT.same s)
theorem nb_nats (xs : List Nat) : ∀ x ∈ xs.map thW, nbT x = true := fun x hx => by
  obtain ⟨y, _, rfl⟩ := List.mem_map.mp hx
  rfl
theorem nbW_tup {ts : List Th} (hl : ts.length ≤ 1000) (h : ∀ x ∈ ts, nbT x = true) : nbW (.tup ts) := fun us e => by
  obtain rfl := tup_inj e
  exact ⟨hl, h⟩
theorem nbW_ws {xs : List Nat} (hl : xs.length ≤ 1000) : nbW (thWs xs) := nbW_tup (by rw [List.length_map]; exact hl) (nb_nats xs)
/-! ### entries and papers whose ways may be judged -/
def dull (e : Th) : Bool := (waysT e).all fun u => match u with
  | .tup xs => decide (xs.length ≤ 1000) && xs.all nbT
  | _ => true
def okE (k : Nat) (e : Th) : Prop := entB e = true → labT e ≠ 1 → (waysT e).length = k + 1 → ∀ u ∈ waysT e, nbW u
theorem okE_d {k : Nat} {e : Th} (h : dull e = true) : okE k e := fun _ _ _ u hu ts eq => by
  have := List.all_eq_true.mp h u hu
  subst eq
  have := (Bool.and_eq_true _ _).mp this
  exact ⟨of_decide_eq_true this.1, fun x hx => List.all_eq_true.mp this.2 x hx⟩
def dullT : Th → Bool
  | .tup ts => ts.all dull
  | _ => true
theorem nbP_all {k : Nat} {ts : List Th} (h : ∀ e ∈ ts, okE k e) : nbP k (.tup ts) := fun us e x hx => by
  obtain rfl := tup_inj e
  exact h x hx
theorem nbP_d {k : Nat} {t : Th} (h : dullT t = true) : nbP k t := fun ts e x hx => by
  subst e
  exact okE_d (List.all_eq_true.mp h x hx)
theorem nbP_two {k : Nat} {t : Th} (h : okE k t) : nbP k (.tup [t, t]) := nbP_all fun e he => by
  rcases List.mem_cons.mp he with z | z
  · rw [z]; exact h
  · rw [List.mem_singleton.mp z]; exact h
def AllR (k : Nat) (H : Hp) (xs : List V) : Prop := ∀ x ∈ xs, ∃ t, Rep H x t ∧ nbP k t
theorem AllR.same {k : Nat} {H H' : Hp} {xs : List V} (h : AllR k H xs) (s : Same H H') : AllR k H' xs := fun x hx => let ⟨t, r, b⟩ := h x hx; ⟨t, r.mono (KeepT.same s), b⟩
theorem AllR.keepR {k : Nat} {H H' : Hp} {xs : List V} (h : AllR k H xs) (s : KeepR H H') : AllR k H' xs := fun x hx => let ⟨t, r, b⟩ := h x hx; ⟨t, r.keepR s, b⟩
theorem AllR.push {k : Nat} {H : Hp} {xs : List V} {v : V} {t : Th} (h : AllR k H xs) (r : Rep H v t) (b : nbP k t) : AllR k H (xs ++ [v]) := fun x hx => by
  rcases List.mem_append.mp hx with hx | hx
  · exact h x hx
  · rw [List.mem_singleton.mp hx]; exact ⟨t, r, b⟩
theorem AllR.cat {k : Nat} {H : Hp} {xs ys : List V} (h : AllR k H xs) (g : AllR k H ys) : AllR k H (xs ++ ys) := fun x hx => (List.mem_append.mp hx).elim (h x) (g x)
/-! ### a tuple made of a paper's entries -/
def CI (k : Nat) (H : Hp) (M : Addr) (j : Nat) (H' : Hp) : Prop := ∃ us ts, Own H H' M us ∧ RepAll H' us ts ∧ us.length = j ∧ ∀ t ∈ ts, okE k t
theorem CI.start {k : Nat} {H : Hp} {M : Addr} (n : H M = none) : CI k H M 0 (upd H M (.lst [])) := ⟨[], [], ⟨Same.new n, upd_same, n⟩, .nil, rfl, fun t h => by cases h⟩
theorem CI.push {k : Nat} {H H1 H2 : Hp} {M : Addr} {j : Nat} {v : V} {t : Th} (h : CI k H M j H1) (s : Same H1 H2) (r : Rep H2 v t) (b : okE k t) (hj : j < 100) : ∃ us, H2 M = some (.lst us) ∧ us.length < sizeLine ∧ CI k H M (j + 1) (upd H2 M (.lst (us ++ [v]))) := by
  obtain ⟨us, ts, o, ra, l, a⟩ := h
  have o2 : Own H H2 M us := ⟨o.sm.trans s, s _ _ o.at_, o.nw⟩
  have kr := KeepR.put (ys := us ++ [v]) o2.at_
  refine ⟨us, o2.at_, ?_, us ++ [v], ts ++ [t], o2.app, ?_, by rw [List.length_append, l]; rfl, fun x hx => ?_⟩
  · rw [l]
    exact Nat.lt_of_lt_of_le (show j < 100 from hj) (by decide)
  · exact ((ra.mono (KeepT.same s)).keepR kr).append (.cons (r.keepR kr) .nil)
  · rcases List.mem_append.mp hx with h | h
    · exact a x h
    · rw [List.mem_singleton.mp h]; exact b
theorem okE_ways {k : Nat} {a : Th} {ws : List (List Nat)} (h : ∀ xs ∈ ws, xs.length ≤ 1000) : okE k (.tup [a, .tup (ws.map thWs)]) := fun _ _ _ u hu => by
  obtain ⟨xs, hx, rfl⟩ := List.mem_map.mp (show u ∈ ws.map thWs from hu)
  exact nbW_ws (h xs hx)
theorem okE_pair {k : Nat} {ws : List (List Nat)} : okE k (.tup (ws.map thWs)) := fun _ _ _ u hu ts eq => by
  unfold waysT at hu
  split at hu
  · rename_i a us e
    cases ws with
    | nil => cases e
    | cons x r => cases r with
      | nil => cases e
      | cons y r => cases r with
        | cons z r => cases e
        | nil =>
          injection e with e1
          injection e1 with _ e2
          injection e2 with e3 _
          injection e3 with e4
          subst e4
          obtain ⟨z, _, rfl⟩ := List.mem_map.mp hu
          cases eq
  · cases hu
theorem okE_pap {k : Nat} (es : Pap) : okE k (.tup (es.map thEnt)) := fun h => by
  cases es with
  | nil => cases h
  | cons e r => cases r with
    | nil => cases h
    | cons e2 r => cases r with
      | cons z r => cases h
      | nil => cases h
structure Thb (W C pp : Addr) (vs : List V) (tt : Th) (t : Nat) (H0 G : Hp) : Prop where
  k : Wkt W C t H0 G
  hp : G pp = some (.tup vs)
  rp : Rep G (.ref pp) tt
theorem Thb.sm {W C pp : Addr} {vs : List V} {tt : Th} {t : Nat} {H0 G G' : Hp} (h : Thb W C pp vs tt t H0 G) (s : Same G G') : Thb W C pp vs tt t H0 G' := ⟨h.k.same s, s _ _ h.hp, h.rp.sm s⟩
theorem Thb.nx {W C pp : Addr} {vs : List V} {tt : Th} {t u : Nat} {H0 G G' : Hp} (h : Thb W C pp vs tt t H0 G) (k : Wkt W C u G G') : Thb W C pp vs tt u H0 G' := ⟨h.k.nxt k, h.k.wl.tup k h.hp, h.rp.keepR (KeepR.wk h.k.wl.wd k.wk)⟩
theorem Thb.rv {W C pp : Addr} {vs : List V} {ts : List Th} {t : Nat} {H0 G : Hp} (h : Thb W C pp vs (.tup ts) t H0 G) : RepAll G vs ts := by
  cases h.rp with
  | tup e ra =>
    rw [h.hp] at e
    cases e
    exact ra
structure HL (k : Nat) (G : Hp) (L : Addr) (xs : List V) : Prop where
  at_ : G L = some (.lst xs)
  ax : AllR k G xs
theorem HL.sm {k : Nat} {G G' : Hp} {L : Addr} {xs : List V} (h : HL k G L xs) (s : Same G G') : HL k G' L xs := ⟨s _ _ h.at_, h.ax.same s⟩
theorem HL.nx {W C L : Addr} {t u : Nat} {G G' : Hp} {xs : List V} {kk : Nat} (h : HL kk G L xs) (wl : Wt G W C t) (n : L ≠ W ∧ L ≠ C) (k : Wkt W C u G G') : HL kk G' L xs := ⟨k.at_ n h.at_, h.ax.keepR (KeepR.wk wl.wd k.wk)⟩
def spDeep : Sp := fun vs H Q _ => ∃ (v : V) (t : Th) (many : Int) (k : Nat), vs = [v, .int many] ∧ Rep H v t ∧ okE k t ∧ nbP k t ∧ 0 ≤ many ∧ many ≤ 100 ∧ ∀ v' t' H', Same H H' → Rep H' v' t' → nbP k t' → Q v' H'
theorem ok_deep {f c : Addr} (D : Dfn K mg "_law_deep" s__law_deep f c) (T : Txt mg) : Cal P w K mg base 1 "_law_deep" spDeep [] := by
  refine cal D (fun _ _ _ _ _ _ us hl => match us, hl with | [_, _], _ => rfl) sc__law_deep (fun vs H Q E h => ?_) (fun A outer s H vs Q E hr h => ?_)
  · obtain ⟨v, t, many, k, rfl, _⟩ := h
    rfl
  · obtain ⟨v, t, many, k, rfl, rv, oe, np, m0, m1, q⟩ := h
    refine ⟨_, (pss_cons (ps_for PassesOwn.never rfl (pi_range1 (by rfl) T.b_range (pa_cons (pv 1) pa_nil)) (pg_name (i := 2) sc__law_deep.nd rfl (by first | exact Or.inl rfl | exact Or.inr rfl))
        (pss_one (ps_set (i := 0) sc__law_deep.nd rfl (by first | exact Or.inl rfl | exact Or.inr rfl) (pe_ix ix_list (pe_lst (pa_cons (pe_tup (pa_cons (pv 0) pa_nil)) (pa_cons (pe_lst (pa_cons (pv 0) pa_nil)) (pa_cons (pe_tup (pa_cons pe_int (pa_cons (pe_tup (pa_cons (pv 0) pa_nil)) pa_nil))) pa_nil)))) (pe_op op_mod (pv 2) pe_int) (fun _ _ => rfl)))))
      (pss_one (ps_ret (pv 0)))), ?_⟩
    clear hr
    refine ⟨_, rfl, many, rfl, by omega, by omega, ?_⟩
    refine for_range (lo := 0) (n := many.toNat) (fun i σ H' => ∃ (u : V) (y : Option V) (tu : Th), σ = [some u, some (.int many), y] ∧ Same H H' ∧ Rep H' u tu ∧ okE k tu ∧ nbP k tu) ⟨v, none, t, rfl, Same.refl _, rv, oe, np⟩ ?_ ?_
    · rintro i σ H1 hi ⟨u, y, tu, rfl, sm, ru, oe, np⟩
      refine ⟨_, rfl, small 1, fun p1 n1 => ?_⟩
      obtain ⟨s1, r1⟩ := new_tup n1 (RepAll.cons ru .nil)
      generalize upd H1 p1 (.tup [u]) = G1 at s1 r1 ⊢
      refine ⟨_, rfl, small 1, fun p3 n3 => ?_⟩
      obtain ⟨s3, r3⟩ := new_lst (xs := [u]) n3
      generalize upd G1 p3 (.lst [u]) = G3 at s3 r3 ⊢
      refine ⟨_, rfl, small 1, fun p4 n4 => ?_⟩
      obtain ⟨s4, r4⟩ := new_tup n4 (RepAll.cons (ru.sm (s1.trans s3)) .nil)
      generalize upd G3 p4 (.tup [u]) = G4 at s4 r4 ⊢
      refine ⟨small 2, fun p5 n5 => ?_⟩
      obtain ⟨s5, r5⟩ := new_tup n5 (RepAll.cons (.int 1) (RepAll.cons r4 .nil))
      generalize upd G4 p5 (.tup [.int 1, .ref p4]) = G5 at s5 r5 ⊢
      refine ⟨small 3, fun M nM => ?_⟩
      have s6 := Same.new (o := .lst [.ref p1, .ref p3, .ref p5]) nM
      have hM : upd G5 M (.lst [.ref p1, .ref p3, .ref p5]) M = some (.lst [.ref p1, .ref p3, .ref p5]) := upd_same
      generalize upd G5 M (.lst [.ref p1, .ref p3, .ref p5]) = G6 at s6 hM ⊢
      have s16 := ((((s1.trans s3).trans s4).trans s5).trans s6)
      obtain ⟨v', tv, hv', rv', oe', np'⟩ : ∃ v' tv, atI [V.ref p1, .ref p3, .ref p5] ((0 + ((i : Nat) : Int)) % 3) = some v' ∧ Rep G6 v' tv ∧ okE k tv ∧ nbP k tv := by
        rcases (by omega : (0 + ((i : Nat) : Int)) % 3 = 0 ∨ (0 + ((i : Nat) : Int)) % 3 = 1 ∨ (0 + ((i : Nat) : Int)) % 3 = 2) with z | z | z <;> rw [z]
        · refine ⟨_, _, at0, r1.sm (((s3.trans s4).trans s5).trans s6), okE_d rfl, nbP_all fun e he => ?_⟩
          rw [List.mem_singleton.mp he]; exact oe
        · exact ⟨_, _, at1, r3.sm ((s4.trans s5).trans s6), okE_d rfl, nbP_d rfl⟩
        · refine ⟨_, _, at2, r5.sm s6, fun _ h => absurd rfl h, nbP_d rfl⟩
      exact ⟨_, rfl, _, _, rfl, rfl, (by decide : (0 : Int) < 3), M, _, _, v', rfl, rfl, SqL.of hM, hv', v', _, tv, rfl, sm.trans s16, rv', oe', np'⟩
    · rintro σ H1 ⟨u, y, tu, rfl, sm, ru, oe, np⟩
      exact ⟨_, rfl, q _ _ _ sm ru np⟩
end
end K26
set_option Elab.async false
set_option linter.all false
set_option maxRecDepth 100000
set_option maxHeartbeats 4000000
namespace K26
open PySem PySem.Spec PyProof.Rows L2 GX
open C8 (Cal pe_c pe_gc)
section
variable {P : Program} {w : World} {K : PySem.W.Frag} {mg : Str → Option Value} {base : Heap} {Ts : List Addr}
theorem new_late {H D : Hp} {p : Addr} {ks : List (Key × V)} (n : H p = none) (z : Same H D) : Same H (upd D p (.dK ks)) ∧ Rep (upd D p (.dK ks)) (.ref p) (.oth false) := ⟨fun b u e => by
  rw [upd_ne (ne_of_none e n)]
  exact z _ _ e, .dic upd_same⟩
theorem rep_tups {H : Hp} : ∀ {us : List Addr} {ws : List (List Nat)}, TupsAt H us ws → RepAll H (us.map V.ref) (ws.map thWs)
  | [], ws, h => by
    have : ws = [] := List.length_eq_zero_iff.mp h.1.symm
    subst this
    exact .nil
  | p :: r, [], h => by cases h.1
  | p :: r, c :: cs, h => .cons (rep_wsT (h.2 0 p c rfl rfl)) (rep_tups (us := r) (ws := cs) ⟨by simpa using h.1, fun i p' t' e1 e2 => h.2 (i + 1) p' t' (by simpa using e1) (by simpa using e2)⟩)
def spThings : Sp := fun vs H Q _ => ∃ (W C pp : Addr) (k t : Nat) (es : Pap) (qs : List Addr), vs = [.ref W, .ref pp] ∧ Wt H W C t ∧ t ≤ 700000 ∧ PapAt H pp es qs ∧ PapS es ∧ ∀ Z xs H', Wkt W C (t + 10) H H' → H Z = none → H' Z = some (.lst xs) → AllR k H' xs → xs.length ≤ 60 → Q (.ref Z) H'
end
end K26
set_option Elab.async false
set_option linter.all false
set_option maxRecDepth 100000
set_option maxHeartbeats 4000000
namespace K26
open PySem PySem.Spec PyProof.Rows L2 GX
open C8 (Cal pe_c pe_gc)
section
variable {P : Program} {w : World} {K : PySem.W.Frag} {mg : Str → Option Value} {base : Heap} {Ts : List Addr}
theorem ok_things {f c : Addr} (D : Dfn K mg "_law_things" s__law_things f c) (T : Txt mg) (c__law_draw : Cal P w K mg base 1 "_law_draw" spDraw []) (c__law_deep : Cal P w K mg base 1 "_law_deep" spDeep []) : CalG P w K mg base 3 "_law_things" spThings := by
  refine calG D (fun _ _ _ _ _ _ us hl => match us, hl with | [_, _], _ => rfl) sc__law_things (fun vs H Q E h => ?_) (fun A outer s H vs Q E hA hr h => ?_)
  · obtain ⟨W, C, pp, k, t, es, qs, rfl, _⟩ := h
    rfl
  · obtain ⟨W, C, pp, k, t, es, qs, rfl, hW, ht, PA0, ps, q⟩ := h
    refine ⟨_, (pss_cons (ps_set (i := 2) sc__law_things.nd rfl (by first | exact Or.inl rfl | exact Or.inr rfl) (pe_c c__law_draw hr (by decide) (by rfl) (pa_cons (pv 0) (pa_cons (pe_op op_pow pe_int pe_int) pa_nil))))
      (pss_cons (ps_set (i := 3) sc__law_things.nd rfl (by first | exact Or.inl rfl | exact Or.inr rfl) (pe_lst (pa_cons pe_non (pa_cons pe_bl (pa_cons pe_bl (pa_cons pe_int (pa_cons pe_int (pa_cons (pv 2) (pa_cons (pe_op op_sub pe_int (pv 2)) (pa_cons pe_str (pa_cons pe_str (pa_cons (pe_slice sl_str (pe_callB (cr_repr hr.units hA) (by rfl) T.b_repr (by decide +kernel) (pa_cons (pv 1) pa_nil)) po_none (po_some pe_int)) (pa_cons (pe_tup pa_nil) (pa_cons (pe_lst pa_nil) (pa_cons pe_dnewK (pa_cons (pe_tup (pa_cons (pe_tup pa_nil) pa_nil)) pa_nil))))))))))))))))
      (pss_cons (ps_set (i := 3) sc__law_things.nd rfl (by first | exact Or.inl rfl | exact Or.inr rfl) (pe_op op_cat (pv 3) (pe_lst (pa_cons (pe_tup (pa_cons (pe_tup (pa_cons pe_int pa_nil)) pa_nil)) (pa_cons (pe_tup (pa_cons pe_int (pa_cons (pe_tup pa_nil) pa_nil))) (pa_cons (pe_tup (pa_cons (pe_tup (pa_cons pe_int (pa_cons (pe_tup pa_nil) pa_nil))) pa_nil)) pa_nil))))))
      (pss_cons (ps_set (i := 3) sc__law_things.nd rfl (by first | exact Or.inl rfl | exact Or.inr rfl) (pe_op op_cat (pv 3) (pe_lst (pa_cons (pe_tup (pa_cons (pe_tup (pa_cons pe_int (pa_cons (pe_lst pa_nil) pa_nil))) pa_nil)) (pa_cons (pe_lst (pa_cons (pe_tup (pa_cons pe_int (pa_cons (pe_tup pa_nil) pa_nil))) pa_nil)) (pa_cons (pe_tup (pa_cons (pe_tup (pa_cons pe_bl (pa_cons (pe_tup pa_nil) pa_nil))) pa_nil)) (pa_cons (pe_tup (pa_cons (pe_tup (pa_cons (pe_tup pa_nil) (pa_cons pe_int pa_nil))) pa_nil)) (pa_cons (pe_tup (pa_cons (pe_tup (pa_cons pe_int (pa_cons (pe_tup pa_nil) (pa_cons (pe_tup pa_nil) pa_nil)))) pa_nil)) (pa_cons (pe_disp (pps_cons pe_int (pe_tup (pa_cons pe_int (pa_cons (pe_tup pa_nil) pa_nil))) pps_nil) rfl rfl (by intro h; cases h) (by decide)) (pa_cons (pe_tup (pa_cons pe_non pa_nil)) pa_nil))))))))))
      (pss_cons (ps_set (i := 3) sc__law_things.nd rfl (by first | exact Or.inl rfl | exact Or.inr rfl) (pe_op op_cat (pv 3) (pe_lst (pa_cons (pe_tup (pa_cons (pv 1) pa_nil)) (pa_cons (pe_lst (pa_cons (pv 1) pa_nil)) (pa_cons (pe_tup (pa_cons (pv 1) (pa_cons (pv 1) pa_nil))) (pa_cons (pe_op op_catA (pv 1) (pv 1)) (pa_cons (pe_callTy call_list_of (by rfl) T.b_list (by decide +kernel) (pa_cons (pv 1) pa_nil)) (pa_cons (pe_op op_catA (pv 1) (pe_tup (pa_cons pe_non pa_nil))) (pa_cons (pe_disp (pps_cons pe_str (pv 1) pps_nil) rfl rfl (by intro h; cases h) (by decide)) pa_nil))))))))))
      (pss_cons (ps_set (i := 3) sc__law_things.nd rfl (by first | exact Or.inl rfl | exact Or.inr rfl) (pe_op op_cat (pv 3) (pe_lst (pa_cons (pe_callTy call_tuple_of (by rfl) T.b_tuple (by decide +kernel) (pa_cons (pe_lc (own := [("_law_label", 4), ("_law_ways", 5)])  (tt := tYes) rfl sc__law_things.nd (pi_tup (pv 1)) (blkOk_by (own := [("_law_label", 4), ("_law_ways", 5)]) (N := ["_law_deck_here", "_law_paper", "_law_number", "_law_some", "_law_label", "_law_ways"]) (sc := defScope s__law_things) (by decide +kernel)) (fun _ _ _ _ _ => (pg_tupK (K := K) (n := 2) rfl rfl (pgs_cons (pg_name (i := 4) sc__law_things.nd rfl (by first | exact Or.inl rfl | exact Or.inr rfl)) (pgs_cons (pg_name (i := 5) sc__law_things.nd rfl (by first | exact Or.inl rfl | exact Or.inr rfl)) pgs_nil)))) (fun _ _ _ _ _ => pts_nil) (fun _ _ _ _ _ => (pe_disp (pps_cons pe_str (pv 4) (pps_cons pe_str (pv 5) pps_nil)) rfl rfl (by intro h; cases h) (by decide)))) pa_nil)) pa_nil))))
      (pss_cons (ps_set (i := 3) sc__law_things.nd rfl (by first | exact Or.inl rfl | exact Or.inr rfl) (pe_op op_cat (pv 3) (pe_lst (pa_cons (pe_callTy call_tuple_of (by rfl) T.b_tuple (by decide +kernel) (pa_cons (pe_lc (own := [("_law_label", 4), ("_law_ways", 5)])  (tt := tYes) rfl sc__law_things.nd (pi_tup (pv 1)) (blkOk_by (own := [("_law_label", 4), ("_law_ways", 5)]) (N := ["_law_deck_here", "_law_paper", "_law_number", "_law_some", "_law_label", "_law_ways"]) (sc := defScope s__law_things) (by decide +kernel)) (fun _ _ _ _ _ => (pg_tupK (K := K) (n := 2) rfl rfl (pgs_cons (pg_name (i := 4) sc__law_things.nd rfl (by first | exact Or.inl rfl | exact Or.inr rfl)) (pgs_cons (pg_name (i := 5) sc__law_things.nd rfl (by first | exact Or.inl rfl | exact Or.inr rfl)) pgs_nil)))) (fun _ _ _ _ _ => pts_nil) (fun _ _ _ _ _ => (pe_tup (pa_cons (pe_callTy call_str_int (by rfl) T.b_str (by decide +kernel) (pa_cons (pv 4) pa_nil)) (pa_cons (pv 5) pa_nil))))) pa_nil)) (pa_cons (pe_callTy call_tuple_of (by rfl) T.b_tuple (by decide +kernel) (pa_cons (pe_lc (own := [("_law_label", 4), ("_law_ways", 5)])  (tt := tYes) rfl sc__law_things.nd (pi_tup (pv 1)) (blkOk_by (own := [("_law_label", 4), ("_law_ways", 5)]) (N := ["_law_deck_here", "_law_paper", "_law_number", "_law_some", "_law_label", "_law_ways"]) (sc := defScope s__law_things) (by decide +kernel)) (fun _ _ _ _ _ => (pg_tupK (K := K) (n := 2) rfl rfl (pgs_cons (pg_name (i := 4) sc__law_things.nd rfl (by first | exact Or.inl rfl | exact Or.inr rfl)) (pgs_cons (pg_name (i := 5) sc__law_things.nd rfl (by first | exact Or.inl rfl | exact Or.inr rfl)) pgs_nil)))) (fun _ _ _ _ _ => pts_nil) (fun _ _ _ _ _ => (pv 4))) pa_nil)) pa_nil)))))
      (pss_cons (ps_set (i := 3) sc__law_things.nd rfl (by first | exact Or.inl rfl | exact Or.inr rfl) (pe_op op_cat (pv 3) (pe_lst (pa_cons (pe_callTy call_tuple_of (by rfl) T.b_tuple (by decide +kernel) (pa_cons (pe_lc (own := [("_law_label", 4), ("_law_ways", 5)])  (tt := tYes) rfl sc__law_things.nd (pi_tup (pv 1)) (blkOk_by (own := [("_law_label", 4), ("_law_ways", 5)]) (N := ["_law_deck_here", "_law_paper", "_law_number", "_law_some", "_law_label", "_law_ways"]) (sc := defScope s__law_things) (by decide +kernel)) (fun _ _ _ _ _ => (pg_tupK (K := K) (n := 2) rfl rfl (pgs_cons (pg_name (i := 4) sc__law_things.nd rfl (by first | exact Or.inl rfl | exact Or.inr rfl)) (pgs_cons (pg_name (i := 5) sc__law_things.nd rfl (by first | exact Or.inl rfl | exact Or.inr rfl)) pgs_nil)))) (fun _ _ _ _ _ => pts_nil) (fun _ _ _ _ _ => (pe_tup (pa_cons (pe_op op_add (pv 2) pe_int) (pa_cons (pv 5) pa_nil))))) pa_nil)) (pa_cons (pe_callTy call_tuple_of (by rfl) T.b_tuple (by decide +kernel) (pa_cons (pe_lc (own := [("_law_label", 4), ("_law_ways", 5)])  (tt := tYes) rfl sc__law_things.nd (pi_tup (pv 1)) (blkOk_by (own := [("_law_label", 4), ("_law_ways", 5)]) (N := ["_law_deck_here", "_law_paper", "_law_number", "_law_some", "_law_label", "_law_ways"]) (sc := defScope s__law_things) (by decide +kernel)) (fun _ _ _ _ _ => (pg_tupK (K := K) (n := 2) rfl rfl (pgs_cons (pg_name (i := 4) sc__law_things.nd rfl (by first | exact Or.inl rfl | exact Or.inr rfl)) (pgs_cons (pg_name (i := 5) sc__law_things.nd rfl (by first | exact Or.inl rfl | exact Or.inr rfl)) pgs_nil)))) (fun _ _ _ _ _ => pts_nil) (fun _ _ _ _ _ => (pv 5))) pa_nil)) pa_nil)))))
      (pss_cons (ps_set (i := 3) sc__law_things.nd rfl (by first | exact Or.inl rfl | exact Or.inr rfl) (pe_op op_cat (pv 3) (pe_lst (pa_cons (pe_callTy call_tuple_of (by rfl) T.b_tuple (by decide +kernel) (pa_cons (pe_lc (own := [("_law_label", 4), ("_law_ways", 5)])  (tt := tYes) rfl sc__law_things.nd (pi_tup (pv 1)) (blkOk_by (own := [("_law_label", 4), ("_law_ways", 5)]) (N := ["_law_deck_here", "_law_paper", "_law_number", "_law_some", "_law_label", "_law_ways"]) (sc := defScope s__law_things) (by decide +kernel)) (fun _ _ _ _ _ => (pg_tupK (K := K) (n := 2) rfl rfl (pgs_cons (pg_name (i := 4) sc__law_things.nd rfl (by first | exact Or.inl rfl | exact Or.inr rfl)) (pgs_cons (pg_name (i := 5) sc__law_things.nd rfl (by first | exact Or.inl rfl | exact Or.inr rfl)) pgs_nil)))) (fun _ _ _ _ _ => pts_nil) (fun _ _ _ _ _ => (pe_tup (pa_cons pe_int (pa_cons (pe_tup pa_nil) pa_nil))))) pa_nil)) (pa_cons (pe_callTy call_tuple_of (by rfl) T.b_tuple (by decide +kernel) (pa_cons (pe_lc (own := [("_law_label", 4), ("_law_ways", 5)])  (tt := tYes) rfl sc__law_things.nd (pi_tup (pv 1)) (blkOk_by (own := [("_law_label", 4), ("_law_ways", 5)]) (N := ["_law_deck_here", "_law_paper", "_law_number", "_law_some", "_law_label", "_law_ways"]) (sc := defScope s__law_things) (by decide +kernel)) (fun _ _ _ _ _ => (pg_tupK (K := K) (n := 2) rfl rfl (pgs_cons (pg_name (i := 4) sc__law_things.nd rfl (by first | exact Or.inl rfl | exact Or.inr rfl)) (pgs_cons (pg_name (i := 5) sc__law_things.nd rfl (by first | exact Or.inl rfl | exact Or.inr rfl)) pgs_nil)))) (fun _ _ _ _ _ => pts_nil) (fun _ _ _ _ _ => (pe_tup (pa_cons (pv 4) (pa_cons pe_non pa_nil))))) pa_nil)) pa_nil)))))
      (pss_one (ps_ret (pe_op op_cat (pv 3) (pe_lst (pa_cons (pe_c c__law_deep hr (by decide) (by rfl) (pa_cons (pv 1) (pa_cons (pe_c c__law_draw hr (by decide) (by rfl) (pa_cons (pv 0) (pa_cons pe_int pa_nil))) pa_nil))) (pa_cons (pe_c c__law_deep hr (by decide) (by rfl) (pa_cons pe_non (pa_cons pe_int pa_nil))) pa_nil))))))))))))))), ?_⟩
    clear hr hA
    have el : qs.length = es.length := PA0.ts.1
    have l16 : (qs.map V.ref).length ≤ 16 := by rw [List.length_map, el]; exact ps.len
    have okp : okE k (.tup (es.map thEnt)) := okE_pap es
    have oke : ∀ e ∈ es.map thEnt, okE k e := fun e he => by
      obtain ⟨x, hx, rfl⟩ := List.mem_map.mp he
      exact okE_ways fun xs h => by have := (ps.way x hx xs h).1; omega
    have sd : Sd 60 sizeLine (.tuple (papD es)) := (pap_sd ps).mono (by decide) (by decide)
    have sok := pap_sok ps
    refine ⟨_, rfl, _, _, rfl, rfl, ⟨by decide, by decide, by decide⟩, W, C, _, t, rfl, hW, by omega, by decide +kernel, by decide +kernel, fun num G0 a0 a1 k1 => ?_⟩
    have st : Thb W C pp (qs.map V.ref) (.tup (es.map thEnt)) (t + 1) H G0 := Thb.nx ⟨Wkt.refl hW, PA0.top, PA0.rep⟩ k1
    clear k1
    have ay : AllR k G0 [] := fun x hx => by cases hx
    replace ay := ay.push .non (nbP_d rfl)
    replace ay := ay.push (.bl true) (nbP_d rfl)
    replace ay := ay.push (.bl false) (nbP_d rfl)
    replace ay := ay.push (.int 0) (nbP_d rfl)
    replace ay := ay.push (.int 1) (nbP_d rfl)
    replace ay := ay.push (.int num) (nbP_d rfl)
    replace ay := ay.push (.int (0 - num)) (nbP_d rfl)
    replace ay := ay.push (.str "") (nbP_d rfl)
    replace ay := ay.push (.str "paper") (nbP_d rfl)
    refine ⟨_, rfl, _, rfl, _, _, rfl, rfl, _, rfl, .ref pp, false, .tuple (papD es), rfl, (PA0.mono fun b xs e => hW.tup st.k e).rp, sd.sh, sd.dp, sd.ln, ?_⟩
    unfold tNoPart
    refine ⟨_, rfl, ?_⟩
    refine ⟨_, rfl, sd.ln, ?_⟩
    generalize cutS (PyData.tuple (papD es)).shown none (some 600) = ztx
    replace ay := ay.push (.str ztx) (nbP_d rfl)
    refine ⟨small 0, fun p1 n1 => ?_⟩
    obtain ⟨s1, r1⟩ := new_tup n1 RepAll.nil
    generalize upd G0 p1 (.tup []) = G1 at s1 r1 ⊢
    replace st := st.sm s1
    replace ay := ay.same s1
    replace ay := ay.push r1 (nbP_d rfl)
    refine ⟨small 0, fun p2 n2 => ?_⟩
    obtain ⟨s2, r2⟩ := new_lst (xs := []) n2
    generalize upd G1 p2 (.lst []) = G2 at s2 r2 ⊢
    replace st := st.sm s2
    replace ay := ay.same s2
    replace ay := ay.push r2 (nbP_d rfl)
    refine fun p3 n3 => ?_
    obtain ⟨s3, r3⟩ := new_dic (ks := []) n3
    generalize upd G2 p3 (.dK []) = G3 at s3 r3 ⊢
    replace st := st.sm s3
    replace ay := ay.same s3
    replace ay := ay.push r3 (nbP_d rfl)
    refine ⟨small 0, fun p4 n4 => ?_⟩
    obtain ⟨s4, r4⟩ := new_tup n4 RepAll.nil
    generalize upd G3 p4 (.tup []) = G4 at s4 r4 ⊢
    replace st := st.sm s4
    replace ay := ay.same s4
    refine ⟨small 1, fun p5 n5 => ?_⟩
    obtain ⟨s5, r5⟩ := new_tup n5 (RepAll.cons r4 RepAll.nil)
    generalize upd G4 p5 (.tup [.ref p4]) = G5 at s5 r5 ⊢
    replace st := st.sm s5
    replace ay := ay.same s5
    replace ay := ay.push r5 (nbP_d rfl)
    refine ⟨small 14, fun L1 nL1 => ?_⟩
    have sL1 := Same.new (o := .lst [.non, .bl true, .bl false, .int 0, .int 1, .int num, .int (0 - num), .str "", .str "paper", .str ztx, .ref p1, .ref p2, .ref p3, .ref p5]) nL1
    have hL1 : upd G5 L1 (.lst [.non, .bl true, .bl false, .int 0, .int 1, .int num, .int (0 - num), .str "", .str "paper", .str ztx, .ref p1, .ref p2, .ref p3, .ref p5]) L1 = some (.lst [.non, .bl true, .bl false, .int 0, .int 1, .int num, .int (0 - num), .str "", .str "paper", .str ztx, .ref p1, .ref p2, .ref p3, .ref p5]) := upd_same
    have lL1 : ([.non, .bl true, .bl false, .int 0, .int 1, .int num, .int (0 - num), .str "", .str "paper", .str ztx, .ref p1, .ref p2, .ref p3, .ref p5] : List V).length = 14 := rfl
    have ay : AllR k G5 [.non, .bl true, .bl false, .int 0, .int 1, .int num, .int (0 - num), .str "", .str "paper", .str ztx, .ref p1, .ref p2, .ref p3, .ref p5] := ay
    generalize ([.non, .bl true, .bl false, .int 0, .int 1, .int num, .int (0 - num), .str "", .str "paper", .str ztx, .ref p1, .ref p2, .ref p3, .ref p5] : List V) = ysL1 at sL1 hL1 lL1 ay ⊢
    generalize upd G5 L1 (.lst ysL1) = GL1 at sL1 hL1 ⊢
    replace st := st.sm sL1
    replace ay := ay.same sL1
    have hx : HL k GL1 L1 ysL1 := ⟨hL1, ay⟩
    clear ay hL1 sL1
    generalize ysL1 = xs1 at lL1 hx ⊢
    have ay : AllR k GL1 [] := fun x hx => by cases hx
    refine ⟨_, rfl, small 1, fun p1001 n1001 => ?_⟩
    obtain ⟨s1001, r1001⟩ := new_tup n1001 (RepAll.cons (.int 1) RepAll.nil)
    generalize upd GL1 p1001 (.tup [.int 1]) = G1001 at s1001 r1001 ⊢
    replace st := st.sm s1001
    replace hx := hx.sm s1001
    replace ay := ay.same s1001
    refine ⟨small 1, fun p1002 n1002 => ?_⟩
    obtain ⟨s1002, r1002⟩ := new_tup n1002 (RepAll.cons r1001 RepAll.nil)
    generalize upd G1001 p1002 (.tup [.ref p1001]) = G1002 at s1002 r1002 ⊢
    replace st := st.sm s1002
    replace hx := hx.sm s1002
    replace ay := ay.same s1002
    replace ay := ay.push r1002 (nbP_d rfl)
    refine ⟨small 0, fun p1003 n1003 => ?_⟩
    obtain ⟨s1003, r1003⟩ := new_tup n1003 RepAll.nil
    generalize upd G1002 p1003 (.tup []) = G1003 at s1003 r1003 ⊢
    replace st := st.sm s1003
    replace hx := hx.sm s1003
    replace ay := ay.same s1003
    refine ⟨small 2, fun p1004 n1004 => ?_⟩
    obtain ⟨s1004, r1004⟩ := new_tup n1004 (RepAll.cons (.int 1) (RepAll.cons r1003 RepAll.nil))
    generalize upd G1003 p1004 (.tup [.int 1, .ref p1003]) = G1004 at s1004 r1004 ⊢
    replace st := st.sm s1004
    replace hx := hx.sm s1004
    replace ay := ay.same s1004
    replace ay := ay.push r1004 (nbP_d rfl)
    refine ⟨small 0, fun p1005 n1005 => ?_⟩
    obtain ⟨s1005, r1005⟩ := new_tup n1005 RepAll.nil
    generalize upd G1004 p1005 (.tup []) = G1005 at s1005 r1005 ⊢
    replace st := st.sm s1005
    replace hx := hx.sm s1005
    replace ay := ay.same s1005
    refine ⟨small 2, fun p1006 n1006 => ?_⟩
    obtain ⟨s1006, r1006⟩ := new_tup n1006 (RepAll.cons (.int 1) (RepAll.cons r1005 RepAll.nil))
    generalize upd G1005 p1006 (.tup [.int 1, .ref p1005]) = G1006 at s1006 r1006 ⊢
    replace st := st.sm s1006
    replace hx := hx.sm s1006
    replace ay := ay.same s1006
    refine ⟨small 1, fun p1007 n1007 => ?_⟩
    obtain ⟨s1007, r1007⟩ := new_tup n1007 (RepAll.cons r1006 RepAll.nil)
    generalize upd G1006 p1007 (.tup [.ref p1006]) = G1007 at s1007 r1007 ⊢
    replace st := st.sm s1007
    replace hx := hx.sm s1007
    replace ay := ay.same s1007
    replace ay := ay.push r1007 (nbP_d rfl)
    refine ⟨small 3, fun M2 nM2 => ?_⟩
    have sM2 := Same.new (o := .lst [.ref p1002, .ref p1004, .ref p1007]) nM2
    have hM2 : upd G1007 M2 (.lst [.ref p1002, .ref p1004, .ref p1007]) M2 = some (.lst [.ref p1002, .ref p1004, .ref p1007]) := upd_same
    have lM2 : ([.ref p1002, .ref p1004, .ref p1007] : List V).length = 3 := rfl
    have ay : AllR k G1007 [.ref p1002, .ref p1004, .ref p1007] := ay
    generalize ([.ref p1002, .ref p1004, .ref p1007] : List V) = ysM2 at sM2 hM2 lM2 ay ⊢
    generalize upd G1007 M2 (.lst ysM2) = GM2 at sM2 hM2 ⊢
    replace st := st.sm sM2
    replace ay := ay.same sM2
    replace hx := hx.sm sM2
    refine ⟨L1, M2, _, _, rfl, rfl, hx.at_, hM2, by rw [lL1, lM2]; exact small 17, fun L2 nL2 => ?_⟩
    have sL2 := Same.new (o := .lst (xs1 ++ ysM2)) nL2
    have hx2 : HL k (upd GM2 L2 (.lst (xs1 ++ ysM2))) L2 (xs1 ++ ysM2) := ⟨upd_same, (hx.ax.cat ay).same sL2⟩
    have lL2 : (xs1 ++ ysM2).length = 17 := by rw [List.length_append, lL1, lM2]
    generalize xs1 ++ ysM2 = xs2 at sL2 hx2 lL2 ⊢
    have nHL2 := st.k.was nL2
    have oL2 := st.k.wl.new nL2
    generalize upd GM2 L2 (.lst xs2) = GL2 at sL2 hx2 ⊢
    replace st := st.sm sL2
    clear hx ay hM2 sM2
    rename HL _ _ _ _ => hx
    have ay : AllR k GL2 [] := fun x hx => by cases hx
    refine ⟨_, rfl, small 0, fun p2001 n2001 => ?_⟩
    obtain ⟨s2001, r2001⟩ := new_lst (xs := []) n2001
    generalize upd GL2 p2001 (.lst []) = G2001 at s2001 r2001 ⊢
    replace st := st.sm s2001
    replace hx := hx.sm s2001
    replace ay := ay.same s2001
    refine ⟨small 2, fun p2002 n2002 => ?_⟩
    obtain ⟨s2002, r2002⟩ := new_tup n2002 (RepAll.cons (.int 1) (RepAll.cons r2001 RepAll.nil))
    generalize upd G2001 p2002 (.tup [.int 1, .ref p2001]) = G2002 at s2002 r2002 ⊢
    replace st := st.sm s2002
    replace hx := hx.sm s2002
    replace ay := ay.same s2002
    refine ⟨small 1, fun p2003 n2003 => ?_⟩
    obtain ⟨s2003, r2003⟩ := new_tup n2003 (RepAll.cons r2002 RepAll.nil)
    generalize upd G2002 p2003 (.tup [.ref p2002]) = G2003 at s2003 r2003 ⊢
    replace st := st.sm s2003
    replace hx := hx.sm s2003
    replace ay := ay.same s2003
    replace ay := ay.push r2003 (nbP_d rfl)
    refine ⟨small 0, fun p2004 n2004 => ?_⟩
    obtain ⟨s2004, r2004⟩ := new_tup n2004 RepAll.nil
    generalize upd G2003 p2004 (.tup []) = G2004 at s2004 r2004 ⊢
    replace st := st.sm s2004
    replace hx := hx.sm s2004
    replace ay := ay.same s2004
    refine ⟨small 2, fun p2005 n2005 => ?_⟩
    obtain ⟨s2005, r2005⟩ := new_tup n2005 (RepAll.cons (.int 1) (RepAll.cons r2004 RepAll.nil))
    generalize upd G2004 p2005 (.tup [.int 1, .ref p2004]) = G2005 at s2005 r2005 ⊢
    replace st := st.sm s2005
    replace hx := hx.sm s2005
    replace ay := ay.same s2005
    refine ⟨small 1, fun p2006 n2006 => ?_⟩
    obtain ⟨s2006, r2006⟩ := new_lst (xs := [.ref p2005]) n2006
    generalize upd G2005 p2006 (.lst [.ref p2005]) = G2006 at s2006 r2006 ⊢
    replace st := st.sm s2006
    replace hx := hx.sm s2006
    replace ay := ay.same s2006
    replace ay := ay.push r2006 (nbP_d rfl)
    refine ⟨small 0, fun p2007 n2007 => ?_⟩
    obtain ⟨s2007, r2007⟩ := new_tup n2007 RepAll.nil
    generalize upd G2006 p2007 (.tup []) = G2007 at s2007 r2007 ⊢
    replace st := st.sm s2007
    replace hx := hx.sm s2007
    replace ay := ay.same s2007
    refine ⟨small 2, fun p2008 n2008 => ?_⟩
    obtain ⟨s2008, r2008⟩ := new_tup n2008 (RepAll.cons (.bl true) (RepAll.cons r2007 RepAll.nil))
    generalize upd G2007 p2008 (.tup [.bl true, .ref p2007]) = G2008 at s2008 r2008 ⊢
    replace st := st.sm s2008
    replace hx := hx.sm s2008
    replace ay := ay.same s2008
    refine ⟨small 1, fun p2009 n2009 => ?_⟩
    obtain ⟨s2009, r2009⟩ := new_tup n2009 (RepAll.cons r2008 RepAll.nil)
    generalize upd G2008 p2009 (.tup [.ref p2008]) = G2009 at s2009 r2009 ⊢
    replace st := st.sm s2009
    replace hx := hx.sm s2009
    replace ay := ay.same s2009
    replace ay := ay.push r2009 (nbP_d rfl)
    refine ⟨small 0, fun p2010 n2010 => ?_⟩
    obtain ⟨s2010, r2010⟩ := new_tup n2010 RepAll.nil
    generalize upd G2009 p2010 (.tup []) = G2010 at s2010 r2010 ⊢
    replace st := st.sm s2010
    replace hx := hx.sm s2010
    replace ay := ay.same s2010
    refine ⟨small 2, fun p2011 n2011 => ?_⟩
    obtain ⟨s2011, r2011⟩ := new_tup n2011 (RepAll.cons r2010 (RepAll.cons (.int 1) RepAll.nil))
    generalize upd G2010 p2011 (.tup [.ref p2010, .int 1]) = G2011 at s2011 r2011 ⊢
    replace st := st.sm s2011
    replace hx := hx.sm s2011
    replace ay := ay.same s2011
    refine ⟨small 1, fun p2012 n2012 => ?_⟩
    obtain ⟨s2012, r2012⟩ := new_tup n2012 (RepAll.cons r2011 RepAll.nil)
    generalize upd G2011 p2012 (.tup [.ref p2011]) = G2012 at s2012 r2012 ⊢
    replace st := st.sm s2012
    replace hx := hx.sm s2012
    replace ay := ay.same s2012
    replace ay := ay.push r2012 (nbP_d rfl)
    refine ⟨small 0, fun p2013 n2013 => ?_⟩
    obtain ⟨s2013, r2013⟩ := new_tup n2013 RepAll.nil
    generalize upd G2012 p2013 (.tup []) = G2013 at s2013 r2013 ⊢
    replace st := st.sm s2013
    replace hx := hx.sm s2013
    replace ay := ay.same s2013
    refine ⟨small 0, fun p2014 n2014 => ?_⟩
    obtain ⟨s2014, r2014⟩ := new_tup n2014 RepAll.nil
    generalize upd G2013 p2014 (.tup []) = G2014 at s2014 r2014 ⊢
    replace r2013 := r2013.sm s2014
    replace st := st.sm s2014
    replace hx := hx.sm s2014
    replace ay := ay.same s2014
    refine ⟨small 3, fun p2015 n2015 => ?_⟩
    obtain ⟨s2015, r2015⟩ := new_tup n2015 (RepAll.cons (.int 1) (RepAll.cons r2013 (RepAll.cons r2014 RepAll.nil)))
    generalize upd G2014 p2015 (.tup [.int 1, .ref p2013, .ref p2014]) = G2015 at s2015 r2015 ⊢
    replace st := st.sm s2015
    replace hx := hx.sm s2015
    replace ay := ay.same s2015
    refine ⟨small 1, fun p2016 n2016 => ?_⟩
    obtain ⟨s2016, r2016⟩ := new_tup n2016 (RepAll.cons r2015 RepAll.nil)
    generalize upd G2015 p2016 (.tup [.ref p2015]) = G2016 at s2016 r2016 ⊢
    replace st := st.sm s2016
    replace hx := hx.sm s2016
    replace ay := ay.same s2016
    replace ay := ay.push r2016 (nbP_d rfl)
    refine fun p2017 n2017 => ?_
    have z2017 := Same.new (o := .dK []) n2017
    have hd2017 : upd G2016 p2017 (.dK []) p2017 = some (.dK []) := upd_same
    generalize upd G2016 p2017 (.dK []) = D2017 at z2017 hd2017 ⊢
    refine ⟨small 0, fun q2017 nq2017 => ?_⟩
    have za2017 := Same.new (o := .tup []) nq2017
    generalize upd D2017 q2017 (.tup []) = E2017 at za2017 ⊢
    refine ⟨small 2, fun u2017 nu2017 => ?_⟩
    have zb2017 := Same.new (o := .tup [.int 1, .ref q2017]) nu2017
    generalize upd E2017 u2017 (.tup [.int 1, .ref q2017]) = F2017 at zb2017 ⊢
    refine ⟨(za2017.trans zb2017) _ _ hd2017, [(.inl 0, .ref u2017)], rfl, by show 1 ≤ 15; decide, ?_⟩
    obtain ⟨s2017, r2017⟩ := new_late (ks := mergeK [] [(.inl 0, .ref u2017)]) n2017 (z2017.trans (za2017.trans zb2017))
    generalize upd F2017 p2017 (.dK (mergeK [] [(.inl 0, .ref u2017)])) = G2017 at s2017 r2017 ⊢
    replace st := st.sm s2017
    replace hx := hx.sm s2017
    replace ay := ay.same s2017
    replace ay := ay.push r2017 (nbP_d rfl)
    refine ⟨small 1, fun p2018 n2018 => ?_⟩
    obtain ⟨s2018, r2018⟩ := new_tup n2018 (RepAll.cons .non RepAll.nil)
    generalize upd G2017 p2018 (.tup [.non]) = G2018 at s2018 r2018 ⊢
    replace st := st.sm s2018
    replace hx := hx.sm s2018
    replace ay := ay.same s2018
    replace ay := ay.push r2018 (nbP_d rfl)
    refine ⟨small 7, fun M3 nM3 => ?_⟩
    have sM3 := Same.new (o := .lst [.ref p2003, .ref p2006, .ref p2009, .ref p2012, .ref p2016, .ref p2017, .ref p2018]) nM3
    have hM3 : upd G2018 M3 (.lst [.ref p2003, .ref p2006, .ref p2009, .ref p2012, .ref p2016, .ref p2017, .ref p2018]) M3 = some (.lst [.ref p2003, .ref p2006, .ref p2009, .ref p2012, .ref p2016, .ref p2017, .ref p2018]) := upd_same
    have lM3 : ([.ref p2003, .ref p2006, .ref p2009, .ref p2012, .ref p2016, .ref p2017, .ref p2018] : List V).length = 7 := rfl
    have ay : AllR k G2018 [.ref p2003, .ref p2006, .ref p2009, .ref p2012, .ref p2016, .ref p2017, .ref p2018] := ay
    generalize ([.ref p2003, .ref p2006, .ref p2009, .ref p2012, .ref p2016, .ref p2017, .ref p2018] : List V) = ysM3 at sM3 hM3 lM3 ay ⊢
    generalize upd G2018 M3 (.lst ysM3) = GM3 at sM3 hM3 ⊢
    replace st := st.sm sM3
    replace ay := ay.same sM3
    replace hx := hx.sm sM3
    refine ⟨L2, M3, _, _, rfl, rfl, hx.at_, hM3, by rw [lL2, lM3]; exact small 24, fun L3 nL3 => ?_⟩
    have sL3 := Same.new (o := .lst (xs2 ++ ysM3)) nL3
    have hx2 : HL k (upd GM3 L3 (.lst (xs2 ++ ysM3))) L3 (xs2 ++ ysM3) := ⟨upd_same, (hx.ax.cat ay).same sL3⟩
    have lL3 : (xs2 ++ ysM3).length = 24 := by rw [List.length_append, lL2, lM3]
    generalize xs2 ++ ysM3 = xs3 at sL3 hx2 lL3 ⊢
    have nHL3 := st.k.was nL3
    have oL3 := st.k.wl.new nL3
    generalize upd GM3 L3 (.lst xs3) = GL3 at sL3 hx2 ⊢
    replace st := st.sm sL3
    clear hx ay hM3 sM3
    rename HL _ _ _ _ => hx
    have ay : AllR k GL3 [] := fun x hx => by cases hx
    refine ⟨_, rfl, _, rfl, small 1, fun p3001 n3001 => ?_⟩
    obtain ⟨s3001, r3001⟩ := new_tup n3001 (RepAll.cons st.rp RepAll.nil)
    generalize upd GL3 p3001 (.tup [.ref pp]) = G3001 at s3001 r3001 ⊢
    replace st := st.sm s3001
    replace hx := hx.sm s3001
    replace ay := ay.same s3001
    replace ay := ay.push r3001 (nbP_all fun e he => by rw [List.mem_singleton.mp he]; exact okp)
    refine ⟨_, rfl, small 1, fun p3002 n3002 => ?_⟩
    obtain ⟨s3002, r3002⟩ := new_lst (xs := [.ref pp]) n3002
    generalize upd G3001 p3002 (.lst [.ref pp]) = G3002 at s3002 r3002 ⊢
    replace st := st.sm s3002
    replace hx := hx.sm s3002
    replace ay := ay.same s3002
    replace ay := ay.push r3002 (nbP_d rfl)
    refine ⟨_, rfl, _, rfl, small 2, fun p3003 n3003 => ?_⟩
    obtain ⟨s3003, r3003⟩ := new_tup n3003 (RepAll.cons st.rp (RepAll.cons st.rp RepAll.nil))
    generalize upd G3002 p3003 (.tup [.ref pp, .ref pp]) = G3003 at s3003 r3003 ⊢
    replace st := st.sm s3003
    replace hx := hx.sm s3003
    replace ay := ay.same s3003
    replace ay := ay.push r3003 (nbP_two okp)
    refine ⟨_, rfl, _, rfl, ?_⟩
    refine catA_any rfl rfl st.hp st.hp (by exact Nat.le_trans (show _ ≤ 32 by omega) (small 32)) fun p3004 G3004 s3004 h3004 => ?_
    have r3004 : Rep G3004 (.ref p3004) (.tup (es.map thEnt ++ es.map thEnt)) := .tup h3004 ((st.rv.append st.rv).mono (KeepT.same s3004))
    replace st := st.sm s3004
    replace hx := hx.sm s3004
    replace ay := ay.same s3004
    replace ay := ay.push r3004 (nbP_all fun e he => (List.mem_append.mp he).elim (oke e) (oke e))
    refine ⟨_, rfl, pp, _, rfl, .inr (SqT.of st.hp), fun p3005 n3005 => ?_⟩
    obtain ⟨s3005, r3005⟩ := new_lst (xs := (qs.map V.ref)) n3005
    generalize upd G3004 p3005 (.lst (qs.map V.ref)) = G3005 at s3005 r3005 ⊢
    replace st := st.sm s3005
    replace hx := hx.sm s3005
    replace ay := ay.same s3005
    replace ay := ay.push r3005 (nbP_d rfl)
    refine ⟨_, rfl, small 1, fun p3006 n3006 => ?_⟩
    have s3006 := Same.new (o := .tup [.non]) n3006
    have h3006 : upd G3005 p3006 (.tup [.non]) p3006 = some (.tup [.non]) := upd_same
    generalize upd G3005 p3006 (.tup [.non]) = G3006 at s3006 h3006 ⊢
    replace st := st.sm s3006
    replace hx := hx.sm s3006
    replace ay := ay.same s3006
    refine catA_any rfl rfl st.hp h3006 (by show (qs.map V.ref).length + 1 ≤ _; exact Nat.le_trans (by omega) (small 20)) fun p3007 G3007 s3007 h3007 => ?_
    have r3007 : Rep G3007 (.ref p3007) (.tup (es.map thEnt ++ [.non])) := .tup h3007 ((st.rv.mono (KeepT.same s3007)).append (.cons .non .nil))
    replace st := st.sm s3007
    replace hx := hx.sm s3007
    replace ay := ay.same s3007
    replace ay := ay.push r3007 (nbP_all fun e he => (List.mem_append.mp he).elim (oke e) fun z => by rw [List.mem_singleton.mp z]; exact okE_d rfl)
    refine fun p3008 n3008 => ?_
    refine ⟨_, rfl, upd_same, [(.inr "paper", .ref pp)], rfl, by show 1 ≤ 15; decide, ?_⟩
    rw [upd_upd]
    obtain ⟨s3008, r3008⟩ := new_dic (ks := mergeK [] [(.inr "paper", .ref pp)]) n3008
    generalize upd G3007 p3008 (.dK (mergeK [] [(.inr "paper", .ref pp)])) = G3008 at s3008 r3008 ⊢
    replace st := st.sm s3008
    replace hx := hx.sm s3008
    replace ay := ay.same s3008
    replace ay := ay.push r3008 (nbP_d rfl)
    refine ⟨small 7, fun M4 nM4 => ?_⟩
    have sM4 := Same.new (o := .lst [.ref p3001, .ref p3002, .ref p3003, .ref p3004, .ref p3005, .ref p3007, .ref p3008]) nM4
    have hM4 : upd G3008 M4 (.lst [.ref p3001, .ref p3002, .ref p3003, .ref p3004, .ref p3005, .ref p3007, .ref p3008]) M4 = some (.lst [.ref p3001, .ref p3002, .ref p3003, .ref p3004, .ref p3005, .ref p3007, .ref p3008]) := upd_same
    have lM4 : ([.ref p3001, .ref p3002, .ref p3003, .ref p3004, .ref p3005, .ref p3007, .ref p3008] : List V).length = 7 := rfl
    have ay : AllR k G3008 [.ref p3001, .ref p3002, .ref p3003, .ref p3004, .ref p3005, .ref p3007, .ref p3008] := ay
    generalize ([.ref p3001, .ref p3002, .ref p3003, .ref p3004, .ref p3005, .ref p3007, .ref p3008] : List V) = ysM4 at sM4 hM4 lM4 ay ⊢
    generalize upd G3008 M4 (.lst ysM4) = GM4 at sM4 hM4 ⊢
    replace st := st.sm sM4
    replace ay := ay.same sM4
    replace hx := hx.sm sM4
    refine ⟨L3, M4, _, _, rfl, rfl, hx.at_, hM4, by rw [lL3, lM4]; exact small 31, fun L4 nL4 => ?_⟩
    have sL4 := Same.new (o := .lst (xs3 ++ ysM4)) nL4
    have hx2 : HL k (upd GM4 L4 (.lst (xs3 ++ ysM4))) L4 (xs3 ++ ysM4) := ⟨upd_same, (hx.ax.cat ay).same sL4⟩
    have lL4 : (xs3 ++ ysM4).length = 31 := by rw [List.length_append, lL3, lM4]
    generalize xs3 ++ ysM4 = xs4 at sL4 hx2 lL4 ⊢
    have nHL4 := st.k.was nL4
    have oL4 := st.k.wl.new nL4
    generalize upd GM4 L4 (.lst xs4) = GL4 at sL4 hx2 ⊢
    replace st := st.sm sL4
    clear hx ay hM4 sM4
    rename HL _ _ _ _ => hx
    have ay : AllR k GL4 [] := fun x hx => by cases hx
    refine ⟨_, rfl, _, rfl, pp, rfl, ⟨_, SqT.of st.hp⟩, fun M4001 nM4001 => ?_⟩
    refine lc_tup (K := K) (a := pp) (xs := qs.map V.ref) (fun j H' => CI k GL4 M4001 j H') (CI.start nM4001) (fun _ H' _ ⟨_, _, o', _⟩ => SqT.of (o'.sm _ _ st.hp)) ?_ ?_
    · rintro j x H7 hx7 c7
      obtain ⟨us7, ts7, o7, _⟩ := id c7
      have P7 : PapAt H7 pp es qs := (PA0.mono fun b xs e => hW.tup st.k e).mono fun b xs e => o7.sm _ _ e
      obtain ⟨p, e, rfl, he, q1, us, hp, hq, TW⟩ := P7.ts.at_ hx7
      have hj : j < 100 := by have := (List.getElem?_eq_some_iff.mp he).1; have := ps.len; omega
      have el7 : ∀ xs ∈ e.2, xs.length ≤ 1000 := fun xs h => by have := (ps.way e (List.mem_of_getElem? he) xs h).1; omega
      have rw7 : Rep H7 (.ref q1) (.tup (e.2.map thWs)) := .tup hq (rep_tups TW)
      refine ⟨p, _, rfl, SqT.of hp, rfl, _, _, rfl, _, _, rfl, rfl, rfl, ?_⟩
      unfold tYes
      refine iteT ?_
      refine fun p9 n9 => ?_
      refine ⟨_, rfl, _, rfl, upd_same, [(.inr "label", nV e.1), (.inr "ways", .ref q1)], rfl, by show 2 ≤ 15; decide, ?_⟩
      rw [upd_upd]
      obtain ⟨s9, r9⟩ := new_dic (ks := mergeK [] [(.inr "label", nV e.1), (.inr "ways", .ref q1)]) n9
      exact c7.push s9 r9 (okE_d rfl) hj
    rintro H7 ⟨us7, ts7, o7, ra7, l7, b4001⟩
    refine ⟨M4001, _, rfl, .inl ⟨SqL.of o7.at_, fun p4001 n4001 => ?_⟩⟩
    obtain ⟨s8, r4001⟩ := new_tup n4001 ra7
    have s4001 := o7.sm.trans s8
    clear o7 l7 s8
    generalize upd H7 p4001 (.tup us7) = G4001 at s4001 r4001 ⊢
    replace st := st.sm s4001
    replace hx := hx.sm s4001
    replace ay := ay.same s4001
    replace ay := ay.push r4001 (nbP_all b4001)
    refine ⟨small 1, fun M5 nM5 => ?_⟩
    have sM5 := Same.new (o := .lst [.ref p4001]) nM5
    have hM5 : upd G4001 M5 (.lst [.ref p4001]) M5 = some (.lst [.ref p4001]) := upd_same
    have lM5 : ([.ref p4001] : List V).length = 1 := rfl
    have ay : AllR k G4001 [.ref p4001] := ay
    generalize ([.ref p4001] : List V) = ysM5 at sM5 hM5 lM5 ay ⊢
    generalize upd G4001 M5 (.lst ysM5) = GM5 at sM5 hM5 ⊢
    replace st := st.sm sM5
    replace ay := ay.same sM5
    replace hx := hx.sm sM5
    refine ⟨L4, M5, _, _, rfl, rfl, hx.at_, hM5, by rw [lL4, lM5]; exact small 32, fun L5 nL5 => ?_⟩
    have sL5 := Same.new (o := .lst (xs4 ++ ysM5)) nL5
    have hx2 : HL k (upd GM5 L5 (.lst (xs4 ++ ysM5))) L5 (xs4 ++ ysM5) := ⟨upd_same, (hx.ax.cat ay).same sL5⟩
    have lL5 : (xs4 ++ ysM5).length = 32 := by rw [List.length_append, lL4, lM5]
    generalize xs4 ++ ysM5 = xs5 at sL5 hx2 lL5 ⊢
    have nHL5 := st.k.was nL5
    have oL5 := st.k.wl.new nL5
    generalize upd GM5 L5 (.lst xs5) = GL5 at sL5 hx2 ⊢
    replace st := st.sm sL5
    clear hx ay hM5 sM5
    rename HL _ _ _ _ => hx
    have ay : AllR k GL5 [] := fun x hx => by cases hx
    refine ⟨_, rfl, _, rfl, pp, rfl, ⟨_, SqT.of st.hp⟩, fun M5001 nM5001 => ?_⟩
    refine lc_tup (K := K) (a := pp) (xs := qs.map V.ref) (fun j H' => CI k GL5 M5001 j H') (CI.start nM5001) (fun _ H' _ ⟨_, _, o', _⟩ => SqT.of (o'.sm _ _ st.hp)) ?_ ?_
    · rintro j x H7 hx7 c7
      obtain ⟨us7, ts7, o7, _⟩ := id c7
      have P7 : PapAt H7 pp es qs := (PA0.mono fun b xs e => hW.tup st.k e).mono fun b xs e => o7.sm _ _ e
      obtain ⟨p, e, rfl, he, q1, us, hp, hq, TW⟩ := P7.ts.at_ hx7
      have hj : j < 100 := by have := (List.getElem?_eq_some_iff.mp he).1; have := ps.len; omega
      have el7 : ∀ xs ∈ e.2, xs.length ≤ 1000 := fun xs h => by have := (ps.way e (List.mem_of_getElem? he) xs h).1; omega
      have rw7 : Rep H7 (.ref q1) (.tup (e.2.map thWs)) := .tup hq (rep_tups TW)
      refine ⟨p, _, rfl, SqT.of hp, rfl, _, _, rfl, _, _, rfl, rfl, rfl, ?_⟩
      unfold tYes
      refine iteT ?_
      refine ⟨_, rfl, _, rfl, (show (e.1).log2 < 1920 from Nat.lt_of_le_of_lt (Nat.log2_le_self e.1) (by have := ps.lab e (List.mem_of_getElem? he); omega)), _, rfl, small 2, fun p9 n9 => ?_⟩
      obtain ⟨s9, r9⟩ := new_tup n9 (RepAll.cons (.str _) (RepAll.cons rw7 .nil))
      exact c7.push s9 r9 (okE_ways el7) hj
    rintro H7 ⟨us7, ts7, o7, ra7, l7, b5001⟩
    refine ⟨M5001, _, rfl, .inl ⟨SqL.of o7.at_, fun p5001 n5001 => ?_⟩⟩
    obtain ⟨s8, r5001⟩ := new_tup n5001 ra7
    have s5001 := o7.sm.trans s8
    clear o7 l7 s8
    generalize upd H7 p5001 (.tup us7) = G5001 at s5001 r5001 ⊢
    replace st := st.sm s5001
    replace hx := hx.sm s5001
    replace ay := ay.same s5001
    replace ay := ay.push r5001 (nbP_all b5001)
    refine ⟨_, rfl, pp, rfl, ⟨_, SqT.of st.hp⟩, fun M5002 nM5002 => ?_⟩
    refine lc_tup (K := K) (a := pp) (xs := qs.map V.ref) (fun j H' => CI k G5001 M5002 j H') (CI.start nM5002) (fun _ H' _ ⟨_, _, o', _⟩ => SqT.of (o'.sm _ _ st.hp)) ?_ ?_
    · rintro j x H7 hx7 c7
      obtain ⟨us7, ts7, o7, _⟩ := id c7
      have P7 : PapAt H7 pp es qs := (PA0.mono fun b xs e => hW.tup st.k e).mono fun b xs e => o7.sm _ _ e
      obtain ⟨p, e, rfl, he, q1, us, hp, hq, TW⟩ := P7.ts.at_ hx7
      have hj : j < 100 := by have := (List.getElem?_eq_some_iff.mp he).1; have := ps.len; omega
      have el7 : ∀ xs ∈ e.2, xs.length ≤ 1000 := fun xs h => by have := (ps.way e (List.mem_of_getElem? he) xs h).1; omega
      have rw7 : Rep H7 (.ref q1) (.tup (e.2.map thWs)) := .tup hq (rep_tups TW)
      refine ⟨p, _, rfl, SqT.of hp, rfl, _, _, rfl, _, _, rfl, rfl, rfl, ?_⟩
      unfold tYes
      refine iteT ?_
      exact ⟨_, rfl, c7.push (Same.refl _) (.int _) (okE_d rfl) hj⟩
    rintro H7 ⟨us7, ts7, o7, ra7, l7, b5002⟩
    refine ⟨M5002, _, rfl, .inl ⟨SqL.of o7.at_, fun p5002 n5002 => ?_⟩⟩
    obtain ⟨s8, r5002⟩ := new_tup n5002 ra7
    have s5002 := o7.sm.trans s8
    clear o7 l7 s8
    generalize upd H7 p5002 (.tup us7) = G5002 at s5002 r5002 ⊢
    replace st := st.sm s5002
    replace hx := hx.sm s5002
    replace ay := ay.same s5002
    replace ay := ay.push r5002 (nbP_all b5002)
    refine ⟨small 2, fun M6 nM6 => ?_⟩
    have sM6 := Same.new (o := .lst [.ref p5001, .ref p5002]) nM6
    have hM6 : upd G5002 M6 (.lst [.ref p5001, .ref p5002]) M6 = some (.lst [.ref p5001, .ref p5002]) := upd_same
    have lM6 : ([.ref p5001, .ref p5002] : List V).length = 2 := rfl
    have ay : AllR k G5002 [.ref p5001, .ref p5002] := ay
    generalize ([.ref p5001, .ref p5002] : List V) = ysM6 at sM6 hM6 lM6 ay ⊢
    generalize upd G5002 M6 (.lst ysM6) = GM6 at sM6 hM6 ⊢
    replace st := st.sm sM6
    replace ay := ay.same sM6
    replace hx := hx.sm sM6
    refine ⟨L5, M6, _, _, rfl, rfl, hx.at_, hM6, by rw [lL5, lM6]; exact small 34, fun L6 nL6 => ?_⟩
    have sL6 := Same.new (o := .lst (xs5 ++ ysM6)) nL6
    have hx2 : HL k (upd GM6 L6 (.lst (xs5 ++ ysM6))) L6 (xs5 ++ ysM6) := ⟨upd_same, (hx.ax.cat ay).same sL6⟩
    have lL6 : (xs5 ++ ysM6).length = 34 := by rw [List.length_append, lL5, lM6]
    generalize xs5 ++ ysM6 = xs6 at sL6 hx2 lL6 ⊢
    have nHL6 := st.k.was nL6
    have oL6 := st.k.wl.new nL6
    generalize upd GM6 L6 (.lst xs6) = GL6 at sL6 hx2 ⊢
    replace st := st.sm sL6
    clear hx ay hM6 sM6
    rename HL _ _ _ _ => hx
    have ay : AllR k GL6 [] := fun x hx => by cases hx
    refine ⟨_, rfl, _, rfl, pp, rfl, ⟨_, SqT.of st.hp⟩, fun M6001 nM6001 => ?_⟩
    refine lc_tup (K := K) (a := pp) (xs := qs.map V.ref) (fun j H' => CI k GL6 M6001 j H') (CI.start nM6001) (fun _ H' _ ⟨_, _, o', _⟩ => SqT.of (o'.sm _ _ st.hp)) ?_ ?_
    · rintro j x H7 hx7 c7
      obtain ⟨us7, ts7, o7, _⟩ := id c7
      have P7 : PapAt H7 pp es qs := (PA0.mono fun b xs e => hW.tup st.k e).mono fun b xs e => o7.sm _ _ e
      obtain ⟨p, e, rfl, he, q1, us, hp, hq, TW⟩ := P7.ts.at_ hx7
      have hj : j < 100 := by have := (List.getElem?_eq_some_iff.mp he).1; have := ps.len; omega
      have el7 : ∀ xs ∈ e.2, xs.length ≤ 1000 := fun xs h => by have := (ps.way e (List.mem_of_getElem? he) xs h).1; omega
      have rw7 : Rep H7 (.ref q1) (.tup (e.2.map thWs)) := .tup hq (rep_tups TW)
      refine ⟨p, _, rfl, SqT.of hp, rfl, _, _, rfl, _, _, rfl, rfl, rfl, ?_⟩
      unfold tYes
      refine iteT ?_
      refine ⟨_, rfl, _, _, rfl, rfl, _, rfl, small 2, fun p9 n9 => ?_⟩
      obtain ⟨s9, r9⟩ := new_tup n9 (RepAll.cons (.int (num + 2)) (RepAll.cons rw7 .nil))
      exact c7.push s9 r9 (okE_ways el7) hj
    rintro H7 ⟨us7, ts7, o7, ra7, l7, b6001⟩
    refine ⟨M6001, _, rfl, .inl ⟨SqL.of o7.at_, fun p6001 n6001 => ?_⟩⟩
    obtain ⟨s8, r6001⟩ := new_tup n6001 ra7
    have s6001 := o7.sm.trans s8
    clear o7 l7 s8
    generalize upd H7 p6001 (.tup us7) = G6001 at s6001 r6001 ⊢
    replace st := st.sm s6001
    replace hx := hx.sm s6001
    replace ay := ay.same s6001
    replace ay := ay.push r6001 (nbP_all b6001)
    refine ⟨_, rfl, pp, rfl, ⟨_, SqT.of st.hp⟩, fun M6002 nM6002 => ?_⟩
    refine lc_tup (K := K) (a := pp) (xs := qs.map V.ref) (fun j H' => CI k G6001 M6002 j H') (CI.start nM6002) (fun _ H' _ ⟨_, _, o', _⟩ => SqT.of (o'.sm _ _ st.hp)) ?_ ?_
    · rintro j x H7 hx7 c7
      obtain ⟨us7, ts7, o7, _⟩ := id c7
      have P7 : PapAt H7 pp es qs := (PA0.mono fun b xs e => hW.tup st.k e).mono fun b xs e => o7.sm _ _ e
      obtain ⟨p, e, rfl, he, q1, us, hp, hq, TW⟩ := P7.ts.at_ hx7
      have hj : j < 100 := by have := (List.getElem?_eq_some_iff.mp he).1; have := ps.len; omega
      have el7 : ∀ xs ∈ e.2, xs.length ≤ 1000 := fun xs h => by have := (ps.way e (List.mem_of_getElem? he) xs h).1; omega
      have rw7 : Rep H7 (.ref q1) (.tup (e.2.map thWs)) := .tup hq (rep_tups TW)
      refine ⟨p, _, rfl, SqT.of hp, rfl, _, _, rfl, _, _, rfl, rfl, rfl, ?_⟩
      unfold tYes
      refine iteT ?_
      exact ⟨_, rfl, c7.push (Same.refl _) rw7 okE_pair hj⟩
    rintro H7 ⟨us7, ts7, o7, ra7, l7, b6002⟩
    refine ⟨M6002, _, rfl, .inl ⟨SqL.of o7.at_, fun p6002 n6002 => ?_⟩⟩
    obtain ⟨s8, r6002⟩ := new_tup n6002 ra7
    have s6002 := o7.sm.trans s8
    clear o7 l7 s8
    generalize upd H7 p6002 (.tup us7) = G6002 at s6002 r6002 ⊢
    replace st := st.sm s6002
    replace hx := hx.sm s6002
    replace ay := ay.same s6002
    replace ay := ay.push r6002 (nbP_all b6002)
    refine ⟨small 2, fun M7 nM7 => ?_⟩
    have sM7 := Same.new (o := .lst [.ref p6001, .ref p6002]) nM7
    have hM7 : upd G6002 M7 (.lst [.ref p6001, .ref p6002]) M7 = some (.lst [.ref p6001, .ref p6002]) := upd_same
    have lM7 : ([.ref p6001, .ref p6002] : List V).length = 2 := rfl
    have ay : AllR k G6002 [.ref p6001, .ref p6002] := ay
    generalize ([.ref p6001, .ref p6002] : List V) = ysM7 at sM7 hM7 lM7 ay ⊢
    generalize upd G6002 M7 (.lst ysM7) = GM7 at sM7 hM7 ⊢
    replace st := st.sm sM7
    replace ay := ay.same sM7
    replace hx := hx.sm sM7
    refine ⟨L6, M7, _, _, rfl, rfl, hx.at_, hM7, by rw [lL6, lM7]; exact small 36, fun L7 nL7 => ?_⟩
    have sL7 := Same.new (o := .lst (xs6 ++ ysM7)) nL7
    have hx2 : HL k (upd GM7 L7 (.lst (xs6 ++ ysM7))) L7 (xs6 ++ ysM7) := ⟨upd_same, (hx.ax.cat ay).same sL7⟩
    have lL7 : (xs6 ++ ysM7).length = 36 := by rw [List.length_append, lL6, lM7]
    generalize xs6 ++ ysM7 = xs7 at sL7 hx2 lL7 ⊢
    have nHL7 := st.k.was nL7
    have oL7 := st.k.wl.new nL7
    generalize upd GM7 L7 (.lst xs7) = GL7 at sL7 hx2 ⊢
    replace st := st.sm sL7
    clear hx ay hM7 sM7
    rename HL _ _ _ _ => hx
    have ay : AllR k GL7 [] := fun x hx => by cases hx
    refine ⟨_, rfl, _, rfl, pp, rfl, ⟨_, SqT.of st.hp⟩, fun M7001 nM7001 => ?_⟩
    refine lc_tup (K := K) (a := pp) (xs := qs.map V.ref) (fun j H' => CI k GL7 M7001 j H') (CI.start nM7001) (fun _ H' _ ⟨_, _, o', _⟩ => SqT.of (o'.sm _ _ st.hp)) ?_ ?_
    · rintro j x H7 hx7 c7
      obtain ⟨us7, ts7, o7, _⟩ := id c7
      have P7 : PapAt H7 pp es qs := (PA0.mono fun b xs e => hW.tup st.k e).mono fun b xs e => o7.sm _ _ e
      obtain ⟨p, e, rfl, he, q1, us, hp, hq, TW⟩ := P7.ts.at_ hx7
      have hj : j < 100 := by have := (List.getElem?_eq_some_iff.mp he).1; have := ps.len; omega
      have el7 : ∀ xs ∈ e.2, xs.length ≤ 1000 := fun xs h => by have := (ps.way e (List.mem_of_getElem? he) xs h).1; omega
      have rw7 : Rep H7 (.ref q1) (.tup (e.2.map thWs)) := .tup hq (rep_tups TW)
      refine ⟨p, _, rfl, SqT.of hp, rfl, _, _, rfl, _, _, rfl, rfl, rfl, ?_⟩
      unfold tYes
      refine iteT ?_
      refine ⟨small 0, fun p8 n8 => ?_⟩
      obtain ⟨s8, r8⟩ := new_tup n8 RepAll.nil
      generalize upd H7 p8 (.tup []) = H8 at s8 r8 ⊢
      refine ⟨small 2, fun p9 n9 => ?_⟩
      obtain ⟨s9, r9⟩ := new_tup n9 (RepAll.cons (.int 1) (RepAll.cons r8 .nil))
      exact c7.push (s8.trans s9) r9 (okE_d rfl) hj
    rintro H7 ⟨us7, ts7, o7, ra7, l7, b7001⟩
    refine ⟨M7001, _, rfl, .inl ⟨SqL.of o7.at_, fun p7001 n7001 => ?_⟩⟩
    obtain ⟨s8, r7001⟩ := new_tup n7001 ra7
    have s7001 := o7.sm.trans s8
    clear o7 l7 s8
    generalize upd H7 p7001 (.tup us7) = G7001 at s7001 r7001 ⊢
    replace st := st.sm s7001
    replace hx := hx.sm s7001
    replace ay := ay.same s7001
    replace ay := ay.push r7001 (nbP_all b7001)
    refine ⟨_, rfl, pp, rfl, ⟨_, SqT.of st.hp⟩, fun M7002 nM7002 => ?_⟩
    refine lc_tup (K := K) (a := pp) (xs := qs.map V.ref) (fun j H' => CI k G7001 M7002 j H') (CI.start nM7002) (fun _ H' _ ⟨_, _, o', _⟩ => SqT.of (o'.sm _ _ st.hp)) ?_ ?_
    · rintro j x H7 hx7 c7
      obtain ⟨us7, ts7, o7, _⟩ := id c7
      have P7 : PapAt H7 pp es qs := (PA0.mono fun b xs e => hW.tup st.k e).mono fun b xs e => o7.sm _ _ e
      obtain ⟨p, e, rfl, he, q1, us, hp, hq, TW⟩ := P7.ts.at_ hx7
      have hj : j < 100 := by have := (List.getElem?_eq_some_iff.mp he).1; have := ps.len; omega
      have el7 : ∀ xs ∈ e.2, xs.length ≤ 1000 := fun xs h => by have := (ps.way e (List.mem_of_getElem? he) xs h).1; omega
      have rw7 : Rep H7 (.ref q1) (.tup (e.2.map thWs)) := .tup hq (rep_tups TW)
      refine ⟨p, _, rfl, SqT.of hp, rfl, _, _, rfl, _, _, rfl, rfl, rfl, ?_⟩
      unfold tYes
      refine iteT ?_
      refine ⟨_, rfl, small 2, fun p9 n9 => ?_⟩
      obtain ⟨s9, r9⟩ := new_tup n9 (RepAll.cons (.int _) (RepAll.cons .non .nil))
      exact c7.push s9 r9 (okE_d rfl) hj
    rintro H7 ⟨us7, ts7, o7, ra7, l7, b7002⟩
    refine ⟨M7002, _, rfl, .inl ⟨SqL.of o7.at_, fun p7002 n7002 => ?_⟩⟩
    obtain ⟨s8, r7002⟩ := new_tup n7002 ra7
    have s7002 := o7.sm.trans s8
    clear o7 l7 s8
    generalize upd H7 p7002 (.tup us7) = G7002 at s7002 r7002 ⊢
    replace st := st.sm s7002
    replace hx := hx.sm s7002
    replace ay := ay.same s7002
    replace ay := ay.push r7002 (nbP_all b7002)
    refine ⟨small 2, fun M8 nM8 => ?_⟩
    have sM8 := Same.new (o := .lst [.ref p7001, .ref p7002]) nM8
    have hM8 : upd G7002 M8 (.lst [.ref p7001, .ref p7002]) M8 = some (.lst [.ref p7001, .ref p7002]) := upd_same
    have lM8 : ([.ref p7001, .ref p7002] : List V).length = 2 := rfl
    have ay : AllR k G7002 [.ref p7001, .ref p7002] := ay
    generalize ([.ref p7001, .ref p7002] : List V) = ysM8 at sM8 hM8 lM8 ay ⊢
    generalize upd G7002 M8 (.lst ysM8) = GM8 at sM8 hM8 ⊢
    replace st := st.sm sM8
    replace ay := ay.same sM8
    replace hx := hx.sm sM8
    refine ⟨L7, M8, _, _, rfl, rfl, hx.at_, hM8, by rw [lL7, lM8]; exact small 38, fun L8 nL8 => ?_⟩
    have sL8 := Same.new (o := .lst (xs7 ++ ysM8)) nL8
    have hx2 : HL k (upd GM8 L8 (.lst (xs7 ++ ysM8))) L8 (xs7 ++ ysM8) := ⟨upd_same, (hx.ax.cat ay).same sL8⟩
    have lL8 : (xs7 ++ ysM8).length = 38 := by rw [List.length_append, lL7, lM8]
    generalize xs7 ++ ysM8 = xs8 at sL8 hx2 lL8 ⊢
    have nHL8 := st.k.was nL8
    have oL8 := st.k.wl.new nL8
    generalize upd GM8 L8 (.lst xs8) = GL8 at sL8 hx2 ⊢
    replace st := st.sm sL8
    clear hx ay hM8 sM8
    rename HL _ _ _ _ => hx
    refine ⟨_, rfl, _, rfl, _, rfl, W, C, 17, t + 1, rfl, st.k.wl, by omega, by decide, by decide, fun e3 A8 d0 d1 k8 => ?_⟩
    replace hx := hx.nx st.k.wl oL8 k8
    replace st := st.nx k8
    refine ⟨_, _, _, k, rfl, st.rp, okp, nbP_all oke, by omega, by omega, fun v2 t2 A9 s9 rv2 np2 => ?_⟩
    replace st := st.sm s9
    replace hx := hx.sm s9
    refine ⟨_, _, 14, k, rfl, .non, okE_d rfl, nbP_d rfl, by decide, by decide, fun v3 t3 A11 s11 rv3 np3 => ?_⟩
    replace st := st.sm s11
    replace hx := hx.sm s11
    replace rv2 := rv2.sm s11
    refine ⟨small 2, fun M8 nM8 => ?_⟩
    have s12 := Same.new (o := .lst [v2, v3]) nM8
    have h8 : upd A11 M8 (.lst [v2, v3]) M8 = some (.lst [v2, v3]) := upd_same
    generalize upd A11 M8 (.lst [v2, v3]) = A12 at s12 h8 ⊢
    replace st := st.sm s12
    replace hx := hx.sm s12
    refine ⟨L8, M8, _, _, rfl, rfl, hx.at_, h8, by rw [lL8]; exact small 40, fun Z nZ => ?_⟩
    have s13 := Same.new (o := .lst (xs8 ++ [v2, v3])) nZ
    have aq : AllR k A12 (xs8 ++ [v2, v3]) := hx.ax.cat fun x hx => by
      rcases List.mem_cons.mp hx with z | z
      · rw [z]; exact ⟨_, rv2.sm s12, np2⟩
      · rw [List.mem_singleton.mp z]; exact ⟨_, rv3.sm s12, np3⟩
    exact q Z _ _ ((st.k.same s13).le (by omega)) (st.k.was nZ) upd_same (aq.same s13) (by rw [List.length_append, lL8]; show 38 + 2 ≤ 60; decide)
end
end K26
set_option Elab.async false
set_option linter.all false
set_option maxRecDepth 100000
set_option maxHeartbeats 4000000
namespace K26
open PySem PySem.Spec PyProof.Rows L2 GX
open C8 (Cal pe_c pe_gc)
section
variable {P : Program} {w : World} {K : PySem.W.Frag} {mg : Str → Option Value} {base : Heap} {Ts : List Addr}
variable {W C R : Addr} {t t0 u : Nat} {room room0 : Int} {H H1 H2 : Hp}
theorem wt_lists (w : Wt H W C t) : (∃ xs, H W = some (.lst xs)) ∧ ∃ xs, H C = some (.lst xs) := by
  obtain ⟨⟨ns, a, b, e1, e2, _⟩, _⟩ := w
  exact ⟨⟨_, e1⟩, ⟨_, e2⟩⟩
theorem dkt_start {Ts : List Addr} (w : Wt H W C t) (tb : Tabs Ts H) : Dkt W C t Ts H H := ⟨w, tb, Keep.refl⟩
theorem dkt_obj {Ts : List Addr} (d : Dkt W C t Ts H H1) (w : Wt H W C t0) (tb : Tabs Ts H) {b : Addr} {v : HO} (e : H b = some v) (h1 : ∀ xs, v ≠ .lst xs) (h2 : ∀ ps, v ≠ .tbl ps) : H1 b = some v := by
  obtain ⟨⟨x1, e1⟩, ⟨x2, e2⟩⟩ := wt_lists w
  refine d.kp b v e fun z => ?_
  rcases List.mem_cons.mp z with z | z
  · rw [z, e1] at e; cases e; exact h1 _ rfl
  · rcases List.mem_cons.mp z with z | z
    · rw [z, e2] at e; cases e; exact h1 _ rfl
    · exact tb.nott e h2 z
theorem dkt_lst {Ts : List Addr} (d : Dkt W C t Ts H H1) (tb : Tabs Ts H) {b : Addr} {xs : List V} (n : b ≠ W ∧ b ≠ C) (e : H b = some (.lst xs)) : H1 b = some (.lst xs) := by
  refine d.kp b _ e fun z => ?_
  rcases List.mem_cons.mp z with z | z
  · exact n.1 z
  · rcases List.mem_cons.mp z with z | z
    · exact n.2 z
    · exact tb.lst e z
theorem dkt_keepR {Ts : List Addr} (d : Dkt W C t Ts H H1) (w : Wt H W C t0) (tb : Tabs Ts H) : KeepR H H1 := fun b => by
  refine ⟨fun vs e => dkt_obj d w tb e (fun _ z => by cases z) (fun _ z => by cases z), fun xs e => ?_, fun k e => ⟨k, dkt_obj d w tb e (fun _ z => by cases z) (fun _ z => by cases z)⟩⟩
  obtain ⟨l1, l2⟩ := wt_lists d.wl
  by_cases h1 : b = W
  · rw [h1]; exact l1
  by_cases h2 : b = C
  · rw [h2]; exact l2
  exact ⟨xs, dkt_lst d tb ⟨h1, h2⟩ e⟩
end
section
variable {P : Program} {w : World} {K : PySem.W.Frag} {mg : Str → Option Value} {base : Heap} {Ts : List Addr}
def spLaw (K : PySem.W.Frag) (Ts : List Addr) : Sp := fun vs H Q _ => ∃ (a : Addr) (ns : List Int), vs = [.ref a] ∧ SqL K H a (ns.map V.int) ∧ ns.length ≤ 63 ∧ Tabs Ts H ∧ ∀ H', Q (.bl true) H'
theorem dkt_tup {W C b : Addr} {t u : Nat} {H H1 : Hp} {xs : List V} (w0 : Wt H W C u) (tb : Tabs Ts H) (d : Dkt W C t Ts H H1) (e : H b = some (.tup xs)) : H1 b = some (.tup xs) := by
  obtain ⟨⟨ns, x, y, e1, e2, _⟩, _⟩ := w0
  exact d.at_ ⟨fun z => (by rw [z, e1] at e; cases e), fun z => (by rw [z, e2] at e; cases e)⟩ (tb.nott e fun _ z => by cases z) e
theorem ok_law {f c : Addr} {oc kV doc pm ct : Value} {od an : Option Addr} {osl : Array (Option Value)}
    (lk : K.lookup f = some ⟨oc, od, .func (PySem.W.fnOf "law" "law" (defArgs s_law) (defBody s_law) (defScope s_law) .none kV doc pm an (.ref c) ct), osl⟩) (hcd : PySem.W.codeIn K (.ref c) "law" = true) (T : Txt mg)
    (c__law_deck : Cal P w K mg base 1 "_law_deck" (spDeck K) []) (c__law_draw : Cal P w K mg base 1 "_law_draw" spDraw []) (c__law_net : Cal P w K mg base 3 "_law_net" spNet []) (c_depth_paper : Cal P w K mg base 8 "depth_paper" (spDepthPaper Ts) []) (c__law_things : CalG P w K mg base 3 "_law_things" spThings) (c_depth_paper_holds : Cal P w K mg base 8 "depth_paper_holds" (spPaper Ts) []) (c__law_is_paper : Cal P w K mg base 3 "_law_is_paper" spLPapT []) :
    FnG P w K mg base 9 f (PySem.W.fnOf "law" "law" (defArgs s_law) (defBody s_law) (defScope s_law) .none kV doc pm an (.ref c) ct) ["_law_script"] (spLaw K Ts) := by
  refine fnG lk hcd sc_law (fun vs H Q E h => ?_) (fun A outer s H vs Q E hA hr h => ?_)
  · obtain ⟨a, ns, rfl, _⟩ := h
    rfl
  · obtain ⟨a, ns, rfl, hS, hlen, tb, q⟩ := h
    refine ⟨_, (pss_cons (ps_set (i := 1) sc_law.nd rfl (by first | exact Or.inl rfl | exact Or.inr rfl) (pe_c c__law_deck hr (by decide) (by rfl) (pa_cons (pv 0) pa_nil)))
      (pss_cons (ps_for PassesOwn.never rfl (pi_range1 (by rfl) T.b_range (pa_cons pe_int pa_nil)) (pg_name (i := 2) sc_law.nd rfl (by first | exact Or.inl rfl | exact Or.inr rfl))
        (pss_cons (ps_set (i := 3) sc_law.nd rfl (by first | exact Or.inl rfl | exact Or.inr rfl) (pe_c c__law_net hr (by decide) (by rfl) (pa_cons (pv 1) (pa_cons pe_int (pa_cons pe_int pa_nil)))))
      (pss_cons (ps_set (i := 4) sc_law.nd rfl (by first | exact Or.inl rfl | exact Or.inr rfl) (pe_op op_add pe_int (pe_c c__law_draw hr (by decide) (by rfl) (pa_cons (pv 1) (pa_cons pe_int pa_nil)))))
      (pss_cons (ps_set (i := 5) sc_law.nd rfl (by first | exact Or.inl rfl | exact Or.inr rfl) (pe_c c_depth_paper hr (by decide) (by rfl) (pa_cons (pv 3) (pa_cons (pv 4) pa_nil))))
      (pss_cons (ps_for PassesOwn.never rfl (pi_list (pe_op op_cat (pe_op op_cat (pe_lst (pa_cons (pv 5) pa_nil)) (pe_cG c__law_things hr hA (by decide) (by rfl) (pa_cons (pv 1) (pa_cons (pv 5) pa_nil)))) (pe_lst (pa_cons (pv 5) pa_nil)))) (pg_name (i := 6) sc_law.nd rfl (by first | exact Or.inl rfl | exact Or.inr rfl))
        (pss_cons (ps_set (i := 7) sc_law.nd rfl (by first | exact Or.inl rfl | exact Or.inr rfl) (pe_c c_depth_paper_holds hr (by decide) (by rfl) (pa_cons (pv 3) (pa_cons (pv 4) (pa_cons (pv 6) pa_nil)))))
      (pss_one (ps_if (PW.pt (pw_or (pt_not (pt_val (pe_callB call_isi (by rfl) T.b_isinstance (by decide +kernel) (pa_cons (pv 7) (pa_cons (pe_bltn (v := .ty "bool") (by rfl) T.b_bool (by decide +kernel) rfl) pa_nil))))) (pw_or1 (pt_cmpR op_ne (pv 7) (pe_c c__law_is_paper hr (by decide) (by rfl) (pa_cons (pv 3) (pa_cons (pv 4) (pa_cons (pv 6) pa_nil)))) (nomark _))))) (pss_one (ps_ret pe_bl)) pss_nil))))
      (pss_one (ps_if (pt_cmpR op_notBl (pe_c c_depth_paper_holds hr (by decide) (by rfl) (pa_cons (pv 3) (pa_cons (pv 4) (pa_cons (pv 5) pa_nil)))) pe_bl (nomark _)) (pss_one (ps_ret pe_bl)) pss_nil)))))))
      (pss_one (ps_ret pe_bl)))), ?_⟩
    clear hr hA
    refine ⟨_, rfl, a, ns, rfl, hS, hlen, fun W C H1 nW nC w1 s1 => ?_⟩
    have tb1 := tb.same s1
    refine ⟨_, rfl, by decide, by decide, ?_⟩
    refine for_range (lo := 0) (n := 2) (fun i σ H' => ∃ x2 x3 x4 x5 x6 x7, σ = [some (.ref a), some (.ref W), x2, x3, x4, x5, x6, x7] ∧ ∃ t, t ≤ 2000 * i ∧ Wt H' W C t ∧ Tabs Ts H') ⟨none, none, none, none, none, none, rfl, 0, Nat.le_refl _, w1, tb1⟩ ?_ ?_
    · rintro i σ H2 hi2 ⟨x2, x3, x4, x5, x6, x7, rfl, t, ht, w2, tb2⟩
      have d2 : Dkt W C t Ts H2 H2 := dkt_start w2 tb2
      refine ⟨_, rfl, W, C, 8, 6, t, rfl, w2, by omega, by decide, by decide, by decide, fun an n g o ps H6 ok _ g6 N6 k6 => ?_⟩
      have d6 := d2.draw k6
      refine ⟨_, rfl, W, C, 3, t + 200, rfl, d6.wl, by omega, by decide, by decide, fun kd H7 kd0 kd1 k7 => ?_⟩
      have d7 := d6.draw k7
      have N : NetAt H7 an n g o ps := N6.mono fun b xs e => d6.wl.tup k7 e
      obtain ⟨kx, rfl⟩ := Int.eq_ofNat_of_zero_le kd0
      obtain ⟨kw, ekw, kw2, kw4⟩ : ∃ kw : Nat, V.int (2 + ((kx : Nat) : Int)) = nV kw ∧ 2 ≤ kw ∧ kw ≤ 4 := ⟨2 + kx, congrArg V.int (by omega), by omega, by omega⟩
      refine ⟨_, _, rfl, rfl, ?_⟩
      show gName _ (V.int (2 + ((kx : Nat) : Int))) _ _ _
      rw [ekw]
      refine ⟨_, rfl, _, rfl, an, n, g, o, ps, kw, rfl, N, ok, kw2, by omega, d7.tb, fun pp H8 ds es qs a8 dl dt PI PA => ?_⟩
      have d8 := d7.aft a8
      have N8 := N.aft d7.tb a8
      have ps := PI.small ok dl dt (by omega)
      have po := PI.ok ok dl dt (by omega)
      have hold : PaperT n kw (thPap es) := (paper_ent po).mpr (PI.sh ok dl dt)
      have npp : nbP kw (thPap es) := nbP_all fun e he => by
        obtain ⟨x, hx, rfl⟩ := List.mem_map.mp he
        exact okE_ways fun xs h => by have := (ps.way x hx xs h).1; omega
      clear PI dt dl a8
      refine ⟨_, rfl, small 1, fun Y nY => ?_⟩
      have sY := Same.new (o := .lst [.ref pp]) nY
      have hY : upd H8 Y (.lst [.ref pp]) Y = some (.lst [.ref pp]) := upd_same
      have oY := d8.wl.new nY
      have d9 := d8.same sY
      have PA9 := PA.mono fun b xs e => sY _ _ e
      have N9 := N8.same sY
      generalize upd H8 Y (.lst [.ref pp]) = H9 at sY hY d9 PA9 N9 ⊢
      refine ⟨_, rfl, _, rfl, W, C, pp, kw, _, es, qs, rfl, d9.wl, by omega, PA9, ps, fun Z xs H10 k10 nZ hZ aZ lZ => ?_⟩
      have d10 := d9.draw k10
      have hY10 := k10.at_ oY hY
      have tk : ∀ b xs, H9 b = some (.tup xs) → H10 b = some (.tup xs) := fun b xs e => d9.wl.tup k10 e
      have PA10 := PA9.mono tk
      have N10 : NetAt H10 an n g o _ := N9.mono tk
      refine ⟨Y, Z, _, _, rfl, rfl, hY10, hZ, by show 1 + xs.length ≤ _; exact Nat.le_trans (show 1 + xs.length ≤ 61 by omega) (small 61), fun U nU => ?_⟩
      have sU := Same.new (o := .lst ([.ref pp] ++ xs)) nU
      have hU : upd H10 U (.lst ([.ref pp] ++ xs)) U = some (.lst ([.ref pp] ++ xs)) := upd_same
      have d11 := d10.same sU
      have aU : AllR kw (upd H10 U (.lst ([.ref pp] ++ xs))) ([.ref pp] ++ xs) := fun x hx => by
        rcases List.mem_append.mp hx with h | h
        · rw [List.mem_singleton.mp h]; exact ⟨_, PA10.rep.mono (KeepT.same sU), npp⟩
        · exact aZ.same sU x h
      have PA11 := PA10.mono fun b xs e => sU _ _ e
      have N11 := N10.same sU
      generalize upd H10 U (.lst ([.ref pp] ++ xs)) = H11 at sU hU d11 aU PA11 N11 ⊢
      refine ⟨_, rfl, small 1, fun Y2 nY2 => ?_⟩
      have sY2 := Same.new (o := .lst [.ref pp]) nY2
      refine ⟨U, Y2, _, _, rfl, rfl, sY2 _ _ hU, upd_same, by show ([V.ref pp] ++ xs).length + 1 ≤ _; rw [List.length_append]; exact Nat.le_trans (show 1 + xs.length + 1 ≤ 62 by omega) (small 62), fun F nF => ?_⟩
      have sF := sY2.trans (Same.new (o := .lst ([.ref pp] ++ xs ++ [.ref pp])) nF)
      have hF : upd (upd H11 Y2 (.lst [.ref pp])) F (.lst ([.ref pp] ++ xs ++ [.ref pp])) F = some (.lst ([.ref pp] ++ xs ++ [.ref pp])) := upd_same
      have oF := (d11.wl.same sY2).new nF
      have d18 := d11.same sF
      have aF : AllR kw (upd (upd H11 Y2 (.lst [.ref pp])) F (.lst ([.ref pp] ++ xs ++ [.ref pp]))) ([.ref pp] ++ xs ++ [.ref pp]) := (aU.same sF).push (PA11.rep.mono (KeepT.same sF)) npp
      have PA18 := PA11.mono fun b xs e => sF _ _ e
      have N18 := N11.same sF
      generalize [V.ref pp] ++ xs ++ [.ref pp] = fs at hF aF sF d18 PA18 N18 ⊢
      generalize upd (upd H11 Y2 (.lst [.ref pp])) F (.lst fs) = H18 at sF hF d18 aF PA18 N18 ⊢
      refine ⟨F, rfl, ⟨_, SqL.of hF⟩, ?_⟩
      refine for_list (K := K) (a := F) (xs := fs) (fun j σ H' => ∃ x2 x6 x7, σ = [some (.ref a), some (.ref W), x2, some (.ref an), some (nV kw), some (.ref pp), x6, x7] ∧ Dkt W C (t + 400) Ts H18 H') ⟨_, _, _, rfl, dkt_start (d18.wl.le (by omega)) d18.tb⟩ ?_ ?_ ?_
      · rintro j σ H' _ ⟨_, _, _, _, d'⟩
        exact SqL.of (dkt_lst d' d18.tb oF hF)
      · rintro j x σ H19 hx ⟨x2, x6, x7, rfl, d'⟩
        obtain ⟨tx, rx, nx⟩ := aF x (List.mem_of_getElem? hx)
        have rx19 := rx.keepR (dkt_keepR d' d18.wl d18.tb)
        have N19 : NetAt H19 an n g o _ := N18.mono fun b xs e => dkt_tup d18.wl d18.tb d' e
        refine ⟨_, rfl, _, rfl, _, rfl, an, n, g, o, _, kw, x, tx, rfl, N19, ok, rx19, by omega, d'.tb, fun b H20 hb a20 => ?_⟩
        have N20 := N19.aft d'.tb a20
        have rx20 := rx19.mono (KeepT.aft d'.tb a20)
        have d20 := d'.aft a20
        refine ⟨_, rfl, _, _, _, _, true, rfl, .ty "bool", tyx (.bl _), kit_ty (kBool_ok (.bl _)), _, rfl, iteF ?_⟩
        refine ⟨_, rfl, _, rfl, _, rfl, _, rfl, an, n, g, o, _, kw, x, tx, rfl, N20, ok, rx20, nx, by omega, fun b2 H21 hb2 s21 => ⟨rfl, _, rfl, ?_⟩⟩
        obtain rfl : b = b2 := Bool.eq_iff_iff.mpr (hb.trans hb2.symm)
        rw [decide_eq_true rfl]
        exact iteF ⟨_, _, _, rfl, d20.same s21⟩
      · rintro σ H19 ⟨x2, x6, x7, rfl, d'⟩
        have N19 : NetAt H19 an n g o _ := N18.mono fun b xs e => dkt_tup d18.wl d18.tb d' e
        have PA19 := PA18.mono fun b xs e => dkt_tup d18.wl d18.tb d' e
        refine ⟨_, rfl, _, rfl, _, rfl, an, n, g, o, _, kw, .ref pp, thPap es, rfl, N19, ok, PA19.rep, by omega, d'.tb, fun b H20 hb a20 => ?_⟩
        obtain rfl : b = true := hb.mpr hold
        have d20 := d'.aft a20
        refine ⟨true, true, rfl, rfl, _, rfl, iteF ?_⟩
        exact ⟨_, _, _, _, _, _, rfl, _, by omega, d20.wl, d20.tb⟩
    · rintro σ H2 _
      exact q H2
end
end K26
set_option Elab.async false
set_option linter.all false
set_option maxRecDepth 100000
set_option maxHeartbeats 4000000
set_option Elab.async false
set_option linter.all false
set_option maxRecDepth 100000
set_option maxHeartbeats 4000000
namespace K26
open PySem PySem.Spec PyProof.Rows L2 GX
open C8 (Cal pe_c pe_gc)
/-! ### what the top has written -/
theorem all_mk {l : PySem.W.OpenLaw} {w : World} {K : PySem.W.Frag} {h : Heap} {mg : Str → Option Value} {fa : Addr} (X : K.In h) (G : h.Ns mainGlobals mg) (hfa : mg "law" = some (.ref fa))
    {f0 c0 : Addr} {od0 an0 : Option Addr} {sl0 : Array (Option Value)} {oc0 kV0 dc0 pm0 ct0 : Value}
    (a0 : PySem.W.nsIn K mainGlobals "is_whole" = some (some (.ref f0))) (l0 : K.lookup f0 = some ⟨oc0, od0, .func (PySem.W.fnOf "is_whole" "is_whole" (defArgs s_is_whole) (defBody s_is_whole) (defScope s_is_whole) .none kV0 dc0 pm0 an0 (.ref c0) ct0), sl0⟩) (e0 : PySem.W.codeIn K (.ref c0) "is_whole" = true) (k0 : PySem.W.keepIn K (.ref f0) = true)
    {f1 c1 : Addr} {od1 an1 : Option Addr} {sl1 : Array (Option Value)} {oc1 kV1 dc1 pm1 ct1 : Value}
    (a1 : PySem.W.nsIn K mainGlobals "is_below" = some (some (.ref f1))) (l1 : K.lookup f1 = some ⟨oc1, od1, .func (PySem.W.fnOf "is_below" "is_below" (defArgs s_is_below) (defBody s_is_below) (defScope s_is_below) .none kV1 dc1 pm1 an1 (.ref c1) ct1), sl1⟩) (e1 : PySem.W.codeIn K (.ref c1) "is_below" = true) (k1 : PySem.W.keepIn K (.ref f1) = true)
    {f2 c2 : Addr} {od2 an2 : Option Addr} {sl2 : Array (Option Value)} {oc2 kV2 dc2 pm2 ct2 : Value}
    (a2 : PySem.W.nsIn K mainGlobals "wires_in" = some (some (.ref f2))) (l2 : K.lookup f2 = some ⟨oc2, od2, .func (PySem.W.fnOf "wires_in" "wires_in" (defArgs s_wires_in) (defBody s_wires_in) (defScope s_wires_in) .none kV2 dc2 pm2 an2 (.ref c2) ct2), sl2⟩) (e2 : PySem.W.codeIn K (.ref c2) "wires_in" = true) (k2 : PySem.W.keepIn K (.ref f2) = true)
    {f3 c3 : Addr} {od3 an3 : Option Addr} {sl3 : Array (Option Value)} {oc3 kV3 dc3 pm3 ct3 : Value}
    (a3 : PySem.W.nsIn K mainGlobals "places" = some (some (.ref f3))) (l3 : K.lookup f3 = some ⟨oc3, od3, .func (PySem.W.fnOf "places" "places" (defArgs s_places) (defBody s_places) (defScope s_places) .none kV3 dc3 pm3 an3 (.ref c3) ct3), sl3⟩) (e3 : PySem.W.codeIn K (.ref c3) "places" = true) (k3 : PySem.W.keepIn K (.ref f3) = true)
    {f4 c4 : Addr} {od4 an4 : Option Addr} {sl4 : Array (Option Value)} {oc4 kV4 dc4 pm4 ct4 : Value}
    (a4 : PySem.W.nsIn K mainGlobals "is_step" = some (some (.ref f4))) (l4 : K.lookup f4 = some ⟨oc4, od4, .func (PySem.W.fnOf "is_step" "is_step" (defArgs s_is_step) (defBody s_is_step) (defScope s_is_step) .none kV4 dc4 pm4 an4 (.ref c4) ct4), sl4⟩) (e4 : PySem.W.codeIn K (.ref c4) "is_step" = true) (k4 : PySem.W.keepIn K (.ref f4) = true)
    {f5 c5 : Addr} {od5 an5 : Option Addr} {sl5 : Array (Option Value)} {oc5 kV5 dc5 pm5 ct5 : Value}
    (a5 : PySem.W.nsIn K mainGlobals "is_way" = some (some (.ref f5))) (l5 : K.lookup f5 = some ⟨oc5, od5, .func (PySem.W.fnOf "is_way" "is_way" (defArgs s_is_way) (defBody s_is_way) (defScope s_is_way) .none kV5 dc5 pm5 an5 (.ref c5) ct5), sl5⟩) (e5 : PySem.W.codeIn K (.ref c5) "is_way" = true) (k5 : PySem.W.keepIn K (.ref f5) = true)
    {P5 : Addr} {dd5 : Option Addr} {vs5 : Array Value} {ls5 : Array (Option Value)} {fl5 : Str} {tf5 tg5 tt5 : Tok} {fg5 tx5 : Int} {iF5 : Bool}
    (o5 : K.lookup c5 = some ⟨.type "code", dd5, .fields vs5, ls5⟩) (h5 : vs5[11]? = some (.ref P5) ∧ vs5.getD 11 .none = .ref P5 ∧ vs5.getD 18 .none = .str fl5 tf5 ∧ vs5.getD 7 .none = .int fg5 tg5 ∧ vs5.getD 9 .none = .bool iF5 ∧ vs5.getD 10 .none = .int tx5 tt5 ∧ c5 ≠ P5) (n5 : K.lookup P5 = none) (y5 : TabOf K mg h "is_way")
    {f6 c6 : Addr} {od6 an6 : Option Addr} {sl6 : Array (Option Value)} {oc6 kV6 dc6 pm6 ct6 : Value}
    (a6 : PySem.W.nsIn K mainGlobals "reached" = some (some (.ref f6))) (l6 : K.lookup f6 = some ⟨oc6, od6, .func (PySem.W.fnOf "reached" "reached" (defArgs s_reached) (defBody s_reached) (defScope s_reached) .none kV6 dc6 pm6 an6 (.ref c6) ct6), sl6⟩) (e6 : PySem.W.codeIn K (.ref c6) "reached" = true) (k6 : PySem.W.keepIn K (.ref f6) = true)
    {P6 : Addr} {dd6 : Option Addr} {vs6 : Array Value} {ls6 : Array (Option Value)} {fl6 : Str} {tf6 tg6 tt6 : Tok} {fg6 tx6 : Int} {iF6 : Bool}
    (o6 : K.lookup c6 = some ⟨.type "code", dd6, .fields vs6, ls6⟩) (h6 : vs6[11]? = some (.ref P6) ∧ vs6.getD 11 .none = .ref P6 ∧ vs6.getD 18 .none = .str fl6 tf6 ∧ vs6.getD 7 .none = .int fg6 tg6 ∧ vs6.getD 9 .none = .bool iF6 ∧ vs6.getD 10 .none = .int tx6 tt6 ∧ c6 ≠ P6) (n6 : K.lookup P6 = none) (y6 : TabOf K mg h "reached")
    {f7 c7 : Addr} {od7 an7 : Option Addr} {sl7 : Array (Option Value)} {oc7 kV7 dc7 pm7 ct7 : Value}
    (a7 : PySem.W.nsIn K mainGlobals "cone" = some (some (.ref f7))) (l7 : K.lookup f7 = some ⟨oc7, od7, .func (PySem.W.fnOf "cone" "cone" (defArgs s_cone) (defBody s_cone) (defScope s_cone) .none kV7 dc7 pm7 an7 (.ref c7) ct7), sl7⟩) (e7 : PySem.W.codeIn K (.ref c7) "cone" = true) (k7 : PySem.W.keepIn K (.ref f7) = true)
    {f8 c8 : Addr} {od8 an8 : Option Addr} {sl8 : Array (Option Value)} {oc8 kV8 dc8 pm8 ct8 : Value}
    (a8 : PySem.W.nsIn K mainGlobals "is_entry" = some (some (.ref f8))) (l8 : K.lookup f8 = some ⟨oc8, od8, .func (PySem.W.fnOf "is_entry" "is_entry" (defArgs s_is_entry) (defBody s_is_entry) (defScope s_is_entry) .none kV8 dc8 pm8 an8 (.ref c8) ct8), sl8⟩) (e8 : PySem.W.codeIn K (.ref c8) "is_entry" = true) (k8 : PySem.W.keepIn K (.ref f8) = true)
    {f9 c9 : Addr} {od9 an9 : Option Addr} {sl9 : Array (Option Value)} {oc9 kV9 dc9 pm9 ct9 : Value}
    (a9 : PySem.W.nsIn K mainGlobals "are_entries" = some (some (.ref f9))) (l9 : K.lookup f9 = some ⟨oc9, od9, .func (PySem.W.fnOf "are_entries" "are_entries" (defArgs s_are_entries) (defBody s_are_entries) (defScope s_are_entries) .none kV9 dc9 pm9 an9 (.ref c9) ct9), sl9⟩) (e9 : PySem.W.codeIn K (.ref c9) "are_entries" = true) (k9 : PySem.W.keepIn K (.ref f9) = true)
    {P9 : Addr} {dd9 : Option Addr} {vs9 : Array Value} {ls9 : Array (Option Value)} {fl9 : Str} {tf9 tg9 tt9 : Tok} {fg9 tx9 : Int} {iF9 : Bool}
    (o9 : K.lookup c9 = some ⟨.type "code", dd9, .fields vs9, ls9⟩) (h9 : vs9[11]? = some (.ref P9) ∧ vs9.getD 11 .none = .ref P9 ∧ vs9.getD 18 .none = .str fl9 tf9 ∧ vs9.getD 7 .none = .int fg9 tg9 ∧ vs9.getD 9 .none = .bool iF9 ∧ vs9.getD 10 .none = .int tx9 tt9 ∧ c9 ≠ P9) (n9 : K.lookup P9 = none) (y9 : TabOf K mg h "are_entries")
    {f10 c10 : Addr} {od10 an10 : Option Addr} {sl10 : Array (Option Value)} {oc10 kV10 dc10 pm10 ct10 : Value}
    (a10 : PySem.W.nsIn K mainGlobals "are_apart" = some (some (.ref f10))) (l10 : K.lookup f10 = some ⟨oc10, od10, .func (PySem.W.fnOf "are_apart" "are_apart" (defArgs s_are_apart) (defBody s_are_apart) (defScope s_are_apart) .none kV10 dc10 pm10 an10 (.ref c10) ct10), sl10⟩) (e10 : PySem.W.codeIn K (.ref c10) "are_apart" = true) (k10 : PySem.W.keepIn K (.ref f10) = true)
    {P10 : Addr} {dd10 : Option Addr} {vs10 : Array Value} {ls10 : Array (Option Value)} {fl10 : Str} {tf10 tg10 tt10 : Tok} {fg10 tx10 : Int} {iF10 : Bool}
    (o10 : K.lookup c10 = some ⟨.type "code", dd10, .fields vs10, ls10⟩) (h10 : vs10[11]? = some (.ref P10) ∧ vs10.getD 11 .none = .ref P10 ∧ vs10.getD 18 .none = .str fl10 tf10 ∧ vs10.getD 7 .none = .int fg10 tg10 ∧ vs10.getD 9 .none = .bool iF10 ∧ vs10.getD 10 .none = .int tx10 tt10 ∧ c10 ≠ P10) (n10 : K.lookup P10 = none) (y10 : TabOf K mg h "are_apart")
    {f11 c11 : Addr} {od11 an11 : Option Addr} {sl11 : Array (Option Value)} {oc11 kV11 dc11 pm11 ct11 : Value}
    (a11 : PySem.W.nsIn K mainGlobals "shows_label" = some (some (.ref f11))) (l11 : K.lookup f11 = some ⟨oc11, od11, .func (PySem.W.fnOf "shows_label" "shows_label" (defArgs s_shows_label) (defBody s_shows_label) (defScope s_shows_label) .none kV11 dc11 pm11 an11 (.ref c11) ct11), sl11⟩) (e11 : PySem.W.codeIn K (.ref c11) "shows_label" = true) (k11 : PySem.W.keepIn K (.ref f11) = true)
    {P11 : Addr} {dd11 : Option Addr} {vs11 : Array Value} {ls11 : Array (Option Value)} {fl11 : Str} {tf11 tg11 tt11 : Tok} {fg11 tx11 : Int} {iF11 : Bool}
    (o11 : K.lookup c11 = some ⟨.type "code", dd11, .fields vs11, ls11⟩) (h11 : vs11[11]? = some (.ref P11) ∧ vs11.getD 11 .none = .ref P11 ∧ vs11.getD 18 .none = .str fl11 tf11 ∧ vs11.getD 7 .none = .int fg11 tg11 ∧ vs11.getD 9 .none = .bool iF11 ∧ vs11.getD 10 .none = .int tx11 tt11 ∧ c11 ≠ P11) (n11 : K.lookup P11 = none) (y11 : TabOf K mg h "shows_label")
    {f12 c12 : Addr} {od12 an12 : Option Addr} {sl12 : Array (Option Value)} {oc12 kV12 dc12 pm12 ct12 : Value}
    (a12 : PySem.W.nsIn K mainGlobals "depth_paper_holds" = some (some (.ref f12))) (l12 : K.lookup f12 = some ⟨oc12, od12, .func (PySem.W.fnOf "depth_paper_holds" "depth_paper_holds" (defArgs s_depth_paper_holds) (defBody s_depth_paper_holds) (defScope s_depth_paper_holds) .none kV12 dc12 pm12 an12 (.ref c12) ct12), sl12⟩) (e12 : PySem.W.codeIn K (.ref c12) "depth_paper_holds" = true) (k12 : PySem.W.keepIn K (.ref f12) = true)
    {P12 : Addr} {dd12 : Option Addr} {vs12 : Array Value} {ls12 : Array (Option Value)} {fl12 : Str} {tf12 tg12 tt12 : Tok} {fg12 tx12 : Int} {iF12 : Bool}
    (o12 : K.lookup c12 = some ⟨.type "code", dd12, .fields vs12, ls12⟩) (h12 : vs12[11]? = some (.ref P12) ∧ vs12.getD 11 .none = .ref P12 ∧ vs12.getD 18 .none = .str fl12 tf12 ∧ vs12.getD 7 .none = .int fg12 tg12 ∧ vs12.getD 9 .none = .bool iF12 ∧ vs12.getD 10 .none = .int tx12 tt12 ∧ c12 ≠ P12) (n12 : K.lookup P12 = none) (y12 : TabOf K mg h "depth_paper_holds")
    {f13 c13 : Addr} {od13 an13 : Option Addr} {sl13 : Array (Option Value)} {oc13 kV13 dc13 pm13 ct13 : Value}
    (a13 : PySem.W.nsIn K mainGlobals "wires_of" = some (some (.ref f13))) (l13 : K.lookup f13 = some ⟨oc13, od13, .func (PySem.W.fnOf "wires_of" "wires_of" (defArgs s_wires_of) (defBody s_wires_of) (defScope s_wires_of) .none kV13 dc13 pm13 an13 (.ref c13) ct13), sl13⟩) (e13 : PySem.W.codeIn K (.ref c13) "wires_of" = true) (k13 : PySem.W.keepIn K (.ref f13) = true)
    {P13 : Addr} {dd13 : Option Addr} {vs13 : Array Value} {ls13 : Array (Option Value)} {fl13 : Str} {tf13 tg13 tt13 : Tok} {fg13 tx13 : Int} {iF13 : Bool}
    (o13 : K.lookup c13 = some ⟨.type "code", dd13, .fields vs13, ls13⟩) (h13 : vs13[11]? = some (.ref P13) ∧ vs13.getD 11 .none = .ref P13 ∧ vs13.getD 18 .none = .str fl13 tf13 ∧ vs13.getD 7 .none = .int fg13 tg13 ∧ vs13.getD 9 .none = .bool iF13 ∧ vs13.getD 10 .none = .int tx13 tt13 ∧ c13 ≠ P13) (n13 : K.lookup P13 = none) (y13 : TabOf K mg h "wires_of")
    {f14 c14 : Addr} {od14 an14 : Option Addr} {sl14 : Array (Option Value)} {oc14 kV14 dc14 pm14 ct14 : Value}
    (a14 : PySem.W.nsIn K mainGlobals "fits" = some (some (.ref f14))) (l14 : K.lookup f14 = some ⟨oc14, od14, .func (PySem.W.fnOf "fits" "fits" (defArgs s_fits) (defBody s_fits) (defScope s_fits) .none kV14 dc14 pm14 an14 (.ref c14) ct14), sl14⟩) (e14 : PySem.W.codeIn K (.ref c14) "fits" = true) (k14 : PySem.W.keepIn K (.ref f14) = true)
    {f15 c15 : Addr} {od15 an15 : Option Addr} {sl15 : Array (Option Value)} {oc15 kV15 dc15 pm15 ct15 : Value}
    (a15 : PySem.W.nsIn K mainGlobals "has_part" = some (some (.ref f15))) (l15 : K.lookup f15 = some ⟨oc15, od15, .func (PySem.W.fnOf "has_part" "has_part" (defArgs s_has_part) (defBody s_has_part) (defScope s_has_part) .none kV15 dc15 pm15 an15 (.ref c15) ct15), sl15⟩) (e15 : PySem.W.codeIn K (.ref c15) "has_part" = true) (k15 : PySem.W.keepIn K (.ref f15) = true)
    {f16 c16 : Addr} {od16 an16 : Option Addr} {sl16 : Array (Option Value)} {oc16 kV16 dc16 pm16 ct16 : Value}
    (a16 : PySem.W.nsIn K mainGlobals "gate_masks" = some (some (.ref f16))) (l16 : K.lookup f16 = some ⟨oc16, od16, .func (PySem.W.fnOf "gate_masks" "gate_masks" (defArgs s_gate_masks) (defBody s_gate_masks) (defScope s_gate_masks) .none kV16 dc16 pm16 an16 (.ref c16) ct16), sl16⟩) (e16 : PySem.W.codeIn K (.ref c16) "gate_masks" = true) (k16 : PySem.W.keepIn K (.ref f16) = true)
    {f17 c17 : Addr} {od17 an17 : Option Addr} {sl17 : Array (Option Value)} {oc17 kV17 dc17 pm17 ct17 : Value}
    (a17 : PySem.W.nsIn K mainGlobals "cut_masks" = some (some (.ref f17))) (l17 : K.lookup f17 = some ⟨oc17, od17, .func (PySem.W.fnOf "cut_masks" "cut_masks" (defArgs s_cut_masks) (defBody s_cut_masks) (defScope s_cut_masks) .none kV17 dc17 pm17 an17 (.ref c17) ct17), sl17⟩) (e17 : PySem.W.codeIn K (.ref c17) "cut_masks" = true) (k17 : PySem.W.keepIn K (.ref f17) = true)
    {f18 c18 : Addr} {od18 an18 : Option Addr} {sl18 : Array (Option Value)} {oc18 kV18 dc18 pm18 ct18 : Value}
    (a18 : PySem.W.nsIn K mainGlobals "told_cuts" = some (some (.ref f18))) (l18 : K.lookup f18 = some ⟨oc18, od18, .func (PySem.W.fnOf "told_cuts" "told_cuts" (defArgs s_told_cuts) (defBody s_told_cuts) (defScope s_told_cuts) .none kV18 dc18 pm18 an18 (.ref c18) ct18), sl18⟩) (e18 : PySem.W.codeIn K (.ref c18) "told_cuts" = true) (k18 : PySem.W.keepIn K (.ref f18) = true)
    {f19 c19 : Addr} {od19 an19 : Option Addr} {sl19 : Array (Option Value)} {oc19 kV19 dc19 pm19 ct19 : Value}
    (a19 : PySem.W.nsIn K mainGlobals "all_cuts" = some (some (.ref f19))) (l19 : K.lookup f19 = some ⟨oc19, od19, .func (PySem.W.fnOf "all_cuts" "all_cuts" (defArgs s_all_cuts) (defBody s_all_cuts) (defScope s_all_cuts) .none kV19 dc19 pm19 an19 (.ref c19) ct19), sl19⟩) (e19 : PySem.W.codeIn K (.ref c19) "all_cuts" = true) (k19 : PySem.W.keepIn K (.ref f19) = true)
    {P19 : Addr} {dd19 : Option Addr} {vs19 : Array Value} {ls19 : Array (Option Value)} {fl19 : Str} {tf19 tg19 tt19 : Tok} {fg19 tx19 : Int} {iF19 : Bool}
    (o19 : K.lookup c19 = some ⟨.type "code", dd19, .fields vs19, ls19⟩) (h19 : vs19[11]? = some (.ref P19) ∧ vs19.getD 11 .none = .ref P19 ∧ vs19.getD 18 .none = .str fl19 tf19 ∧ vs19.getD 7 .none = .int fg19 tg19 ∧ vs19.getD 9 .none = .bool iF19 ∧ vs19.getD 10 .none = .int tx19 tt19 ∧ c19 ≠ P19) (n19 : K.lookup P19 = none) (y19 : TabOf K mg h "all_cuts")
    {f20 c20 : Addr} {od20 an20 : Option Addr} {sl20 : Array (Option Value)} {oc20 kV20 dc20 pm20 ct20 : Value}
    (a20 : PySem.W.nsIn K mainGlobals "one_deeper" = some (some (.ref f20))) (l20 : K.lookup f20 = some ⟨oc20, od20, .func (PySem.W.fnOf "one_deeper" "one_deeper" (defArgs s_one_deeper) (defBody s_one_deeper) (defScope s_one_deeper) .none kV20 dc20 pm20 an20 (.ref c20) ct20), sl20⟩) (e20 : PySem.W.codeIn K (.ref c20) "one_deeper" = true) (k20 : PySem.W.keepIn K (.ref f20) = true)
    {f21 c21 : Addr} {od21 an21 : Option Addr} {sl21 : Array (Option Value)} {oc21 kV21 dc21 pm21 ct21 : Value}
    (a21 : PySem.W.nsIn K mainGlobals "depths_by" = some (some (.ref f21))) (l21 : K.lookup f21 = some ⟨oc21, od21, .func (PySem.W.fnOf "depths_by" "depths_by" (defArgs s_depths_by) (defBody s_depths_by) (defScope s_depths_by) .none kV21 dc21 pm21 an21 (.ref c21) ct21), sl21⟩) (e21 : PySem.W.codeIn K (.ref c21) "depths_by" = true) (k21 : PySem.W.keepIn K (.ref f21) = true)
    {f22 c22 : Addr} {od22 an22 : Option Addr} {sl22 : Array (Option Value)} {oc22 kV22 dc22 pm22 ct22 : Value}
    (a22 : PySem.W.nsIn K mainGlobals "depths" = some (some (.ref f22))) (l22 : K.lookup f22 = some ⟨oc22, od22, .func (PySem.W.fnOf "depths" "depths" (defArgs s_depths) (defBody s_depths) (defScope s_depths) .none kV22 dc22 pm22 an22 (.ref c22) ct22), sl22⟩) (e22 : PySem.W.codeIn K (.ref c22) "depths" = true) (k22 : PySem.W.keepIn K (.ref f22) = true)
    {f23 c23 : Addr} {od23 an23 : Option Addr} {sl23 : Array (Option Value)} {oc23 kV23 dc23 pm23 ct23 : Value}
    (a23 : PySem.W.nsIn K mainGlobals "inlet" = some (some (.ref f23))) (l23 : K.lookup f23 = some ⟨oc23, od23, .func (PySem.W.fnOf "inlet" "inlet" (defArgs s_inlet) (defBody s_inlet) (defScope s_inlet) .none kV23 dc23 pm23 an23 (.ref c23) ct23), sl23⟩) (e23 : PySem.W.codeIn K (.ref c23) "inlet" = true) (k23 : PySem.W.keepIn K (.ref f23) = true)
    {f24 c24 : Addr} {od24 an24 : Option Addr} {sl24 : Array (Option Value)} {oc24 kV24 dc24 pm24 ct24 : Value}
    (a24 : PySem.W.nsIn K mainGlobals "outlet" = some (some (.ref f24))) (l24 : K.lookup f24 = some ⟨oc24, od24, .func (PySem.W.fnOf "outlet" "outlet" (defArgs s_outlet) (defBody s_outlet) (defScope s_outlet) .none kV24 dc24 pm24 an24 (.ref c24) ct24), sl24⟩) (e24 : PySem.W.codeIn K (.ref c24) "outlet" = true) (k24 : PySem.W.keepIn K (.ref f24) = true)
    {f25 c25 : Addr} {od25 an25 : Option Addr} {sl25 : Array (Option Value)} {oc25 kV25 dc25 pm25 ct25 : Value}
    (a25 : PySem.W.nsIn K mainGlobals "link" = some (some (.ref f25))) (l25 : K.lookup f25 = some ⟨oc25, od25, .func (PySem.W.fnOf "link" "link" (defArgs s_link) (defBody s_link) (defScope s_link) .none kV25 dc25 pm25 an25 (.ref c25) ct25), sl25⟩) (e25 : PySem.W.codeIn K (.ref c25) "link" = true) (k25 : PySem.W.keepIn K (.ref f25) = true)
    {f26 c26 : Addr} {od26 an26 : Option Addr} {sl26 : Array (Option Value)} {oc26 kV26 dc26 pm26 ct26 : Value}
    (a26 : PySem.W.nsIn K mainGlobals "make_rooms" = some (some (.ref f26))) (l26 : K.lookup f26 = some ⟨oc26, od26, .func (PySem.W.fnOf "make_rooms" "make_rooms" (defArgs s_make_rooms) (defBody s_make_rooms) (defScope s_make_rooms) .none kV26 dc26 pm26 an26 (.ref c26) ct26), sl26⟩) (e26 : PySem.W.codeIn K (.ref c26) "make_rooms" = true) (k26 : PySem.W.keepIn K (.ref f26) = true)
    {f27 c27 : Addr} {od27 an27 : Option Addr} {sl27 : Array (Option Value)} {oc27 kV27 dc27 pm27 ct27 : Value}
    (a27 : PySem.W.nsIn K mainGlobals "nodes_ahead" = some (some (.ref f27))) (l27 : K.lookup f27 = some ⟨oc27, od27, .func (PySem.W.fnOf "nodes_ahead" "nodes_ahead" (defArgs s_nodes_ahead) (defBody s_nodes_ahead) (defScope s_nodes_ahead) .none kV27 dc27 pm27 an27 (.ref c27) ct27), sl27⟩) (e27 : PySem.W.codeIn K (.ref c27) "nodes_ahead" = true) (k27 : PySem.W.keepIn K (.ref f27) = true)
    {f28 c28 : Addr} {od28 an28 : Option Addr} {sl28 : Array (Option Value)} {oc28 kV28 dc28 pm28 ct28 : Value}
    (a28 : PySem.W.nsIn K mainGlobals "push_one" = some (some (.ref f28))) (l28 : K.lookup f28 = some ⟨oc28, od28, .func (PySem.W.fnOf "push_one" "push_one" (defArgs s_push_one) (defBody s_push_one) (defScope s_push_one) .none kV28 dc28 pm28 an28 (.ref c28) ct28), sl28⟩) (e28 : PySem.W.codeIn K (.ref c28) "push_one" = true) (k28 : PySem.W.keepIn K (.ref f28) = true)
    {f29 c29 : Addr} {od29 an29 : Option Addr} {sl29 : Array (Option Value)} {oc29 kV29 dc29 pm29 ct29 : Value}
    (a29 : PySem.W.nsIn K mainGlobals "draw_way" = some (some (.ref f29))) (l29 : K.lookup f29 = some ⟨oc29, od29, .func (PySem.W.fnOf "draw_way" "draw_way" (defArgs s_draw_way) (defBody s_draw_way) (defScope s_draw_way) .none kV29 dc29 pm29 an29 (.ref c29) ct29), sl29⟩) (e29 : PySem.W.codeIn K (.ref c29) "draw_way" = true) (k29 : PySem.W.keepIn K (.ref f29) = true)
    {f30 c30 : Addr} {od30 an30 : Option Addr} {sl30 : Array (Option Value)} {oc30 kV30 dc30 pm30 ct30 : Value}
    (a30 : PySem.W.nsIn K mainGlobals "apart_ways" = some (some (.ref f30))) (l30 : K.lookup f30 = some ⟨oc30, od30, .func (PySem.W.fnOf "apart_ways" "apart_ways" (defArgs s_apart_ways) (defBody s_apart_ways) (defScope s_apart_ways) .none kV30 dc30 pm30 an30 (.ref c30) ct30), sl30⟩) (e30 : PySem.W.codeIn K (.ref c30) "apart_ways" = true) (k30 : PySem.W.keepIn K (.ref f30) = true)
    {f31 c31 : Addr} {od31 an31 : Option Addr} {sl31 : Array (Option Value)} {oc31 kV31 dc31 pm31 ct31 : Value}
    (a31 : PySem.W.nsIn K mainGlobals "gate_paper" = some (some (.ref f31))) (l31 : K.lookup f31 = some ⟨oc31, od31, .func (PySem.W.fnOf "gate_paper" "gate_paper" (defArgs s_gate_paper) (defBody s_gate_paper) (defScope s_gate_paper) .none kV31 dc31 pm31 an31 (.ref c31) ct31), sl31⟩) (e31 : PySem.W.codeIn K (.ref c31) "gate_paper" = true) (k31 : PySem.W.keepIn K (.ref f31) = true)
    {f32 c32 : Addr} {od32 an32 : Option Addr} {sl32 : Array (Option Value)} {oc32 kV32 dc32 pm32 ct32 : Value}
    (a32 : PySem.W.nsIn K mainGlobals "depth_paper" = some (some (.ref f32))) (l32 : K.lookup f32 = some ⟨oc32, od32, .func (PySem.W.fnOf "depth_paper" "depth_paper" (defArgs s_depth_paper) (defBody s_depth_paper) (defScope s_depth_paper) .none kV32 dc32 pm32 an32 (.ref c32) ct32), sl32⟩) (e32 : PySem.W.codeIn K (.ref c32) "depth_paper" = true) (k32 : PySem.W.keepIn K (.ref f32) = true)
    {P32 : Addr} {dd32 : Option Addr} {vs32 : Array Value} {ls32 : Array (Option Value)} {fl32 : Str} {tf32 tg32 tt32 : Tok} {fg32 tx32 : Int} {iF32 : Bool}
    (o32 : K.lookup c32 = some ⟨.type "code", dd32, .fields vs32, ls32⟩) (h32 : vs32[11]? = some (.ref P32) ∧ vs32.getD 11 .none = .ref P32 ∧ vs32.getD 18 .none = .str fl32 tf32 ∧ vs32.getD 7 .none = .int fg32 tg32 ∧ vs32.getD 9 .none = .bool iF32 ∧ vs32.getD 10 .none = .int tx32 tt32 ∧ c32 ≠ P32) (n32 : K.lookup P32 = none) (y32 : TabOf K mg h "depth_paper")
    {f33 c33 : Addr} {od33 an33 : Option Addr} {sl33 : Array (Option Value)} {oc33 kV33 dc33 pm33 ct33 : Value}
    (a33 : PySem.W.nsIn K mainGlobals "_law_deck" = some (some (.ref f33))) (l33 : K.lookup f33 = some ⟨oc33, od33, .func (PySem.W.fnOf "_law_deck" "_law_deck" (defArgs s__law_deck) (defBody s__law_deck) (defScope s__law_deck) .none kV33 dc33 pm33 an33 (.ref c33) ct33), sl33⟩) (e33 : PySem.W.codeIn K (.ref c33) "_law_deck" = true) (k33 : PySem.W.keepIn K (.ref f33) = true)
    {f34 c34 : Addr} {od34 an34 : Option Addr} {sl34 : Array (Option Value)} {oc34 kV34 dc34 pm34 ct34 : Value}
    (a34 : PySem.W.nsIn K mainGlobals "_law_draw" = some (some (.ref f34))) (l34 : K.lookup f34 = some ⟨oc34, od34, .func (PySem.W.fnOf "_law_draw" "_law_draw" (defArgs s__law_draw) (defBody s__law_draw) (defScope s__law_draw) .none kV34 dc34 pm34 an34 (.ref c34) ct34), sl34⟩) (e34 : PySem.W.codeIn K (.ref c34) "_law_draw" = true) (k34 : PySem.W.keepIn K (.ref f34) = true)
    {f35 c35 : Addr} {od35 an35 : Option Addr} {sl35 : Array (Option Value)} {oc35 kV35 dc35 pm35 ct35 : Value}
    (a35 : PySem.W.nsIn K mainGlobals "_law_gate" = some (some (.ref f35))) (l35 : K.lookup f35 = some ⟨oc35, od35, .func (PySem.W.fnOf "_law_gate" "_law_gate" (defArgs s__law_gate) (defBody s__law_gate) (defScope s__law_gate) .none kV35 dc35 pm35 an35 (.ref c35) ct35), sl35⟩) (e35 : PySem.W.codeIn K (.ref c35) "_law_gate" = true) (k35 : PySem.W.keepIn K (.ref f35) = true)
    {f36 c36 : Addr} {od36 an36 : Option Addr} {sl36 : Array (Option Value)} {oc36 kV36 dc36 pm36 ct36 : Value}
    (a36 : PySem.W.nsIn K mainGlobals "_law_net" = some (some (.ref f36))) (l36 : K.lookup f36 = some ⟨oc36, od36, .func (PySem.W.fnOf "_law_net" "_law_net" (defArgs s__law_net) (defBody s__law_net) (defScope s__law_net) .none kV36 dc36 pm36 an36 (.ref c36) ct36), sl36⟩) (e36 : PySem.W.codeIn K (.ref c36) "_law_net" = true) (k36 : PySem.W.keepIn K (.ref f36) = true)
    {f37 c37 : Addr} {od37 an37 : Option Addr} {sl37 : Array (Option Value)} {oc37 kV37 dc37 pm37 ct37 : Value}
    (a37 : PySem.W.nsIn K mainGlobals "_law_is_way" = some (some (.ref f37))) (l37 : K.lookup f37 = some ⟨oc37, od37, .func (PySem.W.fnOf "_law_is_way" "_law_is_way" (defArgs s__law_is_way) (defBody s__law_is_way) (defScope s__law_is_way) .none kV37 dc37 pm37 an37 (.ref c37) ct37), sl37⟩) (e37 : PySem.W.codeIn K (.ref c37) "_law_is_way" = true) (k37 : PySem.W.keepIn K (.ref f37) = true)
    {f38 c38 : Addr} {od38 an38 : Option Addr} {sl38 : Array (Option Value)} {oc38 kV38 dc38 pm38 ct38 : Value}
    (a38 : PySem.W.nsIn K mainGlobals "_law_is_paper" = some (some (.ref f38))) (l38 : K.lookup f38 = some ⟨oc38, od38, .func (PySem.W.fnOf "_law_is_paper" "_law_is_paper" (defArgs s__law_is_paper) (defBody s__law_is_paper) (defScope s__law_is_paper) .none kV38 dc38 pm38 an38 (.ref c38) ct38), sl38⟩) (e38 : PySem.W.codeIn K (.ref c38) "_law_is_paper" = true) (k38 : PySem.W.keepIn K (.ref f38) = true)
    {f39 c39 : Addr} {od39 an39 : Option Addr} {sl39 : Array (Option Value)} {oc39 kV39 dc39 pm39 ct39 : Value}
    (a39 : PySem.W.nsIn K mainGlobals "_law_is_entry" = some (some (.ref f39))) (l39 : K.lookup f39 = some ⟨oc39, od39, .func (PySem.W.fnOf "_law_is_entry" "_law_is_entry" (defArgs s__law_is_entry) (defBody s__law_is_entry) (defScope s__law_is_entry) .none kV39 dc39 pm39 an39 (.ref c39) ct39), sl39⟩) (e39 : PySem.W.codeIn K (.ref c39) "_law_is_entry" = true) (k39 : PySem.W.keepIn K (.ref f39) = true)
    {f40 c40 : Addr} {od40 an40 : Option Addr} {sl40 : Array (Option Value)} {oc40 kV40 dc40 pm40 ct40 : Value}
    (a40 : PySem.W.nsIn K mainGlobals "_law_deep" = some (some (.ref f40))) (l40 : K.lookup f40 = some ⟨oc40, od40, .func (PySem.W.fnOf "_law_deep" "_law_deep" (defArgs s__law_deep) (defBody s__law_deep) (defScope s__law_deep) .none kV40 dc40 pm40 an40 (.ref c40) ct40), sl40⟩) (e40 : PySem.W.codeIn K (.ref c40) "_law_deep" = true) (k40 : PySem.W.keepIn K (.ref f40) = true)
    {f41 c41 : Addr} {od41 an41 : Option Addr} {sl41 : Array (Option Value)} {oc41 kV41 dc41 pm41 ct41 : Value}
    (a41 : PySem.W.nsIn K mainGlobals "_law_things" = some (some (.ref f41))) (l41 : K.lookup f41 = some ⟨oc41, od41, .func (PySem.W.fnOf "_law_things" "_law_things" (defArgs s__law_things) (defBody s__law_things) (defScope s__law_things) .none kV41 dc41 pm41 an41 (.ref c41) ct41), sl41⟩) (e41 : PySem.W.codeIn K (.ref c41) "_law_things" = true) (k41 : PySem.W.keepIn K (.ref f41) = true)
    {f42 c42 : Addr} {od42 an42 : Option Addr} {sl42 : Array (Option Value)} {oc42 kV42 dc42 pm42 ct42 : Value}
    (a42 : PySem.W.nsIn K mainGlobals "law" = some (some (.ref f42))) (l42 : K.lookup f42 = some ⟨oc42, od42, .func (PySem.W.fnOf "law" "law" (defArgs s_law) (defBody s_law) (defScope s_law) .none kV42 dc42 pm42 an42 (.ref c42) ct42), sl42⟩) (e42 : PySem.W.codeIn K (.ref c42) "law" = true) (k42 : PySem.W.keepIn K (.ref f42) = true)
    (z_all : PySem.W.nsIn K mainGlobals "all" = some none) (z_bool : PySem.W.nsIn K mainGlobals "bool" = some none) (z_enumerate : PySem.W.nsIn K mainGlobals "enumerate" = some none) (z_int : PySem.W.nsIn K mainGlobals "int" = some none) (z_isinstance : PySem.W.nsIn K mainGlobals "isinstance" = some none) (z_len : PySem.W.nsIn K mainGlobals "len" = some none) (z_list : PySem.W.nsIn K mainGlobals "list" = some none) (z_max : PySem.W.nsIn K mainGlobals "max" = some none) (z_min : PySem.W.nsIn K mainGlobals "min" = some none) (z_range : PySem.W.nsIn K mainGlobals "range" = some none) (z_repr : PySem.W.nsIn K mainGlobals "repr" = some none) (z_sorted : PySem.W.nsIn K mainGlobals "sorted" = some none) (z_str : PySem.W.nsIn K mainGlobals "str" = some none) (z_sum : PySem.W.nsIn K mainGlobals "sum" = some none) (z_tuple : PySem.W.nsIn K mainGlobals "tuple" = some none) (z_zip : PySem.W.nsIn K mainGlobals "zip" = some none)
    {t_START : Tok} (q_START : PySem.W.nsIn K mainGlobals "START" = some (some (.int (-1) t_START))) : LawAtG l w K 9 63 "_law_script" mg fa h := by
  have e := hfa.symm.trans (PySem.W.mg_of X G a42)
  cases e
  have D_is_whole : Dfn K mg "is_whole" s_is_whole f0 c0 := ⟨⟨_, _, _, _, _, _, _, _, l0⟩, e0, k0, PySem.W.mg_of X G a0⟩
  have D_is_below : Dfn K mg "is_below" s_is_below f1 c1 := ⟨⟨_, _, _, _, _, _, _, _, l1⟩, e1, k1, PySem.W.mg_of X G a1⟩
  have D_wires_in : Dfn K mg "wires_in" s_wires_in f2 c2 := ⟨⟨_, _, _, _, _, _, _, _, l2⟩, e2, k2, PySem.W.mg_of X G a2⟩
  have D_places : Dfn K mg "places" s_places f3 c3 := ⟨⟨_, _, _, _, _, _, _, _, l3⟩, e3, k3, PySem.W.mg_of X G a3⟩
  have D_is_step : Dfn K mg "is_step" s_is_step f4 c4 := ⟨⟨_, _, _, _, _, _, _, _, l4⟩, e4, k4, PySem.W.mg_of X G a4⟩
  have D_is_way : Dfn K mg "is_way" s_is_way f5 c5 := ⟨⟨_, _, _, _, _, _, _, _, l5⟩, e5, k5, PySem.W.mg_of X G a5⟩
  have D_reached : Dfn K mg "reached" s_reached f6 c6 := ⟨⟨_, _, _, _, _, _, _, _, l6⟩, e6, k6, PySem.W.mg_of X G a6⟩
  have D_cone : Dfn K mg "cone" s_cone f7 c7 := ⟨⟨_, _, _, _, _, _, _, _, l7⟩, e7, k7, PySem.W.mg_of X G a7⟩
  have D_is_entry : Dfn K mg "is_entry" s_is_entry f8 c8 := ⟨⟨_, _, _, _, _, _, _, _, l8⟩, e8, k8, PySem.W.mg_of X G a8⟩
  have D_are_entries : Dfn K mg "are_entries" s_are_entries f9 c9 := ⟨⟨_, _, _, _, _, _, _, _, l9⟩, e9, k9, PySem.W.mg_of X G a9⟩
  have D_are_apart : Dfn K mg "are_apart" s_are_apart f10 c10 := ⟨⟨_, _, _, _, _, _, _, _, l10⟩, e10, k10, PySem.W.mg_of X G a10⟩
  have D_shows_label : Dfn K mg "shows_label" s_shows_label f11 c11 := ⟨⟨_, _, _, _, _, _, _, _, l11⟩, e11, k11, PySem.W.mg_of X G a11⟩
  have D_depth_paper_holds : Dfn K mg "depth_paper_holds" s_depth_paper_holds f12 c12 := ⟨⟨_, _, _, _, _, _, _, _, l12⟩, e12, k12, PySem.W.mg_of X G a12⟩
  have D_wires_of : Dfn K mg "wires_of" s_wires_of f13 c13 := ⟨⟨_, _, _, _, _, _, _, _, l13⟩, e13, k13, PySem.W.mg_of X G a13⟩
  have D_fits : Dfn K mg "fits" s_fits f14 c14 := ⟨⟨_, _, _, _, _, _, _, _, l14⟩, e14, k14, PySem.W.mg_of X G a14⟩
  have D_has_part : Dfn K mg "has_part" s_has_part f15 c15 := ⟨⟨_, _, _, _, _, _, _, _, l15⟩, e15, k15, PySem.W.mg_of X G a15⟩
  have D_gate_masks : Dfn K mg "gate_masks" s_gate_masks f16 c16 := ⟨⟨_, _, _, _, _, _, _, _, l16⟩, e16, k16, PySem.W.mg_of X G a16⟩
  have D_cut_masks : Dfn K mg "cut_masks" s_cut_masks f17 c17 := ⟨⟨_, _, _, _, _, _, _, _, l17⟩, e17, k17, PySem.W.mg_of X G a17⟩
  have D_told_cuts : Dfn K mg "told_cuts" s_told_cuts f18 c18 := ⟨⟨_, _, _, _, _, _, _, _, l18⟩, e18, k18, PySem.W.mg_of X G a18⟩
  have D_all_cuts : Dfn K mg "all_cuts" s_all_cuts f19 c19 := ⟨⟨_, _, _, _, _, _, _, _, l19⟩, e19, k19, PySem.W.mg_of X G a19⟩
  have D_one_deeper : Dfn K mg "one_deeper" s_one_deeper f20 c20 := ⟨⟨_, _, _, _, _, _, _, _, l20⟩, e20, k20, PySem.W.mg_of X G a20⟩
  have D_depths_by : Dfn K mg "depths_by" s_depths_by f21 c21 := ⟨⟨_, _, _, _, _, _, _, _, l21⟩, e21, k21, PySem.W.mg_of X G a21⟩
  have D_depths : Dfn K mg "depths" s_depths f22 c22 := ⟨⟨_, _, _, _, _, _, _, _, l22⟩, e22, k22, PySem.W.mg_of X G a22⟩
  have D_inlet : Dfn K mg "inlet" s_inlet f23 c23 := ⟨⟨_, _, _, _, _, _, _, _, l23⟩, e23, k23, PySem.W.mg_of X G a23⟩
  have D_outlet : Dfn K mg "outlet" s_outlet f24 c24 := ⟨⟨_, _, _, _, _, _, _, _, l24⟩, e24, k24, PySem.W.mg_of X G a24⟩
  have D_link : Dfn K mg "link" s_link f25 c25 := ⟨⟨_, _, _, _, _, _, _, _, l25⟩, e25, k25, PySem.W.mg_of X G a25⟩
  have D_make_rooms : Dfn K mg "make_rooms" s_make_rooms f26 c26 := ⟨⟨_, _, _, _, _, _, _, _, l26⟩, e26, k26, PySem.W.mg_of X G a26⟩
  have D_nodes_ahead : Dfn K mg "nodes_ahead" s_nodes_ahead f27 c27 := ⟨⟨_, _, _, _, _, _, _, _, l27⟩, e27, k27, PySem.W.mg_of X G a27⟩
  have D_push_one : Dfn K mg "push_one" s_push_one f28 c28 := ⟨⟨_, _, _, _, _, _, _, _, l28⟩, e28, k28, PySem.W.mg_of X G a28⟩
  have D_draw_way : Dfn K mg "draw_way" s_draw_way f29 c29 := ⟨⟨_, _, _, _, _, _, _, _, l29⟩, e29, k29, PySem.W.mg_of X G a29⟩
  have D_apart_ways : Dfn K mg "apart_ways" s_apart_ways f30 c30 := ⟨⟨_, _, _, _, _, _, _, _, l30⟩, e30, k30, PySem.W.mg_of X G a30⟩
  have D_gate_paper : Dfn K mg "gate_paper" s_gate_paper f31 c31 := ⟨⟨_, _, _, _, _, _, _, _, l31⟩, e31, k31, PySem.W.mg_of X G a31⟩
  have D_depth_paper : Dfn K mg "depth_paper" s_depth_paper f32 c32 := ⟨⟨_, _, _, _, _, _, _, _, l32⟩, e32, k32, PySem.W.mg_of X G a32⟩
  have D__law_deck : Dfn K mg "_law_deck" s__law_deck f33 c33 := ⟨⟨_, _, _, _, _, _, _, _, l33⟩, e33, k33, PySem.W.mg_of X G a33⟩
  have D__law_draw : Dfn K mg "_law_draw" s__law_draw f34 c34 := ⟨⟨_, _, _, _, _, _, _, _, l34⟩, e34, k34, PySem.W.mg_of X G a34⟩
  have D__law_gate : Dfn K mg "_law_gate" s__law_gate f35 c35 := ⟨⟨_, _, _, _, _, _, _, _, l35⟩, e35, k35, PySem.W.mg_of X G a35⟩
  have D__law_net : Dfn K mg "_law_net" s__law_net f36 c36 := ⟨⟨_, _, _, _, _, _, _, _, l36⟩, e36, k36, PySem.W.mg_of X G a36⟩
  have D__law_is_way : Dfn K mg "_law_is_way" s__law_is_way f37 c37 := ⟨⟨_, _, _, _, _, _, _, _, l37⟩, e37, k37, PySem.W.mg_of X G a37⟩
  have D__law_is_paper : Dfn K mg "_law_is_paper" s__law_is_paper f38 c38 := ⟨⟨_, _, _, _, _, _, _, _, l38⟩, e38, k38, PySem.W.mg_of X G a38⟩
  have D__law_is_entry : Dfn K mg "_law_is_entry" s__law_is_entry f39 c39 := ⟨⟨_, _, _, _, _, _, _, _, l39⟩, e39, k39, PySem.W.mg_of X G a39⟩
  have D__law_deep : Dfn K mg "_law_deep" s__law_deep f40 c40 := ⟨⟨_, _, _, _, _, _, _, _, l40⟩, e40, k40, PySem.W.mg_of X G a40⟩
  have D__law_things : Dfn K mg "_law_things" s__law_things f41 c41 := ⟨⟨_, _, _, _, _, _, _, _, l41⟩, e41, k41, PySem.W.mg_of X G a41⟩
  have T : Txt mg := ⟨PySem.W.mg_none_of X G z_all, PySem.W.mg_none_of X G z_bool, PySem.W.mg_none_of X G z_enumerate, PySem.W.mg_none_of X G z_int, PySem.W.mg_none_of X G z_isinstance, PySem.W.mg_none_of X G z_len, PySem.W.mg_none_of X G z_list, PySem.W.mg_none_of X G z_max, PySem.W.mg_none_of X G z_min, PySem.W.mg_none_of X G z_range, PySem.W.mg_none_of X G z_repr, PySem.W.mg_none_of X G z_sorted, PySem.W.mg_none_of X G z_str, PySem.W.mg_none_of X G z_sum, PySem.W.mg_none_of X G z_tuple, PySem.W.mg_none_of X G z_zip, ⟨_, PySem.W.mg_of X G q_START, ⟨_, rfl⟩⟩⟩
  refine ⟨(PySem.W.fnOf "law" "law" (defArgs s_law) (defBody s_law) (defScope s_law) .none kV42 dc42 pm42 an42 (.ref c42) ct42), [(c5, P5), (c6, P6), (c9, P9), (c10, P10), (c11, P11), (c12, P12), (c13, P13), (c19, P19), (c32, P32)], spLaw K ([(c5, P5), (c6, P6), (c9, P9), (c10, P10), (c11, P11), (c12, P12), (c13, P13), (c19, P19), (c32, P32)].map (·.2)), ⟨?t0, ?t1, ?t2⟩, fun s v => .of_eq rfl, fun H a ns hl hH hS => ⟨a, ns, rfl, hS, hl, fun p hp => ?t3, fun _ => rfl⟩, fun base _ _ TB => ?t4⟩
  case t0 => 
    intro p hp
    simp only [List.mem_cons, List.not_mem_nil, or_false] at hp
    rcases hp with rfl | rfl | rfl | rfl | rfl | rfl | rfl | rfl | rfl
    · exact y5 f5 c5 P5 _ _ _ _ _ _ (PySem.W.mg_of X G a5) l5 rfl rfl o5 h5.1
    · exact y6 f6 c6 P6 _ _ _ _ _ _ (PySem.W.mg_of X G a6) l6 rfl rfl o6 h6.1
    · exact y9 f9 c9 P9 _ _ _ _ _ _ (PySem.W.mg_of X G a9) l9 rfl rfl o9 h9.1
    · exact y10 f10 c10 P10 _ _ _ _ _ _ (PySem.W.mg_of X G a10) l10 rfl rfl o10 h10.1
    · exact y11 f11 c11 P11 _ _ _ _ _ _ (PySem.W.mg_of X G a11) l11 rfl rfl o11 h11.1
    · exact y12 f12 c12 P12 _ _ _ _ _ _ (PySem.W.mg_of X G a12) l12 rfl rfl o12 h12.1
    · exact y13 f13 c13 P13 _ _ _ _ _ _ (PySem.W.mg_of X G a13) l13 rfl rfl o13 h13.1
    · exact y19 f19 c19 P19 _ _ _ _ _ _ (PySem.W.mg_of X G a19) l19 rfl rfl o19 h19.1
    · exact y32 f32 c32 P32 _ _ _ _ _ _ (PySem.W.mg_of X G a32) l32 rfl rfl o32 h32.1
  case t1 => 
    intro p hp
    simp only [List.mem_cons, List.not_mem_nil, or_false] at hp
    rcases hp with rfl | rfl | rfl | rfl | rfl | rfl | rfl | rfl | rfl
    · exact n5
    · exact n6
    · exact n9
    · exact n10
    · exact n11
    · exact n12
    · exact n13
    · exact n19
    · exact n32
  case t2 => 
    intro p hp
    simp only [List.mem_cons, List.not_mem_nil, or_false] at hp
    rcases hp with rfl | rfl | rfl | rfl | rfl | rfl | rfl | rfl | rfl
    · exact codeHd_of X o5 h5
    · exact codeHd_of X o6 h6
    · exact codeHd_of X o9 h9
    · exact codeHd_of X o10 h10
    · exact codeHd_of X o11 h11
    · exact codeHd_of X o12 h12
    · exact codeHd_of X o13 h13
    · exact codeHd_of X o19 h19
    · exact codeHd_of X o32 h32
  case t3 =>
    obtain ⟨pr, hpr, rfl⟩ := List.mem_map.mp hp
    exact ⟨#[], hH pr hpr, trivial⟩
  case t4 =>
    have c__law_deck := ok_deck (P := l.prog) (w := w) (base := base) D__law_deck T
    have c__law_draw := ok_draw (P := l.prog) (w := w) (base := base) D__law_draw T
    have c__law_gate := ok_gate (P := l.prog) (w := w) (base := base) D__law_gate T c__law_draw
    have c__law_net := ok_net (P := l.prog) (w := w) (base := base) D__law_net T c__law_draw c__law_gate
    have c_wires_in := ok_wires (P := l.prog) (w := w) (base := base) D_wires_in T
    have c_places := ok_places (P := l.prog) (w := w) (base := base) D_places
    have c_fits := ok_fits (P := l.prog) (w := w) (base := base) D_fits T
    have c_has_part := ok_haspart (P := l.prog) (w := w) (base := base) D_has_part T
    have c_gate_masks := ok_gatemasks (P := l.prog) (w := w) (base := base) D_gate_masks T c_fits c_has_part
    have c_cut_masks := ok_cutmasks (P := l.prog) (w := w) (base := base) D_cut_masks T c_places c_gate_masks
    have c_wires_of := ok_wiresof (P := l.prog) (w := w) (base := base) (Ts := [(c5, P5), (c6, P6), (c9, P9), (c10, P10), (c11, P11), (c12, P12), (c13, P13), (c19, P19), (c32, P32)].map (·.2)) D_wires_of T (tabB_of (TB (c13, P13) (by simp))) (by simp)
    have c_told_cuts := ok_told (P := l.prog) (w := w) (base := base) (Ts := [(c5, P5), (c6, P6), (c9, P9), (c10, P10), (c11, P11), (c12, P12), (c13, P13), (c19, P19), (c32, P32)].map (·.2)) D_told_cuts T c_wires_of
    have c_all_cuts := ok_allcuts (P := l.prog) (w := w) (base := base) (Ts := [(c5, P5), (c6, P6), (c9, P9), (c10, P10), (c11, P11), (c12, P12), (c13, P13), (c19, P19), (c32, P32)].map (·.2)) D_all_cuts T c_wires_in c_cut_masks c_places c_told_cuts (tabB_of (TB (c19, P19) (by simp))) (by simp)
    have c_one_deeper := ok_onedeepL (P := l.prog) (w := w) (base := base) D_one_deeper T
    have c_depths_by := ok_depthsby (P := l.prog) (w := w) (base := base) D_depths_by T c_one_deeper
    have c_depths := ok_depths (P := l.prog) (w := w) (base := base) (Ts := [(c5, P5), (c6, P6), (c9, P9), (c10, P10), (c11, P11), (c12, P12), (c13, P13), (c19, P19), (c32, P32)].map (·.2)) D_depths T c_all_cuts c_depths_by
    have c_reached := ok_reached (P := l.prog) (w := w) (base := base) (Ts := [(c5, P5), (c6, P6), (c9, P9), (c10, P10), (c11, P11), (c12, P12), (c13, P13), (c19, P19), (c32, P32)].map (·.2)) D_reached T c_wires_in c_places (tabB_of (TB (c6, P6) (by simp))) (by simp)
    have c_cone := ok_cone (P := l.prog) (w := w) (base := base) (Ts := [(c5, P5), (c6, P6), (c9, P9), (c10, P10), (c11, P11), (c12, P12), (c13, P13), (c19, P19), (c32, P32)].map (·.2)) D_cone c_reached
    have c_inlet := ok_inlet (P := l.prog) (w := w) (base := base) D_inlet
    have c_outlet := ok_outlet (P := l.prog) (w := w) (base := base) D_outlet
    have c_link := ok_link (P := l.prog) (w := w) (base := base) D_link
    have c_make_rooms := ok_rooms (P := l.prog) (w := w) (base := base) (Ts := [(c5, P5), (c6, P6), (c9, P9), (c10, P10), (c11, P11), (c12, P12), (c13, P13), (c19, P19), (c32, P32)].map (·.2)) D_make_rooms T c_cone c_inlet c_outlet c_link c_places
    have c_nodes_ahead := ok_ahead (P := l.prog) (w := w) (base := base) D_nodes_ahead T
    have c_push_one := ok_push1 (P := l.prog) (w := w) (base := base) D_push_one T c_nodes_ahead
    have c_draw_way := ok_draww (P := l.prog) (w := w) (base := base) D_draw_way T c_inlet
    have c_apart_ways := ok_apart_ways (P := l.prog) (w := w) (base := base) (Ts := [(c5, P5), (c6, P6), (c9, P9), (c10, P10), (c11, P11), (c12, P12), (c13, P13), (c19, P19), (c32, P32)].map (·.2)) D_apart_ways T c_make_rooms c_outlet c_push_one c_draw_way
    have c_gate_paper := ok_gate_paper (P := l.prog) (w := w) (base := base) (Ts := [(c5, P5), (c6, P6), (c9, P9), (c10, P10), (c11, P11), (c12, P12), (c13, P13), (c19, P19), (c32, P32)].map (·.2)) D_gate_paper T c_cone c_apart_ways
    have c_depth_paper := ok_depth_paper (P := l.prog) (w := w) (base := base) (Ts := [(c5, P5), (c6, P6), (c9, P9), (c10, P10), (c11, P11), (c12, P12), (c13, P13), (c19, P19), (c32, P32)].map (·.2)) D_depth_paper T c_depths c_gate_paper c_wires_in (tabB_of (TB (c32, P32) (by simp))) (by simp)
    have c__law_deep := ok_deep (P := l.prog) (w := w) (base := base) D__law_deep T
    have c__law_things := ok_things (P := l.prog) (w := w) (base := base) D__law_things T c__law_draw c__law_deep
    have c_is_whole := ok_whole (P := l.prog) (w := w) (base := base) D_is_whole T
    have c_is_entry := ok_entry (P := l.prog) (w := w) (base := base) D_is_entry T c_is_whole
    have c_are_entries := ok_entries (P := l.prog) (w := w) (base := base) (Ts := [(c5, P5), (c6, P6), (c9, P9), (c10, P10), (c11, P11), (c12, P12), (c13, P13), (c19, P19), (c32, P32)].map (·.2)) D_are_entries T c_is_entry (tabB_of (TB (c9, P9) (by simp))) (by simp)
    have c_is_below := ok_below (P := l.prog) (w := w) (base := base) D_is_below c_is_whole
    have c_is_step := ok_step (P := l.prog) (w := w) (base := base) D_is_step c_places
    have c_is_way := ok_iswayT (P := l.prog) (w := w) (base := base) (Ts := [(c5, P5), (c6, P6), (c9, P9), (c10, P10), (c11, P11), (c12, P12), (c13, P13), (c19, P19), (c32, P32)].map (·.2)) D_is_way T c_is_below c_wires_in c_is_step (tabB_of (TB (c5, P5) (by simp))) (by simp)
    have c_are_apart := ok_apart (P := l.prog) (w := w) (base := base) (Ts := [(c5, P5), (c6, P6), (c9, P9), (c10, P10), (c11, P11), (c12, P12), (c13, P13), (c19, P19), (c32, P32)].map (·.2)) D_are_apart T (tabB_of (TB (c10, P10) (by simp))) (by simp)
    have c_shows_label := ok_shows (P := l.prog) (w := w) (base := base) (Ts := [(c5, P5), (c6, P6), (c9, P9), (c10, P10), (c11, P11), (c12, P12), (c13, P13), (c19, P19), (c32, P32)].map (·.2)) D_shows_label T c_is_way c_are_apart (tabB_of (TB (c11, P11) (by simp))) (by simp)
    have c_depth_paper_holds := ok_paper (P := l.prog) (w := w) (base := base) (Ts := [(c5, P5), (c6, P6), (c9, P9), (c10, P10), (c11, P11), (c12, P12), (c13, P13), (c19, P19), (c32, P32)].map (·.2)) D_depth_paper_holds T c_are_entries c_shows_label (tabB_of (TB (c12, P12) (by simp))) (by simp)
    have c__law_is_way := ok_lwayT (P := l.prog) (w := w) (base := base) D__law_is_way T
    have c__law_is_entry := ok_lentT (P := l.prog) (w := w) (base := base) D__law_is_entry T c__law_is_way
    have c__law_is_paper := ok_lpapT (P := l.prog) (w := w) (base := base) D__law_is_paper T c__law_is_entry
    exact ok_law l42 e42 T c__law_deck c__law_draw c__law_net c_depth_paper c__law_things c_depth_paper_holds c__law_is_paper
end K26
open PySem PySem.W PyProof.Rows
set_option maxRecDepth 100000 in
set_option maxHeartbeats 0 in
theorem PySem.Challenge.cw_tablecover_k26_things_that_are_no_papers_holds : PySem.Challenge.rw_tablecover_k26_things_that_are_no_papers.Holds := by
  w_on; o_law; k_head; (case hw => w_witness2)
  k_fill
  refine GX.walk_defsG (l := PySem.Challenge.rw_tablecover_k26_things_that_are_no_papers) (n := 63) (k := 9) (x := "_law_script") rfl (by decide) rfl ⟨rfl, by decide, by decide⟩ (fun w h Y => PySem.W.kIn_of Y) ?F
  case F =>
    intro w mg fa h Y KX G hmg TF
    refine' K26.all_mk KX G hmg ?a0 ?l0 ?e0 ?k0 ?a1 ?l1 ?e1 ?k1 ?a2 ?l2 ?e2 ?k2 ?a3 ?l3 ?e3 ?k3 ?a4 ?l4 ?e4 ?k4 ?a5 ?l5 ?e5 ?k5 ?o5 ?h5 ?n5 ?y5 ?a6 ?l6 ?e6 ?k6 ?o6 ?h6 ?n6 ?y6 ?a7 ?l7 ?e7 ?k7 ?a8 ?l8 ?e8 ?k8 ?a9 ?l9 ?e9 ?k9 ?o9 ?h9 ?n9 ?y9 ?a10 ?l10 ?e10 ?k10 ?o10 ?h10 ?n10 ?y10 ?a11 ?l11 ?e11 ?k11 ?o11 ?h11 ?n11 ?y11 ?a12 ?l12 ?e12 ?k12 ?o12 ?h12 ?n12 ?y12 ?a13 ?l13 ?e13 ?k13 ?o13 ?h13 ?n13 ?y13 ?a14 ?l14 ?e14 ?k14 ?a15 ?l15 ?e15 ?k15 ?a16 ?l16 ?e16 ?k16 ?a17 ?l17 ?e17 ?k17 ?a18 ?l18 ?e18 ?k18 ?a19 ?l19 ?e19 ?k19 ?o19 ?h19 ?n19 ?y19 ?a20 ?l20 ?e20 ?k20 ?a21 ?l21 ?e21 ?k21 ?a22 ?l22 ?e22 ?k22 ?a23 ?l23 ?e23 ?k23 ?a24 ?l24 ?e24 ?k24 ?a25 ?l25 ?e25 ?k25 ?a26 ?l26 ?e26 ?k26 ?a27 ?l27 ?e27 ?k27 ?a28 ?l28 ?e28 ?k28 ?a29 ?l29 ?e29 ?k29 ?a30 ?l30 ?e30 ?k30 ?a31 ?l31 ?e31 ?k31 ?a32 ?l32 ?e32 ?k32 ?o32 ?h32 ?n32 ?y32 ?a33 ?l33 ?e33 ?k33 ?a34 ?l34 ?e34 ?k34 ?a35 ?l35 ?e35 ?k35 ?a36 ?l36 ?e36 ?k36 ?a37 ?l37 ?e37 ?k37 ?a38 ?l38 ?e38 ?k38 ?a39 ?l39 ?e39 ?k39 ?a40 ?l40 ?e40 ?k40 ?a41 ?l41 ?e41 ?k41 ?a42 ?l42 ?e42 ?k42 ?z_all ?z_bool ?z_enumerate ?z_int ?z_isinstance ?z_len ?z_list ?z_max ?z_min ?z_range ?z_repr ?z_sorted ?z_str ?z_sum ?z_tuple ?z_zip ?q_START
    (case a0 => k_is)
    (case l0 => k_is)
    (case e0 => k_is)
    (case k0 => k_is)
    (case a1 => k_is)
    (case l1 => k_is)
    (case e1 => k_is)
    (case k1 => k_is)
    (case a2 => k_is)
    (case l2 => k_is)
    (case e2 => k_is)
    (case k2 => k_is)
    (case a3 => k_is)
    (case l3 => k_is)
    (case e3 => k_is)
    (case k3 => k_is)
    (case a4 => k_is)
    (case l4 => k_is)
    (case e4 => k_is)
    (case k4 => k_is)
    (case a5 => k_is)
    (case l5 => k_is)
    (case e5 => k_is)
    (case k5 => k_is)
    (case o5 => k_is)
    (case h5 => exact ⟨rfl, rfl, rfl, rfl, rfl, rfl, by decide⟩)
    (case n5 => rfl)
    (case y5 => exact TF _ (by decide +kernel))
    (case a6 => k_is)
    (case l6 => k_is)
    (case e6 => k_is)
    (case k6 => k_is)
    (case o6 => k_is)
    (case h6 => exact ⟨rfl, rfl, rfl, rfl, rfl, rfl, by decide⟩)
    (case n6 => rfl)
    (case y6 => exact TF _ (by decide +kernel))
    (case a7 => k_is)
    (case l7 => k_is)
    (case e7 => k_is)
    (case k7 => k_is)
    (case a8 => k_is)
    (case l8 => k_is)
    (case e8 => k_is)
    (case k8 => k_is)
    (case a9 => k_is)
    (case l9 => k_is)
    (case e9 => k_is)
    (case k9 => k_is)
    (case o9 => k_is)
    (case h9 => exact ⟨rfl, rfl, rfl, rfl, rfl, rfl, by decide⟩)
    (case n9 => rfl)
    (case y9 => exact TF _ (by decide +kernel))
    (case a10 => k_is)
    (case l10 => k_is)
    (case e10 => k_is)
    (case k10 => k_is)
    (case o10 => k_is)
    (case h10 => exact ⟨rfl, rfl, rfl, rfl, rfl, rfl, by decide⟩)
    (case n10 => rfl)
    (case y10 => exact TF _ (by decide +kernel))
    (case a11 => k_is)
    (case l11 => k_is)
    (case e11 => k_is)
    (case k11 => k_is)
    (case o11 => k_is)
    (case h11 => exact ⟨rfl, rfl, rfl, rfl, rfl, rfl, by decide⟩)
    (case n11 => rfl)
    (case y11 => exact TF _ (by decide +kernel))
    (case a12 => k_is)
    (case l12 => k_is)
    (case e12 => k_is)
    (case k12 => k_is)
    (case o12 => k_is)
    (case h12 => exact ⟨rfl, rfl, rfl, rfl, rfl, rfl, by decide⟩)
    (case n12 => rfl)
    (case y12 => exact TF _ (by decide +kernel))
    (case a13 => k_is)
    (case l13 => k_is)
    (case e13 => k_is)
    (case k13 => k_is)
    (case o13 => k_is)
    (case h13 => exact ⟨rfl, rfl, rfl, rfl, rfl, rfl, by decide⟩)
    (case n13 => rfl)
    (case y13 => exact TF _ (by decide +kernel))
    (case a14 => k_is)
    (case l14 => k_is)
    (case e14 => k_is)
    (case k14 => k_is)
    (case a15 => k_is)
    (case l15 => k_is)
    (case e15 => k_is)
    (case k15 => k_is)
    (case a16 => k_is)
    (case l16 => k_is)
    (case e16 => k_is)
    (case k16 => k_is)
    (case a17 => k_is)
    (case l17 => k_is)
    (case e17 => k_is)
    (case k17 => k_is)
    (case a18 => k_is)
    (case l18 => k_is)
    (case e18 => k_is)
    (case k18 => k_is)
    (case a19 => k_is)
    (case l19 => k_is)
    (case e19 => k_is)
    (case k19 => k_is)
    (case o19 => k_is)
    (case h19 => exact ⟨rfl, rfl, rfl, rfl, rfl, rfl, by decide⟩)
    (case n19 => rfl)
    (case y19 => exact TF _ (by decide +kernel))
    (case a20 => k_is)
    (case l20 => k_is)
    (case e20 => k_is)
    (case k20 => k_is)
    (case a21 => k_is)
    (case l21 => k_is)
    (case e21 => k_is)
    (case k21 => k_is)
    (case a22 => k_is)
    (case l22 => k_is)
    (case e22 => k_is)
    (case k22 => k_is)
    (case a23 => k_is)
    (case l23 => k_is)
    (case e23 => k_is)
    (case k23 => k_is)
    (case a24 => k_is)
    (case l24 => k_is)
    (case e24 => k_is)
    (case k24 => k_is)
    (case a25 => k_is)
    (case l25 => k_is)
    (case e25 => k_is)
    (case k25 => k_is)
    (case a26 => k_is)
    (case l26 => k_is)
    (case e26 => k_is)
    (case k26 => k_is)
    (case a27 => k_is)
    (case l27 => k_is)
    (case e27 => k_is)
    (case k27 => k_is)
    (case a28 => k_is)
    (case l28 => k_is)
    (case e28 => k_is)
    (case k28 => k_is)
    (case a29 => k_is)
    (case l29 => k_is)
    (case e29 => k_is)
    (case k29 => k_is)
    (case a30 => k_is)
    (case l30 => k_is)
    (case e30 => k_is)
    (case k30 => k_is)
    (case a31 => k_is)
    (case l31 => k_is)
    (case e31 => k_is)
    (case k31 => k_is)
    (case a32 => k_is)
    (case l32 => k_is)
    (case e32 => k_is)
    (case k32 => k_is)
    (case o32 => k_is)
    (case h32 => exact ⟨rfl, rfl, rfl, rfl, rfl, rfl, by decide⟩)
    (case n32 => rfl)
    (case y32 => exact TF _ (by decide +kernel))
    (case a33 => k_is)
    (case l33 => k_is)
    (case e33 => k_is)
    (case k33 => k_is)
    (case a34 => k_is)
    (case l34 => k_is)
    (case e34 => k_is)
    (case k34 => k_is)
    (case a35 => k_is)
    (case l35 => k_is)
    (case e35 => k_is)
    (case k35 => k_is)
    (case a36 => k_is)
    (case l36 => k_is)
    (case e36 => k_is)
    (case k36 => k_is)
    (case a37 => k_is)
    (case l37 => k_is)
    (case e37 => k_is)
    (case k37 => k_is)
    (case a38 => k_is)
    (case l38 => k_is)
    (case e38 => k_is)
    (case k38 => k_is)
    (case a39 => k_is)
    (case l39 => k_is)
    (case e39 => k_is)
    (case k39 => k_is)
    (case a40 => k_is)
    (case l40 => k_is)
    (case e40 => k_is)
    (case k40 => k_is)
    (case a41 => k_is)
    (case l41 => k_is)
    (case e41 => k_is)
    (case k41 => k_is)
    (case a42 => k_is)
    (case l42 => k_is)
    (case e42 => k_is)
    (case k42 => k_is)
    (case z_all => k_is)
    (case z_bool => k_is)
    (case z_enumerate => k_is)
    (case z_int => k_is)
    (case z_isinstance => k_is)
    (case z_len => k_is)
    (case z_list => k_is)
    (case z_max => k_is)
    (case z_min => k_is)
    (case z_range => k_is)
    (case z_repr => k_is)
    (case z_sorted => k_is)
    (case z_str => k_is)
    (case z_sum => k_is)
    (case z_tuple => k_is)
    (case z_zip => k_is)
    (case q_START => k_is)
