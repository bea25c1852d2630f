import PyProof.Rows.All
import Wide.All
import OpenK.AllK
import Wide.FinOn
import HandS.ForMost
import HandS.AnyAll
import HandS.GenList
import PyProof.TupleOfGen
import HandS.Walk
import HandS.Codes
import HandS.TupAny
import HandS.IsInst
import HandS.EndTab
import HandS.Wide
import HandS.Conv
import KE.GoesMore
import PyProof.EnumMake
import HandS.Style
import HandS.TupMul
import HandS.SetFor
import HandS.Strs
import HandS.Zip
import HandS.NamedTupSort
import HandS.TupSets
import KE.BitLaws
import KE.IntBitsLaws
import HandS.WideBits
import HandS.Rev
import HandS.RevRange
import HandS.Dict
import KE.KIndexOf
import KE.KDictPairs
import HandS.Flow
import PyProof.ReprRoads
import HandS.Iter
import HandS.SortInts
import PyProof.EqAt
import PyProof.NeKinds
import PySem.Challenge.RW_tablecover_k24_papers_of_depths_by_any_h
set_option Elab.async false
set_option linter.all false
set_option maxRecDepth 100000
set_option maxHeartbeats 4000000
/-! Generator expressions as arguments of all, any, tuple, over the hand layer: the element may call, make objects, hold further generator expressions. -/
namespace GX
open PySem PySem.Spec PyProof.Rows L2 GenW
/-- the frame of a generator expression made in the state s; A0: what runs around it while it runs -/
abbrev gcx (X : Cx) (A0 : Around) (s : Shared) (H : Hp) (scope : Scope) (code : Value) (fp : List Addr) : Cx :=
  { X with
    A := A0.deeper (genEnv scope (cloFrom X.env.cells scope.names []) s.heap.objs.size code builtinsNs X.env)
    s_0 := s
    H_0 := H
    env := genEnv scope (cloFrom X.env.cells scope.names []) s.heap.objs.size code builtinsNs X.env
    outer := X.stack
    stack := genEnv scope (cloFrom X.env.cells scope.names []) s.heap.objs.size code builtinsNs X.env :: X.stack
    ex := fp
    fn := fun _ => false
    calm := true
    pn := []
    xe := fun _ _ => False }
/-- the names of the generator expression's scope -/
structure GxOk (N : List Str) (sc scope : Scope) (own : List (Str × Nat)) : Prop where
  blk : BlkOk N sc scope own
  co : scope.isCoroutine = false
  cell : ∀ y ∈ scope.names, y.2 ≠ .cell
  dot : scope.names.lookup (".0" : Str) = some NameKind.local
section
variable {X : Cx} {pins : List (Addr × Obj)} {σ : L2.St} {H : Hp} {s : Shared}
theorem gen_start {A0 : Around} {scope : Scope} {own : List (Str × Nat)} {fp : List Addr} {code : Value} {h5 : Heap} {g5 : Array GenState} {t5 : Nat} {m : Str → Option Value}
    (I : Inv X pins σ H s) (ok : GxOk X.N X.env.scope scope own) (hN : X.N.Nodup) (hfp : ∀ b ∈ fp, FpOk X pins H b ∧ b < s.heap.objs.size)
    (hh : A0.handled = none) (hfr : A0.frames = some X.stack)
    (hn : h5.Ns s.heap.objs.size m) (kp : ∀ b o, s.heap.get? b = some o → h5.get? b = some o) (hg : AllBare g5) :
    Inv (gcx X A0 s H scope code fp) [] (wipe σ (own.map (·.2))) H { s with heap := h5, gens := g5, toks := t5 } := by
  have hfree : ∀ y ∈ scope.names, y.2 = .free → ∃ c, X.env.cells.lookup y.1 = some c := fun y hy e => by
    rcases ok.blk.free y hy e with k | k
    · exact I.ok.has _ (.inl k)
    · exact I.ok.has _ (.inr k)
  have cm : ∀ {y c}, (cloFrom X.env.cells scope.names []).lookup y = some c → X.env.cells.lookup y = some c ∧ c < s.heap.objs.size ∧ scope.names.lookup y = some .free := fun {y c} hl => by
    rcases cloFrom_mem (PySem.mem_of_lookup hl) with hm | ⟨h1, rfl⟩
    · cases hm
    · obtain ⟨c, hc⟩ := hfree _ h1 rfl
      rw [hc]
      obtain ⟨w, z⟩ := I.cell _ _ hc
      exact ⟨rfl, z.lt, ok.blk.uniq _ h1⟩
  have look : ∀ {y}, scope.names.lookup y = some .free → ∃ c, (cloFrom X.env.cells scope.names []).lookup y = some c ∧ X.env.cells.lookup y = some c := fun {y} hl => by
    have hy : (y, NameKind.free) ∈ scope.names := PySem.mem_of_lookup hl
    obtain ⟨c', e'⟩ := mem_lookup (cloFrom_has (cells := X.env.cells) (acc := []) hy)
    exact ⟨c', e', (cm e').1⟩
  have okB : (gcx X A0 s H scope code fp).Ok := by
    refine ⟨I.ok.mod, ok.blk.kind, I.ok.glob, rfl, Nat.le_refl _, fun y z c e1 e2 => ?_, fun y hy => ?_, fun y c z e => (by cases z), fun _ => hh, Around.frames_deeper hfr, .inr ⟨rfl, rfl⟩,
      fun b hb => ⟨Nat.ne_of_lt (hfp b hb).2, fun y c e z => ?_⟩, I.bs, Nat.le_trans I.ok.bsz I.sz, fun b o e hb => ?_, fun b hb z => ?_, I.stack, I.stkFree⟩
    · exact I.ok.inj y z c (cm e1).1 (cm e2).1
    · rcases hy with hy | hy
      · exact absurd rfl (ok.cell _ (PySem.mem_of_lookup hy))
      · obtain ⟨c, h1, _⟩ := look hy
        exact ⟨c, h1⟩
    · exact (hfp b hb).1.2.2.2.2.1 y c (cm e).1 z
    · rcases (hfp b hb).1.2.2.2.1 with z | z
      · exact I.ok.noex b o e z
      · exact absurd (Nat.lt_of_lt_of_le (Heap.lt_size e) (Nat.le_trans I.ok.bsz z)) (Nat.lt_irrefl _)
    · rcases List.mem_cons.mp (I.stkSub b z) with z | z
      · exact (hfp b hb).1.2.1 z
      · exact (hfp b hb).1.2.2.1 z
  refine ⟨okB, rfl, hg, Un.kept kp, ⟨m, hn, fun i y av e1 e2 e3 => ?_⟩, fun y c e => ?_, I.hok.fresh (Nat.le_refl _), fun y c e => I.freeC y c (cm e).1, fun p hp => absurd (show p ∈ ([] : List (Addr × Obj)) ++ [] from hp) (by simp), I.hok.kept kp, by rw [wipe_length]; exact I.len⟩
  · obtain ⟨e2, hne⟩ := wipe_some e2
    have no : ∀ k, scope.names.lookup y = some k → ¬ (k = .local ∨ k = .cell) := fun k e hh => by
      rcases ok.blk.own _ (PySem.mem_of_lookup e) hh with e' | e'
      · obtain ⟨p, hp, hpy⟩ := List.mem_map.mp e'
        have e3 := ok.blk.ix p hp
        have : p.1 = y := hpy
        rw [this] at e3
        exact hne (List.mem_map.mpr ⟨p, hp, nodup_ix hN e3 e1⟩)
      · exact e' (List.mem_of_getElem? e1)
    have hfr : scope.names.lookup y = some .free := by
      rcases e3 with e3 | e3 | e3
      · exact absurd (.inl rfl) (no _ e3)
      · exact absurd (.inr rfl) (no _ e3)
      · exact e3
    obtain ⟨m', hn', hl⟩ := I.loc
    have hvis : Vis X.env.scope y := (ok.blk.free _ (PySem.mem_of_lookup hfr) rfl).elim (fun k => .inr (.inl k)) (fun k => .inr (.inr k))
    obtain ⟨w, r, q⟩ := hl i y av e1 e2 hvis
    refine ⟨w, r, .inr ⟨.inr hfr, ?_⟩⟩
    obtain ⟨c, h1, h2⟩ := look hfr
    rcases q with ⟨k, _⟩ | ⟨_, c', e', z⟩
    · have k : X.env.scope.names.lookup y = some .local := k
      rcases ok.blk.free _ (PySem.mem_of_lookup hfr) rfl with k' | k' <;> rw [show X.env.scope.names.lookup y = _ from k'] at k <;> cases k
    · rw [h2] at e'; cases e'
      exact ⟨c, h1, z.keeps kp⟩
  · obtain ⟨w, z⟩ := I.cell y c (cm e).1
    exact ⟨w, z.keeps kp⟩
end
/-! ### asleep -/
/-- while the generator sleeps its consumer changes what stands at B alone -/
structure Slp (B : List Addr) (s s' : Shared) : Prop where
  os : s'.os = s.os
  bare : AllBare s'.gens
  keep : ∀ b o, b ∉ B → s.heap.get? b = some o → s'.heap.get? b = some o
/-- the consumer's own objects -/
structure Aprt (Y : Cx) (B fp : List Addr) (a : Addr) : Prop where
  hi : ∀ b ∈ B, Y.s_0.heap.objs.size ≤ b
  lo : ∀ b ∈ B, b ≠ Y.env.locals
  ce : ∀ b ∈ B, ∀ x c, Y.env.cells.lookup x = some c → c ≠ b
  sf : ∀ b ∈ B, b ∉ Y.fs
  bf : ∀ b ∈ B, b ∉ fp
  na : a ∉ B
  af : a ∉ fp
theorem woken {Y : Cx} {B fp : List Addr} {a : Addr} {go : Obj} {pins pins' : List (Addr × Obj)} {σ : L2.St} {H : Hp} {s s' : Shared} (hpn : Y.pn = []) (hB : Aprt Y B fp a) (I : Inv Y ((a, go) :: pins) σ H s)
    (hHB : ∀ b ∈ B, H b = none) (z : Slp B s s') (hp : ∀ p ∈ pins', p.1 ∈ B ∧ s'.heap.get? p.1 = some p.2 ∧ ∀ v, p.2.data ≠ .cell v) : Inv Y ((a, go) :: pins') σ H s' := by
  have I1 : Inv Y [(a, go)] σ H s := I.pins_of fun p hp => by
    have e : p = (a, go) := List.mem_singleton.mp hp
    rw [e]
    exact I.pin (a, go) (List.mem_append_right _ List.mem_cons_self)
  have nt : ∀ b u, H b = some u → b ∉ B := fun b u q hb => by rw [hHB b hb] at q; cases q
  obtain ⟨z1, z2, z3⟩ := z
  obtain ⟨hh, g, d, t, o⟩ := s'
  have ho : o = s.os := z1
  subst ho
  have J : Inv Y [(a, go)] σ H { s with heap := hh, gens := g, drawn := d, toks := t } := by
    refine I1.step (g' := g) (t' := t) (d' := d) (ch := B) (fun b hb => ?_)
      (fun b ob _ _ hc q _ => z3 b ob hc q) (fun b ob _ _ hc q _ => ⟨ob.slots, z3 b ob hc q⟩) (fun _ _ _ _ n => n) (fun b ob hc q => ⟨ob, z3 b ob hc q⟩)
      (fun _ _ q => q) (fun _ _ _ q => q) (fun b ps q => ⟨#[], by rw [q]; simp⟩) (fun m hm => ?_) (fun b u q => ?_) z2
    · refine ⟨.inr (hB.hi b hb), hB.lo b hb, hB.ce b hb, fun p hp => ?_⟩
      rw [hpn] at hp
      have e : p = (a, go) := by simpa using hp
      rw [e]
      intro e2
      have e3 : a = b := e2
      exact hB.na (by rw [e3]; exact hb)
    · obtain ⟨ob, es, ep, ho, r⟩ := hm
      exact ⟨ob, es, ep, z3 _ ob (fun hb => hB.lo _ hb rfl) ho, r⟩
    · refine (I1.hok b u q).stay (fun c v hc y => z3 c v ?_ y) (fun _ y => y) fun _ _ y => y
      rcases hc with y | y
      · rw [y]; exact nt b u q
      · exact nt c _ y
  refine J.pins_of fun p hp' => ?_
  rcases List.mem_cons.mp hp' with e | hp'
  · rw [e]
    exact J.pin (a, go) (List.mem_append_right _ List.mem_cons_self)
  · obtain ⟨h1, h2, h3⟩ := hp p hp'
    exact ⟨h2, hHB _ h1, hB.lo _ h1, hB.sf _ h1, h3⟩
/-! ### the turns -/
/-- what the consumer holds behind ys: Pn; what is wanted at a yield: Kx; where it goes on: Cn; at the end: Fi -/
structure Con where
  B : List Addr
  Pn : List V → List (Addr × Obj) → Prop
  Kx : List V → V → Hp → Prop
  Cn : List V → V → Prop
  Fi : List V → Hp → Prop
structure Con.Ok (C : Con) : Prop where
  pn : ∀ ys pins, C.Pn ys pins → ∀ p ∈ pins, p.1 ∈ C.B ∧ ∀ v, p.2.data ≠ .cell v
  all : ∀ ys pins, C.Pn ys pins → ∀ b ∈ C.B, ∃ o, (b, o) ∈ pins
def YG (Y : Cx) (C : Con) (a : Addr) (go : Obj) (σ0 : L2.St) : Protocol := fun n s₀ v s kap =>
  ∃ ys x pins H, RelV x v ∧ C.Pn ys pins ∧ Inv Y ((a, go) :: pins) σ0 H s ∧ C.Kx ys x H ∧
    (C.Cn ys x → ∀ s', Slp C.B s s' → (∃ pins', C.Pn (ys ++ [x]) pins' ∧ ∀ p ∈ pins', s'.heap.get? p.1 = some p.2) → kap (.send .none) s')
def RG (Y : Cx) (C : Con) (a : Addr) (go : Obj) (σ0 : L2.St) : Nat → Shared → Shared → Prop := fun n s₀ s => ∃ ys pins H, C.Pn ys pins ∧ Inv Y ((a, go) :: pins) σ0 H s ∧ C.Fi ys H
def GSt (Y : Cx) (C : Con) (fp : List Addr) (tn : Nat → Heap → Prop) (a : Addr) (go : Obj) (σ0 : L2.St) (W : Nat → Nat → List V → Hp → Prop) (i m : Nat) (ys : List V) (s : Shared) : Prop :=
  ∃ pins H, C.Pn ys pins ∧ Inv Y ((a, go) :: pins) σ0 H s ∧ tn i s.heap ∧ (∀ b ∈ fp, H b = none) ∧ W i m ys H
/-- the turns' reading -/
def Turns (J : It) (g : TG) (tt : TT) (te : TE) (vs : List Nat) (σ0 : L2.St) (C : Con) (W : Nat → Nat → List V → Hp → Prop) : Prop := ∀ i m ys H, W i m ys H →
  (J.stop i H ∧ C.Fi ys H) ∨ (J.go i H ∧ ∃ Nx : List V → Hp → Prop, (∀ ys' H', Nx ys' H' → ∃ m', m' < m ∧ W (i + 1) m' ys' H') ∧ ∀ x H', J.yld i H x H' → g x σ0 H' fun σ2 H2 => wipe σ2 vs = σ0 ∧ tt σ2 H2 fun b H3 =>
    if b = true then te σ2 H3 fun y H4 => C.Kx ys y H4 ∧ (C.Cn ys y → Nx (ys ++ [y]) H4) else Nx ys H3)
section
variable {Y : Cx} {C : Con} {A0 : Around} {elt tg iter : Expr} {ifs : List Expr} {scope : Scope} {pos : Pos} {it a : Addr} {fp : List Addr} {tn : Nat → Heap → Prop} {go : Obj} {J : It} {g : TG} {tt : TT} {te : TE} {vs : List Nat} {σ0 : L2.St} {W : Nat → Nat → List V → Hp → Prop}
theorem seg_loop (hA : A0.over (.compLoop (.GeneratorExp elt [⟨tg, iter, ifs, 0⟩] scope pos) 0 (.ref it) .none Y.env) [] = Y.A) (hc : Y.calm = true) (hx : ∀ e s, Y.xe e s → False) (hpn : Y.pn = []) (hco : Y.env.scope.isCoroutine = false)
    (CO : C.Ok) (hB : Aprt Y C.B fp a) (hst : ∀ b ∈ fp, b ≠ Y.env.locals ∧ b ∉ Y.fs ∧ (b ∈ Y.ex ∨ Y.s_0.heap.objs.size ≤ b) ∧ ∀ x c, Y.env.cells.lookup x = some c → c ≠ b)
    (T : Turn Y.prog Y.w Y.K tg J fp it tn) (hg : PG Y tg g) (ht : PTs Y ifs tt) (he : PE Y elt te) (turns : Turns J g tt te vs σ0 C W) :
    ∀ (m i n : Nat) (ys : List V) (s₀ s : Shared), m < n → GSt Y C fp tn a go σ0 W i m ys s →
      Seg (model Y.prog Y.w) A0 (fun n s₀ r s₁ => r = .ok .next ∧ RG Y C a go σ0 n s₀ s₁) (YG Y C a go σ0) n s₀
        (.compLoop (.GeneratorExp elt [⟨tg, iter, ifs, 0⟩] scope pos) 0 (.ref it) .none Y.env)
        ((model Y.prog Y.w).den (.compLoop (.GeneratorExp elt [⟨tg, iter, ifs, 0⟩] scope pos) 0 (.ref it) .none Y.env)) [] s := by
  intro m
  induction m using Nat.strongRecOn with
  | ind m ih =>
    intro i n ys s₀ s hmn ⟨pins, H, hP, I, st, fr, w⟩
    have stat : ∀ {H' : Hp}, (∀ b ∈ fp, H' b = none) → ∀ b ∈ fp, FpOk Y ((a, go) :: pins) H' b := fun hn b hb => by
      obtain ⟨h1, h2, h3, h4⟩ := hst b hb
      refine ⟨hn b hb, h1, h2, h3, h4, fun p hp => ?_⟩
      rw [hpn] at hp
      rcases List.mem_cons.mp (show p ∈ (a, go) :: pins from hp) with e | hp
      · rw [e]; intro e2; have e3 : a = b := e2; exact hB.af (by rw [e3]; exact hb)
      · intro e2; exact hB.bf _ (CO.pn _ _ hP p hp).1 (by rw [e2]; exact hb)
    obtain ⟨k, rfl⟩ : ∃ k, n = k + 1 := ⟨n - 1, by omega⟩
    show Seg _ A0 _ _ _ s₀ _ ((compTurn (.GeneratorExp elt [⟨tg, iter, ifs, 0⟩] scope pos) 0 (.ref it) .none Y.env).onRaise (leaving Y.env)) [] s
    rw [compTurn_gen, Sem.onRaise_eq_wrap]
    refine seg_bind_wrap (wpAny_standAt ?_)
    rcases turns i m ys H w with ⟨stop, q⟩ | ⟨go1, Nx, hN, step⟩
    · refine seg_bind_wrap ?_
      rw [hA]
      refine thn (T.done Y rfl rfl rfl hc i _ s σ0 H _ I (stat fr) st stop) fun r s1 ⟨hr, I1⟩ => ?_
      subst hr
      exact seg_end (.ok .next) ⟨rfl, ys, pins, H, hP, I1, q⟩
    · refine seg_bind_wrap ?_
      rw [hA]
      refine thn (T.item Y rfl rfl rfl hc i _ s σ0 H _ I (stat fr) st go1) fun r s1 ⟨u, hr, h1⟩ => ?_
      subst hr
      refine seg_bind_wrap ?_
      rw [hA]
      refine thn h1 fun _ s2 ⟨x, H2, I2, rx, y2, st2, fr2⟩ => ?_
      have I2' := I2.pinned (stat fr2) (T.obj _ _ st2)
      refine seg_bind_wrap ?_
      rw [hA]
      refine wpAny_mono (hg.run _ s2 σ0 H2 x u _ I2' rx (step x H2 y2)) (fun _ s3 ⟨σ3, H3, I3, hw, q3⟩ => ?_) (fun e s' z => (hx e s' z).elim)
      refine seg_bind_wrap ?_
      rw [hA]
      refine wpAny_mono (ht.run _ s3 σ3 H3 _ I3 q3) (fun b s4 ⟨H4, I4, q4⟩ => ?_) (fun e s' z => (hx e s' z).elim)
      have weak : ∀ {H' : Hp} {s' : Shared}, Inv Y ((a, go) :: pins ++ pinsAt fp s2.heap) σ3 H' s' → Inv Y ((a, go) :: pins ++ pinsAt fp s2.heap) σ0 H' s' := fun I' => by
        refine I'.weak (by rw [← hw, wipe_length]) fun j v e => ?_
        rw [← hw] at e
        exact (wipe_some e).1
      have tnk : ∀ {H' : Hp} {s' : Shared}, Inv Y ((a, go) :: pins ++ pinsAt fp s2.heap) σ3 H' s' → tn (i + 1) s'.heap ∧ ∀ b ∈ fp, H' b = none := fun I' => by
        refine ⟨T.keep _ _ _ st2 fun b hb o e => (I'.pin (b, o) (List.mem_append_right _ (List.mem_append_right _ (mem_pinsAt hb e)))).1, fun b hb => ?_⟩
        obtain ⟨o, e, d⟩ := T.obj _ _ st2 b hb
        exact (I'.pin (b, o) (List.mem_append_right _ (List.mem_append_right _ (mem_pinsAt hb e)))).2.1
      cases b with
      | false =>
        rw [if_neg Bool.false_ne_true] at q4
        obtain ⟨m', hm, w'⟩ := hN _ _ q4
        obtain ⟨t4, f4⟩ := tnk I4
        simp only [Bool.false_eq_true, if_false]
        exact seg_again rfl (ih m' hm (i + 1) (k + 1) ys s₀ s4 (by omega) ⟨pins, H4, hP, (weak I4).unpinned, t4, f4, w'⟩)
      | true =>
        rw [if_pos rfl] at q4
        simp only [if_true]
        have hy : ∀ v, yieldOut Y.env v = yieldValue v := fun v => by simp only [yieldOut, hco, Bool.false_eq_true, if_false]
        simp only [hy]
        rw [Sem.bind_eq_wrap', Sem.bind_eq_wrap', Sem.wrap_wrap, Sem.wrap_wrap]
        refine seg_wrap ?_
        rw [hA]
        refine wpAny_mono (he.run _ s4 σ3 H4 _ I4 q4) (fun v s5 ⟨y, H5, I5, ry, kx, nx⟩ => ?_) (fun e s' z => (hx e s' z).elim)
        obtain ⟨t5, f5⟩ := tnk I5
        have I5' := (weak I5).unpinned
        refine seg_at (seg_yield rfl rfl rfl ⟨ys, y, pins, H5, ry, hP, I5', kx, fun cn s6 z ⟨pins', hP', hp'⟩ => ?_⟩)
        obtain ⟨m', hm, w'⟩ := hN _ _ (nx cn)
        have hHB : ∀ b ∈ C.B, H5 b = none := fun b hb => by
          obtain ⟨o, ho⟩ := CO.all _ _ hP b hb
          exact (I5'.pin (b, o) (List.mem_append_right _ (List.mem_cons_of_mem _ ho))).2.1
        have I6 : Inv Y ((a, go) :: pins') σ0 H5 s6 := woken hpn hB I5' hHB z fun p hp => ⟨(CO.pn _ _ hP' p hp).1, hp' p hp, (CO.pn _ _ hP' p hp).2⟩
        refine seg_again rfl (ih m' hm (i + 1) k (ys ++ [y]) s6 s6 (by omega) ⟨pins', H5, hP', I6, T.keep _ _ _ t5 fun b hb o e => z.keep b o (fun hm => hB.bf b hm hb) e, f5, w'⟩)
end
end GX
set_option Elab.async false
set_option linter.all false
set_option maxRecDepth 100000
set_option maxHeartbeats 4000000
namespace GX
open PySem PySem.Spec PyProof.Rows L2 GenW
section
variable {Y : Cx} {C : Con} {A0 : Around} {elt tg iter : Expr} {ifs : List Expr} {scope : Scope} {pos : Pos} {it a : Addr} {fp : List Addr} {tn : Nat → Heap → Prop} {go : Obj} {J : It} {g : TG} {tt : TT} {te : TE} {vs : List Nat} {σ0 : L2.St} {W : Nat → Nat → List V → Hp → Prop}
theorem seg_start (hA : A0.over (.compLoop (.GeneratorExp elt [⟨tg, iter, ifs, 0⟩] scope pos) 0 (.ref it) .none Y.env) [] = Y.A) (hc : Y.calm = true) (hx : ∀ e s, Y.xe e s → False) (hpn : Y.pn = []) (hco : Y.env.scope.isCoroutine = false)
    (CO : C.Ok) (hB : Aprt Y C.B fp a) (hst : ∀ b ∈ fp, b ≠ Y.env.locals ∧ b ∉ Y.fs ∧ (b ∈ Y.ex ∨ Y.s_0.heap.objs.size ≤ b) ∧ ∀ x c, Y.env.cells.lookup x = some c → c ≠ b)
    (T : Turn Y.prog Y.w Y.K tg J fp it tn) (hg : PG Y tg g) (ht : PTs Y ifs tt) (he : PE Y elt te) (turns : Turns J g tt te vs σ0 C W)
    (m i n : Nat) (ys : List V) (s₀ s : Shared) (hmn : m < n) (h : GSt Y C fp tn a go σ0 W i m ys s) :
      Seg (model Y.prog Y.w) A0 (fun n s₀ r s₁ => r = .ok .next ∧ RG Y C a go σ0 n s₀ s₁) (YG Y C a go σ0) n s₀
        (.compStart (.GeneratorExp elt [⟨tg, iter, ifs, 0⟩] scope pos) 0 (.ref it) .none Y.env)
        ((model Y.prog Y.w).den (.compStart (.GeneratorExp elt [⟨tg, iter, ifs, 0⟩] scope pos) 0 (.ref it) .none Y.env)) [] s := by
  have loop := seg_loop (iter := iter) (scope := scope) (pos := pos) hA hc hx hpn hco CO hB hst T hg ht he turns m i n ys s₀ s hmn h
  obtain ⟨pins, H, hP, I, st, fr, w⟩ := h
  show Seg _ A0 _ _ _ s₀ _ ((compStart (.GeneratorExp elt [⟨tg, iter, ifs, 0⟩] scope pos) 0 (.ref it) .none Y.env).onRaise (leaving Y.env)) [] s
  unfold compStart
  rw [Sem.onRaise_eq_wrap]
  show Seg _ A0 _ _ _ s₀ _ ((ask >>= _).wrap _ _ _ _) [] s
  refine seg_bind_wrap (wpAny_askSetting ?_)
  split
  · exact seg_again rfl loop
  · first
      | exact seg_bind_wrap (wpAny_rule (seg_bind_wrap (wpAny_standAt (seg_bind_wrap (T.self _ i s _ _ st (seg_again rfl loop))))))
      | (refine seg_bind_wrap (wpAny_rule ?_); show Seg _ A0 _ _ _ s₀ _ ((standAt iter.pos >>= _).wrap _ _ _ _) [] s; exact seg_bind_wrap (wpAny_standAt (seg_bind_wrap (T.self _ i s _ _ st (seg_again rfl loop)))))
end
/-! ### the generator, as its consumer sees it -/
def Live (Y : Cx) (C : Con) (A0 : Around) (a : Addr) (go : Obj) (σ0 : L2.St) (g n : Nat) (s : Shared) : Prop :=
  s.heap.IsGen a g ∧ s.heap.NoLimit ∧ ∃ gs, s.gens[g]? = some gs ∧ gs.Goes (model Y.prog Y.w) A0 (fun n s₀ r s₁ => r = .ok .next ∧ RG Y C a go σ0 n s₀ s₁) (YG Y C a go σ0) n (.send .none) (s.setGen g .running)
theorem inv_setGen {Y : Cx} {pins : List (Addr × Obj)} {σ : L2.St} {H : Hp} {s : Shared} {g : Nat} {gs : GenState} (I : Inv Y pins σ H s) (hb : gs.bare = true) : Inv Y pins σ H (s.setGen g gs) :=
  ⟨I.ok, I.os, allBare_setGen I.bare hb, I.base, I.loc, I.cell, I.free, I.freeC, I.pin, I.hok, I.len⟩
/-- one next -/
theorem gx_next {Y : Cx} {C : Con} {A : Around} {a : Addr} {go : Obj} {σ0 : L2.St} {g n : Nat} {s : Shared} {Q : Option Value → Shared → Prop} {E : Value → Shared → Prop} (hh : A.handled = none) (hroom : A.depth < recursionLimit)
    (L : Live Y C A.in1 a go σ0 g n s) (hgo : ∀ h : Heap, h.get? a = some go → h.IsGen a g)
    (hY : ∀ ys x v pins H s₁, RelV x v → C.Pn ys pins → Inv Y ((a, go) :: pins) σ0 H s₁ → C.Kx ys x H →
      (C.Cn ys x → ∀ s', Slp C.B s₁ s' → (∃ pins', C.Pn (ys ++ [x]) pins' ∧ ∀ p ∈ pins', s'.heap.get? p.1 = some p.2) → s'.heap.get? a = some go → s'.heap.NoLimit → s'.gens = s₁.gens → ∃ k, n = k + 1 ∧ Live Y C A.in1 a go σ0 g k s') → Q (some v) s₁)
    (hF : ∀ ys pins H s₁, C.Pn ys pins → Inv Y ((a, go) :: pins) σ0 H s₁ → C.Fi ys H → Q none s₁) :
    wpAny (model Y.prog Y.w) A (pyNext (.ref a)) Q E s := by
  obtain ⟨hg, hl, gs, hgs, hgoes⟩ := L
  have hgl : g < s.gens.size := (Array.getElem?_eq_some_iff.mp hgs).1
  refine wpAny_gsz (n := g + 1) hgl (wpAny_pyNext_genexpQ hh hl hroom hg hgs hgoes (fun v s₁ gs' hb hv => ?_) (fun s₁ hp h' hk => ?_))
  · intro hsz
    obtain ⟨ys, x, pins, H, rv, hP, I, kx, kap⟩ := hv
    have hsz1 : g < s₁.gens.size := by
      have q : (s₁.setGen g gs').gens.size = s₁.gens.size := setGen_size _ _ _
      have hsz' : g + 1 ≤ (s₁.setGen g gs').gens.size := hsz
      omega
    refine hY ys x v pins H _ rv hP (inv_setGen I hb) kx fun cn s' z hp ha hl' hgens => ?_
    have z' : Slp C.B s₁ (s'.setGen g .running) := ⟨z.os, allBare_setGen z.bare rfl, fun b o hb e => z.keep b o hb e⟩
    have q := kap cn _ z' hp
    cases n with
    | zero => exact False.elim q
    | succ k => exact ⟨k, rfl, hgo _ ha, hl', gs', by rw [hgens]; exact setGen_at hsz1, q⟩
  · intro _
    obtain ⟨ys, pins, H, hP, I, fi⟩ := hp
    refine hF ys pins H _ hP ?_ fi
    exact (inv_setGen (gs := .finished) (g := g) I rfl).kept (t' := s₁.toks) hk
end GX
set_option Elab.async false
set_option linter.all false
set_option maxRecDepth 100000
set_option maxHeartbeats 4000000
namespace GX
open PySem PySem.Spec PyProof.Rows L2 GenW
/-- a generator expression has been made -/
structure Made (X : Cx) (pins : List (Addr × Obj)) (σ : L2.St) (A0 : Around) (elt tg iter : Expr) (ifs : List Expr) (scope : Scope) (gpos : Pos) (own : List (Str × Nat)) (it a : Addr) (fp : List Addr) (tn : Nat → Heap → Prop) (J : It) (H4 : Hp) (s4 s5 : Shared) (code : Value) (g : Nat) (go : Obj) : Prop where
  outer : Inv X pins σ H4 s4
  inner : Inv (gcx X A0 s4 H4 scope code fp) [(a, go)] (wipe σ (own.map (·.2))) H4 s5
  turn : Turn X.prog X.w X.K tg J fp it tn
  tn0 : tn 0 s5.heap
  fpk : ∀ b ∈ fp, FpOk X pins H4 b ∧ b < s4.heap.objs.size
  alo : s4.heap.objs.size < a
  asz : s5.heap.objs.size = a + 1
  gen : ∀ h : Heap, h.get? a = some go → h.IsGen a g
  gs : s5.gens[g]? = some (.fresh (.compStart (.GeneratorExp elt [⟨tg, iter, ifs, 0⟩] scope gpos) 0 (.ref it) .none (gcx X A0 s4 H4 scope code fp).env))
  ga : s5.heap.get? a = some go
section
variable {X : Cx} {pins : List (Addr × Obj)} {σ : L2.St} {H : Hp} {s : Shared}
theorem gx_make {A0 : Around} {c P : Addr} {elt tg iter : Expr} {ifs : List Expr} {gpos : Pos} {scope : Scope} {own : List (Str × Nat)} {wi : TI} {k : Nat} {R : It → Hp → Prop} {Q' : Value → Shared → Prop}
    (hA0h : A0.handled = none) (hA0f : A0.frames = X.A.frames) (hr : Room k X.A) (TB : GxR.TabB X.base X.mg c P) (hcode : X.env.code = .ref c) (ok : GxOk X.N X.env.scope scope own) (hN : X.N.Nodup) (hi : PI X tg iter wi)
    (hs : ∀ v, genFold iter X.env v = pure v) (I : Inv X pins σ H s) (h : wi σ H fun J H1 => GxR.TabG H1 P ∧ ∀ H2, GxR.Tabbed P H1 H2 → R J H2)
    (hQ : ∀ it a fp tn J H4 s4 s5 code g go, Made X pins σ A0 elt tg iter ifs scope gpos own it a fp tn J H4 s4 s5 code g go → R J H4 → Q' (.ref a) s5) :
    wpAny (model X.prog X.w) X.A (eval (.GeneratorExp elt [⟨tg, iter, ifs, 0⟩] scope gpos) X.env) Q' X.xe s := by
  have hfree : ∀ y ∈ scope.names, y.2 = .free → ∃ c, X.env.cells.lookup y.1 = some c := fun y hy e => by
    rcases ok.blk.free y hy e with k | k
    · exact I.ok.has _ (.inl k)
    · exact I.ok.has _ (.inr k)
  refine wpAny_GeneratorExp_make ok.co (closure_ok hfree) ok.cell ok.dot ok.blk.kind (by have := hr.dp; omega) ?_ hs
  refine thn (hi.run pins s σ H _ I h) fun xv s1 hx => thn hx fun itv s2 h2 => ?_
  obtain ⟨it, fp, tn, J, H2, e, I2, T, st2, f2, ⟨ps, hP, ht⟩, q⟩ := h2
  subst e
  have hPs : s2.heap.get? P = some { cls := .none, data := .fields ps } := I2.hok P _ hP
  have cd : PySem.W.CodeHd s2.heap c P := TB.code.keeps fun b u e => I2.bk b u e
  have sz : ∀ b ∈ fp, b < s2.heap.objs.size := fun b hb => by
    obtain ⟨o, e, _⟩ := T.obj _ _ st2 b hb
    exact Heap.lt_size e
  have fnP : ∀ b ∈ fp, b ≠ P := fun b hb e => by
    have q := (f2 b hb).1
    rw [e, hP] at q
    cases q
  have cont : ∀ (code : Value) (h3 : Heap) (tk : Nat) (ps' : Array Value), Heap.ExtBut P s2.heap h3 → s2.heap.objs.size ≤ h3.objs.size → h3.get? P = some { cls := .none, data := .fields ps' } → (∃ more, ps' = ps ++ more) → TriplesOk ps'.toList →
      wpAny (model X.prog X.w) X.A (builtinsFor X.env.globals X.env.builtins) (fun bi s₄ =>
        ∀ h', h'.Ns s₄.heap.objs.size (fun y => if y = ".0" then some (Value.ref it) else none) → Heap.SameBut s₄.heap.objs.size (s₄.heap.push { cls := .type "frame", data := .dict #[] }) h' →
          Q' (.ref h'.objs.size) { s₄ with
            gens := s₄.gens.push (.fresh (.compStart (.GeneratorExp elt [⟨tg, iter, ifs, 0⟩] scope gpos) 0 (.ref it) .none (genEnv scope (cloFrom X.env.cells scope.names []) s₄.heap.objs.size code bi X.env))),
            toks := s₄.toks + 1 + 1 + 1,
            heap := h'.push { cls := .type "generator", data := .fields #[.int s₄.gens.size 0, .str "<genexpr>" (s₄.toks + 1), .str (X.env.qual ++ "<genexpr>") (s₄.toks + 1 + 1)] } }) X.xe { s2 with heap := h3, toks := tk } := by
    intro code h3 tk ps' hx hsz hP3 hmore ht3
    obtain ⟨more, em⟩ := hmore
    obtain ⟨bm, ob, e1, e2, e3, e4, e5, e6, e7, e8⟩ := TB.bm
    have keep3 : ∀ b u, b ≠ P → s2.heap.get? b = some u → h3.get? b = some u := fun b u hb e => hx b u hb e
    refine wpAny_builtinsFor (m := X.mg) (by rw [I2.ok.glob]; exact (I2.mod.glob.keeps I2.bk).extBut hx TB.gP) e1 e2 (keep3 _ _ e4 (I2.bk _ _ e5)) e6 e7 e8 ?_
    have I4 : Inv X pins σ (upd H2 P (.tbl (ps ++ more))) { s2 with heap := h3, toks := tk } :=
      GxR.inv_tab (more := more) (h' := h3) (g' := s2.gens) (d' := s2.drawn) (t' := tk) I2 hP (fun b u hb e => keep3 b u hb e) (by rw [← em]; exact hP3) I2.bare
    have hT4 : GxR.Tabbed P H2 (upd H2 P (.tbl (ps ++ more))) := ⟨⟨ps ++ more, upd_same, by rw [← em]; exact ht3⟩, fun b hb => upd_ne hb⟩
    have fk : ∀ b ∈ fp, FpOk X pins (upd H2 P (.tbl (ps ++ more))) b ∧ b < h3.objs.size := fun b hb => by
      refine ⟨⟨?_, (f2 b hb).2⟩, Nat.lt_of_lt_of_le (sz b hb) hsz⟩
      rw [upd_ne (fnP b hb)]
      exact (f2 b hb).1
    intro h' hn' hs'
    have hszh : h'.objs.size = h3.objs.size + 1 := by rw [hs'.1, Heap.size_push]
    have keep' : ∀ b o, h3.get? b = some o → h'.get? b = some o := fun b o e => hs'.extBut b o (Nat.ne_of_lt (Heap.lt_size e)) (Heap.get?_push_of_some _ e)
    have keep5 : ∀ b o, h3.get? b = some o → (h'.push { cls := .type "generator", data := .fields #[.int s2.gens.size 0, .str "<genexpr>" (tk + 1), .str (X.env.qual ++ "<genexpr>") (tk + 1 + 1)] }).get? b = some o := fun b o e => Heap.get?_push_of_some _ (keep' b o e)
    have hat : (h'.push { cls := .type "generator", data := .fields #[.int s2.gens.size 0, .str "<genexpr>" (tk + 1), .str (X.env.qual ++ "<genexpr>") (tk + 1 + 1)] }).get? h'.objs.size = some { cls := .type "generator", data := .fields #[.int s2.gens.size 0, .str "<genexpr>" (tk + 1), .str (X.env.qual ++ "<genexpr>") (tk + 1 + 1)] } := Heap.get?_push_size _ rfl
    have IY : Inv (gcx X A0 { s2 with heap := h3, toks := tk } (upd H2 P (.tbl (ps ++ more))) scope code fp) [] (wipe σ (own.map (·.2))) (upd H2 P (.tbl (ps ++ more)))
        { s2 with heap := h'.push { cls := .type "generator", data := .fields #[.int s2.gens.size 0, .str "<genexpr>" (tk + 1), .str (X.env.qual ++ "<genexpr>") (tk + 1 + 1)] }, gens := s2.gens.push (.fresh (.compStart (.GeneratorExp elt [⟨tg, iter, ifs, 0⟩] scope gpos) 0 (.ref it) .none (genEnv scope (cloFrom X.env.cells scope.names []) h3.objs.size code builtinsNs X.env))), toks := tk + 1 + 1 + 1 } :=
      gen_start (s := { s2 with heap := h3, toks := tk }) I4 ok hN fk hA0h (hA0f.trans I2.ok.frames) (hn'.push _) keep5 (I2.bare.push rfl)
    have ano : ∀ b, b < h3.objs.size → h'.objs.size ≠ b := fun b hb => by rw [hszh]; omega
    refine hQ it h'.objs.size fp tn J _ { s2 with heap := h3, toks := tk } _ code s2.gens.size _ ⟨I4, IY.pins_of fun p hp => ?_, T, ?_, fk, ?_, ?_, ?_, Array.getElem?_push_size .., hat⟩ (q _ hT4)
    · rw [List.mem_singleton.mp hp]
      refine ⟨hat, I4.hok.fresh (by show h3.objs.size ≤ h'.objs.size; omega), ?_, fun hb => ?_, fun v z => by cases z⟩
      · show h'.objs.size ≠ h3.objs.size
        omega
      · obtain ⟨_, o, ho, _⟩ := (I4.stack).mem hb
        exact ano _ (Heap.lt_size ho) rfl
    · exact T.keep _ _ _ st2 fun b hb o e => keep5 b o (keep3 b o (fnP b hb) e)
    · show h3.objs.size < h'.objs.size
      omega
    · show (h'.push _).objs.size = h'.objs.size + 1
      rw [Heap.size_push]
    · intro h hh
      exact ⟨_, _, _, hh, rfl, rfl, rfl⟩
  refine ⟨I2.nolimit, ?_⟩
  cases hf : codeAmong gpos ps.toList with
  | none =>
    refine wpAny_genexprCodeX hcode (cd.code hPs ht) (cd.tab hPs) hf fun c' h' tk hx hge hlt hco' _ htab' _ => ?_
    obtain ⟨o1, vs, f1, tf, fl, tg', inF, tx, tt, op, _, _, _, _, _, _, _, _, _, htr, _⟩ := hco'
    exact cont _ h' tk _ hx (Nat.le_trans hge (Nat.le_of_lt hlt)) htab'.2 ⟨_, rfl⟩ htr
  | some cv =>
    refine wpAny_genexprCode_hit hcode (cd.code hPs ht) hf ?_
    exact cont cv s2.heap s2.toks ps (Heap.ExtBut.refl _ _) (Nat.le_refl _) hPs ⟨#[], by simp⟩ ht
end
end GX
set_option Elab.async false
set_option linter.all false
set_option maxRecDepth 100000
set_option maxHeartbeats 4000000
namespace GX
open PySem PySem.Spec PyProof.Rows L2 GenW
theorem over_comp {A : Around} {elt : Expr} {gs : List Comprehension} {scope : Scope} {pos : Pos} {it acc : Value} {env : Env} : A.over (.compLoop (.GeneratorExp elt gs scope pos) 0 it acc env) [] = A.deeper env := by
  first
    | rfl
    | (obtain ⟨hd, d, fr, gs, u⟩ := A; simp [Around.over, Around.deeper, marksOver, frameCount, unitsOf, envsOf, guardsOf, pushEnvs, pushGuards, Code.envs, Code.env?, Code.isFrame, Code.guards, Code.isGuard, Code.weight, Code.frames, Code.isCreation, Code.isCaller, Code.cUnits])
section
variable {X : Cx} {pins : List (Addr × Obj)} {σ : L2.St} {A0 : Around} {elt tg iter : Expr} {ifs : List Expr} {scope : Scope} {gpos : Pos} {own : List (Str × Nat)} {it a : Addr} {fp : List Addr} {tn : Nat → Heap → Prop} {J : It} {H4 : Hp} {s4 s5 : Shared} {code : Value} {g : Nat} {go : Obj}
/-- behind it: the outer frame again -/
theorem Made.back (M : Made X pins σ A0 elt tg iter ifs scope gpos own it a fp tn J H4 s4 s5 code g go) {pl : List (Addr × Obj)} {σ' : L2.St} {H' : Hp} {s' : Shared} (I : Inv (gcx X A0 s4 H4 scope code fp) pl σ' H' s') : Inv X pins σ H' s' := by
  have os : s'.os = s4.os := I.os
  have un : Un (frs X.stack) fp H4 H' s4.heap s'.heap := I.base
  have hok : HOk X.prog X.w H' s'.heap := I.hok
  have bare := I.bare
  obtain ⟨h', g', d', t', o'⟩ := s'
  obtain rfl : o' = s4.os := os
  exact M.outer.call (h' := h') (g' := g') (d' := d') (t' := t') (ch := fp) un hok bare fun b hb => ⟨(M.fpk b hb).1.2.2.2.1, (M.fpk b hb).1.2.1, (M.fpk b hb).1.2.2.2.2.1, (M.fpk b hb).1.2.2.2.2.2⟩
theorem Made.stat (M : Made X pins σ A0 elt tg iter ifs scope gpos own it a fp tn J H4 s4 s5 code g go) : ∀ b ∈ fp, b ≠ (gcx X A0 s4 H4 scope code fp).env.locals ∧ b ∉ (gcx X A0 s4 H4 scope code fp).fs ∧ (b ∈ (gcx X A0 s4 H4 scope code fp).ex ∨ (gcx X A0 s4 H4 scope code fp).s_0.heap.objs.size ≤ b) ∧ ∀ x c, (gcx X A0 s4 H4 scope code fp).env.cells.lookup x = some c → c ≠ b := fun b hb =>
  ⟨(M.inner.ok.exf b hb).1, M.inner.ok.exfs b hb, .inl hb, fun x c e => (M.inner.ok.exf b hb).2 x c e⟩
/-- the consumer's objects: none, or one that is new -/
theorem Made.apart0 (M : Made X pins σ A0 elt tg iter ifs scope gpos own it a fp tn J H4 s4 s5 code g go) : Aprt (gcx X A0 s4 H4 scope code fp) [] fp a :=
  ⟨fun b hb => (by cases hb), fun b hb => (by cases hb), fun b hb => (by cases hb), fun b hb => (by cases hb), fun b hb => (by cases hb), fun hb => (by cases hb), fun hb =>
    absurd (Nat.lt_trans (M.fpk a hb).2 M.alo) (Nat.lt_irrefl _)⟩
/-- the fresh generator, for a consumer whose objects stand in a later state -/
theorem Made.live (M : Made X pins σ A0 elt tg iter ifs scope gpos own it a fp tn J H4 s4 s5 code g go) {C : Con} {g1 : TG} {tt : TT} {te : TE} {W : Nat → Nat → List V → Hp → Prop} {m : Nat} {s6 : Shared} {pins' : List (Addr × Obj)} (CO : C.Ok) (hB : Aprt (gcx X A0 s4 H4 scope code fp) C.B fp a)
    (co : scope.isCoroutine = false)
    (hg : PG (gcx X A0 s4 H4 scope code fp) tg g1) (ht : PTs (gcx X A0 s4 H4 scope code fp) ifs tt) (he : PE (gcx X A0 s4 H4 scope code fp) elt te) (turns : Turns J g1 tt te (own.map (·.2)) (wipe σ (own.map (·.2))) C W) (w0 : W 0 m [] H4)
    (hHB : ∀ b ∈ C.B, H4 b = none) (z : Slp C.B s5 s6) (hP : C.Pn [] pins') (hp : ∀ p ∈ pins', s6.heap.get? p.1 = some p.2) (hgens : s6.gens = s5.gens) (hl : s6.heap.NoLimit) :
    Live (gcx X A0 s4 H4 scope code fp) C A0 a go (wipe σ (own.map (·.2))) g (m + 1) s6 := by
  have ga6 : s6.heap.get? a = some go := z.keep a go hB.na M.ga
  have z' : Slp C.B s5 (s6.setGen g .running) := ⟨z.os, allBare_setGen z.bare rfl, z.keep⟩
  have I6 : Inv (gcx X A0 s4 H4 scope code fp) ((a, go) :: pins') (wipe σ (own.map (·.2))) H4 (s6.setGen g .running) := woken rfl hB M.inner hHB z' fun p hp' => ⟨(CO.pn _ _ hP p hp').1, hp p hp', (CO.pn _ _ hP p hp').2⟩
  refine ⟨M.gen _ ga6, hl, _, (by rw [hgens]; exact M.gs), ?_⟩
  refine ⟨rfl, ?_⟩
  exact seg_start over_comp rfl (fun _ _ z => z) rfl co CO hB M.stat M.turn hg ht he turns m 0 (m + 1) [] _ _ (Nat.lt_succ_self _)
    ⟨pins', H4, hP, I6, M.turn.keep _ _ _ M.tn0 fun b hb o e => z.keep b o (fun hm => hB.bf b hm hb) e, fun b hb => (M.fpk b hb).1.1, w0⟩
end
/-! ### all, any -/
def conAll (Q : VK) : Con := ⟨[], fun _ pins => pins = [], fun _ y H => ∃ c, y = .bl c ∧ (c = false → Q (.bl false) H), fun _ y => y = .bl true, fun _ H => Q (.bl true) H⟩
theorem ok_all (Q : VK) : (conAll Q).Ok := ⟨fun _ _ h p hp => (by rw [show _ = [] from h] at hp; cases hp), fun _ _ _ b hb => (by cases hb)⟩
theorem all_loop {Y : Cx} {A : Around} {a : Addr} {go : Obj} {σ0 : L2.St} {g : Nat} {Q : VK} {R : Result → Shared → Prop} (hh : A.handled = none) (hd : A.depth < recursionLimit) (hgo : ∀ h : Heap, h.get? a = some go → h.IsGen a g)
    (hR : ∀ b s' H, Inv Y [(a, go)] σ0 H s' → Q (.bl b) H → R (.ok (.ret (.bool b))) s') : ∀ (n : Nat) (s : Shared), Live Y (conAll Q) A.in1.in1 a go σ0 g n s → codeAny (model Y.prog Y.w) A (.builtin "all.loop" ⟨[.ref a], []⟩) R s := by
  intro n
  induction n with
  | zero =>
    intro s L
    refine codeAny_builtin F.entry_all_loop ?_
    rw [Around.under_plainId F.plain_all_loop _]
    show wpAny _ A.in1 (pyNext (.ref a) >>= _) _ _ s
    refine wpAny_bind (gx_next (A := A.in1) hh hd L hgo (fun ys x v pins H s₁ rv hP I kx kap => ?_) fun ys pins H s₁ hP I fi => ?_)
    · obtain ⟨c, rfl, hc⟩ := kx
      obtain rfl : v = .bool c := rv
      obtain rfl : pins = [] := hP
      refine wpAny_bind (wpAny_holding (wpAny_truthy_bool ?_))
      refine wpAny_bind (wpAny_letGo ?_)
      cases c with
      | true =>
        obtain ⟨k, hk, _⟩ := kap rfl s₁ ⟨rfl, I.bare, fun _ _ _ e => e⟩ ⟨[], rfl, fun p hp => (by cases hp)⟩ (I.pin (a, go) (List.mem_append_right _ List.mem_cons_self)).1 I.nolimit rfl
        cases hk
      | false =>
        simp only [Bool.false_eq_true, if_false]
        exact wpAny_bind (wpAny_rule (wpAny_pure (hR false s₁ H I (hc rfl))))
    · obtain rfl : pins = [] := hP
      exact wpAny_bind (wpAny_rule (wpAny_pure (hR true s₁ H I fi)))
  | succ n ih =>
    intro s L
    refine codeAny_builtin F.entry_all_loop ?_
    rw [Around.under_plainId F.plain_all_loop _]
    show wpAny _ A.in1 (pyNext (.ref a) >>= _) _ _ s
    refine wpAny_bind (gx_next (A := A.in1) hh hd L hgo (fun ys x v pins H s₁ rv hP I kx kap => ?_) fun ys pins H s₁ hP I fi => ?_)
    · obtain ⟨c, rfl, hc⟩ := kx
      obtain rfl : v = .bool c := rv
      obtain rfl : pins = [] := hP
      refine wpAny_bind (wpAny_holding (wpAny_truthy_bool ?_))
      refine wpAny_bind (wpAny_letGo ?_)
      cases c with
      | true =>
        obtain ⟨k, hk, L'⟩ := kap rfl s₁ ⟨rfl, I.bare, fun _ _ _ e => e⟩ ⟨[], rfl, fun p hp => (by cases hp)⟩ (I.pin (a, go) (List.mem_append_right _ List.mem_cons_self)).1 I.nolimit rfl
        cases hk
        simp only [if_true]
        exact wpAny_pure ⟨plainId_quiet F.plain_all_loop _, ih s₁ L'⟩
      | false =>
        simp only [Bool.false_eq_true, if_false]
        exact wpAny_bind (wpAny_rule (wpAny_pure (hR false s₁ H I (hc rfl))))
    · obtain rfl : pins = [] := hP
      exact wpAny_bind (wpAny_rule (wpAny_pure (hR true s₁ H I fi)))
/-- all(elt for tg in iter if ..) -/
def tAllG (P : Addr) (wi : TI) (g : TG) (tt : TT) (te : TE) (vs : List Nat) : TE := fun σ H Q => wi σ H fun J H1 => GxR.TabG H1 P ∧ ∀ H2, GxR.Tabbed P H1 H2 → ∃ W : Nat → Nat → List V → Hp → Prop, (∃ m, W 0 m [] H2) ∧ Turns J g tt te vs (wipe σ vs) (conAll Q) W
section
variable {X : Cx} {c P : Addr} {elt tg iter : Expr} {ifs : List Expr} {p pos gpos : Pos} {scope : Scope} {own : List (Str × Nat)} {wi : TI} {g : TG} {tt : TT} {te : TE} {k : Nat}
theorem pe_allG (hr : Room k X.A) (hgl : Gl X "all") (hm : X.mg "all" = none) (TB : GxR.TabB X.base X.mg c P) (hcode : X.env.code = .ref c) (ok : GxOk X.N X.env.scope scope own) (hN : X.N.Nodup) (hi : PI X tg iter wi)
    (hg : ∀ (s : Shared) (H : Hp) (code : Value) (fp : List Addr), PG (gcx X X.A.in1.in1 s H scope code fp) tg g) (ht : ∀ (s : Shared) (H : Hp) (code : Value) (fp : List Addr), PTs (gcx X X.A.in1.in1 s H scope code fp) ifs tt)
    (hel : ∀ (s : Shared) (H : Hp) (code : Value) (fp : List Addr), PE (gcx X X.A.in1.in1 s H scope code fp) elt te) (hs : ∀ v, genFold iter X.env v = pure v := by intro _; rfl)
    (he : starEach [.GeneratorExp elt [⟨tg, iter, ifs, 0⟩] scope gpos] X.env = (false, eval (.GeneratorExp elt [⟨tg, iter, ifs, 0⟩] scope gpos) X.env) :: starEach [] X.env := by rfl) :
    PE X (.Call (.Name "all" p) [.GeneratorExp elt [⟨tg, iter, ifs, 0⟩] scope gpos] [] pos) (tAllG P wi g tt te (own.map (·.2))) := by
  refine ⟨fun pins s σ H Q I h => ?_⟩
  refine wpAny_Call_Name_kw (ld_blt I hgl hm (show bootBuiltins "all" = some (.builtin "all") by decide +kernel) ?_)
  refine PyProof.Rows.callWith_builtin1 ?_ he (by rfl)
  rw [he]
  show wpAny _ _ (spliced ((false, eval (.GeneratorExp elt [⟨tg, iter, ifs, 0⟩] scope gpos) X.env) :: backTo pos (starEach [] X.env))) _ _ s
  refine Calls.spliced_cons (gx_make (A0 := X.A.in1.in1) (own := own) (R := fun J H2 => ∃ W : Nat → Nat → List V → Hp → Prop, (∃ m, W 0 m [] H2) ∧ Turns J g tt te (own.map (fun q : Str × Nat => q.2)) (wipe σ (own.map (fun q : Str × Nat => q.2))) (conAll Q) W) hr.hd rfl hr TB hcode ok hN hi hs I h fun it a fp tn J H4 s4 s5 code gn go M q => ?_)
  obtain ⟨W, ⟨m, w0⟩, turns⟩ := q
  refine Calls.spliced_nil ?_
  have L : Live (gcx X X.A.in1.in1 s4 H4 scope code fp) (conAll Q) X.A.in1.in1 a go (wipe σ (own.map (·.2))) gn (m + 1) s5 :=
    M.live (s6 := s5) (pins' := []) (ok_all Q) M.apart0 ok.co (hg s4 H4 code fp) (ht s4 H4 code fp) (hel s4 H4 code fp) turns w0 (fun b hb => (by cases hb)) ⟨rfl, M.inner.bare, fun _ _ _ e => e⟩ rfl (fun p hp => (by cases hp)) rfl M.inner.nolimit
  refine call_function_tree F.kind_all F.plain_all F.entry_all (F.args_all1 _) ?_
  unfold Builtin.«all»
  refine wpAny_bind (m := oneArg "all" _) (wpAny_pure ?_)
  refine wpAny_bind (wpAny_pyIter_gen (M.gen _ M.ga) ?_)
  refine wpAny_pure ⟨plainId_quiet F.plain_all_loop _, all_loop (Y := gcx X X.A.in1.in1 s4 H4 scope code fp) hr.hd hr.depth M.gen (fun b s' H' I' q' => ?_) (m + 1) s5 L⟩
  exact ⟨.bl b, H', M.back I', rfl, q'⟩
end
end GX
set_option Elab.async false
set_option linter.all false
set_option maxRecDepth 100000
set_option maxHeartbeats 4000000
namespace GX
open PySem PySem.Spec PyProof.Rows L2 GenW
/-! ### tuple -/
/-! ### room, scopes, turns -/
theorem Room.gx2 {k : Nat} {X : Cx} (r : Room (k + 1) X.A) {s : Shared} {H : Hp} {scope : Scope} {code : Value} {fp : List Addr} : Room k (gcx X X.A.in1.in1 s H scope code fp).A :=
  ⟨r.hd, by have := r.dp; show X.A.depth + 1 + 3 * k + 5 < _; omega, by have := r.un; show X.A.units + 1 + 1 + 3 + 16 * k + 200 < _; omega⟩
def gxC (N : List Str) (sc scope : Scope) (own : List (Str × Nat)) : Bool :=
  blkC N sc scope own && !scope.isCoroutine && scope.names.all (fun y => match y.2 with | .cell => false | _ => true) && (match scope.names.lookup (".0" : Str) with | some .local => true | _ => false)
theorem gxOk_by {N : List Str} {sc scope : Scope} {own : List (Str × Nat)} (h : gxC N sc scope own = true) : GxOk N sc scope own := by
  unfold gxC at h
  simp only [Bool.and_eq_true] at h
  obtain ⟨⟨⟨h1, h2⟩, h3⟩, h4⟩ := h
  refine ⟨blkOk_by h1, by simpa using h2, fun y hy e => ?_, ?_⟩
  · have q := List.all_eq_true.mp h3 y hy
    rw [e] at q
    cases q
  · split at h4
    · assumption
    · cases h4
/-- the turns over a walk of n: Pv by the turn, what is out, the heap -/
theorem turns_it {J : It} {n : Nat} {G : Hp → Prop} {Yd : Nat → Hp → V → Hp → Prop} (w : Walk J n G Yd) {g : TG} {tt : TT} {te : TE} {vs : List Nat} {σ0 : L2.St} {C : Con} {H : Hp} (Pv : Nat → List V → Hp → Prop) (h0 : Pv 0 [] H) (hG : ∀ i ys H, i ≤ n → Pv i ys H → G H)
    (hs : ∀ i x ys H H', i < n → Pv i ys H → Yd i H x H' → g x σ0 H' fun σ2 H2 => wipe σ2 vs = σ0 ∧ tt σ2 H2 fun b H3 =>
      if b = true then te σ2 H3 fun y H4 => C.Kx ys y H4 ∧ (C.Cn ys y → Pv (i + 1) (ys ++ [y]) H4) else Pv (i + 1) ys H3) (hd : ∀ ys H, Pv n ys H → C.Fi ys H) :
    ∃ W : Nat → Nat → List V → Hp → Prop, (∃ m, W 0 m [] H) ∧ Turns J g tt te vs σ0 C W := by
  refine ⟨fun i m ys H => m = n - i ∧ i ≤ n ∧ Pv i ys H, ⟨n, by simp, Nat.zero_le _, h0⟩, ?_⟩
  rintro i m ys H ⟨rfl, hi, p⟩
  have q := hG i ys H hi p
  by_cases hlt : i < n
  · exact .inr ⟨w.goes i H hlt q, Pv (i + 1), fun ys' H' p' => ⟨n - (i + 1), by omega, rfl, hlt, p'⟩, fun x H' y => hs i x ys H H' hlt p (w.yields i H x H' hlt q y)⟩
  · have e : i = n := by omega
    subst e
    exact .inl ⟨w.stops H q, hd ys H p⟩
end GX
set_option Elab.async false
set_option linter.all false
set_option maxRecDepth 100000
set_option maxHeartbeats 4000000
namespace GX
open PySem PySem.Spec PyProof.Rows L2
open C8 (Cal pe_c)
/-! ### a def of the text with its code object -/
structure Dfn (K : PySem.W.Frag) (mg : Str → Option Value) (x : Str) (st : Stmt) (f c : Addr) : Prop where
  ex : ∃ (oc : Value) (od : Option Addr) (kV doc pm : Value) (an : Option Addr) (ct : Value) (osl : Array (Option Value)),
    K.lookup f = some ⟨oc, od, .func (PySem.W.fnOf x x (defArgs st) (defBody st) (defScope st) .none kV doc pm an (.ref c) ct), osl⟩
  hcd : PySem.W.codeIn K (.ref c) x = true
  kp : PySem.W.keepIn K (.ref f) = true
  mgf : mg x = some (.ref f)
section
variable {P : Program} {w : World} {K : PySem.W.Frag} {mg : Str → Option Value} {base : Heap}
theorem cal {x : Str} {st : Stmt} {f c : Addr} {N ps : List Str} {k : Nat} {sp : Sp} (D : Dfn K mg x st f c)
    (hb : ∀ (kV doc pm : Value) (an : Option Addr) (cdv ct : Value) (us : List Value), us.length = ps.length → bindArgs (PySem.W.fnOf x x (defArgs st) (defBody st) (defScope st) .none kV doc pm an cdv ct) ⟨us, []⟩ = pure (ps.zip us))
    (S : FnScope N ps (defScope st)) (len : ∀ vs H Q E, sp vs H Q E → vs.length = ps.length)
    (hbody : ∀ (A : Around) (outer : List Env) (s : Shared) (H : Hp) (vs : List V) (Q : VK) (E : XK), Room k (A.deeper (envOfC x (defScope st) s.heap.objs.size f (.ref c))) → sp vs H Q E →
      ∃ t, PSs (cxOf CX0 P w K mg base N x (defScope st) f (.ref c) A outer s H E).nox (defBody st) t ∧ t { nx := fun _ H' => Q .non H', rt := Q } (start N vs) H) : Cal P w K mg base (k + 1) x sp [] := by
  obtain ⟨oc, od, kV, doc, pm, an, ct, osl, lk⟩ := D.ex
  refine ⟨f, _, ps, [], fn_of lk D.hcd S len (fun A outer s H vs Q E hr hsp => ?_), D.mgf, D.kp, .all (hb kV doc pm an (.ref c) ct), .nil⟩
  obtain ⟨t, h, q⟩ := hbody A outer s H vs Q E hr hsp
  exact ⟨t, h.nox, q⟩
end
section
variable {P : Program} {w : World} {K : PySem.W.Frag} {mg : Str → Option Value} {base : Heap}
/-- .. for the law itself -/
theorem fnok {x : Str} {st : Stmt} {f c : Addr} {N ps : List Str} {k : Nat} {sp : Sp} {oc kV doc pm ct : Value} {od an : Option Addr} {osl : Array (Option Value)}
    (lk : K.lookup f = some ⟨oc, od, .func (PySem.W.fnOf x x (defArgs st) (defBody st) (defScope st) .none kV doc pm an (.ref c) ct), osl⟩) (hcd : PySem.W.codeIn K (.ref c) x = true)
    (S : FnScope N ps (defScope st)) (len : ∀ vs H Q E, sp vs H Q E → vs.length = ps.length)
    (hbody : ∀ (A : Around) (outer : List Env) (s : Shared) (H : Hp) (vs : List V) (Q : VK) (E : XK), Room k (A.deeper (envOfC x (defScope st) s.heap.objs.size f (.ref c))) → sp vs H Q E →
      ∃ t, PSs (cxOf CX0 P w K mg base N x (defScope st) f (.ref c) A outer s H E).nox (defBody st) t ∧ t { nx := fun _ H' => Q .non H', rt := Q } (start N vs) H) :
    FnOk P w K mg base CX0 (k + 1) f (PySem.W.fnOf x x (defArgs st) (defBody st) (defScope st) .none kV doc pm an (.ref c) ct) ps sp := by
  refine fn_of lk hcd S len (fun A outer s H vs Q E hr hsp => ?_)
  obtain ⟨t, h, q⟩ := hbody A outer s H vs Q E hr hsp
  exact ⟨t, h.nox, q⟩
end
/-! ### heaps: all but X stands -/
def Keep (X : List Addr) (H H' : Hp) : Prop := ∀ b o, H b = some o → b ∉ X → H' b = some o
theorem Keep.refl {X : List Addr} {H : Hp} : Keep X H H := fun _ _ e _ => e
theorem Keep.trans {X : List Addr} {H H1 H2 : Hp} (a : Keep X H H1) (b : Keep X H1 H2) : Keep X H H2 := fun c o e n => b c o (a c o e n) n
theorem Keep.mono {X Y : List Addr} {H H' : Hp} (a : Keep X H H') (h : ∀ b ∈ X, b ∈ Y) : Keep Y H H' := fun c o e n => a c o e fun z => n (h c z)
theorem Keep.new {X : List Addr} {H : Hp} {p : Addr} {o : HO} (n : H p = none) : Keep X H (upd H p o) := fun b u e _ => by rw [upd_ne (ne_of_none e n)]; exact e
theorem Keep.put {X : List Addr} {H : Hp} {p : Addr} {o : HO} (h : p ∈ X) : Keep X H (upd H p o) := fun b u e n => by rw [upd_ne (fun z => n (by rw [z]; exact h))]; exact e
/-- the tables of the defs that hold generator expressions -/
def Tabs (Ts : List Addr) (H : Hp) : Prop := ∀ P ∈ Ts, GxR.TabG H P
theorem Tabs.nott {Ts : List Addr} {H : Hp} (t : Tabs Ts H) {b : Addr} {o : HO} (e : H b = some o) (h : ∀ ps, o ≠ .tbl ps) : b ∉ Ts := fun z => by
  obtain ⟨ps, q, _⟩ := t b z
  rw [e] at q
  exact h ps (Option.some.inj q)
theorem Tabs.none {Ts : List Addr} {H : Hp} (t : Tabs Ts H) {b : Addr} (e : H b = none) : b ∉ Ts := fun z => by
  obtain ⟨ps, q, _⟩ := t b z
  rw [e] at q
  cases q
theorem Tabs.tup {Ts : List Addr} {H : Hp} (t : Tabs Ts H) {b : Addr} {xs : List V} (e : H b = some (.tup xs)) : b ∉ Ts := t.nott e fun _ z => by cases z
theorem Tabs.lst {Ts : List Addr} {H : Hp} (t : Tabs Ts H) {b : Addr} {xs : List V} (e : H b = some (.lst xs)) : b ∉ Ts := t.nott e fun _ z => by cases z
theorem Tabs.upd {Ts : List Addr} {H : Hp} (t : Tabs Ts H) {p : Addr} {o : HO} (h : p ∉ Ts) : Tabs Ts (L2.upd H p o) := fun b hb => by
  obtain ⟨ps, q, r⟩ := t b hb
  exact ⟨ps, by rw [upd_ne (fun z => h (by rw [← z]; exact hb))]; exact q, r⟩
/-- behind a generator expression: its table may have grown -/
theorem Tabs.tabbed {Ts : List Addr} {H H' : Hp} {P : Addr} (t : Tabs Ts H) (h : GxR.Tabbed P H H') : Tabs Ts H' := fun b hb => by
  by_cases e : b = P
  · rw [e]; exact h.1
  · obtain ⟨ps, q, r⟩ := t b hb
    exact ⟨ps, by rw [h.2 b e]; exact q, r⟩
theorem Keep.tabbed {X : List Addr} {H H' : Hp} {P : Addr} (hP : P ∈ X) (h : GxR.Tabbed P H H') : Keep X H H' := fun b o e n => by rw [h.2 b (fun z => n (by rw [z]; exact hP))]; exact e
/-- what a def that reads and makes leaves: the tables may have grown -/
structure Aft (Ts : List Addr) (H H' : Hp) : Prop where
  kp : Keep Ts H H'
  tb : Tabs Ts H'
theorem Aft.trans {Ts : List Addr} {H H1 H2 : Hp} (a : Aft Ts H H1) (b : Aft Ts H1 H2) : Aft Ts H H2 := ⟨a.kp.trans b.kp, b.tb⟩
theorem Aft.refl {Ts : List Addr} {H : Hp} (t : Tabs Ts H) : Aft Ts H H := ⟨Keep.refl, t⟩
theorem Aft.new {Ts : List Addr} {H : Hp} {p : Addr} {o : HO} (t : Tabs Ts H) (n : H p = Option.none) : Aft Ts H (L2.upd H p o) := ⟨Keep.new n, t.upd (t.none n)⟩
theorem Aft.tup {Ts : List Addr} {H H' : Hp} (a : Aft Ts H H') (t : Tabs Ts H) {b : Addr} {xs : List V} (e : H b = some (.tup xs)) : H' b = some (.tup xs) := a.kp b _ e (t.tup e)
theorem Aft.lst {Ts : List Addr} {H H' : Hp} (a : Aft Ts H H') (t : Tabs Ts H) {b : Addr} {xs : List V} (e : H b = some (.lst xs)) : H' b = some (.lst xs) := a.kp b _ e (t.lst e)
/-! ### the law's end with the tables of its defs -/
def TabOf (K : PySem.W.Frag) (mg : Str → Option Value) (h : Heap) (x : Str) : Prop := ∀ (fa c P : Addr) (o : Obj) (fd : FuncData) (e : Value) (dd : Option Addr) (vs : Array Value) (sl : Array (Option Value)),
  mg x = some (.ref fa) → K.lookup fa = some o → o.data = .func fd → fd.code = .ref c → K.lookup c = some ⟨e, dd, .fields vs, sl⟩ → vs[11]? = some (.ref P) → h.get? P = some { cls := .none, data := .fields #[] }
theorem walk_defs {l : PySem.W.OpenLaw} {n k : Nat} {q : Program} {loose : List Str} {XP : (Str → Option Value) → Heap → Prop} {YP : World → Heap → Prop} {d : DefRec} {K : Params → PySem.W.Frag} {CX : World → CXT} {x : Str}
    (hn : l.most = some n) (hn2 : n ≤ sizeLine) (hdf : d.params.defaults = []) (hr : Room k callerA) (hY : ∀ (w : World) (h : Heap), YP w h → (K w.params).In h)
    (F : ∀ (w : World) (mg : Str → Option Value) (fa : Addr) (h : Heap), YP w h → (K w.params).In h → h.Ns mainGlobals mg → mg d.name = some (.ref fa) → (∀ y : Str, ((recsOf q).any fun e => e.name == y) = true → TabOf (K w.params) mg h y) → LamX.LawAtS l w (K w.params) (CX w) k n x mg fa h)
    (hCX : ∀ (w : World) (H : Hp) (s : Shared) (e : Value) (s' : Shared), CX w [] H s (fun _ _ _ => False) e s' → False) :
    PySem.W.WalkO q loose XP YP l.row.toRowW d [] (fun f vs => PySem.call f vs) := by
  refine Att.attach_callB hn hdf fun w s₀ s₁ mg mb fa o pm cd doc a vs ns G Y ho hd hcd hmg hobj hints hlen hbits hg => ?_
  have KX := hY w _ Y
  have own : ∀ y : Str, ((recsOf q).any fun e => e.name == y) = true → TabOf (K w.params) mg s₁.heap y := fun y hrec fa c P o1 fd1 e dd vs1 sl k0 k1 k2 k3 k4 k5 => by
    obtain ⟨dL, hm, hn1⟩ := List.any_eq_true.mp hrec
    have hn2 : dL.name = y := beq_iff_eq.mp hn1
    obtain ⟨a', o', fd', c', P', h1, h2, h3, h4, h5, h6⟩ := G.T.tab dL hm
    rw [hn2, k0] at h1
    cases h1
    have g1 := KX _ _ k1
    rw [g1] at h2
    cases h2
    rw [k2] at h3
    cases h3
    rw [k3] at h4
    cases h4
    obtain ⟨⟨oc, vc, e1, _, e3, e4⟩, hP⟩ := h6
    have g2 := KX _ _ k4
    rw [g2] at e1
    cases e1
    cases e3
    rw [k5] at e4
    cases e4
    exact hP
  obtain ⟨fd, cs, sp, hT, nT, C, hb, hsp, hF⟩ := F w mg fa _ Y KX G.T.g hmg own
  exact LamX.law_callTs KX G.T.g G.T.b G.T.builtins G.T.nolimit hg hT nT C G.T.bmain hobj hints (Nat.le_trans hlen hn2) hr hF hb (fun H hH hS => hsp H a ns hlen hbits hH hS) fun H e s' => hCX w H s₁ e s'
theorem codeHd_of {K : PySem.W.Frag} {h : Heap} (X : K.In h) {c P : Addr} {dd : Option Addr} {vs : Array Value} {sl : Array (Option Value)} {file : Str} {tf tg tt : Tok} {flags text : Int} {inF : Bool} (lc : K.lookup c = some ⟨.type "code", dd, .fields vs, sl⟩)
    (e : vs[11]? = some (.ref P) ∧ vs.getD 11 .none = .ref P ∧ vs.getD 18 .none = .str file tf ∧ vs.getD 7 .none = .int flags tg ∧ vs.getD 9 .none = .bool inF ∧ vs.getD 10 .none = .int text tt ∧ c ≠ P) : PySem.W.CodeHd h c P :=
  ⟨_, vs, file, tf, flags, tg, inF, text, tt, X c _ lc, rfl, rfl, e.1, e.2.1, e.2.2.1, e.2.2.2.1, e.2.2.2.2.1, e.2.2.2.2.2.1, e.2.2.2.2.2.2⟩
theorem tabB_of {base : Heap} {mg : Str → Option Value} {c P : Addr} (t : LamX.TabB base mg c P) : GxR.TabB base mg c P := ⟨t.code, t.bm, t.gP⟩
/-! ### small things -/
theorem small (n : Nat) (h : n ≤ 100000 := by decide) : n ≤ sizeLine := Nat.le_trans h (by decide)
theorem at0 {a : V} {r : List V} : atI (a :: r) 0 = some a := atI_nat (j := 0) rfl
theorem at1 {a b : V} {r : List V} : atI (a :: b :: r) 1 = some b := atI_nat (j := 1) rfl
theorem at2 {a b c : V} {r : List V} : atI (a :: b :: c :: r) 2 = some c := atI_nat (j := 2) rfl
end GX
set_option Elab.async false
set_option linter.all false
set_option maxRecDepth 100000
set_option maxHeartbeats 4000000
/-! Nets as data, and how they stand in the heap. -/
namespace GX
open PySem PySem.Spec PyProof.Rows L2
structure Net where
  many : Nat
  gates : List (Nat × Nat × Nat)
  outs : List Nat
def gateOk (many i : Nat) (g : Nat × Nat × Nat) : Prop := g.1 < 16 ∧ g.2.1 < many + i ∧ g.2.2 < many + i
structure Net.Ok (n : Net) : Prop where
  m1 : 1 ≤ n.many
  m8 : n.many ≤ 8
  g16 : n.gates.length ≤ 16
  gs : ∀ (i : Nat) (g : Nat × Nat × Nat), n.gates[i]? = some g → gateOk n.many i g
  o1 : 1 ≤ n.outs.length
  o8 : n.outs.length ≤ 8
  os : ∀ o ∈ n.outs, o < n.many + n.gates.length
def nV (n : Nat) : V := .int (n : Int)
def gV (g : Nat × Nat × Nat) : List V := [nV g.1, nV g.2.1, nV g.2.2]
/-- the gates at these addresses -/
def GatesAt (H : Hp) (ps : List Addr) (gs : List (Nat × Nat × Nat)) : Prop := ps.length = gs.length ∧ ∀ (i : Nat) (p : Addr) (g : Nat × Nat × Nat), ps[i]? = some p → gs[i]? = some g → H p = some (.tup (gV g))
structure NetAt (H : Hp) (a : Addr) (n : Net) (g o : Addr) (ps : List Addr) : Prop where
  top : H a = some (.tup [nV n.many, .ref g, .ref o])
  gt : H g = some (.tup (ps.map V.ref))
  gs : GatesAt H ps n.gates
  ot : H o = some (.tup (n.outs.map nV))
theorem GatesAt.nil (H : Hp) : GatesAt H [] [] := ⟨rfl, fun i p g e _ => by simp at e⟩
theorem GatesAt.mono {H H' : Hp} {ps : List Addr} {gs : List (Nat × Nat × Nat)} (x : GatesAt H ps gs) (k : ∀ b xs, H b = some (.tup xs) → H' b = some (.tup xs)) : GatesAt H' ps gs := ⟨x.1, fun i p g e1 e2 => k _ _ (x.2 i p g e1 e2)⟩
theorem NetAt.mono {H H' : Hp} {a g o : Addr} {n : Net} {ps : List Addr} (x : NetAt H a n g o ps) (k : ∀ b xs, H b = some (.tup xs) → H' b = some (.tup xs)) : NetAt H' a n g o ps := ⟨k _ _ x.top, k _ _ x.gt, x.gs.mono k, k _ _ x.ot⟩
theorem GatesAt.push {H : Hp} {ps : List Addr} {gs : List (Nat × Nat × Nat)} {p : Addr} {g : Nat × Nat × Nat} (x : GatesAt H ps gs) (h : H p = some (.tup (gV g))) : GatesAt H (ps ++ [p]) (gs ++ [g]) := by
  refine ⟨by rw [List.length_append, List.length_append, x.1]; rfl, fun i q g' e1 e2 => ?_⟩
  by_cases hi : i < ps.length
  · rw [List.getElem?_append_left hi] at e1
    rw [List.getElem?_append_left (by rw [← x.1]; exact hi)] at e2
    exact x.2 i q g' e1 e2
  · rw [List.getElem?_append_right (by omega)] at e1
    rw [List.getElem?_append_right (by rw [← x.1]; omega)] at e2
    have hz : i - ps.length = 0 := by
      obtain ⟨h1, _⟩ := List.getElem?_eq_some_iff.mp e1
      simp at h1
      omega
    rw [hz] at e1
    rw [← x.1, hz] at e2
    cases e1
    cases e2
    exact h
theorem gateOk.at {H : Hp} {ps : List Addr} {gs : List (Nat × Nat × Nat)} (x : GatesAt H ps gs) {i : Nat} {p : Addr} (e : ps[i]? = some p) : ∃ g, gs[i]? = some g ∧ H p = some (.tup (gV g)) := by
  obtain ⟨h1, _⟩ := List.getElem?_eq_some_iff.mp e
  have h2 : i < gs.length := by rw [← x.1]; exact h1
  exact ⟨gs[i], List.getElem?_eq_getElem h2, x.2 i p _ e (List.getElem?_eq_getElem h2)⟩
/-- what a tuple holds it keeps, where but X is kept and X holds none -/
theorem Keep.tups {X : List Addr} {H H' : Hp} (k : Keep X H H') (n : ∀ b ∈ X, ∀ xs, H b ≠ some (.tup xs)) : ∀ b xs, H b = some (.tup xs) → H' b = some (.tup xs) := fun b xs e => k b _ e fun z => n b z xs e
/-! ### the well -/
def Wl (H : Hp) (W : Addr) : Prop := ∃ a b c : Int, H W = some (.lst [.int a, .int b, .int c])
theorem Wl.nt {H : Hp} {W : Addr} (h : Wl H W) : ∀ b ∈ [W], ∀ xs, H b ≠ some (.tup xs) := fun b hb xs e => by
  rw [List.mem_singleton.mp hb] at e
  obtain ⟨_, _, _, q⟩ := h
  rw [e] at q
  cases q
theorem Wl.keep {X : List Addr} {H H' : Hp} {W : Addr} (h : Wl H W) (k : Keep X H H') (n : W ∉ X) : Wl H' W := by
  obtain ⟨a, b, c, e⟩ := h
  exact ⟨a, b, c, k _ _ e n⟩
theorem Wl.tab {Ts : List Addr} {H : Hp} {W : Addr} (h : Wl H W) (t : Tabs Ts H) : W ∉ Ts := by
  obtain ⟨a, b, c, e⟩ := h
  exact t.lst e
theorem Tabs.keep {Ts X : List Addr} {H H' : Hp} (t : Tabs Ts H) (k : Keep X H H') (n : ∀ b ∈ X, b ∉ Ts) : Tabs Ts H' := fun b hb => by
  obtain ⟨ps, q, r⟩ := t b hb
  exact ⟨ps, k b _ q fun z => n b z hb, r⟩
/-! ### words for the readings -/
theorem Same.keep {X : List Addr} {H H' : Hp} (s : Same H H') : Keep X H H' := fun b o e _ => s b o e
theorem Same.new {H : Hp} {p : Addr} {o : HO} (n : H p = none) : Same H (upd H p o) := fun b u e => by rw [upd_ne (ne_of_none e n)]; exact e
theorem catA {K : PySem.W.Frag} {H : Hp} {a b : Addr} {xs ys : List V} {Q : VK} (h1 : H a = some (.tup xs)) (h2 : H b = some (.tup ys)) (hz : xs.length + ys.length ≤ sizeLine) (q : ∀ r H', Same H H' → H' r = some (.tup (xs ++ ys)) → Q (.ref r) H') : rCatA K (.ref a) (.ref b) H Q := by
  refine ⟨a, b, xs, ys, rfl, rfl, SqT.of h1, SqT.of h2, hz, fun e => ?_, fun e1 e2 => ?_, fun e1 e2 p hp => ?_⟩
  · exact q b H (Same.refl _) (by rw [e]; exact h2)
  · exact q a H (Same.refl _) (by rw [e2, List.append_nil]; exact h1)
  · exact q p _ (Same.new hp) upd_same
theorem slA {K : PySem.W.Frag} {H : Hp} {a : Addr} {xs : List V} {lo hi : Option Int} {Q : VK} (h1 : H a = some (.tup xs)) (q : ∀ r H', Same H H' → H' r = some (.tup (cutV xs lo hi)) → Q (.ref r) H') : rSlA K (.ref a) lo hi H Q := by
  refine ⟨a, xs, rfl, SqT.of h1, fun e => ?_, fun e p hp => ?_⟩
  · refine q a H (Same.refl _) ?_
    unfold cutV
    rw [e.1, e.2, List.drop_zero, Nat.sub_zero, List.take_length]
    exact h1
  · exact q p _ (Same.new hp) upd_same
theorem atIf {a b : V} {k : Bool} : atI [a, b] (if k = true then 1 else 0) = some (if k = true then b else a) := by cases k <;> rfl
theorem cut_lo (xs : List V) (n : Nat) : cutV xs (some (n : Int)) none = xs.drop n := by
  unfold cutV
  rw [show HT.sIx xs.length 0 (some (n : Int)) = min n xs.length from HT.sIx_nat xs.length 0 n, HT.sIx_none]
  by_cases h : n ≤ xs.length
  · rw [Nat.min_eq_left h, List.take_of_length_le]
    rw [List.length_drop]
    exact Nat.le_refl _
  · rw [Nat.min_eq_right (by omega), List.drop_of_length_le (Nat.le_refl _), List.drop_of_length_le (by omega), List.take_nil]
theorem cut_hi (xs : List V) (n : Nat) : cutV xs none (some (n : Int)) = xs.take n := by
  unfold cutV
  rw [show HT.sIx xs.length xs.length (some (n : Int)) = min n xs.length from HT.sIx_nat xs.length xs.length n, HT.sIx_none, List.drop_zero, Nat.sub_zero]
  by_cases h : n ≤ xs.length
  · rw [Nat.min_eq_left h]
  · rw [Nat.min_eq_right (by omega), List.take_of_length_le (by omega : xs.length ≤ n), List.take_length]
/-- the well stands, all else is kept -/
structure Wk (W : Addr) (H H' : Hp) : Prop where
  wl : Wl H' W
  kp : Keep [W] H H'
theorem Wk.nxt {W : Addr} {H H1 H2 : Hp} (s : Wk W H H1) (wl : Wl H2 W) (k : Keep [W] H1 H2) : Wk W H H2 := ⟨wl, s.kp.trans k⟩
theorem Wl.same {H H' : Hp} {W : Addr} (h : Wl H W) (s : Same H H') : Wl H' W := by
  obtain ⟨a, b, c, e⟩ := h
  exact ⟨a, b, c, s _ _ e⟩
theorem Wk.same {W : Addr} {H H1 H2 : Hp} (s : Wk W H H1) (e : Same H1 H2) : Wk W H H2 := ⟨s.wl.same e, s.kp.trans (Same.keep e)⟩
theorem Wk.new {W : Addr} {H H1 : Hp} {p : Addr} {o : HO} (s : Wk W H H1) (n : H1 p = none) : Wk W H (upd H1 p o) := s.same (Same.new n)
/-- a tuple stands behind a draw -/
theorem Wl.tup {H H' : Hp} {W : Addr} (h : Wl H W) (k : Keep [W] H H') {b : Addr} {xs : List V} (e : H b = some (.tup xs)) : H' b = some (.tup xs) := k.tups h.nt b xs e
theorem Wl.gates {H H' : Hp} {W : Addr} (h : Wl H W) (k : Keep [W] H H') {ps : List Addr} {gs : List (Nat × Nat × Nat)} (x : GatesAt H ps gs) : GatesAt H' ps gs := x.mono (k.tups h.nt)
theorem Same.gates {H H' : Hp} (s : Same H H') {ps : List Addr} {gs : List (Nat × Nat × Nat)} (x : GatesAt H ps gs) : GatesAt H' ps gs := x.mono fun b xs e => s b _ e
/-- a list of our own, filled behind H: all that was stands -/
structure Own (H H' : Hp) (l : Addr) (xs : List V) : Prop where
  sm : Same H H'
  at_ : H' l = some (.lst xs)
  nw : H l = none
theorem Own.app {H H' : Hp} {l : Addr} {xs : List V} {y : V} (o : Own H H' l xs) : Own H (upd H' l (.lst (xs ++ [y]))) l (xs ++ [y]) :=
  ⟨fun b u e => by rw [upd_ne (ne_of_none e o.nw)]; exact o.sm b u e, upd_same, o.nw⟩
theorem NetAt.same {H H' : Hp} {a g o : Addr} {n : Net} {ps : List Addr} (x : NetAt H a n g o ps) (s : Same H H') : NetAt H' a n g o ps := x.mono fun b xs e => s b _ e
theorem Tabs.same {Ts : List Addr} {H H' : Hp} (t : Tabs Ts H) (s : Same H H') : Tabs Ts H' := fun b hb => by
  obtain ⟨ps, q, r⟩ := t b hb
  exact ⟨ps, s _ _ q, r⟩
theorem Aft.ofSame {Ts : List Addr} {H H' : Hp} (t : Tabs Ts H) (s : Same H H') : Aft Ts H H' := ⟨Same.keep s, Tabs.same t s⟩
theorem NetAt.aft {Ts : List Addr} {H H' : Hp} {a g o : Addr} {n : Net} {ps : List Addr} (x : NetAt H a n g o ps) (t : Tabs Ts H) (s : Aft Ts H H') : NetAt H' a n g o ps := x.mono fun b xs e => s.tup t e
/-! ### rules with the written part named (for generator expressions) -/
section
variable {X : Cx} {K : PySem.W.Frag}
theorem ix_tupK (h : X.K = K := by rfl) : IxR X (rIxT K) := by subst h; exact ix_tup
theorem ix_listK (h : X.K = K := by rfl) : IxR X (rIxL K) := by subst h; exact ix_list
theorem op_in_seqK (h : X.K = K := by rfl) : OpR X (compareOp .In) (rIn K false) := by subst h; exact op_in_seq
theorem op_notIn_seqK (h : X.K = K := by rfl) : OpR X (compareOp .NotIn) (rIn K true) := by subst h; exact op_notIn_seq
theorem len_seqK (h : X.K = K := by rfl) : CallR X (.builtin "len") (fun xs H Q => ∃ p ys, xs = [.ref p] ∧ (SqL K H p ys ∨ SqT K H p ys) ∧ Q (.int ys.length) H) := by subst h; exact call_len_seq
theorem op_catAK (h : X.K = K := by rfl) : OpR X (binaryOp .Add) (rCatA K) := by subst h; exact op_catA
theorem sl_tupAK (h : X.K = K := by rfl) : SlR X (rSlA K) := by subst h; exact sl_tupA
end
end GX
set_option Elab.async false
set_option linter.all false
set_option maxRecDepth 100000
set_option maxHeartbeats 4000000
/-! enumerate of a tuple, walked. -/
namespace GX
open PySem PySem.Spec PyProof.Rows L2
open AutoSeq1 (wpAny_loadPart')
theorem enumT_new (l : Addr) (items : Array Value) (n : Nat) (dct : Option Addr) (sl : Array (Option Value)) :
    Meets (Builtin.«enumerate.__new__» ⟨[.type "enumerate", .ref l], []⟩) (fun _ R s => s.heap.get? l = some { cls := .type "tuple", dict := dct, data := .seq items n, slots := sl } ∧
      R (.ok (.ret (.ref (s.heap.push { cls := .type "tuple_iterator", data := .fields #[.ref l, .int 0 0] }).objs.size)))
        { s with heap := (s.heap.push { cls := .type "tuple_iterator", data := .fields #[.ref l, .int 0 0] }).push { cls := .type "enumerate", data := .fields #[.none, .bool false, .ref s.heap.objs.size, rawInt 0, .none, .none] } }) :=
  .of_wp fun prog w A R s h => by
    obtain ⟨hp, g, d, tk, os⟩ := s
    obtain ⟨hl, h⟩ := h
    have hsub := sub_enumerate
    have hL : Heap.IsTuple (Shared.heap ⟨hp, g, d, tk, os⟩) l items := ⟨_, hl, rfl, n, rfl⟩
    wp_walk using wpAny_loadPart' hl
    refine wpAny_stack_any fun st => wpAny_pure ?_
    split
    · rename_i c _ _ _ _ _
      cases (c == Value.type "enumerate") <;>
      · wp_walk using wpAny_loadPart' hl, wpAny_pyIter_tuple hL
        exact ⟨_, rfl, h⟩
    · wp_walk using wpAny_loadPart' hl, wpAny_pyIter_tuple hL
      exact ⟨_, rfl, h⟩
section
variable {prog : Program} {w : World} {A : Around} {E : Value → Shared → Prop} {s : Shared}
theorem enumT_call {l : Addr} {items : Array Value} {Q : Value → Shared → Prop} (hL : s.heap.IsTuple l items)
    (h : ∀ h', IsEnum h' (s.heap.objs.size + 1) s.heap.objs.size 0 .none → h'.IsTupleIter s.heap.objs.size l 0 → (∀ b o, s.heap.get? b = some o → h'.get? b = some o) → Q (.ref (s.heap.objs.size + 1)) { s with heap := h' }) :
    wpAny (model prog w) A (call (.type "enumerate") [.ref l]) Q E s := by
  obtain ⟨⟨c, dct, dt, sl⟩, hl, hc, n, hd⟩ := hL
  replace hc : c = .type "tuple" := hc
  replace hd : dt = .seq items n := hd
  subst hc hd
  refine callType_new F.called_enumerate (by decide) (F.typeCall_enumerate_1 _) (F.newCall_enumerate_1 _) (fun obj => F.args_object_init_2 obj _) F.entry_enumerate_new (enumT_new l items n dct sl) ⟨hl, ?_⟩
  have hz : (s.heap.push { cls := .type "tuple_iterator", data := .fields #[.ref l, .int 0 0] }).objs.size = s.heap.objs.size + 1 := Heap.size_push ..
  show _ ∧ _
  rw [hz]
  have he : IsEnum ((s.heap.push { cls := .type "tuple_iterator", data := .fields #[.ref l, .int 0 0] }).push { cls := .type "enumerate", data := .fields #[.none, .bool false, .ref s.heap.objs.size, rawInt 0, .none, .none] }) (s.heap.objs.size + 1) s.heap.objs.size 0 .none := by
    have q := Heap.get?_push_size (s.heap.push { cls := .type "tuple_iterator", data := .fields #[.ref l, .int 0 0] }) (o := { cls := .type "enumerate", data := .fields #[.none, .bool false, .ref s.heap.objs.size, rawInt 0, .none, .none] }) rfl
    rw [hz] at q
    exact q
  exact ⟨⟨_, he, rfl⟩, h _ he ⟨_, Heap.get?_push_of_some _ (Heap.get?_push_size _ rfl), rfl, rfl⟩ fun b o x => Heap.get?_push_of_some _ (Heap.get?_push_of_some _ x)⟩
end
def Itet (K : PySem.W.Frag) (a : Addr) : It :=
  ⟨fun i H => ∃ (xs : List V) (x : V), SqT K H a xs ∧ xs[i]? = some x, fun i H v H' => ∃ T x, v = .ref T ∧ H T = none ∧ H' = upd H T (.tup [.int (i : Nat), x]) ∧ ∀ xs, SqT K H a xs → xs[i]? = some x, fun i H => ∃ xs : List V, SqT K H a xs ∧ xs.length = i⟩
theorem turn_enumT {P : Program} {w : World} {K : PySem.W.Frag} {elts : List Expr} {kk : Nat} {tpos : Pos} (a e it : Addr) :
    Turn P w K (.Tuple elts kk tpos) (Itet K a) [e, it] e (fun i h => (∃ old, IsEnum h e it ((i : Nat) : Int) old) ∧ h.IsTupleIter it a i ∧ e ≠ it ∧ a ≠ it ∧ a ≠ e) where
  mem := by simp
  obj := fun i h st b hb => by
    obtain ⟨⟨old, he⟩, ⟨o, ho, hc, hd⟩, _⟩ := st
    rcases (show b = e ∨ b = it by simpa using hb) with z | z
    · rw [z]; exact ⟨_, he, fun v q => nomatch q⟩
    · rw [z]; exact ⟨o, ho, fun v q => by rw [hd] at q; cases q⟩
  keep := fun i h h' st k => let ⟨⟨old, he⟩, hi, hne⟩ := st; ⟨⟨old, k e (by simp) _ he⟩, hi.at fun o q => k it (by simp) o q, hne⟩
  item := by
    intro X hP hw hK hc i pins s σ H E I hf st hg
    subst hP hw hK
    obtain ⟨⟨old, he⟩, hit, hne, hai, hae⟩ := st
    obtain ⟨xs, x, hq, hx⟩ := hg
    obtain ⟨its, rv, p, hz⟩ := I.tuple hq
    obtain ⟨u, hu, ru⟩ := rv.get hx
    have hel : e < s.heap.objs.size := Heap.lt_size he
    have hil : it < s.heap.objs.size := by obtain ⟨_, q, _⟩ := hit; exact Heap.lt_size q
    have hu' : its.toArray[i]? = some u := by simpa using hu
    refine wpAny_pyNext_enum_itemD (Draws.tuple (A := X.A.in1) (show X.A.in1.handled = none from I.ok.hd hc) it a hai its.toArray) he ⟨hit, p⟩ (Array.getElem?_eq_some_iff.mp hu').1 hne (by simp [hne, Ne.symm hae]) fun y h' tk hy ho hst hT hsz hk => ?_
    obtain rfl : u = y := Option.some.inj (hu'.symm.trans hy)
    refine ⟨_, rfl, wpAny_letOwnedTupleGo_enum (s := { s with heap := h', toks := tk + 1 }) ho fun h'' he' sb => ?_⟩
    have hT2 : h''.get? s.heap.objs.size = some { cls := .type "tuple", data := .seq #[.int i tk, u] } := (sb.2 _ (Nat.ne_of_gt hel)).trans hT
    have new : ObjOk X.prog X.w (upd H s.heap.objs.size (.tup [.int (i : Nat), x])) h'' s.heap.objs.size (.tup [.int (i : Nat), x]) :=
      ⟨by show 2 ≤ sizeLine; decide, [.int i tk, u], .cons ⟨_, rfl⟩ (.cons ru .nil), ⟨_, hT2, rfl, _, rfl⟩⟩
    have I1 : Inv X pins σ (upd H s.heap.objs.size (.tup [.int (i : Nat), x])) { s with heap := h'', toks := tk + 1 } :=
      I.turnedNew (ch := [e, it]) (fun b ob hb q => (sb.2 b (fun z => hb (by simp [z]))).trans (hk b ob (fun z => hb (by simp [z])) (fun z => hb (by simp [z])) q)) hf (Nat.le_refl _) new
    refine ⟨.ref s.heap.objs.size, _, I1, rfl, ⟨_, x, rfl, I.hok.fresh (Nat.le_refl _), rfl, fun ys hy => by rw [I.tuple_inj hy hq]; exact hx⟩, ⟨⟨u, ?_⟩, hst.1.at fun o q => (sb.2 it (Ne.symm hne)).trans q, hne, hai, hae⟩, fun b hb => ?_⟩
    · rw [show ((i + 1 : Nat) : Int) = (i : Int) + 1 by omega]
      exact he'
    · have hb' : b < s.heap.objs.size := by
        rcases (show b = e ∨ b = it by simpa using hb) with z | z
        · rw [z]; exact hel
        · rw [z]; exact hil
      rw [upd_ne (Nat.ne_of_lt hb')]
      exact (hf b hb).1
  done := by
    intro X hP hw hK hc i pins s σ H E I hf st hg
    subst hP hw hK
    obtain ⟨⟨old, he⟩, hit, hne, hai, hae⟩ := st
    obtain ⟨xs, hq, hx⟩ := hg
    obtain ⟨its, rv, p, hz⟩ := I.tuple hq
    obtain ⟨f0, f1, f2, f3, f4, f5⟩ := hf it (by simp)
    have hl : xs.length = its.length := rv.length
    have hs : its.toArray.size = i := by rw [List.size_toArray]; omega
    exact wpAny_pyNext_enum_endD (Draws.tuple (A := X.A.in1) (show X.A.in1.handled = none from I.ok.hd hc) it a hai its.toArray) he (by rw [hs]; exact ⟨hit, p⟩) fun h' eb => ⟨rfl, I.turned (t' := s.toks) (fun b o hb q => eb b o hb q) f0 f1 f3 f4 f5⟩
  self := fun A i s Q E st h => let ⟨⟨_, he⟩, _⟩ := st; wpAny_pyIter_enum he h
def iEnumT (K : PySem.W.Frag) (ta : TA) : TI := fun σ H R => ta σ H fun vs H1 => ∃ a xs, vs = [.ref a] ∧ SqT K H1 a xs ∧ R (Itet K a) H1
theorem pi_enumT {X : Cx} {e : Expr} {ta : TA} {p pos tpos : Pos} {elts : List Expr} {kk : Nat} (hg : Gl X "enumerate") (hm : X.mg "enumerate" = none) (ha : PA X [e] ta) (hs : starEach [e] X.env = [(false, eval e X.env)] := by rfl) :
    PI X (.Tuple elts kk tpos) (.Call (.Name "enumerate" p) [e] [] pos) (iEnumT X.K ta) := by
  refine ⟨fun pins s σ H R I h => ?_⟩
  refine Call_ (ld_blt I hg hm boot_enumerate (PyProof.Rows.callWith_type1 (thn (ha.run pos pins s σ H _ I h) fun us s1 ⟨vs, H1, I1, r1, q1⟩ => ?_) hs rfl))
  obtain ⟨a, xs, ex, hq, q⟩ := q1
  subst ex
  cases r1 with
  | cons r rr =>
    cases rr
    cases r
    obtain ⟨its, rv, p', hz⟩ := I1.tuple hq
    have hal : a < s1.heap.objs.size := IsTup.lt p'
    refine enumT_call (show s1.heap.IsTuple a its.toArray from p') fun h' he hit hk => wpAny_pyIter_enum he ?_
    have I2 : Inv X pins σ H1 { s1 with heap := h' } := I1.kept (t' := s1.toks) hk
    refine ⟨s1.heap.objs.size + 1, [s1.heap.objs.size + 1, s1.heap.objs.size], _, _, H1, rfl, I2, turn_enumT a (s1.heap.objs.size + 1) s1.heap.objs.size, ⟨⟨.none, he⟩, hit, Nat.succ_ne_self _, Nat.ne_of_lt hal, Nat.ne_of_lt (Nat.lt_succ_of_lt hal)⟩, fun b hb => ?_, q⟩
    have hle : s1.heap.objs.size ≤ b := by
      rcases (show b = s1.heap.objs.size + 1 ∨ b = s1.heap.objs.size by simpa using hb) with z | z
      · rw [z]; exact Nat.le_add_right _ _
      · rw [z]; exact Nat.le_refl _
    exact I1.fpOk hle (I1.hok.fresh hle)
theorem walk_enumT {K : PySem.W.Frag} {a : Addr} {xs : List V} : Walk (Itet K a) xs.length (fun H => SqT K H a xs) (YPair (fun i => some (.int (i : Nat))) (fun i => xs[i]?)) := by
  refine ⟨fun i _ hi q => ⟨xs, xs[i], q, by simp [hi]⟩, fun _ q => ⟨xs, q, rfl⟩, fun i H v H' _ q y => ?_⟩
  obtain ⟨T, x, h1, h2, h3, h4⟩ := y
  exact ⟨T, .int (i : Nat), x, h1, h2, h3, rfl, h4 xs q⟩
end GX
set_option Elab.async false
set_option linter.all false
set_option maxRecDepth 100000
set_option maxHeartbeats 4000000
/-! t[::-1] of a tuple. -/
namespace GX
open PySem PySem.Spec PyProof.Rows L2 HT
end GX
set_option Elab.async false
set_option linter.all false
set_option maxRecDepth 100000
set_option maxHeartbeats 4000000
/-! A tuple times an int of one or more. -/
namespace GX
open PySem PySem.Spec PyProof.Rows L2
open AutoSeq1 (wpAny_loadPart')
end GX
set_option Elab.async false
set_option linter.all false
set_option maxRecDepth 100000
set_option maxHeartbeats 4000000
/-! set(xs) of whole numbers, xs a list or a tuple; sorted of it. -/
namespace GX
open PySem PySem.Spec PyProof.Rows L2
/-- a set as it is made, empty -/
def fset (w : World) : Obj := { cls := .type "set", dict := none, data := .set #[] 0 (.fresh 0 0 (!w.params.followText "set-order")) }
section
variable {P : Program} {w : World} {A : Around} {E : Value → Shared → Prop} {s : Shared}
/-- what set(l) leaves: the set of ns at the next address -/
def Left (w : World) (s : Shared) (ns : List Int) (r : Value) (t : Shared) : Prop :=
  r = .none ∧ ∃ g tk c, t = { s with heap := g, toks := tk } ∧ SetR w g s.heap.objs.size (fun j => decide (j ∈ ns)) c ∧ c ≤ ns.length ∧ ∀ b o, s.heap.get? b = some o → g.get? b = some o
theorem init_list {l : Addr} {its : Array Value} {ns : List Int} (hh : A.handled = none) (hl : s.heap.IsList l its) (hi : IntsAre its.toList ns) (hb : ns.length + 1 < scanBound) :
    codeAny (model P w) A (.call (.builtin "set.__init__") ⟨[.ref s.heap.objs.size, .ref l], []⟩) (wants (Left w s ns) E) { s with heap := s.heap.push (fset w) } := by
  have eN : its.size = ns.length := by
    have z := IntsAre.length hi
    rwa [Array.length_toList] at z
  have atS : (s.heap.push (fset w)).get? s.heap.objs.size = some (fset w) := Heap.get?_push_size _ rfl
  refine codeAny_call_builtin F.called_set.init.plain F.entry_set_init (check_set_init_1 ⟨_, atS, rfl⟩ ?_)
  obtain ⟨⟨k1, k2, k3, k4⟩, hol, e1, m, e2⟩ := hl
  dsimp only at e1 e2
  subst e1
  subst e2
  have on : (s.heap.push (fset w)).get? l = some ⟨.type "list", k2, .seq its m, k4⟩ := Heap.get?_push_of_some _ hol
  have u1 := F.sub_list_set
  have u2 := F.sub_list_frozenset
  have u3 : (Value.type "list" == Value.type "dict") = false := by decide
  have isL : (s.heap.push (fset w)).IsList l its := ⟨_, on, rfl, m, rfl⟩
  unfold Builtin.«set.__init__» noKeywords Builtin.Frozenset.updateFrom
  generalize eP : pyIter = PI
  wp_walk
  subst eP
  refine wpAny_pyIter_list isL (wpAny_bind (wpAny_runValue ?_))
  have lt : l < s.heap.objs.size := Heap.lt_size hol
  have zz : (s.heap.push (fset w)).objs.size = s.heap.objs.size + 1 := Heap.size_push ..
  have ne1 : l ≠ (s.heap.push (fset w)).objs.size := by rw [zz]; exact Nat.ne_of_lt (Nat.lt_succ_of_lt lt)
  have ne2 : s.heap.objs.size ∉ [(s.heap.push (fset w)).objs.size, l] := by
    intro z
    rcases List.mem_cons.mp z with z | z
    · rw [zz] at z
      exact Nat.ne_of_lt (Nat.lt_succ_self _) z
    · exact Nat.ne_of_gt lt (List.mem_singleton.mp z)
  have vals : ∀ (i : Nat) (v : Value), its[i]? = some v → ∃ k t, ns[i]? = some k ∧ v = .int k t := fun i v hv => by
    have hlt : i < ns.length := by rw [← eN]; exact (Array.getElem?_eq_some_iff.mp hv).1
    obtain ⟨t, e⟩ := IntsAre.int_at hi i v (by rw [Array.getElem?_toList]; exact hv)
    refine ⟨ns[i], t, List.getElem?_eq_getElem hlt, e.trans ?_⟩
    show Value.int (ns.getD i 0) t = _
    rw [List.getD_eq_getElem?_getD, List.getElem?_eq_getElem hlt]
    rfl
  have h3 : A.in1.in1.handled = none := by simp [hh]
  refine set_update_ints (Walks.list h3 _ l ne1 its).toS s.heap.objs.size ne2 ns eN hb vals (its.size - 0) 0 _ (by omega) (Nat.zero_le _) ?st ?s0 ?rest
  case st => exact ⟨⟨_, Heap.get?_push_size _ rfl, rfl, rfl⟩, isL.push _⟩
  case s0 => exact ⟨0, Nat.le_refl 0, setR_new_at (Heap.get?_push_of_some _ atS)⟩
  intro t c mv hc hS
  obtain ⟨h', g2, d2, tk, o2⟩ := t
  obtain rfl : g2 = s.gens := mv.gens
  obtain rfl : d2 = s.drawn := mv.drawn
  obtain rfl : o2 = s.os := mv.os
  show wpAny _ _ _ _ _ _
  refine wpAny_pure ?_
  show wpAny _ _ (ret Value.none) _ _ _
  refine wpAny_pure ⟨rfl, h', tk, c, rfl, hS, by omega, fun b o e => ?_⟩
  have lb : b < s.heap.objs.size := Heap.lt_size e
  refine mv.heap b o (fun z => ?_) (Heap.get?_push_of_some _ (Heap.get?_push_of_some _ e))
  rcases List.mem_cons.mp z with z | z
  · exact Nat.ne_of_lt lb z
  · have z' := List.mem_singleton.mp z
    rw [zz] at z'
    exact Nat.ne_of_lt (Nat.lt_succ_of_lt lb) z'
theorem call_set_of {l : Addr} {ns : List Int} {Q : Value → Shared → Prop}
    (hin : codeAny (model P w) A.in1 (.call (.builtin "set.__init__") ⟨[.ref s.heap.objs.size, .ref l], []⟩) (wants (Left w s ns) E) { s with heap := s.heap.push (fset w) })
    (h : ∀ g tk c, SetR w g s.heap.objs.size (fun j => decide (j ∈ ns)) c → c ≤ ns.length → (∀ b o, s.heap.get? b = some o → g.get? b = some o) → Q (.ref s.heap.objs.size) { s with heap := g, toks := tk }) :
    wpAny (model P w) A (call (.type "set") [.ref l]) Q E s := by
  obtain ⟨c, tl, q1⟩ := F.called_set.mro
  have q2 := F.called_set.made
  have q3 := F.called_set.sub
  refine wpAny_call (codeAny_of_tree ?_)
  show wpAny _ _ (callAny (.type "set") ⟨[.ref l], []⟩) _ _ s
  refine wpAny_pure ⟨Code.quiet_builtin _ (by decide +kernel), codeAny_builtin F.entry_type_call ?_⟩
  rw [Around.under_plain (weight_type_call_type "set" [.ref l] []) rfl]
  have q4 := F.called_set.notType
  have q5 := F.called_set.canCreate
  have q6 := F.typeCall_set_1 (.ref l)
  repeat (any_goals (first | assumption | wp_step))
  refine codeAny_mono (code_set_led1 (.ref l) (E := E) (Q₁ := fun v t => v = .ref s.heap.objs.size ∧ t = { s with heap := s.heap.push (fset w) }) ⟨rfl, rfl⟩) fun r t hr => ?_
  cases r with
  | error e => exact hr
  | ok f =>
    cases f with
    | ret v =>
      obtain ⟨rfl, rfl⟩ := hr
      have q7 : Shared.TypeIs { s with heap := s.heap.push (fset w) } (.ref s.heap.objs.size) "set" := ⟨fset w, Heap.get?_push_size _ rfl, rfl⟩
      have q8 := F.called_set.init.lookup
      have q9 := F.called_set.init.bind (.ref s.heap.objs.size)
      repeat (any_goals (first | assumption | wp_step))
      refine codeAny_mono hin fun r2 t2 hr2 => ?_
      cases r2 with
      | error e => exact hr2
      | ok f2 =>
        cases f2 with
        | ret v2 =>
          obtain ⟨rfl, g, tk, c2, rfl, k1, k2, k3⟩ := hr2
          repeat (any_goals (first | assumption | wp_step))
          exact h g tk c2 k1 k2 k3
        | _ => exact hr2.elim
    | _ => exact hr.elim
theorem set_of_list {l : Addr} {its : Array Value} {ns : List Int} {Q : Value → Shared → Prop} (hh : A.handled = none) (hl : s.heap.IsList l its) (hi : IntsAre its.toList ns) (hb : ns.length + 1 < scanBound)
    (h : ∀ g tk c, SetR w g s.heap.objs.size (fun j => decide (j ∈ ns)) c → c ≤ ns.length → (∀ b o, s.heap.get? b = some o → g.get? b = some o) → Q (.ref s.heap.objs.size) { s with heap := g, toks := tk }) :
    wpAny (model P w) A (call (.type "set") [.ref l]) Q E s := call_set_of (init_list (by simp [hh]) hl hi hb) h
end
/-- set(xs) -/
def rSetN (K : PySem.W.Frag) (w : World) : List V → Hp → VK → Prop := fun xs H Q => ∃ (p : Addr) (ns : List Nat), xs = [.ref p] ∧ (SqL K H p (ns.map nV) ∨ SqT K H p (ns.map nV)) ∧ ns.length ≤ 60 ∧
  ∀ (q : Addr) (c : Nat), H q = none → c ≤ ns.length → Q (.ref q) (upd H q (SetO w q (fun j => decide (j ∈ ns.map fun n : Nat => (n : Int))) c))
theorem vals_n : ∀ {ns : List Nat} {us : List Value}, Vals (ns.map nV) us → IntsAre us (ns.map fun n : Nat => (n : Int))
  | [], _, .nil => .nil
  | n :: ns, _, .cons r t => by
    obtain ⟨k, rfl⟩ := r
    exact .cons n k (vals_n t)
theorem cr_setN {X : Cx} (hc : X.calm = true) : CallR X (.type "set") (rSetN X.K X.w) := by
  intro pins s σ H xs us Q I r h
  obtain ⟨p, ns, rfl, hq, hn, q⟩ := h
  rw [Vals.ref1 r]
  have hln : (ns.map fun n : Nat => (n : Int)).length = ns.length := List.length_map ..
  have hb : (ns.map fun n : Nat => (n : Int)).length + 1 < scanBound := by rw [hln]; unfold scanBound; omega
  have fin : ∀ (g : Heap) (tk c : Nat), SetR X.w g s.heap.objs.size (fun j => decide (j ∈ ns.map fun n : Nat => (n : Int))) c → c ≤ (ns.map fun n : Nat => (n : Int)).length → (∀ b o, s.heap.get? b = some o → g.get? b = some o) →
      EP X pins σ Q (.ref s.heap.objs.size) { s with heap := g, toks := tk } := fun g tk c hS hcl hk =>
    ⟨.ref s.heap.objs.size, _, I.laid (t' := tk) (o := SetO X.w s.heap.objs.size (fun j => decide (j ∈ ns.map fun n : Nat => (n : Int))) c) hk (Nat.le_refl _) (setO_new hS), rfl, q _ _ (I.hok.fresh (Nat.le_refl _)) (by rw [← hln]; exact hcl)⟩
  rcases hq with hq | hq
  · obtain ⟨its, rv, p1, _⟩ := I.list hq
    exact set_of_list (I.ok.hd hc) p1.isList (by simpa using vals_n rv) hb fin
  · obtain ⟨its, rv, p1, _⟩ := I.tuple hq
    exact call_set_tupI _ (I.ok.hd hc) p1 (by simpa using vals_n rv) hb fin
/-- sorted(set(xs)): the unlike ones, rising -/
theorem sorted_set_nat {ns : List Nat} {out : List Int} (pw : out.Pairwise (· < ·)) (hm : ∀ k : Int, k ∈ out ↔ decide (k ∈ ns.map fun n : Nat => (n : Int)) = true) : ∃ ys : List Nat, out = (ys.map fun n : Nat => (n : Int)) ∧ ys.Pairwise (· < ·) ∧ ∀ z, z ∈ ys ↔ z ∈ ns := by
  have hm' : ∀ k : Int, k ∈ out ↔ k ∈ ns.map fun n : Nat => (n : Int) := fun k => (hm k).trans decide_eq_true_iff
  have hnn : ∀ i ∈ out, 0 ≤ i := fun i hi => by
    obtain ⟨x, _, rfl⟩ := List.mem_map.mp ((hm' i).mp hi)
    omega
  refine ⟨out.map Int.toNat, ?_, ?_, fun z => ⟨fun h => ?_, fun h => ?_⟩⟩
  · rw [List.map_map]
    conv => lhs; rw [← List.map_id out]
    refine List.map_congr_left fun i hi => ?_
    show i = ((i.toNat : Nat) : Int)
    rw [Int.toNat_of_nonneg (hnn i hi)]
  · rw [List.pairwise_map]
    refine List.Pairwise.imp_of_mem (fun {a b} ha hb h => ?_) pw
    have := hnn a ha
    have := hnn b hb
    omega
  · obtain ⟨i, hi, rfl⟩ := List.mem_map.mp h
    obtain ⟨x, hx, rfl⟩ := List.mem_map.mp ((hm' i).mp hi)
    rw [Int.toNat_natCast]
    exact hx
  · exact List.mem_map.mpr ⟨(z : Int), (hm' _).mpr (List.mem_map.mpr ⟨z, h, rfl⟩), Int.toNat_natCast z⟩
end GX
set_option Elab.async false
set_option linter.all false
set_option maxRecDepth 100000
set_option maxHeartbeats 4000000
/-! sorted(l), l a list of tuples of ints, of any lengths from 1 on. -/
namespace GX
open PySem PySem.Spec PyProof.Rows L2 Srt
open SrtO (Cmp SortableO lt2 Srtd Stb)
section
variable {prog : Program} {w : World} {A : Around} {E : Value → Shared → Prop} {s : Shared}
theorem lex_any {b R fin : Bool} : ∀ {xs ys : List Value} {ns ms : List Int} (i : Nat), IntsAre xs ns → IntsAre ys ms → fin = decide (ns.length < ms.length) → R = HT.lexLt ns ms → PySem.W.KatLex prog w A b fin (fun r s' => s' = s ∧ r = R) (xs.zip ys) i s
  | _, _, _, _, i, .nil, hy, hf, hR => by
    rw [List.zip_nil_left]
    refine PySem.W.kat_nil ⟨rfl, ?_⟩
    rw [hf, hR]
    cases hy with
    | nil => rfl
    | cons m u r => rfl
  | _, _, _, _, i, .cons n t r, hy, hf, hR => by
    cases hy with
    | nil =>
      rw [List.zip_nil_right]
      refine PySem.W.kat_nil ⟨rfl, ?_⟩
      rw [hf, hR]
      rfl
    | cons m u r' =>
      rw [List.zip_cons_cons]
      refine PySem.W.kat_cons (SeqAt.EqAt.int_int n t m u prog w _ _ ?_)
      rw [HT.lexLt_cons] at hR
      refine PySem.W.kat_go (fun e1 => ?_) (fun e1 => ?_)
      · have ex : n = m := by simpa using e1
        rw [if_pos ex] at hR
        refine PySem.W.kat_yes (lex_any (i + 1) r r' ?_ hR)
        rw [hf]
        exact decide_eq_decide.mpr ⟨Nat.lt_of_succ_lt_succ, Nat.succ_lt_succ⟩
      · have ex : ¬ n = m := by simpa using e1
        rw [if_neg ex] at hR
        exact PySem.W.kat_no (TS.oneLt_ints _ ⟨rfl, hR.symm⟩)
theorem tups_cmp {vs : List Value} {k : Value → List Int} (hp : ∀ v ∈ vs, TS.TupInts s.heap v (k v)) : Cmp prog w A s (tuples' true) (fun p => p.1 ∈ vs) (lt2 fun v u => HT.lexLt (k v) (k u)) := by
  intro p q hm hm'
  obtain ⟨a, xs, e, ⟨o, ho, hc, n, hd⟩, hi⟩ := hp _ hm
  obtain ⟨a', ys, e', ⟨o', ho', hc', n', hd'⟩, hi'⟩ := hp _ hm'
  show wpAny (model prog w) A (keyLt' (tuples' true) p.1 q.1) (fun r s' => s' = s ∧ r = HT.lexLt (k p.1) (k q.1)) (fun _ _ => False) s
  generalize k p.1 = ns at hi ⊢
  generalize k q.1 = ms at hi' ⊢
  rw [e, e']
  refine PySem.W.kat_lt ho hd ho' hd' (lex_any 0 hi hi' ?_ rfl)
  have z1 : xs.size = ns.length := by rw [← hi.length]; simp
  have z2 : ys.size = ms.length := by rw [← hi'.length]; simp
  rw [z1, z2]
theorem tups_firsts {h : Heap} {k : Value → List Int} : ∀ {vs : List Value}, (∀ v ∈ vs, TS.TupInts h v (k v) ∧ k v ≠ []) → ∃ fs, PySem.W.KatTups h vs fs ∧ fs.length = vs.length ∧ ∀ f ∈ fs, ∃ x t, f = Value.int x t
  | [], _ => ⟨[], PySem.W.KatTups.nil, rfl, fun f hf => absurd hf (by simp)⟩
  | v :: vs, hp => by
    obtain ⟨fs, h1, h2, h3⟩ := tups_firsts fun u hu => hp u (List.mem_cons_of_mem _ hu)
    obtain ⟨⟨a, xs, e, ⟨o, ho, hc, n, hd⟩, hi⟩, hne⟩ := hp v List.mem_cons_self
    cases hk : k v with
    | nil => exact absurd hk hne
    | cons x r =>
      rw [hk] at hi
      generalize hxs : xs.toList = l at hi
      cases hi with
      | cons n0 t0 r0 =>
        have h0 : xs[0]? = some (Value.int x t0) := by
          have : xs.toList[0]? = some (Value.int x t0) := by rw [hxs]; rfl
          simpa using this
        subst e
        refine ⟨Value.int x t0 :: fs, PySem.W.KatTups.cons ho hc hd h0 h1, by rw [List.length_cons, List.length_cons, h2], fun f hf => ?_⟩
        rcases List.mem_cons.mp hf with rfl | hf
        · exact ⟨_, _, rfl⟩
        · exact h3 f hf
theorem tups_sortable {a : Addr} {vs : List Value} {k : Value → List Int} (h0 : 0 < vs.length) (hp : ∀ v ∈ vs, TS.TupInts s.heap v (k v) ∧ k v ≠ []) (ha : ∀ o, s.heap.get? a = some o → o.cls ≠ .type "tuple") : SortableO prog w A s a vs fun v u => HT.lexLt (k v) (k u) := by
  intro h' keep
  have hp' : ∀ v ∈ vs, TS.TupInts h' v (k v) ∧ k v ≠ [] := fun v hm => ⟨(hp v hm).1.keeps fun b o e c => keep b o (fun z => by subst z; exact ha o e c) e, (hp v hm).2⟩
  obtain ⟨fs, h1, h2, h3⟩ := tups_firsts hp'
  refine ⟨tuples' true, fun Q E hq => ?_, tups_cmp fun v hv => (hp' v hv).1⟩
  refine PySem.W.kat_kind (T := .type "int") h1 (by omega) (fun f hm => ?_) (by rfl) ?_
  · obtain ⟨x, t, rfl⟩ := h3 f hm
    exact PySem.W.Looks.now
  · have e : (Value.type "int" != Value.type "tuple") = true := by first | decide +kernel | rfl | decide
    rw [e]
    exact hq
end
def rSortTup (K : PySem.W.Frag) : List V → Hp → VK → Prop := fun vs H Q => ∃ (a : Addr) (xs : List V) (k : V → List Int), vs = [V.ref a] ∧ SqL K H a xs ∧ (∀ x ∈ xs, (∃ t, x = V.ref t ∧ H t = some (.tup ((k x).map V.int))) ∧ k x ≠ []) ∧
  ∀ ys p, Srtd (fun x y => HT.lexLt (k x) (k y)) ys → ys.Perm xs → H p = none → Q (.ref p) (upd H p (.lst ys))
theorem cr_sortTup {X : Cx} : CallR X (.builtin "sorted") (rSortTup X.K) := by
  intro pins s σ H vs us Q I r h
  obtain ⟨a, xs, k, rfl, hs, hx, q⟩ := h
  obtain ⟨its, rv, hl, hz⟩ := I.list hs
  rw [Vals.ref1 r]
  obtain ⟨e1, e2⟩ := refs_back rv fun x m => by
    obtain ⟨⟨t, e, _⟩, _⟩ := hx x m
    exact ⟨t, e⟩
  have hp : ∀ v ∈ its, TS.TupInts s.heap v (k (backV v)) ∧ k (backV v) ≠ [] := fun v hv => by
    obtain ⟨t, rfl⟩ := e2 v hv
    have hm : V.ref t ∈ xs := by rw [e1]; exact List.mem_map.mpr ⟨_, hv, rfl⟩
    obtain ⟨⟨t', e, ht⟩, hne⟩ := hx _ hm
    cases e
    exact ⟨tupI_raw I (SqT.of ht), hne⟩
  refine SrtO.sorted_ord (ltv := fun v u => HT.lexLt (k (backV v)) (k (backV u))) (NtL.swo_lexL fun v => k (backV v)) hl.isList (by rw [← rv.length]; exact hz) (fun h2 h₁ a' ha kk => ?_) fun out hs hb => ?_
  · refine tups_sortable (s := { s with heap := h₁ }) (by omega) (fun v hm => ⟨(hp v hm).1.keeps fun b o e _ => (kk b o e).2, (hp v hm).2⟩) fun o e => ?_
    have e' : some o = some (seqObj "list" its.toArray 0) := e.symm.trans ha
    cases e'
    intro c
    exact absurd (Value.type.inj c) (by decide)
  · obtain ⟨ep, he'⟩ := PyProof.Rows.sortedAll_at s.heap its out.toArray
    have h3 : ∀ u ∈ out, ∃ a, u = Value.ref a := fun u hu => e2 u (hb.perm.mem_iff.mp hu)
    have hpm : (out.map backV).Perm xs := by
      rw [e1]
      exact hb.perm.map backV
    have hlen : (out.map backV).length ≤ sizeLine := by
      rw [hpm.length_eq]
      exact hz
    exact ⟨.ref _, upd H (s.heap.objs.size + 1) (.lst (out.map backV)), I.laid (t' := s.toks) (fun _ _ => PyProof.Rows.sortedAll_old) (Nat.le_succ _) ⟨hlen, out, ep, vals_back h3, he'⟩, rfl, q _ _ (SrtO.srtd_map hs) hpm (I.hok.fresh (Nat.le_succ _))⟩
end GX
set_option Elab.async false
set_option linter.all false
set_option maxRecDepth 100000
set_option maxHeartbeats 4000000
/-! sorted(l), l a list of pairs (n, tuple of ints). -/
namespace GX
open PySem PySem.Spec PyProof.Rows L2 Srt
open SrtO (Cmp SortableO lt2 Srtd Stb)
/-- v is a pair: an int, a tuple of ints -/
def PairP (h : Heap) (v : Value) (ns : List Int) : Prop := ∃ (a b : Addr) (n : Int) (t : Tok) (ks : List Int), v = .ref a ∧ ns = n :: ks ∧ IsTup h a #[.int n t, .ref b] ∧ TS.TupInts h (.ref b) ks
theorem PairP.keeps {h h' : Heap} {v : Value} {ns : List Int} (x : PairP h v ns) (k : ∀ b o, h.get? b = some o → o.cls = .type "tuple" → h'.get? b = some o) : PairP h' v ns := by
  obtain ⟨a, b, n, t, ks, e, en, ⟨o, ho, hc, hd⟩, ti⟩ := x
  exact ⟨a, b, n, t, ks, e, en, ⟨o, k _ _ ho hc, hc, hd⟩, ti.keeps k⟩
theorem items_mix {prog : Program} {w : World} : ∀ {xs : List Value} {ns : List Int}, IntsAre xs ns → ItemsAre (L2.mixKind prog w) (ns.map fun n => (Sum.inl n : L2.Key)) xs
  | _, _, .nil => .nil
  | _, _, .cons n t r => .cons (L2.mixKind_int prog w n t) (items_mix r)
section
variable {prog : Program} {w : World} {A : Around} {E : Value → Shared → Prop} {s : Shared}
theorem inl_inj : ∀ {ns ms : List Int}, ns.map (fun n => (Sum.inl n : L2.Key)) = ms.map (fun n => (Sum.inl n : L2.Key)) → ns = ms
  | [], [], _ => rfl
  | [], _ :: _, h => by cases h
  | _ :: _, [], h => by cases h
  | n :: ns, m :: ms, h => by
    obtain ⟨h1, h2⟩ := List.cons.inj h
    rw [Sum.inl.inj h1, inl_inj h2]
theorem lex_irr : ∀ ns : List Int, HT.lexLt ns ns = false
  | [] => HT.lexLt_nil_nil
  | n :: ns => by rw [HT.lexLt_cons, if_pos rfl]; exact lex_irr ns
theorem pairs_cmp {vs : List Value} {k : Value → List Int} (hu : A.units < cLine) (hp : ∀ v ∈ vs, PairP s.heap v (k v)) : Cmp prog w A s (tuples' true) (fun p => p.1 ∈ vs) (lt2 fun v u => HT.lexLt (k v) (k u)) := by
  intro p q hm hm'
  obtain ⟨a, b, n, t, ks, e, en, ⟨o, ho, hc, z, hd⟩, ti⟩ := hp _ hm
  obtain ⟨a', b', n', t', ks', e', en', ⟨o', ho', hc', z', hd'⟩, ti'⟩ := hp _ hm'
  show wpAny (model prog w) A (keyLt' (tuples' true) p.1 q.1) (fun r s' => s' = s ∧ r = HT.lexLt (k p.1) (k q.1)) (fun _ _ => False) s
  rw [en, en', e, e']
  refine PySem.W.kat_lt ho hd ho' hd' ?_
  show PySem.W.KatLex prog w A true (decide (2 < 2)) _ [(.int n t, .int n' t'), (.ref b, .ref b')] 0 s
  refine PySem.W.kat_cons (SeqAt.EqAt.int_int n t n' t' prog w _ _ ?_)
  rw [HT.lexLt_cons]
  refine PySem.W.kat_go (fun e1 => ?_) (fun e1 => ?_)
  · have ex : n = n' := by simpa using e1
    rw [if_pos ex]
    obtain ⟨_, xs, eb, tb, ib⟩ := ti
    obtain ⟨_, ys, eb', tb', ib'⟩ := ti'
    cases eb
    cases eb'
    have k1 : IsTupleKey (L2.mixKind prog w) s.heap (ks.map fun n => (Sum.inl n : L2.Key)) b := by
      obtain ⟨ok, hok, ck, nk, dk⟩ := tb
      exact ⟨ok, _, nk, hok, ck, dk, items_mix ib⟩
    have k2 : IsTupleKey (L2.mixKind prog w) s.heap (ks'.map fun n => (Sum.inl n : L2.Key)) b' := by
      obtain ⟨ok, hok, ck, nk, dk⟩ := tb'
      exact ⟨ok, _, nk, hok, ck, dk, items_mix ib'⟩
    refine PySem.W.kat_yes (PySem.W.kat_cons (wpAny_eqBool_tuple hu k1 k2 ?_))
    refine PySem.W.kat_go (fun e0 => ?_) (fun e0 => ?_)
    · have z0 := inl_inj (of_decide_eq_true e0)
      rw [z0, lex_irr]
      exact PySem.W.kat_yes (PySem.W.kat_nil ⟨rfl, rfl⟩)
    · refine PySem.W.kat_no ?_
      show wpAny _ _ (oneLt' false _ _) _ _ _
      exact PySem.W.kat_one _ _ (HT.lt_tupInts tb tb' ib ib' hu ⟨rfl, rfl⟩)
  · have ex : ¬ n = n' := by simpa using e1
    rw [if_neg ex]
    exact PySem.W.kat_no (TS.oneLt_ints _ ⟨rfl, rfl⟩)
theorem pairs_firsts {h : Heap} {k : Value → List Int} : ∀ {vs : List Value}, (∀ v ∈ vs, PairP h v (k v)) → ∃ fs, PySem.W.KatTups h vs fs ∧ fs.length = vs.length ∧ ∀ f ∈ fs, ∃ x t, f = Value.int x t
  | [], _ => ⟨[], PySem.W.KatTups.nil, rfl, fun f hf => absurd hf (by simp)⟩
  | v :: vs, hp => by
    obtain ⟨fs, h1, h2, h3⟩ := pairs_firsts fun u hu => hp u (List.mem_cons_of_mem _ hu)
    obtain ⟨a, b, n, t, ks, e, en, ⟨o, ho, hc, z, hd⟩, ti⟩ := hp v List.mem_cons_self
    subst e
    refine ⟨Value.int n t :: fs, PySem.W.KatTups.cons ho hc hd rfl h1, by rw [List.length_cons, List.length_cons, h2], fun f hf => ?_⟩
    rcases List.mem_cons.mp hf with rfl | hf
    · exact ⟨_, _, rfl⟩
    · exact h3 f hf
theorem pairs_sortable {a : Addr} {vs : List Value} {k : Value → List Int} (hu : A.units < cLine) (h0 : 0 < vs.length) (hp : ∀ v ∈ vs, PairP s.heap v (k v)) (ha : ∀ o, s.heap.get? a = some o → o.cls ≠ .type "tuple") : SortableO prog w A s a vs fun v u => HT.lexLt (k v) (k u) := by
  intro h' keep
  have hp' : ∀ v ∈ vs, PairP h' v (k v) := fun v hm => (hp v hm).keeps fun b o e c => keep b o (fun z => by subst z; exact ha o e c) e
  obtain ⟨fs, h1, h2, h3⟩ := pairs_firsts hp'
  refine ⟨tuples' true, fun Q E hq => ?_, pairs_cmp hu hp'⟩
  refine PySem.W.kat_kind (T := .type "int") h1 (by omega) (fun f hm => ?_) (by rfl) ?_
  · obtain ⟨x, t, rfl⟩ := h3 f hm
    exact PySem.W.Looks.now
  · have e : (Value.type "int" != Value.type "tuple") = true := by first | decide +kernel | rfl | decide
    rw [e]
    exact hq
end
def rSortPair (K : PySem.W.Frag) : List V → Hp → VK → Prop := fun vs H Q => ∃ (a : Addr) (xs : List V) (k : V → List Int), vs = [V.ref a] ∧ SqL K H a xs ∧ (∀ x ∈ xs, ∃ (t b : Addr) (n : Int) (ks : List Int), x = V.ref t ∧ k x = n :: ks ∧ H t = some (.tup [.int n, .ref b]) ∧ H b = some (.tup (ks.map V.int))) ∧
  ∀ ys p, Srtd (fun x y => HT.lexLt (k x) (k y)) ys → ys.Perm xs → H p = none → Q (.ref p) (upd H p (.lst ys))
theorem cr_sortPair {X : Cx} (hu : X.A.units + 2 < cLine) : CallR X (.builtin "sorted") (rSortPair X.K) := by
  intro pins s σ H vs us Q I r h
  obtain ⟨a, xs, k, rfl, hs, hx, q⟩ := h
  obtain ⟨its, rv, hl, hz⟩ := I.list hs
  rw [Vals.ref1 r]
  obtain ⟨e1, e2⟩ := refs_back rv fun x m => by
    obtain ⟨t, _, _, _, e, _⟩ := hx x m
    exact ⟨t, e⟩
  have hp : ∀ v ∈ its, PairP s.heap v (k (backV v)) := fun v hv => by
    obtain ⟨t, rfl⟩ := e2 v hv
    have hm : V.ref t ∈ xs := by rw [e1]; exact List.mem_map.mpr ⟨_, hv, rfl⟩
    obtain ⟨t', b, n, ks, e, ek, ht, hb⟩ := hx _ hm
    cases e
    obtain ⟨its2, rv2, hT, _⟩ := I.tuple (SqT.of ht)
    cases rv2 with
    | cons r1 rr =>
      cases rr with
      | cons r2 rr2 =>
        cases rr2
        obtain ⟨tk, rfl⟩ := r1
        cases r2
        exact ⟨t, b, n, tk, ks, rfl, ek, hT, tupI_raw I (SqT.of hb)⟩
  have hu2 : X.A.in1.in1.units < cLine := by show X.A.units + 1 + 1 < cLine; omega
  refine SrtO.sorted_ord (ltv := fun v u => HT.lexLt (k (backV v)) (k (backV u))) (NtL.swo_lexL fun v => k (backV v)) hl.isList (by rw [← rv.length]; exact hz) (fun h2 h₁ a' ha kk => ?_) fun out hs hb => ?_
  · refine pairs_sortable (s := { s with heap := h₁ }) hu2 (by omega) (fun v hm => (hp v hm).keeps fun b o e _ => (kk b o e).2) fun o e => ?_
    have e' : some o = some (seqObj "list" its.toArray 0) := e.symm.trans ha
    cases e'
    intro c
    exact absurd (Value.type.inj c) (by decide)
  · obtain ⟨ep, he'⟩ := PyProof.Rows.sortedAll_at s.heap its out.toArray
    have h3 : ∀ u ∈ out, ∃ a, u = Value.ref a := fun u hu => e2 u (hb.perm.mem_iff.mp hu)
    have hpm : (out.map backV).Perm xs := by
      rw [e1]
      exact hb.perm.map backV
    have hlen : (out.map backV).length ≤ sizeLine := by
      rw [hpm.length_eq]
      exact hz
    exact ⟨.ref _, upd H (s.heap.objs.size + 1) (.lst (out.map backV)), I.laid (t' := s.toks) (fun _ _ => PyProof.Rows.sortedAll_old) (Nat.le_succ _) ⟨hlen, out, ep, vals_back h3, he'⟩, rfl, q _ _ (SrtO.srtd_map hs) hpm (I.hok.fresh (Nat.le_succ _))⟩
end GX
set_option Elab.async false
set_option linter.all false
set_option maxRecDepth 100000
set_option maxHeartbeats 4000000
/-! What leads from a wire down, past no stop. -/
namespace GX
open PySem PySem.Spec PyProof.Rows L2
inductive Rc (n : Net) (st : List Nat) (w j : Nat) : Nat → Prop
  | here : w ∉ st → Rc n st w j w
  | step {g p : Nat} {k : Nat × Nat × Nat} : Rc n st w j g → n.many ≤ g → j ≤ g → n.gates[g - n.many]? = some k → (p = k.2.1 ∨ p = k.2.2) → p ∉ st → Rc n st w j p
theorem place_lt {n : Net} (ok : n.Ok) {g p : Nat} {k : Nat × Nat × Nat} (hg : n.many ≤ g) (hk : n.gates[g - n.many]? = some k) (hp : p = k.2.1 ∨ p = k.2.2) : p < g := by
  obtain ⟨_, h1, h2⟩ := ok.gs _ _ hk
  rcases hp with rfl | rfl <;> omega
theorem Rc.le {n : Net} (ok : n.Ok) {st : List Nat} {w j y : Nat} (h : Rc n st w j y) : y ≤ w := by
  induction h with
  | here _ => exact Nat.le_refl _
  | step _ hg _ hk hp _ ih => exact Nat.le_trans (Nat.le_of_lt (place_lt ok hg hk hp)) ih
theorem Rc.free {n : Net} {st : List Nat} {w j y : Nat} (h : Rc n st w j y) : y ∉ st := by cases h <;> assumption
theorem Rc.mono {n : Net} {st : List Nat} {w j i y : Nat} (h : Rc n st w j y) (l : i ≤ j) : Rc n st w i y := by
  induction h with
  | here e => exact .here e
  | step _ hg hj hk hp hs ih => exact .step ih hg (Nat.le_trans l hj) hk hp hs
theorem Rc.low {n : Net} {st : List Nat} {w j y : Nat} (h : Rc n st w j y) : Rc n st w n.many y := by
  induction h with
  | here e => exact .here e
  | step _ hg hj hk hp hs ih => exact .step ih hg hg hk hp hs
theorem inV_n (x : Nat) (st : List Nat) : inV (nV x) (st.map nV) = decide (x ∈ st) := by
  unfold inV
  rw [List.any_map]
  induction st with
  | nil => rfl
  | cons y r ih =>
    rw [List.any_cons, ih]
    have e : ((fun y => eqV y (nV x)) ∘ nV) y = decide (x = y) := by
      show eqV (nV y) (nV x) = decide (x = y)
      unfold eqV
      by_cases h : x = y
      · subst h
        rw [decide_eq_true (rfl : x = x)]
        exact decide_eq_true rfl
      · rw [decide_eq_false h]
        refine decide_eq_false fun z => h ?_
        have z' : ((y : Nat) : Int) = (x : Int) := z
        omega
    rw [e, ← Bool.decide_or]
    congr 1
    exact propext List.mem_cons.symm
theorem flat_ns (st : List Nat) : (st.map nV).all flatV = true := by
  rw [List.all_map, List.all_eq_true]
  intro x _
  rfl
/-- rising, unlike: told by its members -/
theorem rise_eq : ∀ {xs ys : List Nat}, xs.Pairwise (· < ·) → ys.Pairwise (· < ·) → (∀ z, z ∈ xs ↔ z ∈ ys) → xs = ys
  | [], [], _, _, _ => rfl
  | [], y :: ys, _, _, h => by cases (h y).mpr List.mem_cons_self
  | x :: xs, [], _, _, h => by cases (h x).mp List.mem_cons_self
  | x :: xs, y :: ys, hx, hy, h => by
    have hx1 := List.pairwise_cons.mp hx
    have hy1 := List.pairwise_cons.mp hy
    have e : x = y := by
      rcases List.mem_cons.mp ((h x).mp List.mem_cons_self) with e | e
      · exact e
      · rcases List.mem_cons.mp ((h y).mpr List.mem_cons_self) with e' | e'
        · exact e'.symm
        · have := hy1.1 _ e
          have := hx1.1 _ e'
          omega
    subst e
    refine congrArg _ (rise_eq hx1.2 hy1.2 fun z => ⟨fun hz => ?_, fun hz => ?_⟩)
    · rcases List.mem_cons.mp ((h z).mp (List.mem_cons_of_mem _ hz)) with e | e
      · have := hx1.1 _ hz
        omega
      · exact e
    · rcases List.mem_cons.mp ((h z).mpr (List.mem_cons_of_mem _ hz)) with e | e
      · have := hy1.1 _ hz
        omega
      · exact e
/-- ways -/
structure Way (n : Net) (w : Nat) (xs : List Nat) : Prop where
  ne : 0 < xs.length
  lt : ∀ x ∈ xs, x < n.many + n.gates.length
  first : xs.getD 0 0 < n.many
  last : xs.getD (xs.length - 1) 0 = w
  steps : ∀ i, i + 1 < xs.length → n.many ≤ xs.getD (i + 1) 0 ∧ ∃ k, n.gates[xs.getD (i + 1) 0 - n.many]? = some k ∧ (xs.getD i 0 = k.2.1 ∨ xs.getD i 0 = k.2.2)
theorem walk_zipT {K : PySem.W.Frag} {a b : Addr} {xs ys : List V} {n : Nat} (hn : n = min xs.length ys.length) : Walk (RZ.ItzT K a b) n (fun H => SqT K H a xs ∧ SqT K H b ys) (YPair (fun i => xs[i]?) (fun i => ys[i]?)) := by
  subst hn
  refine ⟨fun i _ hi q => ?_, fun _ q => ⟨xs, ys, q.1, q.2, by omega⟩, fun i H v H' _ q y => ?_⟩
  · exact ⟨xs, ys, xs[i]'(by omega), ys[i]'(by omega), q.1, q.2, List.getElem?_eq_getElem _, List.getElem?_eq_getElem _⟩
  · obtain ⟨T, x, z, g1, g2, g3, g4, g5⟩ := y
    exact ⟨T, x, z, g1, g2, g3, g4 xs q.1, g5 ys q.2⟩
end GX
set_option Elab.async false
set_option linter.all false
set_option maxRecDepth 100000
set_option maxHeartbeats 4000000
/-! Lists of the wires reached; ways put together. -/
namespace GX
open PySem PySem.Spec PyProof.Rows L2
theorem nodup_len : ∀ {xs ys : List Nat}, xs.Nodup → (∀ x ∈ xs, x ∈ ys) → xs.length ≤ ys.length
  | [], _, _, _ => Nat.zero_le _
  | x :: xs, ys, h, s => by
    have h1 := List.nodup_cons.mp h
    have hx := s x List.mem_cons_self
    have ih := nodup_len (ys := ys.erase x) h1.2 fun z hz => (List.mem_erase_of_ne (fun e => h1.1 (by rw [← e]; exact hz))).mpr (s z (List.mem_cons_of_mem _ hz))
    rw [List.length_erase_of_mem hx] at ih
    have : 0 < ys.length := List.length_pos_of_mem hx
    rw [List.length_cons]
    omega
theorem nodup_lt {xs : List Nat} {m : Nat} (h : xs.Nodup) (s : ∀ x ∈ xs, x < m) : xs.length ≤ m := by
  have := nodup_len (ys := List.range m) h fun x hx => List.mem_range.mpr (s x hx)
  rwa [List.length_range] at this
theorem nodup_snoc {xs : List Nat} {x : Nat} (h : xs.Nodup) (n : x ∉ xs) : (xs ++ [x]).Nodup := by
  rw [List.nodup_append]
  refine ⟨h, by simp, fun a ha b hb => ?_⟩
  rw [List.mem_singleton.mp hb]
  exact fun e => n (by rw [← e]; exact ha)
theorem getD_pre {xs t : List Nat} {i : Nat} (h : i < xs.length) : (xs ++ t).getD i 0 = xs.getD i 0 := by
  rw [List.getD_eq_getElem?_getD, List.getD_eq_getElem?_getD, List.getElem?_append_left h]
theorem getD_mem {xs : List Nat} {i : Nat} (h : i < xs.length) : xs.getD i 0 ∈ xs := by
  rw [List.getD_eq_getElem?_getD, List.getElem?_eq_getElem h]
  exact List.getElem_mem h
theorem mem_getD {xs : List Nat} {x : Nat} (h : x ∈ xs) : ∃ i, i < xs.length ∧ xs.getD i 0 = x := by
  obtain ⟨i, hi, e⟩ := List.getElem_of_mem h
  exact ⟨i, hi, by rw [List.getD_eq_getElem?_getD, List.getElem?_eq_getElem hi]; exact e⟩
/-- found so far; the first k have been gone on from -/
structure LedOk (n : Net) (st : List Nat) (w : Nat) (xs : List Nat) (k : Nat) : Prop where
  nd : xs.Nodup
  rc : ∀ y ∈ xs, Rc n st w n.many y
  self : w ∉ st → w ∈ xs
  le : k ≤ xs.length
  done : ∀ j, j < k → n.many ≤ xs.getD j 0 → ∀ g, n.gates[xs.getD j 0 - n.many]? = some g → ∀ p, (p = g.2.1 ∨ p = g.2.2) → p ∉ st → p ∈ xs
theorem LedOk.all {n : Net} {st : List Nat} {w : Nat} {xs : List Nat} (h : LedOk n st w xs xs.length) (y : Nat) : y ∈ xs ↔ Rc n st w n.many y := by
  refine ⟨h.rc y, fun r => ?_⟩
  induction r with
  | here e => exact h.self e
  | step _ hg _ hk hp hs ih =>
    obtain ⟨i, hi, e⟩ := mem_getD ih
    exact h.done i hi (by rw [e]; exact hg) _ (by rw [e]; exact hk) _ hp hs
def isSt (n : Net) (x y : Nat) : Prop := n.many ≤ y ∧ ∃ k, n.gates[y - n.many]? = some k ∧ (x = k.2.1 ∨ x = k.2.2)
/-- from x (left out) up to w -/
structure Up (n : Net) (x w : Nat) (zs : List Nat) : Prop where
  lt : ∀ z ∈ zs, z < n.many + n.gates.length
  last : (x :: zs).getD zs.length 0 = w
  ch : ∀ i, i + 1 < (x :: zs).length → isSt n ((x :: zs).getD i 0) ((x :: zs).getD (i + 1) 0)
theorem Up.nil (n : Net) (w : Nat) : Up n w w [] := ⟨fun z hz => (by cases hz), rfl, fun i hi => (by simp at hi)⟩
theorem Up.cons {n : Net} {p x w : Nat} {zs : List Nat} (s : isSt n p x) (hx : x < n.many + n.gates.length) (u : Up n x w zs) : Up n p w (x :: zs) := by
  refine ⟨fun z hz => ?_, ?_, fun i hi => ?_⟩
  · rcases List.mem_cons.mp hz with rfl | hz
    · exact hx
    · exact u.lt z hz
  · exact u.last
  · cases i with
    | zero => exact s
    | succ i => exact u.ch i (by simpa using hi)
/-- from some wire down to w, upward -/
structure Down (n : Net) (w : Nat) (xs : List Nat) : Prop where
  ne : 0 < xs.length
  lt : ∀ x ∈ xs, x < n.many + n.gates.length
  last : xs.getD (xs.length - 1) 0 = w
  steps : ∀ i, i + 1 < xs.length → isSt n (xs.getD i 0) (xs.getD (i + 1) 0)
theorem Down.one {n : Net} {w : Nat} (h : w < n.many + n.gates.length) : Down n w [w] := ⟨Nat.zero_lt_one, fun x hx => (by rw [List.mem_singleton.mp hx]; exact h), rfl, fun i hi => (by simp at hi)⟩
theorem Down.cons {n : Net} {w p : Nat} {xs : List Nat} (d : Down n w xs) (hp : p < n.many + n.gates.length) (s : isSt n p (xs.getD 0 0)) : Down n w (p :: xs) := by
  have h0 := d.ne
  refine ⟨by rw [List.length_cons]; omega, fun x hx => ?_, ?_, fun i hi => ?_⟩
  · rcases List.mem_cons.mp hx with rfl | hx
    · exact hp
    · exact d.lt x hx
  · rw [List.length_cons, show xs.length + 1 - 1 = (xs.length - 1) + 1 by omega]
    exact d.last
  · cases i with
    | zero => exact s
    | succ i => exact d.steps i (by simpa using hi)
theorem Down.way {n : Net} {w : Nat} {xs : List Nat} (d : Down n w xs) (h : xs.getD 0 0 < n.many) : Way n w xs := ⟨d.ne, d.lt, h, d.last, d.steps⟩
theorem getD_post {xs t : List Nat} {i : Nat} (h : xs.length ≤ i) : (xs ++ t).getD i 0 = t.getD (i - xs.length) 0 := by
  rw [List.getD_eq_getElem?_getD, List.getD_eq_getElem?_getD, List.getElem?_append_right h]
theorem Way.join {n : Net} {x w : Nat} {ys zs : List Nat} (a : Way n x ys) (u : Up n x w zs) : Way n w (ys ++ zs) := by
  have h0 := a.ne
  refine ⟨by rw [List.length_append]; omega, fun z hz => ?_, ?_, ?_, fun i hi => ?_⟩
  · rcases List.mem_append.mp hz with hz | hz
    · exact a.lt z hz
    · exact u.lt z hz
  · rw [getD_pre h0]
    exact a.first
  · have ul := u.last
    rw [List.length_append]
    cases zs with
    | nil =>
      rw [List.append_nil, List.length_nil, Nat.add_zero]
      have : x = w := ul
      rw [← this]
      exact a.last
    | cons z r =>
      rw [getD_post (by rw [List.length_cons]; omega), List.length_cons]
      rw [show ys.length + (r.length + 1) - 1 - ys.length = r.length by omega]
      exact ul
  · rw [List.length_append] at hi
    by_cases h1 : i + 1 < ys.length
    · rw [getD_pre h1, getD_pre (by omega)]
      exact a.steps i h1
    · by_cases h2 : i + 1 = ys.length
      · have e : ys.getD i 0 = x := by
          rw [show i = ys.length - 1 by omega]
          exact a.last
        have e1 : (ys ++ zs).getD i 0 = x := by rw [getD_pre (by omega), e]
        have e2 : (ys ++ zs).getD (i + 1) 0 = zs.getD 0 0 := by rw [getD_post (by omega), h2, Nat.sub_self]
        rw [e1, e2]
        cases zs with
        | nil => simp at hi; omega
        | cons z r => exact u.ch 0 (by simp)
      · have e1 : (ys ++ zs).getD i 0 = zs.getD (i - ys.length) 0 := getD_post (by omega)
        have e2 : (ys ++ zs).getD (i + 1) 0 = zs.getD (i + 1 - ys.length) 0 := getD_post (by omega)
        rw [e1, e2]
        have := u.ch (i - ys.length + 1) (by rw [List.length_cons]; omega)
        rw [show i + 1 - ys.length = i - ys.length + 1 by omega]
        exact this
end GX
set_option Elab.async false
set_option linter.all false
set_option maxRecDepth 100000
set_option maxHeartbeats 4000000
/-! Wires that tell a gate: going back from a cut. -/
namespace GX
open PySem PySem.Spec PyProof.Rows L2
theorem Rc.sub {n : Net} {st st' : List Nat} {w j y : Nat} (h : Rc n st' w j y) (s : ∀ z ∈ st, z ∈ st') : Rc n st w j y := by
  induction h with
  | here e => exact .here fun z => e (s _ z)
  | step _ hg hj hk hp hs ih => exact .step ih hg hj hk hp fun z => hs (s _ z)
/-- no input leads past them -/
def Sep (n : Net) (w : Nat) (st : List Nat) : Prop := ∀ y, Rc n st w n.many y → n.many ≤ y
theorem Sep.more {n : Net} {w : Nat} {st st' : List Nat} (h : Sep n w st) (s : ∀ z ∈ st, z ∈ st') : Sep n w st' := fun y r => h y (r.sub s)
theorem sep_first {n : Net} {w : Nat} {st : List Nat} {k : Nat × Nat × Nat} (hw : n.many ≤ w) (hk : n.gates[w - n.many]? = some k) (h : ∀ z, (z = k.2.1 ∨ z = k.2.2) → z ∈ st) : Sep n w st := by
  have all : ∀ y, Rc n st w n.many y → y = w := fun y r => by
    induction r with
    | here _ => rfl
    | step _ _ _ hk' hp hs ih =>
      subst ih
      rw [hk] at hk'
      cases hk'
      exact absurd (h _ hp) hs
  exact fun y r => by rw [all y r]; exact hw
structure CutOk (n : Net) (gt : Nat) (ys : List Nat) : Prop where
  ne : 0 < ys.length
  lt : ∀ y ∈ ys, y < gt
  sep : Sep n gt ys
  rise : ys.Pairwise (· < ·)
end GX
set_option Elab.async false
set_option linter.all false
set_option maxRecDepth 100000
set_option maxHeartbeats 4000000
/-! Bits of numbers, as the texts write them. -/
namespace GX
open PySem PySem.Spec PyProof.Rows L2
theorem natAt {l : List Nat} {i : Nat} (h : i < l.length) : (l.map nV)[i]? = some (nV (l.getD i 0)) := by
  rw [List.getElem?_map, List.getD_eq_getElem?_getD, List.getElem?_eq_getElem h]
  rfl
theorem mapV (xs : List Nat) : (xs.map fun n : Nat => (n : Int)).map V.int = xs.map nV := by
  rw [List.map_map]
  rfl
theorem dpNat (K : PySem.W.Frag) (H : Hp) : ∀ xs : List Nat, DpAll K H (xs.map nV) ((xs.map fun n : Nat => (n : Int)).map PyData.int)
  | [] => .nil
  | x :: r => .cons (.int _) (dpNat K H r)
theorem getSnoc {xs : List Nat} {x i : Nat} (h : i < xs.length) : (xs ++ [x]).getD i 0 = xs.getD i 0 := getD_pre h
theorem getLastN {xs : List Nat} {x : Nat} : (xs ++ [x]).getD xs.length 0 = x := by
  rw [List.getD_eq_getElem?_getD, List.getElem?_append_right (Nat.le_refl _), Nat.sub_self]
  rfl
/-! ### idle places -/
theorem small256 {n : Nat} (h : n ≤ 10000) : n < sizeLine := Nat.lt_of_le_of_lt h (by decide)
end GX
set_option Elab.async false
set_option linter.all false
set_option maxRecDepth 100000
set_option maxHeartbeats 4000000
/-! Tuples at a list of addresses. -/
namespace GX
open PySem PySem.Spec PyProof.Rows L2
def RefsAt {α : Type} (f : α → List V) (H : Hp) (ps : List Addr) (xs : List α) : Prop := ps.length = xs.length ∧ ∀ (i : Nat) (p : Addr) (x : α), ps[i]? = some p → xs[i]? = some x → H p = some (.tup (f x))
section
variable {α : Type} {f : α → List V} {H H' : Hp} {ps : List Addr} {xs : List α}
theorem RefsAt.nil (f : α → List V) (H : Hp) : RefsAt f H [] [] := ⟨rfl, fun i p g e _ => by simp at e⟩
theorem RefsAt.mono (x : RefsAt f H ps xs) (k : ∀ b zs, H b = some (.tup zs) → H' b = some (.tup zs)) : RefsAt f H' ps xs := ⟨x.1, fun i p g e1 e2 => k _ _ (x.2 i p g e1 e2)⟩
theorem RefsAt.push {q : Addr} {y : α} (x : RefsAt f H ps xs) (h : H q = some (.tup (f y))) : RefsAt f H (ps ++ [q]) (xs ++ [y]) := by
  refine ⟨by rw [List.length_append, List.length_append, x.1]; rfl, fun i r g e1 e2 => ?_⟩
  by_cases hi : i < ps.length
  · rw [List.getElem?_append_left hi] at e1
    rw [List.getElem?_append_left (by rw [← x.1]; exact hi)] at e2
    exact x.2 i r g e1 e2
  · rw [List.getElem?_append_right (by omega)] at e1
    rw [List.getElem?_append_right (by rw [← x.1]; omega)] at e2
    have hz : i - ps.length = 0 := by
      obtain ⟨h1, _⟩ := List.getElem?_eq_some_iff.mp e1
      simp at h1
      omega
    rw [hz] at e1
    rw [← x.1, hz] at e2
    cases e1
    cases e2
    exact h
theorem RefsAt.at_ (x : RefsAt f H ps xs) {i : Nat} {v : V} (e : (ps.map V.ref)[i]? = some v) : ∃ q y, v = .ref q ∧ xs[i]? = some y ∧ H q = some (.tup (f y)) := by
  rw [List.getElem?_map] at e
  cases h : ps[i]? with
  | none => rw [h] at e; cases e
  | some q =>
    rw [h] at e
    cases e
    have h2 : i < xs.length := by rw [← x.1]; exact (List.getElem?_eq_some_iff.mp h).1
    exact ⟨q, xs[i], rfl, List.getElem?_eq_getElem h2, x.2 i q _ h (List.getElem?_eq_getElem h2)⟩
theorem RefsAt.get (x : RefsAt f H ps xs) {i : Nat} {y : α} (e : xs[i]? = some y) : ∃ q, (ps.map V.ref)[i]? = some (.ref q) ∧ H q = some (.tup (f y)) := by
  have h2 : i < ps.length := by rw [x.1]; exact (List.getElem?_eq_some_iff.mp e).1
  exact ⟨ps[i], by rw [List.getElem?_map, List.getElem?_eq_getElem h2]; rfl, x.2 i _ y (List.getElem?_eq_getElem h2) e⟩
end
end GX
namespace GX
open PySem PySem.Spec PyProof.Rows L2
/-- things of any make at a list of addresses -/
def PtsAt {α : Type} (R : Hp → Addr → α → Prop) (H : Hp) (ps : List Addr) (xs : List α) : Prop := ps.length = xs.length ∧ ∀ (i : Nat) (p : Addr) (x : α), ps[i]? = some p → xs[i]? = some x → R H p x
section
variable {α : Type} {R : Hp → Addr → α → Prop} {H H' : Hp} {ps : List Addr} {xs : List α}
theorem PtsAt.nil (R : Hp → Addr → α → Prop) (H : Hp) : PtsAt R H [] [] := ⟨rfl, fun i p g e _ => by simp at e⟩
theorem PtsAt.mono (x : PtsAt R H ps xs) (k : ∀ p y, R H p y → R H' p y) : PtsAt R H' ps xs := ⟨x.1, fun i p g e1 e2 => k _ _ (x.2 i p g e1 e2)⟩
theorem PtsAt.cons {q : Addr} {y : α} (x : PtsAt R H ps xs) (h : R H q y) : PtsAt R H (q :: ps) (y :: xs) := by
  refine ⟨by rw [List.length_cons, List.length_cons, x.1], fun i r g e1 e2 => ?_⟩
  cases i with
  | zero =>
    cases e1
    cases e2
    exact h
  | succ i => exact x.2 i r g e1 e2
theorem PtsAt.push {q : Addr} {y : α} (x : PtsAt R H ps xs) (h : R H q y) : PtsAt R H (ps ++ [q]) (xs ++ [y]) := by
  refine ⟨by rw [List.length_append, List.length_append, x.1]; rfl, fun i r g e1 e2 => ?_⟩
  by_cases hi : i < ps.length
  · rw [List.getElem?_append_left hi] at e1
    rw [List.getElem?_append_left (by rw [← x.1]; exact hi)] at e2
    exact x.2 i r g e1 e2
  · rw [List.getElem?_append_right (by omega)] at e1
    rw [List.getElem?_append_right (by rw [← x.1]; omega)] at e2
    have hz : i - ps.length = 0 := by
      obtain ⟨h1, _⟩ := List.getElem?_eq_some_iff.mp e1
      simp at h1
      omega
    rw [hz] at e1
    rw [← x.1, hz] at e2
    cases e1
    cases e2
    exact h
theorem PtsAt.at_ (x : PtsAt R H ps xs) {i : Nat} {v : V} (e : (ps.map V.ref)[i]? = some v) : ∃ q y, v = .ref q ∧ xs[i]? = some y ∧ R H q y := by
  rw [List.getElem?_map] at e
  cases h : ps[i]? with
  | none => rw [h] at e; cases e
  | some q =>
    rw [h] at e
    cases e
    have h2 : i < xs.length := by rw [← x.1]; exact (List.getElem?_eq_some_iff.mp h).1
    exact ⟨q, xs[i], rfl, List.getElem?_eq_getElem h2, x.2 i q _ h (List.getElem?_eq_getElem h2)⟩
theorem PtsAt.get (x : PtsAt R H ps xs) {i : Nat} {y : α} (e : xs[i]? = some y) : ∃ q, (ps.map V.ref)[i]? = some (.ref q) ∧ R H q y := by
  have h2 : i < ps.length := by rw [x.1]; exact (List.getElem?_eq_some_iff.mp e).1
  exact ⟨ps[i], by rw [List.getElem?_map, List.getElem?_eq_getElem h2]; rfl, x.2 i _ y (List.getElem?_eq_getElem h2) e⟩
end
end GX
set_option Elab.async false
set_option linter.all false
set_option maxRecDepth 100000
set_option maxHeartbeats 4000000
namespace GX
open PySem PySem.Spec PyProof.Rows L2
/-- the well, the tables stand; all else is kept -/
structure Dk (W : Addr) (Ts : List Addr) (H H' : Hp) : Prop where
  wl : Wl H' W
  tb : Tabs Ts H'
  kp : Keep (W :: Ts) H H'
theorem Dk.aft {W : Addr} {Ts : List Addr} {H H1 H2 : Hp} (d : Dk W Ts H H1) (a : Aft Ts H1 H2) : Dk W Ts H H2 := ⟨d.wl.keep a.kp (d.wl.tab d.tb), a.tb, d.kp.trans (a.kp.mono fun b hb => List.mem_cons_of_mem _ hb)⟩
theorem Dk.same {W : Addr} {Ts : List Addr} {H H1 H2 : Hp} (d : Dk W Ts H H1) (s : Same H1 H2) : Dk W Ts H H2 := d.aft (Aft.ofSame d.tb s)
theorem Wk.tabs {W : Addr} {Ts : List Addr} {H H1 : Hp} (wl : Wl H W) (tb : Tabs Ts H) (s : Wk W H H1) : Tabs Ts H1 := tb.keep s.kp fun b hb => by rw [List.mem_singleton.mp hb]; exact wl.tab tb
theorem Dk.draw {W : Addr} {Ts : List Addr} {H H1 H2 : Hp} (d : Dk W Ts H H1) (s : Wk W H1 H2) : Dk W Ts H H2 := ⟨s.wl, s.tabs d.wl d.tb, d.kp.trans (s.kp.mono fun b hb => by rw [List.mem_singleton.mp hb]; exact List.mem_cons_self)⟩
/-- a list of our own, made behind H, is changed -/
theorem Dk.put {W : Addr} {Ts : List Addr} {H H1 : Hp} {l : Addr} {o : HO} {xs : List V} (d : Dk W Ts H H1) (nl : H l = none) (hl : H1 l = some (.lst xs)) (nW : l ≠ W) : Dk W Ts H (upd H1 l o) :=
  ⟨by obtain ⟨x, y, z, e⟩ := d.wl; exact ⟨x, y, z, by rw [upd_ne (fun z => nW z.symm)]; exact e⟩, d.tb.upd (d.tb.lst hl), fun b u e n => by rw [upd_ne (ne_of_none e nl)]; exact d.kp b u e n⟩
theorem Dk.was {W : Addr} {Ts : List Addr} {H H1 : Hp} {l : Addr} (d : Dk W Ts H H1) (n : H1 l = none) : H l = none ∧ l ≠ W := by
  have hW : l ≠ W := fun z => by
    obtain ⟨_, _, _, e⟩ := d.wl
    rw [← z, n] at e
    cases e
  refine ⟨?_, hW⟩
  cases e : H l with
  | none => rfl
  | some u =>
    have := d.kp _ _ e fun z => by
      rcases List.mem_cons.mp z with z | z
      · exact hW z
      · exact d.tb.none n z
    rw [n] at this
    cases this
end GX
set_option Elab.async false
set_option linter.all false
set_option maxRecDepth 100000
set_option maxHeartbeats 4000000
/-! list(reversed(xs)), xs a list. -/
namespace GX
open PySem PySem.Spec PyProof.Rows L2 RT
end GX
set_option Elab.async false
set_option linter.all false
set_option maxRecDepth 100000
set_option maxHeartbeats 4000000
/-! A deck: a list with a list of cells, a seed and a count. -/
namespace GX
open PySem PySem.Spec PyProof.Rows L2
structure Wd (H : Hp) (W C : Addr) : Prop where
  ex : ∃ (ns : List Int) (a b : Int), H W = some (.lst [.ref C, .int a, .int b]) ∧ H C = some (.lst (ns.map V.int)) ∧ ns.length ≤ 64
  ne : W ≠ C
theorem Wd.nt {H : Hp} {W C : Addr} (h : Wd H W C) : ∀ b ∈ [W, C], ∀ xs, H b ≠ some (.tup xs) := fun b hb xs e => by
  obtain ⟨ns, a, c, e1, e2, _⟩ := h.ex
  rcases List.mem_cons.mp hb with z | z
  · rw [z, e1] at e
    cases e
  · rw [List.mem_singleton.mp z, e2] at e
    cases e
theorem Wd.same {H H' : Hp} {W C : Addr} (h : Wd H W C) (s : Same H H') : Wd H' W C := by
  obtain ⟨⟨ns, a, c, e1, e2, l⟩, ne⟩ := h
  exact ⟨⟨ns, a, c, s _ _ e1, s _ _ e2, l⟩, ne⟩
theorem Wd.keep {X : List Addr} {H H' : Hp} {W C : Addr} (h : Wd H W C) (k : Keep X H H') (n : W ∉ X) (m : C ∉ X) : Wd H' W C := by
  obtain ⟨⟨ns, a, c, e1, e2, l⟩, ne⟩ := h
  exact ⟨⟨ns, a, c, k _ _ e1 n, k _ _ e2 m, l⟩, ne⟩
theorem Wd.tabW {Ts : List Addr} {H : Hp} {W C : Addr} (h : Wd H W C) (t : Tabs Ts H) : W ∉ Ts := by
  obtain ⟨ns, a, c, e1, e2, _⟩ := h.ex
  exact t.lst e1
theorem Wd.tabC {Ts : List Addr} {H : Hp} {W C : Addr} (h : Wd H W C) (t : Tabs Ts H) : C ∉ Ts := by
  obtain ⟨ns, a, c, e1, e2, _⟩ := h.ex
  exact t.lst e2
/-- the deck stands, all else is kept -/
structure Wk2 (W C : Addr) (H H' : Hp) : Prop where
  wl : Wd H' W C
  kp : Keep [W, C] H H'
theorem Wk2.nxt {W C : Addr} {H H1 H2 : Hp} (s : Wk2 W C H H1) (t : Wk2 W C H1 H2) : Wk2 W C H H2 := ⟨t.wl, s.kp.trans t.kp⟩
theorem Wk2.same {W C : Addr} {H H1 H2 : Hp} (s : Wk2 W C H H1) (e : Same H1 H2) : Wk2 W C H H2 := ⟨s.wl.same e, s.kp.trans (Same.keep e)⟩
theorem Wk2.new {W C : Addr} {H H1 : Hp} {p : Addr} {o : HO} (s : Wk2 W C H H1) (n : H1 p = none) : Wk2 W C H (upd H1 p o) := s.same (Same.new n)
theorem Wk2.refl {W C : Addr} {H : Hp} (h : Wd H W C) : Wk2 W C H H := ⟨h, Keep.refl⟩
theorem Wd.tup {H H' : Hp} {W C : Addr} (h : Wd H W C) (k : Wk2 W C H H') {b : Addr} {xs : List V} (e : H b = some (.tup xs)) : H' b = some (.tup xs) := k.kp.tups h.nt b xs e
theorem Wd.new {H : Hp} {W C l : Addr} (h : Wd H W C) (n : H l = none) : l ≠ W ∧ l ≠ C := by
  obtain ⟨ns, a, c, e1, e2, _⟩ := h.ex
  refine ⟨fun z => ?_, fun z => ?_⟩
  · rw [← z, n] at e1
    cases e1
  · rw [← z, n] at e2
    cases e2
theorem Wk2.at_ {W C : Addr} {H H' : Hp} {l : Addr} {o : HO} (k : Wk2 W C H H') (n : l ≠ W ∧ l ≠ C) (e : H l = some o) : H' l = some o := k.kp _ _ e fun z => by
  rcases List.mem_cons.mp z with z | z
  · exact n.1 z
  · exact n.2 (List.mem_singleton.mp z)
theorem Wk2.was {W C : Addr} {H H' : Hp} {l : Addr} (k : Wk2 W C H H') (n : H' l = none) : H l = none := by
  obtain ⟨n1, n2⟩ := k.wl.new n
  cases e : H l with
  | none => rfl
  | some u =>
    have := k.at_ ⟨n1, n2⟩ e
    rw [n] at this
    cases this
/-- a list of our own is changed -/
theorem Wk2.put {W C : Addr} {H H' : Hp} {l : Addr} {o : HO} (s : Wk2 W C H H') (nl : H l = none) (n : l ≠ W ∧ l ≠ C) : Wk2 W C H (upd H' l o) := by
  obtain ⟨⟨⟨ns, a, c, e1, e2, z⟩, ne⟩, k⟩ := s
  exact ⟨⟨⟨ns, a, c, by rw [upd_ne (Ne.symm n.1)]; exact e1, by rw [upd_ne (Ne.symm n.2)]; exact e2, z⟩, ne⟩, fun b u e hb => by rw [upd_ne (ne_of_none e nl)]; exact k b u e hb⟩
theorem tupPut {H : Hp} {l : Addr} {xs ys : List V} (h : H l = some (.lst xs)) : ∀ b zs, H b = some (.tup zs) → upd H l (.lst ys) b = some (.tup zs) := fun b zs e => by
  rw [upd_ne (fun z => by rw [z, h] at e; cases e)]
  exact e
/-- the deck, the tables stand; all else is kept -/
structure Dk2 (W C : Addr) (Ts : List Addr) (H H' : Hp) : Prop where
  wl : Wd H' W C
  tb : Tabs Ts H'
  kp : Keep (W :: C :: Ts) H H'
theorem Dk2.aft {W C : Addr} {Ts : List Addr} {H H1 H2 : Hp} (d : Dk2 W C Ts H H1) (a : Aft Ts H1 H2) : Dk2 W C Ts H H2 := ⟨d.wl.keep a.kp (d.wl.tabW d.tb) (d.wl.tabC d.tb), a.tb, d.kp.trans (a.kp.mono fun b hb => List.mem_cons_of_mem _ (List.mem_cons_of_mem _ hb))⟩
theorem Dk2.same {W C : Addr} {Ts : List Addr} {H H1 H2 : Hp} (d : Dk2 W C Ts H H1) (s : Same H1 H2) : Dk2 W C Ts H H2 := d.aft (Aft.ofSame d.tb s)
theorem Wk2.tabs {W C : Addr} {Ts : List Addr} {H H1 : Hp} (wl : Wd H W C) (tb : Tabs Ts H) (s : Wk2 W C H H1) : Tabs Ts H1 := tb.keep s.kp fun b hb => by
  rcases List.mem_cons.mp hb with z | z
  · rw [z]; exact wl.tabW tb
  · rw [List.mem_singleton.mp z]; exact wl.tabC tb
theorem Dk2.draw {W C : Addr} {Ts : List Addr} {H H1 H2 : Hp} (d : Dk2 W C Ts H H1) (s : Wk2 W C H1 H2) : Dk2 W C Ts H H2 := ⟨s.wl, s.tabs d.wl d.tb, d.kp.trans (s.kp.mono fun b hb => by
  rcases List.mem_cons.mp hb with z | z
  · rw [z]; exact List.mem_cons_self
  · rw [List.mem_singleton.mp z]; exact List.mem_cons_of_mem _ List.mem_cons_self)⟩
theorem Dk2.put {W C : Addr} {Ts : List Addr} {H H1 : Hp} {l : Addr} {o : HO} {xs : List V} (d : Dk2 W C Ts H H1) (nl : H l = none) (hl : H1 l = some (.lst xs)) (n : l ≠ W ∧ l ≠ C) : Dk2 W C Ts H (upd H1 l o) :=
  ⟨by obtain ⟨⟨ns, x, y, e, e2, z⟩, ne⟩ := d.wl; exact ⟨⟨ns, x, y, by rw [upd_ne (Ne.symm n.1)]; exact e, by rw [upd_ne (Ne.symm n.2)]; exact e2, z⟩, ne⟩, d.tb.upd (d.tb.lst hl), fun b u e m => by rw [upd_ne (ne_of_none e nl)]; exact d.kp b u e m⟩
theorem Dk2.was {W C : Addr} {Ts : List Addr} {H H1 : Hp} {l : Addr} (d : Dk2 W C Ts H H1) (n : H1 l = none) : H l = none := by
  obtain ⟨n1, n2⟩ := d.wl.new n
  cases e : H l with
  | none => rfl
  | some u =>
    have := d.kp _ _ e fun z => by
      rcases List.mem_cons.mp z with z | z
      · exact n1 z
      · rcases List.mem_cons.mp z with z | z
        · exact n2 z
        · exact d.tb.none n z
    rw [n] at this
    cases this
theorem dpInt (K : PySem.W.Frag) (H : Hp) : ∀ xs : List Int, DpAll K H (xs.map V.int) (xs.map PyData.int)
  | [] => .nil
  | x :: r => .cons (.int _) (dpInt K H r)
theorem eqvAllN {xs : List PyData} : PyData.eqvAll xs [] = decide (xs.length = 0) := by cases xs <;> rfl
theorem len64 {n : Nat} (h : n ≤ 100000) : n < sizeLine := Nat.lt_of_le_of_lt h (by decide)
end GX
set_option Elab.async false
set_option linter.all false
set_option maxRecDepth 100000
set_option maxHeartbeats 4000000
/-! Covers as data, and how they stand in the heap; dicts of wires. -/
namespace GX
open PySem PySem.Spec PyProof.Rows L2
theorem Same.was {H H' : Hp} {l : Addr} (s : Same H H') (n : H' l = none) : H l = none := by
  cases e : H l with
  | none => rfl
  | some u => cases ((s _ _ e).symm.trans n)
abbrev Tb := Nat × List Nat
def TbAt (H : Hp) (p : Addr) (t : Tb) : Prop := ∃ c, H p = some (.tup [nV t.1, .ref c]) ∧ H c = some (.tup (t.2.map nV))
theorem TbAt.mono {H H' : Hp} (k : ∀ b xs, H b = some (.tup xs) → H' b = some (.tup xs)) (p : Addr) (t : Tb) (x : TbAt H p t) : TbAt H' p t := by
  obtain ⟨c, h1, h2⟩ := x
  exact ⟨c, k _ _ h1, k _ _ h2⟩
structure CovAt (H : Hp) (a : Addr) (cv : List Tb) (ps : List Addr) : Prop where
  top : H a = some (.tup (ps.map V.ref))
  ts : PtsAt TbAt H ps cv
theorem CovAt.mono {H H' : Hp} {a : Addr} {cv : List Tb} {ps : List Addr} (x : CovAt H a cv ps) (k : ∀ b xs, H b = some (.tup xs) → H' b = some (.tup xs)) : CovAt H' a cv ps := ⟨k _ _ x.top, x.ts.mono (TbAt.mono k)⟩
theorem CovAt.same {H H' : Hp} {a : Addr} {cv : List Tb} {ps : List Addr} (x : CovAt H a cv ps) (s : Same H H') : CovAt H' a cv ps := x.mono fun b xs e => s _ _ e
inductive Need (n : Net) (cv : List Tb) : Nat → Prop
  | out {o : Nat} : o ∈ n.outs → n.many ≤ o → Need n cv o
  | step {t : Tb} {x : Nat} : t ∈ cv → Need n cv t.1 → x ∈ t.2 → n.many ≤ x → Need n cv x
theorem Need.more {n : Net} {cv cv' : List Tb} (s : ∀ t ∈ cv, t ∈ cv') {x : Nat} (h : Need n cv x) : Need n cv' x := by
  induction h with
  | out h1 h2 => exact .out h1 h2
  | step ht _ hx hm ih => exact .step (s _ ht) ih hx hm
structure CovOk (n : Net) (k : Nat) (cv : List Tb) : Prop where
  rise : cv.Pairwise (fun a b => a.1 < b.1)
  gt : ∀ t ∈ cv, n.many ≤ t.1 ∧ t.1 < n.many + n.gates.length
  cut : ∀ t ∈ cv, CutOk n t.1 t.2 ∧ t.2.length ≤ k
  outs : ∀ o ∈ n.outs, n.many ≤ o → ∃ t ∈ cv, t.1 = o
  clo : ∀ t ∈ cv, ∀ x ∈ t.2, n.many ≤ x → ∃ u ∈ cv, u.1 = x
theorem CovOk.len {n : Net} (ok : n.Ok) {k : Nat} {cv : List Tb} (c : CovOk n k cv) : cv.length ≤ 24 := by
  have h1 : (cv.map fun t : Tb => t.1).Nodup := by
    rw [List.nodup_iff_pairwise_ne, List.pairwise_map]
    exact c.rise.imp fun h => Nat.ne_of_lt h
  have := nodup_lt (m := n.many + n.gates.length) h1 fun y hy => by
    obtain ⟨t, ht, rfl⟩ := List.mem_map.mp hy
    exact (c.gt t ht).2
  rw [List.length_map] at this
  have := ok.m8
  have := ok.g16
  omega
/-! ### a dict whose keys are these numbers -/
def nK (x : Nat) : L2.Key := .inl (x : Int)
theorem nK_inj {x y : Nat} (h : nK x = nK y) : x = y := by
  have := Sum.inl.inj h
  omega
def KeysAt (H : Hp) (d : Addr) (S : Nat → Prop) (b : Nat) : Prop := ∃ kvs : List (L2.Key × V), H d = some (.dK kvs) ∧ kvs.length ≤ b ∧ ∀ x : Nat, (valV kvs (nK x)).isSome = true ↔ S x
theorem KeysAt.nil {H : Hp} {d : Addr} (h : H d = some (.dK [])) : KeysAt H d (fun _ => False) 0 := ⟨[], h, Nat.le_refl _, fun x => by rw [valV_nil]; exact ⟨fun z => (by cases z), fun z => z.elim⟩⟩
end GX
set_option Elab.async false
set_option linter.all false
set_option maxRecDepth 100000
set_option maxHeartbeats 4000000
/-! Least cuts, as lists and as masks. -/
namespace GX
open PySem PySem.Spec PyProof.Rows L2
/-! ### what tells -/
theorem Rc.via {n : Net} {st : List Nat} {g a y : Nat} {k : Nat × Nat × Nat} (hg : n.many ≤ g) (hk : n.gates[g - n.many]? = some k) (hp : a = k.2.1 ∨ a = k.2.2) (gs : g ∉ st) (r : Rc n st a n.many y) : Rc n st g n.many y := by
  induction r with
  | here h => exact .step (.here gs) hg hg hk hp h
  | step _ hg' hj hk' hp' hs ih => exact .step ih hg' hj hk' hp' hs
theorem Rc.split {n : Net} {st : List Nat} {g y : Nat} {k : Nat × Nat × Nat} (hk : n.gates[g - n.many]? = some k) (r : Rc n st g n.many y) : y = g ∨ Rc n st k.2.1 n.many y ∨ Rc n st k.2.2 n.many y := by
  induction r with
  | here h => exact .inl rfl
  | @step g' p k' _ hg' hj hk' hp' hs ih =>
    rcases ih with e | h | h
    · subst e
      rw [hk] at hk'
      cases hk'
      rcases hp' with rfl | rfl
      · exact .inr (.inl (.here hs))
      · exact .inr (.inr (.here hs))
    · exact .inr (.inl (.step h hg' hj hk' hp' hs))
    · exact .inr (.inr (.step h hg' hj hk' hp' hs))
theorem sep_gate {n : Net} {st : List Nat} {g : Nat} {k : Nat × Nat × Nat} (hg : n.many ≤ g) (hk : n.gates[g - n.many]? = some k) (gs : g ∉ st) : Sep n g st ↔ (Sep n k.2.1 st ∧ Sep n k.2.2 st) := by
  refine ⟨fun h => ⟨fun y r => h y (r.via hg hk (.inl rfl) gs), fun y r => h y (r.via hg hk (.inr rfl) gs)⟩, fun h y r => ?_⟩
  rcases r.split hk with e | r | r
  · rw [e]; exact hg
  · exact h.1 y r
  · exact h.2 y r
theorem sep_in {n : Net} {w : Nat} {st : List Nat} (h : w ∈ st) : Sep n w st := fun y r => by
  exfalso
  induction r with
  | here z => exact z h
  | step _ _ _ _ _ _ ih => exact ih
theorem sep_input {n : Net} {w : Nat} {st : List Nat} (h : w < n.many) : Sep n w st ↔ w ∈ st := by
  refine ⟨fun s => Classical.not_not.mp fun z => ?_, sep_in⟩
  have := s w (.here z)
  omega
theorem sep_none {n : Net} (ok : n.Ok) : ∀ b w, w ≤ b → w < n.many + n.gates.length → ¬ Sep n w []
  | b, w, hb, hw => fun s => by
    by_cases h : w < n.many
    · exact absurd ((sep_input h).mp s) List.not_mem_nil
    · obtain ⟨k, hk⟩ : ∃ k, n.gates[w - n.many]? = some k := ⟨_, List.getElem?_eq_getElem (by omega)⟩
      have lt := place_lt ok (by omega) hk (.inl rfl)
      cases b with
      | zero => omega
      | succ b => exact sep_none ok b k.2.1 (by omega) (by omega) ((sep_gate (by omega) hk List.not_mem_nil).mp s).1
/-- only wires up to w matter -/
theorem sep_low {n : Net} (ok : n.Ok) {w : Nat} {st st' : List Nat} (h : ∀ x, x ≤ w → x ∈ st → x ∈ st') (s : Sep n w st) : Sep n w st' := fun y r => by
  refine s y ?_
  induction r with
  | here z => exact .here fun z' => z (h _ (Nat.le_refl _) z')
  | step r hg hj hk hp hs ih => exact .step ih hg hj hk hp fun z' => hs (h _ ((Rc.step r hg hj hk hp hs).le ok) z')
/-! ### masks -/
def bitsOf (M : Nat) : List Nat := (List.range (Builtin.Int.intBits ((M : Nat) : Int))).filter fun x => M.testBit x
theorem mem_bits {M x : Nat} : x ∈ bitsOf M ↔ M.testBit x = true := by
  unfold bitsOf
  rw [List.mem_filter, List.mem_range]
  refine ⟨fun h => h.2, fun h => ⟨?_, h⟩⟩
  refine Nat.lt_of_not_le fun hle => ?_
  rw [intBits_le_iff, Int.natAbs_natCast] at hle
  rw [Nat.testBit_lt_two_pow hle] at h
  cases h
theorem bits_rise (M : Nat) : (bitsOf M).Pairwise (· < ·) := List.Pairwise.filter _ List.pairwise_lt_range
theorem bits_nodup (M : Nat) : (bitsOf M).Nodup := (bits_rise M).imp fun h => Nat.ne_of_lt h
theorem bits_inj {M N : Nat} (h : bitsOf M = bitsOf N) : M = N := by
  apply Nat.eq_of_testBit_eq
  intro j
  have : j ∈ bitsOf M ↔ j ∈ bitsOf N := by rw [h]
  rw [mem_bits, mem_bits] at this
  cases e : M.testBit j <;> cases e2 : N.testBit j <;> simp_all
def maskOf (c : List Nat) : Nat := c.foldr (fun x acc => 2 ^ x ||| acc) 0
theorem mask_bit (c : List Nat) (j : Nat) : (maskOf c).testBit j = decide (j ∈ c) := by
  induction c with
  | nil => exact Nat.zero_testBit j
  | cons x r ih =>
    show (2 ^ x ||| maskOf r).testBit j = _
    rw [Nat.testBit_or, ih, Nat.testBit_two_pow]
    rw [Bool.eq_iff_iff, Bool.or_eq_true, decide_eq_true_iff, decide_eq_true_iff, decide_eq_true_iff, List.mem_cons]
    exact ⟨fun h => h.imp Eq.symm id, fun h => h.imp Eq.symm id⟩
theorem bits_mask {c : List Nat} (h : c.Pairwise (· < ·)) : bitsOf (maskOf c) = c := rise_eq (bits_rise _) h fun z => by rw [mem_bits, mask_bit, decide_eq_true_iff]
theorem mask_bits (M : Nat) : maskOf (bitsOf M) = M := bits_inj (bits_mask (bits_rise M))
def Sub (f M : Nat) : Prop := ∀ j, f.testBit j = true → M.testBit j = true
theorem Sub.refl (M : Nat) : Sub M M := fun _ h => h
theorem Sub.trans {a b c : Nat} (h : Sub a b) (g : Sub b c) : Sub a c := fun j x => g j (h j x)
theorem sub_and {f M : Nat} : f &&& M = f ↔ Sub f M := by
  refine ⟨fun h j hj => ?_, fun h => ?_⟩
  · rw [← h, Nat.testBit_and, Bool.and_eq_true] at hj
    exact hj.2
  · apply Nat.eq_of_testBit_eq
    intro j
    rw [Nat.testBit_and]
    cases e : f.testBit j with
    | false => rfl
    | true => rw [h j e]; rfl
theorem Sub.le {f M : Nat} (h : Sub f M) : f ≤ M := by
  rw [← sub_and.mpr h]
  exact Nat.and_le_right
theorem Sub.anti {f M : Nat} (h : Sub f M) (g : Sub M f) : f = M := Nat.le_antisymm h.le g.le
theorem sub_zero {M : Nat} : Sub 0 M := fun j h => by rw [Nat.zero_testBit] at h; cases h
def pop (M : Nat) : Nat := (bitsOf M).length
theorem pop_sub {f M : Nat} (h : Sub f M) : pop f ≤ pop M := nodup_len (bits_nodup f) fun x hx => mem_bits.mpr (h x (mem_bits.mp hx))
theorem sub_or_left (f s : Nat) : Sub f (f ||| s) := fun j h => by rw [Nat.testBit_or, h]; rfl
theorem sub_or_right (f s : Nat) : Sub s (f ||| s) := fun j h => by rw [Nat.testBit_or, h, Bool.or_true]
theorem or_sub {f s M : Nat} (h : Sub f M) (g : Sub s M) : Sub (f ||| s) M := fun j hj => by
  rw [Nat.testBit_or, Bool.or_eq_true] at hj
  exact hj.elim (h j) (g j)
def Tm (n : Net) (w M : Nat) : Prop := Sep n w (bitsOf M)
theorem Tm.more {n : Net} {w M N : Nat} (h : Tm n w M) (s : Sub M N) : Tm n w N := Sep.more h fun z hz => mem_bits.mpr (s z (mem_bits.mp hz))
structure MinT (n : Net) (w M : Nat) : Prop where
  tl : Tm n w M
  min : ∀ f, Sub f M → Tm n w f → f = M
theorem min_ex {n : Net} {w : Nat} : ∀ b M, M ≤ b → Tm n w M → ∃ f, Sub f M ∧ MinT n w f
  | b, M, hb, h => by
    by_cases hm : ∀ f, Sub f M → Tm n w f → f = M
    · exact ⟨M, Sub.refl M, h, hm⟩
    · obtain ⟨f, hf⟩ := Classical.not_forall.mp hm
      obtain ⟨h1, h2⟩ := Classical.not_imp.mp hf
      obtain ⟨h3, h4⟩ := Classical.not_imp.mp h2
      have := h1.le
      cases b with
      | zero => omega
      | succ b =>
        obtain ⟨e, e1, e2⟩ := min_ex b f (by omega) h3
        exact ⟨e, e1.trans h1, e2⟩
theorem tm_zero {n : Net} (ok : n.Ok) {w : Nat} (hw : w < n.many + n.gates.length) : ¬ Tm n w 0 := by
  have : bitsOf 0 = [] := List.eq_nil_iff_forall_not_mem.mpr fun x hx => by
    have := mem_bits.mp hx
    rw [Nat.zero_testBit] at this
    cases this
  unfold Tm
  rw [this]
  exact sep_none ok w w (Nat.le_refl _) hw
/-- no greater wires -/
theorem MinT.low {n : Net} (ok : n.Ok) {w M : Nat} (h : MinT n w M) : ∀ x, M.testBit x = true → x ≤ w := fun x hx => by
  have e : M % 2 ^ (w + 1) = M := h.min _ (fun j hj => by
      rw [Nat.testBit_mod_two_pow, Bool.and_eq_true] at hj
      exact hj.2) (sep_low ok (fun y hy hm => mem_bits.mpr (by
        rw [Nat.testBit_mod_two_pow, decide_eq_true (by omega), Bool.true_and]
        exact mem_bits.mp hm)) h.tl)
  rw [← e, Nat.testBit_mod_two_pow, Bool.and_eq_true] at hx
  have := of_decide_eq_true hx.1
  omega
theorem bit_self (w : Nat) : (2 ^ w).testBit w = true := by rw [Nat.testBit_two_pow]; exact decide_eq_true rfl
theorem tm_self {n : Net} {w M : Nat} (h : M.testBit w = true) : Tm n w M := sep_in (mem_bits.mpr h)
theorem sub_pow {f w : Nat} (h : Sub f (2 ^ w)) : f = 0 ∨ f = 2 ^ w := by
  by_cases e : f.testBit w = true
  · right
    exact h.anti fun j hj => by
      rw [Nat.testBit_two_pow] at hj
      rw [← of_decide_eq_true hj]
      exact e
  · left
    apply Nat.eq_of_testBit_eq
    intro j
    rw [Nat.zero_testBit]
    cases e2 : f.testBit j with
    | false => rfl
    | true =>
      have := h j e2
      rw [Nat.testBit_two_pow] at this
      rw [of_decide_eq_true this] at e
      exact absurd e2 e
theorem min_pow {n : Net} (ok : n.Ok) {w : Nat} (hw : w < n.many + n.gates.length) : MinT n w (2 ^ w) := by
  refine ⟨tm_self (bit_self w), fun f hf ht => ?_⟩
  rcases sub_pow hf with e | e
  · rw [e] at ht
    exact absurd ht (tm_zero ok hw)
  · exact e
theorem min_has {n : Net} {w M : Nat} (h : MinT n w M) (e : M.testBit w = true) : M = 2 ^ w := by
  refine (h.min (2 ^ w) (fun j hj => ?_) (tm_self (bit_self w))).symm
  rw [Nat.testBit_two_pow] at hj
  rw [← of_decide_eq_true hj]
  exact e
theorem pop_pow (w : Nat) : pop (2 ^ w) = 1 := by
  have : bitsOf (2 ^ w) = [w] := rise_eq (bits_rise _) (List.pairwise_singleton _ _) fun z => by
    rw [mem_bits, Nat.testBit_two_pow, decide_eq_true_iff, List.mem_singleton]
    exact eq_comm
  unfold pop
  rw [this]
  rfl
/-- the masks of a wire -/
def ML (n : Net) (k w : Nat) (ms : List Nat) : Prop := ∀ M, M ∈ ms ↔ (MinT n w M ∧ pop M ≤ k ∧ M.testBit w = false)
theorem ML.full {n : Net} (ok : n.Ok) {k w : Nat} {ms : List Nat} (hw : w < n.many + n.gates.length) (hk : 1 ≤ k) (h : ML n k w ms) (M : Nat) : M ∈ ms ++ [2 ^ w] ↔ (MinT n w M ∧ pop M ≤ k) := by
  rw [List.mem_append, List.mem_singleton, h]
  constructor
  · rintro (z | rfl)
    · exact ⟨z.1, z.2.1⟩
    · exact ⟨min_pow ok hw, by rw [pop_pow]; exact hk⟩
  · rintro ⟨h1, h2⟩
    cases e : M.testBit w with
    | false => exact .inl ⟨h1, h2, rfl⟩
    | true => exact .inr (min_has h1 e)
/-- what is found for a gate -/
def Found (k : Nat) (fs ss F : List Nat) : Prop := ∀ M, M ∈ F ↔ ∃ f ∈ fs, ∃ s ∈ ss, M = f ||| s ∧ pop M ≤ k
def hasPart (F : List Nat) (M : Nat) : Bool := F.any fun p => decide (0 < p ∧ p ≠ M ∧ p &&& M = p)
theorem hasPart_iff {F : List Nat} {M : Nat} : hasPart F M = true ↔ ∃ p ∈ F, 0 < p ∧ p ≠ M ∧ Sub p M := by
  unfold hasPart
  rw [List.any_eq_true]
  constructor
  · rintro ⟨p, hp, h⟩
    obtain ⟨h1, h2, h3⟩ := of_decide_eq_true h
    exact ⟨p, hp, h1, h2, sub_and.mp h3⟩
  · rintro ⟨p, hp, h1, h2, h3⟩
    exact ⟨p, hp, decide_eq_true ⟨h1, h2, sub_and.mpr h3⟩⟩
theorem gate_found {n : Net} (ok : n.Ok) {k g : Nat} {kk : Nat × Nat × Nat} {fs ss F : List Nat} (hg : n.many ≤ g) (hw : g < n.many + n.gates.length) (hkk : n.gates[g - n.many]? = some kk)
    (hf : ∀ M, M ∈ fs ↔ (MinT n kk.2.1 M ∧ pop M ≤ k)) (hs : ∀ M, M ∈ ss ↔ (MinT n kk.2.2 M ∧ pop M ≤ k)) (hF : Found k fs ss F) : ML n k g (F.filter fun M => !hasPart F M) := by
  have l1 := place_lt ok hg hkk (.inl rfl)
  have l2 := place_lt ok hg hkk (.inr rfl)
  have nog : ∀ M ∈ F, M.testBit g = false := fun M hM => by
    obtain ⟨f, h1, s, h2, rfl, _⟩ := (hF M).mp hM
    rw [Nat.testBit_or]
    cases e1 : f.testBit g with
    | true =>
      have := ((hf f).mp h1).1.low ok g e1
      omega
    | false =>
      cases e2 : s.testBit g with
      | true =>
        have := ((hs s).mp h2).1.low ok g e2
        omega
      | false => rfl
  have tell : ∀ M ∈ F, Tm n g M := fun M hM => by
    have hn : g ∉ bitsOf M := fun z => by
      have := mem_bits.mp z
      rw [nog M hM] at this
      cases this
    obtain ⟨f, h1, s, h2, rfl, _⟩ := (hF M).mp hM
    exact (sep_gate hg hkk hn).mpr ⟨((hf f).mp h1).1.tl.more (sub_or_left f s), ((hs s).mp h2).1.tl.more (sub_or_right f s)⟩
  have below : ∀ M, Tm n g M → M.testBit g = false → pop M ≤ k → ∃ M' ∈ F, Sub M' M := fun M ht hb hp => by
    have hn : g ∉ bitsOf M := fun z => by
      have := mem_bits.mp z
      rw [hb] at this
      cases this
    obtain ⟨t1, t2⟩ := (sep_gate hg hkk hn).mp ht
    obtain ⟨f, f1, f2⟩ := min_ex M M (Nat.le_refl _) t1
    obtain ⟨s, s1, s2⟩ := min_ex M M (Nat.le_refl _) t2
    have hsub := or_sub f1 s1
    exact ⟨f ||| s, (hF _).mpr ⟨f, (hf f).mpr ⟨f2, Nat.le_trans (pop_sub f1) hp⟩, s, (hs s).mpr ⟨s2, Nat.le_trans (pop_sub s1) hp⟩, rfl, Nat.le_trans (pop_sub hsub) hp⟩, hsub⟩
  have popF : ∀ M ∈ F, pop M ≤ k := fun M hM => by
    obtain ⟨_, _, _, _, _, h⟩ := (hF M).mp hM
    exact h
  intro M
  rw [List.mem_filter]
  constructor
  · rintro ⟨hM, hp⟩
    refine ⟨⟨tell M hM, fun f hf ht => Classical.not_not.mp fun ne => ?_⟩, popF M hM, nog M hM⟩
    have fb : f.testBit g = false := by
      cases e : f.testBit g with
      | false => rfl
      | true =>
        have := hf g e
        rw [nog M hM] at this
        cases this
    obtain ⟨M', h1, h2⟩ := below f ht fb (Nat.le_trans (pop_sub hf) (popF M hM))
    have hpart : hasPart F M = true := hasPart_iff.mpr ⟨M', h1, Nat.pos_of_ne_zero fun z => tm_zero ok hw (by rw [← z]; exact tell M' h1), fun z => ne (hf.anti (by rw [← z]; exact h2)), h2.trans hf⟩
    rw [hpart] at hp
    cases hp
  · rintro ⟨hm, hp, hb⟩
    obtain ⟨M', h1, h2⟩ := below M hm.tl hb hp
    have e : M' = M := hm.min M' h2 (tell M' h1)
    rw [e] at h1
    refine ⟨h1, ?_⟩
    cases hh : hasPart F M with
    | false => rfl
    | true =>
      obtain ⟨p, p1, p2, p3, p4⟩ := hasPart_iff.mp hh
      exact absurd (hm.min p p4 (tell p p1)) p3
/-! ### cuts as lists -/
structure LC (n : Net) (k g : Nat) (c : List Nat) : Prop where
  rise : c.Pairwise (· < ·)
  lt : ∀ x ∈ c, x < g
  sep : Sep n g c
  len : c.length ≤ k
  least : ∀ x ∈ c, ¬ Sep n g (c.filter fun y => decide (y ≠ x))
theorem lc_bits {n : Net} (ok : n.Ok) {k g M : Nat} (h : MinT n g M ∧ pop M ≤ k ∧ M.testBit g = false) : LC n k g (bitsOf M) := by
  obtain ⟨h1, h2, h3⟩ := h
  refine ⟨bits_rise M, fun x hx => ?_, h1.tl, h2, fun x hx hs => ?_⟩
  · have e := mem_bits.mp hx
    have := h1.low ok x e
    refine Nat.lt_of_le_of_ne this fun z => ?_
    rw [z, h3] at e
    cases e
  · have hr : ((bitsOf M).filter fun y => decide (y ≠ x)).Pairwise (· < ·) := (bits_rise M).filter _
    have ht : Tm n g (maskOf ((bitsOf M).filter fun y => decide (y ≠ x))) := by
      unfold Tm
      rw [bits_mask hr]
      exact hs
    have e := h1.min _ (fun j hj => by
      rw [mask_bit, decide_eq_true_iff] at hj
      exact mem_bits.mp (List.mem_filter.mp hj).1) ht
    have := mem_bits.mp hx
    rw [← e, mask_bit, decide_eq_true_iff] at this
    exact of_decide_eq_true (List.mem_filter.mp this).2 rfl
theorem bits_lc {n : Net} {k g : Nat} {c : List Nat} (h : LC n k g c) : MinT n g (maskOf c) ∧ pop (maskOf c) ≤ k ∧ (maskOf c).testBit g = false := by
  refine ⟨⟨by unfold Tm; rw [bits_mask h.rise]; exact h.sep, fun f hf ht => ?_⟩, by unfold pop; rw [bits_mask h.rise]; exact h.len, ?_⟩
  · refine Classical.not_not.mp fun ne => ?_
    obtain ⟨x, hx1, hx2⟩ : ∃ x, x ∈ c ∧ f.testBit x = false := by
      refine Classical.not_not.mp fun z => ne (hf.anti fun j hj => ?_)
      rw [mask_bit, decide_eq_true_iff] at hj
      cases e : f.testBit j with
      | true => rfl
      | false => exact absurd ⟨j, hj, e⟩ z
    refine h.least x hx1 (Sep.more ht fun z hz => List.mem_filter.mpr ⟨?_, decide_eq_true fun e => ?_⟩)
    · have := hf z (mem_bits.mp hz)
      rw [mask_bit, decide_eq_true_iff] at this
      exact this
    · have := mem_bits.mp hz
      rw [e, hx2] at this
      cases this
  · rw [mask_bit]
    exact decide_eq_false fun z => absurd (h.lt g z) (Nat.lt_irrefl _)
/-- the cuts of a gate, in order -/
abbrev lexN (a b : List Nat) : Bool := HT.lexLt (a.map fun n : Nat => (n : Int)) (b.map fun n : Nat => (n : Int))
structure CutsAre (n : Net) (k g : Nat) (cs : List (List Nat)) : Prop where
  mem : ∀ c, c ∈ cs ↔ LC n k g c
  nd : cs.Nodup
  srt : cs.Pairwise fun a b => lexN b a = false
theorem lex_tri : ∀ a b : List Nat, lexN a b = false → lexN b a = false → a = b
  | [], [], _, _ => rfl
  | [], y :: b, h, _ => by cases h
  | x :: a, [], _, h => by cases h
  | x :: a, y :: b, h1, h2 => by
    have h1' : (if ((x : Nat) : Int) = ((y : Nat) : Int) then lexN a b else decide (((x : Nat) : Int) < ((y : Nat) : Int))) = false := h1
    have h2' : (if ((y : Nat) : Int) = ((x : Nat) : Int) then lexN b a else decide (((y : Nat) : Int) < ((x : Nat) : Int))) = false := h2
    by_cases e : x = y
    · subst e
      rw [if_pos rfl] at h1' h2'
      rw [lex_tri a b h1' h2']
    · rw [if_neg (by omega)] at h1' h2'
      have := of_decide_eq_false h1'
      have := of_decide_eq_false h2'
      omega
theorem lex_uniq : ∀ {l m : List (List Nat)}, l.Nodup → m.Nodup → l.Pairwise (fun a b => lexN b a = false) → m.Pairwise (fun a b => lexN b a = false) → (∀ c, c ∈ l ↔ c ∈ m) → l = m
  | [], m, _, _, _, _, h => (List.eq_nil_iff_forall_not_mem.mpr fun x hx => by cases (h x).mpr hx).symm
  | x :: l, [], _, _, _, _, h => by cases (h x).mp List.mem_cons_self
  | x :: l, y :: m, n1, n2, s1, s2, h => by
    obtain ⟨a1, a2⟩ := List.pairwise_cons.mp s1
    obtain ⟨b1, b2⟩ := List.pairwise_cons.mp s2
    obtain ⟨c1, c2⟩ := List.nodup_cons.mp n1
    obtain ⟨d1, d2⟩ := List.nodup_cons.mp n2
    have e : x = y := by
      refine Classical.not_not.mp fun ne => ne ?_
      have hx := (List.mem_cons.mp ((h x).mp List.mem_cons_self)).resolve_left ne
      have hy := (List.mem_cons.mp ((h y).mpr List.mem_cons_self)).resolve_left (Ne.symm ne)
      exact lex_tri x y (b1 x hx) (a1 y hy)
    subst e
    rw [lex_uniq c2 d2 a2 b2 fun c => ?_]
    refine ⟨fun hc => ?_, fun hc => ?_⟩
    · exact (List.mem_cons.mp ((h c).mp (List.mem_cons_of_mem _ hc))).resolve_left fun z => c1 (by rw [← z]; exact hc)
    · exact (List.mem_cons.mp ((h c).mpr (List.mem_cons_of_mem _ hc))).resolve_left fun z => d1 (by rw [← z]; exact hc)
theorem CutsAre.uniq {n : Net} {k g : Nat} {cs ds : List (List Nat)} (h : CutsAre n k g cs) (d : CutsAre n k g ds) : cs = ds := lex_uniq h.nd d.nd h.srt d.srt fun c => (h.mem c).trans (d.mem c).symm
theorem cuts_of_masks {n : Net} (ok : n.Ok) {k g : Nat} {ms : List Nat} (h : ML n k g ms) (nd : ms.Nodup) {cs : List (List Nat)} (pm : cs.Perm (ms.map bitsOf)) (srt : cs.Pairwise fun a b => lexN b a = false) : CutsAre n k g cs := by
  refine ⟨fun c => ?_, ?_, srt⟩
  · rw [pm.mem_iff, List.mem_map]
    constructor
    · rintro ⟨M, hM, rfl⟩
      exact lc_bits ok ((h M).mp hM)
    · intro hc
      exact ⟨maskOf c, (h _).mpr (bits_lc hc), bits_mask hc.rise⟩
  · refine pm.nodup_iff.mpr ?_
    rw [List.nodup_iff_pairwise_ne, List.pairwise_map]
    exact (List.nodup_iff_pairwise_ne.mp nd).imp fun h e => h (bits_inj e)
/-! ### taking bits away -/
end GX
set_option Elab.async false
set_option linter.all false
set_option maxRecDepth 100000
set_option maxHeartbeats 4000000
/-! t.index(x), t a tuple of whole numbers from 0 on. -/
namespace GX
open PySem PySem.Spec PyProof.Rows L2
end GX
set_option Elab.async false
set_option linter.all false
set_option maxRecDepth 100000
set_option maxHeartbeats 4000000
/-! Tuples held as just made (frozen), so that their methods can be called; and let go again. -/
namespace GX
open PySem PySem.Spec PyProof.Rows L2
/-- a tuple that is known to hold no dict -/
def FzT (H : Hp) (p : Addr) (xs : List V) : Prop := ∃ o : Obj, H p = some (.frz o (.tup xs)) ∧ o.cls = .type "tuple" ∧ o.dict = none
theorem FzT.mono {H H' : Hp} {p : Addr} {xs : List V} (h : FzT H p xs) (k : ∀ u, H p = some u → H' p = some u) : FzT H' p xs := by
  obtain ⟨o, h1, h2⟩ := h
  exact ⟨o, k _ h1, h2⟩
end GX
set_option Elab.async false
set_option linter.all false
set_option maxRecDepth 100000
set_option maxHeartbeats 4000000
/-! Tuples that are held frozen from their making: displays, sums, and dict() of them. -/
namespace GX
open PySem PySem.Spec PyProof.Rows L2
/-- what stands now stood not ahead, if it is none there -/
def Was (H H' : Hp) : Prop := ∀ b, H' b = none → H b = none
theorem Was.refl {H : Hp} : Was H H := fun _ e => e
theorem Was.trans {H H1 H2 : Hp} (a : Was H H1) (b : Was H1 H2) : Was H H2 := fun c e => a c (b c e)
theorem FzT.same {H H' : Hp} {p : Addr} {xs : List V} (h : FzT H p xs) (s : Same H H') : FzT H' p xs := h.mono fun u e => s _ _ e
end GX
set_option Elab.async false
set_option linter.all false
set_option maxRecDepth 100000
set_option maxHeartbeats 4000000
/-! Things of any make, as they stand in the heap, and what is a net of them. -/
namespace GX
open PySem PySem.Spec PyProof.Rows L2
theorem pg_tupK {X : Cx} {K : PySem.W.Frag} {es : List Expr} {k : Nat} {t : TGs} {n : Nat} {pos : _} (h : X.K = K) (hc : X.calm = true) (hh : PGs X es t) (hn : (assignEach es X.env).length = n := by rfl) (hst : (assignEach es X.env).findIdx? (·.1) = none := by rfl) : PG X (.Tuple es k pos) (gTup K n t) := by subst h; exact pg_tup hc hh hn hst
inductive Th where
  | non | bl (b : Bool) | int (i : Int) | str (x : Str) | oth (l : Bool) | tup (ts : List Th)
mutual
inductive Rep (H : Hp) : V → Th → Prop
  | non : Rep H .non .non
  | bl (b : Bool) : Rep H (.bl b) (.bl b)
  | int (i : Int) : Rep H (.int i) (.int i)
  | str (x : Str) : Rep H (.str x) (.str x)
  | lst {a : Addr} {xs : List V} (e : H a = some (.lst xs)) : Rep H (.ref a) (.oth true)
  | dic {a : Addr} {kvs : List (Key × V)} (e : H a = some (.dK kvs)) : Rep H (.ref a) (.oth false)
  | tup {a : Addr} {vs : List V} {ts : List Th} (e : H a = some (.tup vs)) (r : RepAll H vs ts) : Rep H (.ref a) (.tup ts)
inductive RepAll (H : Hp) : List V → List Th → Prop
  | nil : RepAll H [] []
  | cons {v : V} {vs : List V} {t : Th} {ts : List Th} : Rep H v t → RepAll H vs ts → RepAll H (v :: vs) (t :: ts)
end
/-- lists, dicts and tuples stand -/
def KeepT (H H' : Hp) : Prop := ∀ b o, H b = some o → (∀ ps, o ≠ .tbl ps) → H' b = some o
mutual
theorem Rep.mono {H H' : Hp} (k : KeepT H H') : ∀ {v : V} {t : Th}, Rep H v t → Rep H' v t
  | _, _, .non => .non
  | _, _, .bl b => .bl b
  | _, _, .int i => .int i
  | _, _, .str x => .str x
  | _, _, .lst e => .lst (k _ _ e fun _ z => by cases z)
  | _, _, .dic e => .dic (k _ _ e fun _ z => by cases z)
  | _, _, .tup e r => .tup (k _ _ e fun _ z => by cases z) (r.mono k)
theorem RepAll.mono {H H' : Hp} (k : KeepT H H') : ∀ {vs : List V} {ts : List Th}, RepAll H vs ts → RepAll H' vs ts
  | _, _, .nil => .nil
  | _, _, .cons a b => .cons (a.mono k) (b.mono k)
end
theorem KeepT.same {H H' : Hp} (s : Same H H') : KeepT H H' := fun b o e _ => s b o e
theorem KeepT.aft {Ts : List Addr} {H H' : Hp} (t : Tabs Ts H) (a : Aft Ts H H') : KeepT H H' := fun b o e n => a.kp b o e (t.nott e n)
theorem RepAll.length {H : Hp} : ∀ {vs : List V} {ts : List Th}, RepAll H vs ts → vs.length = ts.length
  | _, _, .nil => rfl
  | _, _, .cons _ b => by rw [List.length_cons, List.length_cons, b.length]
theorem RepAll.get {H : Hp} : ∀ {vs : List V} {ts : List Th} {i : Nat} {v : V}, RepAll H vs ts → vs[i]? = some v → ∃ t, ts[i]? = some t ∧ Rep H v t
  | _, _, _, _, .nil, h => by simp at h
  | _, _, 0, _, .cons a _, h => by cases h; exact ⟨_, rfl, a⟩
  | _, _, i + 1, _, .cons _ b, h => RepAll.get (i := i) b h
theorem RepAll.append {H : Hp} : ∀ {vs ws : List V} {ts us : List Th}, RepAll H vs ts → RepAll H ws us → RepAll H (vs ++ ws) (ts ++ us)
  | _, _, _, _, .nil, s => s
  | _, _, _, _, .cons a b, s => .cons a (b.append s)
theorem RepAll.drop {H : Hp} : ∀ {vs : List V} {ts : List Th} (n : Nat), RepAll H vs ts → RepAll H (vs.drop n) (ts.drop n)
  | _, _, 0, r => r
  | _, _, _ + 1, .nil => .nil
  | _, _, n + 1, .cons _ b => b.drop n
theorem RepAll.take {H : Hp} : ∀ {vs : List V} {ts : List Th} (n : Nat), RepAll H vs ts → RepAll H (vs.take n) (ts.take n)
  | _, _, 0, _ => .nil
  | _, _, _ + 1, .nil => .nil
  | _, _, n + 1, .cons a b => .cons a (b.take n)
theorem RepAll.reverse {H : Hp} : ∀ {vs : List V} {ts : List Th}, RepAll H vs ts → RepAll H vs.reverse ts.reverse
  | _, _, .nil => .nil
  | _, _, .cons a b => by
    rw [List.reverse_cons, List.reverse_cons]
    exact b.reverse.append (.cons a .nil)
def tyN : Th → String
  | .non => "NoneType"
  | .bl _ => "bool"
  | .int _ => "int"
  | .str _ => "str"
  | .oth true => "list"
  | .oth false => "dict"
  | .tup _ => "tuple"
theorem tyx {K : PySem.W.Frag} {H : Hp} {v : V} {t : Th} (r : Rep H v t) : TyX K H v (.type (tyN t)) := by
  cases r with
  | non => exact .base .non
  | bl b => exact .base (.bl b)
  | int i => exact .base (.int i)
  | str x => exact .base (.str x)
  | lst e => exact .base (.lst e)
  | dic e => exact .base (.dK e)
  | tup e _ => exact .base (.tup e)
def Th.kInt : Th → Bool
  | .bl _ => true
  | .int _ => true
  | _ => false
def Th.kBool : Th → Bool
  | .bl _ => true
  | _ => false
def Th.kTup : Th → Bool
  | .tup _ => true
  | _ => false
theorem kInt_ok : ∀ t : Th, kitB (tyN t) "int" = some t.kInt
  | .non => by decide +kernel
  | .bl _ => by show kitB "bool" "int" = some true; decide +kernel
  | .int _ => by show kitB "int" "int" = some true; decide +kernel
  | .str _ => by show kitB "str" "int" = some false; decide +kernel
  | .oth true => by show kitB "list" "int" = some false; decide +kernel
  | .oth false => by show kitB "dict" "int" = some false; decide +kernel
  | .tup _ => by show kitB "tuple" "int" = some false; decide +kernel
theorem kBool_ok : ∀ t : Th, kitB (tyN t) "bool" = some t.kBool
  | .non => by decide +kernel
  | .bl _ => by show kitB "bool" "bool" = some true; decide +kernel
  | .int _ => by show kitB "int" "bool" = some false; decide +kernel
  | .str _ => by show kitB "str" "bool" = some false; decide +kernel
  | .oth true => by show kitB "list" "bool" = some false; decide +kernel
  | .oth false => by show kitB "dict" "bool" = some false; decide +kernel
  | .tup _ => by show kitB "tuple" "bool" = some false; decide +kernel
theorem kTup_ok : ∀ t : Th, kitB (tyN t) "tuple" = some t.kTup
  | .non => by decide +kernel
  | .bl _ => by show kitB "bool" "tuple" = some false; decide +kernel
  | .int _ => by show kitB "int" "tuple" = some false; decide +kernel
  | .str _ => by show kitB "str" "tuple" = some false; decide +kernel
  | .oth true => by show kitB "list" "tuple" = some false; decide +kernel
  | .oth false => by show kitB "dict" "tuple" = some false; decide +kernel
  | .tup _ => by show kitB "tuple" "tuple" = some true; decide +kernel
/-! ### what is a net -/
def Th.whole : Th → Bool
  | .int _ => true
  | _ => false
def Th.isB (b : Int) : Th → Bool
  | .int i => decide (0 ≤ i) && decide (i < b)
  | _ => false
def Th.many : Th → Bool
  | .int i => decide (1 ≤ i) && decide (i ≤ 8)
  | _ => false
def Th.gate (w : Int) : Th → Bool
  | .tup [k, a, b] => k.isB 16 && a.isB w && b.isB w
  | _ => false
def gatesFrom (w : Int) : List Th → Bool
  | [] => true
  | t :: r => t.gate w && gatesFrom (w + 1) r
def Th.gates (m : Int) : Th → Bool
  | .tup ts => decide (ts.length ≤ 16) && gatesFrom m ts
  | _ => false
def Th.outs (c : Int) : Th → Bool
  | .tup ts => decide (1 ≤ ts.length) && decide (ts.length ≤ 8) && ts.all (Th.isB c)
  | _ => false
def Th.len : Th → Nat
  | .tup ts => ts.length
  | _ => 0
end GX
set_option Elab.async false
set_option linter.all false
set_option maxRecDepth 100000
set_option maxHeartbeats 4000000
/-! Things of whole numbers and tuples alone, no longer than n, no deeper than d. -/
namespace GX
open PySem PySem.Spec PyProof.Rows L2
def Th.pl (n : Nat) : Nat → Th → Bool
  | 0, _ => false
  | _ + 1, .int _ => true
  | d + 1, .tup ts => decide (ts.length ≤ n) && ts.all (Th.pl n d)
  | _ + 1, _ => false
/-- tuples stand -/
def KeepU (H H' : Hp) : Prop := ∀ b xs, H b = some (.tup xs) → H' b = some (.tup xs)
theorem KeepU.trans {H H1 H2 : Hp} (a : KeepU H H1) (b : KeepU H1 H2) : KeepU H H2 := fun c xs e => b c xs (a c xs e)
theorem KeepU.same {H H' : Hp} (s : Same H H') : KeepU H H' := fun b xs e => s b _ e
theorem pl_monoAll {H H' : Hp} {n d : Nat} (ih : ∀ v t, Th.pl n d t = true → Rep H v t → Rep H' v t) : ∀ {vs : List V} {ts : List Th}, ts.all (Th.pl n d) = true → RepAll H vs ts → RepAll H' vs ts
  | _, _, _, .nil => .nil
  | _, _, p, .cons a b => by
    rw [List.all_cons, Bool.and_eq_true] at p
    exact .cons (ih _ _ p.1 a) (pl_monoAll ih p.2 b)
theorem pl_mono {H H' : Hp} {n : Nat} (k : KeepU H H') : ∀ (d : Nat) (v : V) (t : Th), Th.pl n d t = true → Rep H v t → Rep H' v t
  | 0, _, _, p, _ => by cases p
  | d + 1, v, t, p, r => by
    cases r with
    | int i => exact .int i
    | @tup a vs ts e ra =>
      have p' : (decide (ts.length ≤ n) && ts.all (Th.pl n d)) = true := p
      rw [Bool.and_eq_true] at p'
      exact .tup (k _ _ e) (pl_monoAll (pl_mono k d) p'.2 ra)
    | _ => cases p
theorem pl_le {n m : Nat} (h : n ≤ m) : ∀ (d : Nat) (t : Th), Th.pl n d t = true → Th.pl m d t = true
  | 0, _, p => by cases p
  | d + 1, t, p => by
    cases t with
    | int i => rfl
    | tup ts =>
      have p' : (decide (ts.length ≤ n) && ts.all (Th.pl n d)) = true := p
      rw [Bool.and_eq_true] at p'
      show (decide (ts.length ≤ m) && ts.all (Th.pl m d)) = true
      rw [Bool.and_eq_true]
      refine ⟨decide_eq_true (Nat.le_trans (of_decide_eq_true p'.1) h), ?_⟩
      rw [List.all_eq_true]
      intro x hx
      exact pl_le h d x (List.all_eq_true.mp p'.2 x hx)
    | _ => cases p
theorem pl_dpAll {K : PySem.W.Frag} {H : Hp} {n d : Nat} (ih : ∀ v t, Th.pl n d t = true → Rep H v t → ∃ x, Dp K H v x ∧ x.canLay0 = true ∧ x.depth ≤ d) :
    ∀ {vs : List V} {ts : List Th}, ts.all (Th.pl n d) = true → RepAll H vs ts → ∃ xs, DpAll K H vs xs ∧ PyData.canLayAll0 xs = true ∧ PyData.depthAll xs ≤ d ∧ xs.length = vs.length
  | _, _, _, .nil => ⟨[], .nil, rfl, Nat.zero_le _, rfl⟩
  | _, _, p, .cons a b => by
    rw [List.all_cons, Bool.and_eq_true] at p
    obtain ⟨x, h1, h2, h3⟩ := ih _ _ p.1 a
    obtain ⟨xs, g1, g2, g3, g4⟩ := pl_dpAll ih p.2 b
    refine ⟨x :: xs, .cons h1 g1, ?_, ?_, by rw [List.length_cons, List.length_cons, g4]⟩
    · show (x.canLay0 && PyData.canLayAll0 xs) = true
      rw [h2, g2]
      rfl
    · show max x.depth (PyData.depthAll xs) ≤ d
      omega
theorem pl_dp {K : PySem.W.Frag} {H : Hp} {n : Nat} : ∀ (d : Nat) (v : V) (t : Th), Th.pl n d t = true → Rep H v t → ∃ x, Dp K H v x ∧ x.canLay0 = true ∧ x.depth ≤ d
  | 0, v, t, p, r => by cases p
  | d + 1, v, t, p, r => by
    cases r with
    | int i => exact ⟨.int i, .int i, rfl, Nat.zero_le _⟩
    | @tup a vs ts e ra =>
      have p' : (decide (ts.length ≤ n) && ts.all (Th.pl n d)) = true := p
      rw [Bool.and_eq_true] at p'
      obtain ⟨xs, g1, g2, g3, _⟩ := pl_dpAll (pl_dp d) p'.2 ra
      exact ⟨.tuple xs, .tup (SqT.of e) g1, g2, Nat.succ_le_succ g3⟩
    | _ => cases p
/-- things of the values: whole numbers and tuples -/
def Pl (n d : Nat) (H : Hp) (v : V) : Prop := ∃ t, Rep H v t ∧ Th.pl n d t = true
def PlAll (n d : Nat) (H : Hp) (vs : List V) : Prop := ∃ ts, RepAll H vs ts ∧ ts.all (Th.pl n d) = true
theorem Pl.mono {n d : Nat} {H H' : Hp} {v : V} (h : Pl n d H v) (k : KeepU H H') : Pl n d H' v := let ⟨t, r, p⟩ := h; ⟨t, pl_mono k d v t p r, p⟩
theorem PlAll.mono {n d : Nat} {H H' : Hp} {vs : List V} (h : PlAll n d H vs) (k : KeepU H H') : PlAll n d H' vs := let ⟨ts, r, p⟩ := h; ⟨ts, pl_monoAll (pl_mono k d) p r, p⟩
theorem all_sub {α : Type} {f : α → Bool} {xs ys : List α} (h : xs.all f = true) (s : ∀ x ∈ ys, x ∈ xs) : ys.all f = true := by
  rw [List.all_eq_true] at h ⊢
  exact fun x hx => h x (s x hx)
theorem PlAll.drop {n d : Nat} {H : Hp} {vs : List V} (i : Nat) (h : PlAll n d H vs) : PlAll n d H (vs.drop i) := let ⟨ts, r, p⟩ := h; ⟨ts.drop i, r.drop i, all_sub p fun _ hx => List.mem_of_mem_drop hx⟩
theorem PlAll.take {n d : Nat} {H : Hp} {vs : List V} (i : Nat) (h : PlAll n d H vs) : PlAll n d H (vs.take i) := let ⟨ts, r, p⟩ := h; ⟨ts.take i, r.take i, all_sub p fun _ hx => List.mem_of_mem_take hx⟩
theorem PlAll.reverse {n d : Nat} {H : Hp} {vs : List V} (h : PlAll n d H vs) : PlAll n d H vs.reverse := let ⟨ts, r, p⟩ := h; ⟨ts.reverse, r.reverse, all_sub p fun _ hx => List.mem_reverse.mp hx⟩
theorem PlAll.append {n d : Nat} {H : Hp} {vs ws : List V} (h : PlAll n d H vs) (g : PlAll n d H ws) : PlAll n d H (vs ++ ws) := let ⟨ts, r, p⟩ := h; let ⟨us, s, q⟩ := g; ⟨ts ++ us, r.append s, by rw [List.all_append, p, q]; rfl⟩
theorem PlAll.one {n d : Nat} {H : Hp} {v : V} (h : Pl n d H v) : PlAll n d H [v] := let ⟨t, r, p⟩ := h; ⟨[t], .cons r .nil, by rw [List.all_cons, p]; rfl⟩
theorem PlAll.get {n d : Nat} {H : Hp} {vs : List V} {i : Nat} {v : V} (h : PlAll n d H vs) (e : vs[i]? = some v) : Pl n d H v := by
  obtain ⟨ts, r, p⟩ := h
  obtain ⟨t, ht, rt⟩ := r.get e
  exact ⟨t, rt, List.all_eq_true.mp p t (List.mem_of_getElem? ht)⟩
theorem PlAll.le {n m d : Nat} {H : Hp} {vs : List V} (h : PlAll n d H vs) (l : n ≤ m) : PlAll m d H vs := let ⟨ts, r, p⟩ := h; ⟨ts, r, by
  rw [List.all_eq_true] at p ⊢
  exact fun x hx => pl_le l d x (p x hx)⟩
theorem Pl.tup {n d : Nat} {H : Hp} {a : Addr} {vs : List V} (e : H a = some (.tup vs)) (hl : vs.length ≤ n) (h : PlAll n d H vs) : Pl n (d + 1) H (.ref a) := by
  obtain ⟨ts, r, p⟩ := h
  refine ⟨.tup ts, .tup e r, ?_⟩
  show (decide (ts.length ≤ n) && ts.all (Th.pl n d)) = true
  rw [p, Bool.and_true]
  exact decide_eq_true (by rw [← r.length]; exact hl)
theorem Pl.int {n d : Nat} {H : Hp} (i : Int) : Pl n (d + 1) H (.int i) := ⟨.int i, .int i, rfl⟩
theorem PlAll.dp {K : PySem.W.Frag} {n d : Nat} {H : Hp} {vs : List V} (h : PlAll n d H vs) : ∃ xs, DpAll K H vs xs ∧ PyData.canLayAll0 xs = true ∧ PyData.depthAll xs ≤ d ∧ xs.length = vs.length := let ⟨_, r, p⟩ := h; pl_dpAll (pl_dp d) p r
theorem shaped_lst {xs : List PyData} {d : Nat} (h1 : PyData.canLayAll0 xs = true) (h2 : PyData.depthAll xs ≤ d) (h3 : d < 64) : SeqAt.shaped (.list xs) = true := by
  show (PyData.canLayAll0 xs && decide (PyData.depthAll xs + 1 ≤ 64)) = true
  rw [h1, decide_eq_true (by omega)]
  rfl
end GX
set_option Elab.async false
set_option linter.all false
set_option maxRecDepth 100000
set_option maxHeartbeats 4000000
/-! Dicts whose keys are wires; dicts of covers. -/
namespace GX
open PySem PySem.Spec PyProof.Rows L2
/-- a cover as data -/
def covD (cv : List Tb) : List PyData := cv.map fun t : Tb => .tuple [.int ((t.1 : Nat) : Int), .tuple ((t.2.map fun n : Nat => (n : Int)).map PyData.int)]
theorem canInts : ∀ xs : List Int, PyData.canLayAll0 (xs.map PyData.int) = true ∧ PyData.depthAll (xs.map PyData.int) = 0
  | [] => ⟨rfl, rfl⟩
  | x :: r => by
    obtain ⟨h1, h2⟩ := canInts r
    refine ⟨?_, ?_⟩
    · show ((PyData.int x).canLay0 && PyData.canLayAll0 (r.map PyData.int)) = true
      rw [h1]
      rfl
    · show max (PyData.int x).depth (PyData.depthAll (r.map PyData.int)) = 0
      rw [h2]
      rfl
theorem dpCovAll {K : PySem.W.Frag} {H : Hp} : ∀ {qs : List Addr} {cv : List Tb}, PtsAt TbAt H qs cv → DpAll K H (qs.map V.ref) (covD cv)
  | [], cv, x => by
    have : cv = [] := List.length_eq_zero_iff.mp x.1.symm
    subst this
    exact .nil
  | p :: r, [], x => by cases x.1
  | p :: r, t :: cv, x => by
    obtain ⟨c, h1, h2⟩ := x.2 0 p t rfl rfl
    exact .cons (.tup (SqT.of h1) (.cons (.int _) (.cons (.tup (SqT.of h2) (dpNat K _ _)) .nil))) (dpCovAll (K := K) (H := H) (qs := r) (cv := cv) ⟨by simpa using x.1, fun i p' t' e1 e2 => x.2 (i + 1) p' t' (by simpa using e1) (by simpa using e2)⟩)
theorem CovAt.dp {K : PySem.W.Frag} {H : Hp} {a : Addr} {cv : List Tb} {qs : List Addr} (x : CovAt H a cv qs) : Dp K H (.ref a) (.tuple (covD cv)) := .tup (SqT.of x.top) (dpCovAll x.ts)
end GX
set_option Elab.async false
set_option linter.all false
set_option maxRecDepth 100000
set_option maxHeartbeats 4000000
/-! Masks as whole numbers. -/
namespace GX
open PySem PySem.Spec PyProof.Rows L2
/-- what is found so far -/
def FoundW (k : Nat) (fs ss : List Nat) (i j : Nat) (F : List Nat) : Prop := ∀ M, M ∈ F ↔ ((∃ f ∈ fs.take i, ∃ s ∈ ss, M = f ||| s ∧ pop M ≤ k) ∨ ∃ s ∈ ss.take j, M = fs.getD i 0 ||| s ∧ pop M ≤ k)
theorem FoundW.zero (k : Nat) (fs ss : List Nat) : FoundW k fs ss 0 0 [] := fun M => ⟨fun h => (by cases h), fun h => by
  rcases h with ⟨f, hf, _⟩ | ⟨s, hs, _⟩
  · cases hf
  · cases hs⟩
theorem mem_take_succ {l : List Nat} {i : Nat} (h : i < l.length) (x : Nat) : x ∈ l.take (i + 1) ↔ (x ∈ l.take i ∨ x = l.getD i 0) := by
  rw [List.take_add_one, List.getElem?_eq_getElem h, Option.toList_some, List.mem_append, List.mem_singleton, List.getD_eq_getElem?_getD, List.getElem?_eq_getElem h]
  rfl
theorem FoundW.row {k : Nat} {fs ss : List Nat} {i : Nat} {F : List Nat} (hi : i < fs.length) (h : FoundW k fs ss i ss.length F) : FoundW k fs ss (i + 1) 0 F := fun M => by
  rw [h M, List.take_length]
  constructor
  · rintro (⟨f, hf, r⟩ | r)
    · exact .inl ⟨f, (mem_take_succ hi f).mpr (.inl hf), r⟩
    · exact .inl ⟨_, (mem_take_succ hi _).mpr (.inr rfl), r⟩
  · rintro (⟨f, hf, r⟩ | ⟨s, hs, _⟩)
    · rcases (mem_take_succ hi f).mp hf with hf | rfl
      · exact .inl ⟨f, hf, r⟩
      · exact .inr r
    · cases hs
theorem FoundW.no {k : Nat} {fs ss : List Nat} {i j : Nat} {F : List Nat} (hj : j < ss.length) (h : FoundW k fs ss i j F) (np : ¬ pop (fs.getD i 0 ||| ss.getD j 0) ≤ k) : FoundW k fs ss i (j + 1) F := fun M => by
  rw [h M]
  constructor
  · rintro (r | ⟨s, hs, r⟩)
    · exact .inl r
    · exact .inr ⟨s, (mem_take_succ hj s).mpr (.inl hs), r⟩
  · rintro (r | ⟨s, hs, rfl, r2⟩)
    · exact .inl r
    · rcases (mem_take_succ hj s).mp hs with hs | rfl
      · exact .inr ⟨s, hs, rfl, r2⟩
      · exact absurd r2 np
theorem FoundW.yes {k : Nat} {fs ss : List Nat} {i j : Nat} {F F' : List Nat} (hj : j < ss.length) (h : FoundW k fs ss i j F) (np : pop (fs.getD i 0 ||| ss.getD j 0) ≤ k) (hF : ∀ M, M ∈ F' ↔ (M ∈ F ∨ M = fs.getD i 0 ||| ss.getD j 0)) : FoundW k fs ss i (j + 1) F' := fun M => by
  rw [hF M, h M]
  constructor
  · rintro ((r | ⟨s, hs, r⟩) | rfl)
    · exact .inl r
    · exact .inr ⟨s, (mem_take_succ hj s).mpr (.inl hs), r⟩
    · exact .inr ⟨_, (mem_take_succ hj _).mpr (.inr rfl), rfl, np⟩
  · rintro (r | ⟨s, hs, rfl, r2⟩)
    · exact .inl (.inl r)
    · rcases (mem_take_succ hj s).mp hs with hs | rfl
      · exact .inl (.inr ⟨s, hs, rfl, r2⟩)
      · exact .inr rfl
theorem FoundW.all {k : Nat} {fs ss F : List Nat} (h : FoundW k fs ss fs.length 0 F) : Found k fs ss F := fun M => by
  rw [h M, List.take_length]
  constructor
  · rintro (r | ⟨s, hs, _⟩)
    · exact r
    · cases hs
  · exact fun r => .inl r
theorem nodup_lt23 {F : List Nat} (nd : F.Nodup) (h : ∀ M ∈ F, M < 2 ^ 23) : F.length < sizeLine := by
  have := nd.length_le_of_subset (l₂ := List.range (2 ^ 23)) fun x hx => List.mem_range.mpr (h x hx)
  rw [List.length_range] at this
  exact Nat.lt_of_le_of_lt this (by decide)
end GX
namespace GX
open PySem PySem.Spec PyProof.Rows L2
end GX
namespace GX
open PySem PySem.Spec PyProof.Rows L2
/-- the cuts of a wire, as they lie in the dict -/
def CutsIn (n : Net) (k : Nat) (H : Hp) (kvs : List (L2.Key × V)) (x : Nat) : Prop := ∃ (p : Addr) (ms : List Nat), valV kvs (nK x) = some (.ref p) ∧ H p = some (.lst (ms.map nV)) ∧ ML n k x ms ∧ ms.Nodup
theorem CutsIn.mono {n : Net} {k x : Nat} {H H' : Hp} {kvs : List (L2.Key × V)} (h : CutsIn n k H kvs x) (m : ∀ b zs, H b = some (.lst zs) → H' b = some (.lst zs)) : CutsIn n k H' kvs x := by
  obtain ⟨p, ms, h1, h2, h3⟩ := h
  exact ⟨p, ms, h1, m _ _ h2, h3⟩
theorem CutsIn.put {n : Net} {k x y : Nat} {H : Hp} {kvs : List (L2.Key × V)} {v : V} (h : CutsIn n k H kvs x) (ne : x ≠ y) : CutsIn n k H (putK kvs (nK y) v) x := by
  obtain ⟨p, ms, h1, h2, h3⟩ := h
  exact ⟨p, ms, by rw [valV_put, if_neg (fun e => ne (nK_inj e))]; exact h1, h2, h3⟩
end GX
namespace GX
open PySem PySem.Spec PyProof.Rows L2
/-- with two wires a gate is told: so it has a least cut -/
theorem ML.some_ {n : Net} (ok : n.Ok) {k g : Nat} {kk : Nat × Nat × Nat} {ms : List Nat} (hk : 2 ≤ k) (hg : n.many ≤ g) (hkk : n.gates[g - n.many]? = some kk) (h : ML n k g ms) : ms ≠ [] := by
  have l1 := place_lt ok hg hkk (.inl rfl)
  have l2 := place_lt ok hg hkk (.inr rfl)
  have bit : ∀ j, (2 ^ kk.2.1 ||| 2 ^ kk.2.2).testBit j = true ↔ (j = kk.2.1 ∨ j = kk.2.2) := fun j => by
    rw [Nat.testBit_or, Nat.testBit_two_pow, Nat.testBit_two_pow, Bool.or_eq_true, decide_eq_true_iff, decide_eq_true_iff]
    omega
  have ht : Tm n g (2 ^ kk.2.1 ||| 2 ^ kk.2.2) := sep_first hg hkk fun z hz => mem_bits.mpr ((bit z).mpr hz)
  obtain ⟨f, f1, f2⟩ := min_ex _ _ (Nat.le_refl _) ht
  have hp : pop (2 ^ kk.2.1 ||| 2 ^ kk.2.2) ≤ 2 := by
    have := (bits_nodup (2 ^ kk.2.1 ||| 2 ^ kk.2.2)).length_le_of_subset (l₂ := [kk.2.1, kk.2.2]) fun x hx => by
      rcases (bit x).mp (mem_bits.mp hx) with e | e
      · rw [e]; exact List.mem_cons_self
      · rw [e]; exact List.mem_cons_of_mem _ List.mem_cons_self
    exact this
  have hm : f ∈ ms := (h f).mpr ⟨f2, Nat.le_trans (pop_sub f1) (by omega), by
    cases e : f.testBit g with
    | false => rfl
    | true =>
      rcases (bit g).mp (f1 g e) with e | e <;> omega⟩
  exact fun z => by
    rw [z] at hm
    cases hm
end GX
set_option Elab.async false
set_option linter.all false
set_option maxRecDepth 100000
set_option maxHeartbeats 4000000
/-! Slices of tuples and tuples put together, whatever object they are. -/
namespace GX
open PySem PySem.Spec PyProof.Rows L2
theorem catA_any {K : PySem.W.Frag} {x y : V} {H : Hp} {Q : VK} {a b : Addr} {xs ys : List V} (ex : x = .ref a) (ey : y = .ref b) (hx : H a = some (.tup xs)) (hy : H b = some (.tup ys)) (hl : xs.length + ys.length ≤ sizeLine) (h : ∀ p H', Same H H' → H' p = some (.tup (xs ++ ys)) → Q (.ref p) H') : rCatA K x y H Q := by
  refine ⟨a, b, xs, ys, ex, ey, SqT.of hx, SqT.of hy, hl, fun e => h b H (Same.refl _) (by rw [e, List.nil_append]; exact hy), fun _ e => h a H (Same.refl _) (by rw [e, List.append_nil]; exact hx), fun _ _ p np => h p _ (Same.new np) upd_same⟩
end GX
set_option Elab.async false
set_option linter.all false
set_option maxRecDepth 100000
set_option maxHeartbeats 4000000
/-! A net that stands in the heap, as a thing. -/
namespace GX
open PySem PySem.Spec PyProof.Rows L2
def thN (n : Nat) : Th := .int (n : Int)
def thG (g : Nat × Nat × Nat) : Th := .tup [thN g.1, thN g.2.1, thN g.2.2]
def thNet (n : Net) : Th := .tup [thN n.many, .tup (n.gates.map thG), .tup (n.outs.map thN)]
theorem rep_ns {H : Hp} : ∀ (os : List Nat), RepAll H (os.map nV) (os.map thN)
  | [] => .nil
  | o :: r => .cons (.int _) (rep_ns r)
theorem GatesAt.tail {H : Hp} {p : Addr} {ps : List Addr} {g : Nat × Nat × Nat} {gs : List (Nat × Nat × Nat)} (x : GatesAt H (p :: ps) (g :: gs)) : GatesAt H ps gs :=
  ⟨by have := x.1; simpa using this, fun i p g e1 e2 => x.2 (i + 1) p g e1 e2⟩
theorem rep_gs {H : Hp} : ∀ (ps : List Addr) (gs : List (Nat × Nat × Nat)), GatesAt H ps gs → RepAll H (ps.map V.ref) (gs.map thG)
  | [], [], _ => .nil
  | [], _ :: _, x => by have := x.1; simp at this
  | _ :: _, [], x => by have := x.1; simp at this
  | p :: ps, g :: gs, x => .cons (.tup (x.2 0 p g rfl rfl) (.cons (.int _) (.cons (.int _) (.cons (.int _) .nil)))) (rep_gs ps gs x.tail)
theorem NetAt.rep {H : Hp} {a g o : Addr} {n : Net} {ps : List Addr} (N : NetAt H a n g o ps) : Rep H (.ref a) (thNet n) :=
  .tup N.top (.cons (.int _) (.cons (.tup N.gt (rep_gs _ _ N.gs)) (.cons (.tup N.ot (rep_ns _)) .nil)))
end GX
set_option Elab.async false
set_option linter.all false
set_option maxRecDepth 100000
set_option maxHeartbeats 4000000
/-! The worth of a wire where some wires are held. -/
namespace GX
open PySem PySem.Spec PyProof.Rows L2
def gw (k a b : Nat) : Nat := k / 2 ^ (a + 2 * b) % 2
/-- where a wire stands -/
def ixOf (x : Nat) : List Nat → Nat
  | [] => 0
  | y :: r => if y = x then 0 else ixOf x r + 1
def bitIn (ws : List Nat) (r x : Nat) : Nat := r / 2 ^ ixOf x ws % 2
/-- what a wire has, by those ahead -/
def valOf (n : Net) (ws : List Nat) (r : Nat) (acc : List Nat) (x : Nat) : Nat :=
  if x ∈ ws then bitIn ws r x else if x < n.many then 0 else match n.gates[x - n.many]? with
    | some k => gw k.1 (acc.getD k.2.1 0) (acc.getD k.2.2 0)
    | none => 0
def evl (n : Net) (ws : List Nat) (r : Nat) : Nat → List Nat
  | 0 => []
  | m + 1 => evl n ws r m ++ [valOf n ws r (evl n ws r m) m]
def ev (n : Net) (ws : List Nat) (r x : Nat) : Nat := valOf n ws r (evl n ws r x) x
/-- a content -/
def contOf (n : Net) (ws : List Nat) (w : Nat) : List Nat := (List.range (2 ^ ws.length)).map fun r => ev n ws r w
end GX
set_option Elab.async false
set_option linter.all false
set_option maxRecDepth 100000
set_option maxHeartbeats 4000000
/-! Contents with a place more, or one less. -/
namespace GX
open PySem PySem.Spec PyProof.Rows L2
def del (p n : Nat) : Nat := n / (2 * 2 ^ p) * 2 ^ p + n % 2 ^ p
/-- with a place more -/
def wd (xs : List Nat) (p : Nat) : List Nat := (List.range (2 * xs.length)).map fun n => xs.getD (del p n) 0
/-- without a place -/
def wo (xs : List Nat) (p : Nat) : List Nat := ((List.range xs.length).filter fun n => decide (n / 2 ^ p % 2 = 0)).map fun n => xs.getD n 0
end GX
set_option Elab.async false
set_option linter.all false
set_option maxRecDepth 100000
set_option maxHeartbeats 4000000
/-! Lists of tuples of whole numbers, sorted. -/
namespace GX
open PySem PySem.Spec PyProof.Rows L2
def natV : V → Nat
  | .int i => i.toNat
  | _ => 0
/-- the whole numbers of a tuple -/
def tupN (H : Hp) : V → List Nat
  | .ref t => match H t with
    | some (.tup xs) => xs.map natV
    | _ => []
  | _ => []
theorem tupN_at {H : Hp} {t : Addr} {c : List Nat} (h : H t = some (.tup (c.map nV))) : tupN H (.ref t) = c := by
  show (match H t with | some (HO.tup xs) => xs.map natV | _ => []) = c
  rw [h]
  show (c.map nV).map natV = c
  rw [List.map_map]
  conv => rhs; rw [← List.map_id c]
  refine List.map_congr_left fun x _ => ?_
  show ((x : Nat) : Int).toNat = x
  exact Int.toNat_natCast x
abbrev TupsAt (H : Hp) (qs : List Addr) (cs : List (List Nat)) : Prop := RefsAt (fun c : List Nat => c.map nV) H qs cs
theorem TupsAt.map {H : Hp} : ∀ {qs : List Addr} {cs : List (List Nat)}, TupsAt H qs cs → (qs.map V.ref).map (tupN H) = cs
  | [], cs, h => (List.length_eq_zero_iff.mp h.1.symm).symm
  | q :: qs, [], h => by cases h.1
  | q :: qs, c :: cs, h => by
    have h1 := h.2 0 q c rfl rfl
    have h2 : TupsAt H qs cs := ⟨Nat.succ.inj h.1, fun i p x e1 e2 => h.2 (i + 1) p x e1 e2⟩
    show tupN H (.ref q) :: _ = _
    rw [tupN_at h1, TupsAt.map h2]
theorem TupsAt.all {H : Hp} {qs : List Addr} {cs : List (List Nat)} (h : TupsAt H qs cs) {x : V} (hx : x ∈ qs.map V.ref) : ∃ t c, x = .ref t ∧ c ∈ cs ∧ H t = some (.tup (c.map nV)) := by
  obtain ⟨i, hi, e⟩ := List.mem_iff_getElem.mp hx
  obtain ⟨t, c, e1, e2, e3⟩ := h.at_ (i := i) (v := x) (by rw [List.getElem?_eq_getElem hi, e])
  exact ⟨t, c, e1, List.mem_of_getElem? e2, e3⟩
/-- sorted: the tuples again -/
theorem tups_sorted {H : Hp} {qs : List Addr} {cs : List (List Nat)} (h : TupsAt H qs cs) {ys : List V} (srt : SrtO.Srtd (fun x y => HT.lexLt ((tupN H x).map fun n : Nat => (n : Int)) ((tupN H y).map fun n : Nat => (n : Int))) ys) (pm : ys.Perm (qs.map V.ref)) :
    ∃ (rs : List Addr) (ds : List (List Nat)), ys = rs.map V.ref ∧ TupsAt H rs ds ∧ ds.Perm cs ∧ ds.Pairwise fun a b => lexN b a = false := by
  have hall : ∀ y ∈ ys, ∃ t c, y = .ref t ∧ c ∈ cs ∧ H t = some (.tup (c.map nV)) := fun y hy => h.all (pm.mem_iff.mp hy)
  have mk : ∀ zs : List V, (∀ y ∈ zs, ∃ t c, y = .ref t ∧ c ∈ cs ∧ H t = some (.tup (c.map nV))) → ∃ rs : List Addr, zs = rs.map V.ref ∧ TupsAt H rs (zs.map (tupN H)) := by
    intro zs
    induction zs with
    | nil => exact fun _ => ⟨[], rfl, RefsAt.nil _ _⟩
    | cons y zs ih =>
      intro hz
      obtain ⟨t, c, rfl, _, ht⟩ := hz y List.mem_cons_self
      obtain ⟨rs, e, hr⟩ := ih fun y hy => hz y (List.mem_cons_of_mem _ hy)
      refine ⟨t :: rs, by rw [e]; rfl, ⟨congrArg Nat.succ hr.1, fun i p x e1 e2 => ?_⟩⟩
      cases i with
      | zero =>
        cases e1
        have e2' : some (tupN H (.ref t)) = some x := e2
        rw [tupN_at ht] at e2'
        cases e2'
        exact ht
      | succ i => exact hr.2 i p x e1 e2
  obtain ⟨rs, e, hr⟩ := mk ys hall
  refine ⟨rs, ys.map (tupN H), e, hr, ?_, ?_⟩
  · have := pm.map (tupN H)
    rw [TupsAt.map h] at this
    exact this
  · exact List.pairwise_map.mpr srt
end GX
set_option Elab.async false
set_option linter.all false
set_option maxRecDepth 100000
set_option maxHeartbeats 4000000
/-! All sets of some wires; the least that tell among them. -/
namespace GX
open PySem PySem.Spec PyProof.Rows L2
end GX
namespace GX
open PySem PySem.Spec PyProof.Rows L2
end GX
namespace GX
open PySem PySem.Spec PyProof.Rows L2
def tupsD (cs : List (List Nat)) : List PyData := cs.map fun c : List Nat => .tuple ((c.map fun n : Nat => (n : Int)).map PyData.int)
theorem tupsD_can : ∀ cs : List (List Nat), PyData.canLayAll0 (tupsD cs) = true ∧ PyData.depthAll (tupsD cs) ≤ 1
  | [] => ⟨rfl, Nat.zero_le _⟩
  | c :: r => by
    obtain ⟨h1, h2⟩ := tupsD_can r
    obtain ⟨g1, g2⟩ := canInts (c.map fun n : Nat => (n : Int))
    refine ⟨?_, ?_⟩
    · show (PyData.canLayAll0 ((c.map fun n : Nat => (n : Int)).map PyData.int) && PyData.canLayAll0 (tupsD r)) = true
      rw [g1, h1]
      rfl
    · show max (PyData.depthAll ((c.map fun n : Nat => (n : Int)).map PyData.int) + 1) (PyData.depthAll (tupsD r)) ≤ 1
      rw [g2]
      omega
theorem dpTups {K : PySem.W.Frag} {H : Hp} : ∀ {qs : List Addr} {cs : List (List Nat)}, TupsAt H qs cs → DpAll K H (qs.map V.ref) (tupsD cs)
  | [], cs, x => by
    have : cs = [] := List.length_eq_zero_iff.mp x.1.symm
    subst this
    exact .nil
  | p :: r, [], x => by cases x.1
  | p :: r, c :: cs, x => by
    have h1 := x.2 0 p c rfl rfl
    exact .cons (.tup (SqT.of h1) (dpNat K _ _)) (dpTups (K := K) (H := H) (qs := r) (cs := cs) ⟨by simpa using x.1, fun i p' t' e1 e2 => x.2 (i + 1) p' t' (by simpa using e1) (by simpa using e2)⟩)
end GX
namespace GX
open PySem PySem.Spec PyProof.Rows L2
end GX
namespace GX
open PySem PySem.Spec PyProof.Rows L2
end GX
set_option Elab.async false
set_option linter.all false
/-! Comprehensions within comprehensions. -/
namespace GX
open PySem PySem.Spec PyProof.Rows L2
theorem pi_tupK {X : Cx} {tg l : Expr} {tl : TE} {K : PySem.W.Frag} (hl : PE X l tl) (h : X.K = K := by rfl) : PI X tg l (iTup K tl) := by subst h; exact pi_tup hl
theorem cr_maxK {X : Cx} {K : PySem.W.Frag} (hc : X.calm = true) (h : X.K = K := by rfl) : CallR X (.builtin "max") (rMax K) := by subst h; exact cr_max hc
end GX
set_option Elab.async false
set_option linter.all false
set_option maxRecDepth 100000
set_option maxHeartbeats 4000000
namespace GX
open PySem PySem.Spec PyProof.Rows L2
end GX
set_option Elab.async false
set_option linter.all false
set_option maxRecDepth 100000
set_option maxHeartbeats 4000000
/-! Depths in covers; lean covers. -/
namespace GX
open PySem PySem.Spec PyProof.Rows L2
def maxL : List Nat → Nat
  | [] => 0
  | x :: r => max x (maxL r)
theorem le_maxL {xs : List Nat} {x : Nat} (h : x ∈ xs) : x ≤ maxL xs := by
  induction xs with
  | nil => cases h
  | cons y r ih =>
    unfold maxL
    rcases List.mem_cons.mp h with h | h
    · omega
    · have := ih h
      omega
theorem maxL_mem {xs : List Nat} (h : 0 < xs.length) : maxL xs ∈ xs := by
  induction xs with
  | nil => cases h
  | cons y r ih =>
    unfold maxL
    cases r with
    | nil =>
      show max y 0 ∈ _
      rw [Nat.max_eq_left (Nat.zero_le _)]
      exact List.mem_cons_self
    | cons z t =>
      have := ih (Nat.succ_pos _)
      by_cases e : maxL (z :: t) ≤ y
      · rw [Nat.max_eq_left e]
        exact List.mem_cons_self
      · rw [Nat.max_eq_right (by omega)]
        exact List.mem_cons_of_mem _ this
theorem max_eq {xs : List Nat} {m : Int} (hm : m ∈ xs.map fun n : Nat => (n : Int)) (hb : ∀ y ∈ xs.map (fun n : Nat => (n : Int)), y ≤ m) : V.int m = nV (maxL xs) := by
  obtain ⟨x, hx, rfl⟩ := List.mem_map.mp hm
  have h1 := le_maxL hx
  have h2 := hb _ (List.mem_map.mpr ⟨_, maxL_mem (List.length_pos_of_mem hx), rfl⟩)
  show V.int _ = V.int _
  congr 1
  have h2' : ((maxL xs : Nat) : Int) ≤ ((x : Nat) : Int) := h2
  omega
theorem maxL_congr {ws : List Nat} {f g : Nat → Nat} (h : ∀ x ∈ ws, f x = g x) : maxL (ws.map f) = maxL (ws.map g) := by rw [List.map_congr_left h]
/-- tables rising, their wires lesser -/
structure Ris (cv : List Tb) : Prop where
  rise : cv.Pairwise (fun a b => a.1 < b.1)
  lt : ∀ t ∈ cv, ∀ x ∈ t.2, x < t.1
theorem Ris.init {cv : List Tb} {t : Tb} (h : Ris (cv ++ [t])) : Ris cv ∧ (∀ u ∈ cv, u.1 < t.1) ∧ ∀ x ∈ t.2, x < t.1 := by
  obtain ⟨h1, _, h3⟩ := List.pairwise_append.mp h.rise
  exact ⟨⟨h1, fun u hu => h.lt u (List.mem_append.mpr (.inl hu))⟩, fun u hu => h3 u hu t List.mem_cons_self, h.lt t (List.mem_append.mpr (.inr List.mem_cons_self))⟩
theorem Need.tab {n : Net} {k : Nat} {cv : List Tb} (c : CovOk n k cv) {x : Nat} (h : Need n cv x) : ∃ t ∈ cv, t.1 = x := by
  cases h with
  | out h1 h2 => exact c.outs _ h1 h2
  | step ht _ hx hm => exact c.clo _ ht _ hx hm
end GX
namespace GX
open PySem PySem.Spec PyProof.Rows L2
end GX
set_option Elab.async false
set_option linter.all false
set_option maxRecDepth 100000
set_option maxHeartbeats 4000000
/-! Data with lists or dicts as it stands in the heap, and its text by repr. -/
namespace GX
open PySem PySem.Spec PyProof.Rows L2
def keyD : Key → PyData
  | .inl i => .int i
  | .inr x => .str x
mutual
/-- l: lists may stand in it, else dicts may -/
inductive Rp (l : Bool) (H : Hp) : V → PyData → Prop
  | non : Rp l H .non .none
  | bl (b : Bool) : Rp l H (.bl b) (.bool b)
  | int (i : Int) : Rp l H (.int i) (.int i)
  | str (x : Str) : Rp l H (.str x) (.str x)
  | lst {a : Addr} {xs : List V} {ds : List PyData} (hl : l = true) (e : H a = some (.lst xs)) (r : RpAll l H xs ds) : Rp l H (.ref a) (.list ds)
  | tup {a : Addr} {xs : List V} {ds : List PyData} (e : H a = some (.tup xs)) (r : RpAll l H xs ds) : Rp l H (.ref a) (.tuple ds)
  | dic {a : Addr} {kvs : List (Key × V)} {ps : List (PyData × PyData)} (hl : l = false) (e : H a = some (.dK kvs)) (r : RpKv l H kvs ps) : Rp l H (.ref a) (.dict ps)
inductive RpAll (l : Bool) (H : Hp) : List V → List PyData → Prop
  | nil : RpAll l H [] []
  | cons {v : V} {vs : List V} {d : PyData} {ds : List PyData} : Rp l H v d → RpAll l H vs ds → RpAll l H (v :: vs) (d :: ds)
inductive RpKv (l : Bool) (H : Hp) : List (Key × V) → List (PyData × PyData) → Prop
  | nil : RpKv l H [] []
  | cons {k : Key} {v : V} {kvs : List (Key × V)} {d : PyData} {ps : List (PyData × PyData)} : Rp l H v d → RpKv l H kvs ps → RpKv l H ((k, v) :: kvs) ((keyD k, d) :: ps)
end
mutual
theorem Rp.mono {l : Bool} {H H' : Hp} (k : KeepT H H') : ∀ {v : V} {d : PyData}, Rp l H v d → Rp l H' v d
  | _, _, .non => .non
  | _, _, .bl b => .bl b
  | _, _, .int i => .int i
  | _, _, .str x => .str x
  | _, _, .lst hl e r => .lst hl (k _ _ e fun _ z => by cases z) (r.mono k)
  | _, _, .tup e r => .tup (k _ _ e fun _ z => by cases z) (r.mono k)
  | _, _, .dic hl e r => .dic hl (k _ _ e fun _ z => by cases z) (r.mono k)
theorem RpAll.mono {l : Bool} {H H' : Hp} (k : KeepT H H') : ∀ {vs : List V} {ds : List PyData}, RpAll l H vs ds → RpAll l H' vs ds
  | _, _, .nil => .nil
  | _, _, .cons a b => .cons (a.mono k) (b.mono k)
theorem RpKv.mono {l : Bool} {H H' : Hp} (k : KeepT H H') : ∀ {kvs : List (Key × V)} {ps : List (PyData × PyData)}, RpKv l H kvs ps → RpKv l H' kvs ps
  | _, _, .nil => .nil
  | _, _, .cons a b => .cons (a.mono k) (b.mono k)
end
/-- the thing that such data is -/
def thD : PyData → Th
  | .none => .non
  | .bool b => .bl b
  | .int i => .int i
  | .str x => .str x
  | .list _ => .oth true
  | .dict _ => .oth false
  | .tuple ds => .tup (thDs ds)
where thDs : List PyData → List Th
  | [] => []
  | d :: r => thD d :: thDs r
mutual
theorem Rp.rep {l : Bool} {H : Hp} : ∀ {v : V} {d : PyData}, Rp l H v d → Rep H v (thD d)
  | _, _, .non => by rw [thD]; exact .non
  | _, _, .bl b => by rw [thD]; exact .bl b
  | _, _, .int i => by rw [thD]; exact .int i
  | _, _, .str x => by rw [thD]; exact .str x
  | _, _, .lst _ e _ => by rw [thD]; exact .lst e
  | _, _, .tup e r => by rw [thD]; exact .tup e r.rep
  | _, _, .dic _ e _ => by rw [thD]; exact .dic e
theorem RpAll.rep {l : Bool} {H : Hp} : ∀ {vs : List V} {ds : List PyData}, RpAll l H vs ds → RepAll H vs (thD.thDs ds)
  | _, _, .nil => by rw [thD.thDs]; exact .nil
  | _, _, .cons a b => by rw [thD.thDs]; exact .cons a.rep b.rep
end
/-! ### what the model reads -/
end GX
set_option Elab.async false
set_option linter.all false
set_option maxRecDepth 100000
set_option maxHeartbeats 4000000
/-! Promises of defs that ask repr: they hold where no repr is under way. -/
namespace GX
open PySem PySem.Spec PyProof.Rows L2
open C8 (Cal pe_c)
/-! ### the law's end for such a law -/
section
variable {P : Program} {w : World} {K : PySem.W.Frag} {mg mb : Str → Option Value} {k : Nat} {fa a : Addr} {cs : List (Addr × Addr)} {fd : FuncData} {x : Str} {sp : Sp} {s : Shared} {vs : List Value} {ns : List Int}
def tabObj : Obj := { cls := .none, data := .fields #[] }
def scrObj (vs : List Value) : Obj := { cls := .type "list", data := .seq vs.toArray }
/-- what is tracked when the law begins: the tables, and the script where it is no part of the written -/
def begin' (Ts : List Addr) (K : PySem.W.Frag) (a : Addr) (vs : List Value) (ns : List Int) : Hp := fun b =>
  if b ∈ Ts then some (.tbl #[]) else if b = a ∧ K.lookup a = none then some (.frz (scrObj vs) (.lst (ns.map V.int))) else none
structure LawIn (K : PySem.W.Frag) (mg mb : Str → Option Value) (cs : List (Addr × Addr)) (a : Addr) (vs : List Value) (ns : List Int) (h : Heap) : Prop where
  kin : K.In h
  ns_ : h.Ns mainGlobals mg
  bl : h.Ns builtinsNs mb
  bb : ∀ x : Str, x ≠ "__name__" → mb x = bootBuiltins x
  nl : h.NoLimit
  tab : ∀ p ∈ cs, h.get? p.2 = some tabObj
  ntab : ∀ p ∈ cs, K.lookup p.2 = none
  code : ∀ p ∈ cs, PySem.W.CodeHd h p.1 p.2
  bm : ∃ (bm : Addr) (ob : Obj), mg "__builtins__" = some (.ref bm) ∧ bm ≠ builtinsNs ∧ h.get? bm = some ob ∧ ob.cls = .type "module" ∧ ob.dict = some builtinsNs ∧ ob.data = .plain
  scr : h.get? a = some (scrObj vs)
  iv : IntsAre vs ns
  room : ns.length ≤ sizeLine
section
variable {h : Heap} (L : LawIn K mg mb cs a vs ns h)
include L
theorem LawIn.tabs {b : Addr} (hb : b ∈ cs.map (·.2)) : h.get? b = some tabObj := by
  obtain ⟨p, hp, rfl⟩ := List.mem_map.mp hb
  exact L.tab p hp
/-- where something is tracked there stands a table or the script -/
theorem LawIn.what {b : Addr} {u : HO} (e : begin' (cs.map (·.2)) K a vs ns b = some u) : (b ∈ cs.map (·.2) ∧ u = .tbl #[]) ∨ (b = a ∧ K.lookup a = none ∧ u = .frz (scrObj vs) (.lst (ns.map V.int))) := by
  unfold begin' at e
  by_cases hb : b ∈ cs.map (·.2)
  · rw [if_pos hb] at e
    exact .inl ⟨hb, (Option.some.inj e).symm⟩
  · rw [if_neg hb] at e
    by_cases hc : b = a ∧ K.lookup a = none
    · rw [if_pos hc] at e
      exact .inr ⟨hc.1, hc.2, (Option.some.inj e).symm⟩
    · rw [if_neg hc] at e
      cases e
theorem LawIn.free {b : Addr} {o : Obj} (e : h.get? b = some o) (h1 : o ≠ tabObj) (h2 : o ≠ scrObj vs) : begin' (cs.map (·.2)) K a vs ns b = none := by
  cases q : begin' (cs.map (·.2)) K a vs ns b with
  | none => rfl
  | some u =>
    rcases L.what q with ⟨hb, _⟩ | ⟨rfl, _⟩
    · rw [L.tabs hb] at e
      exact absurd (Option.some.inj e).symm h1
    · rw [L.scr] at e
      exact absurd (Option.some.inj e).symm h2
theorem LawIn.freeK {b : Addr} {o : Obj} (e : K.lookup b = some o) : begin' (cs.map (·.2)) K a vs ns b = none := by
  cases q : begin' (cs.map (·.2)) K a vs ns b with
  | none => rfl
  | some u =>
    rcases L.what q with ⟨hb, _⟩ | ⟨rfl, hk, _⟩
    · obtain ⟨p, hp, rfl⟩ := List.mem_map.mp hb
      rw [L.ntab p hp] at e
      cases e
    · rw [hk] at e
      cases e
theorem LawIn.dicts {b : Addr} {m : Str → Option Value} (e : h.Ns b m) : (hidT h (begin' (cs.map (·.2)) K a vs ns)).Ns b m := by
  obtain ⟨o, es, ep, e1, e2, r⟩ := e
  exact ⟨o, es, ep, hidT_get e1 (L.free e1 (fun z => by rw [z] at e2; cases e2) (fun z => by rw [z] at e2; cases e2)), e2, r⟩
theorem LawIn.kinB : K.In (hidT h (begin' (cs.map (·.2)) K a vs ns)) := fun b o e => hidT_get (L.kin b o e) (L.freeK e)
theorem LawIn.mod : L2.Mod K mg (hidT h (begin' (cs.map (·.2)) K a vs ns)) :=
  ⟨L.kinB, L.dicts L.ns_, ⟨mb, L.dicts L.bl, L.bb⟩, let ⟨mc, z, n⟩ := L.nl; ⟨mc, L.dicts z, n⟩⟩
end
end
end GX
set_option Elab.async false
set_option linter.all false
set_option maxRecDepth 100000
set_option maxHeartbeats 4000000
/-! How long the texts are. -/
namespace GX
open PySem PySem.Spec PyProof.Rows L2
theorem textFrom_up : ∀ (ts : List Str) (k : Nat) (acc : Str), (textFrom k acc ts).length ≤ acc.length + piled ts
  | [], k, acc => Nat.le_add_right _ _
  | t :: r, k, acc => by
    have e : (acc ++ (if k > 0 then ", " else "" : String) ++ t).length ≤ acc.length + 2 + t.length := by
      rw [strLen_append, strLen_append]
      have : (((if k > 0 then ", " else "" : String) : Str)).length ≤ 2 := by split <;> decide
      omega
    have ih := textFrom_up r (k + 1) (acc ++ (if k > 0 then ", " else "" : String) ++ t)
    show (textFrom (k + 1) _ r).length ≤ _
    rw [piled_cons]
    omega
theorem listText_up (ts : List Str) : (listText ts).length ≤ piled ts + 2 := by
  have := textFrom_up ts 0 "["
  unfold listText
  rw [strLen_append]
  have e1 : ((("[" : String) : Str)).length = 1 := rfl
  have e2 : ((("]" : String) : Str)).length = 1 := rfl
  rw [e1] at this
  rw [e2]
  omega
theorem join_up (ts : List Str) : (Str.join ", " ts).length ≤ piled ts := by
  by_cases h : ts = []
  · subst h; exact Nat.zero_le _
  · have := join_length_add ts h
    omega
theorem tupleText_up (ts : List Str) : (tupleText ts).length ≤ piled ts + 3 := by
  have := join_up ts
  unfold tupleText
  rw [strLen_append, strLen_append]
  have e1 : ((("(" : String) : Str)).length = 1 := rfl
  have e3 : (((if ts.length == 1 then ",)" else ")" : String) : Str)).length ≤ 2 := by split <;> decide
  rw [e1]
  omega
/-- shown within m levels and n signs -/
structure Sd (m n : Nat) (d : PyData) : Prop where
  sh : d.showable = true
  dp : d.depth ≤ m
  ln : d.shown.length ≤ n
theorem Sd.mono {m n m' n' : Nat} {d : PyData} (h : Sd m n d) (a : m ≤ m') (b : n ≤ n') : Sd m' n' d := ⟨h.sh, Nat.le_trans h.dp a, Nat.le_trans h.ln b⟩
theorem sd_all {m n : Nat} : ∀ {ds : List PyData}, (∀ d ∈ ds, Sd m n d) → PyData.showableAll ds = true ∧ PyData.depthAll ds ≤ m ∧ piled (PyData.shownAll ds) ≤ ds.length * (n + 2)
  | [], _ => ⟨by rw [PyData.showableAll], Nat.zero_le _, by rw [PyData.shownAll]; exact Nat.zero_le _⟩
  | d :: ds, h => by
    obtain ⟨h1, h2, h3⟩ := sd_all fun e he => h e (List.mem_cons_of_mem _ he)
    have hd := h d List.mem_cons_self
    refine ⟨by rw [PyData.showableAll, hd.sh, h1]; rfl, ?_, ?_⟩
    · show max d.depth (PyData.depthAll ds) ≤ m
      have := hd.dp
      omega
    · rw [PyData.shownAll, piled_cons, List.length_cons, Nat.succ_mul]
      have := hd.ln
      omega
theorem Sd.tup {m n c : Nat} {ds : List PyData} (h : ∀ d ∈ ds, Sd m n d) (hc : ds.length ≤ c) : Sd (m + 1) (c * (n + 2) + 3) (.tuple ds) := by
  obtain ⟨h1, h2, h3⟩ := sd_all h
  refine ⟨by rw [PyData.showable]; exact h1, Nat.succ_le_succ h2, ?_⟩
  rw [PyData.shown]
  have := tupleText_up (PyData.shownAll ds)
  have := Nat.mul_le_mul_right (n + 2) hc
  omega
theorem Sd.lst {m n c : Nat} {ds : List PyData} (h : ∀ d ∈ ds, Sd m n d) (hc : ds.length ≤ c) : Sd (m + 1) (c * (n + 2) + 3) (.list ds) := by
  obtain ⟨h1, h2, h3⟩ := sd_all h
  refine ⟨by rw [PyData.showable]; exact h1, Nat.succ_le_succ h2, ?_⟩
  rw [PyData.shown]
  have := listText_up (PyData.shownAll ds)
  have := Nat.mul_le_mul_right (n + 2) hc
  omega
theorem small_text : ∀ k < 1000, ((toString ((k : Nat) : Int) : String) : Str).length ≤ 4 ∧ ((toString (-((k : Nat) : Int)) : String) : Str).length ≤ 4 ∧ (reprText ((toString ((k : Nat) : Int) : String) : Str)).length ≤ 6 ∧ (reprText ((toString (-((k : Nat) : Int)) : String) : Str)).length ≤ 6 := by decide +kernel
theorem small_int {i : Int} (h : i.natAbs < 1000) : ((toString i : String) : Str).length ≤ 4 ∧ (reprText ((toString i : String) : Str)).length ≤ 6 := by
  have := small_text i.natAbs h
  rcases Int.natAbs_eq i with e | e
  · rw [← e] at this
    exact ⟨this.1, this.2.2.1⟩
  · rw [← e] at this
    exact ⟨this.2.1, this.2.2.2⟩
theorem log_small {i : Nat} (h : i < 1000) : i.log2 < 1920 := by
  by_cases z : i = 0
  · subst z; decide
  · exact Nat.lt_of_lt_of_le ((Nat.log2_lt z).mpr (show i < 2 ^ 10 by omega)) (by decide)
theorem Sd.int {i : Int} (h : i.natAbs < 1000) : Sd 0 4 (.int i) := ⟨by rw [PyData.showable]; exact decide_eq_true (log_small h), Nat.zero_le _, by rw [PyData.shown]; exact (small_int h).1⟩
theorem Sd.none : Sd 0 4 .none := ⟨by decide +kernel, by decide +kernel, by decide +kernel⟩
theorem Sd.bl (b : Bool) : Sd 0 5 (.bool b) := by cases b <;> exact ⟨by decide +kernel, by decide +kernel, by decide +kernel⟩
/-- such a thing in the heap -/
def Shw (l : Bool) (m n : Nat) (H : Hp) (v : V) : Prop := ∃ d, Rp l H v d ∧ Sd m n d
def ShAll (l : Bool) (m n : Nat) (H : Hp) (vs : List V) : Prop := ∃ ds, RpAll l H vs ds ∧ ∀ d ∈ ds, Sd m n d
theorem RpAll.length {l : Bool} {H : Hp} : ∀ {vs : List V} {ds : List PyData}, RpAll l H vs ds → vs.length = ds.length
  | _, _, .nil => rfl
  | _, _, .cons _ b => by rw [List.length_cons, List.length_cons, b.length]
theorem RpAll.append {l : Bool} {H : Hp} : ∀ {vs ws : List V} {ds es : List PyData}, RpAll l H vs ds → RpAll l H ws es → RpAll l H (vs ++ ws) (ds ++ es)
  | _, _, _, _, .nil, s => s
  | _, _, _, _, .cons a b, s => .cons a (b.append s)
theorem RpAll.drop {l : Bool} {H : Hp} : ∀ {vs : List V} {ds : List PyData} (n : Nat), RpAll l H vs ds → RpAll l H (vs.drop n) (ds.drop n)
  | _, _, 0, r => r
  | _, _, _ + 1, .nil => .nil
  | _, _, n + 1, .cons _ b => b.drop n
theorem RpAll.take {l : Bool} {H : Hp} : ∀ {vs : List V} {ds : List PyData} (n : Nat), RpAll l H vs ds → RpAll l H (vs.take n) (ds.take n)
  | _, _, 0, _ => .nil
  | _, _, _ + 1, .nil => .nil
  | _, _, n + 1, .cons a b => .cons a (b.take n)
theorem RpAll.get {l : Bool} {H : Hp} : ∀ {vs : List V} {ds : List PyData} {i : Nat} {v : V}, RpAll l H vs ds → vs[i]? = some v → ∃ d, ds[i]? = some d ∧ Rp l H v d
  | _, _, _, _, .nil, h => by simp at h
  | _, _, 0, _, .cons a _, h => by cases h; exact ⟨_, rfl, a⟩
  | _, _, i + 1, _, .cons _ b, h => RpAll.get (i := i) b h
section
variable {l : Bool} {m n m' n' : Nat} {H H' : Hp} {v : V} {vs us : List V} {a : Addr}
theorem Shw.keep (k : KeepT H H') (h : Shw l m n H v) : Shw l m n H' v := let ⟨d, r, s⟩ := h; ⟨d, r.mono k, s⟩
theorem ShAll.keep (k : KeepT H H') (h : ShAll l m n H vs) : ShAll l m n H' vs := let ⟨d, r, s⟩ := h; ⟨d, r.mono k, s⟩
theorem Shw.mono (h : Shw l m n H v) (a : m ≤ m') (b : n ≤ n') : Shw l m' n' H v := let ⟨d, r, s⟩ := h; ⟨d, r, s.mono a b⟩
theorem ShAll.mono (h : ShAll l m n H vs) (a : m ≤ m') (b : n ≤ n') : ShAll l m' n' H vs := let ⟨d, r, s⟩ := h; ⟨d, r, fun e he => (s e he).mono a b⟩
theorem ShAll.nil : ShAll l m n H [] := ⟨[], .nil, fun d hd => by cases hd⟩
theorem Shw.cons (h : Shw l m n H v) (t : ShAll l m n H vs) : ShAll l m n H (v :: vs) := let ⟨d, r, s⟩ := h; let ⟨ds, q, z⟩ := t; ⟨d :: ds, .cons r q, fun e he => by
  rcases List.mem_cons.mp he with rfl | he
  · exact s
  · exact z e he⟩
theorem ShAll.append (h : ShAll l m n H vs) (t : ShAll l m n H us) : ShAll l m n H (vs ++ us) := let ⟨d, r, s⟩ := h; let ⟨ds, q, z⟩ := t; ⟨d ++ ds, r.append q, fun e he => by
  rcases List.mem_append.mp he with he | he
  · exact s e he
  · exact z e he⟩
theorem ShAll.take (i : Nat) (h : ShAll l m n H vs) : ShAll l m n H (vs.take i) := let ⟨d, r, s⟩ := h; ⟨d.take i, r.take i, fun e he => s e (List.mem_of_mem_take he)⟩
theorem ShAll.drop (i : Nat) (h : ShAll l m n H vs) : ShAll l m n H (vs.drop i) := let ⟨d, r, s⟩ := h; ⟨d.drop i, r.drop i, fun e he => s e (List.mem_of_mem_drop he)⟩
theorem ShAll.get {i : Nat} (h : ShAll l m n H vs) (e : vs[i]? = some v) : Shw l m n H v := by
  obtain ⟨ds, r, s⟩ := h
  obtain ⟨d, hd, rd⟩ := r.get e
  exact ⟨d, rd, s d (List.mem_of_getElem? hd)⟩
theorem Shw.tup {c : Nat} (e : H a = some (.tup vs)) (h : ShAll l m n H vs) (hc : vs.length ≤ c) : Shw l (m + 1) (c * (n + 2) + 3) H (.ref a) := let ⟨ds, r, s⟩ := h; ⟨.tuple ds, .tup e r, Sd.tup s (by rw [← r.length]; exact hc)⟩
theorem Shw.lst {c : Nat} (e : H a = some (.lst vs)) (h : ShAll true m n H vs) (hc : vs.length ≤ c) : Shw true (m + 1) (c * (n + 2) + 3) H (.ref a) := let ⟨ds, r, s⟩ := h; ⟨.list ds, .lst rfl e r, Sd.lst s (by rw [← r.length]; exact hc)⟩
theorem Shw.int {i : Int} (h : i.natAbs < 1000) : Shw l 0 4 H (.int i) := ⟨_, .int i, Sd.int h⟩
theorem Shw.non : Shw l 0 4 H .non := ⟨_, .non, Sd.none⟩
theorem Shw.bl (b : Bool) : Shw l 0 5 H (.bl b) := ⟨_, .bl b, Sd.bl b⟩
theorem Shw.str {x : Str} {n : Nat} (h : (reprText x).length ≤ n) : Shw l 0 n H (.str x) := ⟨_, .str x, ⟨by rw [PyData.showable], Nat.zero_le _, by rw [PyData.shown]; exact h⟩⟩
end
end GX
set_option Elab.async false
set_option linter.all false
set_option maxRecDepth 100000
set_option maxHeartbeats 4000000
/-! Items of tuples, by their texts' whole length. -/
namespace GX
open PySem PySem.Spec PyProof.Rows L2
structure Sdl (m n : Nat) (ds : List PyData) : Prop where
  sh : PyData.showableAll ds = true
  dp : PyData.depthAll ds ≤ m
  ln : piled (PyData.shownAll ds) ≤ n
theorem shownAll_append : ∀ xs ys : List PyData, PyData.shownAll (xs ++ ys) = PyData.shownAll xs ++ PyData.shownAll ys
  | [], ys => by rw [PyData.shownAll]; rfl
  | x :: xs, ys => by rw [List.cons_append, PyData.shownAll, PyData.shownAll, shownAll_append xs ys]; rfl
theorem depthAll_append : ∀ xs ys : List PyData, PyData.depthAll (xs ++ ys) = max (PyData.depthAll xs) (PyData.depthAll ys)
  | [], ys => by show PyData.depthAll ys = max 0 _; omega
  | x :: xs, ys => by
    show max x.depth (PyData.depthAll (xs ++ ys)) = max (max x.depth (PyData.depthAll xs)) (PyData.depthAll ys)
    rw [depthAll_append xs ys]
    omega
theorem showableAll_append : ∀ xs ys : List PyData, PyData.showableAll (xs ++ ys) = (PyData.showableAll xs && PyData.showableAll ys)
  | [], ys => by rw [PyData.showableAll]; rfl
  | x :: xs, ys => by rw [List.cons_append, PyData.showableAll, PyData.showableAll, showableAll_append xs ys, Bool.and_assoc]
theorem Sdl.append {m n m' n' : Nat} {xs ys : List PyData} (a : Sdl m n xs) (b : Sdl m' n' ys) : Sdl (max m m') (n + n') (xs ++ ys) := by
  refine ⟨by rw [showableAll_append, a.sh, b.sh]; rfl, ?_, ?_⟩
  · rw [depthAll_append]
    have := a.dp
    have := b.dp
    omega
  · rw [shownAll_append, piled_append]
    have := a.ln
    have := b.ln
    omega
theorem Sdl.split {m n : Nat} {xs ys : List PyData} (a : Sdl m n (xs ++ ys)) : Sdl m n xs ∧ Sdl m n ys := by
  obtain ⟨h1, h2, h3⟩ := a
  rw [showableAll_append, Bool.and_eq_true] at h1
  rw [depthAll_append] at h2
  rw [shownAll_append, piled_append] at h3
  exact ⟨⟨h1.1, by omega, by omega⟩, ⟨h1.2, by omega, by omega⟩⟩
theorem Sdl.take {m n : Nat} {xs : List PyData} (i : Nat) (a : Sdl m n xs) : Sdl m n (xs.take i) := (Sdl.split (by rw [List.take_append_drop]; exact a : Sdl m n (xs.take i ++ xs.drop i))).1
theorem Sdl.drop {m n : Nat} {xs : List PyData} (i : Nat) (a : Sdl m n xs) : Sdl m n (xs.drop i) := (Sdl.split (by rw [List.take_append_drop]; exact a : Sdl m n (xs.take i ++ xs.drop i))).2
theorem Sdl.of {m n : Nat} : ∀ {ds : List PyData}, (∀ d ∈ ds, Sd m n d) → Sdl m (ds.length * (n + 2)) ds := fun h => let ⟨a, b, c⟩ := sd_all h; ⟨a, b, c⟩
theorem Sdl.one {m n : Nat} {d : PyData} (h : Sd m n d) : Sdl m (n + 2) [d] := by
  have := Sdl.of (ds := [d]) fun e he => by rw [List.mem_singleton.mp he]; exact h
  rwa [List.length_singleton, Nat.one_mul] at this
theorem Sdl.mono {m n m' n' : Nat} {ds : List PyData} (h : Sdl m n ds) (a : m ≤ m') (b : n ≤ n') : Sdl m' n' ds := ⟨h.sh, Nat.le_trans h.dp a, Nat.le_trans h.ln b⟩
theorem Sdl.mem {m n : Nat} : ∀ {ds : List PyData}, Sdl m n ds → ∀ d ∈ ds, Sd m n d
  | d :: ds, h, e, he => by
    have s := Sdl.split (xs := [d]) (ys := ds) h
    rcases List.mem_cons.mp he with rfl | he
    · obtain ⟨h1, h2, h3⟩ := s.1
      rw [PyData.showableAll, PyData.showableAll, Bool.and_true] at h1
      rw [PyData.shownAll, PyData.shownAll, piled_cons, piled_nil] at h3
      exact ⟨h1, Nat.le_trans (Nat.le_max_left _ _) h2, by omega⟩
    · exact s.2.mem e he
def ShT (l : Bool) (m n : Nat) (H : Hp) (vs : List V) : Prop := ∃ ds, RpAll l H vs ds ∧ Sdl m n ds
section
variable {l : Bool} {m n m' n' : Nat} {H H' : Hp} {v : V} {vs us : List V} {a : Addr}
theorem ShT.keep (k : KeepT H H') (h : ShT l m n H vs) : ShT l m n H' vs := let ⟨d, r, s⟩ := h; ⟨d, r.mono k, s⟩
theorem ShT.mono (h : ShT l m n H vs) (a : m ≤ m') (b : n ≤ n') : ShT l m' n' H vs := let ⟨d, r, s⟩ := h; ⟨d, r, s.mono a b⟩
theorem ShT.append (h : ShT l m n H vs) (t : ShT l m' n' H us) : ShT l (max m m') (n + n') H (vs ++ us) := let ⟨d, r, s⟩ := h; let ⟨ds, q, z⟩ := t; ⟨d ++ ds, r.append q, s.append z⟩
theorem ShT.take (i : Nat) (h : ShT l m n H vs) : ShT l m n H (vs.take i) := let ⟨d, r, s⟩ := h; ⟨d.take i, r.take i, s.take i⟩
theorem ShT.drop (i : Nat) (h : ShT l m n H vs) : ShT l m n H (vs.drop i) := let ⟨d, r, s⟩ := h; ⟨d.drop i, r.drop i, s.drop i⟩
theorem ShT.nil : ShT l 0 0 H [] := ⟨[], .nil, by rw [PyData.showableAll], Nat.le_refl _, by rw [PyData.shownAll]; exact Nat.le_refl _⟩
theorem ShT.one (h : Shw l m n H v) : ShT l m (n + 2) H [v] := let ⟨d, r, s⟩ := h; ⟨[d], .cons r .nil, Sdl.one s⟩
theorem ShT.get {i : Nat} (h : ShT l m n H vs) (e : vs[i]? = some v) : Shw l m n H v := by
  obtain ⟨ds, r, s⟩ := h
  obtain ⟨d, hd, rd⟩ := r.get e
  exact ⟨d, rd, s.mem d (List.mem_of_getElem? hd)⟩
/-- any of the two forms -/
def ShX (m n : Nat) (H : Hp) (v : V) : Prop := ∃ l, Shw l m n H v
theorem ShX.keep (k : KeepT H H') (h : ShX m n H v) : ShX m n H' v := let ⟨l, x⟩ := h; ⟨l, x.keep k⟩
theorem ShX.mono (h : ShX m n H v) (a : m ≤ m') (b : n ≤ n') : ShX m' n' H v := let ⟨l, x⟩ := h; ⟨l, x.mono a b⟩
theorem ShX.rep (h : ShX m n H v) : ∃ t, Rep H v t := let ⟨l, d, r, _⟩ := h; ⟨_, r.rep⟩
/-- whole numbers in a thing that are small -/
inductive Tiny : Th → Prop
  | int {i : Int} : i.natAbs < 1000 → Tiny (.int i)
  | tup {ts : List Th} : (∀ t ∈ ts, Tiny t) → Tiny (.tup ts)
theorem Tiny.of {ts : List Th} (h : Tiny (.tup ts)) : ∀ t ∈ ts, Tiny t := by
  cases h with
  | tup h => exact h
end
end GX
set_option Elab.async false
set_option linter.all false
set_option maxRecDepth 100000
set_option maxHeartbeats 4000000
/-! All rising rows; what tells by what is held. -/
namespace GX
open PySem PySem.Spec PyProof.Rows L2
end GX
set_option Elab.async false
set_option linter.all false
set_option maxRecDepth 100000
set_option maxHeartbeats 4000000
/-! len of a set of whole numbers. -/
namespace GX
open PySem PySem.Spec PyProof.Rows L2
end GX
set_option Elab.async false
set_option linter.all false
set_option maxRecDepth 100000
set_option maxHeartbeats 4000000
/-! Likenesses: steps, pairs, what is shown. -/
namespace GX
open PySem PySem.Spec PyProof.Rows L2
abbrev IP := Int × Int
def pV (x : IP) : List V := [.int x.1, .int x.2]
structure Stp where
  a : Int
  b : Int
  ps : List IP
def PsAt (H : Hp) (p : Addr) (xs : List IP) : Prop := ∃ qs : List Addr, H p = some (.tup (qs.map V.ref)) ∧ RefsAt pV H qs xs
def StAt (H : Hp) (p : Addr) (s : Stp) : Prop := ∃ q, H p = some (.tup [.int s.a, .int s.b, .ref q]) ∧ PsAt H q s.ps
def LkAt (H : Hp) (p : Addr) (ss : List Stp) : Prop := ∃ qs : List Addr, H p = some (.tup (qs.map V.ref)) ∧ PtsAt StAt H qs ss
def Tups (H H' : Hp) : Prop := ∀ b xs, H b = some (.tup xs) → H' b = some (.tup xs)
theorem Tups.refl (H : Hp) : Tups H H := fun _ _ e => e
theorem Tups.trans {H1 H2 H3 : Hp} (a : Tups H1 H2) (b : Tups H2 H3) : Tups H1 H3 := fun _ _ e => b _ _ (a _ _ e)
theorem Tups.same {H H' : Hp} (s : Same H H') : Tups H H' := fun _ _ e => s _ _ e
theorem PsAt.mono {H H' : Hp} {p : Addr} {xs : List IP} (k : Tups H H') (x : PsAt H p xs) : PsAt H' p xs := by
  obtain ⟨qs, h1, h2⟩ := x
  exact ⟨qs, k _ _ h1, h2.mono k⟩
theorem StAt.mono {H H' : Hp} (k : Tups H H') (p : Addr) (s : Stp) (x : StAt H p s) : StAt H' p s := by
  obtain ⟨q, h1, h2⟩ := x
  exact ⟨q, k _ _ h1, h2.mono k⟩
theorem LkAt.mono {H H' : Hp} {p : Addr} {ss : List Stp} (k : Tups H H') (x : LkAt H p ss) : LkAt H' p ss := by
  obtain ⟨qs, h1, h2⟩ := x
  exact ⟨qs, k _ _ h1, h2.mono (StAt.mono k)⟩
/-! ### what is asked -/
def IsPr (n m : Net) (x : IP) : Prop := (0 ≤ x.1 ∧ x.1 < ((n.many + n.gates.length : Nat) : Int)) ∧ (0 ≤ x.2 ∧ x.2 < ((m.many + m.gates.length : Nat) : Int))
def SameI (n : Net) (x : IP) : Prop := x.1 = x.2 ∧ x.1 < ((n.many : Nat) : Int)
def Shn (n : Net) (S : List IP) (x : IP) : Prop := SameI n x ∨ x ∈ S
def fsts (xs : List IP) : List Nat := xs.map fun x => x.1.toNat
def snds (xs : List IP) : List Nat := xs.map fun x => x.2.toNat
structure PrsOk (n m : Net) (xs : List IP) : Prop where
  l1 : 1 ≤ xs.length
  l8 : xs.length ≤ 8
  each : ∀ x ∈ xs, IsPr n m x
  rise : (fsts xs).Pairwise (· < ·)
  nod : (snds xs).Nodup
structure StpOk (n m : Net) (S : List IP) (s : Stp) : Prop where
  pr : IsPr n m (s.a, s.b)
  ps : PrsOk n m s.ps
  shn : ∀ x ∈ s.ps, Shn n S x
  tl1 : Sep n s.a.toNat (fsts s.ps)
  tl2 : Sep m s.b.toNat (snds s.ps)
  ct : contOf n (fsts s.ps) s.a.toNat = contOf m (snds s.ps) s.b.toNat
def outPs (n m : Net) : List IP := (n.outs.zip m.outs).map fun x => (((x.1 : Nat) : Int), ((x.2 : Nat) : Int))
def key (s : Stp) : IP := (s.a, s.b)
def Hlds (n m : Net) : List IP → List Stp → Prop
  | S, [] => ∀ x ∈ outPs n m, Shn n S x
  | S, s :: r => StpOk n m S s ∧ Hlds n m (S ++ [key s]) r
theorem Hlds.at_ {n m : Net} {S : List IP} {ss : List Stp} {i : Nat} {s : Stp} (e : ss[i]? = some s) : Hlds n m S (ss.drop i) ↔ (StpOk n m S s ∧ Hlds n m (S ++ [key s]) (ss.drop (i + 1))) := by
  have hi := (List.getElem?_eq_some_iff.mp e).1
  have hs : ss[i] = s := (List.getElem?_eq_some_iff.mp e).2
  rw [List.drop_eq_getElem_cons hi, hs]
  exact Iff.rfl
/-! ### whole numbers -/
/-! ### rising pairs -/
/-! ### pairs in a list -/
/-! ### the dict of what is shown -/
def pK (x : IP) : List L2.Key := [.inl x.1, .inl x.2]
theorem pK_inj {x y : IP} (h : pK x = pK y) : x = y := by
  obtain ⟨h1, h2⟩ := List.cons.inj h
  obtain ⟨h3, _⟩ := List.cons.inj h2
  exact Prod.ext (Sum.inl.inj h1) (Sum.inl.inj h3)
structure ShD (H : Hp) (d : Addr) (S : List IP) (kvs : List (List L2.Key × V)) : Prop where
  at_ : H d = some (.dT kvs)
  len : kvs.length ≤ S.length
  iff : ∀ x, (valV kvs (pK x)).isSome = true ↔ x ∈ S
theorem ShD.put {H : Hp} {d : Addr} {S : List IP} {kvs : List (List L2.Key × V)} {x : IP} (h : ShD H d S kvs) : ShD (upd H d (.dT (putK kvs (pK x) (.bl true)))) d (S ++ [x]) (putK kvs (pK x) (.bl true)) := by
  refine ⟨upd_same, ?_, fun y => ?_⟩
  · have := length_putK kvs (pK x) (.bl true)
    have := h.len
    rw [List.length_append]
    show _ ≤ _ + 1
    omega
  · rw [valV_put, List.mem_append, List.mem_singleton]
    by_cases e : y = x
    · rw [if_pos (by rw [e])]
      exact ⟨fun _ => .inr e, fun _ => rfl⟩
    · rw [if_neg (fun z => e (pK_inj z)), h.iff]
      exact ⟨.inl, fun z => z.resolve_right e⟩
end GX
set_option Elab.async false
set_option linter.all false
set_option maxRecDepth 100000
set_option maxHeartbeats 4000000
namespace GX
open PySem PySem.Spec PyProof.Rows L2
theorem Aft.dT {Ts : List Addr} {H H' : Hp} (a : Aft Ts H H') (t : Tabs Ts H) {b : Addr} {kvs : List (List L2.Key × V)} (e : H b = some (.dT kvs)) : H' b = some (.dT kvs) := a.kp b _ e (t.nott e fun _ z => by cases z)
theorem ShD.aft {Ts : List Addr} {H H' : Hp} {d : Addr} {S : List IP} {kvs : List (List L2.Key × V)} (h : ShD H d S kvs) (a : Aft Ts H H') (t : Tabs Ts H) : ShD H' d S kvs := ⟨a.dT t h.at_, h.len, h.iff⟩
theorem ShD.same {H H' : Hp} {d : Addr} {S : List IP} {kvs : List (List L2.Key × V)} (h : ShD H d S kvs) (s : Same H H') : ShD H' d S kvs := ⟨s _ _ h.at_, h.len, h.iff⟩
theorem Aft.tups {Ts : List Addr} {H H' : Hp} (a : Aft Ts H H') (t : Tabs Ts H) : Tups H H' := fun _ _ e => a.tup t e
theorem PrsOk.nd {n m : Net} {xs : List IP} (h : PrsOk n m xs) : (fsts xs).Nodup := h.rise.imp fun z => Nat.ne_of_lt z
end GX
set_option Elab.async false
set_option linter.all false
set_option maxRecDepth 100000
set_option maxHeartbeats 4000000
/-! Things, and likenesses among them. -/
namespace GX
open PySem PySem.Spec PyProof.Rows L2
/-- tuples stand; lists stay lists, dicts dicts -/
def KeepR (H H' : Hp) : Prop := ∀ b, (∀ vs, H b = some (.tup vs) → H' b = some (.tup vs)) ∧ (∀ xs, H b = some (.lst xs) → ∃ ys, H' b = some (.lst ys)) ∧ (∀ k, H b = some (.dK k) → ∃ k', H' b = some (.dK k'))
mutual
theorem Rep.keepR {H H' : Hp} (k : KeepR H H') : ∀ {v : V} {t : Th}, Rep H v t → Rep H' v t
  | _, _, .non => .non
  | _, _, .bl b => .bl b
  | _, _, .int i => .int i
  | _, _, .str x => .str x
  | _, _, .lst (a := a) e => .lst ((k a).2.1 _ e).choose_spec
  | _, _, .dic (a := a) e => .dic ((k a).2.2 _ e).choose_spec
  | _, _, .tup (a := a) e r => .tup ((k a).1 _ e) (r.keepR k)
theorem RepAll.keepR {H H' : Hp} (k : KeepR H H') : ∀ {vs : List V} {ts : List Th}, RepAll H vs ts → RepAll H' vs ts
  | _, _, .nil => .nil
  | _, _, .cons a b => .cons (a.keepR k) (b.keepR k)
end
theorem KeepR.refl (H : Hp) : KeepR H H := fun b => ⟨fun _ e => e, fun _ e => ⟨_, e⟩, fun _ e => ⟨_, e⟩⟩
theorem KeepR.trans {H1 H2 H3 : Hp} (a : KeepR H1 H2) (c : KeepR H2 H3) : KeepR H1 H3 := fun b => ⟨fun _ e => (c b).1 _ ((a b).1 _ e), fun _ e => by
  obtain ⟨_, e'⟩ := (a b).2.1 _ e
  exact (c b).2.1 _ e', fun _ e => by
  obtain ⟨_, e'⟩ := (a b).2.2 _ e
  exact (c b).2.2 _ e'⟩
theorem KeepR.same {H H' : Hp} (s : Same H H') : KeepR H H' := fun b => ⟨fun _ e => s _ _ e, fun _ e => ⟨_, s _ _ e⟩, fun _ e => ⟨_, s _ _ e⟩⟩
theorem KeepR.aft {Ts : List Addr} {H H' : Hp} (t : Tabs Ts H) (a : Aft Ts H H') : KeepR H H' := fun b => ⟨fun _ e => a.kp b _ e (t.nott e fun _ z => by cases z), fun _ e => ⟨_, a.kp b _ e (t.nott e fun _ z => by cases z)⟩, fun _ e => ⟨_, a.kp b _ e (t.nott e fun _ z => by cases z)⟩⟩
theorem KeepR.put {H : Hp} {l : Addr} {xs ys : List V} (h : H l = some (.lst xs)) : KeepR H (upd H l (.lst ys)) := fun b => by
  by_cases e : b = l
  · subst e
    exact ⟨fun _ z => (by rw [h] at z; cases z), fun _ _ => ⟨_, upd_same⟩, fun _ z => (by rw [h] at z; cases z)⟩
  · exact ⟨fun _ z => (by rw [upd_ne e]; exact z), fun _ z => ⟨_, by rw [upd_ne e]; exact z⟩, fun _ z => ⟨_, by rw [upd_ne e]; exact z⟩⟩
theorem KeepR.wk {W C : Addr} {H H' : Hp} (w : Wd H W C) (k : Wk2 W C H H') : KeepR H H' := fun b => by
  obtain ⟨ns, x, y, h1, h2, _⟩ := w.ex
  obtain ⟨ns', x', y', g1, g2, _⟩ := k.wl.ex
  by_cases e1 : b = W
  · subst e1
    exact ⟨fun _ z => (by rw [h1] at z; cases z), fun _ _ => ⟨_, g1⟩, fun _ z => (by rw [h1] at z; cases z)⟩
  · by_cases e2 : b = C
    · subst e2
      exact ⟨fun _ z => (by rw [h2] at z; cases z), fun _ _ => ⟨_, g2⟩, fun _ z => (by rw [h2] at z; cases z)⟩
    · exact ⟨fun _ z => k.at_ ⟨e1, e2⟩ z, fun _ z => ⟨_, k.at_ ⟨e1, e2⟩ z⟩, fun _ z => ⟨_, k.at_ ⟨e1, e2⟩ z⟩⟩
/-! ### pairs, steps -/
theorem isB_iff {t : Th} {b : Int} : t.isB b = true ↔ ∃ i, t = .int i ∧ 0 ≤ i ∧ i < b := by
  cases t with
  | int i =>
    show (decide (0 ≤ i) && decide (i < b)) = true ↔ _
    rw [Bool.and_eq_true, decide_eq_true_iff, decide_eq_true_iff]
    exact ⟨fun h => ⟨i, rfl, h⟩, fun ⟨j, e, h⟩ => by cases e; exact h⟩
  | _ => exact ⟨fun h => (by cases h), fun ⟨_, e, _⟩ => by cases e⟩
end GX
set_option Elab.async false
set_option linter.all false
set_option maxRecDepth 100000
set_option maxHeartbeats 4000000
/-! The way past some wires, step by step up what is free. -/
namespace GX
open PySem PySem.Spec PyProof.Rows L2
def stB (n : Net) (x y : Nat) : Bool := decide (n.many ≤ y) && (match n.gates[y - n.many]? with | some k => decide (x = k.2.1 ∨ x = k.2.2) | none => false)
theorem stB_iff {n : Net} {x y : Nat} : stB n x y = true ↔ isSt n x y := by
  unfold stB isSt
  rw [Bool.and_eq_true, decide_eq_true_iff]
  refine ⟨fun ⟨h1, h2⟩ => ⟨h1, ?_⟩, fun ⟨h1, k, hk, h2⟩ => ⟨h1, ?_⟩⟩
  · cases e : n.gates[y - n.many]? with
    | none => rw [e] at h2; cases h2
    | some k =>
      rw [e] at h2
      exact ⟨k, rfl, of_decide_eq_true h2⟩
  · rw [hk]
    exact decide_eq_true h2
/-- None, or a tuple of whole numbers -/
def VRep (H : Hp) (v : V) : Option (List Nat) → Prop
  | none => v = .non
  | some ys => ∃ p, v = .ref p ∧ H p = some (.tup (ys.map nV))
theorem VRep.mono {H H' : Hp} {v : V} {r : Option (List Nat)} (h : VRep H v r) (k : ∀ b xs, H b = some (.tup xs) → H' b = some (.tup xs)) : VRep H' v r := by
  cases r with
  | none => exact h
  | some ys =>
    obtain ⟨p, e, hp⟩ := h
    exact ⟨p, e, k _ _ hp⟩
theorem dpNs (K : PySem.W.Frag) (H : Hp) : ∀ xs : List Nat, DpAll K H (xs.map nV) ((xs.map fun n : Nat => (n : Int)).map PyData.int)
  | [] => .nil
  | x :: r => .cons (.int _) (dpNs K H r)
/-- the same, compared -/
theorem VRep.dp {K : PySem.W.Frag} {H : Hp} {v : V} {r : Option (List Nat)} (h : VRep H v r) : ∃ d, (∀ v' : V, VRep H v' r → Dp K H v' d) ∧ SeqAt.shaped d = true ∧ PyData.eqv d d = true := by
  cases r with
  | none => exact ⟨.none, fun v' e => by cases e; exact .non, rfl, rfl⟩
  | some ys =>
    have sh : SeqAt.shaped (.tuple ((ys.map fun n : Nat => (n : Int)).map PyData.int)) = true := PySem.W.ke_shaped_ints (ys.map fun n : Nat => (n : Int))
    exact ⟨.tuple ((ys.map fun n : Nat => (n : Int)).map PyData.int), fun v' ⟨p, e, hp⟩ => by subst e; exact .tup (SqT.of hp) (dpNs K H ys), sh, SeqAt.eqv_refl _ (SeqAt.canLay_of_shaped sh)⟩
end GX
set_option Elab.async false
set_option linter.all false
set_option maxRecDepth 100000
set_option maxHeartbeats 4000000
/-! Covers among things. -/
namespace GX
open PySem PySem.Spec PyProof.Rows L2
theorem pts_rep {α : Type} {R : Hp → Addr → α → Prop} {f : α → Th} {H : Hp} (h : ∀ p x, R H p x → Rep H (.ref p) (f x)) : ∀ {qs : List Addr} {xs : List α}, PtsAt R H qs xs → RepAll H (qs.map V.ref) (xs.map f)
  | [], xs, p => by
    have : xs = [] := List.length_eq_zero_iff.mp p.1.symm
    subst this
    exact .nil
  | q :: qs, xs, p => by
    cases xs with
    | nil => cases p.1
    | cons y r => exact .cons (h q y (p.2 0 q y rfl rfl)) (pts_rep h ⟨Nat.succ.inj p.1, fun i p' z e1 e2 => p.2 (i + 1) p' z e1 e2⟩)
theorem map_inj' {α : Type} {f : α → Th} (h : ∀ x y, f x = f y → x = y) : ∀ {xs ys : List α}, xs.map f = ys.map f → xs = ys
  | [], [], _ => rfl
  | [], _ :: _, e => by cases e
  | _ :: _, [], e => by cases e
  | x :: xs, y :: ys, e => by
    rw [List.map_cons, List.map_cons] at e
    injection e with h1 h2
    rw [h _ _ h1, map_inj' h h2]
theorem tup_inj {xs ys : List Th} (h : Th.tup xs = Th.tup ys) : xs = ys := by injection h
theorem int_inj {x y : Int} (h : Th.int x = Th.int y) : x = y := by injection h
def thW (x : Nat) : Th := .int ((x : Nat) : Int)
theorem thW_inj (x y : Nat) (h : thW x = thW y) : x = y := Int.ofNat_inj.mp (int_inj h)
def thWs (xs : List Nat) : Th := .tup (xs.map thW)
theorem thWs_inj {xs ys : List Nat} (h : thWs xs = thWs ys) : xs = ys := map_inj' thW_inj (tup_inj h)
theorem rep_nats {H : Hp} : ∀ xs : List Nat, RepAll H (xs.map nV) (xs.map thW)
  | [] => .nil
  | x :: xs => .cons (.int _) (rep_nats xs)
theorem nats_rep {H : Hp} : ∀ {vs : List V} {xs : List Nat}, RepAll H vs (xs.map thW) → vs = xs.map nV
  | _, [], .nil => rfl
  | _, x :: xs, .cons r ra => by
    have e : ∀ v, Rep H v (thW x) → v = nV x := fun v r => by
      unfold thW at r
      cases r
      rfl
    rw [e _ r, nats_rep ra]
    rfl
theorem rep_wsT {H : Hp} {p : Addr} {xs : List Nat} (h : H p = some (.tup (xs.map nV))) : Rep H (.ref p) (thWs xs) := .tup h (rep_nats xs)
theorem wsT_rep {H : Hp} {v : V} {xs : List Nat} (r : Rep H v (thWs xs)) : ∃ p, v = .ref p ∧ H p = some (.tup (xs.map nV)) := by
  unfold thWs at r
  cases r with
  | @tup a vs _ e ra => exact ⟨a, rfl, by rw [e, nats_rep ra]⟩
/-- a thing that is no tuple -/
theorem Rep.tupI {H : Hp} {v : V} {t : Th} (r : Rep H v t) (h : ¬ ((!t.kTup) = true)) : ∃ a vs ts, v = .ref a ∧ t = .tup ts ∧ H a = some (.tup vs) ∧ RepAll H vs ts := by
  cases r with
  | @tup a vs ts e ra => exact ⟨a, vs, ts, rfl, rfl, e, ra⟩
  | _ => exact absurd rfl h
theorem yesK {t : Th} (h : (!t.kTup) = true) : ∀ ts, t ≠ .tup ts := fun ts e => by
  rw [e] at h
  cases h
theorem isB_nat {t : Th} {b : Nat} : t.isB ((b : Nat) : Int) = true ↔ ∃ x : Nat, t = thW x ∧ x < b := by
  rw [isB_iff]
  constructor
  · rintro ⟨i, e, h0, h1⟩
    obtain ⟨x, rfl⟩ := Int.eq_ofNat_of_zero_le h0
    exact ⟨x, e, by omega⟩
  · rintro ⟨x, e, h⟩
    exact ⟨_, e, by omega, by omega⟩
end GX
set_option Elab.async false
set_option linter.all false
set_option maxRecDepth 100000
set_option maxHeartbeats 4000000
/-! Layouts as data, and how they stand in the heap. -/
namespace GX
open PySem PySem.Spec PyProof.Rows L2
structure Lay where
  many : Nat
  tabs : List (List Nat × List Nat)
  outs : List Nat
structure tabOk (w : Nat) (t : List Nat × List Nat) : Prop where
  p1 : 1 ≤ t.1.length
  p4 : t.1.length ≤ 4
  lt : ∀ x ∈ t.1, x < w
  rise : t.1.Pairwise (· < ·)
  len : t.2.length = 2 ^ t.1.length
  bit : ∀ x ∈ t.2, x < 2
structure Lay.Ok (l : Lay) : Prop where
  m1 : 1 ≤ l.many
  m8 : l.many ≤ 8
  t16 : l.tabs.length ≤ 16
  ts : ∀ (i : Nat) (t : List Nat × List Nat), l.tabs[i]? = some t → tabOk (l.many + i) t
  o1 : 1 ≤ l.outs.length
  o8 : l.outs.length ≤ 8
  os : ∀ o ∈ l.outs, o < l.many + l.tabs.length
/-- a table in the heap -/
def TabAt (H : Hp) (p : Addr) (t : List Nat × List Nat) : Prop := ∃ a b, H p = some (.tup [.ref a, .ref b]) ∧ H a = some (.tup (t.1.map nV)) ∧ H b = some (.tup (t.2.map nV))
theorem TabAt.mono {H H' : Hp} {p : Addr} {t : List Nat × List Nat} (x : TabAt H p t) (k : ∀ b xs, H b = some (.tup xs) → H' b = some (.tup xs)) : TabAt H' p t := by
  obtain ⟨a, b, h1, h2, h3⟩ := x
  exact ⟨a, b, k _ _ h1, k _ _ h2, k _ _ h3⟩
def TabsAt (H : Hp) (ps : List Addr) (ts : List (List Nat × List Nat)) : Prop := ps.length = ts.length ∧ ∀ (i : Nat) (p : Addr) (t : List Nat × List Nat), ps[i]? = some p → ts[i]? = some t → TabAt H p t
theorem TabsAt.nil (H : Hp) : TabsAt H [] [] := ⟨rfl, fun i p g e _ => by simp at e⟩
theorem TabsAt.mono {H H' : Hp} {ps : List Addr} {ts : List (List Nat × List Nat)} (x : TabsAt H ps ts) (k : ∀ b xs, H b = some (.tup xs) → H' b = some (.tup xs)) : TabsAt H' ps ts := ⟨x.1, fun i p g e1 e2 => (x.2 i p g e1 e2).mono k⟩
theorem TabsAt.push {H : Hp} {ps : List Addr} {ts : List (List Nat × List Nat)} {q : Addr} {y : List Nat × List Nat} (x : TabsAt H ps ts) (h : TabAt H q y) : TabsAt H (ps ++ [q]) (ts ++ [y]) := by
  refine ⟨by rw [List.length_append, List.length_append, x.1]; rfl, fun i r g e1 e2 => ?_⟩
  by_cases hi : i < ps.length
  · rw [List.getElem?_append_left hi] at e1
    rw [List.getElem?_append_left (by rw [← x.1]; exact hi)] at e2
    exact x.2 i r g e1 e2
  · rw [List.getElem?_append_right (by omega)] at e1
    rw [List.getElem?_append_right (by rw [← x.1]; omega)] at e2
    have hz : i - ps.length = 0 := by
      obtain ⟨h1, _⟩ := List.getElem?_eq_some_iff.mp e1
      simp at h1
      omega
    rw [hz] at e1
    rw [← x.1, hz] at e2
    cases e1
    cases e2
    exact h
theorem TabsAt.at_ {H : Hp} {ps : List Addr} {ts : List (List Nat × List Nat)} (x : TabsAt H ps ts) {i : Nat} {v : V} (e : (ps.map V.ref)[i]? = some v) : ∃ q y, v = .ref q ∧ ts[i]? = some y ∧ TabAt H q y := by
  rw [List.getElem?_map] at e
  cases h : ps[i]? with
  | none => rw [h] at e; cases e
  | some q =>
    rw [h] at e
    cases e
    have h2 : i < ts.length := by rw [← x.1]; exact (List.getElem?_eq_some_iff.mp h).1
    exact ⟨q, ts[i], rfl, List.getElem?_eq_getElem h2, x.2 i q _ h (List.getElem?_eq_getElem h2)⟩
structure LayAt (H : Hp) (a : Addr) (l : Lay) (g o : Addr) (ps : List Addr) : Prop where
  top : H a = some (.tup [nV l.many, .ref g, .ref o])
  gt : H g = some (.tup (ps.map V.ref))
  ts : TabsAt H ps l.tabs
  ot : H o = some (.tup (l.outs.map nV))
theorem LayAt.mono {H H' : Hp} {a g o : Addr} {l : Lay} {ps : List Addr} (x : LayAt H a l g o ps) (k : ∀ b xs, H b = some (.tup xs) → H' b = some (.tup xs)) : LayAt H' a l g o ps := ⟨k _ _ x.top, k _ _ x.gt, x.ts.mono k, k _ _ x.ot⟩
end GX
set_option Elab.async false
set_option linter.all false
set_option maxRecDepth 100000
set_option maxHeartbeats 4000000
/-! Layouts among things. -/
namespace GX
open PySem PySem.Spec PyProof.Rows L2
theorem all_isB {c : Nat} : ∀ {ts : List Th}, ts.all (Th.isB ((c : Nat) : Int)) = true ↔ ∃ xs : List Nat, ts = xs.map thW ∧ ∀ x ∈ xs, x < c
  | [] => ⟨fun _ => ⟨[], rfl, fun x hx => by cases hx⟩, fun _ => rfl⟩
  | t :: ts => by
    rw [List.all_cons, Bool.and_eq_true, isB_nat, all_isB]
    constructor
    · rintro ⟨⟨x, rfl, h⟩, xs, rfl, g⟩
      exact ⟨x :: xs, rfl, fun y hy => by
        rcases List.mem_cons.mp hy with rfl | hy
        · exact h
        · exact g y hy⟩
    · rintro ⟨xs, e, g⟩
      cases xs with
      | nil => cases e
      | cons x xs =>
        rw [List.map_cons] at e
        injection e with e1 e2
        exact ⟨⟨x, e1, g x List.mem_cons_self⟩, xs, e2, fun y hy => g y (List.mem_cons_of_mem _ hy)⟩
end GX
set_option Elab.async false
set_option linter.all false
set_option maxRecDepth 100000
set_option maxHeartbeats 4000000
/-! Generator expressions of two clauses. -/
namespace GX
open PySem PySem.Spec PyProof.Rows L2 GenW
theorem compTurn2g_out (elt t0 i0 t1 i1 : Expr) (ifs0 ifs1 : List Expr) (scope : Scope) (pos : Pos) (it acc : Value) (env : Env) :
    compTurn (.GeneratorExp elt [⟨t0, i0, ifs0, 0⟩, ⟨t1, i1, ifs1, 0⟩] scope pos) 0 it acc env = (do
      standAt i0.pos
      match ← pyNext it with
      | none => pure (.done .next)
      | some v =>
        letOwnedTupleGo t0 it v
        assign t0 env v
        let mut ok := true
        for c in ifs0 do
          if ok then ok ← isTrue c env (eval c env)
        if ok then
          let x ← eval i1 env
          standAt i1.pos
          let x ← foldedSetIterable i1 env x
          let _ ← runOwn (.compStart (.GeneratorExp elt [⟨t0, i0, ifs0, 0⟩, ⟨t1, i1, ifs1, 0⟩] scope pos) 1 (← holding [x] (pyIter x)) acc env) env
        again (.compLoop (.GeneratorExp elt [⟨t0, i0, ifs0, 0⟩, ⟨t1, i1, ifs1, 0⟩] scope pos) 0 it acc env)) := by rfl
theorem compTurn2g_in (elt t0 i0 t1 i1 : Expr) (ifs0 ifs1 : List Expr) (scope : Scope) (pos : Pos) (it acc : Value) (env : Env) :
    compTurn (.GeneratorExp elt [⟨t0, i0, ifs0, 0⟩, ⟨t1, i1, ifs1, 0⟩] scope pos) 1 it acc env = (do
      standAt i1.pos
      match ← pyNext it with
      | none => pure (.done .next)
      | some v =>
        letOwnedTupleGo t1 it v
        assign t1 env v
        let mut ok := true
        for c in ifs1 do
          if ok then ok ← isTrue c env (eval c env)
        if ok then
          (do let v ← eval elt env; standAt elt.pos; let _ ← yieldOut env v)
        again (.compLoop (.GeneratorExp elt [⟨t0, i0, ifs0, 0⟩, ⟨t1, i1, ifs1, 0⟩] scope pos) 1 it acc env)) := by rfl
theorem over_comp1 {A : Around} {elt elt' : Expr} {gs gs' : List Comprehension} {scope scope' : Scope} {pos pos' : Pos} {it acc it' acc' : Value} {env env' : Env} {k : Result → Sem Fin} {g : Bool} {l : List Value} {p : Pos} :
    A.over (.compLoop (.GeneratorExp elt gs scope pos) 1 it acc env) [.ret k none g l (.compLoop (.GeneratorExp elt' gs' scope' pos') 0 it' acc' env') p []] = A.deeper env' := by
  rfl
/-- the turns' reading, two clauses: vs the names of both targets, vs1 those of the second -/
def Turns2 (J : It) (g : TG) (tt : TT) (wi1 : TI) (g1 : TG) (tt1 : TT) (te : TE) (vs vs1 : List Nat) (σ0 : L2.St) (C : Con) (W : Nat → Nat → List V → Hp → Prop) : Prop := ∀ i m ys H, W i m ys H →
  (J.stop i H ∧ C.Fi ys H) ∨ (J.go i H ∧ ∀ x H', J.yld i H x H' → g x σ0 H' fun σ2 H2 => wipe σ2 vs = σ0 ∧ tt σ2 H2 fun b H3 =>
    if b = true then wi1 σ2 H3 fun J1 H4 => ∃ W1 : Nat → Nat → List V → Hp → Prop, (∃ k, k < m ∧ W1 0 k ys H4) ∧ ∀ j k ys1 H, W1 j k ys1 H →
      (J1.stop j H ∧ ∃ m', m' < k ∧ W (i + 1) m' ys1 H) ∨ (J1.go j H ∧ ∃ Nx1 : List V → Hp → Prop, (∀ ys' H', Nx1 ys' H' → ∃ k', k' < k ∧ W1 (j + 1) k' ys' H') ∧ ∀ x H', J1.yld j H x H' → g1 x (wipe σ2 vs1) H' fun σ3 H5 => wipe σ3 vs1 = wipe σ2 vs1 ∧ tt1 σ3 H5 fun b H6 =>
        if b = true then te σ3 H6 fun y H7 => C.Kx ys1 y H7 ∧ (C.Cn ys1 y → Nx1 (ys1 ++ [y]) H7) else Nx1 ys1 H6)
    else ∃ m', m' < m ∧ W (i + 1) m' ys H3)
section
variable {Y : Cx} {C : Con} {A0 : Around} {elt tg iter tg1 iter1 : Expr} {ifs ifs1 : List Expr} {scope : Scope} {pos : Pos} {it a : Addr} {fp : List Addr} {tn : Nat → Heap → Prop} {go : Obj} {J : It} {g g1 : TG} {tt tt1 : TT} {wi1 : TI} {te : TE} {vs vs1 : List Nat} {σ0 : L2.St} {W : Nat → Nat → List V → Hp → Prop}
theorem seg_loop2 (hA : A0.deeper Y.env = Y.A) (hc : Y.calm = true) (hx : ∀ e s, Y.xe e s → False) (hpn : Y.pn = []) (hco : Y.env.scope.isCoroutine = false)
    (CO : C.Ok) (hB : Aprt Y C.B fp a) (hst : ∀ b ∈ fp, b ≠ Y.env.locals ∧ b ∉ Y.fs ∧ (b ∈ Y.ex ∨ Y.s_0.heap.objs.size ≤ b) ∧ ∀ x c, Y.env.cells.lookup x = some c → c ≠ b)
    (T : Turn Y.prog Y.w Y.K tg J fp it tn) (hg : PG Y tg g) (ht : PTs Y ifs tt) (hi1 : PI Y tg1 iter1 wi1) (hg1 : PG Y tg1 g1) (ht1 : PTs Y ifs1 tt1) (he : PE Y elt te) (hs1 : ∀ x, foldedSetIterable iter1 Y.env x = pure x) (hv : ∀ i ∈ vs1, i ∈ vs) (turns : Turns2 J g tt wi1 g1 tt1 te vs vs1 σ0 C W) :
    ∀ (m i n : Nat) (ys : List V) (s₀ s : Shared), m < n → GSt Y C fp tn a go σ0 W i m ys s →
      Seg (model Y.prog Y.w) A0 (fun n s₀ r s₁ => r = .ok .next ∧ RG Y C a go σ0 n s₀ s₁) (YG Y C a go σ0) n s₀
        (.compLoop (.GeneratorExp elt [⟨tg, iter, ifs, 0⟩, ⟨tg1, iter1, ifs1, 0⟩] scope pos) 0 (.ref it) .none Y.env)
        ((model Y.prog Y.w).den (.compLoop (.GeneratorExp elt [⟨tg, iter, ifs, 0⟩, ⟨tg1, iter1, ifs1, 0⟩] scope pos) 0 (.ref it) .none Y.env)) [] s := by
  have hA0 : A0.over (.compLoop (.GeneratorExp elt [⟨tg, iter, ifs, 0⟩, ⟨tg1, iter1, ifs1, 0⟩] scope pos) 0 (.ref it) .none Y.env) [] = Y.A := over_comp.trans hA
  have hy : ∀ v, yieldOut Y.env v = yieldValue v := fun v => by simp only [yieldOut, hco, Bool.false_eq_true, if_false]
  intro m
  induction m using Nat.strongRecOn with
  | ind m ih =>
    intro i n ys s₀ s hmn ⟨pins, H, hP, I, st, fr, w⟩
    have stat : ∀ {ys' : List V} {pins' : List (Addr × Obj)} {H' : Hp}, C.Pn ys' pins' → (∀ b ∈ fp, H' b = none) → ∀ b ∈ fp, FpOk Y ((a, go) :: pins') H' b := fun hP' hn b hb => by
      obtain ⟨h1, h2, h3, h4⟩ := hst b hb
      refine ⟨hn b hb, h1, h2, h3, h4, fun p hp => ?_⟩
      rw [hpn] at hp
      rcases List.mem_cons.mp (show p ∈ (a, go) :: _ from hp) with e | hp
      · rw [e]; intro e2; have e3 : a = b := e2; exact hB.af (by rw [e3]; exact hb)
      · intro e2; exact hB.bf _ (CO.pn _ _ hP' p hp).1 (by rw [e2]; exact hb)
    show Seg _ A0 _ _ _ s₀ _ ((compTurn (.GeneratorExp elt [⟨tg, iter, ifs, 0⟩, ⟨tg1, iter1, ifs1, 0⟩] scope pos) 0 (.ref it) .none Y.env).onRaise (leaving Y.env)) [] s
    rw [compTurn2g_out, Sem.onRaise_eq_wrap]
    refine seg_bind_wrap (wpAny_standAt ?_)
    rcases turns i m ys H w with ⟨stop, q⟩ | ⟨go1, step⟩
    · refine seg_bind_wrap ?_
      rw [hA0]
      refine thn (T.done Y rfl rfl rfl hc i _ s σ0 H _ I (stat hP fr) st stop) fun r s1 ⟨hr, I1⟩ => ?_
      subst hr
      exact seg_end (.ok .next) ⟨rfl, ys, pins, H, hP, I1, q⟩
    refine seg_bind_wrap ?_
    rw [hA0]
    refine thn (T.item Y rfl rfl rfl hc i _ s σ0 H _ I (stat hP fr) st go1) fun r s1 ⟨u, hr, h1⟩ => ?_
    subst hr
    refine seg_bind_wrap ?_
    rw [hA0]
    refine thn h1 fun _ s2 ⟨x, H2, I2, rx, y2, st2, fr2⟩ => ?_
    have I2' := I2.pinned (stat hP fr2) (T.obj _ _ st2)
    refine seg_bind_wrap ?_
    rw [hA0]
    refine wpAny_mono (hg.run _ s2 σ0 H2 x u _ I2' rx (step x H2 y2)) (fun _ s3 ⟨σ3, H3, I3, hw, q3⟩ => ?_) (fun e s' z => (hx e s' z).elim)
    refine seg_bind_wrap ?_
    rw [hA0]
    refine wpAny_mono (ht.run _ s3 σ3 H3 _ I3 q3) (fun b s4 ⟨H4, I4, q4⟩ => ?_) (fun e s' z => (hx e s' z).elim)
    have weak : ∀ {pl : List (Addr × Obj)} {H' : Hp} {s' : Shared}, Inv Y pl σ3 H' s' → Inv Y pl σ0 H' s' := fun I' => by
      refine I'.weak (by rw [← hw, wipe_length]) fun j v e => ?_
      rw [← hw] at e
      exact (wipe_some e).1
    have tnk : ∀ {σ' : L2.St} {H' : Hp} {s' : Shared}, Inv Y ((a, go) :: pins ++ pinsAt fp s2.heap) σ' H' s' → tn (i + 1) s'.heap ∧ ∀ b ∈ fp, H' b = none := fun I' => by
      refine ⟨T.keep _ _ _ st2 fun b hb o e => (I'.pin (b, o) (List.mem_append_right _ (List.mem_append_right _ (mem_pinsAt hb e)))).1, fun b hb => ?_⟩
      obtain ⟨o, e, d⟩ := T.obj _ _ st2 b hb
      exact (I'.pin (b, o) (List.mem_append_right _ (List.mem_append_right _ (mem_pinsAt hb e)))).2.1
    cases b with
    | false =>
      rw [if_neg Bool.false_ne_true] at q4
      obtain ⟨m', hm, w'⟩ := q4
      obtain ⟨t4, f4⟩ := tnk I4
      simp only [Bool.false_eq_true, if_false]
      exact seg_again rfl (ih m' hm (i + 1) n ys s₀ s4 (by omega) ⟨pins, H4, hP, (weak I4).unpinned, t4, f4, w'⟩)
    | true =>
      rw [if_pos rfl] at q4
      simp only [if_true]
      refine seg_bind_wrap ?_
      rw [hA0]
      refine wpAny_mono (hi1.run _ s4 σ3 H4 _ I4 q4) (fun xv s5 hx5 => ?_) (fun e s' z => (hx e s' z).elim)
      refine seg_bind_wrap (wpAny_standAt ?_)
      refine seg_bind_wrap (wpAny_of_eq (hs1 xv) ?_)
      refine seg_bind_wrap (wpAny_holding ?_)
      rw [hA0]
      refine wpAny_mono hx5 (fun itv s6 h6 => ?_) (fun e s' z => (hx e s' z).elim)
      obtain ⟨it1, fp1, tn1, J1, H6, e1, I6, T1, st6, f6, W1, ⟨k1, hk1, w1⟩, turn1⟩ := h6
      subst e1
      obtain ⟨t6, n6⟩ := tnk I6
      -- the inner loop, above a frame
      have inner : ∀ (K : Result → Sem Fin) (gd : Bool) (l : List Value) (p : Pos), gd = false → (∀ n s₀ s, Seg (model Y.prog Y.w) A0 (fun n s₀ r s₁ => r = .ok .next ∧ RG Y C a go σ0 n s₀ s₁) (YG Y C a go σ0) n s₀ (.compLoop (.GeneratorExp elt [⟨tg, iter, ifs, 0⟩, ⟨tg1, iter1, ifs1, 0⟩] scope pos) 0 (.ref it) .none Y.env) (.pure (.again (.compLoop (.GeneratorExp elt [⟨tg, iter, ifs, 0⟩, ⟨tg1, iter1, ifs1, 0⟩] scope pos) 0 (.ref it) .none Y.env))) [] s →
            Seg (model Y.prog Y.w) A0 (fun n s₀ r s₁ => r = .ok .next ∧ RG Y C a go σ0 n s₀ s₁) (YG Y C a go σ0) n s₀ (.compLoop (.GeneratorExp elt [⟨tg, iter, ifs, 0⟩, ⟨tg1, iter1, ifs1, 0⟩] scope pos) 0 (.ref it) .none Y.env) (K (.ok .next)) [] s) →
          ∀ k, k < m → ∀ (j n : Nat) (ys1 : List V) (s₀ s : Shared), k < n → (∃ pins' H', C.Pn ys1 pins' ∧ Inv Y ((a, go) :: pins') (wipe σ3 vs1) H' s ∧ tn (i + 1) s.heap ∧ (∀ b ∈ fp, H' b = none) ∧ tn1 j s.heap ∧ (∀ b ∈ fp1, H' b = none) ∧ W1 j k ys1 H') →
            Seg (model Y.prog Y.w) A0 (fun n s₀ r s₁ => r = .ok .next ∧ RG Y C a go σ0 n s₀ s₁) (YG Y C a go σ0) n s₀
              (.compLoop (.GeneratorExp elt [⟨tg, iter, ifs, 0⟩, ⟨tg1, iter1, ifs1, 0⟩] scope pos) 1 (.ref it1) .none Y.env)
              ((model Y.prog Y.w).den (.compLoop (.GeneratorExp elt [⟨tg, iter, ifs, 0⟩, ⟨tg1, iter1, ifs1, 0⟩] scope pos) 1 (.ref it1) .none Y.env))
              [.ret K none gd l (.compLoop (.GeneratorExp elt [⟨tg, iter, ifs, 0⟩, ⟨tg1, iter1, ifs1, 0⟩] scope pos) 0 (.ref it) .none Y.env) p []] s := by
        intro K gd l p hgd hK k
        subst hgd
        have hA1 : A0.over (.compLoop (.GeneratorExp elt [⟨tg, iter, ifs, 0⟩, ⟨tg1, iter1, ifs1, 0⟩] scope pos) 1 (.ref it1) .none Y.env) [.ret K none false l (.compLoop (.GeneratorExp elt [⟨tg, iter, ifs, 0⟩, ⟨tg1, iter1, ifs1, 0⟩] scope pos) 0 (.ref it) .none Y.env) p []] = Y.A := over_comp1.trans hA
        have nB : ∀ b ∈ fp1, b ∉ C.B := fun b hb hb2 => by
          obtain ⟨o, ho⟩ := CO.all _ _ hP b hb2
          exact (f6 b hb).2.2.2.2.2 (b, o) (List.mem_append_right _ (List.mem_append_left _ (List.mem_cons_of_mem _ ho))) rfl
        have nfp : ∀ b ∈ fp1, b ∉ fp := fun b hb hb2 => by
          obtain ⟨o, e, _⟩ := T.obj _ _ st2 b hb2
          exact (f6 b hb).2.2.2.2.2 (b, o) (List.mem_append_right _ (List.mem_append_right _ (mem_pinsAt hb2 e))) rfl
        have na : ∀ b ∈ fp1, a ≠ b := fun b hb => (f6 b hb).2.2.2.2.2 (a, go) (List.mem_append_right _ (List.mem_append_left _ List.mem_cons_self))
        have weak1 : ∀ {pl : List (Addr × Obj)} {H' : Hp} {s' : Shared}, Inv Y pl (wipe σ3 vs1) H' s' → Inv Y pl σ0 H' s' := fun I' => by
          refine I'.weak (by rw [← hw, wipe_length, wipe_length]) fun j v e => ?_
          rw [← hw] at e
          obtain ⟨e1, e2⟩ := wipe_some e
          rw [wipe_out fun z => e2 (hv j z)]
          exact e1
        induction k using Nat.strongRecOn with
        | ind k ih1 =>
          intro hkm j n ys1 s₀ s hkn ⟨pins', H', hP', I', st', fr', st1, fr1, w1⟩
          have Ip : Inv Y ((a, go) :: pins' ++ pinsAt fp s.heap) (wipe σ3 vs1) H' s := I'.pinned (stat hP' fr') (T.obj _ _ st')
          have stat1 : ∀ {H'' : Hp}, (∀ b ∈ fp1, H'' b = none) → ∀ b ∈ fp1, FpOk Y ((a, go) :: pins' ++ pinsAt fp s.heap) H'' b := fun hn b hb => by
            obtain ⟨_, h1, h2, h3, h4, _⟩ := f6 b hb
            refine ⟨hn b hb, h1, h2, h3, h4, fun p hp => ?_⟩
            rw [hpn] at hp
            rcases List.mem_append.mp (show p ∈ (a, go) :: pins' ++ pinsAt fp s.heap from hp) with hp | hp
            · rcases List.mem_cons.mp hp with e | hp
              · rw [e]; exact na b hb
              · intro e2; exact nB b hb (by rw [← e2]; exact (CO.pn _ _ hP' p hp).1)
            · intro e2; exact nfp b hb (by rw [← e2]; exact (of_pinsAt hp).1)
          show Seg _ A0 _ _ _ s₀ _ ((compTurn (.GeneratorExp elt [⟨tg, iter, ifs, 0⟩, ⟨tg1, iter1, ifs1, 0⟩] scope pos) 1 (.ref it1) .none Y.env).onRaise (fun x => do noteFrame x Y.env; theTreesLotGoes x)) _ s
          rw [compTurn2g_in, Sem.onRaise_eq_wrap]
          refine seg_bind_wrap (wpAny_standAt ?_)
          rcases turn1 j k ys1 H' w1 with ⟨stop1, m', hm', w'⟩ | ⟨go2, Nx1, hN1, step1⟩
          · refine seg_bind_wrap ?_
            rw [hA1]
            refine thn (T1.done Y rfl rfl rfl hc j _ s (wipe σ3 vs1) H' _ Ip (stat1 fr1) st1 stop1) fun r s7 ⟨hr, I7⟩ => ?_
            subst hr
            refine seg_leaf (.ok .next) (hK n s₀ s7 (seg_again rfl (ih m' (by omega) (i + 1) n ys1 s₀ s7 (by omega) ⟨pins', H', hP', weak1 I7.unpinned, ?_, fr', w'⟩)))
            exact T.keep _ _ _ st' fun b hb o e => (I7.pin (b, o) (List.mem_append_right _ (List.mem_append_right _ (mem_pinsAt hb e)))).1
          refine seg_bind_wrap ?_
          rw [hA1]
          refine thn (T1.item Y rfl rfl rfl hc j _ s (wipe σ3 vs1) H' _ Ip (stat1 fr1) st1 go2) fun r s7 ⟨u1, hr, h7⟩ => ?_
          subst hr
          refine seg_bind_wrap ?_
          rw [hA1]
          refine thn h7 fun _ s8 ⟨x1, H8, I8, r8, y8, st8, fr8⟩ => ?_
          have I8' := I8.pinned (stat1 fr8) (T1.obj _ _ st8)
          refine seg_bind_wrap ?_
          rw [hA1]
          refine wpAny_mono (hg1.run _ s8 (wipe σ3 vs1) H8 x1 u1 _ I8' r8 (step1 x1 H8 y8)) (fun _ s9 ⟨σ9, H9, I9, hw9, q9⟩ => ?_) (fun e s' z => (hx e s' z).elim)
          refine seg_bind_wrap ?_
          rw [hA1]
          refine wpAny_mono (ht1.run _ s9 σ9 H9 _ I9 q9) (fun b s10 ⟨H10, I10, q10⟩ => ?_) (fun e s' z => (hx e s' z).elim)
          have back : ∀ {H'' : Hp} {s'' : Shared}, Inv Y (((a, go) :: pins' ++ pinsAt fp s.heap) ++ pinsAt fp1 s8.heap) σ9 H'' s'' → Inv Y ((a, go) :: pins') (wipe σ3 vs1) H'' s'' ∧ tn (i + 1) s''.heap ∧ (∀ b ∈ fp, H'' b = none) ∧ tn1 (j + 1) s''.heap ∧ ∀ b ∈ fp1, H'' b = none := fun I'' => by
            have p1 : ∀ b ∈ fp, ∀ o, s.heap.get? b = some o → (b, o) ∈ Y.pn ++ (((a, go) :: pins' ++ pinsAt fp s.heap) ++ pinsAt fp1 s8.heap) := fun b hb o e => List.mem_append_right _ (List.mem_append_left _ (List.mem_append_right _ (mem_pinsAt hb e)))
            have p2 : ∀ b ∈ fp1, ∀ o, s8.heap.get? b = some o → (b, o) ∈ Y.pn ++ (((a, go) :: pins' ++ pinsAt fp s.heap) ++ pinsAt fp1 s8.heap) := fun b hb o e => List.mem_append_right _ (List.mem_append_right _ (mem_pinsAt hb e))
            refine ⟨I''.unpinned.unpinned.weak (by rw [← hw9, wipe_length]) fun j v e => ?_, T.keep _ _ _ st' fun b hb o e => (I''.pin _ (p1 b hb o e)).1, fun b hb => ?_, T1.keep _ _ _ st8 fun b hb o e => (I''.pin _ (p2 b hb o e)).1, fun b hb => ?_⟩
            · rw [← hw9] at e
              exact (wipe_some e).1
            · obtain ⟨o, e, d⟩ := T.obj _ _ st' b hb
              exact (I''.pin _ (p1 b hb o e)).2.1
            · obtain ⟨o, e, d⟩ := T1.obj _ _ st8 b hb
              exact (I''.pin _ (p2 b hb o e)).2.1
          cases b with
          | false =>
            rw [if_neg Bool.false_ne_true] at q10
            obtain ⟨k', hk', w'⟩ := hN1 _ _ q10
            obtain ⟨a1, a2, a3, a4, a5⟩ := back I10
            simp only [Bool.false_eq_true, if_false]
            exact seg_again rfl (ih1 k' hk' (by omega) (j + 1) n ys1 s₀ s10 (by omega) ⟨pins', H10, hP', a1, a2, a3, a4, a5, w'⟩)
          | true =>
            rw [if_pos rfl] at q10
            simp only [if_true]
            obtain ⟨n2, rfl⟩ : ∃ n2, n = n2 + 1 := ⟨n - 1, by omega⟩
            simp only [hy]
            rw [Sem.bind_eq_wrap', Sem.bind_eq_wrap', Sem.wrap_wrap, Sem.wrap_wrap]
            refine seg_wrap ?_
            rw [hA1]
            refine wpAny_mono (he.run _ s10 σ9 H10 _ I10 q10) (fun v s11 ⟨y, H11, I11, ry, kx, nx⟩ => ?_) (fun e s' z => (hx e s' z).elim)
            obtain ⟨a1, a2, a3, a4, a5⟩ := back I11
            refine seg_at (seg_yield rfl rfl rfl ⟨ys1, y, pins', H11, ry, hP', weak1 a1, kx, fun cn s12 z ⟨pins2, hP2, hp2⟩ => ?_⟩)
            obtain ⟨k', hk', w'⟩ := hN1 _ _ (nx cn)
            have hHB : ∀ b ∈ C.B, H11 b = none := fun b hb => by
              obtain ⟨o, ho⟩ := CO.all _ _ hP' b hb
              exact (a1.pin (b, o) (List.mem_append_right _ (List.mem_cons_of_mem _ ho))).2.1
            have I12 : Inv Y ((a, go) :: pins2) (wipe σ3 vs1) H11 s12 := woken hpn hB a1 hHB z fun p hp => ⟨(CO.pn _ _ hP2 p hp).1, hp2 p hp, (CO.pn _ _ hP2 p hp).2⟩
            exact seg_again rfl (ih1 k' hk' (by omega) (j + 1) n2 (ys1 ++ [y]) s12 s12 (by omega) ⟨pins2, H11, hP2, I12, T.keep _ _ _ a2 fun b hb o e => z.keep b o (fun hm => hB.bf b hm hb) e, a3, T1.keep _ _ _ a4 fun b hb o e => z.keep b o (nB b hb) e, a5, w'⟩)
      refine seg_call (c' := .compStart (.GeneratorExp elt [⟨tg, iter, ifs, 0⟩, ⟨tg1, iter1, ifs1, 0⟩] scope pos) 1 (.ref it1) .none Y.env) (fun p => ?_)
      have loop1 := fun K gd l p z1 z2 => inner K gd l p z1 z2 k1 hk1 0 n ys s₀ s6 (by omega) ⟨pins, H6, hP, I6.unpinned.weak (wipe_length _ _) (fun j v e => (wipe_some e).1), t6, n6, st6, fun b hb => (f6 b hb).1, w1⟩
      show Seg _ A0 _ _ _ s₀ _ ((compStart (.GeneratorExp elt [⟨tg, iter, ifs, 0⟩, ⟨tg1, iter1, ifs1, 0⟩] scope pos) 1 (.ref it1) .none Y.env).onRaise (fun x => do noteFrame x Y.env; standAt theWindowsPlace)) _ s6
      unfold compStart
      rw [Sem.onRaise_eq_wrap]
      show Seg _ A0 _ _ _ s₀ _ ((ask >>= _).wrap _ _ _ _) _ s6
      refine seg_bind_wrap (wpAny_askSetting ?_)
      split
      · refine seg_again rfl (loop1 _ _ _ p rfl ?_)
        exact fun _ _ _ h => h
      · refine seg_bind_wrap (wpAny_rule ?_)
        first
          | refine seg_bind_wrap (wpAny_standAt (seg_bind_wrap (T1.self _ 0 s6 _ _ st6 (seg_again rfl (loop1 _ _ _ p rfl ?_)))))
          | (show Seg _ A0 _ _ _ s₀ _ ((standAt iter1.pos >>= _).wrap _ _ _ _) _ s6; refine seg_bind_wrap (wpAny_standAt (seg_bind_wrap (T1.self _ 0 s6 _ _ st6 (seg_again rfl (loop1 _ _ _ p rfl ?_))))))
        exact fun _ _ _ h => h
end
end GX
set_option Elab.async false
set_option linter.all false
set_option maxRecDepth 100000
set_option maxHeartbeats 4000000
/-! Generator expressions of two clauses: made, and under all(..). -/
namespace GX
open PySem PySem.Spec PyProof.Rows L2 GenW
theorem eval_gx2 (elt t0 i0 t1 i1 : Expr) (f0 f1 : List Expr) (sc : Scope) (ps : Pos) (ev : Env) (nco : sc.isCoroutine = false) :
    eval (.GeneratorExp elt [⟨t0, i0, f0, 0⟩, ⟨t1, i1, f1, 0⟩] sc ps) ev = (do
      let xs ← eval i0 ev
      standAt i0.pos
      let xs ← genFold i0 ev xs
      let wk ← holding [xs] (pyIter xs)
      enterFrame
      let cz ← closureFor sc ev
      let cd ← genexprCode ev ps (ev.qual ++ "<genexpr>") sc
      let bt ← builtinsFor ev.globals ev.builtins
      let ce ← newFunctionEnv sc ev.globals cz [(".0", wk)] (ev.qual ++ "<genexpr>.") none cd none bt
      newGenerator (.compStart (.GeneratorExp elt [⟨t0, i0, f0, 0⟩, ⟨t1, i1, f1, 0⟩] sc ps) 0 wk .none ce) "<genexpr>" (ev.qual ++ "<genexpr>")) := by
  rw [arm_eval_GeneratorExp]
  simp only [nco, Bool.false_eq_true, if_false]
  cases i0 <;> rfl
theorem make_gx2 {M : Model} {A : Around} {E : Value → Shared → Prop} {s : Shared} {ev : Env} {elt t0 i0 t1 i1 : Expr} {f0 f1 : List Expr} {sc : Scope} {cz : List (Str × Addr)} {ps : Pos} {Q : Value → Shared → Prop}
    (nco : sc.isCoroutine = false) (ecz : closureFor sc ev = pure cz) (ncell : ∀ y ∈ sc.names, y.2 ≠ .cell) (dot : sc.names.lookup (".0" : Str) = some NameKind.local) (knd : sc.kind = .function) (dep : A.depth < recursionLimit)
    (h : wpAny M A (eval i0 ev) (fun xv s1 => wpAny M A (pyIter xv) (fun wk s2 => s2.heap.NoLimit ∧ wpAny M A (genexprCode ev ps (ev.qual ++ "<genexpr>") sc) (fun cd s3 => wpAny M A (builtinsFor ev.globals ev.builtins) (fun bt s4 => ∀ h1, h1.Ns s4.heap.objs.size (fun y => if y = ".0" then some wk else none) → Heap.SameBut s4.heap.objs.size (s4.heap.push { cls := .type "frame", data := .dict #[] }) h1 →
      Q (.ref h1.objs.size) { s4 with
        gens := s4.gens.push (.fresh (.compStart (.GeneratorExp elt [⟨t0, i0, f0, 0⟩, ⟨t1, i1, f1, 0⟩] sc ps) 0 wk .none (genEnv sc cz s4.heap.objs.size cd bt ev))),
        toks := s4.toks + 1 + 1 + 1,
        heap := h1.push { cls := .type "generator", data := .fields #[.int s4.gens.size 0, .str "<genexpr>" (s4.toks + 1), .str (ev.qual ++ "<genexpr>") (s4.toks + 1 + 1)] } }) E s3) E s2) E s1) E s)
    (hs : ∀ x, genFold i0 ev x = pure x) : wpAny M A (eval (.GeneratorExp elt [⟨t0, i0, f0, 0⟩, ⟨t1, i1, f1, 0⟩] sc ps) ev) Q E s := by
  rw [eval_gx2 _ _ _ _ _ _ _ _ _ _ nco, ecz]
  refine wpAny_bind (wpAny_mono h (fun xv s1 q1 => wpAny_bind (wpAny_standAt (wpAny_bind (wpAny_of_eq (hs xv) ?_)))) fun _ _ e => e)
  refine wpAny_bind (wpAny_holding (wpAny_mono q1 (fun wk s2 q2 => wpAny_bind (wpAny_enterFrame q2.1 dep (wpAny_bind (wpAny_pure ?_)))) fun _ _ e => e))
  refine wpAny_bind (wpAny_mono q2.2 (fun cd s3 q3 => wpAny_bind (wpAny_mono q3 (fun bt s4 q4 => ?_) fun _ _ e => e)) fun _ _ e => e)
  have bn : ∀ y ∈ ([((".0" : Str), wk)] : List (Str × Value)), sc.names.lookup y.1 = some NameKind.local := fun y hy => by
    rw [List.mem_singleton.mp hy]
    exact dot
  refine wpAny_bind (wpAny_newFunctionEnv ncell bn (fun h1 n1 b1 => ?_) knd)
  have el : (fun y : Str => ([((".0" : Str), wk)] : List (Str × Value)).reverse.lookup y) = fun y : Str => if y = (".0" : Str) then some wk else none := funext fun y => by
    by_cases z : y = ".0"
    · rw [z]; simp
    · have z2 : (y == (".0" : Str)) = false := by simpa using z
      simp [List.lookup, z2, z]
  rw [el] at n1
  simp only [newGenerator, newFields]
  refine wpAny_bind (wpAny_newGen (wpAny_bind (wpAny_mkText (wpAny_bind (wpAny_mkText (wpAny_newObj_type ?_ (by size_fits)))))))
  exact q4 h1 n1 b1
/-- a generator expression has been made -/
structure Made2 (X : Cx) (pins : List (Addr × Obj)) (σ : L2.St) (A0 : Around) (elt tg iter tg1 iter1 : Expr) (ifs ifs1 : List Expr) (scope : Scope) (gpos : Pos) (own : List (Str × Nat)) (it a : Addr) (fp : List Addr) (tn : Nat → Heap → Prop) (J : It) (H4 : Hp) (s4 s5 : Shared) (code : Value) (g : Nat) (go : Obj) : Prop where
  outer : Inv X pins σ H4 s4
  inner : Inv (gcx X A0 s4 H4 scope code fp) [(a, go)] (wipe σ (own.map (·.2))) H4 s5
  turn : Turn X.prog X.w X.K tg J fp it tn
  tn0 : tn 0 s5.heap
  fpk : ∀ b ∈ fp, FpOk X pins H4 b ∧ b < s4.heap.objs.size
  alo : s4.heap.objs.size < a
  asz : s5.heap.objs.size = a + 1
  gen : ∀ h : Heap, h.get? a = some go → h.IsGen a g
  gs : s5.gens[g]? = some (.fresh (.compStart (.GeneratorExp elt [⟨tg, iter, ifs, 0⟩, ⟨tg1, iter1, ifs1, 0⟩] scope gpos) 0 (.ref it) .none (gcx X A0 s4 H4 scope code fp).env))
  ga : s5.heap.get? a = some go
section
variable {X : Cx} {pins : List (Addr × Obj)} {σ : L2.St} {H : Hp} {s : Shared}
theorem gx_make2 {A0 : Around} {c P : Addr} {elt tg iter tg1 iter1 : Expr} {ifs ifs1 : List Expr} {gpos : Pos} {scope : Scope} {own : List (Str × Nat)} {wi : TI} {k : Nat} {R : It → Hp → Prop} {Q' : Value → Shared → Prop}
    (hA0h : A0.handled = none) (hA0f : A0.frames = X.A.frames) (hr : Room k X.A) (TB : GxR.TabB X.base X.mg c P) (hcode : X.env.code = .ref c) (ok : GxOk X.N X.env.scope scope own) (hN : X.N.Nodup) (hi : PI X tg iter wi)
    (hs : ∀ v, genFold iter X.env v = pure v) (I : Inv X pins σ H s) (h : wi σ H fun J H1 => GxR.TabG H1 P ∧ ∀ H2, GxR.Tabbed P H1 H2 → R J H2)
    (hQ : ∀ it a fp tn J H4 s4 s5 code g go, Made2 X pins σ A0 elt tg iter tg1 iter1 ifs ifs1 scope gpos own it a fp tn J H4 s4 s5 code g go → R J H4 → Q' (.ref a) s5) :
    wpAny (model X.prog X.w) X.A (eval (.GeneratorExp elt [⟨tg, iter, ifs, 0⟩, ⟨tg1, iter1, ifs1, 0⟩] scope gpos) X.env) Q' X.xe s := by
  have hfree : ∀ y ∈ scope.names, y.2 = .free → ∃ c, X.env.cells.lookup y.1 = some c := fun y hy e => by
    rcases ok.blk.free y hy e with k | k
    · exact I.ok.has _ (.inl k)
    · exact I.ok.has _ (.inr k)
  refine make_gx2 ok.co (closure_ok hfree) ok.cell ok.dot ok.blk.kind (by have := hr.dp; omega) ?_ hs
  refine thn (hi.run pins s σ H _ I h) fun xv s1 hx => thn hx fun itv s2 h2 => ?_
  obtain ⟨it, fp, tn, J, H2, e, I2, T, st2, f2, ⟨ps, hP, ht⟩, q⟩ := h2
  subst e
  have hPs : s2.heap.get? P = some { cls := .none, data := .fields ps } := I2.hok P _ hP
  have cd : PySem.W.CodeHd s2.heap c P := TB.code.keeps fun b u e => I2.bk b u e
  have sz : ∀ b ∈ fp, b < s2.heap.objs.size := fun b hb => by
    obtain ⟨o, e, _⟩ := T.obj _ _ st2 b hb
    exact Heap.lt_size e
  have fnP : ∀ b ∈ fp, b ≠ P := fun b hb e => by
    have q := (f2 b hb).1
    rw [e, hP] at q
    cases q
  have cont : ∀ (code : Value) (h3 : Heap) (tk : Nat) (ps' : Array Value), Heap.ExtBut P s2.heap h3 → s2.heap.objs.size ≤ h3.objs.size → h3.get? P = some { cls := .none, data := .fields ps' } → (∃ more, ps' = ps ++ more) → TriplesOk ps'.toList →
      wpAny (model X.prog X.w) X.A (builtinsFor X.env.globals X.env.builtins) (fun bi s₄ =>
        ∀ h', h'.Ns s₄.heap.objs.size (fun y => if y = ".0" then some (Value.ref it) else none) → Heap.SameBut s₄.heap.objs.size (s₄.heap.push { cls := .type "frame", data := .dict #[] }) h' →
          Q' (.ref h'.objs.size) { s₄ with
            gens := s₄.gens.push (.fresh (.compStart (.GeneratorExp elt [⟨tg, iter, ifs, 0⟩, ⟨tg1, iter1, ifs1, 0⟩] scope gpos) 0 (.ref it) .none (genEnv scope (cloFrom X.env.cells scope.names []) s₄.heap.objs.size code bi X.env))),
            toks := s₄.toks + 1 + 1 + 1,
            heap := h'.push { cls := .type "generator", data := .fields #[.int s₄.gens.size 0, .str "<genexpr>" (s₄.toks + 1), .str (X.env.qual ++ "<genexpr>") (s₄.toks + 1 + 1)] } }) X.xe { s2 with heap := h3, toks := tk } := by
    intro code h3 tk ps' hx hsz hP3 hmore ht3
    obtain ⟨more, em⟩ := hmore
    obtain ⟨bm, ob, e1, e2, e3, e4, e5, e6, e7, e8⟩ := TB.bm
    have keep3 : ∀ b u, b ≠ P → s2.heap.get? b = some u → h3.get? b = some u := fun b u hb e => hx b u hb e
    refine wpAny_builtinsFor (m := X.mg) (by rw [I2.ok.glob]; exact (I2.mod.glob.keeps I2.bk).extBut hx TB.gP) e1 e2 (keep3 _ _ e4 (I2.bk _ _ e5)) e6 e7 e8 ?_
    have I4 : Inv X pins σ (upd H2 P (.tbl (ps ++ more))) { s2 with heap := h3, toks := tk } :=
      GxR.inv_tab (more := more) (h' := h3) (g' := s2.gens) (d' := s2.drawn) (t' := tk) I2 hP (fun b u hb e => keep3 b u hb e) (by rw [← em]; exact hP3) I2.bare
    have hT4 : GxR.Tabbed P H2 (upd H2 P (.tbl (ps ++ more))) := ⟨⟨ps ++ more, upd_same, by rw [← em]; exact ht3⟩, fun b hb => upd_ne hb⟩
    have fk : ∀ b ∈ fp, FpOk X pins (upd H2 P (.tbl (ps ++ more))) b ∧ b < h3.objs.size := fun b hb => by
      refine ⟨⟨?_, (f2 b hb).2⟩, Nat.lt_of_lt_of_le (sz b hb) hsz⟩
      rw [upd_ne (fnP b hb)]
      exact (f2 b hb).1
    intro h' hn' hs'
    have hszh : h'.objs.size = h3.objs.size + 1 := by rw [hs'.1, Heap.size_push]
    have keep' : ∀ b o, h3.get? b = some o → h'.get? b = some o := fun b o e => hs'.extBut b o (Nat.ne_of_lt (Heap.lt_size e)) (Heap.get?_push_of_some _ e)
    have keep5 : ∀ b o, h3.get? b = some o → (h'.push { cls := .type "generator", data := .fields #[.int s2.gens.size 0, .str "<genexpr>" (tk + 1), .str (X.env.qual ++ "<genexpr>") (tk + 1 + 1)] }).get? b = some o := fun b o e => Heap.get?_push_of_some _ (keep' b o e)
    have hat : (h'.push { cls := .type "generator", data := .fields #[.int s2.gens.size 0, .str "<genexpr>" (tk + 1), .str (X.env.qual ++ "<genexpr>") (tk + 1 + 1)] }).get? h'.objs.size = some { cls := .type "generator", data := .fields #[.int s2.gens.size 0, .str "<genexpr>" (tk + 1), .str (X.env.qual ++ "<genexpr>") (tk + 1 + 1)] } := Heap.get?_push_size _ rfl
    have IY : Inv (gcx X A0 { s2 with heap := h3, toks := tk } (upd H2 P (.tbl (ps ++ more))) scope code fp) [] (wipe σ (own.map (·.2))) (upd H2 P (.tbl (ps ++ more)))
        { s2 with heap := h'.push { cls := .type "generator", data := .fields #[.int s2.gens.size 0, .str "<genexpr>" (tk + 1), .str (X.env.qual ++ "<genexpr>") (tk + 1 + 1)] }, gens := s2.gens.push (.fresh (.compStart (.GeneratorExp elt [⟨tg, iter, ifs, 0⟩, ⟨tg1, iter1, ifs1, 0⟩] scope gpos) 0 (.ref it) .none (genEnv scope (cloFrom X.env.cells scope.names []) h3.objs.size code builtinsNs X.env))), toks := tk + 1 + 1 + 1 } :=
      gen_start (s := { s2 with heap := h3, toks := tk }) I4 ok hN fk hA0h (hA0f.trans I2.ok.frames) (hn'.push _) keep5 (I2.bare.push rfl)
    have ano : ∀ b, b < h3.objs.size → h'.objs.size ≠ b := fun b hb => by rw [hszh]; omega
    refine hQ it h'.objs.size fp tn J _ { s2 with heap := h3, toks := tk } _ code s2.gens.size _ ⟨I4, IY.pins_of fun p hp => ?_, T, ?_, fk, ?_, ?_, ?_, Array.getElem?_push_size .., hat⟩ (q _ hT4)
    · rw [List.mem_singleton.mp hp]
      refine ⟨hat, I4.hok.fresh (by show h3.objs.size ≤ h'.objs.size; omega), ?_, fun hb => ?_, fun v z => by cases z⟩
      · show h'.objs.size ≠ h3.objs.size
        omega
      · obtain ⟨_, o, ho, _⟩ := (I4.stack).mem hb
        exact ano _ (Heap.lt_size ho) rfl
    · exact T.keep _ _ _ st2 fun b hb o e => keep5 b o (keep3 b o (fnP b hb) e)
    · show h3.objs.size < h'.objs.size
      omega
    · show (h'.push _).objs.size = h'.objs.size + 1
      rw [Heap.size_push]
    · intro h hh
      exact ⟨_, _, _, hh, rfl, rfl, rfl⟩
  refine ⟨I2.nolimit, ?_⟩
  cases hf : codeAmong gpos ps.toList with
  | none =>
    refine wpAny_genexprCodeX hcode (cd.code hPs ht) (cd.tab hPs) hf fun c' h' tk hx hge hlt hco' _ htab' _ => ?_
    obtain ⟨o1, vs, f1, tf, fl, tg', inF, tx, tt, op, _, _, _, _, _, _, _, _, _, htr, _⟩ := hco'
    exact cont _ h' tk _ hx (Nat.le_trans hge (Nat.le_of_lt hlt)) htab'.2 ⟨_, rfl⟩ htr
  | some cv =>
    refine wpAny_genexprCode_hit hcode (cd.code hPs ht) hf ?_
    exact cont cv s2.heap s2.toks ps (Heap.ExtBut.refl _ _) (Nat.le_refl _) hPs ⟨#[], by simp⟩ ht
end
section
variable {Y : Cx} {C : Con} {A0 : Around} {elt tg iter tg1 iter1 : Expr} {ifs ifs1 : List Expr} {scope : Scope} {pos : Pos} {it a : Addr} {fp : List Addr} {tn : Nat → Heap → Prop} {go : Obj} {J : It} {g g1 : TG} {tt tt1 : TT} {wi1 : TI} {te : TE} {vs vs1 : List Nat} {σ0 : L2.St} {W : Nat → Nat → List V → Hp → Prop}
theorem seg_start2 (hA : A0.deeper Y.env = Y.A) (hc : Y.calm = true) (hx : ∀ e s, Y.xe e s → False) (hpn : Y.pn = []) (hco : Y.env.scope.isCoroutine = false)
    (CO : C.Ok) (hB : Aprt Y C.B fp a) (hst : ∀ b ∈ fp, b ≠ Y.env.locals ∧ b ∉ Y.fs ∧ (b ∈ Y.ex ∨ Y.s_0.heap.objs.size ≤ b) ∧ ∀ x c, Y.env.cells.lookup x = some c → c ≠ b)
    (T : Turn Y.prog Y.w Y.K tg J fp it tn) (hg : PG Y tg g) (ht : PTs Y ifs tt) (hi1 : PI Y tg1 iter1 wi1) (hg1 : PG Y tg1 g1) (ht1 : PTs Y ifs1 tt1) (he : PE Y elt te) (hs1 : ∀ x, foldedSetIterable iter1 Y.env x = pure x) (hv : ∀ i ∈ vs1, i ∈ vs) (turns : Turns2 J g tt wi1 g1 tt1 te vs vs1 σ0 C W)
    (m i n : Nat) (ys : List V) (s₀ s : Shared) (hmn : m < n) (h : GSt Y C fp tn a go σ0 W i m ys s) :
      Seg (model Y.prog Y.w) A0 (fun n s₀ r s₁ => r = .ok .next ∧ RG Y C a go σ0 n s₀ s₁) (YG Y C a go σ0) n s₀
        (.compStart (.GeneratorExp elt [⟨tg, iter, ifs, 0⟩, ⟨tg1, iter1, ifs1, 0⟩] scope pos) 0 (.ref it) .none Y.env)
        ((model Y.prog Y.w).den (.compStart (.GeneratorExp elt [⟨tg, iter, ifs, 0⟩, ⟨tg1, iter1, ifs1, 0⟩] scope pos) 0 (.ref it) .none Y.env)) [] s := by
  have loop := seg_loop2 (iter := iter) (scope := scope) (pos := pos) hA hc hx hpn hco CO hB hst T hg ht hi1 hg1 ht1 he hs1 hv turns m i n ys s₀ s hmn h
  obtain ⟨pins, H, hP, I, st, fr, w⟩ := h
  show Seg _ A0 _ _ _ s₀ _ ((compStart (.GeneratorExp elt [⟨tg, iter, ifs, 0⟩, ⟨tg1, iter1, ifs1, 0⟩] scope pos) 0 (.ref it) .none Y.env).onRaise (leaving Y.env)) [] s
  unfold compStart
  rw [Sem.onRaise_eq_wrap]
  show Seg _ A0 _ _ _ s₀ _ ((ask >>= _).wrap _ _ _ _) [] s
  refine seg_bind_wrap (wpAny_askSetting ?_)
  split
  · exact seg_again rfl loop
  · first
      | exact seg_bind_wrap (wpAny_rule (seg_bind_wrap (wpAny_standAt (seg_bind_wrap (T.self _ i s _ _ st (seg_again rfl loop))))))
      | (refine seg_bind_wrap (wpAny_rule ?_); show Seg _ A0 _ _ _ s₀ _ ((standAt iter.pos >>= _).wrap _ _ _ _) [] s; exact seg_bind_wrap (wpAny_standAt (seg_bind_wrap (T.self _ i s _ _ st (seg_again rfl loop)))))
end
section
variable {X : Cx} {pins : List (Addr × Obj)} {σ : L2.St} {A0 : Around} {elt tg iter tg1 iter1 : Expr} {ifs ifs1 : List Expr} {scope : Scope} {gpos : Pos} {own : List (Str × Nat)} {it a : Addr} {fp : List Addr} {tn : Nat → Heap → Prop} {J : It} {H4 : Hp} {s4 s5 : Shared} {code : Value} {gn : Nat} {go : Obj}
/-- behind it: the outer frame again -/
theorem Made2.back (M : Made2 X pins σ A0 elt tg iter tg1 iter1 ifs ifs1 scope gpos own it a fp tn J H4 s4 s5 code gn go) {pl : List (Addr × Obj)} {σ' : L2.St} {H' : Hp} {s' : Shared} (I : Inv (gcx X A0 s4 H4 scope code fp) pl σ' H' s') : Inv X pins σ H' s' := by
  have os : s'.os = s4.os := I.os
  have un : Un (frs X.stack) fp H4 H' s4.heap s'.heap := I.base
  have hok : HOk X.prog X.w H' s'.heap := I.hok
  have bare := I.bare
  obtain ⟨h', g', d', t', o'⟩ := s'
  obtain rfl : o' = s4.os := os
  exact M.outer.call (h' := h') (g' := g') (d' := d') (t' := t') (ch := fp) un hok bare fun b hb => ⟨(M.fpk b hb).1.2.2.2.1, (M.fpk b hb).1.2.1, (M.fpk b hb).1.2.2.2.2.1, (M.fpk b hb).1.2.2.2.2.2⟩
theorem Made2.stat (M : Made2 X pins σ A0 elt tg iter tg1 iter1 ifs ifs1 scope gpos own it a fp tn J H4 s4 s5 code gn go) : ∀ b ∈ fp, b ≠ (gcx X A0 s4 H4 scope code fp).env.locals ∧ b ∉ (gcx X A0 s4 H4 scope code fp).fs ∧ (b ∈ (gcx X A0 s4 H4 scope code fp).ex ∨ (gcx X A0 s4 H4 scope code fp).s_0.heap.objs.size ≤ b) ∧ ∀ x c, (gcx X A0 s4 H4 scope code fp).env.cells.lookup x = some c → c ≠ b := fun b hb =>
  ⟨(M.inner.ok.exf b hb).1, M.inner.ok.exfs b hb, .inl hb, fun x c e => (M.inner.ok.exf b hb).2 x c e⟩
/-- the consumer's objects: none, or one that is new -/
theorem Made2.apart0 (M : Made2 X pins σ A0 elt tg iter tg1 iter1 ifs ifs1 scope gpos own it a fp tn J H4 s4 s5 code gn go) : Aprt (gcx X A0 s4 H4 scope code fp) [] fp a :=
  ⟨fun b hb => (by cases hb), fun b hb => (by cases hb), fun b hb => (by cases hb), fun b hb => (by cases hb), fun b hb => (by cases hb), fun hb => (by cases hb), fun hb =>
    absurd (Nat.lt_trans (M.fpk a hb).2 M.alo) (Nat.lt_irrefl _)⟩
/-- the fresh generator, for a consumer whose objects stand in a later state -/
theorem Made2.live (M : Made2 X pins σ A0 elt tg iter tg1 iter1 ifs ifs1 scope gpos own it a fp tn J H4 s4 s5 code gn go) {C : Con} {g g1 : TG} {tt tt1 : TT} {wi1 : TI} {te : TE} {vs1 : List Nat} {W : Nat → Nat → List V → Hp → Prop} {m : Nat} {s6 : Shared} {pins' : List (Addr × Obj)} (CO : C.Ok) (hB : Aprt (gcx X A0 s4 H4 scope code fp) C.B fp a)
    (co : scope.isCoroutine = false)
    (hg : PG (gcx X A0 s4 H4 scope code fp) tg g) (ht : PTs (gcx X A0 s4 H4 scope code fp) ifs tt) (hi1 : PI (gcx X A0 s4 H4 scope code fp) tg1 iter1 wi1) (hg1 : PG (gcx X A0 s4 H4 scope code fp) tg1 g1) (ht1 : PTs (gcx X A0 s4 H4 scope code fp) ifs1 tt1) (he : PE (gcx X A0 s4 H4 scope code fp) elt te) (hs1 : ∀ env x, foldedSetIterable iter1 env x = pure x) (hv : ∀ i ∈ vs1, i ∈ own.map (·.2)) (turns : Turns2 J g tt wi1 g1 tt1 te (own.map (·.2)) vs1 (wipe σ (own.map (·.2))) C W) (w0 : W 0 m [] H4)
    (hHB : ∀ b ∈ C.B, H4 b = none) (z : Slp C.B s5 s6) (hP : C.Pn [] pins') (hp : ∀ p ∈ pins', s6.heap.get? p.1 = some p.2) (hgens : s6.gens = s5.gens) (hl : s6.heap.NoLimit) :
    Live (gcx X A0 s4 H4 scope code fp) C A0 a go (wipe σ (own.map (·.2))) gn (m + 1) s6 := by
  have ga6 : s6.heap.get? a = some go := z.keep a go hB.na M.ga
  have z' : Slp C.B s5 (s6.setGen gn .running) := ⟨z.os, allBare_setGen z.bare rfl, z.keep⟩
  have I6 : Inv (gcx X A0 s4 H4 scope code fp) ((a, go) :: pins') (wipe σ (own.map (·.2))) H4 (s6.setGen gn .running) := woken rfl hB M.inner hHB z' fun p hp' => ⟨(CO.pn _ _ hP p hp').1, hp p hp', (CO.pn _ _ hP p hp').2⟩
  refine ⟨M.gen _ ga6, hl, _, (by rw [hgens]; exact M.gs), ?_⟩
  refine ⟨rfl, ?_⟩
  exact seg_start2 rfl rfl (fun _ _ z => z) rfl co CO hB M.stat M.turn hg ht hi1 hg1 ht1 he (hs1 _) hv turns m 0 (m + 1) [] _ _ (Nat.lt_succ_self _)
    ⟨pins', H4, hP, I6, M.turn.keep _ _ _ M.tn0 fun b hb o e => z.keep b o (fun hm => hB.bf b hm hb) e, fun b hb => (M.fpk b hb).1.1, w0⟩
end
/-- all(elt for tg in iter if .. for tg1 in iter1 if ..) -/
def tAllG2 (P : Addr) (wi : TI) (g : TG) (tt : TT) (wi1 : TI) (g1 : TG) (tt1 : TT) (te : TE) (vs vs1 : List Nat) : TE := fun σ H Q => wi σ H fun J H1 => GxR.TabG H1 P ∧ ∀ H2, GxR.Tabbed P H1 H2 → ∃ W : Nat → Nat → List V → Hp → Prop, (∃ m, W 0 m [] H2) ∧ Turns2 J g tt wi1 g1 tt1 te vs vs1 (wipe σ vs) (conAll Q) W
section
variable {X : Cx} {c P : Addr} {elt tg iter tg1 iter1 : Expr} {ifs ifs1 : List Expr} {p pos gpos : Pos} {scope : Scope} {own : List (Str × Nat)} {wi wi1 : TI} {g g1 : TG} {tt tt1 : TT} {te : TE} {vs1 : List Nat} {k : Nat}
theorem pe_allG2 (hr : Room k X.A) (hgl : Gl X "all") (hm : X.mg "all" = none) (TB : GxR.TabB X.base X.mg c P) (hcode : X.env.code = .ref c) (ok : GxOk X.N X.env.scope scope own) (hN : X.N.Nodup) (hi : PI X tg iter wi)
    (hg : ∀ (s : Shared) (H : Hp) (code : Value) (fp : List Addr), PG (gcx X X.A.in1.in1 s H scope code fp) tg g) (ht : ∀ (s : Shared) (H : Hp) (code : Value) (fp : List Addr), PTs (gcx X X.A.in1.in1 s H scope code fp) ifs tt)
    (hi1 : ∀ (s : Shared) (H : Hp) (code : Value) (fp : List Addr), PI (gcx X X.A.in1.in1 s H scope code fp) tg1 iter1 wi1) (hg1 : ∀ (s : Shared) (H : Hp) (code : Value) (fp : List Addr), PG (gcx X X.A.in1.in1 s H scope code fp) tg1 g1) (ht1 : ∀ (s : Shared) (H : Hp) (code : Value) (fp : List Addr), PTs (gcx X X.A.in1.in1 s H scope code fp) ifs1 tt1)
    (hel : ∀ (s : Shared) (H : Hp) (code : Value) (fp : List Addr), PE (gcx X X.A.in1.in1 s H scope code fp) elt te) (hv : ∀ i ∈ vs1, i ∈ own.map (·.2)) (hs : ∀ v, genFold iter X.env v = pure v := by intro _; rfl) (hs1 : ∀ env x, foldedSetIterable iter1 env x = pure x := by intro _ _; rfl)
    (he : starEach [.GeneratorExp elt [⟨tg, iter, ifs, 0⟩, ⟨tg1, iter1, ifs1, 0⟩] scope gpos] X.env = (false, eval (.GeneratorExp elt [⟨tg, iter, ifs, 0⟩, ⟨tg1, iter1, ifs1, 0⟩] scope gpos) X.env) :: starEach [] X.env := by rfl) :
    PE X (.Call (.Name "all" p) [.GeneratorExp elt [⟨tg, iter, ifs, 0⟩, ⟨tg1, iter1, ifs1, 0⟩] scope gpos] [] pos) (tAllG2 P wi g tt wi1 g1 tt1 te (own.map (·.2)) vs1) := by
  refine ⟨fun pins s σ H Q I h => ?_⟩
  refine wpAny_Call_Name_kw (ld_blt I hgl hm (show bootBuiltins "all" = some (.builtin "all") by decide +kernel) ?_)
  refine PyProof.Rows.callWith_builtin1 ?_ he (by rfl)
  rw [he]
  show wpAny _ _ (spliced ((false, eval (.GeneratorExp elt [⟨tg, iter, ifs, 0⟩, ⟨tg1, iter1, ifs1, 0⟩] scope gpos) X.env) :: backTo pos (starEach [] X.env))) _ _ s
  refine Calls.spliced_cons (gx_make2 (A0 := X.A.in1.in1) (own := own) (R := fun J H2 => ∃ W : Nat → Nat → List V → Hp → Prop, (∃ m, W 0 m [] H2) ∧ Turns2 J g tt wi1 g1 tt1 te (own.map (fun q : Str × Nat => q.2)) vs1 (wipe σ (own.map (fun q : Str × Nat => q.2))) (conAll Q) W) hr.hd rfl hr TB hcode ok hN hi hs I h fun it a fp tn J H4 s4 s5 code gn go M q => ?_)
  obtain ⟨W, ⟨m, w0⟩, turns⟩ := q
  refine Calls.spliced_nil ?_
  have L : Live (gcx X X.A.in1.in1 s4 H4 scope code fp) (conAll Q) X.A.in1.in1 a go (wipe σ (own.map (·.2))) gn (m + 1) s5 :=
    M.live (s6 := s5) (pins' := []) (ok_all Q) M.apart0 ok.co (hg s4 H4 code fp) (ht s4 H4 code fp) (hi1 s4 H4 code fp) (hg1 s4 H4 code fp) (ht1 s4 H4 code fp) (hel s4 H4 code fp) hs1 hv turns w0 (fun b hb => (by cases hb)) ⟨rfl, M.inner.bare, fun _ _ _ e => e⟩ rfl (fun p hp => (by cases hp)) rfl M.inner.nolimit
  refine call_function_tree F.kind_all F.plain_all F.entry_all (F.args_all1 _) ?_
  unfold Builtin.«all»
  refine wpAny_bind (m := oneArg "all" _) (wpAny_pure ?_)
  refine wpAny_bind (wpAny_pyIter_gen (M.gen _ M.ga) ?_)
  refine wpAny_pure ⟨plainId_quiet F.plain_all_loop _, all_loop (Y := gcx X X.A.in1.in1 s4 H4 scope code fp) hr.hd hr.depth M.gen (fun b s' H' I' q' => ?_) (m + 1) s5 L⟩
  exact ⟨.bl b, H', M.back I', rfl, q'⟩
end
/-! ### turns over walks -/
def WB (n B : Nat) (Pv : Nat → List V → Hp → Prop) : Nat → Nat → List V → Hp → Prop := fun i m ys H => m = (n - i) * (B + 2) ∧ i ≤ n ∧ Pv i ys H
theorem turns2_it {J : It} {n : Nat} {G : Hp → Prop} {Yd : Nat → Hp → V → Hp → Prop} (w : Walk J n G Yd) (B : Nat) {g g1 : TG} {tt tt1 : TT} {wi1 : TI} {te : TE} {vs vs1 : List Nat} {σ0 : L2.St} {C : Con} {H : Hp} (Pv : Nat → List V → Hp → Prop) (h0 : Pv 0 [] H) (hG : ∀ i ys H, i ≤ n → Pv i ys H → G H)
    (hs : ∀ i x ys H H', i < n → Pv i ys H → Yd i H x H' → g x σ0 H' fun σ2 H2 => wipe σ2 vs = σ0 ∧ tt σ2 H2 fun b H3 =>
      if b = true then wi1 σ2 H3 fun J1 H4 => ∃ W1 : Nat → Nat → List V → Hp → Prop, (∃ k, k < (n - i) * (B + 2) ∧ W1 0 k ys H4) ∧ ∀ j k ys1 H, W1 j k ys1 H →
        (J1.stop j H ∧ ∃ m', m' < k ∧ WB n B Pv (i + 1) m' ys1 H) ∨ (J1.go j H ∧ ∃ Nx1 : List V → Hp → Prop, (∀ ys' H', Nx1 ys' H' → ∃ k', k' < k ∧ W1 (j + 1) k' ys' H') ∧ ∀ x H', J1.yld j H x H' → g1 x (wipe σ2 vs1) H' fun σ3 H5 => wipe σ3 vs1 = wipe σ2 vs1 ∧ tt1 σ3 H5 fun b H6 =>
          if b = true then te σ3 H6 fun y H7 => C.Kx ys1 y H7 ∧ (C.Cn ys1 y → Nx1 (ys1 ++ [y]) H7) else Nx1 ys1 H6)
      else ∃ m', m' < (n - i) * (B + 2) ∧ WB n B Pv (i + 1) m' ys H3) (hd : ∀ ys H, Pv n ys H → C.Fi ys H) :
    ∃ W : Nat → Nat → List V → Hp → Prop, (∃ m, W 0 m [] H) ∧ Turns2 J g tt wi1 g1 tt1 te vs vs1 σ0 C W := by
  refine ⟨WB n B Pv, ⟨(n - 0) * (B + 2), rfl, Nat.zero_le _, h0⟩, ?_⟩
  rintro i m ys H ⟨rfl, hi, p⟩
  have q := hG i ys H hi p
  by_cases hlt : i < n
  · exact .inr ⟨w.goes i H hlt q, fun x H' y => hs i x ys H H' hlt p (w.yields i H x H' hlt q y)⟩
  · have e : i = n := by omega
    subst e
    exact .inl ⟨w.stops H q, hd ys H p⟩
theorem inner_by {J1 : It} {n1 : Nat} {G1 : Hp → Prop} {Yd1 : Nat → Hp → V → Hp → Prop} (w : Walk J1 n1 G1 Yd1) {n B i : Nat} (hB : n1 ≤ B) (hi : i < n) {Pv : Nat → List V → Hp → Prop} {g1 : TG} {tt1 : TT} {te : TE} {vs1 : List Nat} {σ0 : L2.St} {C : Con} {ys : List V} {H : Hp} (Pv1 : Nat → List V → Hp → Prop) (h0 : Pv1 0 ys H) (hG : ∀ j ys H, j ≤ n1 → Pv1 j ys H → G1 H)
    (hs : ∀ j x ys H H', j < n1 → Pv1 j ys H → Yd1 j H x H' → g1 x σ0 H' fun σ3 H5 => wipe σ3 vs1 = σ0 ∧ tt1 σ3 H5 fun b H6 =>
      if b = true then te σ3 H6 fun y H7 => C.Kx ys y H7 ∧ (C.Cn ys y → Pv1 (j + 1) (ys ++ [y]) H7) else Pv1 (j + 1) ys H6) (hd : ∀ ys H, Pv1 n1 ys H → Pv (i + 1) ys H) :
    ∃ W1 : Nat → Nat → List V → Hp → Prop, (∃ k, k < (n - i) * (B + 2) ∧ W1 0 k ys H) ∧ ∀ j k ys1 H, W1 j k ys1 H →
        (J1.stop j H ∧ ∃ m', m' < k ∧ WB n B Pv (i + 1) m' ys1 H) ∨ (J1.go j H ∧ ∃ Nx1 : List V → Hp → Prop, (∀ ys' H', Nx1 ys' H' → ∃ k', k' < k ∧ W1 (j + 1) k' ys' H') ∧ ∀ x H', J1.yld j H x H' → g1 x σ0 H' fun σ3 H5 => wipe σ3 vs1 = σ0 ∧ tt1 σ3 H5 fun b H6 =>
          if b = true then te σ3 H6 fun y H7 => C.Kx ys1 y H7 ∧ (C.Cn ys1 y → Nx1 (ys1 ++ [y]) H7) else Nx1 ys1 H6) := by
  have e1 : (n - i) * (B + 2) = (n - (i + 1)) * (B + 2) + (B + 2) := by
    rw [show n - i = n - (i + 1) + 1 by omega, Nat.add_mul, Nat.one_mul]
  refine ⟨fun j k ys H => k = (n - i) * (B + 2) - 1 - j ∧ j ≤ n1 ∧ Pv1 j ys H, ⟨(n - i) * (B + 2) - 1, by omega, by omega, Nat.zero_le _, h0⟩, ?_⟩
  rintro j k ys1 H ⟨rfl, hj, p⟩
  have q := hG j ys1 H hj p
  by_cases hlt : j < n1
  · exact .inr ⟨w.goes j H hlt q, Pv1 (j + 1), fun ys' H' p' => ⟨_, by omega, rfl, hlt, p'⟩, fun x H' y => hs j x ys1 H H' hlt p (w.yields j H x H' hlt q y)⟩
  · have e : j = n1 := by omega
    subst e
    exact .inl ⟨w.stops H q, _, by omega, rfl, hi, hd ys1 H p⟩
end GX
set_option Elab.async false
set_option linter.all false
set_option maxRecDepth 100000
set_option maxHeartbeats 4000000
namespace K24
open PySem PySem.Spec PyProof.Rows L2 GX
open C8 (Cal pe_c pe_gc)
def topS (i : Nat) : Stmt := PySem.Challenge.pw_tablecover_k24_papers_of_depths_by_any_h.main.body.getD i (.Pass ⟨0, 0, 0, 0⟩)
abbrev s_is_whole : Stmt := topS 1
theorem sc_is_whole : FnScope ["thing"] ["thing"] (defScope s_is_whole) := ⟨rfl, rfl, rfl, by decide +kernel, rfl, by decide +kernel, by decide +kernel⟩
abbrev s_is_below : Stmt := topS 2
theorem sc_is_below : FnScope ["thing", "bound"] ["thing", "bound"] (defScope s_is_below) := ⟨rfl, rfl, rfl, by decide +kernel, rfl, by decide +kernel, by decide +kernel⟩
abbrev s_wires_in : Stmt := topS 3
theorem sc_wires_in : FnScope ["net"] ["net"] (defScope s_wires_in) := ⟨rfl, rfl, rfl, by decide +kernel, rfl, by decide +kernel, by decide +kernel⟩
abbrev s_places : Stmt := topS 5
theorem sc_places : FnScope ["net", "gate", "kind", "one", "other"] ["net", "gate"] (defScope s_places) := ⟨rfl, rfl, rfl, by decide +kernel, rfl, by decide +kernel, by decide +kernel⟩
abbrev s_is_step : Stmt := topS 6
theorem sc_is_step : FnScope ["net", "ahead", "wire"] ["net", "ahead", "wire"] (defScope s_is_step) := ⟨rfl, rfl, rfl, by decide +kernel, rfl, by decide +kernel, by decide +kernel⟩
abbrev s_is_way : Stmt := topS 7
theorem sc_is_way : FnScope ["net", "wire", "thing", "count", "step", "ahead"] ["net", "wire", "thing"] (defScope s_is_way) := ⟨rfl, rfl, rfl, by decide +kernel, rfl, by decide +kernel, by decide +kernel⟩
abbrev s__law_deck : Stmt := topS 15
theorem sc__law_deck : FnScope ["_law_script", "_law_cells"] ["_law_script"] (defScope s__law_deck) := ⟨rfl, rfl, rfl, by decide +kernel, rfl, by decide +kernel, by decide +kernel⟩
abbrev s__law_draw : Stmt := topS 16
theorem sc__law_draw : FnScope ["_law_deck_here", "_law_most", "_law_cell", "_law_number"] ["_law_deck_here", "_law_most"] (defScope s__law_draw) := ⟨rfl, rfl, rfl, by decide +kernel, rfl, by decide +kernel, by decide +kernel⟩
abbrev s__law_gate : Stmt := topS 17
theorem sc__law_gate : FnScope ["_law_deck_here", "_law_many", "_law_wire", "_law_way", "_law_reach", "_law_twice", "_law_one", "_law_other"] ["_law_deck_here", "_law_many", "_law_wire", "_law_way"] (defScope s__law_gate) := ⟨rfl, rfl, rfl, by decide +kernel, rfl, by decide +kernel, by decide +kernel⟩
abbrev s__law_net : Stmt := topS 18
theorem sc__law_net : FnScope ["_law_deck_here", "_law_inputs", "_law_gates", "_law_way", "_law_many", "_law_count", "_law_made", "_law_k", "_law_outs", "_law_far"] ["_law_deck_here", "_law_inputs", "_law_gates"] (defScope s__law_net) := ⟨rfl, rfl, rfl, by decide +kernel, rfl, by decide +kernel, by decide +kernel⟩
abbrev s__law_held : Stmt := topS 19
theorem sc__law_held : FnScope ["_law_one", "_law_other", "_law_wire"] ["_law_one", "_law_other"] (defScope s__law_held) := ⟨rfl, rfl, rfl, by decide +kernel, rfl, by decide +kernel, by decide +kernel⟩
abbrev s__law_least : Stmt := topS 20
theorem sc__law_least : FnScope ["_law_some", "_law_kept", "_law_many", "_law_cut", "_law_one"] ["_law_some"] (defScope s__law_least) := ⟨rfl, rfl, rfl, by decide +kernel, rfl, by decide +kernel, by decide +kernel⟩
abbrev s__law_cuts : Stmt := topS 21
theorem sc__law_cuts : FnScope ["_law_net_here", "_law_k", "_law_cuts_here", "_law_wire", "_law_kind", "_law_one", "_law_other", "_law_some", "_law_first", "_law_second", "_law_cut"] ["_law_net_here", "_law_k"] (defScope s__law_cuts) := ⟨rfl, rfl, rfl, by decide +kernel, rfl, by decide +kernel, by decide +kernel⟩
abbrev s__law_depths : Stmt := topS 22
theorem sc__law_depths : FnScope ["_law_net_here", "_law_cuts_here", "_law_known", "_law_gate_here", "_law_wire", "_law_cut"] ["_law_net_here", "_law_cuts_here"] (defScope s__law_depths) := ⟨rfl, rfl, rfl, by decide +kernel, rfl, by decide +kernel, by decide +kernel⟩
abbrev s_is_entry : Stmt := topS 9
theorem sc_is_entry : FnScope ["thing", "label", "ways"] ["thing"] (defScope s_is_entry) := ⟨rfl, rfl, rfl, by decide +kernel, rfl, by decide +kernel, by decide +kernel⟩
abbrev s_are_entries : Stmt := topS 10
theorem sc_are_entries : FnScope ["net", "thing", "entry"] ["net", "thing"] (defScope s_are_entries) := ⟨rfl, rfl, rfl, by decide +kernel, rfl, by decide +kernel, by decide +kernel⟩
abbrev s_are_apart : Stmt := topS 11
theorem sc_are_apart : FnScope ["one", "other", "labels", "least", "wire"] ["one", "other", "labels", "least"] (defScope s_are_apart) := ⟨rfl, rfl, rfl, by decide +kernel, rfl, by decide +kernel, by decide +kernel⟩
abbrev s_shows_label : Stmt := topS 12
theorem sc_shows_label : FnScope ["net", "k", "gate", "labels", "ways", "way", "least", "at", "later"] ["net", "k", "gate", "labels", "ways"] (defScope s_shows_label) := ⟨rfl, rfl, rfl, by decide +kernel, rfl, by decide +kernel, by decide +kernel⟩
abbrev s_depth_paper_holds : Stmt := topS 13
theorem sc_depth_paper_holds : FnScope ["net", "k", "thing", "labels", "label", "ways", "at", "entry"] ["net", "k", "thing"] (defScope s_depth_paper_holds) := ⟨rfl, rfl, rfl, by decide +kernel, rfl, by decide +kernel, by decide +kernel⟩
abbrev s__law_is_way : Stmt := topS 23
theorem sc__law_is_way : FnScope ["_law_net_here", "_law_gate_here", "_law_way", "_law_wire", "_law_k"] ["_law_net_here", "_law_gate_here", "_law_way"] (defScope s__law_is_way) := ⟨rfl, rfl, rfl, by decide +kernel, rfl, by decide +kernel, by decide +kernel⟩
abbrev s__law_is_entry : Stmt := topS 25
theorem sc__law_is_entry : FnScope ["_law_net_here", "_law_k", "_law_labels", "_law_gate_here", "_law_ways", "_law_way", "_law_at", "_law_other", "_law_wire"] ["_law_net_here", "_law_k", "_law_labels", "_law_gate_here", "_law_ways"] (defScope s__law_is_entry) := ⟨rfl, rfl, rfl, by decide +kernel, rfl, by decide +kernel, by decide +kernel⟩
abbrev s__law_is_paper : Stmt := topS 24
theorem sc__law_is_paper : FnScope ["_law_net_here", "_law_k", "_law_thing", "_law_labels", "_law_entry", "_law_j"] ["_law_net_here", "_law_k", "_law_thing"] (defScope s__law_is_paper) := ⟨rfl, rfl, rfl, by decide +kernel, rfl, by decide +kernel, by decide +kernel⟩
abbrev s__law_all_ways : Stmt := topS 26
theorem sc__law_all_ways : FnScope ["_law_net_here", "_law_found", "_law_wire", "_law_kind", "_law_one", "_law_other", "_law_some", "_law_way"] ["_law_net_here"] (defScope s__law_all_ways) := ⟨rfl, rfl, rfl, by decide +kernel, rfl, by decide +kernel, by decide +kernel⟩
abbrev s__law_meet : Stmt := topS 27
theorem sc__law_meet : FnScope ["_law_one", "_law_way", "_law_low", "_law_wire"] ["_law_one", "_law_way", "_law_low"] (defScope s__law_meet) := ⟨rfl, rfl, rfl, by decide +kernel, rfl, by decide +kernel, by decide +kernel⟩
abbrev s__law_picked : Stmt := topS 28
theorem sc__law_picked : FnScope ["_law_deck_here", "_law_ways", "_law_k", "_law_low", "_law_begin", "_law_chosen", "_law_way", "_law_one"] ["_law_deck_here", "_law_ways", "_law_k", "_law_low"] (defScope s__law_picked) := ⟨rfl, rfl, rfl, by decide +kernel, rfl, by decide +kernel, by decide +kernel⟩
abbrev s__law_hand : Stmt := topS 29
theorem sc__law_hand : FnScope ["_law_deck_here", "_law_net_here", "_law_k", "_law_known", "_law_ways", "_law_labels", "_law_gate_here", "_law_way", "_law_deep", "_law_paper", "_law_some", "_law_low", "_law_wire"] ["_law_deck_here", "_law_net_here", "_law_k", "_law_known"] (defScope s__law_hand) := ⟨rfl, rfl, rfl, by decide +kernel, rfl, by decide +kernel, by decide +kernel⟩
abbrev s__law_right : Stmt := topS 30
theorem sc__law_right : FnScope ["_law_deck_here", "_law_net_here", "_law_k", "_law_known", "_law_turn", "_law_paper", "_law_due", "_law_again", "_law_told", "_law_fewer", "_law_label", "_law_some", "_law_thing", "_law_other", "_law_deep", "_law_j"] ["_law_deck_here", "_law_net_here", "_law_k"] (defScope s__law_right) := ⟨rfl, rfl, rfl, by decide +kernel, rfl, by decide +kernel, by decide +kernel⟩
abbrev s_law : Stmt := topS 31
theorem sc_law : FnScope ["_law_script", "_law_deck_here", "_law_turn", "_law_net_here", "_law_k"] ["_law_script"] (defScope s_law) := ⟨rfl, rfl, rfl, by decide +kernel, rfl, by decide +kernel, by decide +kernel⟩
structure Txt (mg : Str → Option Value) : Prop where
  b_all : mg "all" = none
  b_any : mg "any" = none
  b_bool : mg "bool" = none
  b_enumerate : mg "enumerate" = none
  b_int : mg "int" = none
  b_isinstance : mg "isinstance" = none
  b_len : mg "len" = none
  b_list : mg "list" = none
  b_max : mg "max" = none
  b_min : mg "min" = none
  b_range : mg "range" = none
  b_set : mg "set" = none
  b_sorted : mg "sorted" = none
  b_sum : mg "sum" = none
  b_tuple : mg "tuple" = none
  b_zip : mg "zip" = none
theorem nat_at {l : List Nat} {i : Nat} (h : i < l.length) : (l.map nV)[i]? = some (nV (l.getD i 0)) := natAt h
section
variable {P : Program} {w : World} {K : PySem.W.Frag} {mg : Str → Option Value} {base : Heap} {Ts : List Addr}
def spWires : Sp := fun vs H Q _ => ∃ (a : Addr) (n : Net) (g o : Addr) (ps : List Addr), vs = [.ref a] ∧ NetAt H a n g o ps ∧ Q (nV (n.many + n.gates.length)) H
theorem ok_wires {f c : Addr} (D : Dfn K mg "wires_in" s_wires_in f c) (T : Txt mg) : Cal P w K mg base 1 "wires_in" spWires [] := by
  refine cal D (fun _ _ _ _ _ _ us hl => match us, hl with | [_], _ => rfl) sc_wires_in (fun vs H Q E h => ?_) (fun A outer s H vs Q E hr h => ?_)
  · obtain ⟨a, n, g, o, ps, rfl, _⟩ := h
    rfl
  · obtain ⟨a, n, g, o, ps, rfl, N, q⟩ := h
    refine ⟨_, (pss_one (ps_ret (pe_op op_add (pe_ix ix_tup (pv 0) pe_int (fun _ _ => rfl)) (pe_callB call_len_seq (by rfl) T.b_len (by decide +kernel) (pa_cons (pe_ix ix_tup (pv 0) pe_int (fun _ _ => rfl)) pa_nil))))), ?_⟩
    refine ⟨_, rfl, a, _, 0, _, rfl, rfl, SqT.of N.top, at0, _, rfl, a, _, 1, _, rfl, rfl, SqT.of N.top, at1, g, _, rfl, .inr (SqT.of N.gt), _, _, rfl, rfl, ?_⟩
    have e : (V.int ((n.many : Int) + ((ps.map V.ref).length : Int))) = nV (n.many + n.gates.length) := by
      rw [List.length_map, N.gs.1]
      rfl
    show Q (V.int ((n.many : Int) + ((ps.map V.ref).length : Int))) H
    rw [e]
    exact q
def spPlaces : Sp := fun vs H Q _ => ∃ (a : Addr) (n : Net) (g o : Addr) (ps : List Addr) (x : Nat) (k : Nat × Nat × Nat), vs = [.ref a, nV x] ∧ NetAt H a n g o ps ∧ n.many ≤ x ∧ n.gates[x - n.many]? = some k ∧ ∀ p, H p = none → Q (.ref p) (upd H p (.tup [nV k.2.1, nV k.2.2]))
theorem ok_places {f c : Addr} (D : Dfn K mg "places" s_places f c) : Cal P w K mg base 1 "places" spPlaces [] := by
  refine cal D (fun _ _ _ _ _ _ us hl => match us, hl with | [_, _], _ => rfl) sc_places (fun vs H Q E h => ?_) (fun A outer s H vs Q E hr h => ?_)
  · obtain ⟨a, n, g, o, ps, x, k, rfl, _⟩ := h
    rfl
  · obtain ⟨a, n, g, o, ps, x, k, rfl, N, hx, hk, q⟩ := h
    refine ⟨_, (pss_cons (ps_asg (pe_ix ix_tup (pe_ix ix_tup (pv 0) pe_int (fun _ _ => rfl)) (pe_op op_sub (pv 1) (pe_ix ix_tup (pv 0) pe_int (fun _ _ => rfl))) (fun _ _ => rfl)) (pg_tup rfl (pgs_cons (pg_name (i := 2) sc_places.nd rfl (by first | exact Or.inl rfl | exact Or.inr rfl)) (pgs_cons (pg_name (i := 3) sc_places.nd rfl (by first | exact Or.inl rfl | exact Or.inr rfl)) (pgs_cons (pg_name (i := 4) sc_places.nd rfl (by first | exact Or.inl rfl | exact Or.inr rfl)) pgs_nil)))))
      (pss_one (ps_ret (pe_tup (pa_cons (pv 3) (pa_cons (pv 4) pa_nil)))))), ?_⟩
    have hil : x - n.many < ps.length := by rw [N.gs.1]; exact (List.getElem?_eq_some_iff.mp hk).1
    have hp := N.gs.2 _ _ _ (List.getElem?_eq_getElem hil) hk
    have e1 : (ps.map V.ref)[x - n.many]? = some (.ref ps[x - n.many]) := by rw [List.getElem?_map, List.getElem?_eq_getElem hil]; rfl
    refine ⟨_, rfl, a, _, 1, _, rfl, rfl, SqT.of N.top, at1, _, rfl, _, rfl, a, _, 0, _, rfl, rfl, SqT.of N.top, at0, _, _, rfl, rfl, g, _, _, _, rfl, rfl, SqT.of N.gt, (by rw [show (((x : Nat) : Int) - ((n.many : Nat) : Int)) = ((x - n.many : Nat) : Int) by omega]; exact atI_nat e1), ?_⟩
    refine ⟨_, _, rfl, SqT.of hp, rfl, _, _, rfl, _, _, rfl, _, _, rfl, rfl, ?_⟩
    exact ⟨_, rfl, _, rfl, small 2, fun p np => q p np⟩
end
end K24
set_option Elab.async false
set_option linter.all false
set_option maxRecDepth 100000
set_option maxHeartbeats 4000000
/-! A deck whose count is bounded. -/
namespace GX
open PySem PySem.Spec PyProof.Rows L2
structure Wt (H : Hp) (W C : Addr) (t : Nat) : Prop where
  ex : ∃ (ns : List Int) (a b : Int), H W = some (.lst [.ref C, .int a, .int b]) ∧ H C = some (.lst (ns.map V.int)) ∧ ns.length ≤ 64 ∧ 0 ≤ b ∧ b ≤ (t : Int)
  ne : W ≠ C
theorem Wt.wd {H : Hp} {W C : Addr} {t : Nat} (h : Wt H W C t) : Wd H W C := by
  obtain ⟨⟨ns, a, b, e1, e2, l, _⟩, ne⟩ := h
  exact ⟨⟨ns, a, b, e1, e2, l⟩, ne⟩
theorem Wt.le {H : Hp} {W C : Addr} {t u : Nat} (h : Wt H W C t) (l : t ≤ u) : Wt H W C u := by
  obtain ⟨⟨ns, a, b, e1, e2, l1, l2, l3⟩, ne⟩ := h
  exact ⟨⟨ns, a, b, e1, e2, l1, l2, by omega⟩, ne⟩
theorem Wt.same {H H' : Hp} {W C : Addr} {t : Nat} (h : Wt H W C t) (s : Same H H') : Wt H' W C t := by
  obtain ⟨⟨ns, a, c, e1, e2, l⟩, ne⟩ := h
  exact ⟨⟨ns, a, c, s _ _ e1, s _ _ e2, l⟩, ne⟩
theorem Wt.keep {X : List Addr} {H H' : Hp} {W C : Addr} {t : Nat} (h : Wt H W C t) (k : Keep X H H') (n : W ∉ X) (m : C ∉ X) : Wt H' W C t := by
  obtain ⟨⟨ns, a, c, e1, e2, l⟩, ne⟩ := h
  exact ⟨⟨ns, a, c, k _ _ e1 n, k _ _ e2 m, l⟩, ne⟩
theorem Wt.put {H : Hp} {W C l : Addr} {t : Nat} {o : HO} (h : Wt H W C t) (n : l ≠ W ∧ l ≠ C) : Wt (upd H l o) W C t := by
  obtain ⟨⟨ns, a, c, e1, e2, z⟩, ne⟩ := h
  exact ⟨⟨ns, a, c, by rw [upd_ne (Ne.symm n.1)]; exact e1, by rw [upd_ne (Ne.symm n.2)]; exact e2, z⟩, ne⟩
/-- the deck stands, all else is kept -/
structure Wkt (W C : Addr) (t : Nat) (H H' : Hp) : Prop where
  wl : Wt H' W C t
  kp : Keep [W, C] H H'
theorem Wkt.wk {W C : Addr} {t : Nat} {H H' : Hp} (s : Wkt W C t H H') : Wk2 W C H H' := ⟨s.wl.wd, s.kp⟩
theorem Wkt.le {W C : Addr} {t u : Nat} {H H' : Hp} (s : Wkt W C t H H') (l : t ≤ u) : Wkt W C u H H' := ⟨s.wl.le l, s.kp⟩
theorem Wkt.nxt {W C : Addr} {t u : Nat} {H H1 H2 : Hp} (s : Wkt W C t H H1) (r : Wkt W C u H1 H2) : Wkt W C u H H2 := ⟨r.wl, s.kp.trans r.kp⟩
theorem Wkt.same {W C : Addr} {t : Nat} {H H1 H2 : Hp} (s : Wkt W C t H H1) (e : Same H1 H2) : Wkt W C t H H2 := ⟨s.wl.same e, s.kp.trans (Same.keep e)⟩
theorem Wkt.new {W C : Addr} {t : Nat} {H H1 : Hp} {p : Addr} {o : HO} (s : Wkt W C t H H1) (n : H1 p = none) : Wkt W C t H (upd H1 p o) := s.same (Same.new n)
theorem Wkt.refl {W C : Addr} {t : Nat} {H : Hp} (h : Wt H W C t) : Wkt W C t H H := ⟨h, Keep.refl⟩
theorem Wkt.at_ {W C : Addr} {t : Nat} {H H' : Hp} {l : Addr} {o : HO} (k : Wkt W C t H H') (n : l ≠ W ∧ l ≠ C) (e : H l = some o) : H' l = some o := k.wk.at_ n e
theorem Wkt.was {W C : Addr} {t : Nat} {H H' : Hp} {l : Addr} (k : Wkt W C t H H') (n : H' l = none) : H l = none := k.wk.was n
theorem Wkt.put {W C : Addr} {t : Nat} {H H' : Hp} {l : Addr} {o : HO} (s : Wkt W C t H H') (nl : H l = none) (n : l ≠ W ∧ l ≠ C) : Wkt W C t H (upd H' l o) := ⟨s.wl.put n, (s.wk.put nl n).kp⟩
theorem Wt.new {H : Hp} {W C l : Addr} {t : Nat} (h : Wt H W C t) (n : H l = none) : l ≠ W ∧ l ≠ C := h.wd.new n
theorem Wt.tup {H H' : Hp} {W C : Addr} {t u : Nat} (h : Wt H W C t) (k : Wkt W C u H H') {b : Addr} {xs : List V} (e : H b = some (.tup xs)) : H' b = some (.tup xs) := h.wd.tup k.wk e
theorem Wt.gates {H H' : Hp} {W C : Addr} {t u : Nat} (h : Wt H W C t) (k : Wkt W C u H H') {ps : List Addr} {gs : List (Nat × Nat × Nat)} (x : GatesAt H ps gs) : GatesAt H' ps gs := x.mono fun b xs e => h.tup k e
/-- the deck, the tables stand; all else is kept -/
structure Dkt (W C : Addr) (t : Nat) (Ts : List Addr) (H H' : Hp) : Prop where
  wl : Wt H' W C t
  tb : Tabs Ts H'
  kp : Keep (W :: C :: Ts) H H'
theorem Dkt.dk {W C : Addr} {t : Nat} {Ts : List Addr} {H H1 : Hp} (d : Dkt W C t Ts H H1) : Dk2 W C Ts H H1 := ⟨d.wl.wd, d.tb, d.kp⟩
theorem Dkt.le {W C : Addr} {t u : Nat} {Ts : List Addr} {H H1 : Hp} (d : Dkt W C t Ts H H1) (l : t ≤ u) : Dkt W C u Ts H H1 := ⟨d.wl.le l, d.tb, d.kp⟩
theorem Dkt.refl {W C : Addr} {t : Nat} {Ts : List Addr} {H : Hp} (w : Wt H W C t) (tb : Tabs Ts H) : Dkt W C t Ts H H := ⟨w, tb, Keep.refl⟩
theorem Dkt.aft {W C : Addr} {t : Nat} {Ts : List Addr} {H H1 H2 : Hp} (d : Dkt W C t Ts H H1) (a : Aft Ts H1 H2) : Dkt W C t Ts H H2 := ⟨d.wl.keep a.kp (d.wl.wd.tabW d.tb) (d.wl.wd.tabC d.tb), a.tb, (d.dk.aft a).kp⟩
theorem Dkt.same {W C : Addr} {t : Nat} {Ts : List Addr} {H H1 H2 : Hp} (d : Dkt W C t Ts H H1) (s : Same H1 H2) : Dkt W C t Ts H H2 := d.aft (Aft.ofSame d.tb s)
theorem Dkt.draw {W C : Addr} {t u : Nat} {Ts : List Addr} {H H1 H2 : Hp} (d : Dkt W C t Ts H H1) (s : Wkt W C u H1 H2) : Dkt W C u Ts H H2 := ⟨s.wl, (d.dk.draw s.wk).tb, (d.dk.draw s.wk).kp⟩
theorem Dkt.put {W C : Addr} {t : Nat} {Ts : List Addr} {H H1 : Hp} {l : Addr} {o : HO} {xs : List V} (d : Dkt W C t Ts H H1) (nl : H l = none) (hl : H1 l = some (.lst xs)) (n : l ≠ W ∧ l ≠ C) : Dkt W C t Ts H (upd H1 l o) := ⟨d.wl.put n, (d.dk.put nl hl n).tb, (d.dk.put nl hl n).kp⟩
theorem Dkt.was {W C : Addr} {t : Nat} {Ts : List Addr} {H H1 : Hp} {l : Addr} (d : Dkt W C t Ts H H1) (n : H1 l = none) : H l = none := d.dk.was n
/-- what stood stands, but the deck -/
theorem Dkt.at_ {W C : Addr} {t : Nat} {Ts : List Addr} {H H1 : Hp} {l : Addr} {o : HO} (d : Dkt W C t Ts H H1) (n : l ≠ W ∧ l ≠ C) (m : l ∉ Ts) (e : H l = some o) : H1 l = some o := d.kp _ _ e fun z => by
  rcases List.mem_cons.mp z with z | z
  · exact n.1 z
  · rcases List.mem_cons.mp z with z | z
    · exact n.2 z
    · exact m z
end GX
set_option Elab.async false
set_option linter.all false
set_option maxRecDepth 100000
set_option maxHeartbeats 4000000
namespace K24
open PySem PySem.Spec PyProof.Rows L2 GX
open C8 (Cal pe_c pe_gc Met Mak)
section
/-- depths, so far -/
structure DepsTo (n : Net) (k : Nat) (ds : List Nat) : Prop where
  low : ∀ x, x < n.many → x < ds.length → ds.getD x 0 = 0
  at_ : ∀ g, n.many ≤ g → g < ds.length → (∃ c, LC n k g c ∧ ds.getD g 0 = 1 + maxL (c.map fun x => ds.getD x 0)) ∧ ∀ c, LC n k g c → ds.getD g 0 ≤ 1 + maxL (c.map fun x => ds.getD x 0)
end
section
variable {P : Program} {w : World} {K : PySem.W.Frag} {mg : Str → Option Value} {base : Heap}
/-! ### the deck -/
def spDraw : Sp := fun vs H Q _ => ∃ (W C : Addr) (m : Int) (t : Nat), vs = [.ref W, .int m] ∧ Wt H W C t ∧ t ≤ 1000000 ∧ 0 < m ∧ m < 1073741824 ∧ ∀ d H', 0 ≤ d → d < m → Wkt W C (t + 1) H H' → Q (.int d) H'
theorem ok_draw {f c : Addr} (D : Dfn K mg "_law_draw" s__law_draw f c) (T : Txt mg) : Cal P w K mg base 1 "_law_draw" spDraw [] := by
  refine cal D (fun _ _ _ _ _ _ us hl => match us, hl with | [_, _], _ => rfl) sc__law_draw (fun vs H Q E h => ?_) (fun A outer s H vs Q E hr h => ?_)
  · obtain ⟨W, C, m, t, rfl, _⟩ := h
    rfl
  · obtain ⟨W, C, m, t, rfl, ⟨⟨ns, a, b, hW, hC, hl, b0, bt⟩, ne⟩, ht, hm0, hm1, q⟩ := h
    refine ⟨_, (pss_cons (ps_asg (pe_op op_add (pe_ix ix_list (pv 0) pe_int (fun _ _ => rfl)) pe_int) (pg_sub (pv 0) pe_int set_list))
      (pss_cons (ps_set (i := 2) sc__law_draw.nd rfl (by first | exact Or.inl rfl | exact Or.inr rfl) (pe_ix ix_list (pv 0) pe_int (fun _ _ => rfl)))
      (pss_cons (ps_if (pt_cmpR (op_neD hr.units) (pe_ix ix_list (pv 0) pe_int (fun _ _ => rfl)) (pe_lst pa_nil) (nomark _)) (pss_cons (ps_set (i := 2) sc__law_draw.nd rfl (by first | exact Or.inl rfl | exact Or.inr rfl) (pe_bm0 PySem.F.plainAttrs_list PySem.F.slot_list_pop PySem.F.type_list_pop mt_pop (pe_ix ix_list (pv 0) pe_int (fun _ _ => rfl))))
      (pss_one (ps_if (pt_cmpR op_ge (pv 2) (pe_op op_pow pe_int pe_int) (nomark _)) (pss_cons (ps_expr (pe_bm PySem.F.plainAttrs_list PySem.F.slot_list_append PySem.F.type_list_append mt_append (pe_ix ix_list (pv 0) pe_int (fun _ _ => rfl)) (pa_cons (pe_op op_fdiv (pv 2) (pv 1)) pa_nil)))
      (pss_one (ps_ret (pe_op op_mod (pv 2) (pv 1))))) pss_nil))) pss_nil)
      (pss_cons (ps_set (i := 3) sc__law_draw.nd rfl (by first | exact Or.inl rfl | exact Or.inr rfl) (pe_op op_mod (pe_op op_mul (pe_op op_add (pe_op op_mod (pv 2) pe_int) pe_int) (pe_op op_add (pe_op op_mul (pe_ix ix_list (pv 0) pe_int (fun _ _ => rfl)) (pe_ix ix_list (pv 0) pe_int (fun _ _ => rfl))) pe_int)) pe_int))
      (pss_cons (ps_set (i := 3) sc__law_draw.nd rfl (by first | exact Or.inl rfl | exact Or.inr rfl) (pe_op op_mod (pe_op op_pow (pv 3) pe_int) pe_int))
      (pss_cons (ps_set (i := 3) sc__law_draw.nd rfl (by first | exact Or.inl rfl | exact Or.inr rfl) (pe_op op_mod (pe_op op_add (pe_op op_add (pe_op op_mul (pv 3) pe_int) (pe_op op_mul pe_int (pe_ix ix_list (pv 0) pe_int (fun _ _ => rfl)))) pe_int) pe_int))
      (pss_cons (ps_set (i := 3) sc__law_draw.nd rfl (by first | exact Or.inl rfl | exact Or.inr rfl) (pe_op op_mod (pe_op op_mul (pv 3) (pe_op op_add (pe_op op_fdiv (pv 3) pe_int) pe_int)) pe_int))
      (pss_one (ps_ret (pe_op op_mod (pe_op op_fdiv (pe_op op_mod (pe_op op_mul (pv 3) pe_int) pe_int) pe_int) (pv 1))))))))))), ?_⟩
    refine ⟨_, rfl, W, _, 2, _, rfl, rfl, SqL.of hW, at2, _, _, rfl, rfl, _, rfl, W, _, 2, 2, rfl, rfl, hW, rfl, ?_⟩
    have hW1 : (upd H W (.lst ([.ref C, .int a, .int b].set 2 (.int (b + 1))))) W = some (.lst [.ref C, .int a, .int (b + 1)]) := upd_same
    have hC1 : (upd H W (.lst ([.ref C, .int a, .int b].set 2 (.int (b + 1))))) C = some (.lst (ns.map V.int)) := by rw [upd_ne (Ne.symm ne)]; exact hC
    have k1 : Keep [W, C] H (upd H W (.lst ([.ref C, .int a, .int b].set 2 (.int (b + 1))))) := Keep.put List.mem_cons_self
    generalize (upd H W (.lst ([.ref C, .int a, .int b].set 2 (.int (b + 1))))) = H1 at hW1 hC1 k1 ⊢
    refine ⟨_, rfl, W, _, 1, _, rfl, rfl, SqL.of hW1, at1, ?_⟩
    refine ⟨_, rfl, W, _, 0, _, rfl, rfl, SqL.of hW1, at0, small 0, fun z nz => ?_⟩
    have e2 := Same.new (o := .lst []) nz
    refine ⟨.list (ns.map PyData.int), .list [], .lst (SqL.of (e2 _ _ hC1)) (dpInt K _ _), .lst (SqL.of upd_same) .nil, PySem.W.ke_shaped_ints ns, by decide, _, rfl, ?_⟩
    have hW2 := e2 _ _ hW1
    have hC2 := e2 _ _ hC1
    have k2 : Keep [W, C] H (upd H1 z (.lst [])) := k1.trans (Same.keep e2)
    generalize upd H1 z (.lst []) = H2 at e2 hW2 hC2 k2 ⊢
    refine ite2 (fun g => ?_) (fun g => ?_)
    · have g' : ns.length ≠ 0 := fun z => by
        have : PyData.eqv (.list (ns.map PyData.int)) (.list []) = true := by
          show PyData.eqvAll _ [] = true
          rw [eqvAllN, List.length_map]
          exact decide_eq_true z
        rw [this] at g
        cases g
      obtain ⟨ms, x, rfl⟩ : ∃ ms x, ns = ms ++ [x] := ⟨ns.dropLast, ns.getLast (fun z => g' (by rw [z]; rfl)), (List.dropLast_concat_getLast _).symm⟩
      have el : ((ms ++ [x]).map V.int)[((ms ++ [x]).map V.int).length - 1]? = some (.int x) := by
        rw [List.map_append, List.length_append, List.length_map]
        show (ms.map V.int ++ [V.int x])[ms.length + 1 - 1]? = _
        rw [List.getElem?_append_right (by rw [List.length_map]; omega), List.length_map, Nat.add_sub_cancel, Nat.sub_self]
        rfl
      have ed : ((ms ++ [x]).map V.int).dropLast = ms.map V.int := by
        rw [List.map_append]
        exact List.dropLast_concat
      refine ⟨_, rfl, W, _, 0, _, rfl, rfl, SqL.of hW2, at0, .inl ⟨rfl, _, SqL.of hC2⟩, C, _, _, rfl, rfl, hC2, el, ?_⟩
      rw [ed]
      have hW3 : (upd H2 C (.lst (ms.map V.int))) W = some (.lst [.ref C, .int a, .int (b + 1)]) := by rw [upd_ne ne]; exact hW2
      have hC3 : (upd H2 C (.lst (ms.map V.int))) C = some (.lst (ms.map V.int)) := upd_same
      have k3 : Keep [W, C] H (upd H2 C (.lst (ms.map V.int))) := k2.trans (Keep.put (List.mem_cons_of_mem _ List.mem_cons_self))
      have hl3 : ms.length + 1 ≤ 64 := by rw [List.length_append] at hl; exact hl
      generalize upd H2 C (.lst (ms.map V.int)) = H3 at hW3 hC3 k3 ⊢
      refine ⟨_, rfl, _, _, rfl, rfl, ⟨by decide, by decide, by decide⟩, _, _, rfl, rfl, _, rfl, ite2 (fun g2 => ?_) (fun g2 => ?_)⟩
      · refine ⟨_, rfl, W, _, 0, _, rfl, rfl, SqL.of hW3, at0, .inl ⟨rfl, _, SqL.of hC3⟩, _, rfl, _, rfl, _, _, rfl, rfl, ⟨hm0, hm1⟩, C, _, _, rfl, rfl, hC3, by rw [List.length_map]; exact len64 (by omega), ?_⟩
        refine ⟨_, rfl, _, rfl, _, _, rfl, rfl, hm0, ?_⟩
        refine q _ _ (Int.emod_nonneg _ (by omega)) (Int.emod_lt_of_pos _ hm0) ⟨⟨⟨ms ++ [x / m], _, _, by rw [upd_ne ne]; exact hW3, by rw [upd_same, List.map_append]; rfl, by rw [List.length_append]; exact hl3, by omega, by omega⟩, ne⟩, k3.trans (Keep.put (List.mem_cons_of_mem _ List.mem_cons_self))⟩
      · refine ⟨_, rfl, _, _, rfl, rfl, (by show (0 : Int) < 2147483587; decide), _, _, rfl, rfl, _, rfl, W, _, 2, _, rfl, rfl, SqL.of hW3, at2, _, rfl, W, _, 2, _, rfl, rfl, SqL.of hW3, at2, _, _, rfl, rfl, .inl (by omega), _, _, rfl, rfl, _, _, rfl, rfl, .inl (by omega), _, _, rfl, rfl, (by show (0 : Int) < 2147483647; decide), ?_⟩
        have b1 := Int.emod_nonneg ((x % 2147483587 + 1) * ((b + 1) * (b + 1) + 48271)) (show (2147483647 : Int) ≠ 0 by decide)
        have b2 := Int.emod_lt_of_pos ((x % 2147483587 + 1) * ((b + 1) * (b + 1) + 48271)) (show (0 : Int) < 2147483647 by decide)
        generalize ((x % 2147483587 + 1) * ((b + 1) * (b + 1) + 48271)) % 2147483647 = n1 at b1 b2 ⊢
        refine ⟨_, rfl, _, _, rfl, rfl, ⟨by decide, by decide, by omega⟩, _, _, rfl, rfl, (by show (0 : Int) < 2147483629; decide), ?_⟩
        have b3 := Int.emod_nonneg (n1 ^ (3 : Int).toNat) (show (2147483629 : Int) ≠ 0 by decide)
        have b4 := Int.emod_lt_of_pos (n1 ^ (3 : Int).toNat) (show (0 : Int) < 2147483629 by decide)
        generalize n1 ^ (3 : Int).toNat % 2147483629 = n2 at b3 b4 ⊢
        refine ⟨_, rfl, _, _, rfl, rfl, .inl (by omega), _, rfl, W, _, 2, _, rfl, rfl, SqL.of hW3, at2, _, _, rfl, rfl, .inl (by omega), _, _, rfl, rfl, _, _, rfl, rfl, _, _, rfl, rfl, (by show (0 : Int) < 2147483579; decide), ?_⟩
        have b5 := Int.emod_nonneg (n2 * 39373 + 69621 * (b + 1) + 7919) (show (2147483579 : Int) ≠ 0 by decide)
        have b6 := Int.emod_lt_of_pos (n2 * 39373 + 69621 * (b + 1) + 7919) (show (0 : Int) < 2147483579 by decide)
        generalize (n2 * 39373 + 69621 * (b + 1) + 7919) % 2147483579 = n3 at b5 b6 ⊢
        refine ⟨_, rfl, _, rfl, _, _, rfl, rfl, ⟨by decide, by decide⟩, _, _, rfl, rfl, _, _, rfl, rfl, .inl (by omega), _, _, rfl, rfl, (by show (0 : Int) < 2147483563; decide), ?_⟩
        have b7 := Int.emod_nonneg (n3 * (n3 / 5 + 11)) (show (2147483563 : Int) ≠ 0 by decide)
        have b8 := Int.emod_lt_of_pos (n3 * (n3 / 5 + 11)) (show (0 : Int) < 2147483563 by decide)
        generalize (n3 * (n3 / 5 + 11)) % 2147483563 = n4 at b7 b8 ⊢
        refine ⟨_, rfl, _, _, rfl, rfl, .inl (by omega), _, _, rfl, rfl, (by show (0 : Int) < 2305843009213693951; decide), _, _, rfl, rfl, ⟨by decide, by decide⟩, _, rfl, _, _, rfl, rfl, hm0, ?_⟩
        exact q _ _ (Int.emod_nonneg _ (by omega)) (Int.emod_lt_of_pos _ hm0) ⟨⟨⟨ms, _, _, hW3, hC3, by omega, by omega, by omega⟩, ne⟩, k3⟩
    · refine ⟨_, rfl, _, _, rfl, rfl, (by show (0 : Int) < 2147483587; decide), _, _, rfl, rfl, _, rfl, W, _, 2, _, rfl, rfl, SqL.of hW2, at2, _, rfl, W, _, 2, _, rfl, rfl, SqL.of hW2, at2, _, _, rfl, rfl, .inl (by omega), _, _, rfl, rfl, _, _, rfl, rfl, .inl (by omega), _, _, rfl, rfl, (by show (0 : Int) < 2147483647; decide), ?_⟩
      have b1 := Int.emod_nonneg ((a % 2147483587 + 1) * ((b + 1) * (b + 1) + 48271)) (show (2147483647 : Int) ≠ 0 by decide)
      have b2 := Int.emod_lt_of_pos ((a % 2147483587 + 1) * ((b + 1) * (b + 1) + 48271)) (show (0 : Int) < 2147483647 by decide)
      generalize ((a % 2147483587 + 1) * ((b + 1) * (b + 1) + 48271)) % 2147483647 = n1 at b1 b2 ⊢
      refine ⟨_, rfl, _, _, rfl, rfl, ⟨by decide, by decide, by omega⟩, _, _, rfl, rfl, (by show (0 : Int) < 2147483629; decide), ?_⟩
      have b3 := Int.emod_nonneg (n1 ^ (3 : Int).toNat) (show (2147483629 : Int) ≠ 0 by decide)
      have b4 := Int.emod_lt_of_pos (n1 ^ (3 : Int).toNat) (show (0 : Int) < 2147483629 by decide)
      generalize n1 ^ (3 : Int).toNat % 2147483629 = n2 at b3 b4 ⊢
      refine ⟨_, rfl, _, _, rfl, rfl, .inl (by omega), _, rfl, W, _, 2, _, rfl, rfl, SqL.of hW2, at2, _, _, rfl, rfl, .inl (by omega), _, _, rfl, rfl, _, _, rfl, rfl, _, _, rfl, rfl, (by show (0 : Int) < 2147483579; decide), ?_⟩
      have b5 := Int.emod_nonneg (n2 * 39373 + 69621 * (b + 1) + 7919) (show (2147483579 : Int) ≠ 0 by decide)
      have b6 := Int.emod_lt_of_pos (n2 * 39373 + 69621 * (b + 1) + 7919) (show (0 : Int) < 2147483579 by decide)
      generalize (n2 * 39373 + 69621 * (b + 1) + 7919) % 2147483579 = n3 at b5 b6 ⊢
      refine ⟨_, rfl, _, rfl, _, _, rfl, rfl, ⟨by decide, by decide⟩, _, _, rfl, rfl, _, _, rfl, rfl, .inl (by omega), _, _, rfl, rfl, (by show (0 : Int) < 2147483563; decide), ?_⟩
      have b7 := Int.emod_nonneg (n3 * (n3 / 5 + 11)) (show (2147483563 : Int) ≠ 0 by decide)
      have b8 := Int.emod_lt_of_pos (n3 * (n3 / 5 + 11)) (show (0 : Int) < 2147483563 by decide)
      generalize (n3 * (n3 / 5 + 11)) % 2147483563 = n4 at b7 b8 ⊢
      refine ⟨_, rfl, _, _, rfl, rfl, .inl (by omega), _, _, rfl, rfl, (by show (0 : Int) < 2305843009213693951; decide), _, _, rfl, rfl, ⟨by decide, by decide⟩, _, rfl, _, _, rfl, rfl, hm0, ?_⟩
      exact q _ _ (Int.emod_nonneg _ (by omega)) (Int.emod_lt_of_pos _ hm0) ⟨⟨⟨ns, _, _, hW2, hC2, hl, by omega, by omega⟩, ne⟩, k2⟩
def spDeck (K : PySem.W.Frag) : Sp := fun vs H Q _ => ∃ (a : Addr) (ns : List Int), vs = [.ref a] ∧ SqL K H a (ns.map V.int) ∧ ns.length ≤ 63 ∧ ∀ p C H', H p = none → H C = none → Wt H' p C 0 → Same H H' → Q (.ref p) H'
theorem ok_deck {f c : Addr} (D : Dfn K mg "_law_deck" s__law_deck f c) (T : Txt mg) : Cal P w K mg base 1 "_law_deck" (spDeck K) [] := by
  refine cal D (fun _ _ _ _ _ _ us hl => match us, hl with | [_], _ => rfl) sc__law_deck (fun vs H Q E h => ?_) (fun A outer s H vs Q E hr h => ?_)
  · obtain ⟨a, ns, rfl, _⟩ := h
    rfl
  · obtain ⟨a, ns, rfl, hS, hl, q⟩ := h
    refine ⟨_, (pss_cons (ps_set (i := 1) sc__law_deck.nd rfl (by first | exact Or.inl rfl | exact Or.inr rfl) (pe_callTy call_list_of (by rfl) T.b_list (by decide +kernel) (pa_cons (pe_slice sl_list (pv 0) po_none (po_some pe_int)) pa_nil)))
      (pss_one (ps_ret (pe_lst (pa_cons (pe_revL (pv 1)) (pa_cons (pe_op op_add (pe_op op_mod (pe_callB (cr_sum rfl) (by rfl) T.b_sum (by decide +kernel) (pa_cons (pv 1) pa_nil)) pe_int) (pe_op op_mul pe_int (pe_callB call_len_seq (by rfl) T.b_len (by decide +kernel) (pa_cons (pv 1) pa_nil)))) (pa_cons pe_int pa_nil))))))), ?_⟩
    refine ⟨_, rfl, 63, rfl, ?_⟩
    refine ⟨a, _, rfl, hS, fun p np => ?_⟩
    have e1 := Same.new (o := .lst (cutV (ns.map V.int) none (some 63))) np
    have ec : cutV (ns.map V.int) none (some 63) = ns.map V.int := by
      rw [show (some (63 : Int)) = some ((63 : Nat) : Int) from rfl, cut_hi, List.take_of_length_le (by rw [List.length_map]; exact hl)]
    rw [ec] at e1 ⊢
    refine ⟨p, _, rfl, .inl (SqL.of upd_same), fun L nL => ?_⟩
    have e2 := e1.trans (Same.new (o := .lst (ns.map V.int)) nL)
    have hL : (upd (upd H p (.lst (ns.map V.int))) L (.lst (ns.map V.int))) L = some (.lst (ns.map V.int)) := upd_same
    generalize upd (upd H p (.lst (ns.map V.int))) L (.lst (ns.map V.int)) = H1 at e2 hL ⊢
    refine ⟨_, rfl, L, _, rfl, SqL.of hL, fun C nC => ?_⟩
    have e3 := Same.new (o := .lst (ns.map V.int).reverse) nC
    have hC : upd H1 C (.lst (ns.map V.int).reverse) C = some (.lst (ns.reverse.map V.int)) := by rw [upd_same, List.map_reverse]
    have hL2 := e3 _ _ hL
    have sm := e2.trans e3
    have C0 : H C = none := by
      cases e : H C with
      | none => rfl
      | some u =>
        have := e2 _ _ e
        rw [nC] at this
        cases this
    generalize upd H1 C (.lst (ns.map V.int).reverse) = H2 at sm hC hL2 ⊢
    refine ⟨_, rfl, L, ns, rfl, SqL.of hL2, _, _, rfl, rfl, (by show (0 : Int) < 2147483629; decide), _, rfl, L, _, rfl, .inl (SqL.of hL2), _, _, rfl, rfl, .inl (by omega), _, _, rfl, rfl, small 3, fun W nW => ?_⟩
    have e4 := Same.new (o := .lst [.ref C, .int (ns.sum % 2147483629 + 31 * (((ns.map V.int).length : Nat) : Int)), .int 0]) nW
    have W0 : H W = none := by
      cases e : H W with
      | none => rfl
      | some u =>
        have := sm _ _ e
        rw [nW] at this
        cases this
    exact q W C _ W0 C0 ⟨⟨ns.reverse, _, _, upd_same, e4 _ _ hC, by rw [List.length_reverse]; omega, by omega, by omega⟩, fun z => by rw [z, hC] at nW; cases nW⟩ (sm.trans e4)
end
section
variable {P : Program} {w : World} {K : PySem.W.Frag} {mg : Str → Option Value} {base : Heap}
def spGate : Sp := fun vs H Q _ => ∃ (W C : Addr) (many wire : Nat) (way : Int) (t : Nat), vs = [.ref W, nV many, nV wire, .int way] ∧ Wt H W C t ∧ t ≤ 900000 ∧ 1 ≤ wire ∧ wire ≤ 1000 ∧ many ≤ 1000 ∧ 0 ≤ way ∧ way < 4 ∧
  ∀ p H' (g : Nat × Nat × Nat), g.1 < 16 → g.2.1 < wire → g.2.2 < wire → H' p = some (.tup (gV g)) → Wkt W C (t + 4) H H' → H p = none → Q (.ref p) H'
theorem ok_gate {f c : Addr} (D : Dfn K mg "_law_gate" s__law_gate f c) (T : Txt mg) (c__law_draw : Cal P w K mg base 1 "_law_draw" spDraw []) : Cal P w K mg base 2 "_law_gate" spGate [] := by
  refine cal D (fun _ _ _ _ _ _ us hl => match us, hl with | [_, _, _, _], _ => rfl) sc__law_gate (fun vs H Q E h => ?_) (fun A outer s H vs Q E hr h => ?_)
  · obtain ⟨W, C, many, wire, way, t, rfl, _⟩ := h
    rfl
  · obtain ⟨W, C, many, wire, way, t, rfl, wl, ht, hw1, hw2, hm, y0, y4, q⟩ := h
    refine ⟨_, (pss_cons (ps_set (i := 4) sc__law_gate.nd rfl (by first | exact Or.inl rfl | exact Or.inr rfl) (pe_ix ix_list (pe_lst (pa_cons (pv 2) (pa_cons (pe_callB (call_min2 rfl) (by rfl) T.b_min (by decide +kernel) (pa_cons (pv 2) (pa_cons pe_int pa_nil))) (pa_cons (pe_callB (call_min2 rfl) (by rfl) T.b_min (by decide +kernel) (pa_cons (pv 2) (pa_cons (pe_op op_add (pv 1) pe_int) pa_nil))) (pa_cons (pv 2) pa_nil))))) (pv 3) (fun _ _ => rfl)))
      (pss_cons (ps_set (i := 5) sc__law_gate.nd rfl (by first | exact Or.inl rfl | exact Or.inr rfl) (pe_cmpR op_eq (pe_c c__law_draw hr (by decide) (by rfl) (pa_cons (pv 0) (pa_cons pe_int pa_nil))) pe_int (nomark _)))
      (pss_cons (ps_set (i := 6) sc__law_gate.nd rfl (by first | exact Or.inl rfl | exact Or.inr rfl) (pe_op op_sub (pe_op op_sub (pv 2) pe_int) (pe_c c__law_draw hr (by decide) (by rfl) (pa_cons (pv 0) (pa_cons (pe_ix ix_list (pe_lst (pa_cons (pv 4) (pa_cons pe_int pa_nil))) (pe_callTy call_int1 (by rfl) T.b_int (by decide +kernel) (pa_cons (pe_cmpR op_eq (pv 3) pe_int (nomark _)) pa_nil)) (fun _ _ => rfl)) pa_nil)))))
      (pss_cons (ps_set (i := 7) sc__law_gate.nd rfl (by first | exact Or.inl rfl | exact Or.inr rfl) (pe_op op_sub (pe_op op_sub (pv 2) pe_int) (pe_c c__law_draw hr (by decide) (by rfl) (pa_cons (pv 0) (pa_cons (pv 4) pa_nil)))))
      (pss_one (ps_ret (pe_tup (pa_cons (pe_c c__law_draw hr (by decide) (by rfl) (pa_cons (pv 0) (pa_cons pe_int pa_nil))) (pa_cons (pv 6) (pa_cons (pe_ix ix_list (pe_lst (pa_cons (pv 7) (pa_cons (pv 6) pa_nil))) (pe_callTy call_int1 (by rfl) T.b_int (by decide +kernel) (pa_cons (pv 5) pa_nil)) (fun _ _ => rfl)) pa_nil)))))))))), ?_⟩
    refine ⟨_, rfl, _, rfl, _, _, rfl, _, rfl, _, rfl, _, _, rfl, rfl, _, _, rfl, _, rfl, small 4, fun l nl => ?_⟩
    obtain ⟨r, er, r1, r2⟩ : ∃ r : Int, atI [nV wire, V.int (if (3 : Int) < ((wire : Nat) : Int) then 3 else ((wire : Nat) : Int)), V.int (if ((many : Nat) : Int) + 1 < ((wire : Nat) : Int) then ((many : Nat) : Int) + 1 else ((wire : Nat) : Int)), nV wire] way = some (.int r) ∧ 1 ≤ r ∧ r ≤ ((wire : Nat) : Int) := by
      rcases (by omega : way = 0 ∨ way = 1 ∨ way = 2 ∨ way = 3) with e | e | e | e <;> subst e
      · exact ⟨_, at0, by omega, by omega⟩
      · exact ⟨_, at1, by split <;> omega, by split <;> omega⟩
      · exact ⟨_, at2, by split <;> omega, by split <;> omega⟩
      · exact ⟨_, atI_nat (j := 3) rfl, by omega, by omega⟩
    refine ⟨_, rfl, l, _, _, .int r, rfl, rfl, SqL.of upd_same, er, ?_⟩
    have s1 : Wkt W C t H (upd H l _) := (Wkt.refl wl).new (o := .lst [nV wire, V.int (if (3 : Int) < ((wire : Nat) : Int) then 3 else ((wire : Nat) : Int)), V.int (if ((many : Nat) : Int) + 1 < ((wire : Nat) : Int) then ((many : Nat) : Int) + 1 else ((wire : Nat) : Int)), nV wire]) nl
    refine ⟨_, rfl, W, C, 8, t, rfl, s1.wl, by omega, by decide, by decide, fun dt H2 _ _ k2 => ⟨rfl, ?_⟩⟩
    have s2 := s1.nxt k2
    refine ⟨_, rfl, _, _, rfl, rfl, _, rfl, _, rfl, small 2, fun l3 n3 => ?_⟩
    have s3 := s2.new (o := .lst [.int r, .int 1]) n3
    have h33 : upd H2 l3 (.lst [.int r, .int 1]) l3 = some (.lst [.int r, .int 1]) := upd_same
    generalize upd H2 l3 (.lst [.int r, .int 1]) = H3 at s3 h33 ⊢
    obtain ⟨m1, em1, m10, m11⟩ : ∃ m1 : Int, (if decide (V.int way = V.int 3) = true then V.int 1 else V.int r) = V.int m1 ∧ 1 ≤ m1 ∧ m1 ≤ ((wire : Nat) : Int) := by
      split
      · exact ⟨_, rfl, by omega, by omega⟩
      · exact ⟨_, rfl, r1, r2⟩
    refine ⟨_, rfl, rfl, .inr ⟨_, rfl, l3, _, _, .int m1, rfl, rfl, SqL.of h33, (by rw [atIf]; exact congrArg some em1), ?_⟩⟩
    refine ⟨W, C, m1, t + 1, rfl, s3.wl, by omega, by omega, by omega, fun d1 H4 d10 d11 k4 => ⟨_, _, rfl, rfl, ?_⟩⟩
    have s4 := s3.nxt k4
    refine ⟨_, rfl, _, _, rfl, rfl, _, rfl, _, rfl, W, C, r, t + 1 + 1, rfl, s4.wl, by omega, by omega, by omega, fun d2 H5 d20 d21 k5 => ⟨_, _, rfl, rfl, ?_⟩⟩
    have s5 := s4.nxt k5
    refine ⟨_, rfl, W, C, 16, t + 1 + 1 + 1, rfl, s5.wl, by omega, by decide, by decide, fun kd H6 k60 k61 k6 => ?_⟩
    have s6 := s5.nxt k6
    refine ⟨_, rfl, _, rfl, _, rfl, small 2, fun l7 n7 => ?_⟩
    have s7 := s6.new (o := .lst [.int (((wire : Nat) : Int) - 1 - d2), .int (((wire : Nat) : Int) - 1 - d1)]) n7
    have h77 : upd H6 l7 (.lst [.int (((wire : Nat) : Int) - 1 - d2), .int (((wire : Nat) : Int) - 1 - d1)]) l7 = some (.lst [.int (((wire : Nat) : Int) - 1 - d2), .int (((wire : Nat) : Int) - 1 - d1)]) := upd_same
    generalize upd H6 l7 (.lst [.int (((wire : Nat) : Int) - 1 - d2), .int (((wire : Nat) : Int) - 1 - d1)]) = H7 at s7 h77 ⊢
    obtain ⟨o2, eo, o20, o21⟩ : ∃ o2 : Int, (if decide (V.int dt = V.int 3) = true then V.int (((wire : Nat) : Int) - 1 - d1) else V.int (((wire : Nat) : Int) - 1 - d2)) = V.int o2 ∧ 0 ≤ o2 ∧ o2 < ((wire : Nat) : Int) := by
      split
      · exact ⟨_, rfl, by omega, by omega⟩
      · exact ⟨_, rfl, by omega, by omega⟩
    refine ⟨_, rfl, .inr ⟨_, rfl, l7, _, _, .int o2, rfl, rfl, SqL.of h77, (by rw [atIf]; exact congrArg some eo), small 3, fun p np => ?_⟩⟩
    have s8 := s7.new (o := .tup [.int kd, .int (((wire : Nat) : Int) - 1 - d1), .int o2]) np
    refine q p _ (kd.toNat, (((wire : Nat) : Int) - 1 - d1).toNat, o2.toNat) (by show kd.toNat < 16; omega) (by show (((wire : Nat) : Int) - 1 - d1).toNat < wire; omega) (by show o2.toNat < wire; omega) ?_ s8 (s7.was np)
    rw [upd_same]
    show some (HO.tup [V.int kd, V.int (((wire : Nat) : Int) - 1 - d1), V.int o2]) = some (HO.tup [V.int (kd.toNat : Int), V.int ((((wire : Nat) : Int) - 1 - d1).toNat : Int), V.int (o2.toNat : Int)])
    rw [Int.toNat_of_nonneg k60, Int.toNat_of_nonneg (by omega), Int.toNat_of_nonneg o20]
def spNet : Sp := fun vs H Q _ => ∃ (W C : Addr) (most gm t : Nat), vs = [.ref W, nV most, nV gm] ∧ Wt H W C t ∧ t ≤ 800000 ∧ 1 ≤ most ∧ most ≤ 8 ∧ gm ≤ 16 ∧ ∀ a n g o ps H', n.Ok → n.many ≤ most → n.gates.length ≤ gm → NetAt H' a n g o ps → Wkt W C (t + 200) H H' → Q (.ref a) H'
theorem ok_net {f c : Addr} (D : Dfn K mg "_law_net" s__law_net f c) (T : Txt mg) (c__law_draw : Cal P w K mg base 1 "_law_draw" spDraw []) (c__law_gate : Cal P w K mg base 2 "_law_gate" spGate []) : Cal P w K mg base 3 "_law_net" spNet [] := by
  refine cal D (fun _ _ _ _ _ _ us hl => match us, hl with | [_, _, _], _ => rfl) sc__law_net (fun vs H Q E h => ?_) (fun A outer s H vs Q E hr h => ?_)
  · obtain ⟨W, C, most, gm, t, rfl, _⟩ := h
    rfl
  · obtain ⟨W, C, most, gm, t, rfl, wl, ht, h1, h8, hg, q⟩ := h
    refine ⟨_, (pss_cons (ps_set (i := 3) sc__law_net.nd rfl (by first | exact Or.inl rfl | exact Or.inr rfl) (pe_c c__law_draw hr (by decide) (by rfl) (pa_cons (pv 0) (pa_cons pe_int pa_nil))))
      (pss_cons (ps_set (i := 4) sc__law_net.nd rfl (by first | exact Or.inl rfl | exact Or.inr rfl) (pe_op op_add pe_int (pe_c c__law_draw hr (by decide) (by rfl) (pa_cons (pv 0) (pa_cons (pv 1) pa_nil)))))
      (pss_cons (ps_set (i := 5) sc__law_net.nd rfl (by first | exact Or.inl rfl | exact Or.inr rfl) (pe_c c__law_draw hr (by decide) (by rfl) (pa_cons (pv 0) (pa_cons (pe_op op_add (pv 2) pe_int) pa_nil))))
      (pss_cons (ps_set (i := 6) sc__law_net.nd rfl (by first | exact Or.inl rfl | exact Or.inr rfl) (pe_lst pa_nil))
      (pss_cons (ps_for PassesOwn.never rfl (pi_range1 (by rfl) T.b_range (pa_cons (pv 5) pa_nil)) (pg_name (i := 7) sc__law_net.nd rfl (by first | exact Or.inl rfl | exact Or.inr rfl))
        (pss_one (ps_expr (pe_bm PySem.F.plainAttrs_list PySem.F.slot_list_append PySem.F.type_list_append mt_append (pv 6) (pa_cons (pe_c c__law_gate hr (by decide) (by rfl) (pa_cons (pv 0) (pa_cons (pv 4) (pa_cons (pe_op op_add (pv 4) (pv 7)) (pa_cons (pv 3) pa_nil))))) pa_nil)))))
      (pss_cons (ps_set (i := 8) sc__law_net.nd rfl (by first | exact Or.inl rfl | exact Or.inr rfl) (pe_lst pa_nil))
      (pss_cons (ps_for PassesOwn.never rfl (pi_range1 (by rfl) T.b_range (pa_cons (pe_op op_add pe_int (pe_c c__law_draw hr (by decide) (by rfl) (pa_cons (pv 0) (pa_cons (pe_ix ix_list (pe_lst (pa_cons pe_int (pa_cons pe_int pa_nil))) (pe_callTy call_int1 (by rfl) T.b_int (by decide +kernel) (pa_cons (pe_cmpR op_eq (pe_c c__law_draw hr (by decide) (by rfl) (pa_cons (pv 0) (pa_cons pe_int pa_nil))) pe_int (nomark _)) pa_nil)) (fun _ _ => rfl)) pa_nil)))) pa_nil)) (pg_name (i := 7) sc__law_net.nd rfl (by first | exact Or.inl rfl | exact Or.inr rfl))
        (pss_cons (ps_set (i := 9) sc__law_net.nd rfl (by first | exact Or.inl rfl | exact Or.inr rfl) (pe_c c__law_draw hr (by decide) (by rfl) (pa_cons (pv 0) (pa_cons (pe_ix ix_list (pe_lst (pa_cons (pe_callB (call_min2 rfl) (by rfl) T.b_min (by decide +kernel) (pa_cons pe_int (pa_cons (pe_op op_add (pv 4) (pv 5)) pa_nil))) (pa_cons (pe_op op_add (pv 4) (pv 5)) pa_nil))) (pe_c c__law_draw hr (by decide) (by rfl) (pa_cons (pv 0) (pa_cons pe_int pa_nil))) (fun _ _ => rfl)) pa_nil))))
      (pss_one (ps_expr (pe_bm PySem.F.plainAttrs_list PySem.F.slot_list_append PySem.F.type_list_append mt_append (pv 8) (pa_cons (pe_op op_sub (pe_op op_sub (pe_op op_add (pv 4) (pv 5)) pe_int) (pv 9)) pa_nil))))))
      (pss_one (ps_ret (pe_tup (pa_cons (pv 4) (pa_cons (pe_callTy call_tuple_of (by rfl) T.b_tuple (by decide +kernel) (pa_cons (pv 6) pa_nil)) (pa_cons (pe_callTy call_tuple_of (by rfl) T.b_tuple (by decide +kernel) (pa_cons (pv 8) pa_nil)) pa_nil))))))))))))), ?_⟩
    refine ⟨_, rfl, W, C, 4, t, rfl, wl, by omega, by decide, by decide, fun way H1 y0 y4 s1 => ?_⟩
    refine ⟨_, rfl, _, rfl, W, C, most, t + 1, rfl, s1.wl, by omega, by omega, by omega, fun m0 H2 m1 m2 k2 => ⟨_, _, rfl, rfl, ?_⟩⟩
    have s2 := s1.nxt k2
    refine ⟨_, rfl, _, rfl, _, _, rfl, rfl, W, C, gm + 1, t + 1 + 1, rfl, s2.wl, by omega, by omega, by omega, fun count H3 c0 c1 k3 => ?_⟩
    have s3 := s2.nxt k3
    refine ⟨small 0, fun l nl => ?_⟩
    have s4 := s3.new (o := .lst []) nl
    have nlW := s3.wl.new nl
    have nlH := s3.was nl
    obtain ⟨m, em⟩ : ∃ m : Nat, 1 + m0 = ((m : Nat) : Int) := ⟨(1 + m0).toNat, by omega⟩
    dsimp -proj only
    rw [em]
    refine ⟨_, rfl, _, rfl, by omega, by omega, ?_⟩
    refine for_range (lo := 0) (n := count.toNat) (fun i σ H' => ∃ (ps : List Addr) (gs : List (Nat × Nat × Nat)) (x7 : Option V), σ = [some (.ref W), some (nV most), some (nV gm), some (.int way), some (.int ((m : Nat) : Int)), some (.int count), some (.ref l), x7, none, none] ∧ Wkt W C (t + 3 + 4 * i) H H' ∧
      H' l = some (.lst (ps.map V.ref)) ∧ GatesAt H' ps gs ∧ gs.length = i ∧ ∀ (j : Nat) (g : Nat × Nat × Nat), gs[j]? = some g → gateOk m j g) ⟨[], [], none, rfl, s4, upd_same, GatesAt.nil _, rfl, fun j g e => by simp at e⟩ ?_ ?_
    · rintro i σ H5 hi ⟨ps, gs, x7, rfl, s5, hl, hgs, hlen, hok⟩
      have hi' : i < 16 := by omega
      refine ⟨_, rfl, .inl ⟨rfl, _, SqL.of hl⟩, _, rfl, _, rfl, _, rfl, _, rfl, _, _, rfl, rfl, _, rfl, W, C, m, m + i, way, t + 3 + 4 * i, (by rw [Int.zero_add]; rfl), s5.wl, by omega, by omega, by omega, by omega, y0, y4, fun p H6 g g1 g2 g3 hp k6 np => ?_⟩
      have s6 := s5.nxt k6
      have hl6 := k6.at_ nlW hl
      have hgs6 := s5.wl.gates k6 hgs
      refine ⟨l, _, _, rfl, rfl, hl6, by rw [List.length_map, hgs.1, hlen]; exact small1000 (by omega), ?_⟩
      refine ⟨ps ++ [p], gs ++ [g], _, rfl, (s6.put nlH nlW).le (by omega), by rw [upd_same, List.map_append]; rfl, (hgs6.mono (tupPut hl6)).push (tupPut hl6 _ _ hp), by rw [List.length_append, hlen]; rfl, fun j g' e => ?_⟩
      by_cases hj : j < gs.length
      · rw [List.getElem?_append_left hj] at e
        exact hok j g' e
      · rw [List.getElem?_append_right (by omega)] at e
        have hz : j - gs.length = 0 := by
          obtain ⟨h1, _⟩ := List.getElem?_eq_some_iff.mp e
          simp at h1
          omega
        rw [hz] at e
        cases e
        have ej : j = i := by omega
        rw [ej]
        exact ⟨g1, g2, g3⟩
    · rintro σ H5 ⟨ps, gs, x7, rfl, s5, hl, hgs, hlen, hok⟩
      -- outs
      refine ⟨small 0, fun lo nlo => ?_⟩
      have s6 := s5.new (o := .lst []) nlo
      have noW := s5.wl.new nlo
      have noH := s5.was nlo
      have nol : lo ≠ l := fun y => by
        rw [y, hl] at nlo
        cases nlo
      have e6 := Same.new (o := .lst []) nlo
      have hl6 := e6 _ _ hl
      have hgs6 := Same.gates e6 hgs
      have ho6 : upd H5 lo (.lst []) lo = some (.lst []) := upd_same
      generalize upd H5 lo (.lst []) = H6 at s6 hl6 hgs6 ho6 ⊢
      refine ⟨_, rfl, small 2, fun l2 n2 => ?_⟩
      have e7 := Same.new (o := .lst [.int 2, .int 8]) n2
      have s7 := s6.same e7
      have hl7 := e7 _ _ hl6
      have hgs7 := Same.gates e7 hgs6
      have ho7 := e7 _ _ ho6
      have h27 : upd H6 l2 (.lst [.int 2, .int 8]) l2 = some (.lst [.int 2, .int 8]) := upd_same
      have n2W := s6.wl.new n2
      generalize upd H6 l2 (.lst [.int 2, .int 8]) = H7 at s7 hl7 hgs7 ho7 h27 ⊢
      refine ⟨_, rfl, W, C, 4, _, rfl, s7.wl, by omega, by decide, by decide, fun cd H8 _ _ k8 => ⟨rfl, ?_⟩⟩
      have s8 := s7.nxt k8
      obtain ⟨m3, em3, m30, m31⟩ : ∃ m3 : Int, (if decide (V.int cd = V.int 1) = true then V.int 8 else V.int 2) = V.int m3 ∧ 1 ≤ m3 ∧ m3 ≤ 8 := by
        split
        · exact ⟨_, rfl, by decide, by decide⟩
        · exact ⟨_, rfl, by decide, by decide⟩
      refine .inr ⟨_, rfl, l2, _, _, .int m3, rfl, rfl, SqL.of (k8.at_ n2W h27), (by rw [atIf]; exact congrArg some em3), ?_⟩
      refine ⟨W, C, m3, _, rfl, s8.wl, by omega, by omega, by omega, fun more H9 r0 r1 k9 => ⟨_, _, rfl, rfl, _, rfl, by omega, by omega, ?_⟩⟩
      have s9 := s8.nxt k9
      refine for_range (lo := 0) (n := (1 + more).toNat) (fun i σ H' => ∃ (os : List Nat) (x7 x9 : Option V), σ = [some (.ref W), some (nV most), some (nV gm), some (.int way), some (.int ((m : Nat) : Int)), some (.int count), some (.ref l), x7, some (.ref lo), x9] ∧ Wkt W C (t + 100 + 2 * i) H H' ∧
        H' l = some (.lst (ps.map V.ref)) ∧ GatesAt H' ps gs ∧ H' lo = some (.lst (os.map nV)) ∧ os.length = i ∧ ∀ o ∈ os, o < m + gs.length) ⟨[], x7, none, rfl, s9.le (by omega), k9.at_ nlW (k8.at_ nlW hl7), s8.wl.gates k9 (s7.wl.gates k8 hgs7), k9.at_ noW (k8.at_ noW ho7), rfl, fun o ho => by cases ho⟩ ?_ ?_
      · rintro i σ H10 hi ⟨os, y7, y9, rfl, s10, hl10, hgs10, ho10, hol, hos⟩
        refine ⟨_, rfl, _, rfl, _, rfl, _, _, rfl, rfl, _, _, rfl, _, rfl, _, rfl, _, _, rfl, rfl, small 2, fun l11 n11 => ?_⟩
        have e11 := Same.new (o := .lst [.int (if ((m : Nat) : Int) + count < 3 then ((m : Nat) : Int) + count else 3), .int (((m : Nat) : Int) + count)]) n11
        have s11 := s10.same e11
        have n11W := s10.wl.new n11
        have hl11 := e11 _ _ hl10
        have hgs11 := Same.gates e11 hgs10
        have ho11 := e11 _ _ ho10
        have h11 : upd H10 l11 (.lst [.int (if ((m : Nat) : Int) + count < 3 then ((m : Nat) : Int) + count else 3), .int (((m : Nat) : Int) + count)]) l11 = some (.lst [.int (if ((m : Nat) : Int) + count < 3 then ((m : Nat) : Int) + count else 3), .int (((m : Nat) : Int) + count)]) := upd_same
        generalize upd H10 l11 (.lst [.int (if ((m : Nat) : Int) + count < 3 then ((m : Nat) : Int) + count else 3), .int (((m : Nat) : Int) + count)]) = H11 at s11 hl11 hgs11 ho11 h11 ⊢
        refine ⟨_, rfl, W, C, 2, _, rfl, s11.wl, by omega, by decide, by decide, fun d2 H12 d20 d21 k12 => ?_⟩
        have s12 := s11.nxt k12
        obtain ⟨m4, em4, m40, m41⟩ : ∃ m4 : Int, atI [V.int (if ((m : Nat) : Int) + count < 3 then ((m : Nat) : Int) + count else 3), V.int (((m : Nat) : Int) + count)] d2 = some (.int m4) ∧ 1 ≤ m4 ∧ m4 ≤ ((m : Nat) : Int) + count := by
          rcases (by omega : d2 = 0 ∨ d2 = 1) with e | e <;> subst e
          · exact ⟨_, at0, by split <;> omega, by split <;> omega⟩
          · exact ⟨_, at1, by omega, by omega⟩
        refine ⟨l11, _, _, .int m4, rfl, rfl, SqL.of (k12.at_ n11W h11), em4, ?_⟩
        refine ⟨W, C, m4, _, rfl, s12.wl, by omega, by omega, by omega, fun far H13 f0 f1 k13 => ?_⟩
        have s13 := s12.nxt k13
        have hl13 := k13.at_ nlW (k12.at_ nlW hl11)
        have ho13 := k13.at_ noW (k12.at_ noW ho11)
        have hgs13 := s12.wl.gates k13 (s11.wl.gates k12 hgs11)
        refine ⟨_, rfl, .inl ⟨rfl, _, SqL.of ho13⟩, _, rfl, _, rfl, _, _, rfl, rfl, _, _, rfl, rfl, _, rfl, _, _, rfl, rfl, lo, _, _, rfl, rfl, ho13, by rw [List.length_map, hol]; exact small1000 (by omega), ?_⟩
        obtain ⟨o, eo⟩ : ∃ o : Nat, ((m : Nat) : Int) + count - 1 - far = ((o : Nat) : Int) := ⟨(((m : Nat) : Int) + count - 1 - far).toNat, by omega⟩
        dsimp -proj only
        rw [eo]
        refine ⟨os ++ [o], _, _, rfl, (s13.put noH noW).le (by omega), ?_, hgs13.mono (tupPut ho13), ?_, by rw [List.length_append, hol]; rfl, fun o' ho' => ?_⟩
        · rw [upd_ne (Ne.symm nol)]
          exact hl13
        · rw [upd_same, List.map_append]
          rfl
        · rcases List.mem_append.mp ho' with ho' | ho'
          · exact hos o' ho'
          · rw [List.mem_singleton.mp ho']
            omega
      · rintro σ H10 ⟨os, y7, y9, rfl, s10, hl10, hgs10, ho10, hol, hos⟩
        refine ⟨_, rfl, _, rfl, l, _, rfl, .inl ⟨SqL.of hl10, fun g ng => ?_⟩⟩
        have e11 := Same.new (o := .tup (ps.map V.ref)) ng
        refine ⟨_, rfl, lo, _, rfl, .inl ⟨SqL.of (e11 _ _ ho10), fun o no => ?_⟩⟩
        have e12 := Same.new (o := .tup (os.map nV)) no
        refine ⟨small 3, fun a na => ?_⟩
        have e13 := Same.new (o := .tup [.int ((m : Nat) : Int), .ref g, .ref o]) na
        have hps : ps.length = gs.length := hgs10.1
        refine q a ⟨m, gs, os⟩ g o ps _ ⟨?_, ?_, ?_, ?_, ?_, ?_, ?_⟩ ?_ ?_ ⟨?_, ?_, ?_, ?_⟩ ((((s10.same e11).same e12).same e13).le (by omega))
        · show 1 ≤ m; omega
        · show m ≤ 8; omega
        · show gs.length ≤ 16; omega
        · exact hok
        · show 1 ≤ os.length; omega
        · show os.length ≤ 8; omega
        · exact hos
        · show m ≤ most; omega
        · show gs.length ≤ gm; omega
        · exact upd_same
        · exact e13 _ _ (e12 _ _ upd_same)
        · exact Same.gates e13 (Same.gates e12 (Same.gates e11 hgs10))
        · exact e13 _ _ upd_same
end
end K24
set_option Elab.async false
set_option linter.all false
set_option maxRecDepth 100000
set_option maxHeartbeats 4000000
/-! A list or a tuple of anything, held against an empty one. -/
namespace GX
open PySem PySem.Spec PyProof.Rows L2
def rEq0 (K : PySem.W.Frag) : R2 := fun x y H Q => ∃ (a b : Addr) (xs : List V), x = .ref a ∧ y = .ref b ∧ ((SqT K H a xs ∧ SqT K H b []) ∨ (SqL K H a xs ∧ SqL K H b [])) ∧ Q (.bl (decide (xs.length = 0))) H
def rNe0 (K : PySem.W.Frag) : R2 := fun x y H Q => ∃ (a b : Addr) (xs : List V), x = .ref a ∧ y = .ref b ∧ ((SqT K H a xs ∧ SqT K H b []) ∨ (SqL K H a xs ∧ SqL K H b [])) ∧ Q (.bl (!decide (xs.length = 0))) H
theorem vals_nil {its : List Value} (h : Vals [] its) : its = [] := by cases h; rfl
theorem op_eq0 {X : Cx} (hu : X.A.units < cLine) : OpR X (compareOp .Eq) (rEq0 X.K) := by
  intro pins s σ H x y v u Q I rx ry h
  obtain ⟨a, b, xs, rfl, rfl, hh, q⟩ := h
  cases rx
  cases ry
  rcases hh with ⟨ha, hb⟩ | ⟨ha, hb⟩
  · obtain ⟨its, r, ⟨o, e, c, n, d⟩, _⟩ := I.tuple ha
    obtain ⟨its2, r2, ⟨o2, e2, c2, n2, d2⟩, _⟩ := I.tuple hb
    obtain rfl := vals_nil r2
    have hl : its.length = xs.length := r.length.symm
    refine PySem.SeqAt.eq_tupleAt (items := its.toArray) (items2 := #[]) (e := fun _ => true) ⟨o, e, c, n, d⟩ ⟨o2, e2, c2, n2, d2⟩ hu (fun j h1 h2 => by simp at h2) ⟨.bl (decide (xs.length = 0)), H, I, ?_, q⟩
    show Value.bool _ = Value.bool _
    congr 1
    cases xs with
    | nil => simp [hl]
    | cons _ _ => simp [hl]
  · obtain ⟨its, r, ⟨o, n, e, c, d0, d⟩, _⟩ := I.list ha
    obtain ⟨its2, r2, ⟨o2, n2, e2, c2, d02, d2⟩, _⟩ := I.list hb
    obtain rfl := vals_nil r2
    have hl : its.length = xs.length := r.length.symm
    by_cases h0 : xs.length = 0
    · refine PySem.SeqAt.eq_listAt (items := its.toArray) (items2 := #[]) (e := fun _ => true) ⟨o, e, c, n, d⟩ ⟨o2, e2, c2, n2, d2⟩ (by simp [hl, h0]) hu (fun j h1 h2 => by simp at h2) ⟨.bl (decide (xs.length = 0)), H, I, ?_, q⟩
      show Value.bool _ = Value.bool _
      simp [h0]
    · refine PySem.SeqAt.eq_list_lengthsAt (items := its.toArray) (items2 := #[]) ⟨o, e, c, n, d⟩ ⟨o2, e2, c2, n2, d2⟩ (by simp [hl, h0]) hu ⟨.bl (decide (xs.length = 0)), H, I, ?_, q⟩
      show Value.bool _ = Value.bool _
      simp [h0]
theorem op_ne0 {X : Cx} (hu : X.A.units < cLine) : OpR X (compareOp .NotEq) (rNe0 X.K) := by
  intro pins s σ H x y v u Q I rx ry h
  obtain ⟨a, b, xs, rfl, rfl, hh, q⟩ := h
  cases rx
  cases ry
  rcases hh with ⟨ha, hb⟩ | ⟨ha, hb⟩
  · obtain ⟨its, r, ⟨o, e, c, n, d⟩, _⟩ := I.tuple ha
    obtain ⟨its2, r2, ⟨o2, e2, c2, n2, d2⟩, _⟩ := I.tuple hb
    obtain rfl := vals_nil r2
    have hl : its.length = xs.length := r.length.symm
    refine PySem.SeqAt.RcNeAt.tuples (items := its.toArray) (items2 := #[]) (e := fun _ => true) ⟨o, e, c, n, d⟩ ⟨o2, e2, c2, n2, d2⟩ hu (fun j h1 h2 => by simp at h2) X.prog X.w _ _ ⟨.bl (!decide (xs.length = 0)), H, I, ?_, q⟩
    show Value.bool _ = Value.bool _
    congr 1
    cases xs with
    | nil => simp [hl]
    | cons _ _ => simp [hl]
  · obtain ⟨its, r, ⟨o, n, e, c, d0, d⟩, _⟩ := I.list ha
    obtain ⟨its2, r2, ⟨o2, n2, e2, c2, d02, d2⟩, _⟩ := I.list hb
    obtain rfl := vals_nil r2
    have hl : its.length = xs.length := r.length.symm
    by_cases h0 : xs.length = 0
    · refine PySem.SeqAt.RcNeAt.lists (items := its.toArray) (items2 := #[]) (e := fun _ => true) ⟨o, e, c, n, d⟩ ⟨o2, e2, c2, n2, d2⟩ (by simp [hl, h0]) hu (fun j h1 h2 => by simp at h2) X.prog X.w _ _ ⟨.bl (!decide (xs.length = 0)), H, I, ?_, q⟩
      show Value.bool _ = Value.bool _
      simp [h0]
    · refine PySem.SeqAt.RcNeAt.lists_lengths (items := its.toArray) (items2 := #[]) ⟨o, e, c, n, d⟩ ⟨o2, e2, c2, n2, d2⟩ (by simp [hl, h0]) hu X.prog X.w _ _ ⟨.bl (!decide (xs.length = 0)), H, I, ?_, q⟩
      show Value.bool _ = Value.bool _
      simp [h0]
end GX
set_option Elab.async false
set_option linter.all false
/-! A statement by what stands behind it. -/
namespace GX
open PySem PySem.Spec PyProof.Rows L2
theorem seq_cut {t u : TS} {D : Ends} {σ : L2.St} {H : Hp} (Iv : L2.St → Hp → Prop) (h1 : ∀ B : L2.St → Hp → Prop, (∀ σ' H', Iv σ' H' → B σ' H') → t { D with nx := B } σ H) (h2 : ∀ σ' H', Iv σ' H' → u D σ' H') : tSeq t u D σ H := h1 (u D) h2
end GX
set_option Elab.async false
set_option linter.all false
set_option maxRecDepth 100000
set_option maxHeartbeats 4000000
namespace K24
open PySem PySem.Spec PyProof.Rows L2 GX
open C8 (Cal pe_c pe_gc Met Mak)
section
variable {P : Program} {w : World} {K : PySem.W.Frag} {mg : Str → Option Value} {base : Heap} {Ts : List Addr}
theorem while_p {c : TT} {tb : TS} {D : Ends} {σ : L2.St} {H : Hp} (Pv : Nat → L2.St → Hp → Prop) (m0 : Nat) (h0 : Pv m0 σ H) (hs : ∀ m σ H, Pv m σ H → c σ H fun b H1 => if b = true then ∃ N : L2.St → Hp → Prop, (∀ σ' H', N σ' H' → ∃ m', m' < m ∧ Pv m' σ' H') ∧ tb { D with nx := N, ct := N, bk := D.nx } σ H1 else D.nx σ H1) : tWhile c tb D σ H := ⟨Pv, ⟨m0, h0⟩, hs⟩
theorem nm_seq {t u : TS} {D D0 : Ends} {i : Nat} {x : V} {σ : L2.St} {H : Hp} (e : D0.nx = tSeq t u D) (h : tSeq t u D (σ.set i (some x)) H) : gName i x σ H D0.nx := by
  unfold gName
  rw [e]
  exact h
theorem seq_nx {t : TS} {D : Ends} {σ : L2.St} {H : Hp} (h : t D σ H) : tSeq Ends.nx t D σ H := h
theorem tups_app {H : Hp} {us us' : List Addr} {ws ws' : List (List Nat)} (h : TupsAt H us ws) (h' : TupsAt H us' ws') : TupsAt H (us ++ us') (ws ++ ws') := by
  refine ⟨by rw [List.length_append, List.length_append, h.1, h'.1], fun i p x e1 e2 => ?_⟩
  by_cases hi : i < us.length
  · rw [List.getElem?_append_left hi] at e1
    rw [List.getElem?_append_left (by rw [← h.1]; exact hi)] at e2
    exact h.2 i p x e1 e2
  · rw [List.getElem?_append_right (by omega)] at e1
    rw [List.getElem?_append_right (by rw [← h.1]; omega), ← h.1] at e2
    exact h'.2 _ p x e1 e2
/-- the ways to a wire: some, not too many, not too long -/
structure WysOk (n : Net) (x : Nat) (ws : List (List Nat)) : Prop where
  one : 1 ≤ ws.length
  few : ws.length ≤ 2 ^ (x + 1 - n.many)
  way : ∀ xs ∈ ws, xs.length ≤ x + 1 ∧ ∀ y ∈ xs, y ≤ x
def KWay (H0 : Hp) (r : Addr) (n : Net) (H : Hp) (q : Addr) (x : Nat) : Prop := H0 q = none ∧ q ≠ r ∧ ∃ (us : List Addr) (ws : List (List Nat)), H q = some (.lst (us.map V.ref)) ∧ TupsAt H us ws ∧ WysOk n x ws
theorem KWay.mono {H0 : Hp} {r : Addr} {n : Net} {H H' : Hp} {q : Addr} {x : Nat} (h : KWay H0 r n H q x) (m : ∀ b v, b ≠ r → H b = some v → H' b = some v) (hr : ∀ xs, H r ≠ some (.tup xs)) : KWay H0 r n H' q x := by
  obtain ⟨h0, ne, us, ws, h1, h2, h3⟩ := h
  exact ⟨h0, ne, us, ws, m _ _ ne h1, h2.mono fun b xs e => m _ _ (fun z => hr xs (by rw [← z]; exact e)) e, h3⟩
def spAllW : Sp := fun vs H Q _ => ∃ (a : Addr) (n : Net) (g o : Addr) (ps : List Addr), vs = [.ref a] ∧ NetAt H a n g o ps ∧ n.Ok ∧ n.gates.length ≤ 9 ∧
  ∀ r H' (qs : List Addr), Same H H' → H r = none → H' r = some (.lst (qs.map V.ref)) → PtsAt (KWay H r n) H' qs (List.range (n.many + n.gates.length)) → Q (.ref r) H'
theorem ok_allw {f c : Addr} (D : Dfn K mg "_law_all_ways" s__law_all_ways f c) (T : Txt mg) : Cal P w K mg base 1 "_law_all_ways" spAllW [] := by
  refine cal D (fun _ _ _ _ _ _ us hl => match us, hl with | [_], _ => rfl) sc__law_all_ways (fun vs H Q E h => ?_) (fun A outer s H vs Q E hr h => ?_)
  · obtain ⟨a, n, g, o, ps, rfl, _⟩ := h
    rfl
  · obtain ⟨a, n, g, o, ps, rfl, N, ok, g9, q⟩ := h
    have m8 := ok.m8
    refine ⟨_, (pss_cons (ps_setLc (i := 1) (own := [("_law_wire", 2)]) (g := gName 2) (tt := tYes) rfl sc__law_all_ways.nd rfl rfl (sw_true rfl rfl rfl (by decide +kernel)) (pi_range1 (by rfl) T.b_range (pa_cons (pe_ix ix_tup (pv 0) pe_int (fun _ _ => rfl)) pa_nil)) (blkOk_by (own := [("_law_wire", 2)]) (N := ["_law_net_here", "_law_found", "_law_wire", "_law_kind", "_law_one", "_law_other", "_law_some", "_law_way"]) (sc := defScope s__law_all_ways) (by decide +kernel)) (fun _ _ _ _ _ => (pg_name (i := 2) sc__law_all_ways.nd rfl (by first | exact Or.inl rfl | exact Or.inr rfl))) (fun _ _ _ _ _ => pts_nil) (fun _ _ _ _ _ => (pe_lst (pa_cons (pe_tup (pa_cons (pv 2) pa_nil)) pa_nil))))
      (pss_cons (ps_for PassesOwn.never rfl (pi_tup (pe_ix ix_tup (pv 0) pe_int (fun _ _ => rfl))) (pg_tup rfl (pgs_cons (pg_name (i := 3) sc__law_all_ways.nd rfl (by first | exact Or.inl rfl | exact Or.inr rfl)) (pgs_cons (pg_name (i := 4) sc__law_all_ways.nd rfl (by first | exact Or.inl rfl | exact Or.inr rfl)) (pgs_cons (pg_name (i := 5) sc__law_all_ways.nd rfl (by first | exact Or.inl rfl | exact Or.inr rfl)) pgs_nil))))
        (pss_cons (ps_set (i := 2) sc__law_all_ways.nd rfl (by first | exact Or.inl rfl | exact Or.inr rfl) (pe_callB call_len_seq (by rfl) T.b_len (by decide +kernel) (pa_cons (pv 1) pa_nil)))
      (pss_cons (ps_set (i := 6) sc__law_all_ways.nd rfl (by first | exact Or.inl rfl | exact Or.inr rfl) (pe_ix ix_list (pv 1) (pv 4) (fun _ _ => rfl)))
      (pss_cons (ps_if (pt_cmpR op_ne (pv 5) (pv 4) (nomark _)) (pss_one (ps_set (i := 6) sc__law_all_ways.nd rfl (by first | exact Or.inl rfl | exact Or.inr rfl) (pe_op op_cat (pv 6) (pe_ix ix_list (pv 1) (pv 5) (fun _ _ => rfl))))) pss_nil)
      (pss_one (ps_expr (pe_bm PySem.F.plainAttrs_list PySem.F.slot_list_append PySem.F.type_list_append mt_append (pv 1) (pa_cons (pe_lc (own := [("_law_way", 7)]) (g := gName 7) (tt := tYes) rfl sc__law_all_ways.nd (pi_list (pv 6)) (blkOk_by (own := [("_law_way", 7)]) (N := ["_law_net_here", "_law_found", "_law_wire", "_law_kind", "_law_one", "_law_other", "_law_some", "_law_way"]) (sc := defScope s__law_all_ways) (by decide +kernel)) (fun _ _ _ _ _ => (pg_name (i := 7) sc__law_all_ways.nd rfl (by first | exact Or.inl rfl | exact Or.inr rfl))) (fun _ _ _ _ _ => pts_nil) (fun _ _ _ _ _ => (pe_op (op_catAK (K := K)) (pv 7) (pe_tup (pa_cons (pv 2) pa_nil))))) pa_nil))))))))
      (pss_one (ps_ret (pv 1))))), ?_⟩
    have m1 := ok.m1
    refine ⟨_, rfl, a, _, 0, _, rfl, rfl, SqT.of N.top, at0, _, rfl, by omega, by omega, fun M nM => ?_⟩
    refine lc_range (lo := 0) (n := ((n.many : Nat) : Int).toNat) (fun i H' => ∃ qs : List Addr, Own H H' M (qs.map V.ref) ∧ PtsAt (KWay H M n) H' qs (List.range i)) ⟨[], ⟨Same.new nM, upd_same, nM⟩, PtsAt.nil _ _⟩ ?_ ?_
    · rintro i H1 hi ⟨qs, o1, T1⟩
      rw [Int.toNat_natCast] at hi
      rw [show V.int (0 + ((i : Nat) : Int)) = nV i from congrArg V.int (Int.zero_add _)]
      refine ⟨rfl, ?_⟩
      unfold tYes
      refine iteT ?_
      refine ⟨_, rfl, small 1, fun p np => ⟨small 1, fun q1 nq => ?_⟩⟩
      have s2 := Same.new (o := .tup [nV i]) np
      have s3 := s2.trans (Same.new (o := .lst [.ref p]) nq)
      have o3 : Own H (upd (upd H1 p (.tup [nV i])) q1 (.lst [.ref p])) M (qs.map V.ref) := ⟨o1.sm.trans s3, s3 _ _ o1.at_, o1.nw⟩
      have hp3 : upd (upd H1 p (.tup [nV i])) q1 (.lst [.ref p]) p = some (.tup ([i].map nV)) := Same.new nq _ _ upd_same
      have hq3 : upd (upd H1 p (.tup [nV i])) q1 (.lst [.ref p]) q1 = some (.lst ([p].map V.ref)) := upd_same
      have nq0 : H q1 = none := Same.was (o1.sm.trans s2) nq
      have qM : q1 ≠ M := fun z => by rw [z, s2 _ _ o1.at_] at nq; cases nq
      have T3 := T1.mono fun b x h => h.mono (fun c v _ e => s3 _ _ e) fun xs e => by rw [o1.at_] at e; cases e
      generalize upd (upd H1 p (.tup [nV i])) q1 (.lst [.ref p]) = H3 at o3 hp3 hq3 T3 ⊢
      refine ⟨_, o3.at_, by rw [List.length_map, T1.1, List.length_range]; exact small256 (by omega), qs ++ [q1], by rw [List.map_append]; exact o3.app, ?_⟩
      rw [List.range_succ]
      have nt : ∀ xs, H3 M ≠ some (HO.tup xs) := fun xs e => by rw [o3.at_] at e; cases e
      refine PtsAt.push (T3.mono fun b x h => h.mono (fun c v ne e => by rw [upd_ne ne]; exact e) nt) ⟨nq0, qM, [p], [[i]], by rw [upd_ne qM]; exact hq3, ?_, ⟨Nat.le_refl _, Nat.one_le_two_pow, fun xs hx => ?_⟩⟩
      · refine RefsAt.push (RefsAt.nil _ _) (y := [i]) ?_
        rw [upd_ne (fun z => by rw [z, o3.at_] at hp3; cases hp3)]
        exact hp3
      · rw [List.mem_singleton.mp hx]
        exact ⟨by show 1 ≤ i + 1; omega, fun y hy => by rw [List.mem_singleton.mp hy]; exact Nat.le_refl _⟩
    · rintro H1 ⟨qs, o1, T1⟩
      rw [Int.toNat_natCast] at T1
      have N1 := N.same o1.sm
      refine ⟨_, rfl, a, _, 1, _, rfl, rfl, SqT.of N1.top, at1, g, rfl, ⟨_, SqT.of N1.gt⟩, ?_⟩
      refine for_tup (K := K) (a := g) (xs := ps.map V.ref) (fun i σ H' => ∃ (x2 x3 x4 x5 x6 : Option V) (qs : List Addr), σ = [some (.ref a), some (.ref M), x2, x3, x4, x5, x6, none] ∧ Own H H' M (qs.map V.ref) ∧ PtsAt (KWay H M n) H' qs (List.range (n.many + i))) ⟨none, none, none, none, none, qs, rfl, o1, T1⟩ ?_ ?_ ?_
      · rintro i σ H' _ ⟨_, _, _, _, _, _, _, o', _⟩
        exact SqT.of (o'.sm _ _ N.gt)
      · rintro i x σ H2 hx ⟨x2, x3, x4, x5, x6, qs, rfl, o2, T2⟩
        have N2 := N.same o2.sm
        obtain ⟨gp, rfl⟩ : ∃ gp, x = V.ref gp := by
          rw [List.getElem?_map] at hx
          cases e : ps[i]? with
          | none => rw [e] at hx; cases hx
          | some p => rw [e] at hx; exact ⟨p, (Option.some.inj hx).symm⟩
        have hpi : ps[i]? = some gp := by
          rw [List.getElem?_map] at hx
          cases e : ps[i]? with
          | none => rw [e] at hx; cases hx
          | some p => rw [e] at hx; cases hx; rfl
        obtain ⟨k, hk, hgp⟩ := gateOk.at N2.gs hpi
        have hig : i < n.gates.length := (List.getElem?_eq_some_iff.mp hk).1
        have gok := ok.gs i k hk
        have ql : qs.length = n.many + i := by rw [T2.1, List.length_range]
        refine ⟨gp, _, rfl, SqT.of hgp, rfl, _, _, rfl, _, _, rfl, _, _, rfl, rfl, ?_⟩
        refine ⟨_, rfl, M, _, rfl, .inl (SqL.of o2.at_), ?_⟩
        rw [List.length_map, ql]
        have at_ : ∀ y, y < n.many + i → ∃ q us ws, (qs.map V.ref)[y]? = some (.ref q) ∧ H2 q = some (.lst (us.map V.ref)) ∧ TupsAt H2 us ws ∧ WysOk n y ws := fun y hy => by
          have e1 : qs[y]? = some qs[y] := List.getElem?_eq_getElem (by omega)
          obtain ⟨_, _, us, ws, h1, h2, h3⟩ := T2.2 y _ y e1 (List.getElem?_range hy)
          exact ⟨qs[y], us, ws, by rw [List.getElem?_map, e1]; rfl, h1, h2, h3⟩
        obtain ⟨qo, uo, wo, eo, hqo, To, Wo⟩ := at_ k.2.1 gok.2.1
        obtain ⟨qt, ut, wt, et, hqt, Tt, Wt'⟩ := at_ k.2.2 gok.2.2
        refine ⟨_, rfl, _, rfl, M, _, _, _, rfl, rfl, SqL.of o2.at_, atI_nat eo, ?_⟩
        have po : ∀ y ws, y < n.many + i → WysOk n y ws → ws.length ≤ 2 ^ i := fun y ws hy h => Nat.le_trans h.few (Nat.pow_le_pow_right (by decide) (by omega))
        have p9 : 2 ^ i ≤ 512 := show 2 ^ i ≤ 2 ^ 9 from Nat.pow_le_pow_right (by decide) (by omega)
        have lo := po _ _ gok.2.1 Wo
        have lt := po _ _ gok.2.2 Wt'
        have g1 : k.2.1 < n.many + i := gok.2.1
        have g2 : k.2.2 < n.many + i := gok.2.2
        have nt : ∀ {H' : Hp} {ys : List V}, Own H H' M ys → ∀ xs, H' M ≠ some (HO.tup xs) := fun o' xs e => by rw [o'.at_] at e; cases e
        refine nm_seq rfl ?_
        refine seq_nx ?_
        with_reducible refine seq_cut (fun σ H' => ∃ (q6 : Addr) (us : List Addr) (ws : List (List Nat)), σ = [some (.ref a), some (.ref M), some (nV (n.many + i)), some (nV k.1), some (nV k.2.1), some (nV k.2.2), some (.ref q6), none] ∧ Same H2 H' ∧ H' q6 = some (.lst (us.map V.ref)) ∧ TupsAt H' us ws ∧ 1 ≤ ws.length ∧ ws.length ≤ 2 ^ (i + 1) ∧ ∀ xs ∈ ws, xs.length ≤ n.many + i ∧ ∀ y ∈ xs, y < n.many + i) (fun B hB => ?_) ?_
        · refine ⟨_, rfl, _, rfl, rfl, _, rfl, ite2 (fun _ => ?_) (fun _ => ?_)⟩
          · refine ⟨_, rfl, _, rfl, _, rfl, M, _, _, _, rfl, rfl, SqL.of o2.at_, atI_nat et, qo, qt, _, _, rfl, rfl, hqo, hqt, by rw [List.length_map, List.length_map, To.1, Tt.1]; exact small _ (by omega), fun r nr => ?_⟩
            rw [← List.map_append]
            have s3 := Same.new (o := .lst ((uo ++ ut).map V.ref)) nr
            refine hB _ _ ⟨r, uo ++ ut, wo ++ wt, rfl, s3, upd_same, ?_, ?_, ?_, fun xs hx => ?_⟩
            · have To3 := To.mono fun b zs e => s3 _ _ e
              have Tt3 := Tt.mono fun b zs e => s3 _ _ e
              exact tups_app To3 Tt3
            · rw [List.length_append]
              have := Wo.one
              omega
            · rw [List.length_append, Nat.pow_succ]
              omega
            · rcases List.mem_append.mp hx with h | h
              · have := Wo.way xs h
                exact ⟨by have := this.1; omega, fun y hy => by have := this.2 y hy; omega⟩
              · have := Wt'.way xs h
                exact ⟨by have := this.1; omega, fun y hy => by have := this.2 y hy; omega⟩
          · exact hB _ _ ⟨qo, uo, wo, rfl, Same.refl _, hqo, To, Wo.one, by rw [Nat.pow_succ]; omega, fun xs hx => by
              have := Wo.way xs hx
              exact ⟨by have := this.1; omega, fun y hy => by have := this.2 y hy; omega⟩⟩
        rintro σ H3 ⟨q6, us, ws, rfl, s3, hq6, T6, w1, w2, w3⟩
        have o3 : Own H H3 M (qs.map V.ref) := ⟨o2.sm.trans s3, s3 _ _ o2.at_, o2.nw⟩
        have T3 := T2.mono fun b x h => h.mono (fun c v _ e => s3 _ _ e) (nt o2)
        have ul : us.length = ws.length := T6.1
        refine ⟨_, rfl, .inl ⟨rfl, _, SqL.of o3.at_⟩, ?_⟩
        refine ⟨_, rfl, q6, rfl, ⟨_, SqL.of hq6⟩, fun M2 nM2 => ?_⟩
        refine lc_list (K := K) (a := q6) (xs := us.map V.ref) (fun j H' => ∃ vs2 : List Addr, Own H3 H' M2 (vs2.map V.ref) ∧ TupsAt H' vs2 ((ws.take j).map fun xs => xs ++ [n.many + i])) ⟨[], ⟨Same.new nM2, upd_same, nM2⟩, RefsAt.nil _ _⟩ (fun _ H' _ ⟨_, o', _⟩ => SqL.of (o'.sm _ _ hq6)) ?_ ?_
        · rintro j x H4 hx ⟨vs2, o4, T4⟩
          have T64 := T6.mono fun b zs e => o4.sm _ _ e
          obtain ⟨tq, xs, rfl, hxs, hat⟩ := T64.at_ hx
          have hj : j < ws.length := (List.getElem?_eq_some_iff.mp hxs).1
          have hxw := w3 xs (List.mem_of_getElem? hxs)
          have vl : vs2.length = j := by rw [T4.1, List.length_map, List.length_take]; omega
          refine ⟨rfl, ?_⟩
          unfold tYes
          refine iteT ?_
          refine ⟨_, rfl, _, rfl, small 1, fun t1 nt1 => ?_⟩
          have s5 := Same.new (o := .tup [nV (n.many + i)]) nt1
          have ht1 : upd H4 t1 (.tup [nV (n.many + i)]) t1 = some (.tup ([n.many + i].map nV)) := upd_same
          have m8' := ok.m8
          refine catA (s5 _ _ hat) ht1 (by rw [List.length_map]; exact small _ (by show _ + 1 ≤ _; have := hxw.1; omega)) fun r H6 s6 hr6 => ?_
          rw [← List.map_append] at hr6
          have o6 : Own H3 H6 M2 (vs2.map V.ref) := ⟨(o4.sm.trans s5).trans s6, s6 _ _ (s5 _ _ o4.at_), o4.nw⟩
          have T6' := T4.mono fun b zs e => s6 _ _ (s5 _ _ e)
          refine ⟨_, o6.at_, by rw [List.length_map, vl]; exact small256 (by rw [Nat.pow_succ] at w2; omega), vs2 ++ [r], by rw [List.map_append]; exact o6.app, ?_⟩
          rw [List.take_add_one, hxs, Option.toList_some, List.map_append]
          have up6 : ∀ b zs, H6 b = some (HO.tup zs) → upd H6 M2 (.lst (vs2.map V.ref ++ [.ref r])) b = some (.tup zs) := fun b zs e => by
            rw [upd_ne (fun z => by rw [z, o6.at_] at e; cases e)]
            exact e
          exact (T6'.mono up6).push (up6 _ _ hr6)
        rintro H4 ⟨vs2, o4, T4⟩
        rw [List.length_map, ul, List.take_length] at T4
        have M2M : M2 ≠ M := fun z => by
          have := o4.nw
          rw [z, o3.at_] at this
          cases this
        have nM20 : H M2 = none := Same.was o3.sm o4.nw
        have o34 : Own H H4 M (qs.map V.ref) := ⟨o3.sm.trans o4.sm, o4.sm _ _ o3.at_, o3.nw⟩
        have T34 := T3.mono fun b x h => h.mono (fun c v _ e => o4.sm _ _ e) (nt o3)
        have up4 : ∀ o', ∀ b v, b ≠ M → H4 b = some v → upd H4 M o' b = some v := fun o' b v ne e => by rw [upd_ne ne]; exact e
        refine ⟨M, _, _, rfl, rfl, o34.at_, by rw [List.length_map, ql]; exact small256 (by omega), ?_⟩
        refine ⟨_, _, _, _, _, qs ++ [M2], rfl, by rw [List.map_append]; exact o34.app, ?_⟩
        rw [show n.many + (i + 1) = n.many + i + 1 by omega, List.range_succ]
        refine PtsAt.push (T34.mono fun b x h => h.mono (up4 _) (nt o34)) ⟨nM20, M2M, vs2, _, by rw [upd_ne M2M]; exact o4.at_, T4.mono fun b zs e => up4 _ _ _ (fun z => nt o34 zs (by rw [← z]; exact e)) e, ⟨by rw [List.length_map]; exact w1, by rw [List.length_map, show n.many + i + 1 - n.many = i + 1 by omega]; exact w2, fun zs hz => ?_⟩⟩
        obtain ⟨xs, hx, rfl⟩ := List.mem_map.mp hz
        have := w3 xs hx
        refine ⟨by rw [List.length_append]; show _ + 1 ≤ _; have := this.1; omega, fun y hy => ?_⟩
        rcases List.mem_append.mp hy with h | h
        · have := this.2 y h; omega
        · rw [List.mem_singleton.mp h]; exact Nat.le_refl _
      · rintro σ H2 ⟨x2, x3, x4, x5, x6, qs, rfl, o2, T2⟩
        rw [List.length_map, N.gs.1] at T2
        exact ⟨_, rfl, q M H2 qs o2.sm nM o2.at_ T2⟩
def spMeet : Sp := fun vs H Q _ => ∃ (p p' l : Addr) (xs ys ls : List Nat), vs = [.ref p, .ref p', .ref l] ∧ H p = some (.tup (xs.map nV)) ∧ H p' = some (.tup (ys.map nV)) ∧ H l = some (.lst (ls.map nV)) ∧ xs.length ≤ 1000 ∧ ∀ (b : Bool) H', Same H H' → Q (.bl b) H'
theorem ok_meet {f c : Addr} (D : Dfn K mg "_law_meet" s__law_meet f c) (T : Txt mg) : Cal P w K mg base 1 "_law_meet" spMeet [] := by
  refine cal D (fun _ _ _ _ _ _ us hl => match us, hl with | [_, _, _], _ => rfl) sc__law_meet (fun vs H Q E h => ?_) (fun A outer s H vs Q E hr h => ?_)
  · obtain ⟨p, p', l, xs, ys, ls, rfl, _⟩ := h
    rfl
  · obtain ⟨p, p', l, xs, ys, ls, rfl, hp, hp', hl, x1000, q⟩ := h
    refine ⟨_, (pss_one (ps_ret (pe_cmpR (op_ne0 hr.units0) (pe_lc (own := [("_law_wire", 3)]) (g := gName 3)  rfl sc__law_meet.nd (pi_tup (pv 0)) (blkOk_by (own := [("_law_wire", 3)]) (N := ["_law_one", "_law_way", "_law_low", "_law_wire"]) (sc := defScope s__law_meet) (by decide +kernel)) (fun _ _ _ _ _ => (pg_name (i := 3) sc__law_meet.nd rfl (by first | exact Or.inl rfl | exact Or.inr rfl))) (fun _ _ _ _ _ => (pts_one (PW.pt (pw_and (pt_cmpR (op_in_seqK (K := K)) (pv 3) (pv 1) (by rfl)) (pw_and1 (pt_cmpR (op_in_seqK (K := K)) (pv 3) (pv 2) (by rfl))))))) (fun _ _ _ _ _ => (pv 3))) (pe_lst pa_nil) (nomark _)))), ?_⟩
    refine ⟨_, rfl, p, rfl, ⟨_, SqT.of hp⟩, fun M nM => ?_⟩
    refine lc_tup (K := K) (a := p) (xs := xs.map nV) (fun i H' => ∃ ks : List Nat, Own H H' M (ks.map nV) ∧ ks.length ≤ i) ⟨[], ⟨Same.new nM, upd_same, nM⟩, Nat.zero_le _⟩ (fun _ H' _ ⟨_, o', _⟩ => SqT.of (o'.sm _ _ hp)) ?_ ?_
    · rintro i x H2 hx ⟨ks, o2, kl⟩
      have hi : i < xs.length := by
        have := (List.getElem?_eq_some_iff.mp hx).1
        rwa [List.length_map] at this
      rw [natAt hi] at hx
      cases hx
      refine ⟨rfl, ?_⟩
      refine ⟨_, rfl, _, rfl, p', _, rfl, .inr (SqT.of (o2.sm _ _ hp')), rfl, flat_ns ys, _, rfl, ?_⟩
      rw [if_neg Bool.false_ne_true, inV_n]
      refine ite2 (fun _ => ?_) (fun _ => ?_)
      · refine ⟨_, rfl, _, rfl, l, _, rfl, .inl (SqL.of (o2.sm _ _ hl)), rfl, flat_ns ls, _, rfl, ?_⟩
        rw [if_neg Bool.false_ne_true, inV_n]
        refine ite2 (fun _ => ?_) (fun _ => ?_)
        · exact ⟨_, rfl, _, o2.at_, by rw [List.length_map]; exact small256 (by omega), ks ++ [xs.getD i 0], by rw [List.map_append]; exact o2.app, by rw [List.length_append]; show _ + 1 ≤ _; omega⟩
        · exact ⟨ks, o2, by omega⟩
      · exact ⟨ks, o2, by omega⟩
    rintro H2 ⟨ks, o2, kl⟩
    refine ⟨small 0, fun e ne => ?_⟩
    have s3 := Same.new (o := .lst []) ne
    exact ⟨M, e, _, rfl, rfl, .inr ⟨SqL.of (s3 _ _ o2.at_), SqL.of upd_same⟩, q _ _ (o2.sm.trans s3)⟩
def spPick : Sp := fun vs H Q _ => ∃ (W C wa la : Addr) (k t : Nat) (us : List Addr) (ws : List (List Nat)) (ls : List Nat), vs = [.ref W, .ref wa, nV k, .ref la] ∧ Wt H W C t ∧ t ≤ 800000 ∧ H wa = some (.lst (us.map V.ref)) ∧ (wa ≠ W ∧ wa ≠ C) ∧ TupsAt H us ws ∧ 1 ≤ ws.length ∧ ws.length ≤ 1000 ∧ (∀ xs ∈ ws, xs.length ≤ 1000) ∧ H la = some (.lst (ls.map nV)) ∧ (la ≠ W ∧ la ≠ C) ∧ k ≤ 4 ∧
  ∀ r H' (vs' : List Addr) (zs : List (List Nat)), Wkt W C (t + 10) H H' → H' r = some (.tup (vs'.map V.ref)) → TupsAt H' vs' zs → zs.length ≤ k + 1 → (∀ z ∈ zs, z ∈ ws) → Q (.ref r) H'
theorem ok_pick {f c : Addr} (D : Dfn K mg "_law_picked" s__law_picked f c) (T : Txt mg) (c__law_draw : Cal P w K mg base 1 "_law_draw" spDraw []) (c__law_meet : Cal P w K mg base 1 "_law_meet" spMeet []) : Cal P w K mg base 2 "_law_picked" spPick [] := by
  refine cal D (fun _ _ _ _ _ _ us hl => match us, hl with | [_, _, _, _], _ => rfl) sc__law_picked (fun vs H Q E h => ?_) (fun A outer s H vs Q E hr h => ?_)
  · obtain ⟨W, C, wa, la, k, t, us, ws, ls, rfl, _⟩ := h
    rfl
  · obtain ⟨W, C, wa, la, k, t, us, ws, ls, rfl, wl, ht, hwa, waW, TW, w1, w1000, x1000, hla, laW, k4, q⟩ := h
    refine ⟨_, (pss_cons (ps_set (i := 4) sc__law_picked.nd rfl (by first | exact Or.inl rfl | exact Or.inr rfl) (pe_c c__law_draw hr (by decide) (by rfl) (pa_cons (pv 0) (pa_cons (pe_callB call_len_seq (by rfl) T.b_len (by decide +kernel) (pa_cons (pv 1) pa_nil)) pa_nil))))
      (pss_cons (ps_set (i := 5) sc__law_picked.nd rfl (by first | exact Or.inl rfl | exact Or.inr rfl) (pe_lst pa_nil))
      (pss_cons (ps_for PassesOwn.never rfl (pi_list (pe_op op_cat (pe_slice sl_list (pv 1) (po_some (pv 4)) po_none) (pe_slice sl_list (pv 1) po_none (po_some (pv 4))))) (pg_name (i := 6) sc__law_picked.nd rfl (by first | exact Or.inl rfl | exact Or.inr rfl))
        (pss_one (ps_if (PW.pt (pw_and (pt_cmpR op_le (pe_callB call_len_seq (by rfl) T.b_len (by decide +kernel) (pa_cons (pv 5) pa_nil)) (pv 2) (nomark _)) (pw_and1 (pt_not (pt_val (pe_callB (cr_any rfl) (by rfl) T.b_any (by decide +kernel) (pa_cons (pe_lc (own := [("_law_one", 7)]) (g := gName 7) (tt := tYes) rfl sc__law_picked.nd (pi_list (pv 5)) (blkOk_by (own := [("_law_one", 7)]) (N := ["_law_deck_here", "_law_ways", "_law_k", "_law_low", "_law_begin", "_law_chosen", "_law_way", "_law_one"]) (sc := defScope s__law_picked) (by decide +kernel)) (fun _ _ _ _ _ => (pg_name (i := 7) sc__law_picked.nd rfl (by first | exact Or.inl rfl | exact Or.inr rfl))) (fun _ _ _ _ _ => pts_nil) (fun _ _ _ _ _ => (pe_c c__law_meet hr (by decide) (by rfl) (pa_cons (pv 7) (pa_cons (pv 6) (pa_cons (pv 3) pa_nil)))))) pa_nil))))))) (pss_one (ps_expr (pe_bm PySem.F.plainAttrs_list PySem.F.slot_list_append PySem.F.type_list_append mt_append (pv 5) (pa_cons (pv 6) pa_nil)))) pss_nil)))
      (pss_cons (ps_while PassesOwn.never (pt_cmpR op_le (pe_callB call_len_seq (by rfl) T.b_len (by decide +kernel) (pa_cons (pv 5) pa_nil)) (pv 2) (nomark _)) (pss_one (ps_expr (pe_bm PySem.F.plainAttrs_list PySem.F.slot_list_append PySem.F.type_list_append mt_append (pv 5) (pa_cons (pe_ix ix_list (pv 1) (pe_c c__law_draw hr (by decide) (by rfl) (pa_cons (pv 0) (pa_cons (pe_callB call_len_seq (by rfl) T.b_len (by decide +kernel) (pa_cons (pv 1) pa_nil)) pa_nil))) (fun _ _ => rfl)) pa_nil)))))
      (pss_one (ps_ret (pe_callTy call_tuple_of (by rfl) T.b_tuple (by decide +kernel) (pa_cons (pv 5) pa_nil)))))))), ?_⟩
    have ul : us.length = ws.length := TW.1
    refine ⟨_, rfl, _, rfl, wa, _, rfl, .inl (SqL.of hwa), W, C, _, t, rfl, wl, by omega, by rw [List.length_map]; omega, by rw [List.length_map]; omega, fun bd H1 b0 b1 k1 => ?_⟩
    obtain ⟨b, rfl⟩ := Int.eq_ofNat_of_zero_le b0
    have hwa1 := k1.at_ waW hwa
    refine ⟨small 0, fun L nL => ?_⟩
    have k2 := k1.new (o := .lst []) nL
    have LW := k1.wl.new nL
    have L0 : H L = none := k1.was nL
    have hL2 : upd H1 L (.lst []) L = some (.lst (([] : List Addr).map V.ref)) := upd_same
    have hwa2 := Same.new (o := .lst []) nL _ _ hwa1
    generalize upd H1 L (.lst []) = H2 at k2 hL2 hwa2 ⊢
    refine ⟨_, rfl, _, rfl, _, rfl, ?_⟩
    unfold tNoPart
    refine ⟨wa, _, rfl, SqL.of hwa2, fun p1 np1 => ?_⟩
    rw [cut_lo, ← List.map_drop]
    have s3 := Same.new (o := .lst ((us.drop b).map V.ref)) np1
    have k3 := k2.same s3
    have hp1 : upd H2 p1 (.lst ((us.drop b).map V.ref)) p1 = some (.lst ((us.drop b).map V.ref)) := upd_same
    have hL3 := s3 _ _ hL2
    have hwa3 := s3 _ _ hwa2
    generalize upd H2 p1 (.lst ((us.drop b).map V.ref)) = H3 at k3 hp1 hL3 hwa3 ⊢
    refine ⟨_, rfl, _, rfl, _, rfl, ?_⟩
    refine ⟨wa, _, rfl, SqL.of hwa3, fun p2 np2 => ?_⟩
    rw [cut_hi, ← List.map_take]
    have s4 := Same.new (o := .lst ((us.take b).map V.ref)) np2
    refine ⟨p1, p2, _, _, rfl, rfl, s4 _ _ hp1, upd_same, by rw [List.length_map, List.length_map, List.length_drop, List.length_take]; exact small _ (by omega), fun R nR => ?_⟩
    rw [← List.map_append]
    have s5 := s4.trans (Same.new (o := .lst ((us.drop b ++ us.take b).map V.ref)) nR)
    have k5 := k3.same s5
    have hR : upd (upd H3 p2 (.lst ((us.take b).map V.ref))) R (.lst ((us.drop b ++ us.take b).map V.ref)) R = some (.lst ((us.drop b ++ us.take b).map V.ref)) := upd_same
    have hL5 := s5 _ _ hL3
    have RL : R ≠ L := fun z => by rw [z, s4 _ _ hL3] at nR; cases nR
    generalize upd (upd H3 p2 (.lst ((us.take b).map V.ref))) R (.lst ((us.drop b ++ us.take b).map V.ref)) = H5 at k5 hR hL5 ⊢
    have hu : ∀ u ∈ us.drop b ++ us.take b, ∃ xs ∈ ws, H u = some (.tup (xs.map nV)) := fun u hu => by
      have hu : u ∈ us := by
        rcases List.mem_append.mp hu with h | h
        · exact List.mem_of_mem_drop h
        · exact List.mem_of_mem_take h
      obtain ⟨j, hj⟩ := List.getElem?_of_mem hu
      have jl := (List.getElem?_eq_some_iff.mp hj).1
      have jw : j < ws.length := by omega
      exact ⟨ws[j], List.getElem_mem jw, TW.2 j u _ hj (List.getElem?_eq_getElem jw)⟩
    generalize us.drop b ++ us.take b = rs at hR hu ⊢
    refine ⟨R, rfl, ⟨_, SqL.of hR⟩, ?_⟩
    refine for_list (K := K) (a := R) (xs := rs.map V.ref) (fun i σ H' => ∃ (x6 : Option V) (cs : List Addr) (zs : List (List Nat)), σ = [some (.ref W), some (.ref wa), some (nV k), some (.ref la), some (.int ((b : Nat) : Int)), some (.ref L), x6, none] ∧ Wkt W C (t + 1) H H' ∧ H' R = some (.lst (rs.map V.ref)) ∧ H' L = some (.lst (cs.map V.ref)) ∧ TupsAt H' cs zs ∧ zs.length ≤ k + 1 ∧ ∀ z ∈ zs, z ∈ ws) ⟨none, [], [], rfl, k5, hR, hL5, RefsAt.nil _ _, Nat.zero_le _, fun z hz => (by cases hz)⟩ ?_ ?_ ?_
    · rintro i σ H' _ ⟨_, _, _, _, _, h, _⟩
      exact SqL.of h
    · rintro i x σ H6 hx ⟨x6, cs, zs, rfl, k6, hR6, hL6, T6, zl, zw⟩
      obtain ⟨u, hum, rfl⟩ : ∃ u ∈ rs, x = V.ref u := by
        rw [List.getElem?_map] at hx
        cases e : rs[i]? with
        | none => rw [e] at hx; cases hx
        | some u => rw [e] at hx; exact ⟨u, List.mem_of_getElem? e, (Option.some.inj hx).symm⟩
      obtain ⟨xu, xuw, hxu⟩ := hu u hum
      have cl : cs.length = zs.length := T6.1
      refine ⟨_, rfl, L, _, rfl, .inl (SqL.of hL6), _, rfl, _, _, rfl, rfl, _, rfl, ite2 (fun h1 => ?_) (fun h1 => ?_)⟩
      · have h1 := of_decide_eq_true h1
        rw [List.length_map] at h1
        refine ⟨_, rfl, L, rfl, ⟨_, SqL.of hL6⟩, fun M nM => ?_⟩
        refine lc_list (K := K) (a := L) (xs := cs.map V.ref) (fun j H' => ∃ bs : List Bool, Own H6 H' M (bs.map V.bl) ∧ bs.length ≤ j) ⟨[], ⟨Same.new nM, upd_same, nM⟩, Nat.zero_le _⟩ (fun _ H' _ ⟨_, o', _⟩ => SqL.of (o'.sm _ _ hL6)) ?_ ?_
        · rintro j x H7 hx ⟨bs, o7, bl⟩
          have T7 := T6.mono fun b zs e => o7.sm _ _ e
          obtain ⟨tq, xs, rfl, hxs, hat⟩ := T7.at_ hx
          have jl : j < zs.length := (List.getElem?_eq_some_iff.mp hxs).1
          refine ⟨rfl, ?_⟩
          unfold tYes
          refine iteT ?_
          refine ⟨_, rfl, _, rfl, _, rfl, tq, u, la, xs, xu, ls, rfl, hat, o7.sm _ _ (wl.tup k6 hxu), o7.sm _ _ (k6.at_ laW hla), x1000 xs (zw xs (List.mem_of_getElem? hxs)), fun b H8 s8 => ?_⟩
          have o8 : Own H6 H8 M (bs.map V.bl) := ⟨o7.sm.trans s8, s8 _ _ o7.at_, o7.nw⟩
          exact ⟨_, o8.at_, by rw [List.length_map]; exact small256 (by omega), bs ++ [b], by rw [List.map_append]; exact o8.app, by rw [List.length_append]; show _ + 1 ≤ _; omega⟩
        rintro H7 ⟨bs, o7, bl⟩
        have k7 := k6.same o7.sm
        have hL7 := o7.sm _ _ hL6
        have hR7 := o7.sm _ _ hR6
        have T7 := T6.mono fun b zs e => o7.sm _ _ e
        refine ⟨M, bs, rfl, SqL.of o7.at_, _, rfl, ite2 (fun _ => ?_) (fun _ => ?_)⟩
        · refine ⟨_, rfl, .inl ⟨rfl, _, SqL.of hL7⟩, _, rfl, L, _, _, rfl, rfl, hL7, by rw [List.length_map]; exact small256 (by omega), ?_⟩
          have tp := tupPut (ys := cs.map V.ref ++ [.ref u]) hL7
          refine ⟨_, cs ++ [u], zs ++ [xu], rfl, k7.put L0 LW, by rw [upd_ne RL]; exact hR7, by rw [upd_same, List.map_append]; rfl, (T7.mono fun b zs e => tp _ _ e).push (tp _ _ (o7.sm _ _ (wl.tup k6 hxu))), by rw [List.length_append]; show _ + 1 ≤ _; omega, fun z hz => ?_⟩
          rcases List.mem_append.mp hz with h | h
          · exact zw z h
          · rw [List.mem_singleton.mp h]; exact xuw
        · exact ⟨_, cs, zs, rfl, k7, hR7, hL7, T7, zl, zw⟩
      · exact ⟨_, cs, zs, rfl, k6, hR6, hL6, T6, zl, zw⟩
    rintro σ H6 ⟨x6, cs, zs, rfl, k6, hR6, hL6, T6, zl, zw⟩
    refine while_p (fun m σ H' => ∃ (cs : List Addr) (zs : List (List Nat)), σ = [some (.ref W), some (.ref wa), some (nV k), some (.ref la), some (.int ((b : Nat) : Int)), some (.ref L), x6, none] ∧ Wkt W C (t + 2 + zs.length) H H' ∧ H' L = some (.lst (cs.map V.ref)) ∧ TupsAt H' cs zs ∧ m + zs.length = k + 1 ∧ ∀ z ∈ zs, z ∈ ws) (k + 1 - zs.length) ⟨cs, zs, rfl, k6.le (by omega), hL6, T6, by omega, zw⟩ ?_
    rintro m σ H7 ⟨cs, zs, rfl, k7, hL7, T7, mz, zw⟩
    have cl : cs.length = zs.length := T7.1
    refine ⟨_, rfl, L, _, rfl, .inl (SqL.of hL7), _, rfl, _, _, rfl, rfl, _, rfl, ite2 (fun h1 => ?_) (fun h1 => ?_)⟩
    · have h1 := of_decide_eq_true h1
      rw [List.length_map] at h1
      refine ⟨_, fun _ _ h => h, ?_⟩
      have hwa7 := k7.at_ waW hwa
      refine ⟨_, rfl, .inl ⟨rfl, _, SqL.of hL7⟩, _, rfl, _, rfl, _, rfl, wa, _, rfl, .inl (SqL.of hwa7), W, C, _, t + 2 + zs.length, rfl, k7.wl, by omega, by rw [List.length_map]; omega, by rw [List.length_map]; omega, fun dr H8 e0 e1 k8 => ?_⟩
      obtain ⟨d, rfl⟩ := Int.eq_ofNat_of_zero_le e0
      rw [List.length_map] at e1
      have hd : d < us.length := by omega
      have ed : (us.map V.ref)[d]? = some (.ref us[d]) := by rw [List.getElem?_map, List.getElem?_eq_getElem hd]; rfl
      have dw : d < ws.length := by omega
      have hxd := TW.2 d us[d] ws[d] (List.getElem?_eq_getElem hd) (List.getElem?_eq_getElem dw)
      have k78 := k7.nxt k8
      have hL8 := k8.at_ LW hL7
      have T8 := T7.mono fun b zs e => k7.wl.tup k8 e
      refine ⟨wa, _, _, _, rfl, rfl, SqL.of (k8.at_ waW hwa7), atI_nat ed, L, _, _, rfl, rfl, hL8, by rw [List.length_map]; exact small256 (by omega), ?_⟩
      have tp := tupPut (ys := cs.map V.ref ++ [.ref us[d]]) hL8
      refine ⟨m - 1, by omega, cs ++ [us[d]], zs ++ [ws[d]], rfl, (k78.put L0 LW).le (by rw [List.length_append]; show _ ≤ _ + (_ + 1); omega), by rw [upd_same, List.map_append]; rfl, (T8.mono fun b zs e => tp _ _ e).push (tp _ _ (wl.tup k78 hxd)), by rw [List.length_append]; show _ + (_ + 1) = _; omega, fun z hz => ?_⟩
      rcases List.mem_append.mp hz with h | h
      · exact zw z h
      · rw [List.mem_singleton.mp h]; exact List.getElem_mem dw
    · refine ⟨_, rfl, L, _, rfl, .inl ⟨SqL.of hL7, fun r nr => ?_⟩⟩
      have s8 := Same.new (o := .tup (cs.map V.ref)) nr
      exact q r _ cs zs ((k7.same s8).le (by omega)) upd_same (T7.mono fun b zs e => s8 _ _ e) (by omega) zw
end
end K24
set_option Elab.async false
set_option linter.all false
set_option maxRecDepth 100000
set_option maxHeartbeats 4000000
namespace K24
open PySem PySem.Spec PyProof.Rows L2 GX
open C8 (Cal pe_c pe_gc Met Mak)
section
variable {P : Program} {w : World} {K : PySem.W.Frag} {mg : Str → Option Value} {base : Heap} {Ts : List Addr}
def spWhole : Sp := fun vs H Q _ => ∃ v t, vs = [v] ∧ Rep H v t ∧ Q (.bl t.whole) H
theorem ok_whole {f c : Addr} (D : Dfn K mg "is_whole" s_is_whole f c) (T : Txt mg) : Cal P w K mg base 1 "is_whole" spWhole [] := by
  refine cal D (fun _ _ _ _ _ _ us hl => match us, hl with | [_], _ => rfl) sc_is_whole (fun vs H Q E h => ?_) (fun A outer s H vs Q E hr h => ?_)
  · obtain ⟨v, t, rfl, _⟩ := h
    rfl
  · obtain ⟨v, t, rfl, r, q⟩ := h
    refine ⟨_, (pss_one (ps_ret (pe_and (pe_callB call_isi (by rfl) T.b_isinstance (by decide +kernel) (pa_cons (pv 0) (pa_cons (pe_bltn (v := .ty "int") (by rfl) T.b_int (by decide +kernel) rfl) pa_nil))) (pe_one (pe_not (pe_callB call_isi (by rfl) T.b_isinstance (by decide +kernel) (pa_cons (pv 0) (pa_cons (pe_bltn (v := .ty "bool") (by rfl) T.b_bool (by decide +kernel) rfl) pa_nil)))))))), ?_⟩
    refine ⟨_, rfl, _, _, _, _, t.kInt, rfl, .ty "int", tyx r, kit_ty (kInt_ok t), _, rfl, ite2 (fun h1 => ?_) (fun h1 => ?_)⟩
    · refine ⟨_, rfl, _, _, _, _, t.kBool, rfl, .ty "bool", tyx r, kit_ty (kBool_ok t), _, rfl, ?_⟩
      have e : (!t.kBool) = t.whole := by cases t <;> first | rfl | cases h1
      rw [e]
      exact q
    · have e : t.whole = false := by cases t <;> first | rfl | exact absurd rfl h1
      rw [e] at q
      exact q
def spBelow : Sp := fun vs H Q _ => ∃ v t b, vs = [v, .int b] ∧ Rep H v t ∧ Q (.bl (t.isB b)) H
theorem ok_below {f c : Addr} (D : Dfn K mg "is_below" s_is_below f c) (c_is_whole : Cal P w K mg base 1 "is_whole" spWhole []) : Cal P w K mg base 2 "is_below" spBelow [] := by
  refine cal D (fun _ _ _ _ _ _ us hl => match us, hl with | [_, _], _ => rfl) sc_is_below (fun vs H Q E h => ?_) (fun A outer s H vs Q E hr h => ?_)
  · obtain ⟨v, t, b, rfl, _⟩ := h
    rfl
  · obtain ⟨v, t, b, rfl, r, q⟩ := h
    refine ⟨_, (pss_one (ps_ret (pe_and (pe_c c_is_whole hr (by decide) (by rfl) (pa_cons (pv 0) pa_nil)) (pe_one (pe_chain op_le op_lt pe_int (pv 0) (pv 1)))))), ?_⟩
    refine ⟨_, rfl, v, t, rfl, r, _, rfl, ite2 (fun h1 => ?_) (fun h1 => ?_)⟩
    · cases r with
      | int i =>
        refine ⟨_, rfl, _, _, rfl, rfl, _, rfl, ite2 (fun h2 => ?_) (fun h2 => ?_)⟩
        · refine ⟨_, rfl, _, _, rfl, rfl, ?_⟩
          have e : (Th.int i).isB b = decide (i < b) := by
            show (decide (0 ≤ i) && decide (i < b)) = decide (i < b)
            rw [h2, Bool.true_and]
          rw [e] at q
          exact q
        · have e : (Th.int i).isB b = false := by
            show (decide (0 ≤ i) && decide (i < b)) = false
            rw [Bool.eq_false_iff.mpr h2, Bool.false_and]
          rw [e] at q
          exact q
      | _ => cases h1
    · have e : t.isB b = false := by cases t <;> first | rfl | exact absurd rfl h1
      rw [e] at q
      exact q
end
theorem in2 (x a b : Nat) : inV (nV x) [nV a, nV b] = decide (x = a ∨ x = b) := by
  have := inV_n x [a, b]
  rw [show [nV a, nV b] = [a, b].map nV from rfl, this]
  congr 1
  exact propext (by rw [List.mem_cons, List.mem_singleton])
section
variable {P : Program} {w : World} {K : PySem.W.Frag} {mg : Str → Option Value} {base : Heap} {Ts : List Addr}
def spStep : Sp := fun vs H Q _ => ∃ (a : Addr) (n : Net) (g o : Addr) (ps : List Addr) (x y : Nat), vs = [.ref a, nV x, nV y] ∧ NetAt H a n g o ps ∧ y < n.many + n.gates.length ∧ ∀ H', Same H H' → Q (.bl (stB n x y)) H'
theorem ok_step {f c : Addr} (D : Dfn K mg "is_step" s_is_step f c) (c_places : Cal P w K mg base 1 "places" spPlaces []) : Cal P w K mg base 2 "is_step" spStep [] := by
  refine cal D (fun _ _ _ _ _ _ us hl => match us, hl with | [_, _, _], _ => rfl) sc_is_step (fun vs H Q E h => ?_) (fun A outer s H vs Q E hr h => ?_)
  · obtain ⟨a, n, g, o, ps, x, y, rfl, _⟩ := h
    rfl
  · obtain ⟨a, n, g, o, ps, x, y, rfl, N, hy, q⟩ := h
    refine ⟨_, (pss_one (ps_ret (pe_and (pe_cmpR op_ge (pv 2) (pe_ix ix_tup (pv 0) pe_int (fun _ _ => rfl)) (nomark _)) (pe_one (pe_cmpR op_in_seq (pv 1) (pe_c c_places hr (by decide) (by rfl) (pa_cons (pv 0) (pa_cons (pv 2) pa_nil))) (by rfl)))))), ?_⟩
    refine ⟨_, rfl, _, rfl, a, _, 0, _, rfl, rfl, SqT.of N.top, at0, _, _, rfl, rfl, _, rfl, ite2 (fun hg => ?_) (fun hg => ?_)⟩
    · have hg' : n.many ≤ y := by
        have := of_decide_eq_true hg
        omega
      obtain ⟨k, hk⟩ : ∃ k, n.gates[y - n.many]? = some k := ⟨_, List.getElem?_eq_getElem (by omega)⟩
      refine ⟨_, rfl, _, rfl, _, rfl, a, n, g, o, ps, y, k, rfl, N, hg', hk, fun p np => ?_⟩
      refine ⟨p, _, rfl, .inr (SqT.of upd_same), rfl, rfl, ?_⟩
      have e : inV (nV x) [nV k.2.1, nV k.2.2] = stB n x y := by
        rw [in2]
        unfold stB
        rw [decide_eq_true hg', hk, Bool.true_and]
      show Q (.bl (inV (nV x) [nV k.2.1, nV k.2.2])) _
      rw [e]
      exact q _ (Same.new np)
    · have hg' : ¬ (n.many ≤ y) := fun z => hg (decide_eq_true (by show ((y : Nat) : Int) ≥ ((n.many : Nat) : Int); omega))
      have e : stB n x y = false := by
        unfold stB
        rw [decide_eq_false hg', Bool.false_and]
      have q' := q H (Same.refl _)
      rw [e] at q'
      exact q'
end
theorem atI_last {xs : List V} {v : V} (h : xs[xs.length - 1]? = some v) : atI xs (-1) = some v := by
  have hl := (List.getElem?_eq_some_iff.mp h).1
  unfold atI
  have e : ixN xs.length (-1) = some (xs.length - 1) := by
    unfold ixN
    rw [if_neg (by decide)]
    first
      | rw [if_pos (by omega)]; congr 1; omega
      | simp; omega
  rw [e]
  exact h
section
variable {P : Program} {w : World} {K : PySem.W.Frag} {mg : Str → Option Value} {base : Heap} {Ts : List Addr}
theorem way_iff {n : Net} {wr : Nat} {xs : List Nat} (h0 : 0 < xs.length) (lt : ∀ x ∈ xs, x < n.many + n.gates.length) : Way n wr xs ↔ (xs.getD 0 0 < n.many ∧ xs.getD (xs.length - 1) 0 = wr ∧ ∀ i, i + 1 < xs.length → stB n (xs.getD i 0) (xs.getD (i + 1) 0) = true) :=
  ⟨fun w => ⟨w.first, w.last, fun i hi => stB_iff.mpr (w.steps i hi)⟩, fun ⟨h1, h2, h3⟩ => ⟨h0, lt, h1, h2, fun i hi => stB_iff.mp (h3 i hi)⟩⟩
def spIsWayT (Ts : List Addr) : Sp := fun vs H Q _ => ∃ (a : Addr) (n : Net) (g o : Addr) (ps : List Addr) (wr : Nat) (v : V) (t : Th), vs = [.ref a, nV wr, v] ∧ NetAt H a n g o ps ∧ n.Ok ∧ Rep H v t ∧ Tabs Ts H ∧ ∀ (b : Bool) H', (b = true ↔ ∃ xs, t = thWs xs ∧ Way n wr xs) → Aft Ts H H' → Q (.bl b) H'
theorem ok_iswayT {f c PW' : Addr} (D : Dfn K mg "is_way" s_is_way f c) (T : Txt mg) (c_is_below : Cal P w K mg base 2 "is_below" spBelow []) (c_wires_in : Cal P w K mg base 1 "wires_in" spWires []) (c_is_step : Cal P w K mg base 2 "is_step" spStep []) (TB_is_way : GxR.TabB base mg c PW') (hP : PW' ∈ Ts) : Cal P w K mg base 4 "is_way" (spIsWayT Ts) [] := by
  refine cal D (fun _ _ _ _ _ _ us hl => match us, hl with | [_, _, _], _ => rfl) sc_is_way (fun vs H Q E h => ?_) (fun A outer s H vs Q E hr h => ?_)
  · obtain ⟨a, n, g, o, ps, wr, v, t, rfl, _⟩ := h
    rfl
  · obtain ⟨a, n, g, o, ps, wr, v, t, rfl, N, ok, r, tb, q⟩ := h
    refine ⟨_, (pss_cons (ps_if (PW.pt (pw_or (pt_not (pt_val (pe_callB call_isi (by rfl) T.b_isinstance (by decide +kernel) (pa_cons (pv 2) (pa_cons (pe_bltn (v := .ty "tuple") (by rfl) T.b_tuple (by decide +kernel) rfl) pa_nil))))) (pw_or1 (pt_cmpR op_eq (pe_callB call_len_seq (by rfl) T.b_len (by decide +kernel) (pa_cons (pv 2) pa_nil)) pe_int (nomark _))))) (pss_one (ps_ret pe_bl)) pss_nil)
      (pss_cons (ps_set (i := 3) sc_is_way.nd rfl (by first | exact Or.inl rfl | exact Or.inr rfl) (pe_c c_wires_in hr (by decide) (by rfl) (pa_cons (pv 0) pa_nil)))
      (pss_cons (ps_if (pt_not (pt_val (pe_allG (own := [("step", 4)]) hr (by rfl) T.b_all TB_is_way rfl (gxOk_by (N := ["net", "wire", "thing", "count", "step", "ahead"]) (sc := defScope s_is_way) (own := [("step", 4)]) (by decide +kernel)) sc_is_way.nd (pi_tup (pv 2)) (fun _ _ _ _ => (pg_name (i := 4) sc_is_way.nd rfl (by first | exact Or.inl rfl | exact Or.inr rfl))) (fun _ _ _ _ => pts_nil) (fun _ _ _ _ => (pe_c c_is_below (GX.Room.gx2 hr) (by decide) (by rfl) (pa_cons (pv 4) (pa_cons (pv 3) pa_nil))))))) (pss_one (ps_ret pe_bl)) pss_nil)
      (pss_cons (ps_if (PW.pt (pw_or (pt_cmpR op_ge (pe_ix ix_tup (pv 2) pe_int (fun _ _ => rfl)) (pe_ix ix_tup (pv 0) pe_int (fun _ _ => rfl)) (nomark _)) (pw_or1 (pt_cmpR op_ne (pe_ix ix_tup (pv 2) (pe_un un_neg pe_int) (fun _ _ => rfl)) (pv 1) (nomark _))))) (pss_one (ps_ret pe_bl)) pss_nil)
      (pss_one (ps_ret (pe_allG (own := [("ahead", 5), ("step", 4)]) hr (by rfl) T.b_all TB_is_way rfl (gxOk_by (N := ["net", "wire", "thing", "count", "step", "ahead"]) (sc := defScope s_is_way) (own := [("ahead", 5), ("step", 4)]) (by decide +kernel)) sc_is_way.nd (RZ.pi_zipA (by rfl) T.b_zip (pa_cons (pv 2) (pa_cons (pe_slice sl_tupA (pv 2) (po_some pe_int) po_none) pa_nil))) (fun _ _ _ _ => (pg_tupK (K := K) (n := 2) rfl rfl (pgs_cons (pg_name (i := 5) sc_is_way.nd rfl (by first | exact Or.inl rfl | exact Or.inr rfl)) (pgs_cons (pg_name (i := 4) sc_is_way.nd rfl (by first | exact Or.inl rfl | exact Or.inr rfl)) pgs_nil)))) (fun _ _ _ _ => pts_nil) (fun _ _ _ _ => (pe_c c_is_step (GX.Room.gx2 hr) (by decide) (by rfl) (pa_cons (pv 0) (pa_cons (pv 5) (pa_cons (pv 4) pa_nil)))))))))))), ?_⟩
    refine ⟨_, rfl, _, _, _, _, t.kTup, rfl, .ty "tuple", tyx r, kit_ty (kTup_ok t), _, rfl, ite2 (fun h1 => ?_) (fun h1 => ?_)⟩
    · exact q false _ ⟨fun z => (by cases z), fun ⟨u, e, _⟩ => absurd e (yesK h1 _)⟩ (Aft.refl tb)
    obtain ⟨ta, vs, ts, rfl, rfl, ht, ra⟩ := r.tupI h1
    have vl := ra.length
    refine ⟨_, rfl, ta, _, rfl, .inr (SqT.of ht), rfl, _, rfl, ite2 (fun h2 => ?_) (fun h2 => ?_)⟩
    · refine q false _ ⟨fun z => (by cases z), fun ⟨xs, e, w⟩ => ?_⟩ (Aft.refl tb)
      have := V.int.inj (of_decide_eq_true h2)
      rw [tup_inj e, List.length_map] at vl
      have := w.ne
      omega
    have l0 : 0 < vs.length := Nat.pos_of_ne_zero fun z => h2 (decide_eq_true (by rw [z]; rfl))
    refine ⟨_, rfl, a, n, g, o, ps, rfl, N, ?_⟩
    refine ⟨_, rfl, ta, rfl, ⟨_, SqT.of ht⟩, tb PW' hP, fun H2 htab => ?_⟩
    have a2 : Aft Ts H H2 := ⟨Keep.tabbed hP htab, tb.tabbed htab⟩
    refine turns_it (walk_tup (xs := vs)) (fun i ys H' => Aft Ts H H' ∧ (ts.take i).all (Th.isB ((n.many + n.gates.length : Nat) : Int)) = true) ⟨a2, rfl⟩ (fun i ys H' _ hp => SqT.of (hp.1.tup tb ht)) ?_ ?_
    · rintro i x ys H3 H4 hi ⟨a3, al⟩ ⟨rfl, hx⟩
      obtain ⟨t', ht', rt⟩ := ra.get hx
      refine ⟨rfl, ?_⟩
      unfold tYes
      refine iteT ?_
      refine ⟨_, rfl, _, rfl, x, t', _, rfl, rt.keepR (KeepR.aft tb a3), ⟨_, rfl, fun hf => ?_⟩, fun hn => ⟨a3, ?_⟩⟩
      · refine ⟨_, rfl, iteT ?_⟩
        refine q false _ ⟨fun z => (by cases z), fun ⟨xs, e2, w⟩ => ?_⟩ a3
        rw [tup_inj e2, List.getElem?_map] at ht'
        obtain ⟨y, ey, e3⟩ := Option.map_eq_some_iff.mp ht'
        have : t'.isB ((n.many + n.gates.length : Nat) : Int) = true := isB_nat.mpr ⟨y, e3.symm, w.lt y (List.mem_of_getElem? ey)⟩
        rw [show t'.isB ((n.many + n.gates.length : Nat) : Int) = false from hf] at this
        cases this
      · rw [List.take_add_one, ht', List.all_append, al, Option.toList_some]
        show (true && (t'.isB ((n.many + n.gates.length : Nat) : Int) && true)) = true
        rw [V.bl.inj hn]
        rfl
    · rintro ys H3 ⟨a3, al⟩
      rw [vl, List.take_length] at al
      obtain ⟨xs, rfl, lt⟩ := all_isB.mp al
      obtain rfl := nats_rep ra
      rw [List.length_map] at l0
      refine ⟨_, rfl, iteF ?_⟩
      have q := fun (b : Bool) H' (hb : b = true ↔ (xs.getD 0 0 < n.many ∧ xs.getD (xs.length - 1) 0 = wr ∧ ∀ i, i + 1 < xs.length → stB n (xs.getD i 0) (xs.getD (i + 1) 0) = true)) (aa : Aft Ts H H') => q b H' (hb.trans ((way_iff l0 lt).symm.trans ⟨fun w => ⟨xs, rfl, w⟩, fun ⟨ys, e, w⟩ => by rw [map_inj' thW_inj (tup_inj e)]; exact w⟩)) aa
      have N3 := N.aft tb a3
      have ht3 := a3.tup tb ht
      refine ⟨_, rfl, ta, _, 0, _, rfl, rfl, SqT.of ht3, atI_nat (j := 0) (nat_at l0), _, rfl, a, _, 0, _, rfl, rfl, SqT.of N3.top, at0, _, _, rfl, rfl, _, rfl, ite2 (fun h3 => ?_) (fun h3 => ?_)⟩
      · have h3' := of_decide_eq_true h3
        exact q false _ ⟨fun z => (by cases z), fun ⟨z, _⟩ => by omega⟩ a3
      have h3' : xs.getD 0 0 < n.many := by
        have : ¬ (((xs.getD 0 0 : Nat) : Int) ≥ ((n.many : Nat) : Int)) := fun z => h3 (decide_eq_true z)
        omega
      have hlast : (xs.map nV)[(xs.map nV).length - 1]? = some (nV (xs.getD (xs.length - 1) 0)) := by
        rw [List.length_map, nat_at (by omega)]
      refine ⟨_, rfl, _, rfl, ta, _, -1, _, rfl, rfl, SqT.of ht3, atI_last hlast, _, rfl, rfl, _, rfl, ite2 (fun h4 => ?_) (fun h4 => ?_)⟩
      · refine q false _ ⟨fun z => (by cases z), fun ⟨_, z, _⟩ => ?_⟩ a3
        rw [z, decide_eq_true rfl] at h4
        cases h4
      have h4' : xs.getD (xs.length - 1) 0 = wr := by
        have := Classical.not_not.mp fun z => h4 (by rw [decide_eq_false z]; rfl)
        have := V.int.inj this
        omega
      refine ⟨_, rfl, _, rfl, 1, rfl, ?_⟩
      try unfold tNoPart
      refine slA (lo := some ((1 : Nat) : Int)) (hi := none) ht3 fun r H5 s5 h5 => ?_
      rw [cut_lo, ← List.map_drop] at h5
      have a5 := Aft.ofSame a3.tb s5
      have ht5 := s5 _ _ ht3
      refine ⟨ta, r, _, _, rfl, .inr ⟨SqT.of ht5, SqT.of h5, ?_⟩⟩
      refine ⟨a5.tb PW' hP, fun H6 htab6 => ?_⟩
      have a6 : Aft Ts H5 H6 := ⟨Keep.tabbed hP htab6, a5.tb.tabbed htab6⟩
      have a35 := a3.trans a5
      refine turns_it (walk_zipT (n := xs.length - 1) (xs := xs.map nV) (ys := (xs.drop 1).map nV) (by rw [List.length_map, List.length_map, List.length_drop]; omega)) (fun i ys H' => Aft Ts H5 H' ∧ ∀ j, j < i → stB n (xs.getD j 0) (xs.getD (j + 1) 0) = true) ⟨a6, fun j hj => absurd hj (Nat.not_lt_zero _)⟩ (fun i ys H' _ hp => ⟨SqT.of (hp.1.tup a5.tb ht5), SqT.of (hp.1.tup a5.tb h5)⟩) ?_ ?_
      · rintro i x ys H7 H8 hi ⟨a7, al⟩ ⟨T', v1, v2, rfl, nT, rfl, e1, e2⟩
        have e1' : (xs.map nV)[i]? = some v1 := e1
        have e2' : ((xs.drop 1).map nV)[i]? = some v2 := e2
        rw [nat_at (by omega)] at e1'
        rw [List.map_drop, List.getElem?_drop, Nat.add_comm, nat_at (by omega)] at e2'
        cases e1'
        cases e2'
        have a8 := a7.trans (Aft.new (o := .tup [nV (xs.getD i 0), nV (xs.getD (i + 1) 0)]) a7.tb nT)
        refine ⟨T', _, rfl, SqT.of upd_same, rfl, _, _, rfl, _, _, rfl, rfl, rfl, ?_⟩
        try unfold tYes
        refine iteT ?_
        refine ⟨_, rfl, _, rfl, _, rfl, a, n, g, o, ps, _, _, rfl, (N.aft tb a35).aft a5.tb a8, lt _ (getD_mem (by omega)), fun H9 s9 => ?_⟩
        have a9 := a8.trans (Aft.ofSame a8.tb s9)
        refine ⟨⟨_, rfl, fun hc => ?_⟩, fun hc => ⟨a9, fun j hj => ?_⟩⟩
        · refine q false _ ⟨fun z => (by cases z), fun ⟨_, _, z⟩ => ?_⟩ (a35.trans a9)
          rw [z i (by omega)] at hc
          cases hc
        · by_cases e : j = i
          · subst e
            exact V.bl.inj hc
          · exact al j (by omega)
      · rintro ys H7 ⟨a7, al⟩
        exact q true _ ⟨fun _ => ⟨h3', h4', fun i hi => al i (by omega)⟩, fun _ => rfl⟩ (a35.trans a7)
end
end K24
set_option Elab.async false
set_option linter.all false
set_option maxRecDepth 100000
set_option maxHeartbeats 4000000
namespace K24
open PySem PySem.Spec PyProof.Rows L2 GX
open C8 (Cal pe_c pe_gc Met Mak)
section
variable {P : Program} {w : World} {K : PySem.W.Frag} {mg : Str → Option Value} {base : Heap} {Ts : List Addr}
/-! ### the law's own judge, of papers of the right form -/
theorem way_le {n : Net} (ok : n.Ok) {g : Nat} {xs : List Nat} (W : Way n g xs) : ∀ d i, i + d + 1 = xs.length → xs.getD i 0 ≤ g := by
  intro d
  induction d with
  | zero =>
    intro i hi
    have := W.last
    rw [show xs.length - 1 = i by omega] at this
    omega
  | succ d ih =>
    intro i hi
    obtain ⟨h1, k, hk, h2⟩ := W.steps i (by omega)
    have h3 := ih (i + 1) (by omega)
    have gk := ok.gs _ k hk
    have p1 := gk.2.1
    have p2 := gk.2.2
    omega
def spLWay : Sp := fun vs H Q _ => ∃ (a : Addr) (n : Net) (g o : Addr) (ps : List Addr) (gt : Nat) (p : Addr) (xs : List Nat), vs = [.ref a, nV gt, .ref p] ∧ NetAt H a n g o ps ∧ n.Ok ∧ H p = some (.tup (xs.map nV)) ∧ xs.length ≤ 1000 ∧ n.many ≤ gt ∧ gt < n.many + n.gates.length ∧ ∀ (b : Bool) H', (b = true ↔ Way n gt xs) → Same H H' → Q (.bl b) H'
theorem ok_lway {f c : Addr} (D : Dfn K mg "_law_is_way" s__law_is_way f c) (T : Txt mg) : Cal P w K mg base 1 "_law_is_way" spLWay [] := by
  refine cal D (fun _ _ _ _ _ _ us hl => match us, hl with | [_, _, _], _ => rfl) sc__law_is_way (fun vs H Q E h => ?_) (fun A outer s H vs Q E hr h => ?_)
  · obtain ⟨a, n, g, o, ps, gt, p, xs, rfl, _⟩ := h
    rfl
  · obtain ⟨a, n, g, o, ps, gt, p, xs, rfl, N, ok, hp, x1000, hm, hgt, q⟩ := h
    refine ⟨_, (pss_cons (ps_if (PW.pt (pw_or (pt_not (pt_val (pe_callB call_isi (by rfl) T.b_isinstance (by decide +kernel) (pa_cons (pv 2) (pa_cons (pe_bltn (v := .ty "tuple") (by rfl) T.b_tuple (by decide +kernel) rfl) pa_nil))))) (pw_or (pt_cmpR (op_eq0 hr.units0) (pv 2) (pe_tup pa_nil) (nomark _)) (pw_or1 (pt_cmpR op_ne (pe_ix ix_tup (pv 2) (pe_un un_neg pe_int) (fun _ _ => rfl)) (pv 1) (nomark _)))))) (pss_one (ps_ret pe_bl)) pss_nil)
      (pss_cons (ps_for PassesOwn.never rfl (pi_tup (pv 2)) (pg_name (i := 3) sc__law_is_way.nd rfl (by first | exact Or.inl rfl | exact Or.inr rfl))
        (pss_one (ps_if (PW.pt (pw_or (pt_val (pe_callB call_isi (by rfl) T.b_isinstance (by decide +kernel) (pa_cons (pv 3) (pa_cons (pe_bltn (v := .ty "bool") (by rfl) T.b_bool (by decide +kernel) rfl) pa_nil)))) (pw_or (pt_not (pt_val (pe_callB call_isi (by rfl) T.b_isinstance (by decide +kernel) (pa_cons (pv 3) (pa_cons (pe_bltn (v := .ty "int") (by rfl) T.b_int (by decide +kernel) rfl) pa_nil))))) (pw_or1 (pt_not (pt_chain op_le op_le pe_int (pv 3) (pv 1))))))) (pss_one (ps_ret pe_bl)) pss_nil)))
      (pss_cons (ps_if (pt_cmpR op_ge (pe_ix ix_tup (pv 2) pe_int (fun _ _ => rfl)) (pe_ix ix_tup (pv 0) pe_int (fun _ _ => rfl)) (nomark _)) (pss_one (ps_ret pe_bl)) pss_nil)
      (pss_one (ps_ret (pe_cmpR (op_eq0 hr.units0) (pe_lc (own := [("_law_k", 4)]) (g := gName 4)  rfl sc__law_is_way.nd (pi_range2 (by rfl) T.b_range (pa_cons pe_int (pa_cons (pe_callB call_len_seq (by rfl) T.b_len (by decide +kernel) (pa_cons (pv 2) pa_nil)) pa_nil))) (blkOk_by (own := [("_law_k", 4)]) (N := ["_law_net_here", "_law_gate_here", "_law_way", "_law_wire", "_law_k"]) (sc := defScope s__law_is_way) (by decide +kernel)) (fun _ _ _ _ _ => (pg_name (i := 4) sc__law_is_way.nd rfl (by first | exact Or.inl rfl | exact Or.inr rfl))) (fun _ _ _ _ _ => (pts_one (PW.pt (pw_or (pt_cmpR op_lt (pe_ix (ix_tupK (K := K)) (pv 2) (pv 4) (fun _ _ => rfl)) (pe_ix (ix_tupK (K := K)) (pv 0) pe_int (fun _ _ => rfl)) (nomark _)) (pw_or1 (pt_cmpR (op_notIn_seqK (K := K)) (pe_ix (ix_tupK (K := K)) (pv 2) (pe_op op_sub (pv 4) pe_int) (fun _ _ => rfl)) (pe_slice (sl_tupAK (K := K)) (pe_ix (ix_tupK (K := K)) (pe_ix (ix_tupK (K := K)) (pv 0) pe_int (fun _ _ => rfl)) (pe_op op_sub (pe_ix (ix_tupK (K := K)) (pv 2) (pv 4) (fun _ _ => rfl)) (pe_ix (ix_tupK (K := K)) (pv 0) pe_int (fun _ _ => rfl))) (fun _ _ => rfl)) (po_some pe_int) po_none) (by rfl))))))) (fun _ _ _ _ _ => (pv 4))) (pe_lst pa_nil) (nomark _))))))), ?_⟩
    have n0 := Same.refl H
    refine ⟨_, rfl, _, _, _, _, true, rfl, .ty "tuple", .base (.tup hp), kit_ty (by decide +kernel), _, rfl, iteF ?_⟩
    refine ⟨_, rfl, small 0, fun e ne => ?_⟩
    have s1 := Same.new (o := .tup []) ne
    refine ⟨p, e, _, rfl, rfl, .inl ⟨SqT.of (s1 _ _ hp), SqT.of upd_same⟩, _, rfl, ?_⟩
    rw [List.length_map]
    have hp1 := s1 _ _ hp
    have N1 := N.same s1
    generalize upd H e (.tup []) = H1 at s1 hp1 N1 ⊢
    refine ite2 (fun h1 => ?_) (fun h1 => ?_)
    · have h1 := of_decide_eq_true h1
      exact q false _ ⟨fun z => (by cases z), fun W => by have := W.ne; omega⟩ s1
    have l0 : 0 < xs.length := Nat.pos_of_ne_zero fun z => h1 (decide_eq_true z)
    have hlast : (xs.map nV)[(xs.map nV).length - 1]? = some (nV (xs.getD (xs.length - 1) 0)) := by
      rw [List.length_map, nat_at (by omega)]
    refine ⟨_, rfl, _, rfl, p, _, -1, _, rfl, rfl, SqT.of hp1, atI_last hlast, _, rfl, rfl, _, rfl, ite2 (fun h2 => ?_) (fun h2 => ?_)⟩
    · refine q false _ ⟨fun z => (by cases z), fun W => ?_⟩ s1
      rw [W.last, decide_eq_true rfl] at h2
      cases h2
    have hl : xs.getD (xs.length - 1) 0 = gt := by
      have := Classical.not_not.mp fun z => h2 (by rw [decide_eq_false z]; rfl)
      have := V.int.inj this
      omega
    refine ⟨_, rfl, p, rfl, ⟨_, SqT.of hp1⟩, ?_⟩
    refine for_tup (K := K) (a := p) (xs := xs.map nV) (fun i σ H' => ∃ x3 : Option V, σ = [some (.ref a), some (nV gt), some (.ref p), x3, none] ∧ H' = H1 ∧ ∀ j, j < i → xs.getD j 0 ≤ gt) ⟨none, rfl, rfl, fun j h => absurd h (Nat.not_lt_zero _)⟩ ?_ ?_ ?_
    · rintro i σ H' _ ⟨_, _, rfl, _⟩
      exact SqT.of hp1
    · rintro i x σ H2 hx ⟨x3, rfl, rfl, al⟩
      have hi : i < xs.length := by
        have := (List.getElem?_eq_some_iff.mp hx).1
        rwa [List.length_map] at this
      rw [natAt hi] at hx
      cases hx
      refine ⟨_, rfl, _, _, _, _, false, rfl, .ty "bool", tyx (.int _), kit_ty (kBool_ok (.int _)), _, rfl, iteF ?_⟩
      refine ⟨_, rfl, _, _, _, _, true, rfl, .ty "int", tyx (.int _), kit_ty (kInt_ok (.int _)), _, rfl, iteF ?_⟩
      refine ⟨_, rfl, _, _, rfl, rfl, _, rfl, ?_⟩
      rw [if_pos (decide_eq_true (by omega))]
      refine ⟨_, rfl, _, _, rfl, rfl, _, rfl, ?_⟩
      by_cases hx : xs.getD i 0 ≤ gt
      · dsimp -proj only
        rw [decide_eq_true (show ((xs.getD i 0 : Nat) : Int) ≤ ((gt : Nat) : Int) by omega)]
        refine iteF ?_
        refine ⟨_, rfl, rfl, fun j hj => ?_⟩
        by_cases e : j = i
        · rw [e]; exact hx
        · exact al j (by omega)
      · dsimp -proj only
        rw [decide_eq_false (show ¬ ((xs.getD i 0 : Nat) : Int) ≤ ((gt : Nat) : Int) by omega)]
        refine iteT ?_
        exact q false _ ⟨fun z => (by cases z), fun W => absurd (way_le ok W (xs.length - 1 - i) i (by omega)) hx⟩ s1
    · rintro σ H2 ⟨x3, rfl, rfl, al⟩
      rw [List.length_map] at al
      have le : ∀ x ∈ xs, x ≤ gt := fun x hx => by
        obtain ⟨j, hj, rfl⟩ := List.getElem_of_mem hx
        have := al j hj
        rwa [List.getD_eq_getElem?_getD, List.getElem?_eq_getElem hj] at this
      refine ⟨_, rfl, p, _, 0, _, rfl, rfl, SqT.of hp1, atI_nat (j := 0) (nat_at l0), _, rfl, a, _, 0, _, rfl, rfl, SqT.of N1.top, at0, _, _, rfl, rfl, _, rfl, ite2 (fun h3 => ?_) (fun h3 => ?_)⟩
      · have h3' := of_decide_eq_true h3
        exact q false _ ⟨fun z => (by cases z), fun W => by have := W.first; omega⟩ s1
      have h3' : xs.getD 0 0 < n.many := by
        have : ¬ (((xs.getD 0 0 : Nat) : Int) ≥ ((n.many : Nat) : Int)) := fun z => h3 (decide_eq_true z)
        omega
      refine ⟨_, rfl, p, _, rfl, .inr (SqT.of hp1), _, _, rfl, ⟨by omega, by omega, by omega, by rw [List.length_map]; omega⟩, fun M nM => ?_⟩
      refine lc_range (lo := 1) (n := ((((xs.map nV).length : Nat) : Int) - 1).toNat) (fun i H' => ∃ ks : List Nat, Own H2 H' M (ks.map nV) ∧ ks.length ≤ i ∧ (ks = [] ↔ ∀ j, j < i → stB n (xs.getD j 0) (xs.getD (j + 1) 0) = true)) ⟨[], ⟨Same.new nM, upd_same, nM⟩, Nat.zero_le _, fun _ j h => absurd h (Nat.not_lt_zero _), fun _ => rfl⟩ ?_ ?_
      · rintro i H3 hi ⟨ks, o3, kl, kst⟩
        rw [List.length_map] at hi
        refine ⟨rfl, ?_⟩
        have hi2 : i + 1 < xs.length := by omega
        have e1 : (xs.map nV)[i + 1]? = some (nV (xs.getD (i + 1) 0)) := nat_at hi2
        have e0 : (xs.map nV)[i]? = some (nV (xs.getD i 0)) := nat_at (by omega)
        have hp3 := o3.sm _ _ hp1
        have N3 := N1.same o3.sm
        have y1 := le (xs.getD (i + 1) 0) (getD_mem hi2)
        refine ⟨_, rfl, _, rfl, p, _, _, _, rfl, rfl, SqT.of hp3, (by rw [show (1 : Int) + ((i : Nat) : Int) = ((i + 1 : Nat) : Int) by omega]; exact atI_nat e1), _, rfl, a, _, 0, _, rfl, rfl, SqT.of N3.top, at0, _, _, rfl, rfl, _, rfl, ?_⟩
        dsimp -proj only
        have bad : ∀ (H4 : Hp), Own H2 H4 M (ks.map nV) → stB n (xs.getD i 0) (xs.getD (i + 1) 0) = false → Own H2 (upd H4 M (.lst (ks.map nV ++ [V.int (1 + ((i : Nat) : Int))]))) M ((ks ++ [i + 1]).map nV) ∧ (ks ++ [i + 1]).length ≤ i + 1 ∧ (ks ++ [i + 1] = [] ↔ ∀ j, j < i + 1 → stB n (xs.getD j 0) (xs.getD (j + 1) 0) = true) := fun H4 o4 hb => by
          refine ⟨?_, by rw [List.length_append]; show _ + 1 ≤ _; omega, fun z => absurd z (by simp), fun z => ?_⟩
          · rw [List.map_append, show (1 : Int) + ((i : Nat) : Int) = ((i + 1 : Nat) : Int) by omega]
            exact o4.app
          · rw [z i (by omega)] at hb
            cases hb
        have good : stB n (xs.getD i 0) (xs.getD (i + 1) 0) = true → ks.length ≤ i + 1 ∧ (ks = [] ↔ ∀ j, j < i + 1 → stB n (xs.getD j 0) (xs.getD (j + 1) 0) = true) := fun hb => by
          refine ⟨by omega, kst.trans ⟨fun z j hj => ?_, fun z j hj => z j (by omega)⟩⟩
          by_cases e : j = i
          · rw [e]; exact hb
          · exact z j (by omega)
        by_cases hm2 : xs.getD (i + 1) 0 < n.many
        · rw [decide_eq_true (show ((xs.getD (i + 1) 0 : Nat) : Int) < ((n.many : Nat) : Int) by omega)]
          refine iteT ?_
          refine ⟨_, rfl, _, o3.at_, by rw [List.length_map]; exact small256 (by omega), ks ++ [i + 1], ?_⟩
          exact bad _ o3 (by unfold stB; rw [decide_eq_false (by omega)]; rfl)
        · rw [decide_eq_false (show ¬ ((xs.getD (i + 1) 0 : Nat) : Int) < ((n.many : Nat) : Int) by omega)]
          refine iteF ?_
          have hgl : xs.getD (i + 1) 0 - n.many < n.gates.length := by omega
          obtain ⟨gk, hgk⟩ : ∃ gk, n.gates[xs.getD (i + 1) 0 - n.many]? = some gk := ⟨_, List.getElem?_eq_getElem hgl⟩
          have hpl : xs.getD (i + 1) 0 - n.many < ps.length := by rw [N.gs.1]; exact hgl
          have hpj : ps[xs.getD (i + 1) 0 - n.many]? = some ps[xs.getD (i + 1) 0 - n.many] := List.getElem?_eq_getElem hpl
          have hp9 := N3.gs.2 _ _ gk hpj hgk
          have ge : (ps.map V.ref)[xs.getD (i + 1) 0 - n.many]? = some (.ref ps[xs.getD (i + 1) 0 - n.many]) := by rw [List.getElem?_map, hpj]; rfl
          refine ⟨_, rfl, _, rfl, _, _, rfl, rfl, p, _, _, _, rfl, rfl, SqT.of hp3, (by rw [show (1 : Int) + ((i : Nat) : Int) - 1 = ((i : Nat) : Int) by omega]; exact atI_nat e0), ?_⟩
          refine ⟨_, rfl, a, _, 1, _, rfl, rfl, SqT.of N3.top, at1, _, rfl, _, rfl, p, _, _, _, rfl, rfl, SqT.of hp3, (by rw [show (1 : Int) + ((i : Nat) : Int) = ((i + 1 : Nat) : Int) by omega]; exact atI_nat e1), _, rfl, a, _, 0, _, rfl, rfl, SqT.of N3.top, at0, _, _, rfl, rfl, g, _, _, _, rfl, rfl, SqT.of N3.gt, (by rw [show ((xs.getD (i + 1) 0 : Nat) : Int) - ((n.many : Nat) : Int) = ((xs.getD (i + 1) 0 - n.many : Nat) : Int) by omega]; exact atI_nat ge), ?_⟩
          unfold tNoPart
          refine ⟨_, rfl, ?_⟩
          refine slA (lo := some ((1 : Nat) : Int)) (hi := none) hp9 fun r1 H4 s4 e4 => ?_
          rw [cut_lo] at e4
          have e4 : H4 r1 = some (.tup [nV gk.2.1, nV gk.2.2]) := e4
          have o4 : Own H2 H4 M (ks.map nV) := ⟨o3.sm.trans s4, s4 _ _ o3.at_, o3.nw⟩
          refine ⟨r1, _, rfl, .inr (SqT.of e4), rfl, rfl, _, rfl, ?_⟩
          rw [if_pos rfl, in2]
          have sb : stB n (xs.getD i 0) (xs.getD (i + 1) 0) = decide (xs.getD i 0 = gk.2.1 ∨ xs.getD i 0 = gk.2.2) := by
            unfold stB
            rw [hgk, decide_eq_true (show n.many ≤ xs.getD (i + 1) 0 by omega)]
            rfl
          by_cases hb : xs.getD i 0 = gk.2.1 ∨ xs.getD i 0 = gk.2.2
          · rw [decide_eq_true hb] at sb ⊢
            refine iteF ⟨ks, o4, good sb⟩
          · rw [decide_eq_false hb] at sb ⊢
            refine iteT ?_
            exact ⟨_, rfl, _, o4.at_, by rw [List.length_map]; exact small256 (by omega), ks ++ [i + 1], bad _ o4 sb⟩
      · rintro H3 ⟨ks, o3, kl, kst⟩
        rw [List.length_map] at kst
        refine ⟨small 0, fun e ne => ?_⟩
        have s4 := Same.new (o := .lst []) ne
        refine ⟨M, e, _, rfl, rfl, .inr ⟨SqL.of (s4 _ _ o3.at_), SqL.of upd_same⟩, ?_⟩
        refine q _ _ ?_ ((s1.trans o3.sm).trans s4)
        rw [decide_eq_true_iff, List.length_map, List.length_eq_zero_iff, kst, way_iff l0 fun x hx => by have := le x hx; omega]
        exact ⟨fun z => ⟨h3', hl, fun i hi => z i (by omega)⟩, fun z j hj => z.2.2 j (by omega)⟩
end
end K24
set_option Elab.async false
set_option linter.all false
set_option maxRecDepth 100000
set_option maxHeartbeats 4000000
namespace K24
open PySem PySem.Spec PyProof.Rows L2 GX
open C8 (Cal pe_c pe_gc Met Mak)
section
variable {P : Program} {w : World} {K : PySem.W.Frag} {mg : Str → Option Value} {base : Heap} {Ts : List Addr}
theorem tyesP {σ : L2.St} {H : Hp} {A B : Hp → Prop} (h : A H) : tYes σ H fun b H3 => if b = true then A H3 else B H3 := by
  unfold tYes
  exact iteT h
/-! ### papers of depths over things -/
def posB : Th → Bool
  | .int l => decide (1 ≤ l)
  | _ => false
def entB : Th → Bool
  | .tup [a, b] => posB a && b.kTup
  | _ => false
def spEntry : Sp := fun vs H Q _ => ∃ v t, vs = [v] ∧ Rep H v t ∧ Q (.bl (entB t)) H
theorem ent_bad {ts : List Th} (h : ts.length ≠ 2) : entB (.tup ts) = false := by
  match ts, h with
  | [], _ => rfl
  | [a], _ => simp [entB]
  | [a, b], h => exact absurd rfl h
  | a :: b :: c :: r, _ => simp [entB]
theorem ent_no {t : Th} (h : ∀ ts, t ≠ .tup ts) : entB t = false := by
  cases t <;> first | rfl | (exact absurd rfl (h _))
theorem ok_entry {f c : Addr} (D : Dfn K mg "is_entry" s_is_entry f c) (T : Txt mg) (c_is_whole : Cal P w K mg base 1 "is_whole" spWhole []) : Cal P w K mg base 2 "is_entry" spEntry [] := by
  refine cal D (fun _ _ _ _ _ _ us hl => match us, hl with | [_], _ => rfl) sc_is_entry (fun vs H Q E h => ?_) (fun A outer s H vs Q E hr h => ?_)
  · obtain ⟨v, t, rfl, _⟩ := h
    rfl
  · obtain ⟨v, t, rfl, r, q⟩ := h
    refine ⟨_, (pss_cons (ps_if (PW.pt (pw_or (pt_not (pt_val (pe_callB call_isi (by rfl) T.b_isinstance (by decide +kernel) (pa_cons (pv 0) (pa_cons (pe_bltn (v := .ty "tuple") (by rfl) T.b_tuple (by decide +kernel) rfl) pa_nil))))) (pw_or1 (pt_cmpR op_ne (pe_callB call_len_seq (by rfl) T.b_len (by decide +kernel) (pa_cons (pv 0) pa_nil)) pe_int (nomark _))))) (pss_one (ps_ret pe_bl)) pss_nil)
      (pss_cons (ps_asg (pv 0) (pg_tup rfl (pgs_cons (pg_name (i := 1) sc_is_entry.nd rfl (by first | exact Or.inl rfl | exact Or.inr rfl)) (pgs_cons (pg_name (i := 2) sc_is_entry.nd rfl (by first | exact Or.inl rfl | exact Or.inr rfl)) pgs_nil))))
      (pss_one (ps_ret (pe_and (pe_c c_is_whole hr (by decide) (by rfl) (pa_cons (pv 1) pa_nil)) (pe_and (pe_cmpR op_ge (pv 1) pe_int (nomark _)) (pe_one (pe_callB call_isi (by rfl) T.b_isinstance (by decide +kernel) (pa_cons (pv 2) (pa_cons (pe_bltn (v := .ty "tuple") (by rfl) T.b_tuple (by decide +kernel) rfl) pa_nil)))))))))), ?_⟩
    refine ⟨_, rfl, _, _, _, _, t.kTup, rfl, .ty "tuple", tyx r, kit_ty (kTup_ok t), _, rfl, ite2 (fun h1 => ?_) (fun h1 => ?_)⟩
    · rw [ent_no (yesK h1)] at q
      exact q
    obtain ⟨ta, vs, ts, rfl, rfl, ht, ra⟩ := r.tupI h1
    have vl := ra.length
    refine ⟨_, rfl, ta, _, rfl, .inr (SqT.of ht), rfl, _, rfl, ite2 (fun h2 => ?_) (fun h2 => ?_)⟩
    · rw [ent_bad] at q
      · exact q
      · intro z
        rw [vl, z] at h2
        simp at h2
    have l2 : vs.length = 2 := by
      by_cases z : vs.length = 2
      · exact z
      · exact absurd (by simp; omega) h2
    match vs, ts, ra, l2 with
    | [v1, v2], [t1, t2], .cons r1 (.cons r2 .nil), _ =>
      refine ⟨_, rfl, ta, _, rfl, SqT.of ht, rfl, _, _, rfl, _, _, rfl, rfl, ?_⟩
      refine ⟨_, rfl, v1, t1, rfl, r1, _, rfl, ?_⟩
      have q : Q (.bl (posB t1 && t2.kTup)) H := q
      by_cases hw : t1.whole = true
      · rw [if_pos hw]
        cases r1 with
        | int l =>
          refine ⟨_, rfl, _, _, rfl, rfl, _, rfl, ?_⟩
          by_cases hl : decide (1 ≤ l) = true
          · rw [if_pos hl]
            refine ⟨_, rfl, _, _, _, _, t2.kTup, rfl, .ty "tuple", tyx r2, kit_ty (kTup_ok t2), ?_⟩
            rw [show posB (.int l) = true from hl, Bool.true_and] at q
            exact q
          · rw [if_neg hl]
            rw [show posB (.int l) = false from Bool.eq_false_iff.mpr hl, Bool.false_and] at q
            exact q
        | _ => cases hw
      · rw [if_neg hw]
        have : posB t1 = false := by cases t1 <;> first | rfl | exact absurd rfl hw
        rw [this, Bool.false_and] at q
        exact q
def entsB (n : Net) : Th → Bool
  | .tup ts => decide (ts.length = n.gates.length) && ts.all entB
  | _ => false
def spEntries (Ts : List Addr) : Sp := fun vs H Q _ => ∃ (a : Addr) (n : Net) (g o : Addr) (ps : List Addr) (v : V) (t : Th), vs = [.ref a, v] ∧ NetAt H a n g o ps ∧ Rep H v t ∧ Tabs Ts H ∧ ∀ H', Aft Ts H H' → Q (.bl (entsB n t)) H'
theorem ok_entries {f c PE' : Addr} (D : Dfn K mg "are_entries" s_are_entries f c) (T : Txt mg) (c_is_entry : Cal P w K mg base 2 "is_entry" spEntry []) (TB_are_entries : GxR.TabB base mg c PE') (hP : PE' ∈ Ts) : Cal P w K mg base 4 "are_entries" (spEntries Ts) [] := by
  refine cal D (fun _ _ _ _ _ _ us hl => match us, hl with | [_, _], _ => rfl) sc_are_entries (fun vs H Q E h => ?_) (fun A outer s H vs Q E hr h => ?_)
  · obtain ⟨a, n, g, o, ps, v, t, rfl, _⟩ := h
    rfl
  · obtain ⟨a, n, g, o, ps, v, t, rfl, N, r, tb, q⟩ := h
    refine ⟨_, (pss_cons (ps_if (PW.pt (pw_or (pt_not (pt_val (pe_callB call_isi (by rfl) T.b_isinstance (by decide +kernel) (pa_cons (pv 1) (pa_cons (pe_bltn (v := .ty "tuple") (by rfl) T.b_tuple (by decide +kernel) rfl) pa_nil))))) (pw_or1 (pt_cmpR op_ne (pe_callB call_len_seq (by rfl) T.b_len (by decide +kernel) (pa_cons (pv 1) pa_nil)) (pe_callB call_len_seq (by rfl) T.b_len (by decide +kernel) (pa_cons (pe_ix ix_tup (pv 0) pe_int (fun _ _ => rfl)) pa_nil)) (nomark _))))) (pss_one (ps_ret pe_bl)) pss_nil)
      (pss_one (ps_ret (pe_allG (own := [("entry", 2)]) hr (by rfl) T.b_all TB_are_entries rfl (gxOk_by (N := ["net", "thing", "entry"]) (sc := defScope s_are_entries) (own := [("entry", 2)]) (by decide +kernel)) sc_are_entries.nd (pi_tup (pv 1)) (fun _ _ _ _ => (pg_name (i := 2) sc_are_entries.nd rfl (by first | exact Or.inl rfl | exact Or.inr rfl))) (fun _ _ _ _ => pts_nil) (fun _ _ _ _ => (pe_c c_is_entry (GX.Room.gx2 hr) (by decide) (by rfl) (pa_cons (pv 2) pa_nil))))))), ?_⟩
    have gl : (ps.map V.ref).length = n.gates.length := by rw [List.length_map]; exact N.gs.1
    refine ⟨_, rfl, _, _, _, _, t.kTup, rfl, .ty "tuple", tyx r, kit_ty (kTup_ok t), _, rfl, ite2 (fun h1 => ?_) (fun h1 => ?_)⟩
    · have q := q H (Aft.refl tb)
      have : entsB n t = false := by cases t <;> first | rfl | (exact absurd rfl (yesK h1 _))
      rw [this] at q
      exact q
    obtain ⟨ta, vs, ts, rfl, rfl, ht, ra⟩ := r.tupI h1
    have vl := ra.length
    have q : ∀ H', Aft Ts H H' → Q (.bl (decide (ts.length = n.gates.length) && ts.all entB)) H' := q
    refine ⟨_, rfl, ta, _, rfl, .inr (SqT.of ht), _, rfl, a, _, 1, _, rfl, rfl, SqT.of N.top, at1, g, _, rfl, .inr (SqT.of N.gt), rfl, _, rfl, ?_⟩
    rw [gl, vl, dec_int]
    refine ite2 (fun h2 => ?_) (fun h2 => ?_)
    · have q := q H (Aft.refl tb)
      rw [decide_eq_false (fun z => by rw [z] at h2; simp at h2), Bool.false_and] at q
      exact q
    have hl : ts.length = n.gates.length := by
      by_cases z : ts.length = n.gates.length
      · exact z
      · exact absurd (by simp; omega) h2
    rw [decide_eq_true hl, Bool.true_and] at q
    refine ⟨_, rfl, ta, rfl, ⟨_, SqT.of ht⟩, tb PE' hP, fun H2 htab => ?_⟩
    have a2 : Aft Ts H H2 := ⟨Keep.tabbed hP htab, tb.tabbed htab⟩
    refine turns_it (walk_tup (xs := vs)) (fun i ys H' => Aft Ts H H' ∧ (ts.take i).all entB = true) ⟨a2, rfl⟩ (fun i ys H' _ hp => SqT.of (hp.1.tup tb ht)) ?_ ?_
    · rintro i x ys H3 H4 hi ⟨a3, al⟩ ⟨rfl, hx⟩
      obtain ⟨t', ht', rt⟩ := ra.get hx
      refine ⟨rfl, ?_⟩
      unfold tYes
      refine iteT ?_
      refine ⟨_, rfl, x, t', rfl, rt.mono (KeepT.aft tb a3), ⟨_, rfl, fun hf => ?_⟩, fun hn => ⟨a3, ?_⟩⟩
      · have q := q _ a3
        have : ts.all entB = false := by
          rw [Bool.eq_false_iff]
          intro z
          rw [List.all_eq_true.mp z t' (List.mem_of_getElem? ht')] at hf
          cases hf
        rw [this] at q
        exact q
      · rw [List.take_add_one, ht', List.all_append, al, Option.toList_some]
        show (true && (entB t' && true)) = true
        rw [V.bl.inj hn]
        rfl
    · rintro ys H3 ⟨a3, al⟩
      rw [vl, List.take_length] at al
      have q := q _ a3
      rw [al] at q
      exact q
/-- whether two ways are apart -/
def apB (lab : List Int) (least : Int) (xs ys : List Nat) : Bool := xs.all fun x => !decide (x ∈ ys) || decide (least ≤ lab.getD x 0)
def spApart (Ts : List Addr) : Sp := fun vs H Q _ => ∃ (p p' l : Addr) (xs ys : List Nat) (lab : List Int) (least : Int), vs = [.ref p, .ref p', .ref l, .int least] ∧ H p = some (.tup (xs.map nV)) ∧ H p' = some (.tup (ys.map nV)) ∧ H l = some (.lst (lab.map V.int)) ∧ (∀ x ∈ xs, x < lab.length) ∧ Tabs Ts H ∧ ∀ H', Aft Ts H H' → Q (.bl (apB lab least xs ys)) H'
theorem ok_apart {f c PE' : Addr} (D : Dfn K mg "are_apart" s_are_apart f c) (T : Txt mg) (TB_are_apart : GxR.TabB base mg c PE') (hP : PE' ∈ Ts) : Cal P w K mg base 2 "are_apart" (spApart Ts) [] := by
  refine cal D (fun _ _ _ _ _ _ us hl => match us, hl with | [_, _, _, _], _ => rfl) sc_are_apart (fun vs H Q E h => ?_) (fun A outer s H vs Q E hr h => ?_)
  · obtain ⟨p, p', l, xs, ys, lab, least, rfl, _⟩ := h
    rfl
  · obtain ⟨p, p', l, xs, ys, lab, least, rfl, hp, hp', hl, lt, tb, q⟩ := h
    refine ⟨_, (pss_one (ps_ret (pe_allG (own := [("wire", 4)]) hr (by rfl) T.b_all TB_are_apart rfl (gxOk_by (N := ["one", "other", "labels", "least", "wire"]) (sc := defScope s_are_apart) (own := [("wire", 4)]) (by decide +kernel)) sc_are_apart.nd (pi_tup (pv 0)) (fun _ _ _ _ => (pg_name (i := 4) sc_are_apart.nd rfl (by first | exact Or.inl rfl | exact Or.inr rfl))) (fun _ _ _ _ => (pts_one (pt_cmpR (op_in_seqK (K := K)) (pv 4) (pv 1) (by rfl)))) (fun _ _ _ _ => (pe_cmpR op_ge (pe_ix (ix_listK (K := K)) (pv 2) (pv 4) (fun _ _ => rfl)) (pv 3) (nomark _)))))), ?_⟩
    refine ⟨_, rfl, p, rfl, ⟨_, SqT.of hp⟩, tb PE' hP, fun H2 htab => ?_⟩
    have a2 : Aft Ts H H2 := ⟨Keep.tabbed hP htab, tb.tabbed htab⟩
    refine turns_it (walk_tup (xs := xs.map nV)) (fun i zs H' => Aft Ts H H' ∧ apB lab least (xs.take i) ys = true) ⟨a2, rfl⟩ (fun i zs H' _ hh => SqT.of (hh.1.tup tb hp)) ?_ ?_
    · rintro i x zs H3 H4 hi ⟨a3, al⟩ ⟨rfl, hx⟩
      rw [List.length_map] at hi
      have ex : xs[i]? = some xs[i] := List.getElem?_eq_getElem hi
      rw [List.getElem?_map, ex] at hx
      cases hx
      have xl := lt _ (List.getElem_mem hi)
      have step : ∀ b : Bool, (!decide (xs[i] ∈ ys) || decide (least ≤ lab.getD xs[i] 0)) = b → apB lab least (xs.take (i + 1)) ys = b := fun b hb => by
        unfold apB at al ⊢
        rw [List.take_add_one, ex, List.all_append, al, Option.toList_some]
        show (true && ((!decide (xs[i] ∈ ys) || decide (least ≤ lab.getD xs[i] 0)) && true)) = b
        rw [hb]
        cases b <;> rfl
      generalize xs[i] = x at ex xl step ⊢
      refine ⟨rfl, ?_⟩
      refine ⟨_, rfl, _, rfl, p', _, rfl, .inr (SqT.of (a3.tup tb hp')), rfl, flat_ns ys, _, rfl, ?_⟩
      rw [if_neg Bool.false_ne_true, inV_n]
      by_cases hm : x ∈ ys
      · rw [decide_eq_true hm]
        refine iteT ?_
        have hle : (lab.map V.int)[x]? = some (V.int (lab.getD x 0)) := by
          rw [List.getElem?_map, List.getD_eq_getElem?_getD, List.getElem?_eq_getElem xl]
          rfl
        refine ⟨_, rfl, _, rfl, l, _, _, _, rfl, rfl, SqL.of (a3.lst tb hl), atI_nat hle, _, rfl, _, _, rfl, rfl, ⟨_, rfl, fun hf => ?_⟩, fun hn => ⟨a3, step true ?_⟩⟩
        · have q := q _ a3
          have : apB lab least xs ys = false := by
            rw [Bool.eq_false_iff]
            intro z
            have := List.all_eq_true.mp z x (List.mem_of_getElem? ex)
            rw [decide_eq_true hm, Bool.not_true, Bool.false_or] at this
            exact absurd (of_decide_eq_true this) (of_decide_eq_false hf)
          rw [this] at q
          exact q
        · rw [show decide (least ≤ lab.getD x 0) = true from V.bl.inj hn, Bool.or_true]
      · rw [decide_eq_false hm]
        refine iteF ⟨a3, step true ?_⟩
        rw [decide_eq_false hm]
        rfl
    · rintro zs H3 ⟨a3, al⟩
      rw [List.length_map, List.take_length] at al
      have q := q _ a3
      rw [al] at q
      exact q
/-- whether a tuple of things shows the gate's label -/
def ShowsT (n : Net) (k : Nat) (lab : List Int) (g : Nat) (ws : List Th) : Prop := (lab.getD g 0 = 1 ∧ ws = []) ∨ (lab.getD g 0 ≠ 1 ∧ ∃ xss : List (List Nat), ws = xss.map thWs ∧ xss.length = k + 1 ∧ (∀ xs ∈ xss, Way n g xs) ∧ ∀ i j, i < j → j < xss.length → apB lab (lab.getD g 0 - 1) (xss.getD i []) (xss.getD j []) = true)
def spShows (Ts : List Addr) : Sp := fun vs H Q _ => ∃ (a : Addr) (n : Net) (g o : Addr) (ps : List Addr) (k gt : Nat) (l wa : Addr) (lab : List Int) (us : List V) (ws : List Th), vs = [.ref a, nV k, nV gt, .ref l, .ref wa] ∧ NetAt H a n g o ps ∧ n.Ok ∧ H l = some (.lst (lab.map V.int)) ∧ lab.length = n.many + n.gates.length ∧ gt < n.many + n.gates.length ∧ H wa = some (.tup us) ∧ RepAll H us ws ∧ k ≤ 100 ∧ Tabs Ts H ∧ ∀ (b : Bool) H', (b = true ↔ ShowsT n k lab gt ws) → Aft Ts H H' → Q (.bl b) H'
theorem ok_shows {f c PE' : Addr} (D : Dfn K mg "shows_label" s_shows_label f c) (T : Txt mg) (c_is_way : Cal P w K mg base 4 "is_way" (spIsWayT Ts) []) (c_are_apart : Cal P w K mg base 2 "are_apart" (spApart Ts) []) (TB_shows_label : GxR.TabB base mg c PE') (hP : PE' ∈ Ts) : Cal P w K mg base 6 "shows_label" (spShows Ts) [] := by
  refine cal D (fun _ _ _ _ _ _ us hl => match us, hl with | [_, _, _, _, _], _ => rfl) sc_shows_label (fun vs H Q E h => ?_) (fun A outer s H vs Q E hr h => ?_)
  · obtain ⟨a, n, g, o, ps, k, gt, l, wa, lab, us, ws, rfl, _⟩ := h
    rfl
  · obtain ⟨a, n, g, o, ps, k, gt, l, wa, lab, us, ws, rfl, N, ok, hl, ll, hgt, hwa, ra, hk, tb, q⟩ := h
    refine ⟨_, (pss_cons (ps_if (pt_cmpR op_eq (pe_ix ix_list (pv 3) (pv 2) (fun _ _ => rfl)) pe_int (nomark _)) (pss_one (ps_ret (pe_cmpR op_eq (pe_callB call_len_seq (by rfl) T.b_len (by decide +kernel) (pa_cons (pv 4) pa_nil)) pe_int (nomark _)))) pss_nil)
      (pss_cons (ps_if (PW.pt (pw_or (pt_cmpR op_ne (pe_callB call_len_seq (by rfl) T.b_len (by decide +kernel) (pa_cons (pv 4) pa_nil)) (pe_op op_add (pv 1) pe_int) (nomark _)) (pw_or1 (pt_not (pt_val (pe_allG (own := [("way", 5)]) hr (by rfl) T.b_all TB_shows_label rfl (gxOk_by (N := ["net", "k", "gate", "labels", "ways", "way", "least", "at", "later"]) (sc := defScope s_shows_label) (own := [("way", 5)]) (by decide +kernel)) sc_shows_label.nd (pi_tup (pv 4)) (fun _ _ _ _ => (pg_name (i := 5) sc_shows_label.nd rfl (by first | exact Or.inl rfl | exact Or.inr rfl))) (fun _ _ _ _ => pts_nil) (fun _ _ _ _ => (pe_c c_is_way (GX.Room.gx2 hr) (by decide) (by rfl) (pa_cons (pv 0) (pa_cons (pv 2) (pa_cons (pv 5) pa_nil))))))))))) (pss_one (ps_ret pe_bl)) pss_nil)
      (pss_cons (ps_set (i := 6) sc_shows_label.nd rfl (by first | exact Or.inl rfl | exact Or.inr rfl) (pe_op op_sub (pe_ix ix_list (pv 3) (pv 2) (fun _ _ => rfl)) pe_int))
      (pss_one (ps_ret (pe_allG2 (own := [("at", 7), ("way", 5), ("later", 8)]) (vs1 := [8]) hr (by rfl) T.b_all TB_shows_label rfl (gxOk_by (N := ["net", "k", "gate", "labels", "ways", "way", "least", "at", "later"]) (sc := defScope s_shows_label) (own := [("at", 7), ("way", 5), ("later", 8)]) (by decide +kernel)) sc_shows_label.nd (pi_enumT (by rfl) T.b_enumerate (pa_cons (pv 4) pa_nil)) (fun _ _ _ _ => (pg_tupK (K := K) (n := 2) rfl rfl (pgs_cons (pg_name (i := 7) sc_shows_label.nd rfl (by first | exact Or.inl rfl | exact Or.inr rfl)) (pgs_cons (pg_name (i := 5) sc_shows_label.nd rfl (by first | exact Or.inl rfl | exact Or.inr rfl)) pgs_nil)))) (fun _ _ _ _ => pts_nil) (fun _ _ _ _ => (pi_range2 (by rfl) T.b_range (pa_cons (pe_op op_add (pv 7) pe_int) (pa_cons (pe_callB (len_seqK (K := K)) (by rfl) T.b_len (by decide +kernel) (pa_cons (pv 4) pa_nil)) pa_nil)))) (fun _ _ _ _ => (pg_name (i := 8) sc_shows_label.nd rfl (by first | exact Or.inl rfl | exact Or.inr rfl))) (fun _ _ _ _ => pts_nil) (fun _ _ _ _ => (pe_c c_are_apart (GX.Room.gx2 hr) (by decide) (by rfl) (pa_cons (pv 5) (pa_cons (pe_ix (ix_tupK (K := K)) (pv 4) (pv 8) (fun _ _ => rfl)) (pa_cons (pv 3) (pa_cons (pv 6) pa_nil)))))) (by decide))))))), ?_⟩
    have vl := ra.length
    have hle : (lab.map V.int)[gt]? = some (V.int (lab.getD gt 0)) := by
      rw [List.getElem?_map, List.getD_eq_getElem?_getD, List.getElem?_eq_getElem (by rw [ll]; exact hgt)]
      rfl
    refine ⟨_, rfl, _, rfl, l, _, _, _, rfl, rfl, SqL.of hl, atI_nat hle, rfl, _, rfl, ?_⟩
    rw [show decide (V.int (lab.getD gt 0) = V.int 1) = decide (lab.getD gt 0 = 1) by simp]
    refine ite2 (fun h1 => ?_) (fun h1 => ?_)
    · have h1 := of_decide_eq_true h1
      refine ⟨_, rfl, wa, _, rfl, .inr (SqT.of hwa), rfl, ?_⟩
      refine q _ H ?_ (Aft.refl tb)
      rw [decide_eq_true_iff, V.int.injEq, vl]
      constructor
      · intro z
        exact .inl ⟨h1, List.length_eq_zero_iff.mp (by omega)⟩
      · rintro (⟨_, z⟩ | ⟨z, _⟩)
        · rw [z]; rfl
        · exact absurd h1 z
    have h1 : lab.getD gt 0 ≠ 1 := fun z => h1 (decide_eq_true z)
    have q2 : ∀ (b : Bool) H', (b = true ↔ ∃ xss : List (List Nat), ws = xss.map thWs ∧ xss.length = k + 1 ∧ (∀ xs ∈ xss, Way n gt xs) ∧ ∀ i j, i < j → j < xss.length → apB lab (lab.getD gt 0 - 1) (xss.getD i []) (xss.getD j []) = true) → Aft Ts H H' → Q (.bl b) H' := fun b H' hb aa => q b H' (hb.trans ⟨fun z => .inr ⟨h1, z⟩, fun z => z.elim (fun y => absurd y.1 h1) (fun y => y.2)⟩) aa
    clear q
    refine ⟨_, rfl, wa, _, rfl, .inr (SqT.of hwa), _, rfl, _, _, rfl, rfl, rfl, _, rfl, ?_⟩
    refine ite2 (fun h2 => ?_) (fun h2 => ?_)
    · have h2 : (!decide (V.int ((us.length : Nat) : Int) = V.int (((k : Nat) : Int) + 1))) = true := h2
      refine q2 false _ ⟨fun z => (by cases z), fun ⟨xss, e, el, _⟩ => ?_⟩ (Aft.refl tb)
      rw [decide_eq_true (show V.int ((us.length : Nat) : Int) = V.int (((k : Nat) : Int) + 1) by
        rw [vl, e, List.length_map, el]
        rfl)] at h2
      cases h2
    have wl : ws.length = k + 1 := by
      have h2 : ¬ (!decide (V.int ((us.length : Nat) : Int) = V.int (((k : Nat) : Int) + 1))) = true := h2
      by_cases z : ws.length = k + 1
      · exact z
      · refine absurd ?_ h2
        rw [decide_eq_false (fun y => by have := V.int.inj y; omega)]
        rfl
    refine ⟨_, rfl, wa, rfl, ⟨_, SqT.of hwa⟩, tb PE' hP, fun H2 htab => ?_⟩
    have a2 : Aft Ts H H2 := ⟨Keep.tabbed hP htab, tb.tabbed htab⟩
    refine turns_it (walk_tup (xs := us)) (fun i ys H' => Aft Ts H H' ∧ ∃ xss : List (List Nat), ws.take i = xss.map thWs ∧ ∀ xs ∈ xss, Way n gt xs) ⟨a2, [], rfl, fun xs hx => (by cases hx)⟩ (fun i ys H' _ hp => SqT.of (hp.1.tup tb hwa)) ?_ ?_
    · rintro i x ys H3 H4 hi ⟨a3, xss, ex, hw⟩ ⟨rfl, hx⟩
      obtain ⟨t', ht', rt⟩ := ra.get hx
      refine ⟨rfl, ?_⟩
      unfold tYes
      refine iteT ?_
      refine ⟨_, rfl, _, rfl, _, rfl, a, n, g, o, ps, gt, x, t', rfl, N.aft tb a3, ok, rt.mono (KeepT.aft tb a3), a3.tb, fun b H5 hb a5 => ?_⟩
      have a35 := a3.trans a5
      refine ⟨⟨_, rfl, fun hf => ?_⟩, fun hn => ⟨a35, ?_⟩⟩
      · refine ⟨_, rfl, iteT ?_⟩
        refine q2 false _ ⟨fun z => (by cases z), fun ⟨yss, e, _, wy, _⟩ => ?_⟩ a35
        rw [e, List.getElem?_map] at ht'
        obtain ⟨y, ey, e3⟩ := Option.map_eq_some_iff.mp ht'
        have := hb.mpr ⟨y, e3.symm, wy y (List.mem_of_getElem? ey)⟩
        rw [hf] at this
        cases this
      · obtain ⟨zs, rfl, wz⟩ := hb.mp (V.bl.inj hn)
        refine ⟨xss ++ [zs], ?_, fun xs hx => ?_⟩
        · rw [List.take_add_one, ht', ex, List.map_append]
          rfl
        · rcases List.mem_append.mp hx with h | h
          · exact hw xs h
          · rw [List.mem_singleton.mp h]; exact wz
    · rintro ys H3 ⟨a3, xss, ex, hw⟩
      rw [vl, List.take_length] at ex
      subst ex
      rw [List.length_map] at wl
      have us_at : ∀ i, i < xss.length → ∃ p, us[i]? = some (.ref p) ∧ H p = some (.tup ((xss.getD i []).map nV)) := fun i hi => by
        have hil : i < us.length := by rw [vl, List.length_map]; exact hi
        obtain ⟨t', ht', rt⟩ := ra.get (List.getElem?_eq_getElem hil)
        rw [List.getElem?_map, List.getElem?_eq_getElem hi] at ht'
        cases ht'
        obtain ⟨p, e, hp⟩ := wsT_rep rt
        refine ⟨p, by rw [List.getElem?_eq_getElem hil, e], ?_⟩
        rw [List.getD_eq_getElem?_getD, List.getElem?_eq_getElem hi]
        exact hp
      have wlen : ∀ i, i < xss.length → ∀ x ∈ xss.getD i [], x < lab.length := fun i hi x hx => by
        rw [ll]
        have := hw (xss.getD i []) (by rw [List.getD_eq_getElem?_getD, List.getElem?_eq_getElem hi]; exact List.getElem_mem hi)
        exact this.lt x hx
      refine ⟨_, rfl, iteF ?_⟩
      have hl3 := a3.lst tb hl
      refine ⟨_, rfl, _, rfl, l, _, _, _, rfl, rfl, SqL.of hl3, atI_nat hle, _, _, rfl, rfl, ?_⟩
      have hwa3 := a3.tup tb hwa
      have ul : us.length = xss.length := by rw [vl, List.length_map]
      refine ⟨_, rfl, wa, _, rfl, SqT.of hwa3, a3.tb PE' hP, fun H4 htab2 => ?_⟩
      have a4 : Aft Ts H H4 := a3.trans ⟨Keep.tabbed hP htab2, a3.tb.tabbed htab2⟩
      refine turns2_it (walk_enumT (xs := us)) 200 (fun i ys H' => Aft Ts H H' ∧ ∀ i' j, i' < i → i' < j → j < xss.length → apB lab (lab.getD gt 0 - 1) (xss.getD i' []) (xss.getD j []) = true) ⟨a4, fun i' j h => absurd h (Nat.not_lt_zero _)⟩ (fun i ys H' _ hp => SqT.of (hp.1.tup tb hwa)) ?_ ?_
      · rintro i x ys H5 H6 hi ⟨a5, al⟩ ⟨T', v1, v2, rfl, nT, rfl, e1, e2⟩
        cases e1
        obtain ⟨p, ep, hp⟩ := us_at i (by omega)
        have e2 : us[i]? = some v2 := e2
        rw [ep] at e2
        cases e2
        have a6 := a5.trans (Aft.new (o := .tup [.int (i : Nat), .ref p]) a5.tb nT)
        refine ⟨T', _, rfl, SqT.of upd_same, rfl, _, _, rfl, _, _, rfl, rfl, rfl, tyesP ?_⟩
        refine ⟨_, rfl, _, _, rfl, rfl, _, rfl, wa, _, rfl, .inr (SqT.of (a6.tup tb hwa)), _, _, rfl, ⟨by omega, by omega, by omega, by omega⟩, ?_⟩
        refine inner_by (walk_range (lo := ((i : Nat) : Int) + 1) (n := (((us.length : Nat) : Int) - (((i : Nat) : Int) + 1)).toNat)) (n := us.length) (B := 200) (i := i) (by omega) hi (fun j ys H' => Aft Ts H H' ∧ ∀ j', i < j' → j' < i + 1 + j → j' < xss.length → apB lab (lab.getD gt 0 - 1) (xss.getD i []) (xss.getD j' []) = true) ⟨a6, fun j' h1 h2 => absurd h1 (by omega)⟩ (fun _ _ _ _ _ => trivial) ?_ ?_
        · rintro j x ys H7 H8 hj ⟨a7, al1⟩ ⟨rfl, rfl⟩
          refine ⟨rfl, ?_⟩
          unfold tYes
          refine iteT ?_
          have hjl : i + 1 + j < xss.length := by omega
          obtain ⟨p2, ep2, hp2⟩ := us_at (i + 1 + j) hjl
          refine ⟨_, rfl, _, rfl, _, rfl, wa, _, _, _, rfl, rfl, SqT.of (a7.tup tb hwa), (by rw [show ((i : Nat) : Int) + 1 + ((j : Nat) : Int) = ((i + 1 + j : Nat) : Int) by omega]; exact atI_nat ep2), _, rfl, _, rfl, ?_⟩
          refine ⟨p, p2, l, _, _, lab, _, rfl, a7.tup tb hp, a7.tup tb hp2, a7.lst tb hl, wlen i (by omega), a7.tb, fun H9 a9 => ?_⟩
          have a79 := a7.trans a9
          refine ⟨⟨_, rfl, fun hf => ?_⟩, fun hn => ⟨a79, fun j' h1 h2 h3 => ?_⟩⟩
          · refine q2 false _ ⟨fun z => (by cases z), fun ⟨yss, e, _, _, wy⟩ => ?_⟩ a79
            obtain rfl : xss = yss := map_inj' (fun _ _ => thWs_inj) e
            rw [wy i (i + 1 + j) (by omega) hjl] at hf
            cases hf
          · by_cases e : j' = i + 1 + j
            · rw [e]
              exact V.bl.inj hn
            · exact al1 j' h1 (by omega) h3
        · rintro ys H7 ⟨a7, al1⟩
          refine ⟨a7, fun i' j' h1 h2 h3 => ?_⟩
          by_cases e : i' = i
          · rw [e]
            exact al1 j' (by omega) (by omega) h3
          · exact al i' j' (by omega) h2 h3
      · rintro ys H5 ⟨a5, al⟩
        exact q2 true _ ⟨fun _ => ⟨xss, rfl, wl, hw, fun i j h1 h2 => al i j (by omega) h1 h2⟩, fun _ => rfl⟩ a5
end
end K24
set_option Elab.async false
set_option linter.all false
set_option maxRecDepth 100000
set_option maxHeartbeats 4000000
namespace K24
open PySem PySem.Spec PyProof.Rows L2 GX
open C8 (Cal pe_c pe_gc Met Mak)
section
variable {P : Program} {w : World} {K : PySem.W.Frag} {mg : Str → Option Value} {base : Heap} {Ts : List Addr}
def labT : Th → Int
  | .tup (.int l :: _) => l
  | _ => 0
def waysT : Th → List Th
  | .tup [_, .tup ws] => ws
  | _ => []
def labsT (n : Net) (ts : List Th) : List Int := List.replicate n.many 0 ++ ts.map labT
/-- a paper of depths, of anything -/
def PaperT (n : Net) (k : Nat) (t : Th) : Prop := ∃ ts : List Th, t = .tup ts ∧ ts.length = n.gates.length ∧ ts.all entB = true ∧ ∀ (i : Nat) (e : Th), ts[i]? = some e → ShowsT n k (labsT n ts) (n.many + i) (waysT e)
theorem labs_len (n : Net) (ts : List Th) : (labsT n ts).length = n.many + ts.length := by
  unfold labsT
  rw [List.length_append, List.length_replicate, List.length_map]
/-- an entry in the heap -/
theorem ent_at {H : Hp} {v : V} {t : Th} (r : Rep H v t) (h : entB t = true) : ∃ (p q : Addr) (us : List V), v = .ref p ∧ H p = some (.tup [.int (labT t), .ref q]) ∧ H q = some (.tup us) ∧ RepAll H us (waysT t) := by
  cases r with
  | tup hp ra =>
    cases ra with
    | nil => cases h
    | cons r1 ra =>
      cases ra with
      | nil => simp [entB] at h
      | cons r2 ra =>
        cases ra with
        | cons r3 ra => simp [entB] at h
        | nil =>
          rename_i v1 t1 v2 t2
          have h : (posB t1 && t2.kTup) = true := h
          rw [Bool.and_eq_true] at h
          cases r1 with
          | int l =>
            cases r2 with
            | tup hq rq => exact ⟨_, _, _, rfl, hp, hq, rq⟩
            | _ => cases h.2
          | _ => cases h.1
  | _ => cases h
def spPaper (Ts : List Addr) : Sp := fun vs H Q _ => ∃ (a : Addr) (n : Net) (g o : Addr) (ps : List Addr) (k : Nat) (v : V) (t : Th), vs = [.ref a, nV k, v] ∧ NetAt H a n g o ps ∧ n.Ok ∧ Rep H v t ∧ k ≤ 100 ∧ Tabs Ts H ∧ ∀ (b : Bool) H', (b = true ↔ PaperT n k t) → Aft Ts H H' → Q (.bl b) H'
theorem ok_paper {f c PE' : Addr} (D : Dfn K mg "depth_paper_holds" s_depth_paper_holds f c) (T : Txt mg) (c_are_entries : Cal P w K mg base 4 "are_entries" (spEntries Ts) []) (c_shows_label : Cal P w K mg base 6 "shows_label" (spShows Ts) []) (TB_depth_paper_holds : GxR.TabB base mg c PE') (hP : PE' ∈ Ts) : Cal P w K mg base 8 "depth_paper_holds" (spPaper Ts) [] := by
  refine cal D (fun _ _ _ _ _ _ us hl => match us, hl with | [_, _, _], _ => rfl) sc_depth_paper_holds (fun vs H Q E h => ?_) (fun A outer s H vs Q E hr h => ?_)
  · obtain ⟨a, n, g, o, ps, k, v, t, rfl, _⟩ := h
    rfl
  · obtain ⟨a, n, g, o, ps, k, v, t, rfl, N, ok, r, hk, tb, q⟩ := h
    refine ⟨_, (pss_cons (ps_if (pt_not (pt_val (pe_c c_are_entries hr (by decide) (by rfl) (pa_cons (pv 0) (pa_cons (pv 2) pa_nil))))) (pss_one (ps_ret pe_bl)) pss_nil)
      (pss_cons (ps_set (i := 3) sc_depth_paper_holds.nd rfl (by first | exact Or.inl rfl | exact Or.inr rfl) (pe_op op_cat (pe_op op_rep (pe_lst (pa_cons pe_int pa_nil)) (pe_ix ix_tup (pv 0) pe_int (fun _ _ => rfl))) (pe_lc (own := [("label", 4), ("ways", 5)])  (tt := tYes) rfl sc_depth_paper_holds.nd (pi_tup (pv 2)) (blkOk_by (own := [("label", 4), ("ways", 5)]) (N := ["net", "k", "thing", "labels", "label", "ways", "at", "entry"]) (sc := defScope s_depth_paper_holds) (by decide +kernel)) (fun _ _ _ _ _ => (pg_tupK (K := K) (n := 2) rfl rfl (pgs_cons (pg_name (i := 4) sc_depth_paper_holds.nd rfl (by first | exact Or.inl rfl | exact Or.inr rfl)) (pgs_cons (pg_name (i := 5) sc_depth_paper_holds.nd rfl (by first | exact Or.inl rfl | exact Or.inr rfl)) pgs_nil)))) (fun _ _ _ _ _ => pts_nil) (fun _ _ _ _ _ => (pv 4)))))
      (pss_one (ps_ret (pe_allG (own := [("at", 6), ("entry", 7)]) hr (by rfl) T.b_all TB_depth_paper_holds rfl (gxOk_by (N := ["net", "k", "thing", "labels", "label", "ways", "at", "entry"]) (sc := defScope s_depth_paper_holds) (own := [("at", 6), ("entry", 7)]) (by decide +kernel)) sc_depth_paper_holds.nd (pi_enumT (by rfl) T.b_enumerate (pa_cons (pv 2) pa_nil)) (fun _ _ _ _ => (pg_tupK (K := K) (n := 2) rfl rfl (pgs_cons (pg_name (i := 6) sc_depth_paper_holds.nd rfl (by first | exact Or.inl rfl | exact Or.inr rfl)) (pgs_cons (pg_name (i := 7) sc_depth_paper_holds.nd rfl (by first | exact Or.inl rfl | exact Or.inr rfl)) pgs_nil)))) (fun _ _ _ _ => pts_nil) (fun _ _ _ _ => (pe_c c_shows_label (GX.Room.gx2 hr) (by decide) (by rfl) (pa_cons (pv 0) (pa_cons (pv 1) (pa_cons (pe_op op_add (pe_ix (ix_tupK (K := K)) (pv 0) pe_int (fun _ _ => rfl)) (pv 6)) (pa_cons (pv 3) (pa_cons (pe_ix (ix_tupK (K := K)) (pv 7) pe_int (fun _ _ => rfl)) pa_nil)))))))))))), ?_⟩
    have m8 := ok.m8
    have g16 := ok.g16
    refine ⟨_, rfl, _, rfl, a, n, g, o, ps, v, t, rfl, N, r, tb, fun H1 a1 => ?_⟩
    refine ⟨_, rfl, ite2 (fun h1 => ?_) (fun h1 => ?_)⟩
    · refine q false _ ⟨fun z => (by cases z), fun ⟨ts, e, el, al, _⟩ => ?_⟩ a1
      rw [e] at h1
      have h1 : (!(decide (ts.length = n.gates.length) && ts.all entB)) = true := h1
      rw [decide_eq_true el, al] at h1
      cases h1
    have h1 : entsB n t = true := by
      cases z : entsB n t with
      | true => rfl
      | false => rw [z] at h1; exact absurd rfl h1
    obtain ⟨ta, us, ts, rfl, rfl, ht, ra⟩ : ∃ ta us ts, v = .ref ta ∧ t = .tup ts ∧ H ta = some (.tup us) ∧ RepAll H us ts := by
      cases r with
      | tup h ra => exact ⟨_, _, _, rfl, rfl, h, ra⟩
      | _ => cases h1
    have h1 : (decide (ts.length = n.gates.length) && ts.all entB) = true := h1
    rw [Bool.and_eq_true] at h1
    have el := of_decide_eq_true h1.1
    have al := h1.2
    have ul := ra.length
    have N1 := N.aft tb a1
    have ht1 := a1.tup tb ht
    refine ⟨small 1, fun z0 n0 => ?_⟩
    have s2 := Same.new (o := .lst [.int 0]) n0
    refine ⟨_, rfl, a, _, 0, _, rfl, rfl, SqT.of (N1.same s2).top, at0, z0, _, _, rfl, rfl, upd_same, by omega, by omega, ?_, fun l0 nl0 => ?_⟩
    · show 1 * (((n.many : Nat)) : Int).toNat ≤ sizeLine
      rw [Int.toNat_natCast]
      exact small _ (by omega)
    have ef : (List.replicate (((n.many : Nat)) : Int).toNat [V.int 0]).flatten = (List.replicate n.many (0 : Int)).map V.int := by
      rw [Int.toNat_natCast, List.map_replicate, List.flatten_replicate_singleton]
    rw [ef]
    have s3 := s2.trans (Same.new (o := .lst ((List.replicate n.many (0 : Int)).map V.int)) nl0)
    have hl0 : upd (upd H1 z0 (.lst [.int 0])) l0 (.lst ((List.replicate n.many (0 : Int)).map V.int)) l0 = some (.lst ((List.replicate n.many (0 : Int)).map V.int)) := upd_same
    generalize upd (upd H1 z0 (.lst [.int 0])) l0 (.lst ((List.replicate n.many (0 : Int)).map V.int)) = H3 at s3 hl0 ⊢
    have ht3 := s3 _ _ ht1
    have ra3 := (ra.mono (KeepT.aft tb a1)).mono (KeepT.same s3)
    refine ⟨_, rfl, ta, rfl, ⟨_, SqT.of ht3⟩, fun M nM => ?_⟩
    refine lc_tup (K := K) (a := ta) (xs := us) (fun i H' => Own H3 H' M (((ts.take i).map labT).map V.int)) ⟨Same.new nM, upd_same, nM⟩ (fun _ H' _ o' => SqT.of (o'.sm _ _ ht3)) ?_ ?_
    · rintro i x H4 hx o4
      obtain ⟨t', ht', rt⟩ := ra3.get hx
      have hil : i < ts.length := (List.getElem?_eq_some_iff.mp ht').1
      obtain ⟨p, q1, us1, rfl, hp, hq, rq⟩ := ent_at (rt.mono (KeepT.same o4.sm)) (List.all_eq_true.mp al t' (List.mem_of_getElem? ht'))
      refine ⟨p, _, rfl, SqT.of hp, rfl, _, _, rfl, _, _, rfl, rfl, rfl, ?_⟩
      unfold tYes
      refine iteT ?_
      refine ⟨_, rfl, _, o4.at_, by rw [List.length_map, List.length_map, List.length_take]; exact small256 (by omega), ?_⟩
      rw [List.take_add_one, ht', Option.toList_some, List.map_append, List.map_append]
      exact o4.app
    rintro H4 o4
    rw [ul, List.take_length] at o4
    refine ⟨l0, M, _, _, rfl, rfl, o4.sm _ _ hl0, o4.at_, by rw [List.length_map, List.length_map, List.length_map, List.length_replicate]; exact small _ (by omega), fun L nL => ?_⟩
    rw [← List.map_append]
    have s5 := (s3.trans o4.sm).trans (Same.new (o := .lst ((labsT n ts).map V.int)) nL)
    have hL : upd H4 L (.lst ((labsT n ts).map V.int)) L = some (.lst ((labsT n ts).map V.int)) := upd_same
    show _
    generalize hH5 : upd H4 L (.lst ((labsT n ts).map V.int)) = H5 at s5 hL
    rw [show List.replicate n.many (0 : Int) ++ List.map labT ts = labsT n ts from rfl, hH5]
    have a5 : Aft Ts H H5 := a1.trans (Aft.ofSame a1.tb s5)
    have ht5 := s5 _ _ ht1
    have N5 := N1.same s5
    have ra5 := ra.mono (KeepT.aft tb a5)
    have tb5 := a5.tb
    have ll := labs_len n ts
    refine ⟨_, rfl, ta, _, rfl, SqT.of ht5, tb5 PE' hP, fun H6 htab => ?_⟩
    have a6 : Aft Ts H5 H6 := ⟨Keep.tabbed hP htab, tb5.tabbed htab⟩
    refine turns_it (walk_enumT (xs := us)) (fun i ys H' => Aft Ts H5 H' ∧ ∀ (j : Nat) (e : Th), j < i → ts[j]? = some e → ShowsT n k (labsT n ts) (n.many + j) (waysT e)) ⟨a6, fun j e h => absurd h (Nat.not_lt_zero _)⟩ (fun i ys H' _ hp => SqT.of (hp.1.tup tb5 ht5)) ?_ ?_
    · rintro i x ys H7 H8 hi ⟨a7, sh⟩ ⟨T', v1, v2, rfl, nT, rfl, e1, e2⟩
      cases e1
      have e2 : us[i]? = some v2 := e2
      obtain ⟨t', ht', rt⟩ := ra5.get e2
      have hil : i < ts.length := (List.getElem?_eq_some_iff.mp ht').1
      have a8 := a7.trans (Aft.new (o := .tup [.int (i : Nat), v2]) a7.tb nT)
      obtain ⟨p, q1, us1, rfl, hp, hq, rq⟩ := ent_at (rt.mono (KeepT.aft tb5 a8)) (List.all_eq_true.mp al t' (List.mem_of_getElem? ht'))
      have N8 := N5.aft tb5 a8
      refine ⟨T', _, rfl, SqT.of upd_same, rfl, _, _, rfl, _, _, rfl, rfl, rfl, ?_⟩
      unfold tYes
      refine iteT ?_
      refine ⟨_, rfl, _, rfl, _, rfl, a, _, 0, _, rfl, rfl, SqT.of N8.top, at0, _, rfl, _, _, rfl, rfl, _, rfl, _, rfl, p, _, 1, _, rfl, rfl, SqT.of hp, at1, ?_⟩
      refine ⟨a, n, g, o, ps, k, n.many + i, L, q1, labsT n ts, us1, waysT t', rfl, N8, ok, a8.lst tb5 hL, by rw [ll, el], by omega, hq, rq, hk, a8.tb, fun b H9 hb a9 => ?_⟩
      have a89 := a8.trans a9
      refine ⟨⟨_, rfl, fun hf => ?_⟩, fun hn => ⟨a89, fun j e h1 h2 => ?_⟩⟩
      · refine q false _ ⟨fun z => (by cases z), fun ⟨ts2, e, _, _, sh2⟩ => ?_⟩ (a5.trans a89)
        obtain rfl := tup_inj e
        have := hb.mpr (sh2 i t' ht')
        rw [hf] at this
        cases this
      · by_cases z : j = i
        · rw [z] at h2 ⊢
          rw [ht'] at h2
          cases h2
          exact hb.mp (V.bl.inj hn)
        · exact sh j e (by omega) h2
    · rintro ys H7 ⟨a7, sh⟩
      exact q true _ ⟨fun _ => ⟨ts, rfl, el, al, fun i e h => sh i e (by rw [ul]; exact (List.getElem?_eq_some_iff.mp h).1) h⟩, fun _ => rfl⟩ (a5.trans a7)
end
end K24
set_option Elab.async false
set_option linter.all false
set_option maxRecDepth 100000
set_option maxHeartbeats 4000000
namespace K24
open PySem PySem.Spec PyProof.Rows L2 GX
open C8 (Cal pe_c pe_gc Met Mak)
section
variable {P : Program} {w : World} {K : PySem.W.Frag} {mg : Str → Option Value} {base : Heap} {Ts : List Addr}
def spLEnt : Sp := fun vs H Q _ => ∃ (a : Addr) (n : Net) (g o : Addr) (ps : List Addr) (k gt : Nat) (l wa : Addr) (lab : List Int) (us : List Addr) (ws : List (List Nat)), vs = [.ref a, nV k, .ref l, nV gt, .ref wa] ∧ NetAt H a n g o ps ∧ n.Ok ∧ H l = some (.lst (lab.map V.int)) ∧ lab.length = n.many + n.gates.length ∧ n.many ≤ gt ∧ gt < n.many + n.gates.length ∧ H wa = some (.tup (us.map V.ref)) ∧ TupsAt H us ws ∧ ws.length ≤ 100 ∧ (∀ xs ∈ ws, xs.length ≤ 1000 ∧ ∀ x ∈ xs, x < lab.length) ∧ k ≤ 100 ∧
  ∀ (b : Bool) H', (b = true ↔ ShowsT n k lab gt (ws.map thWs)) → Same H H' → Q (.bl b) H'
theorem ok_lent {f c : Addr} (D : Dfn K mg "_law_is_entry" s__law_is_entry f c) (T : Txt mg) (c__law_is_way : Cal P w K mg base 1 "_law_is_way" spLWay []) : Cal P w K mg base 2 "_law_is_entry" spLEnt [] := by
  refine cal D (fun _ _ _ _ _ _ us hl => match us, hl with | [_, _, _, _, _], _ => rfl) sc__law_is_entry (fun vs H Q E h => ?_) (fun A outer s H vs Q E hr h => ?_)
  · obtain ⟨a, n, g, o, ps, k, gt, l, wa, lab, us, ws, rfl, _⟩ := h
    rfl
  · obtain ⟨a, n, g, o, ps, k, gt, l, wa, lab, us, ws, rfl, N, ok, hl, ll, hgm, hgt, hwa, TW, w100, wx, hk, q⟩ := h
    refine ⟨_, (pss_cons (ps_if (PW.pt (pw_or (pt_cmpR op_eq (pe_ix ix_list (pv 2) (pv 3) (fun _ _ => rfl)) pe_int (nomark _)) (pw_or1 (pt_cmpR op_ne (pe_callB call_len_seq (by rfl) T.b_len (by decide +kernel) (pa_cons (pv 4) pa_nil)) (pe_op op_add (pv 1) pe_int) (nomark _))))) (pss_one (ps_ret (pe_and (pe_cmpR op_eq (pe_ix ix_list (pv 2) (pv 3) (fun _ _ => rfl)) pe_int (nomark _)) (pe_one (pe_cmpR (op_eq0 hr.units0) (pv 4) (pe_tup pa_nil) (nomark _)))))) pss_nil)
      (pss_cons (ps_if (pt_cmpR (op_ne0 hr.units0) (pe_lc (own := [("_law_way", 5)]) (g := gName 5)  rfl sc__law_is_entry.nd (pi_tup (pv 4)) (blkOk_by (own := [("_law_way", 5)]) (N := ["_law_net_here", "_law_k", "_law_labels", "_law_gate_here", "_law_ways", "_law_way", "_law_at", "_law_other", "_law_wire"]) (sc := defScope s__law_is_entry) (by decide +kernel)) (fun _ _ _ _ _ => (pg_name (i := 5) sc__law_is_entry.nd rfl (by first | exact Or.inl rfl | exact Or.inr rfl))) (fun _ _ _ _ _ => (pts_one (pt_not (pt_val (pe_c c__law_is_way hr (by decide) (by rfl) (pa_cons (pv 0) (pa_cons (pv 3) (pa_cons (pv 5) pa_nil)))))))) (fun _ _ _ _ _ => (pv 5))) (pe_lst pa_nil) (nomark _)) (pss_one (ps_ret pe_bl)) pss_nil)
      (pss_cons (ps_for PassesOwn.never rfl (pi_range1 (by rfl) T.b_range (pa_cons (pe_callB call_len_seq (by rfl) T.b_len (by decide +kernel) (pa_cons (pv 4) pa_nil)) pa_nil)) (pg_name (i := 6) sc__law_is_entry.nd rfl (by first | exact Or.inl rfl | exact Or.inr rfl))
        (pss_one (ps_for PassesOwn.never rfl (pi_tup (pe_slice sl_tupA (pv 4) po_none (po_some (pv 6)))) (pg_name (i := 7) sc__law_is_entry.nd rfl (by first | exact Or.inl rfl | exact Or.inr rfl))
        (pss_one (ps_if (pt_cmpR (op_ne0 hr.units0) (pe_lc (own := [("_law_wire", 8)]) (g := gName 8)  rfl sc__law_is_entry.nd (pi_tup (pv 7)) (blkOk_by (own := [("_law_wire", 8)]) (N := ["_law_net_here", "_law_k", "_law_labels", "_law_gate_here", "_law_ways", "_law_way", "_law_at", "_law_other", "_law_wire"]) (sc := defScope s__law_is_entry) (by decide +kernel)) (fun _ _ _ _ _ => (pg_name (i := 8) sc__law_is_entry.nd rfl (by first | exact Or.inl rfl | exact Or.inr rfl))) (fun _ _ _ _ _ => (pts_one (PW.pt (pw_and (pt_cmpR (op_in_seqK (K := K)) (pv 8) (pe_ix (ix_tupK (K := K)) (pv 4) (pv 6) (fun _ _ => rfl)) (by rfl)) (pw_and1 (pt_cmpR op_lt (pe_ix (ix_listK (K := K)) (pv 2) (pv 8) (fun _ _ => rfl)) (pe_op op_sub (pe_ix (ix_listK (K := K)) (pv 2) (pv 3) (fun _ _ => rfl)) pe_int) (nomark _))))))) (fun _ _ _ _ _ => (pv 8))) (pe_lst pa_nil) (nomark _)) (pss_one (ps_ret pe_bl)) pss_nil)))))
      (pss_one (ps_ret pe_bl))))), ?_⟩
    have hle : (lab.map V.int)[gt]? = some (V.int (lab.getD gt 0)) := by
      rw [List.getElem?_map, List.getD_eq_getElem?_getD, List.getElem?_eq_getElem (by rw [ll]; exact hgt)]
      rfl
    have ul : us.length = ws.length := TW.1
    refine ⟨_, rfl, _, rfl, l, _, _, _, rfl, rfl, SqL.of hl, atI_nat hle, rfl, _, rfl, ?_⟩
    by_cases h1 : lab.getD gt 0 = 1
    · rw [decide_eq_true (show V.int (lab.getD gt 0) = V.int 1 by rw [h1])]
      refine iteT ?_
      refine ⟨_, rfl, _, rfl, l, _, _, _, rfl, rfl, SqL.of hl, atI_nat hle, rfl, _, rfl, ?_⟩
      rw [decide_eq_true (show V.int (lab.getD gt 0) = V.int 1 by rw [h1]), if_pos rfl]
      refine ⟨_, rfl, small 0, fun e ne => ?_⟩
      have s1 := Same.new (o := .tup []) ne
      refine ⟨wa, e, _, rfl, rfl, .inl ⟨SqT.of (s1 _ _ hwa), SqT.of upd_same⟩, ?_⟩
      refine q _ _ ?_ s1
      rw [decide_eq_true_iff, List.length_map, ul]
      constructor
      · intro z
        exact .inl ⟨h1, by rw [List.length_eq_zero_iff.mp z]; rfl⟩
      · rintro (⟨_, z⟩ | ⟨z, _⟩)
        · rw [List.map_eq_nil_iff.mp z]; rfl
        · exact absurd h1 z
    rw [decide_eq_false (show ¬ V.int (lab.getD gt 0) = V.int 1 from fun z => h1 (V.int.inj z))]
    refine iteF ?_
    have q2 : ∀ (b : Bool) H', (b = true ↔ (ws.length = k + 1 ∧ (∀ xs ∈ ws, Way n gt xs) ∧ ∀ i j, i < j → j < ws.length → apB lab (lab.getD gt 0 - 1) (ws.getD i []) (ws.getD j []) = true)) → Same H H' → Q (.bl b) H' := fun b H' hb aa => q b H' (hb.trans ⟨fun ⟨z1, z2, z3⟩ => .inr ⟨h1, ws, rfl, z1, z2, z3⟩, fun z => z.elim (fun y => absurd y.1 h1) (fun ⟨_, yss, e, y1, y2, y3⟩ => by
      obtain rfl : ws = yss := map_inj' (fun _ _ => thWs_inj) e
      exact ⟨y1, y2, y3⟩)⟩) aa
    clear q
    refine ⟨_, rfl, wa, _, rfl, .inr (SqT.of hwa), _, rfl, _, _, rfl, rfl, rfl, _, rfl, ?_⟩
    by_cases wl : ws.length = k + 1
    case neg =>
      refine ite2 (fun _ => ?_) (fun h2 => absurd ?_ h2)
      · refine ⟨_, rfl, _, rfl, l, _, _, _, rfl, rfl, SqL.of hl, atI_nat hle, rfl, _, rfl, ?_⟩
        rw [decide_eq_false (show ¬ V.int (lab.getD gt 0) = V.int 1 from fun z => h1 (V.int.inj z)), if_neg Bool.false_ne_true]
        exact q2 false _ ⟨fun z => (by cases z), fun z => absurd z.1 wl⟩ (Same.refl _)
      · show (!decide (V.int (((us.map V.ref).length : Nat) : Int) = V.int (((k : Nat) : Int) + 1))) = true
        rw [decide_eq_false (fun y => by have := V.int.inj y; rw [List.length_map, ul] at this; omega)]
        rfl
    refine ite2 (fun h2 => absurd (show (!decide (V.int (((us.map V.ref).length : Nat) : Int) = V.int (((k : Nat) : Int) + 1))) = true from h2) ?_) (fun _ => ?_)
    · rw [decide_eq_true (by rw [List.length_map, ul, wl]; rfl)]
      exact Bool.false_ne_true
    refine ⟨_, rfl, wa, rfl, ⟨_, SqT.of hwa⟩, fun M nM => ?_⟩
    refine lc_tup (K := K) (a := wa) (xs := us.map V.ref) (fun i H' => ∃ bs : List Addr, Own H H' M (bs.map V.ref) ∧ bs.length ≤ i ∧ (bs = [] ↔ ∀ j xs, j < i → ws[j]? = some xs → Way n gt xs)) ⟨[], ⟨Same.new nM, upd_same, nM⟩, Nat.zero_le _, fun _ j xs h => absurd h (Nat.not_lt_zero _), fun _ => rfl⟩ (fun _ H' _ ⟨_, o', _⟩ => SqT.of (o'.sm _ _ hwa)) ?_ ?_
    · rintro i x H2 hx ⟨bs, o2, bl, biff⟩
      have T2 := TW.mono fun b zs e => o2.sm _ _ e
      obtain ⟨tq, xs, rfl, hxs, hat⟩ := T2.at_ hx
      have xm := List.mem_of_getElem? hxs
      have hil : i < ws.length := (List.getElem?_eq_some_iff.mp hxs).1
      refine ⟨rfl, ?_⟩
      refine ⟨_, rfl, _, rfl, _, rfl, a, n, g, o, ps, gt, tq, xs, rfl, N.same o2.sm, ok, hat, (wx xs xm).1, hgm, hgt, fun b H3 hb s3 => ?_⟩
      have o3 : Own H H3 M (bs.map V.ref) := ⟨o2.sm.trans s3, s3 _ _ o2.at_, o2.nw⟩
      refine ⟨_, rfl, ?_⟩
      cases b with
      | false =>
        refine iteT ?_
        refine ⟨_, rfl, _, o3.at_, by rw [List.length_map]; exact small256 (by omega), bs ++ [tq], by rw [List.map_append]; exact o3.app, by rw [List.length_append]; show _ + 1 ≤ _; omega, fun z => absurd z (by simp), fun z => ?_⟩
        have := hb.mpr (z i xs (Nat.lt_succ_self _) hxs)
        cases this
      | true =>
        refine iteF ⟨bs, o3, by omega, biff.trans ⟨fun z j ys hj hy => ?_, fun z j ys hj hy => z j ys (by omega) hy⟩⟩
        by_cases e : j = i
        · rw [e, hxs] at hy
          cases hy
          exact hb.mp rfl
        · exact z j ys (by omega) hy
    rintro H2 ⟨bs, o2, bl, biff⟩
    rw [List.length_map, ul] at biff bl
    refine ⟨small 0, fun e ne => ?_⟩
    have s3 := Same.new (o := .lst []) ne
    refine ⟨M, e, _, rfl, rfl, .inr ⟨SqL.of (s3 _ _ o2.at_), SqL.of upd_same⟩, _, rfl, ?_⟩
    rw [List.length_map]
    have s13 := o2.sm.trans s3
    generalize upd H2 e (.lst []) = H3 at s13 ⊢
    by_cases bz : bs = []
    case neg =>
      rw [decide_eq_false (fun z => bz (List.length_eq_zero_iff.mp z))]
      refine iteT ?_
      refine q2 false _ ⟨fun z => (by cases z), fun z => ?_⟩ s13
      exact absurd (biff.mpr fun j xs _ hx => z.2.1 xs (List.mem_of_getElem? hx)) bz
    have hw : ∀ xs ∈ ws, Way n gt xs := fun xs hx => by
      obtain ⟨j, hj⟩ := List.getElem?_of_mem hx
      exact biff.mp bz j xs (List.getElem?_eq_some_iff.mp hj).1 hj
    rw [decide_eq_true (show bs.length = 0 by rw [bz]; rfl)]
    refine iteF ?_
    have hwa3 := s13 _ _ hwa
    refine ⟨_, rfl, wa, _, rfl, .inr (SqT.of hwa3), _, rfl, by rw [List.length_map]; omega, by rw [List.length_map]; omega, ?_⟩
    refine for_range (lo := 0) (n := (((us.map V.ref).length : Nat) : Int).toNat) (fun i σ H' => ∃ x6 x7 : Option V, σ = [some (.ref a), some (nV k), some (.ref l), some (nV gt), some (.ref wa), none, x6, x7, none] ∧ Same H H' ∧ ∀ i' j, i' < j → j < i → apB lab (lab.getD gt 0 - 1) (ws.getD i' []) (ws.getD j []) = true) ⟨none, none, rfl, s13, fun i' j _ h => absurd h (Nat.not_lt_zero _)⟩ ?_ ?_
    · rintro i σ H4 hi ⟨x6, x7, rfl, s4, ap⟩
      rw [Int.toNat_natCast, List.length_map, ul] at hi
      rw [show V.int (0 + ((i : Nat) : Int)) = nV i from congrArg V.int (Int.zero_add _)]
      refine ⟨_, rfl, ?_⟩
      unfold tNoPart
      refine ⟨_, rfl, _, rfl, ?_⟩
      have hwa4 := s4 _ _ hwa
      refine slA (lo := none) (hi := some ((i : Nat) : Int)) hwa4 fun r1 H5 s5 e5 => ?_
      rw [cut_hi, ← List.map_take] at e5
      have s05 := s4.trans s5
      refine ⟨r1, rfl, ⟨_, SqT.of e5⟩, ?_⟩
      have hil : i < us.length := by omega
      have T5 := TW.mono fun b zs e => s05 _ _ e
      have ei : (us.map V.ref)[i]? = some (.ref us[i]) := by rw [List.getElem?_map, List.getElem?_eq_getElem hil]; rfl
      obtain ⟨pi, yi, epi, hyi, hati⟩ := T5.at_ ei
      have epi : V.ref us[i] = V.ref pi := epi
      rw [epi] at ei
      have hyi' : ws.getD i [] = yi := by rw [List.getD_eq_getElem?_getD, hyi]; rfl
      refine for_tup (K := K) (a := r1) (xs := (us.take i).map V.ref) (fun j σ H' => ∃ x7 : Option V, σ = [some (.ref a), some (nV k), some (.ref l), some (nV gt), some (.ref wa), none, some (nV i), x7, none] ∧ Same H5 H' ∧ ∀ i', i' < j → apB lab (lab.getD gt 0 - 1) (ws.getD i' []) (ws.getD i []) = true) ⟨x7, rfl, Same.refl _, fun i' h => absurd h (Nat.not_lt_zero _)⟩ ?_ ?_ ?_
      · rintro j σ H' _ ⟨_, _, s, _⟩
        exact SqT.of (s _ _ e5)
      · rintro j x σ H6 hx ⟨x7, rfl, s6, ap6⟩
        have hj : j < i := by
          have := (List.getElem?_eq_some_iff.mp hx).1
          rw [List.length_map, List.length_take] at this
          omega
        have hx : (us.map V.ref)[j]? = some x := by
          rw [List.map_take, List.getElem?_take_of_lt hj] at hx
          exact hx
        have s06 := s05.trans s6
        have T6 := TW.mono fun b zs e => s06 _ _ e
        obtain ⟨tq, xs, rfl, hxs, hat⟩ := T6.at_ hx
        have hxs' : ws.getD j [] = xs := by rw [List.getD_eq_getElem?_getD, hxs]; rfl
        have xm := List.mem_of_getElem? hxs
        have hati6 := s6 _ _ hati
        have hl6 := s06 _ _ hl
        have hwa6 := s06 _ _ hwa
        refine ⟨_, rfl, tq, rfl, ⟨_, SqT.of hat⟩, fun M2 nM2 => ?_⟩
        refine lc_tup (K := K) (a := tq) (xs := xs.map nV) (fun m H' => ∃ ks : List Nat, Own H6 H' M2 (ks.map nV) ∧ ks.length ≤ m ∧ (ks = [] ↔ apB lab (lab.getD gt 0 - 1) (xs.take m) yi = true)) ⟨[], ⟨Same.new nM2, upd_same, nM2⟩, Nat.zero_le _, fun _ => rfl, fun _ => rfl⟩ (fun _ H' _ ⟨_, o', _⟩ => SqT.of (o'.sm _ _ hat)) ?_ ?_
        · rintro m x H7 hx ⟨ks, o7, kl, kiff⟩
          have hm : m < xs.length := by
            have := (List.getElem?_eq_some_iff.mp hx).1
            rwa [List.length_map] at this
          have ex : xs[m]? = some xs[m] := List.getElem?_eq_getElem hm
          rw [List.getElem?_map, ex] at hx
          cases hx
          have xl := (wx xs xm).2 xs[m] (List.getElem_mem hm)
          have x1000 := (wx xs xm).1
          have step : apB lab (lab.getD gt 0 - 1) (xs.take (m + 1)) yi = (apB lab (lab.getD gt 0 - 1) (xs.take m) yi && (!decide (xs[m] ∈ yi) || decide (lab.getD gt 0 - 1 ≤ lab.getD xs[m] 0))) := by
            unfold apB
            rw [List.take_add_one, ex, List.all_append, Option.toList_some]
            show (_ && (_ && true)) = _
            rw [Bool.and_true]
          generalize xs[m] = y at ex xl step ⊢
          have hly : (lab.map V.int)[y]? = some (V.int (lab.getD y 0)) := by
            rw [List.getElem?_map, List.getD_eq_getElem?_getD, List.getElem?_eq_getElem xl]
            rfl
          have good : (!decide (y ∈ yi) || decide (lab.getD gt 0 - 1 ≤ lab.getD y 0)) = true → ∃ ks : List Nat, Own H6 H7 M2 (ks.map nV) ∧ ks.length ≤ m + 1 ∧ (ks = [] ↔ apB lab (lab.getD gt 0 - 1) (xs.take (m + 1)) yi = true) := fun hg => ⟨ks, o7, by omega, by rw [step, hg, Bool.and_true]; exact kiff⟩
          refine ⟨rfl, ?_⟩
          refine ⟨_, rfl, _, rfl, _, rfl, wa, _, _, _, rfl, rfl, SqT.of (o7.sm _ _ hwa6), atI_nat ei, pi, _, rfl, .inr (SqT.of (o7.sm _ _ hati6)), rfl, flat_ns yi, _, rfl, ?_⟩
          rw [if_neg Bool.false_ne_true, inV_n]
          by_cases hy : y ∈ yi
          · rw [decide_eq_true hy]
            refine iteT ?_
            refine ⟨_, rfl, _, rfl, l, _, _, _, rfl, rfl, SqL.of (o7.sm _ _ hl6), atI_nat hly, _, rfl, _, rfl, l, _, _, _, rfl, rfl, SqL.of (o7.sm _ _ hl6), atI_nat hle, _, _, rfl, rfl, _, _, rfl, rfl, _, rfl, ite2 (fun h3 => ?_) (fun h3 => ?_)⟩
            · have h3 : lab.getD y 0 < lab.getD gt 0 - 1 := of_decide_eq_true h3
              refine ⟨_, rfl, _, o7.at_, by rw [List.length_map]; exact small256 (by omega), ks ++ [y], by rw [List.map_append]; exact o7.app, by rw [List.length_append]; show _ + 1 ≤ _; omega, fun z => absurd z (by simp), fun z => ?_⟩
              rw [step, decide_eq_true hy, decide_eq_false (by omega)] at z
              simp at z
            · have h3 : ¬ lab.getD y 0 < lab.getD gt 0 - 1 := fun z => h3 (decide_eq_true z)
              exact good (by rw [decide_eq_true (show lab.getD gt 0 - 1 ≤ lab.getD y 0 by omega), Bool.or_true])
          · rw [decide_eq_false hy]
            refine iteF ?_
            exact good (by rw [decide_eq_false hy]; rfl)
        rintro H7 ⟨ks, o7, kl, kiff⟩
        rw [List.length_map, List.take_length] at kiff
        refine ⟨small 0, fun e ne => ?_⟩
        have s8 := Same.new (o := .lst []) ne
        refine ⟨M2, e, _, rfl, rfl, .inr ⟨SqL.of (s8 _ _ o7.at_), SqL.of upd_same⟩, _, rfl, ?_⟩
        rw [List.length_map]
        have s68 := o7.sm.trans s8
        generalize upd H7 e (.lst []) = H8 at s68 ⊢
        by_cases kz : ks = []
        case neg =>
          rw [decide_eq_false (fun z => kz (List.length_eq_zero_iff.mp z))]
          refine iteT ?_
          refine q2 false _ ⟨fun z => (by cases z), fun z => ?_⟩ (s06.trans s68)
          refine absurd (kiff.mpr ?_) kz
          have := z.2.2 j i hj hi
          rwa [hxs', hyi'] at this
        rw [decide_eq_true (show ks.length = 0 by rw [kz]; rfl)]
        refine iteF ?_
        refine ⟨_, rfl, s6.trans s68, fun i' h => ?_⟩
        by_cases e : i' = j
        · rw [e, hxs', hyi']
          exact kiff.mp kz
        · exact ap6 i' (by omega)
      · rintro σ H6 ⟨x7, rfl, s6, ap6⟩
        have tl : ((us.take i).map V.ref).length = i := by rw [List.length_map, List.length_take]; omega
        rw [tl] at ap6
        refine ⟨_, _, rfl, s05.trans s6, fun i' j h1 h2 => ?_⟩
        by_cases e : j = i
        · rw [e] at h1 ⊢
          exact ap6 i' h1
        · exact ap i' j h1 (by omega)
    · rintro σ H4 ⟨x6, x7, rfl, s4, ap⟩
      rw [Int.toNat_natCast, List.length_map, ul] at ap
      exact q2 true _ ⟨fun _ => ⟨wl, hw, ap⟩, fun _ => rfl⟩ s4
end
end K24
set_option Elab.async false
set_option linter.all false
set_option maxRecDepth 100000
set_option maxHeartbeats 4000000
namespace K24
open PySem PySem.Spec PyProof.Rows L2 GX
open C8 (Cal pe_c pe_gc Met Mak)
section
variable {P : Program} {w : World} {K : PySem.W.Frag} {mg : Str → Option Value} {base : Heap} {Ts : List Addr}
/-! ### papers as data -/
abbrev Pap := List (Nat × List (List Nat))
def EntAt (H : Hp) (p : Addr) (e : Nat × List (List Nat)) : Prop := ∃ (q : Addr) (us : List Addr), H p = some (.tup [nV e.1, .ref q]) ∧ H q = some (.tup (us.map V.ref)) ∧ TupsAt H us e.2
theorem EntAt.mono {H H' : Hp} (m : ∀ b xs, H b = some (.tup xs) → H' b = some (.tup xs)) {p : Addr} {e : Nat × List (List Nat)} (h : EntAt H p e) : EntAt H' p e := by
  obtain ⟨q, us, h1, h2, h3⟩ := h
  exact ⟨q, us, m _ _ h1, m _ _ h2, h3.mono m⟩
structure PapAt (H : Hp) (a : Addr) (es : Pap) (qs : List Addr) : Prop where
  top : H a = some (.tup (qs.map V.ref))
  ts : PtsAt EntAt H qs es
theorem PapAt.mono {H H' : Hp} {a : Addr} {es : Pap} {qs : List Addr} (h : PapAt H a es qs) (m : ∀ b xs, H b = some (.tup xs) → H' b = some (.tup xs)) : PapAt H' a es qs := ⟨m _ _ h.top, h.ts.mono fun p e z => z.mono m⟩
def thEnt (e : Nat × List (List Nat)) : Th := .tup [thW e.1, .tup (e.2.map thWs)]
def thPap (es : Pap) : Th := .tup (es.map thEnt)
theorem rep_ent {H : Hp} (p : Addr) (e : Nat × List (List Nat)) (h : EntAt H p e) : Rep H (.ref p) (thEnt e) := by
  obtain ⟨q, us, h1, h2, h3⟩ := h
  refine .tup h1 (.cons (.int _) (.cons (.tup h2 ?_) .nil))
  exact pts_rep (R := fun H p (x : List Nat) => H p = some (.tup (x.map nV))) (f := thWs) (fun p x hx => rep_wsT hx) ⟨h3.1, fun i p x e1 e2 => h3.2 i p x e1 e2⟩
theorem PapAt.rep {H : Hp} {a : Addr} {es : Pap} {qs : List Addr} (h : PapAt H a es qs) : Rep H (.ref a) (thPap es) := .tup h.top (pts_rep rep_ent h.ts)
def labE (n : Net) (es : Pap) : List Int := List.replicate n.many 0 ++ es.map fun e => ((e.1 : Nat) : Int)
theorem labE_len (n : Net) (es : Pap) : (labE n es).length = n.many + es.length := by
  unfold labE
  rw [List.length_append, List.length_replicate, List.length_map]
theorem labs_ent (n : Net) (es : Pap) : labsT n (es.map thEnt) = labE n es := by
  unfold labsT labE
  rw [List.map_map]
  rfl
structure PapOk (n : Net) (es : Pap) : Prop where
  len : es.length = n.gates.length
  lab : ∀ e ∈ es, 1 ≤ e.1
  few : ∀ e ∈ es, e.2.length ≤ 100
  way : ∀ e ∈ es, ∀ xs ∈ e.2, xs.length ≤ 1000 ∧ ∀ x ∈ xs, x < n.many + n.gates.length
theorem paper_ent {n : Net} {k : Nat} {es : Pap} (h : PapOk n es) : PaperT n k (thPap es) ↔ ∀ (j : Nat) (e : Nat × List (List Nat)), es[j]? = some e → ShowsT n k (labE n es) (n.many + j) (e.2.map thWs) := by
  unfold PaperT
  constructor
  · rintro ⟨ts, e, _, _, sh⟩ j x hx
    obtain rfl := tup_inj e
    have := sh j (thEnt x) (by rw [List.getElem?_map, hx]; rfl)
    rw [labs_ent] at this
    exact this
  · intro sh
    refine ⟨es.map thEnt, rfl, by rw [List.length_map, h.len], ?_, fun i e he => ?_⟩
    · rw [List.all_map, List.all_eq_true]
      intro e he
      have h1 := h.lab e he
      show (decide ((1 : Int) ≤ ((e.1 : Nat) : Int)) && true) = true
      rw [decide_eq_true (by omega)]
      rfl
    · rw [List.getElem?_map] at he
      obtain ⟨x, hx, rfl⟩ := Option.map_eq_some_iff.mp he
      rw [labs_ent]
      exact sh i x hx
def spLPap : Sp := fun vs H Q _ => ∃ (a : Addr) (n : Net) (g o : Addr) (ps : List Addr) (k : Nat) (ta : Addr) (es : Pap) (qs : List Addr), vs = [.ref a, nV k, .ref ta] ∧ NetAt H a n g o ps ∧ n.Ok ∧ PapAt H ta es qs ∧ PapOk n es ∧ k ≤ 100 ∧ ∀ (b : Bool) H', (b = true ↔ PaperT n k (thPap es)) → Same H H' → Q (.bl b) H'
theorem ok_lpap {f c : Addr} (D : Dfn K mg "_law_is_paper" s__law_is_paper f c) (T : Txt mg) (c__law_is_entry : Cal P w K mg base 2 "_law_is_entry" spLEnt []) : Cal P w K mg base 3 "_law_is_paper" spLPap [] := by
  refine cal D (fun _ _ _ _ _ _ us hl => match us, hl with | [_, _, _], _ => rfl) sc__law_is_paper (fun vs H Q E h => ?_) (fun A outer s H vs Q E hr h => ?_)
  · obtain ⟨a, n, g, o, ps, k, ta, es, qs, rfl, _⟩ := h
    rfl
  · obtain ⟨a, n, g, o, ps, k, ta, es, qs, rfl, N, ok, PA, po, hk, q⟩ := h
    refine ⟨_, (pss_cons (ps_if (PW.pt (pw_or (pt_not (pt_val (pe_callB call_isi (by rfl) T.b_isinstance (by decide +kernel) (pa_cons (pv 2) (pa_cons (pe_bltn (v := .ty "tuple") (by rfl) T.b_tuple (by decide +kernel) rfl) pa_nil))))) (pw_or1 (pt_cmpR op_ne (pe_callB call_len_seq (by rfl) T.b_len (by decide +kernel) (pa_cons (pv 2) pa_nil)) (pe_callB call_len_seq (by rfl) T.b_len (by decide +kernel) (pa_cons (pe_ix ix_tup (pv 0) pe_int (fun _ _ => rfl)) pa_nil)) (nomark _))))) (pss_one (ps_ret pe_bl)) pss_nil)
      (pss_cons (ps_set (i := 3) sc__law_is_paper.nd rfl (by first | exact Or.inl rfl | exact Or.inr rfl) (pe_op op_rep (pe_lst (pa_cons pe_int pa_nil)) (pe_ix ix_tup (pv 0) pe_int (fun _ _ => rfl))))
      (pss_cons (ps_for PassesOwn.never rfl (pi_tup (pv 2)) (pg_name (i := 4) sc__law_is_paper.nd rfl (by first | exact Or.inl rfl | exact Or.inr rfl))
        (pss_cons (ps_if (PW.pt (pw_or (pt_not (pt_val (pe_callB call_isi (by rfl) T.b_isinstance (by decide +kernel) (pa_cons (pv 4) (pa_cons (pe_bltn (v := .ty "tuple") (by rfl) T.b_tuple (by decide +kernel) rfl) pa_nil))))) (pw_or (pt_cmpR op_ne (pe_callB call_len_seq (by rfl) T.b_len (by decide +kernel) (pa_cons (pv 4) pa_nil)) pe_int (nomark _)) (pw_or1 (pt_not (pt_val (pe_callB call_isi (by rfl) T.b_isinstance (by decide +kernel) (pa_cons (pe_ix ix_tup (pv 4) pe_int (fun _ _ => rfl)) (pa_cons (pe_bltn (v := .ty "tuple") (by rfl) T.b_tuple (by decide +kernel) rfl) pa_nil))))))))) (pss_one (ps_ret pe_bl)) pss_nil)
      (pss_cons (ps_if (PW.pt (pw_or (pt_val (pe_callB call_isi (by rfl) T.b_isinstance (by decide +kernel) (pa_cons (pe_ix ix_tup (pv 4) pe_int (fun _ _ => rfl)) (pa_cons (pe_bltn (v := .ty "bool") (by rfl) T.b_bool (by decide +kernel) rfl) pa_nil)))) (pw_or (pt_not (pt_val (pe_callB call_isi (by rfl) T.b_isinstance (by decide +kernel) (pa_cons (pe_ix ix_tup (pv 4) pe_int (fun _ _ => rfl)) (pa_cons (pe_bltn (v := .ty "int") (by rfl) T.b_int (by decide +kernel) rfl) pa_nil))))) (pw_or1 (pt_cmpR op_lt (pe_ix ix_tup (pv 4) pe_int (fun _ _ => rfl)) pe_int (nomark _)))))) (pss_one (ps_ret pe_bl)) pss_nil)
      (pss_one (ps_expr (pe_bm PySem.F.plainAttrs_list PySem.F.slot_list_append PySem.F.type_list_append mt_append (pv 3) (pa_cons (pe_ix ix_tup (pv 4) pe_int (fun _ _ => rfl)) pa_nil)))))))
      (pss_one (ps_ret (pe_cmpR (op_eq0 hr.units0) (pe_lc (own := [("_law_j", 5)]) (g := gName 5)  rfl sc__law_is_paper.nd (pi_range1 (by rfl) T.b_range (pa_cons (pe_callB call_len_seq (by rfl) T.b_len (by decide +kernel) (pa_cons (pv 2) pa_nil)) pa_nil)) (blkOk_by (own := [("_law_j", 5)]) (N := ["_law_net_here", "_law_k", "_law_thing", "_law_labels", "_law_entry", "_law_j"]) (sc := defScope s__law_is_paper) (by decide +kernel)) (fun _ _ _ _ _ => (pg_name (i := 5) sc__law_is_paper.nd rfl (by first | exact Or.inl rfl | exact Or.inr rfl))) (fun _ _ _ _ _ => (pts_one (pt_not (pt_val (pe_c c__law_is_entry hr (by decide) (by rfl) (pa_cons (pv 0) (pa_cons (pv 1) (pa_cons (pv 3) (pa_cons (pe_op op_add (pe_ix (ix_tupK (K := K)) (pv 0) pe_int (fun _ _ => rfl)) (pv 5)) (pa_cons (pe_ix (ix_tupK (K := K)) (pe_ix (ix_tupK (K := K)) (pv 2) (pv 5) (fun _ _ => rfl)) pe_int (fun _ _ => rfl)) pa_nil)))))))))) (fun _ _ _ _ _ => (pv 5))) (pe_lst pa_nil) (nomark _))))))), ?_⟩
    have m8 := ok.m8
    have g16 := ok.g16
    have el := po.len
    have ql : qs.length = es.length := PA.ts.1
    rw [paper_ent po] at q
    refine ⟨_, rfl, _, _, _, _, true, rfl, .ty "tuple", .base (.tup PA.top), kit_ty (by decide +kernel), _, rfl, iteF ?_⟩
    refine ⟨_, rfl, ta, _, rfl, .inr (SqT.of PA.top), _, rfl, a, _, 1, _, rfl, rfl, SqT.of N.top, at1, g, _, rfl, .inr (SqT.of N.gt), rfl, _, rfl, ?_⟩
    rw [List.length_map, List.length_map, ql, el, N.gs.1, decide_eq_true rfl]
    refine iteF ?_
    refine ⟨small 1, fun z0 n0 => ?_⟩
    have s2 := Same.new (o := .lst [.int 0]) n0
    refine ⟨_, rfl, a, _, 0, _, rfl, rfl, SqT.of (N.same s2).top, at0, z0, _, _, rfl, rfl, upd_same, by omega, by omega, ?_, fun l nl => ?_⟩
    · show 1 * (((n.many : Nat)) : Int).toNat ≤ sizeLine
      rw [Int.toNat_natCast]
      exact small _ (by omega)
    have ef : (List.replicate (((n.many : Nat)) : Int).toNat [V.int 0]).flatten = (labE n (es.take 0)).map V.int := by
      rw [Int.toNat_natCast, List.flatten_replicate_singleton]
      unfold labE
      rw [List.take_zero, List.map_nil, List.append_nil, List.map_replicate]
    rw [ef]
    have nl0 : H l = none := Same.was s2 nl
    have o3 : Own H (upd (upd H z0 (.lst [.int 0])) l (.lst ((labE n (es.take 0)).map V.int))) l ((labE n (es.take 0)).map V.int) := ⟨s2.trans (Same.new nl), upd_same, nl0⟩
    generalize upd (upd H z0 (.lst [.int 0])) l (.lst ((labE n (es.take 0)).map V.int)) = H3 at o3 ⊢
    refine ⟨_, rfl, ta, rfl, ⟨_, SqT.of (o3.sm _ _ PA.top)⟩, ?_⟩
    refine for_tup (K := K) (a := ta) (xs := qs.map V.ref) (fun i σ H' => ∃ x4 : Option V, σ = [some (.ref a), some (nV k), some (.ref ta), some (.ref l), x4, none] ∧ Own H H' l ((labE n (es.take i)).map V.int)) ⟨none, rfl, o3⟩ ?_ ?_ ?_
    · rintro i σ H' _ ⟨_, _, o'⟩
      exact SqT.of (o'.sm _ _ PA.top)
    · rintro i x σ H4 hx ⟨x4, rfl, o4⟩
      have P4 := PA.mono fun b xs e => o4.sm _ _ e
      obtain ⟨p, e, rfl, he, q1, us, hp, hq, TW⟩ := P4.ts.at_ hx
      have hil : i < es.length := (List.getElem?_eq_some_iff.mp he).1
      have l1 := po.lab e (List.mem_of_getElem? he)
      refine ⟨_, rfl, _, _, _, _, true, rfl, .ty "tuple", .base (.tup hp), kit_ty (by decide +kernel), _, rfl, iteF ?_⟩
      refine ⟨_, rfl, p, _, rfl, .inr (SqT.of hp), rfl, _, rfl, ite2 (fun h => by simp at h) (fun _ => ?_)⟩
      refine ⟨_, rfl, p, _, 1, _, rfl, rfl, SqT.of hp, at1, _, _, _, _, true, rfl, .ty "tuple", .base (.tup hq), kit_ty (by decide +kernel), _, rfl, iteF ?_⟩
      refine ⟨_, rfl, p, _, 0, _, rfl, rfl, SqT.of hp, at0, _, _, _, _, false, rfl, .ty "bool", tyx (.int _), kit_ty (kBool_ok (.int _)), _, rfl, iteF ?_⟩
      refine ⟨_, rfl, p, _, 0, _, rfl, rfl, SqT.of hp, at0, _, _, _, _, true, rfl, .ty "int", tyx (.int _), kit_ty (kInt_ok (.int _)), _, rfl, iteF ?_⟩
      refine ⟨_, rfl, p, _, 0, _, rfl, rfl, SqT.of hp, at0, _, _, rfl, rfl, _, rfl, ite2 (fun h => ?_) (fun _ => ?_)⟩
      · have := of_decide_eq_true h
        omega
      refine ⟨_, rfl, .inl ⟨rfl, _, SqL.of o4.at_⟩, _, rfl, p, _, 0, _, rfl, rfl, SqT.of hp, at0, l, _, _, rfl, rfl, o4.at_, by rw [List.length_map, labE_len, List.length_take]; exact small256 (by omega), ?_⟩
      refine ⟨_, rfl, ?_⟩
      have : labE n (es.take (i + 1)) = labE n (es.take i) ++ [((e.1 : Nat) : Int)] := by
        unfold labE
        rw [List.take_add_one, he, List.map_append, List.append_assoc]
        rfl
      rw [this, List.map_append]
      exact o4.app
    · rintro σ H4 ⟨x4, rfl, o4⟩
      rw [List.length_map, ql, List.take_length] at o4
      have ll := labE_len n es
      have PA4 := PA.mono fun b xs e => o4.sm _ _ e
      refine ⟨_, rfl, ta, _, rfl, .inr (SqT.of PA4.top), _, rfl, by rw [List.length_map]; omega, by rw [List.length_map]; omega, fun M nM => ?_⟩
      refine lc_range (lo := 0) (n := (((qs.map V.ref).length : Nat) : Int).toNat) (fun i H' => ∃ ks : List Nat, Own H4 H' M (ks.map nV) ∧ ks.length ≤ i ∧ (ks = [] ↔ ∀ (j : Nat) (e : Nat × List (List Nat)), j < i → es[j]? = some e → ShowsT n k (labE n es) (n.many + j) (e.2.map thWs))) ⟨[], ⟨Same.new nM, upd_same, nM⟩, Nat.zero_le _, fun _ j e h => absurd h (Nat.not_lt_zero _), fun _ => rfl⟩ ?_ ?_
      · rintro i H5 hi ⟨ks, o5, kl, kiff⟩
        rw [Int.toNat_natCast, List.length_map, ql] at hi
        have s45 := o4.sm.trans o5.sm
        have P5 := PA.mono fun b xs e => s45 _ _ e
        have N5 := N.same s45
        have hiq : i < qs.length := by omega
        have eq_ : (qs.map V.ref)[i]? = some (.ref qs[i]) := by rw [List.getElem?_map, List.getElem?_eq_getElem hiq]; rfl
        obtain ⟨p, e, epp, he, q1, us, hp, hq, TW⟩ := P5.ts.at_ eq_
        rw [epp] at eq_
        have em := List.mem_of_getElem? he
        rw [show V.int (0 + ((i : Nat) : Int)) = nV i from congrArg V.int (Int.zero_add _)]
        refine ⟨rfl, ?_⟩
        refine ⟨_, rfl, _, rfl, _, rfl, _, rfl, a, _, 0, _, rfl, rfl, SqT.of N5.top, at0, _, rfl, _, _, rfl, rfl, _, rfl, _, rfl, ta, _, _, _, rfl, rfl, SqT.of P5.top, atI_nat eq_, p, _, 1, _, rfl, rfl, SqT.of hp, at1, ?_⟩
        refine ⟨a, n, g, o, ps, k, n.many + i, l, q1, labE n es, us, e.2, rfl, N5, ok, o5.sm _ _ o4.at_, by rw [ll, el], Nat.le_add_right _ _, by omega, hq, TW, po.few e em, fun xs hx => ⟨(po.way e em xs hx).1, fun x hx2 => by rw [ll, el]; exact (po.way e em xs hx).2 x hx2⟩, hk, fun b H6 hb s6 => ?_⟩
        have o6 : Own H4 H6 M (ks.map nV) := ⟨o5.sm.trans s6, s6 _ _ o5.at_, o5.nw⟩
        refine ⟨_, rfl, ?_⟩
        cases b with
        | false =>
          refine iteT ?_
          refine ⟨_, rfl, _, o6.at_, by rw [List.length_map]; exact small256 (by omega), ks ++ [i], by rw [List.map_append]; exact o6.app, by rw [List.length_append]; show _ + 1 ≤ _; omega, fun z => absurd z (by simp), fun z => ?_⟩
          have := hb.mpr (z i e (Nat.lt_succ_self _) he)
          cases this
        | true =>
          refine iteF ⟨ks, o6, by omega, kiff.trans ⟨fun z j y hj hy => ?_, fun z j y hj hy => z j y (by omega) hy⟩⟩
          by_cases e1 : j = i
          · rw [e1] at hy ⊢
            rw [he] at hy
            cases hy
            exact hb.mp rfl
          · exact z j y (by omega) hy
      · rintro H5 ⟨ks, o5, kl, kiff⟩
        rw [Int.toNat_natCast, List.length_map, ql] at kiff
        refine ⟨small 0, fun e ne => ?_⟩
        have s6 := Same.new (o := .lst []) ne
        refine ⟨M, e, _, rfl, rfl, .inr ⟨SqL.of (s6 _ _ o5.at_), SqL.of upd_same⟩, ?_⟩
        refine q _ _ ?_ ((o4.sm.trans o5.sm).trans s6)
        rw [decide_eq_true_iff, List.length_map, List.length_eq_zero_iff, kiff]
        exact ⟨fun z j y hy => z j y (List.getElem?_eq_some_iff.mp hy).1 hy, fun z j y _ hy => z j y hy⟩
end
end K24
set_option Elab.async false
set_option linter.all false
set_option maxRecDepth 100000
set_option maxHeartbeats 4000000
namespace K24
open PySem PySem.Spec PyProof.Rows L2 GX
open C8 (Cal pe_c pe_gc Met Mak)
section
variable {P : Program} {w : World} {K : PySem.W.Frag} {mg : Str → Option Value} {base : Heap} {Ts : List Addr}
/-- the deck and a list of one's own change, all else is kept -/
structure Hk (W C l : Addr) (t : Nat) (H H' : Hp) : Prop where
  wl : Wt H' W C t
  kp : Keep [W, C, l] H H'
theorem Hk.nxt {W C l : Addr} {t u : Nat} {H H1 H2 : Hp} (r : Hk W C l t H H1) (k : Wkt W C u H1 H2) : Hk W C l u H H2 := ⟨k.wl, r.kp.trans fun b v e n => k.kp b v e fun z => n (by rcases List.mem_cons.mp z with z | z <;> simp_all)⟩
theorem Hk.same {W C l : Addr} {t : Nat} {H H1 H2 : Hp} (r : Hk W C l t H H1) (s : Same H1 H2) : Hk W C l t H H2 := ⟨r.wl.same s, r.kp.trans fun b v e _ => s b v e⟩
theorem Hk.put {W C l : Addr} {t : Nat} {H H1 : Hp} {o : HO} (r : Hk W C l t H H1) (lW : l ≠ W ∧ l ≠ C) : Hk W C l t H (upd H1 l o) := ⟨r.wl.put lW, fun b v e n => by
  rw [upd_ne (fun z => n (by rw [z]; simp))]
  exact r.kp b v e n⟩
theorem Hk.le {W C l : Addr} {t u : Nat} {H H1 : Hp} (r : Hk W C l t H H1) (h : t ≤ u) : Hk W C l u H H1 := ⟨r.wl.le h, r.kp⟩
theorem Hk.at_ {W C l b : Addr} {t : Nat} {H H1 : Hp} {v : HO} (r : Hk W C l t H H1) (n : b ≠ W ∧ b ≠ C) (n2 : b ≠ l) (e : H b = some v) : H1 b = some v := r.kp b v e fun z => by
  rcases List.mem_cons.mp z with z | z
  · exact n.1 z
  · rcases List.mem_cons.mp z with z | z
    · exact n.2 z
    · exact n2 (List.mem_singleton.mp z)
theorem Hk.tup {W C l b : Addr} {t u : Nat} {H H1 : Hp} {xs : List V} (r : Hk W C l t H H1) (w0 : Wt H W C u) (hl : ∀ ys, H l ≠ some (.tup ys)) (e : H b = some (.tup xs)) : H1 b = some (.tup xs) := by
  obtain ⟨⟨ns, x, y, e1, e2, _⟩, _⟩ := w0
  exact r.at_ ⟨fun z => (by rw [z, e1] at e; cases e), fun z => (by rw [z, e2] at e; cases e)⟩ (fun z => hl xs (by rw [← z]; exact e)) e
theorem Hk.wkt {W C l : Addr} {t u : Nat} {H0 H H1 : Hp} (k : Wkt W C u H0 H) (r : Hk W C l t H H1) (n : H0 l = none) : Wkt W C t H0 H1 := ⟨r.wl, fun b v e nb => r.kp b v (k.kp b v e nb) fun z => by
  rcases List.mem_cons.mp z with z | z
  · exact nb (by rw [z]; simp)
  · rcases List.mem_cons.mp z with z | z
    · exact nb (by rw [z]; simp)
    · rw [List.mem_singleton.mp z, n] at e
      cases e⟩
def spHand : Sp := fun vs H Q _ => ∃ (W C a la : Addr) (n : Net) (g o : Addr) (ps : List Addr) (k t : Nat) (ds : List Nat), vs = [.ref W, .ref a, nV k, .ref la] ∧ Wt H W C t ∧ t ≤ 700000 ∧ NetAt H a n g o ps ∧ n.Ok ∧ n.gates.length ≤ 9 ∧ k ≤ 4 ∧ H la = some (.lst (ds.map nV)) ∧ (la ≠ W ∧ la ≠ C) ∧ ds.length = n.many + n.gates.length ∧ (∀ x, n.many ≤ x → x < ds.length → 1 ≤ ds.getD x 0 ∧ ds.getD x 0 ≤ 100) ∧
  ∀ r H' (es : Pap) (qs : List Addr), Wkt W C (t + 400) H H' → PapAt H' r es qs → PapOk n es → (∀ e ∈ es, e.2.length ≤ k + 1) → Q (.ref r) H'
theorem ok_hand {f c : Addr} (D : Dfn K mg "_law_hand" s__law_hand f c) (T : Txt mg) (c__law_draw : Cal P w K mg base 1 "_law_draw" spDraw []) (c__law_all_ways : Cal P w K mg base 1 "_law_all_ways" spAllW []) (c__law_picked : Cal P w K mg base 2 "_law_picked" spPick []) : Cal P w K mg base 3 "_law_hand" spHand [] := by
  refine cal D (fun _ _ _ _ _ _ us hl => match us, hl with | [_, _, _, _], _ => rfl) sc__law_hand (fun vs H Q E h => ?_) (fun A outer s H vs Q E hr h => ?_)
  · obtain ⟨W, C, a, la, n, g, o, ps, k, t, ds, rfl, _⟩ := h
    rfl
  · obtain ⟨W, C, a, la, n, g, o, ps, k, t, ds, rfl, wl, ht, N, ok, g9, k4, hla, laW, dl, d1, q⟩ := h
    refine ⟨_, (pss_cons (ps_set (i := 4) sc__law_hand.nd rfl (by first | exact Or.inl rfl | exact Or.inr rfl) (pe_c c__law_all_ways hr (by decide) (by rfl) (pa_cons (pv 1) pa_nil)))
      (pss_cons (ps_set (i := 5) sc__law_hand.nd rfl (by first | exact Or.inl rfl | exact Or.inr rfl) (pe_op op_rep (pe_lst (pa_cons pe_int pa_nil)) (pe_ix ix_tup (pv 1) pe_int (fun _ _ => rfl))))
      (pss_cons (ps_for PassesOwn.never rfl (pi_range2 (by rfl) T.b_range (pa_cons (pe_ix ix_tup (pv 1) pe_int (fun _ _ => rfl)) (pa_cons (pe_callB call_len_seq (by rfl) T.b_len (by decide +kernel) (pa_cons (pv 3) pa_nil)) pa_nil))) (pg_name (i := 6) sc__law_hand.nd rfl (by first | exact Or.inl rfl | exact Or.inr rfl))
        (pss_cons (ps_set (i := 7) sc__law_hand.nd rfl (by first | exact Or.inl rfl | exact Or.inr rfl) (pe_c c__law_draw hr (by decide) (by rfl) (pa_cons (pv 0) (pa_cons pe_int pa_nil))))
      (pss_cons (ps_set (i := 8) sc__law_hand.nd rfl (by first | exact Or.inl rfl | exact Or.inr rfl) (pe_ix ix_list (pv 3) (pv 6) (fun _ _ => rfl)))
      (pss_one (ps_expr (pe_bm PySem.F.plainAttrs_list PySem.F.slot_list_append PySem.F.type_list_append mt_append (pv 5) (pa_cons (pe_ix ix_list (pe_lst (pa_cons (pv 8) (pa_cons (pv 8) (pa_cons (pe_op op_add pe_int (pe_c c__law_draw hr (by decide) (by rfl) (pa_cons (pv 0) (pa_cons (pv 8) pa_nil)))) (pa_cons (pv 8) (pa_cons pe_int (pa_cons (pe_op op_add (pv 8) pe_int) pa_nil))))))) (pv 7) (fun _ _ => rfl)) pa_nil)))))))
      (pss_cons (ps_set (i := 9) sc__law_hand.nd rfl (by first | exact Or.inl rfl | exact Or.inr rfl) (pe_lst pa_nil))
      (pss_cons (ps_for PassesOwn.never rfl (pi_range2 (by rfl) T.b_range (pa_cons (pe_ix ix_tup (pv 1) pe_int (fun _ _ => rfl)) (pa_cons (pe_callB call_len_seq (by rfl) T.b_len (by decide +kernel) (pa_cons (pv 3) pa_nil)) pa_nil))) (pg_name (i := 6) sc__law_hand.nd rfl (by first | exact Or.inl rfl | exact Or.inr rfl))
        (pss_cons (ps_set (i := 10) sc__law_hand.nd rfl (by first | exact Or.inl rfl | exact Or.inr rfl) (pe_tup pa_nil))
      (pss_cons (ps_if (pt_cmpR op_gt (pe_ix ix_list (pv 5) (pv 6) (fun _ _ => rfl)) pe_int (nomark _)) (pss_cons (ps_setLc (i := 11) (own := [("_law_wire", 12)]) (g := gName 12)  rfl sc__law_hand.nd rfl rfl (sw_true rfl rfl rfl (by decide +kernel)) (pi_range1 (by rfl) T.b_range (pa_cons (pe_op op_add (pv 6) pe_int) pa_nil)) (blkOk_by (own := [("_law_wire", 12)]) (N := ["_law_deck_here", "_law_net_here", "_law_k", "_law_known", "_law_ways", "_law_labels", "_law_gate_here", "_law_way", "_law_deep", "_law_paper", "_law_some", "_law_low", "_law_wire"]) (sc := defScope s__law_hand) (by decide +kernel)) (fun _ _ _ _ _ => (pg_name (i := 12) sc__law_hand.nd rfl (by first | exact Or.inl rfl | exact Or.inr rfl))) (fun _ _ _ _ _ => (pts_one (pt_cmpR op_lt (pe_ix (ix_listK (K := K)) (pv 5) (pv 12) (fun _ _ => rfl)) (pe_op op_sub (pe_ix (ix_listK (K := K)) (pv 5) (pv 6) (fun _ _ => rfl)) pe_int) (nomark _)))) (fun _ _ _ _ _ => (pv 12)))
      (pss_one (ps_set (i := 10) sc__law_hand.nd rfl (by first | exact Or.inl rfl | exact Or.inr rfl) (pe_c c__law_picked hr (by decide) (by rfl) (pa_cons (pv 0) (pa_cons (pe_ix ix_list (pv 4) (pv 6) (fun _ _ => rfl)) (pa_cons (pv 2) (pa_cons (pv 11) pa_nil)))))))) pss_nil)
      (pss_one (ps_expr (pe_bm PySem.F.plainAttrs_list PySem.F.slot_list_append PySem.F.type_list_append mt_append (pv 9) (pa_cons (pe_tup (pa_cons (pe_ix ix_list (pv 5) (pv 6) (fun _ _ => rfl)) (pa_cons (pv 10) pa_nil))) pa_nil)))))))
      (pss_one (ps_ret (pe_callTy call_tuple_of (by rfl) T.b_tuple (by decide +kernel) (pa_cons (pv 9) pa_nil))))))))), ?_⟩
    have m8 := ok.m8
    have m1 := ok.m1
    refine ⟨_, rfl, a, n, g, o, ps, rfl, N, ok, g9, fun A1 H1 qs s1 nA hA KW => ?_⟩
    have AW := wl.new nA
    have kk1 : Wkt W C t H H1 := (Wkt.refl wl).same s1
    have qW : ∀ x, x < n.many + n.gates.length → ∃ q us ws, (qs.map V.ref)[x]? = some (.ref q) ∧ (q ≠ W ∧ q ≠ C) ∧ H1 q = some (.lst (us.map V.ref)) ∧ TupsAt H1 us ws ∧ WysOk n x ws := fun x hx => by
      have e1 : qs[x]? = some (qs[x]'(by rw [KW.1, List.length_range]; exact hx)) := List.getElem?_eq_getElem _
      obtain ⟨h0, _, us, ws, h1, h2, h3⟩ := KW.2 x _ x e1 (List.getElem?_range hx)
      exact ⟨_, us, ws, by rw [List.getElem?_map, e1]; rfl, wl.new h0, h1, h2, h3⟩
    refine ⟨small 1, fun z0 n0 => ?_⟩
    have s2 := Same.new (o := .lst [.int 0]) n0
    refine ⟨_, rfl, a, _, 0, _, rfl, rfl, SqT.of ((N.same s1).same s2).top, at0, z0, _, _, rfl, rfl, upd_same, by omega, by omega, ?_, fun l nl => ?_⟩
    · show 1 * (((n.many : Nat)) : Int).toNat ≤ sizeLine
      rw [Int.toNat_natCast]
      exact small _ (by omega)
    have ef : (List.replicate (((n.many : Nat)) : Int).toNat [V.int 0]).flatten = (List.replicate n.many 0).map nV := by
      rw [Int.toNat_natCast, List.map_replicate, List.flatten_replicate_singleton]
      rfl
    rw [ef]
    have nl0 : H l = none := Same.was s1 (Same.was s2 nl)
    have lW := wl.new nl0
    have s3 := s2.trans (Same.new (o := .lst ((List.replicate n.many 0).map nV)) nl)
    have k3 : Wkt W C t H _ := kk1.same s3
    have hl3 : upd (upd H1 z0 (.lst [.int 0])) l (.lst ((List.replicate n.many 0).map nV)) l = some (.lst ((List.replicate n.many 0).map nV)) := upd_same
    have hA3 := s3 _ _ hA
    have A1l : A1 ≠ l := fun z => by rw [← z, s2 _ _ hA] at nl; cases nl
    have qW3 : ∀ x, x < n.many + n.gates.length → ∃ q us ws, (qs.map V.ref)[x]? = some (.ref q) ∧ (q ≠ W ∧ q ≠ C) ∧ q ≠ l ∧ (upd (upd H1 z0 (.lst [.int 0])) l (.lst ((List.replicate n.many 0).map nV))) q = some (.lst (us.map V.ref)) ∧ TupsAt (upd (upd H1 z0 (.lst [.int 0])) l (.lst ((List.replicate n.many 0).map nV))) us ws ∧ WysOk n x ws := fun x hx => by
      obtain ⟨q, us, ws, h1, h2, h3, h4, h5⟩ := qW x hx
      exact ⟨q, us, ws, h1, h2, fun z => (by rw [← z, s2 _ _ h3] at nl; cases nl), s3 _ _ h3, h4.mono fun b zs e => s3 _ _ e, h5⟩
    generalize upd (upd H1 z0 (.lst [.int 0])) l (.lst ((List.replicate n.many 0).map nV)) = H3 at k3 hl3 hA3 qW3 ⊢
    have N3 : NetAt H3 a n g o ps := N.mono fun b xs e => wl.tup k3 e
    have hla3 := k3.at_ laW hla
    have w3 := k3.wl
    have lal : la ≠ l := fun z => by rw [z, nl0] at hla; cases hla
    have lnt : ∀ ys, H3 l ≠ some (HO.tup ys) := fun ys e => by rw [hl3] at e; cases e
    refine ⟨_, rfl, a, _, 0, _, rfl, rfl, SqT.of N3.top, at0, _, rfl, la, _, rfl, .inl (SqL.of hla3), _, _, rfl, ⟨by omega, by omega, by omega, by rw [List.length_map]; omega⟩, ?_⟩
    refine for_range (lo := ((n.many : Nat) : Int)) (n := ((((ds.map nV).length : Nat) : Int) - ((n.many : Nat) : Int)).toNat) (fun j σ H' => ∃ (x6 x7 x8 : Option V) (ls : List Nat), σ = [some (.ref W), some (.ref a), some (nV k), some (.ref la), some (.ref A1), some (.ref l), x6, x7, x8, none, none, none, none] ∧ Hk W C l (t + 2 * j) H3 H' ∧ H' l = some (.lst (ls.map nV)) ∧ ls.length = n.many + j ∧ ∀ x, n.many ≤ x → x < n.many + j → 1 ≤ ls.getD x 0) ⟨none, none, none, List.replicate n.many 0, rfl, ⟨w3, Keep.refl⟩, hl3, by rw [List.length_replicate]; rfl, fun x h1 h2 => by omega⟩ ?_ ?_
    · rintro j σ H4 hj ⟨x6, x7, x8, ls, rfl, k4', hl4, ll, lpos⟩
      have hjg : j < n.gates.length := by
        rw [List.length_map, dl] at hj
        omega
      have hw : n.many + j < ds.length := by rw [dl]; omega
      obtain ⟨dpos, d100⟩ := d1 (n.many + j) (Nat.le_add_right _ _) hw
      rw [show V.int (((n.many : Nat) : Int) + ((j : Nat) : Int)) = nV (n.many + j) from congrArg V.int (by omega)]
      refine ⟨_, rfl, W, C, 6, t + 2 * j, rfl, k4'.wl, by omega, by decide, by decide, fun way H5 y0 y6 k5 => ?_⟩
      have k45 := k4'.nxt k5
      have hla5 := k45.at_ laW lal hla3
      refine ⟨_, rfl, _, rfl, la, _, _, _, rfl, rfl, SqL.of hla5, atI_nat (natAt hw), ?_⟩
      refine ⟨_, rfl, .inl ⟨rfl, _, SqL.of (k5.at_ lW hl4)⟩, _, rfl, _, rfl, _, rfl, _, rfl, W, C, ((ds.getD (n.many + j) 0 : Nat) : Int), t + 2 * j + 1, rfl, k5.wl, by omega, by omega, by omega, fun dr H6 e0 e1 k6 => ?_⟩
      refine ⟨_, _, rfl, rfl, _, rfl, _, rfl, _, _, rfl, rfl, small 6, fun Z nZ => ?_⟩
      have k456 := k45.nxt k6
      have s7 := Same.new (o := .lst [nV (ds.getD (n.many + j) 0), nV (ds.getD (n.many + j) 0), .int (1 + dr), nV (ds.getD (n.many + j) 0), .int 1, .int (((ds.getD (n.many + j) 0 : Nat) : Int) + 1)]) nZ
      have hZ : upd H6 Z (.lst [nV (ds.getD (n.many + j) 0), nV (ds.getD (n.many + j) 0), .int (1 + dr), nV (ds.getD (n.many + j) 0), .int 1, .int (((ds.getD (n.many + j) 0 : Nat) : Int) + 1)]) Z = some (.lst [nV (ds.getD (n.many + j) 0), nV (ds.getD (n.many + j) 0), .int (1 + dr), nV (ds.getD (n.many + j) 0), .int 1, .int (((ds.getD (n.many + j) 0 : Nat) : Int) + 1)]) := upd_same
      have k7 := k456.same s7
      have hl7 := s7 _ _ (k6.at_ lW (k5.at_ lW hl4))
      generalize ds.getD (n.many + j) 0 = dd at dpos d100 e1 hZ s7 k7 hl7 ⊢
      generalize upd H6 Z (.lst [nV dd, nV dd, .int (1 + dr), nV dd, .int 1, .int (((dd : Nat) : Int) + 1)]) = H7 at hZ k7 hl7 ⊢
      obtain ⟨v, hv, v1⟩ : ∃ v : Nat, atI [nV dd, nV dd, V.int (1 + dr), nV dd, V.int 1, V.int (((dd : Nat) : Int) + 1)] way = some (nV v) ∧ 1 ≤ v := by
        rcases (by omega : way = 0 ∨ way = 1 ∨ way = 2 ∨ way = 3 ∨ way = 4 ∨ way = 5) with z | z | z | z | z | z <;> subst z
        · exact ⟨dd, at0, dpos⟩
        · exact ⟨dd, at1, dpos⟩
        · refine ⟨(1 + dr).toNat, ?_, by omega⟩
          rw [show V.int (1 + dr) = nV (1 + dr).toNat from congrArg V.int (by omega)]
          exact at2
        · exact ⟨dd, atI_nat (j := 3) rfl, dpos⟩
        · exact ⟨1, atI_nat (j := 4) rfl, Nat.le_refl _⟩
        · exact ⟨dd + 1, atI_nat (j := 5) rfl, by omega⟩
      refine ⟨_, rfl, Z, _, _, _, rfl, rfl, SqL.of hZ, hv, l, _, _, rfl, rfl, hl7, by rw [List.length_map]; exact small256 (by omega), ?_⟩
      refine ⟨_, _, _, ls ++ [v], rfl, (k7.put lW).le (by omega), by rw [upd_same, List.map_append]; rfl, by rw [List.length_append]; show _ + 1 = _; omega, fun x h1 h2 => ?_⟩
      rw [List.getD_eq_getElem?_getD]
      by_cases e : x < ls.length
      · rw [List.getElem?_append_left e, ← List.getD_eq_getElem?_getD]
        exact lpos x h1 (by omega)
      · rw [List.getElem?_append_right (by omega), show x - ls.length = 0 by omega]
        exact v1
    rintro σ H4 ⟨x6, x7, x8, ls, rfl, k4', hl4, ll, lpos⟩
    have el : ((((ds.map nV).length : Nat) : Int) - ((n.many : Nat) : Int)).toNat = n.gates.length := by rw [List.length_map, dl]; omega
    rw [el] at k4' ll lpos
    have k04 : Wkt W C (t + 2 * n.gates.length) H H4 := Hk.wkt k3 k4' nl0
    refine ⟨small 0, fun Pp nP => ?_⟩
    have s5 := Same.new (o := .lst []) nP
    have PW := k04.wl.new nP
    have nP0 : H Pp = none := k04.was nP
    have k05 := k04.same s5
    have hP5 : upd H4 Pp (.lst []) Pp = some (.lst (([] : List Addr).map V.ref)) := upd_same
    have hl5 := s5 _ _ hl4
    have hA5 := s5 _ _ (k4'.at_ AW A1l hA3)
    have qW5 : ∀ x, x < n.many + n.gates.length → ∃ q us ws, (qs.map V.ref)[x]? = some (.ref q) ∧ (q ≠ W ∧ q ≠ C) ∧ q ≠ Pp ∧ upd H4 Pp (.lst []) q = some (.lst (us.map V.ref)) ∧ TupsAt (upd H4 Pp (.lst [])) us ws ∧ WysOk n x ws := fun x hx => by
      obtain ⟨q, us, ws, h1, h2, hql, h3, h4, h5⟩ := qW3 x hx
      have h6 := k4'.at_ h2 hql h3
      exact ⟨q, us, ws, h1, h2, fun z => (by rw [← z, h6] at nP; cases nP), s5 _ _ h6, h4.mono fun b zs e => s5 _ _ (k4'.tup w3 lnt e), h5⟩
    generalize upd H4 Pp (.lst []) = H5 at k05 hP5 hl5 hA5 qW5 ⊢
    have w5 := k05.wl
    have N5 : NetAt H5 a n g o ps := N.mono fun b xs e => wl.tup k05 e
    have hla5 := k05.at_ laW hla
    have Pnt : ∀ ys, H5 Pp ≠ some (HO.tup ys) := fun ys e => by rw [hP5] at e; cases e
    have lP : l ≠ Pp := fun z => by rw [← z, hl4] at nP; cases nP
    have AP : A1 ≠ Pp := fun z => by
      rw [← z, k4'.at_ AW A1l hA3] at nP
      cases nP
    refine ⟨_, rfl, a, _, 0, _, rfl, rfl, SqT.of N5.top, at0, _, rfl, la, _, rfl, .inl (SqL.of hla5), _, _, rfl, ⟨by omega, by omega, by omega, by rw [List.length_map]; omega⟩, ?_⟩
    refine for_range (lo := ((n.many : Nat) : Int)) (n := ((((ds.map nV).length : Nat) : Int) - ((n.many : Nat) : Int)).toNat) (fun j σ H' => ∃ (x6 x10 x11 : Option V) (es : Pap) (qs' : List Addr), σ = [some (.ref W), some (.ref a), some (nV k), some (.ref la), some (.ref A1), some (.ref l), x6, x7, x8, some (.ref Pp), x10, x11, none] ∧ Hk W C Pp (t + 50 + 10 * j) H5 H' ∧ H' Pp = some (.lst (qs'.map V.ref)) ∧ PtsAt EntAt H' qs' es ∧ es.length = j ∧ ∀ e ∈ es, 1 ≤ e.1 ∧ e.2.length ≤ k + 1 ∧ ∀ xs ∈ e.2, xs.length ≤ 1000 ∧ ∀ x ∈ xs, x < n.many + n.gates.length) ⟨x6, none, none, [], [], rfl, ⟨w5.le (by omega), Keep.refl⟩, hP5, PtsAt.nil _ _, rfl, fun e he => (by cases he)⟩ ?_ ?_
    · rw [el]
      rintro j σ H6 hj ⟨x6, x10, x11, es, qs', rfl, k6, hP6, T6, esl, eok⟩
      have hw : n.many + j < n.many + n.gates.length := by omega
      obtain ⟨qg, ug, wg, eqg, qgW, qgP, hqg, Tg, Wg⟩ := qW5 (n.many + j) hw
      have hl6 := k6.at_ lW lP hl5
      have lv : (ls.map nV)[n.many + j]? = some (nV (ls.getD (n.many + j) 0)) := natAt (by rw [ll]; exact hw)
      have lv1 := lpos (n.many + j) (Nat.le_add_right _ _) (by omega)
      rw [show V.int (((n.many : Nat) : Int) + ((j : Nat) : Int)) = nV (n.many + j) from congrArg V.int (by omega)]
      refine ⟨small 0, fun e0 ne0 => ?_⟩
      have s7 := Same.new (o := .tup []) ne0
      have he0 : upd H6 e0 (.tup []) e0 = some (.tup (([] : List Addr).map V.ref)) := upd_same
      have k7 := k6.same s7
      have hP7 := s7 _ _ hP6
      have T7 := T6.mono fun p y h => h.mono fun b xs e => s7 b _ e
      have hl7 := s7 _ _ hl6
      generalize upd H6 e0 (.tup []) = H7 at he0 k7 hP7 T7 hl7 ⊢
      refine nm_seq rfl ?_
      refine seq_nx ?_
      with_reducible refine seq_cut (fun σ H' => ∃ (x11 : Option V) (e2 : Addr) (us : List Addr) (zs : List (List Nat)), σ = [some (.ref W), some (.ref a), some (nV k), some (.ref la), some (.ref A1), some (.ref l), some (nV (n.many + j)), x7, x8, some (.ref Pp), some (.ref e2), x11, none] ∧ Wkt W C (t + 50 + 10 * j + 10) H7 H' ∧ H' e2 = some (.tup (us.map V.ref)) ∧ TupsAt H' us zs ∧ zs.length ≤ k + 1 ∧ ∀ xs ∈ zs, xs.length ≤ 1000 ∧ ∀ x ∈ xs, x < n.many + n.gates.length) (fun B hB => ?_) ?_
      · refine ⟨_, rfl, _, rfl, l, _, _, _, rfl, rfl, SqL.of hl7, atI_nat lv, _, _, rfl, rfl, _, rfl, ite2 (fun _ => ?_) (fun _ => ?_)⟩
        · have j9 : 2 ^ (j + 1) ≤ 512 := show _ ≤ 2 ^ 9 from Nat.pow_le_pow_right (by decide) (by omega)
          have wgl : wg.length ≤ 512 := by
            have := Wg.few
            rw [show n.many + j + 1 - n.many = j + 1 by omega] at this
            omega
          refine ⟨_, rfl, _, _, rfl, rfl, _, rfl, by omega, by omega, fun M nM => ?_⟩
          refine lc_range (lo := 0) (n := ((((n.many + j : Nat)) : Int) + 1).toNat) (fun i H' => ∃ ks : List Nat, Own H7 H' M (ks.map nV) ∧ ks.length ≤ i) ⟨[], ⟨Same.new nM, upd_same, nM⟩, Nat.zero_le _⟩ ?_ ?_
          · rintro i H8 hi ⟨ks, o8, kl⟩
            have hil : i < ls.length := by omega
            have hl8 := o8.sm _ _ hl7
            rw [show V.int (0 + ((i : Nat) : Int)) = nV i from congrArg V.int (Int.zero_add _)]
            refine ⟨rfl, ?_⟩
            refine ⟨_, rfl, _, rfl, l, _, _, _, rfl, rfl, SqL.of hl8, atI_nat (natAt hil), _, rfl, _, rfl, l, _, _, _, rfl, rfl, SqL.of hl8, atI_nat lv, _, _, rfl, rfl, _, _, rfl, rfl, _, rfl, ite2 (fun _ => ?_) (fun _ => ?_)⟩
            · exact ⟨_, rfl, _, o8.at_, by rw [List.length_map]; exact small256 (by omega), ks ++ [i], by rw [List.map_append]; exact o8.app, by rw [List.length_append]; show _ + 1 ≤ _; omega⟩
            · exact ⟨ks, o8, by omega⟩
          rintro H8 ⟨ks, o8, kl⟩
          have k8 := k7.same o8.sm
          have hA8 := k8.at_ AW AP hA5
          refine ⟨_, rfl, _, rfl, _, rfl, A1, _, _, _, rfl, rfl, SqL.of hA8, atI_nat eqg, _, rfl, _, rfl, W, C, qg, M, k, t + 50 + 10 * j, ug, wg, ks, rfl, k8.wl, by omega, k8.at_ qgW qgP hqg, qgW, Tg.mono fun b zs e => k8.tup w5 Pnt e, Wg.one, by omega, fun xs hx => by have := (Wg.way xs hx).1; omega, o8.at_, k7.wl.new nM, k4, fun r H9 vs' zs k9 hr Tz zl zw => ?_⟩
          refine hB _ _ ⟨_, r, vs', zs, rfl, ⟨k9.wl, (Same.keep o8.sm).trans k9.kp⟩, hr, Tz, zl, fun xs hx => ?_⟩
          have := Wg.way xs (zw xs hx)
          exact ⟨by have := this.1; omega, fun x hx => by have := this.2 x hx; omega⟩
        · exact hB _ _ ⟨x11, e0, [], [], rfl, (Wkt.refl k7.wl).le (by omega), he0, RefsAt.nil _ _, Nat.zero_le _, fun xs hx => (by cases hx)⟩
      rintro σ H8 ⟨x11', e2, us, zs, rfl, k8, he2, T8, zl, zok⟩
      have hP8 := k8.at_ PW hP7
      have hl8 := k8.at_ lW hl7
      have T78 := T7.mono fun p y h => h.mono fun b xs e => k7.wl.tup k8 e
      refine ⟨_, rfl, .inl ⟨rfl, _, SqL.of hP8⟩, _, rfl, _, rfl, l, _, _, _, rfl, rfl, SqL.of hl8, atI_nat lv, _, rfl, small 2, fun ep nep => ?_⟩
      have s9 := Same.new (o := .tup [nV (ls.getD (n.many + j) 0), .ref e2]) nep
      have hP9 := s9 _ _ hP8
      have T9 := T78.mono fun p y h => h.mono fun b xs e => s9 b _ e
      have hep : upd H8 ep (.tup [nV (ls.getD (n.many + j) 0), .ref e2]) ep = some (.tup [nV (ls.getD (n.many + j) 0), .ref e2]) := upd_same
      have he9 := s9 _ _ he2
      have T89 := T8.mono fun b xs e => s9 b _ e
      have k9 := (k7.nxt k8).same s9
      generalize upd H8 ep (.tup [nV (ls.getD (n.many + j) 0), .ref e2]) = H9 at hP9 T9 hep he9 T89 k9 ⊢
      refine ⟨Pp, _, _, rfl, rfl, hP9, by rw [List.length_map, T9.1]; exact small256 (by omega), ?_⟩
      have tp := tupPut (ys := qs'.map V.ref ++ [.ref ep]) hP9
      refine ⟨_, _, _, es ++ [(ls.getD (n.many + j) 0, zs)], qs' ++ [ep], rfl, (k9.put PW).le (by omega), by rw [upd_same, List.map_append]; rfl, PtsAt.push (T9.mono fun p y h => h.mono tp) ⟨e2, us, tp _ _ hep, tp _ _ he9, T89.mono fun b xs e => tp _ _ e⟩, by rw [List.length_append]; show _ + 1 = _; omega, fun e he => ?_⟩
      rcases List.mem_append.mp he with h | h
      · exact eok e h
      · rw [List.mem_singleton.mp h]
        exact ⟨lv1, zl, zok⟩
    · rw [el]
      rintro σ H6 ⟨x6, x10, x11, es, qs', rfl, k6, hP6, T6, esl, eok⟩
      refine ⟨_, rfl, Pp, _, rfl, .inl ⟨SqL.of hP6, fun r nr => ?_⟩⟩
      have s7 := Same.new (o := .tup (qs'.map V.ref)) nr
      have k06 := Hk.wkt k05 k6 nP0
      exact q r _ es qs' ((k06.same s7).le (by omega)) ⟨upd_same, T6.mono fun p y h => h.mono fun b xs e => s7 b _ e⟩ ⟨esl, fun e he => (eok e he).1, fun e he => by have := (eok e he).2.1; omega, fun e he => (eok e he).2.2⟩ fun e he => (eok e he).2.1
end
end K24
set_option Elab.async false
set_option linter.all false
set_option maxRecDepth 100000
set_option maxHeartbeats 4000000
/-! Cuts put together as tuples. -/
namespace GX
open PySem PySem.Spec PyProof.Rows L2
/-! ### a dict whose keys are tuples of numbers -/
def kvT (F : List (List Nat)) : List (List L2.Key × V) := F.map fun c => (c.map nK, V.bl true)
theorem kvT_len (F : List (List Nat)) : (kvT F).length = F.length := List.length_map _
theorem mapK_inj : ∀ {c d : List Nat}, c.map nK = d.map nK → c = d
  | [], [], _ => rfl
  | [], _ :: _, h => by cases h
  | _ :: _, [], h => by cases h
  | x :: c, y :: d, h => by
    obtain ⟨h1, h2⟩ := List.cons.inj h
    rw [nK_inj h1, mapK_inj h2]
theorem mapKV (c : List Nat) : (c.map nK).map kV = c.map nV := by
  rw [List.map_map]
  rfl
theorem kvT_any (F : List (List Nat)) (c : List Nat) : ((kvT F).any fun kv => decide (kv.1 = c.map nK)) = decide (c ∈ F) := by
  by_cases h : c ∈ F
  · rw [decide_eq_true h, List.any_eq_true]
    exact ⟨(c.map nK, .bl true), List.mem_map.mpr ⟨c, h, rfl⟩, decide_eq_true rfl⟩
  · rw [decide_eq_false h, List.any_eq_false]
    intro kv hkv e
    obtain ⟨d, hd, rfl⟩ := List.mem_map.mp hkv
    exact h (by rw [← mapK_inj (of_decide_eq_true e)]; exact hd)
theorem kvT_put {F : List (List Nat)} {c : List Nat} (h : c ∉ F) : putK (kvT F) (c.map nK) (.bl true) = kvT (F ++ [c]) := by
  unfold putK
  rw [kvT_any, decide_eq_false h, if_neg Bool.false_ne_true]
  unfold kvT
  rw [List.map_append]
  rfl
theorem kvT_again {F : List (List Nat)} {c : List Nat} (h : c ∈ F) : putK (kvT F) (c.map nK) (.bl true) = kvT F := by
  unfold putK
  rw [kvT_any, decide_eq_true h, if_pos rfl]
  conv => rhs; rw [← List.map_id (kvT F)]
  refine List.map_congr_left fun kv hkv => ?_
  obtain ⟨y, _, rfl⟩ := List.mem_map.mp hkv
  by_cases e : y.map nK = c.map nK
  · rw [if_pos e]; rfl
  · rw [if_neg e]; rfl
/-! ### masks of rising lists -/
theorem mask_inj {c d : List Nat} (hc : c.Pairwise (· < ·)) (hd : d.Pairwise (· < ·)) (h : maskOf c = maskOf d) : c = d := by rw [← bits_mask hc, ← bits_mask hd, h]
theorem mask_union {c f s : List Nat} (h : ∀ x, x ∈ c ↔ x ∈ f ++ s) : maskOf c = maskOf f ||| maskOf s := by
  apply Nat.eq_of_testBit_eq
  intro j
  rw [mask_bit, Nat.testBit_or, mask_bit, mask_bit, ← Bool.decide_or]
  refine decide_eq_decide.mpr ?_
  rw [h, List.mem_append]
theorem mask_pop {c : List Nat} (h : c.Pairwise (· < ·)) : pop (maskOf c) = c.length := by unfold pop; rw [bits_mask h]
theorem mask_sub {c d : List Nat} : Sub (maskOf c) (maskOf d) ↔ ∀ x ∈ c, x ∈ d := by
  constructor
  · intro h x hx
    have := h x (by rw [mask_bit]; exact decide_eq_true hx)
    rw [mask_bit] at this
    exact of_decide_eq_true this
  · intro h j hj
    rw [mask_bit] at hj ⊢
    exact decide_eq_true (h j (of_decide_eq_true hj))
theorem mask_pos {c : List Nat} (h : 0 < c.length) : 0 < maskOf c := Nat.pos_of_ne_zero fun z => by
  cases c with
  | nil => cases h
  | cons x r =>
    have : (maskOf (x :: r)).testBit x = true := by rw [mask_bit]; exact decide_eq_true List.mem_cons_self
    rw [z, Nat.zero_testBit] at this
    cases this
theorem mask_lt {c : List Nat} {m : Nat} (h : ∀ x ∈ c, x < m) : maskOf c < 2 ^ m := by
  induction c with
  | nil => exact Nat.two_pow_pos m
  | cons x r ih =>
    show 2 ^ x ||| maskOf r < 2 ^ m
    exact Nat.or_lt_two_pow (Nat.pow_lt_pow_right (by decide) (h x List.mem_cons_self)) (ih fun y hy => h y (List.mem_cons_of_mem _ hy))
/-! ### least ones, those of few wires first -/
def SubL (c d : List Nat) : Prop := ∀ x ∈ c, x ∈ d
def Minl (F : List (List Nat)) (c : List Nat) : Prop := ∀ c' ∈ F, SubL c' c → c' = c
theorem minl_ex {F : List (List Nat)} (rise : ∀ c ∈ F, c.Pairwise (· < ·)) : ∀ b c, c.length ≤ b → c ∈ F → ∃ m ∈ F, SubL m c ∧ Minl F m
  | b, c, hb, hc => by
    by_cases h : Minl F c
    · exact ⟨c, hc, fun x hx => hx, h⟩
    · obtain ⟨c', h1⟩ := Classical.not_forall.mp h
      obtain ⟨h2, h3⟩ := Classical.not_imp.mp h1
      obtain ⟨h4, h5⟩ := Classical.not_imp.mp h3
      have lt : c'.length < c.length := by
        have le := nodup_len ((rise c' h2).imp fun h => Nat.ne_of_lt h) h4
        refine Nat.lt_of_le_of_ne le fun e => h5 ?_
        have sub : ∀ x ∈ c, x ∈ c' := fun x hx => Classical.not_not.mp fun hn => by
          have nd : (x :: c').Nodup := List.nodup_cons.mpr ⟨hn, (rise c' h2).imp fun h => Nat.ne_of_lt h⟩
          have := nodup_len nd (ys := c) fun y hy => by
            rcases List.mem_cons.mp hy with e | e
            · rw [e]; exact hx
            · exact h4 y e
          rw [List.length_cons] at this
          omega
        exact rise_eq (rise c' h2) (rise c hc) fun z => ⟨h4 z, sub z⟩
      cases b with
      | zero => omega
      | succ b =>
        obtain ⟨m, m1, m2, m3⟩ := minl_ex rise b c' (by omega) h2
        exact ⟨m, m1, fun x hx => h4 x (m2 x hx), m3⟩
theorem subl_len {c d : List Nat} (hc : c.Pairwise (· < ·)) (hd : d.Pairwise (· < ·)) (h : SubL c d) (ne : c ≠ d) : c.length < d.length := by
  have le := nodup_len (hc.imp fun h => Nat.ne_of_lt h) h
  refine Nat.lt_of_le_of_ne le fun e => ne ?_
  have sub : ∀ x ∈ d, x ∈ c := fun x hx => Classical.not_not.mp fun hn => by
    have nd : (x :: c).Nodup := List.nodup_cons.mpr ⟨hn, hc.imp fun h => Nat.ne_of_lt h⟩
    have := nodup_len nd (ys := d) fun y hy => by
      rcases List.mem_cons.mp hy with e | e
      · rw [e]; exact hx
      · exact h y e
    rw [List.length_cons] at this
    omega
  exact rise_eq hc hd fun z => ⟨h z, sub z⟩
/-- what is kept so far: all least ones below a size, and the first few of it -/
structure KeptL (F : List (List Nat)) (s : Nat) (rows : List (List Nat)) (R : List (List Nat)) : Prop where
  nd : R.Nodup
  mem : ∀ c, c ∈ R ↔ ((c ∈ F ∧ c.length < s ∨ c ∈ rows) ∧ Minl F c)
theorem KeptL.test {F : List (List Nat)} (rise : ∀ c ∈ F, c.Pairwise (· < ·)) {s : Nat} {rows R : List (List Nat)} (h : KeptL F s rows R) {c : List Nat} (hc : c ∈ F) (hs : c.length = s) (hr : c ∉ rows) (hrf : ∀ c ∈ rows, c ∈ F) : (∀ m ∈ R, ¬ SubL m c) ↔ Minl F c := by
  constructor
  · intro a c' hc' hsub
    refine Classical.not_not.mp fun ne => ?_
    obtain ⟨m, m1, m2, m3⟩ := minl_ex rise _ c' (Nat.le_refl _) hc'
    have mc : SubL m c := fun x hx => hsub x (m2 x hx)
    have mne : m ≠ c := fun e => by
      have : SubL c c' := by rw [← e]; exact m2
      exact ne (rise_eq (rise c' hc') (rise c hc) fun z => ⟨hsub z, this z⟩)
    have := subl_len (rise m m1) (rise c hc) mc mne
    exact a m ((h.mem m).mpr ⟨.inl ⟨m1, by omega⟩, m3⟩) mc
  · intro hm m hmR hsub
    obtain ⟨h1, _⟩ := (h.mem m).mp hmR
    have mF : m ∈ F := h1.elim (fun z => z.1) (hrf m)
    have e := hm m mF hsub
    rw [e] at h1
    rcases h1 with z | z
    · omega
    · exact hr z
theorem KeptL.yes {F : List (List Nat)} {s : Nat} {rows R : List (List Nat)} (h : KeptL F s rows R) {c : List Nat} (hs : c.length = s) (hr : c ∉ rows) (hm : Minl F c) : KeptL F s (rows ++ [c]) (R ++ [c]) := by
  refine ⟨?_, fun d => ?_⟩
  · refine List.nodup_append.mpr ⟨h.nd, List.nodup_cons.mpr ⟨fun z => (by cases z), List.nodup_nil⟩, fun a ha b hb e => ?_⟩
    rw [List.mem_singleton.mp hb] at e
    rw [e] at ha
    rcases ((h.mem c).mp ha).1 with z | z
    · omega
    · exact hr z
  · rw [List.mem_append, h.mem, List.mem_append, List.mem_singleton]
    constructor
    · rintro (⟨h1, h2⟩ | rfl)
      · exact ⟨h1.imp id .inl, h2⟩
      · exact ⟨.inr (.inr rfl), hm⟩
    · rintro ⟨h1 | h1 | rfl, h2⟩
      · exact .inl ⟨.inl h1, h2⟩
      · exact .inl ⟨.inr h1, h2⟩
      · exact .inr rfl
theorem KeptL.no {F : List (List Nat)} {s : Nat} {rows R : List (List Nat)} (h : KeptL F s rows R) {c : List Nat} (hm : ¬ Minl F c) : KeptL F s (rows ++ [c]) R := by
  refine ⟨h.nd, fun d => ?_⟩
  rw [h.mem, List.mem_append, List.mem_singleton]
  constructor
  · rintro ⟨h1, h2⟩
    exact ⟨h1.imp id .inl, h2⟩
  · rintro ⟨h1 | h1 | rfl, h2⟩
    · exact ⟨.inl h1, h2⟩
    · exact ⟨.inr h1, h2⟩
    · exact absurd h2 hm
theorem KeptL.next {F : List (List Nat)} {s : Nat} {R : List (List Nat)} (h : KeptL F s (F.filter fun c => decide (c.length = s)) R) : KeptL F (s + 1) [] R := by
  refine ⟨h.nd, fun c => ?_⟩
  rw [h.mem]
  refine and_congr_left fun _ => ?_
  rw [List.mem_filter, decide_eq_true_iff]
  constructor
  · rintro (⟨h1, h2⟩ | ⟨h1, h2⟩)
    · exact .inl ⟨h1, by omega⟩
    · exact .inl ⟨h1, by omega⟩
  · rintro (⟨h1, h2⟩ | h1)
    · by_cases e : c.length = s
      · exact .inr ⟨h1, e⟩
      · exact .inl ⟨h1, by omega⟩
    · cases h1
/-- the least ones as masks -/
theorem kept_masks {F R : List (List Nat)} (rise : ∀ c ∈ F, c.Pairwise (· < ·)) (pos : ∀ c ∈ F, 0 < c.length) (hR : ∀ c, c ∈ R ↔ (c ∈ F ∧ Minl F c)) (M : Nat) : M ∈ R.map maskOf ↔ M ∈ (F.map maskOf).filter fun M => !hasPart (F.map maskOf) M := by
  have key : ∀ c ∈ F, (hasPart (F.map maskOf) (maskOf c) = true ↔ ¬ Minl F c) := fun c hc => by
    rw [hasPart_iff]
    constructor
    · rintro ⟨p, hp, p0, pne, ps⟩ hm
      obtain ⟨c', hc', rfl⟩ := List.mem_map.mp hp
      exact pne (by rw [hm c' hc' (mask_sub.mp ps)])
    · intro h
      obtain ⟨c', h1⟩ := Classical.not_forall.mp h
      obtain ⟨h2, h3⟩ := Classical.not_imp.mp h1
      obtain ⟨h4, h5⟩ := Classical.not_imp.mp h3
      exact ⟨maskOf c', List.mem_map.mpr ⟨c', h2, rfl⟩, mask_pos (pos c' h2), fun e => h5 (mask_inj (rise c' h2) (rise c hc) e), mask_sub.mpr h4⟩
  rw [List.mem_map, List.mem_filter, List.mem_map]
  constructor
  · rintro ⟨c, hc, rfl⟩
    obtain ⟨h1, h2⟩ := (hR c).mp hc
    refine ⟨⟨c, h1, rfl⟩, ?_⟩
    cases e : hasPart (F.map maskOf) (maskOf c) with
    | false => rfl
    | true => exact absurd h2 ((key c h1).mp e)
  · rintro ⟨⟨c, hc, rfl⟩, hb⟩
    refine ⟨c, (hR c).mpr ⟨hc, Classical.not_not.mp fun z => ?_⟩, rfl⟩
    rw [(key c hc).mpr z] at hb
    cases hb
/-! ### cuts of wires as masks -/
theorem cuts_ml {n : Net} (ok : n.Ok) {k g : Nat} {cs : List (List Nat)} (h : CutsAre n k g cs) : ML n k g (cs.map maskOf) := fun M => by
  rw [List.mem_map]
  constructor
  · rintro ⟨c, hc, rfl⟩
    exact bits_lc ((h.mem c).mp hc)
  · intro z
    exact ⟨bitsOf M, (h.mem _).mpr (lc_bits ok z), mask_bits M⟩
theorem cuts_input {n : Net} {k x : Nat} (h : x < n.many) : CutsAre n k x [] := ⟨fun c => ⟨fun z => (by cases z), fun z => by
  have := z.lt x ((sep_input h).mp z.sep)
  omega⟩, List.nodup_nil, .nil⟩
theorem mask_one (x : Nat) : maskOf [x] = 2 ^ x := by
  apply Nat.eq_of_testBit_eq
  intro j
  rw [mask_bit, Nat.testBit_two_pow]
  refine decide_eq_decide.mpr ?_
  rw [List.mem_singleton]
  exact ⟨fun e => e.symm, fun e => e.symm⟩
theorem cuts_full {n : Net} (ok : n.Ok) {k w : Nat} {cs : List (List Nat)} (hw : w < n.many + n.gates.length) (hk : 1 ≤ k) (h : CutsAre n k w cs) (M : Nat) : M ∈ ([w] :: cs).map maskOf ↔ (MinT n w M ∧ pop M ≤ k) := by
  rw [← (cuts_ml ok h).full ok hw hk M, List.map_cons, List.mem_cons, List.mem_append, List.mem_singleton, mask_one]
  exact Or.comm
end GX
set_option Elab.async false
set_option linter.all false
set_option maxRecDepth 100000
set_option maxHeartbeats 4000000
/-! The least ones, out of pairs (how many, tuple) in their order. -/
namespace GX
open PySem PySem.Spec PyProof.Rows L2
/-- a pair: how many, the tuple -/
def PrAt (H : Hp) (p : Addr) (c : List Nat) : Prop := ∃ t, H p = some (.tup [.int (c.length : Int), .ref t]) ∧ H t = some (.tup (c.map nV))
theorem PrAt.mono {H H' : Hp} {p : Addr} {c : List Nat} (h : PrAt H p c) (m : ∀ b xs, H b = some (.tup xs) → H' b = some (.tup xs)) : PrAt H' p c := by
  obtain ⟨t, h1, h2⟩ := h
  exact ⟨t, m _ _ h1, m _ _ h2⟩
/-- the tuple of a pair -/
def prN (H : Hp) : V → List Nat
  | .ref p => match H p with
    | some (.tup [_, x]) => tupN H x
    | _ => []
  | _ => []
theorem prN_at {H : Hp} {p : Addr} {c : List Nat} (h : PrAt H p c) : prN H (.ref p) = c := by
  obtain ⟨t, h1, h2⟩ := h
  show (match H p with | some (HO.tup [_, x]) => tupN H x | _ => []) = c
  rw [h1]
  exact tupN_at h2
def prK (H : Hp) (x : V) : List Int := ((prN H x).length : Int) :: (prN H x).map fun n : Nat => (n : Int)
theorem prs_map {H : Hp} : ∀ {qs : List Addr} {cs : List (List Nat)}, PtsAt PrAt H qs cs → (qs.map V.ref).map (prN H) = cs
  | [], cs, h => (List.length_eq_zero_iff.mp h.1.symm).symm
  | q :: qs, [], h => by cases h.1
  | q :: qs, c :: cs, h => by
    have h1 := h.2 0 q c rfl rfl
    have h2 : PtsAt PrAt H qs cs := ⟨Nat.succ.inj h.1, fun i p x e1 e2 => h.2 (i + 1) p x e1 e2⟩
    show prN H (.ref q) :: _ = _
    rw [prN_at h1, prs_map h2]
theorem prs_all {H : Hp} {qs : List Addr} {cs : List (List Nat)} (h : PtsAt PrAt H qs cs) {x : V} (hx : x ∈ qs.map V.ref) : ∃ p c, x = .ref p ∧ c ∈ cs ∧ PrAt H p c := by
  obtain ⟨i, hi, e⟩ := List.mem_iff_getElem.mp hx
  obtain ⟨t, c, e1, e2, e3⟩ := h.at_ (i := i) (v := x) (by rw [List.getElem?_eq_getElem hi, e])
  exact ⟨t, c, e1, List.mem_of_getElem? e2, e3⟩
theorem prs_sorted {H : Hp} {qs : List Addr} {cs : List (List Nat)} (h : PtsAt PrAt H qs cs) {ys : List V} (srt : SrtO.Srtd (fun x y => HT.lexLt (prK H x) (prK H y)) ys) (pm : ys.Perm (qs.map V.ref)) :
    ∃ (rs : List Addr) (ds : List (List Nat)), ys = rs.map V.ref ∧ PtsAt PrAt H rs ds ∧ ds.Perm cs ∧ ds.Pairwise fun a b => a.length ≤ b.length := by
  have hall : ∀ y ∈ ys, ∃ p c, y = .ref p ∧ c ∈ cs ∧ PrAt H p c := fun y hy => prs_all h (pm.mem_iff.mp hy)
  have mk : ∀ zs : List V, (∀ y ∈ zs, ∃ p c, y = .ref p ∧ c ∈ cs ∧ PrAt H p c) → ∃ rs : List Addr, zs = rs.map V.ref ∧ PtsAt PrAt H rs (zs.map (prN H)) := by
    intro zs
    induction zs with
    | nil => exact fun _ => ⟨[], rfl, PtsAt.nil _ _⟩
    | cons y zs ih =>
      intro hz
      obtain ⟨t, c, rfl, _, ht⟩ := hz y List.mem_cons_self
      obtain ⟨rs, e, hr⟩ := ih fun y hy => hz y (List.mem_cons_of_mem _ hy)
      refine ⟨t :: rs, by rw [e]; rfl, ?_⟩
      have := hr.cons (q := t) (y := prN H (.ref t)) (by rw [prN_at ht]; exact ht)
      exact this
  obtain ⟨rs, e, hr⟩ := mk ys hall
  refine ⟨rs, ys.map (prN H), e, hr, ?_, ?_⟩
  · have := pm.map (prN H)
    rw [prs_map h] at this
    exact this
  · refine List.pairwise_map.mpr (List.Pairwise.imp (fun {x y} hxy => ?_) srt)
    have hxy' : HT.lexLt (prK H y) (prK H x) = false := hxy
    unfold prK at hxy'
    rw [HT.lexLt_cons] at hxy'
    by_cases e : ((prN H y).length : Int) = ((prN H x).length : Int)
    · omega
    · rw [if_neg e] at hxy'
      have := of_decide_eq_false hxy'
      omega
/-- what is kept of the first few, by size -/
structure KeptS (F cs : List (List Nat)) (j : Nat) (R : List (List Nat)) : Prop where
  nd : R.Nodup
  mem : ∀ c, c ∈ R ↔ (c ∈ cs.take j ∧ Minl F c)
theorem KeptS.zero (F cs : List (List Nat)) : KeptS F cs 0 [] := ⟨List.nodup_nil, fun c => ⟨fun z => (by cases z), fun z => by
  have := z.1
  rw [List.take_zero] at this
  cases this⟩⟩
theorem not_taken {cs : List (List Nat)} (nd : cs.Nodup) {j : Nat} {c : List Nat} (hc : cs[j]? = some c) : c ∉ cs.take j := fun z => by
  obtain ⟨i', hi', e'⟩ := List.mem_iff_getElem.mp z
  rw [List.getElem_take] at e'
  rw [List.length_take] at hi'
  obtain ⟨h3, h4⟩ := List.getElem?_eq_some_iff.mp hc
  have := (List.getElem_inj (xs := cs) (i := i') (j := j) (h₀ := by omega) (h₁ := h3) nd).mp (by rw [e', h4])
  omega
theorem KeptS.test {F cs : List (List Nat)} (rise : ∀ c ∈ F, c.Pairwise (· < ·)) (pm : ∀ c, c ∈ cs ↔ c ∈ F) (nd : cs.Nodup) (srt : cs.Pairwise fun a b => a.length ≤ b.length) {j : Nat} {R : List (List Nat)} (h : KeptS F cs j R) {c : List Nat} (hc : cs[j]? = some c) : (∀ m ∈ R, ¬ SubL m c) ↔ Minl F c := by
  have hcF : c ∈ F := (pm c).mp (List.mem_of_getElem? hc)
  constructor
  · intro a c' hc' hsub
    refine Classical.not_not.mp fun ne => ?_
    obtain ⟨m, m1, m2, m3⟩ := minl_ex rise _ c' (Nat.le_refl _) hc'
    have mc : SubL m c := fun x hx => hsub x (m2 x hx)
    have mne : m ≠ c := fun e => by
      have : SubL c c' := by rw [← e]; exact m2
      exact ne (rise_eq (rise c' hc') (rise c hcF) fun z => ⟨hsub z, this z⟩)
    have lt := subl_len (rise m m1) (rise c hcF) mc mne
    refine a m ((h.mem m).mpr ⟨?_, m3⟩) mc
    obtain ⟨i, hi, ei⟩ := List.mem_iff_getElem.mp ((pm m).mpr m1)
    obtain ⟨hj, ej⟩ := List.getElem?_eq_some_iff.mp hc
    have ij : i < j := by
      rcases Nat.lt_trichotomy i j with z | z | z
      · exact z
      · subst z
        rw [ei] at ej
        exact absurd ej mne
      · have := List.pairwise_iff_getElem.mp srt j i hj hi z
        rw [ei, ej] at this
        omega
    rw [← ei]
    exact List.mem_iff_getElem.mpr ⟨i, by rw [List.length_take]; omega, List.getElem_take⟩
  · intro hm m hmR hsub
    obtain ⟨h1, _⟩ := (h.mem m).mp hmR
    have e := hm m ((pm m).mp (List.mem_of_mem_take h1)) hsub
    rw [e] at h1
    exact not_taken nd hc h1
theorem KeptS.yes {F cs : List (List Nat)} (nd : cs.Nodup) {j : Nat} {R : List (List Nat)} (h : KeptS F cs j R) {c : List Nat} (hc : cs[j]? = some c) (hm : Minl F c) : KeptS F cs (j + 1) (R ++ [c]) := by
  have tk : cs.take (j + 1) = cs.take j ++ [c] := by rw [List.take_add_one, hc]; rfl
  refine ⟨?_, fun d => ?_⟩
  · refine List.nodup_append.mpr ⟨h.nd, List.nodup_cons.mpr ⟨fun z => (by cases z), List.nodup_nil⟩, fun a ha b hb e => ?_⟩
    rw [List.mem_singleton.mp hb] at e
    rw [e] at ha
    exact not_taken nd hc ((h.mem c).mp ha).1
  · rw [List.mem_append, h.mem, tk, List.mem_append, List.mem_singleton]
    constructor
    · rintro (⟨h1, h2⟩ | rfl)
      · exact ⟨.inl h1, h2⟩
      · exact ⟨.inr rfl, hm⟩
    · rintro ⟨h1 | rfl, h2⟩
      · exact .inl ⟨h1, h2⟩
      · exact .inr rfl
theorem KeptS.no {F cs : List (List Nat)} {j : Nat} {R : List (List Nat)} (h : KeptS F cs j R) {c : List Nat} (hc : cs[j]? = some c) (hm : ¬ Minl F c) : KeptS F cs (j + 1) R := by
  have tk : cs.take (j + 1) = cs.take j ++ [c] := by rw [List.take_add_one, hc]; rfl
  refine ⟨h.nd, fun d => ?_⟩
  rw [h.mem, tk, List.mem_append, List.mem_singleton]
  constructor
  · rintro ⟨h1, h2⟩
    exact ⟨.inl h1, h2⟩
  · rintro ⟨h1 | rfl, h2⟩
    · exact ⟨h1, h2⟩
    · exact absurd h2 hm
end GX
set_option Elab.async false
set_option linter.all false
/-! A gate of a net. -/
namespace GX
open PySem PySem.Spec PyProof.Rows L2
end GX
set_option Elab.async false
set_option linter.all false
set_option maxRecDepth 100000
set_option maxHeartbeats 4000000
namespace K24
open PySem PySem.Spec PyProof.Rows L2 GX
open C8 (Cal pe_c pe_gc Met Mak)
section
variable {P : Program} {w : World} {K : PySem.W.Frag} {mg : Str → Option Value} {base : Heap} {Ts : List Addr}
def spHeld : Sp := fun vs H Q _ => ∃ (ra oa : Addr) (row other : List Nat), vs = [.ref oa, .ref ra] ∧ H ra = some (.tup (row.map nV)) ∧ H oa = some (.tup (other.map nV)) ∧ other.length ≤ 100 ∧ ∀ b H', (b = true ↔ SubL other row) → Same H H' → Q (.bl b) H'
theorem ok_held {f c : Addr} (D : Dfn K mg "_law_held" s__law_held f c) (T : Txt mg) : Cal P w K mg base 1 "_law_held" spHeld [] := by
  refine cal D (fun _ _ _ _ _ _ us hl => match us, hl with | [_, _], _ => rfl) sc__law_held (fun vs H Q E h => ?_) (fun A outer s H vs Q E hr h => ?_)
  · obtain ⟨ra, oa, row, other, rfl, _⟩ := h
    rfl
  · obtain ⟨ra, oa, row, other, rfl, hra, hoa, ol, q⟩ := h
    refine ⟨_, (pss_one (ps_ret (pe_cmpR (op_eqD hr.units) (pe_lc (own := [("_law_wire", 2)]) (g := gName 2)  rfl sc__law_held.nd (pi_tup (pv 0)) (blkOk_by (own := [("_law_wire", 2)]) (N := ["_law_one", "_law_other", "_law_wire"]) (sc := defScope s__law_held) (by decide +kernel)) (fun _ _ _ _ _ => (pg_name (i := 2) sc__law_held.nd rfl (by first | exact Or.inl rfl | exact Or.inr rfl))) (fun _ _ _ _ _ => (pts_one (pt_cmpR (op_notIn_seqK (K := K)) (pv 2) (pv 1) (by rfl)))) (fun _ _ _ _ _ => (pv 2))) (pe_lst pa_nil) (nomark _)))), ?_⟩
    refine ⟨_, rfl, oa, rfl, ⟨_, SqT.of hoa⟩, fun M nM => ?_⟩
    refine lc_tup (K := K) (a := oa) (xs := other.map nV) (fun i H' => ∃ js : List Nat, Own H H' M (js.map nV) ∧ js.length ≤ i ∧ (js = [] ↔ ∀ x ∈ other.take i, x ∈ row)) ⟨[], ⟨Same.new nM, upd_same, nM⟩, Nat.le_refl _, fun _ x hx => (by cases hx), fun _ => rfl⟩ (fun _ H' _ h => h.elim fun us h => SqT.of (h.1.sm _ _ hoa)) ?_ ?_
    · rintro i x H2 hx ⟨js, o2, jl, jw⟩
      have hi : i < other.length := by
        have := (List.getElem?_eq_some_iff.mp hx).1
        rwa [List.length_map] at this
      rw [natAt hi] at hx
      cases hx
      have mt := fun x => mem_take_succ (l := other) hi x
      generalize other.getD i 0 = y at mt ⊢
      refine ⟨rfl, _, rfl, _, rfl, ra, _, rfl, .inr (SqT.of (o2.sm _ _ hra)), rfl, flat_ns row, _, rfl, ?_⟩
      have ev : (if true = true then !inV (nV y) (row.map nV) else inV (nV y) (row.map nV)) = !decide (y ∈ row) := by rw [if_pos rfl, inV_n]
      rw [ev]
      refine ite2 (fun h1 => ?_) (fun h1 => ?_)
      · have h1' : y ∉ row := fun z => by rw [decide_eq_true z] at h1; cases h1
        exact ⟨_, rfl, _, o2.at_, by rw [List.length_map]; exact small256 (by omega), js ++ [y], by rw [List.map_append]; exact o2.app, by rw [List.length_append]; show js.length + 1 ≤ _; omega, fun z => (by cases js <;> cases z), fun z => absurd (z y ((mt y).mpr (.inr rfl))) h1'⟩
      · have h1' : y ∈ row := Classical.not_not.mp fun z => h1 (by rw [decide_eq_false z]; rfl)
        refine ⟨js, o2, by omega, jw.trans ⟨fun z x hx => ?_, fun z x hx => z x ((mt x).mpr (.inl hx))⟩⟩
        rcases (mt x).mp hx with e | e
        · exact z x e
        · rw [e]; exact h1'
    · rintro H2 ⟨js, o2, jl, jw⟩
      rw [List.length_map, List.take_length] at jw
      refine ⟨small 0, fun z nz => ?_⟩
      have s3 := Same.new (o := .lst []) nz
      refine ⟨.list ((js.map fun n : Nat => (n : Int)).map PyData.int), .list [], .lst (SqL.of (s3 _ _ o2.at_)) (dpNat K _ _), .lst (SqL.of upd_same) .nil, PySem.W.ke_shaped_ints _, by decide, ?_⟩
      have ee : (PyData.eqv (.list ((js.map fun n : Nat => (n : Int)).map PyData.int)) (.list [])) = decide (js.length = 0) := by
        show (PyData.eqvAll _ []) = _
        rw [eqvAllN, List.length_map, List.length_map]
      rw [ee]
      refine q _ _ ?_ (o2.sm.trans s3)
      rw [decide_eq_true_iff, List.length_eq_zero_iff, jw]
      exact Iff.rfl
end
section
variable {P : Program} {w : World} {K : PySem.W.Frag} {mg : Str → Option Value} {base : Heap} {Ts : List Addr}
/-- the least ones of a dict's keys, sorted -/
def spLeastD : Sp := fun vs H Q _ => ∃ (d : Addr) (F : List (List Nat)), vs = [.ref d] ∧ H d = some (.dT (kvT F)) ∧ F.Nodup ∧ (∀ c ∈ F, c.Pairwise (· < ·) ∧ 0 < c.length ∧ c.length ≤ 100) ∧ F.length < sizeLine ∧
  ∀ r H' (rs : List Addr) (ls : List (List Nat)), Same H H' → H r = none → H' r = some (.lst (rs.map V.ref)) → TupsAt H' rs ls → ls.Nodup → (∀ c, c ∈ ls ↔ (c ∈ F ∧ Minl F c)) → (ls.Pairwise fun a b => lexN b a = false) → Q (.ref r) H'
theorem ok_leastD {f c : Addr} (D : Dfn K mg "_law_least" s__law_least f c) (T : Txt mg) (c__law_held : Cal P w K mg base 1 "_law_held" spHeld []) : Cal P w K mg base 2 "_law_least" spLeastD [] := by
  refine cal D (fun _ _ _ _ _ _ us hl => match us, hl with | [_], _ => rfl) sc__law_least (fun vs H Q E h => ?_) (fun A outer s H vs Q E hr h => ?_)
  · obtain ⟨d, F, rfl, _⟩ := h
    rfl
  · obtain ⟨d, F, rfl, hd, ndF, lF, lenF, q⟩ := h
    have rise : ∀ c ∈ F, c.Pairwise (· < ·) := fun c hc => (lF c hc).1
    refine ⟨_, (pss_cons (ps_set (i := 1) sc__law_least.nd rfl (by first | exact Or.inl rfl | exact Or.inr rfl) (pe_lst pa_nil))
      (pss_cons (ps_for PassesOwn.never rfl (pi_list (pe_callB (cr_sortPair (Nat.lt_of_le_of_lt (Nat.add_le_add_left (by decide) _) hr.units)) (by rfl) T.b_sorted (by decide +kernel) (pa_cons (pe_lock (pe_lc (own := [("_law_one", 4)]) (g := gName 4) (tt := tYes) rfl sc__law_least.nd (pi_keys (pv 0)) (blkOk_by (own := [("_law_one", 4)]) (N := ["_law_some", "_law_kept", "_law_many", "_law_cut", "_law_one"]) (sc := defScope s__law_least) (by decide +kernel)) (fun _ _ _ _ _ => (pg_name (i := 4) sc__law_least.nd rfl (by first | exact Or.inl rfl | exact Or.inr rfl))) (fun _ _ _ _ _ => pts_nil) (fun _ _ _ _ _ => (pe_tup (pa_cons (pe_callB (len_seqK (K := K)) (by rfl) T.b_len (by decide +kernel) (pa_cons (pv 4) pa_nil)) (pa_cons (pv 4) pa_nil)))))) pa_nil))) (pg_tup rfl (pgs_cons (pg_name (i := 2) sc__law_least.nd rfl (by first | exact Or.inl rfl | exact Or.inr rfl)) (pgs_cons (pg_name (i := 3) sc__law_least.nd rfl (by first | exact Or.inl rfl | exact Or.inr rfl)) pgs_nil)))
        (pss_one (ps_if (pt_cmpR (op_eqD hr.units) (pe_lc (own := [("_law_one", 4)]) (g := gName 4)  rfl sc__law_least.nd (pi_list (pv 1)) (blkOk_by (own := [("_law_one", 4)]) (N := ["_law_some", "_law_kept", "_law_many", "_law_cut", "_law_one"]) (sc := defScope s__law_least) (by decide +kernel)) (fun _ _ _ _ _ => (pg_name (i := 4) sc__law_least.nd rfl (by first | exact Or.inl rfl | exact Or.inr rfl))) (fun _ _ _ _ _ => (pts_one (pt_val (pe_c c__law_held hr (by decide) (by rfl) (pa_cons (pv 4) (pa_cons (pv 3) pa_nil)))))) (fun _ _ _ _ _ => (pv 4))) (pe_lst pa_nil) (nomark _)) (pss_one (ps_expr (pe_bm PySem.F.plainAttrs_list PySem.F.slot_list_append PySem.F.type_list_append mt_append (pv 1) (pa_cons (pv 3) pa_nil)))) pss_nil)))
      (pss_one (ps_ret (pe_callB cr_sortTup (by rfl) T.b_sorted (by decide +kernel) (pa_cons (pv 1) pa_nil)))))), ?_⟩
    refine ⟨small 0, fun S nS => ?_⟩
    have o1 : Own H (upd H S (.lst [])) S (([] : List Addr).map V.ref) := ⟨Same.new nS, upd_same, nS⟩
    generalize upd H S (.lst []) = H1 at o1 ⊢
    have hd1 := o1.sm _ _ hd
    refine ⟨d, .dT (kvT F), hd1, trivial, fun od => ⟨_, rfl, d, od, rfl, .inr ⟨kvT F, upd_same, fun M nM => ?_⟩⟩⟩
    have hdl : upd H1 d (.frz od (.dT (kvT F))) d = some (.frz od (.dT (kvT F))) := upd_same
    have kl1 : ∀ b v, b ≠ d → H1 b = some v → upd H1 d (.frz od (.dT (kvT F))) b = some v := fun b v hb e => by rw [upd_ne hb]; exact e
    generalize upd H1 d (.frz od (.dT (kvT F))) = Hl at nM hdl kl1 ⊢
    refine lc_it (walk_keysT (kvs := kvT F)) (fun j H' => ∃ us : List Addr, Own Hl H' M (us.map V.ref) ∧ PtsAt PrAt H' us (F.take j)) ⟨[], ⟨Same.new nM, upd_same, nM⟩, PtsAt.nil _ _⟩ (fun i H' _ h => h.elim fun _ h => h.1.sm _ _ hdl) ?_ ?_
    · rintro j x H2 H3 hj ⟨us, o2, P2⟩ ⟨rfl, kk', v, qk, hkv, rfl, hqk⟩
      rw [kvT_len] at hj
      have hc : F[j]? = some F[j] := List.getElem?_eq_getElem hj
      have ek' : kk' = F[j].map nK := by
        unfold kvT at hkv
        rw [List.getElem?_map, hc] at hkv
        exact (congrArg Prod.fst (Option.some.inj hkv)).symm
      generalize F[j] = c' at hc ek'
      subst ek'
      rw [mapKV] at hqk
      have tk : F.take (j + 1) = F.take j ++ [c'] := by rw [List.take_add_one, hc]; rfl
      have ul : us.length ≤ F.length := by rw [P2.1, List.length_take]; omega
      refine ⟨rfl, ?_⟩
      unfold tYes
      refine iteT ?_
      refine ⟨_, rfl, qk, _, rfl, .inr (SqT.of hqk), _, rfl, small 2, fun pr npr => ?_⟩
      have s3 := Same.new (o := .tup [.int (((c'.map nV).length : Nat) : Int), .ref qk]) npr
      rw [List.length_map] at s3 ⊢
      have hpr : upd H3 pr (.tup [.int ((c'.length : Nat) : Int), .ref qk]) pr = some (.tup [.int ((c'.length : Nat) : Int), .ref qk]) := upd_same
      generalize upd H3 pr (.tup [.int ((c'.length : Nat) : Int), .ref qk]) = H4 at s3 hpr ⊢
      have o4 : Own Hl H4 M (us.map V.ref) := ⟨o2.sm.trans s3, s3 _ _ o2.at_, o2.nw⟩
      refine ⟨_, o4.at_, by rw [List.length_map]; exact Nat.lt_of_le_of_lt ul lenF, us ++ [pr], by rw [List.map_append]; exact o4.app, ?_⟩
      have up : ∀ b xs, H4 b = some (.tup xs) → upd H4 M (.lst (us.map V.ref ++ [V.ref pr])) b = some (.tup xs) := fun b xs e => by
        rw [upd_ne (fun z => by rw [z, o4.at_] at e; cases e)]
        exact e
      rw [tk]
      exact (P2.mono fun p y h => (h.mono fun b xs e => s3 _ _ e).mono up).push (PrAt.mono ⟨qk, hpr, s3 _ _ hqk⟩ up)
    · rintro H2 ⟨us, o2, P2⟩
      rw [kvT_len, List.take_length] at P2
      refine ⟨o2.sm _ _ hdl, ?_⟩
      have s13 : Same H1 (upd H2 d (.dT (kvT F))) := fun b v e => by
        by_cases hb : b = d
        · rw [hb] at e ⊢
          rw [hd1] at e
          rw [upd_same, e]
        · rw [upd_ne hb]
          exact o2.sm _ _ (kl1 b v hb e)
      have Md : M ≠ d := fun z => by rw [z, hdl] at nM; cases nM
      have hM3 : upd H2 d (.dT (kvT F)) M = some (.lst (us.map V.ref)) := by rw [upd_ne Md]; exact o2.at_
      have P3 : PtsAt PrAt (upd H2 d (.dT (kvT F))) us F := P2.mono fun p y h => h.mono fun b zs e => by
        rw [upd_ne (fun z => by rw [z, o2.sm _ _ hdl] at e; cases e)]
        exact e
      generalize upd H2 d (.dT (kvT F)) = H3 at s13 hM3 P3 ⊢
      refine ⟨M, us.map V.ref, prK H3, rfl, SqL.of hM3, fun x hx => ?_, fun ys lp srt pm np => ?_⟩
      · obtain ⟨p, c', rfl, hc, hp⟩ := prs_all P3 hx
        have e := prN_at hp
        obtain ⟨t, h1, h2⟩ := hp
        refine ⟨p, t, (c'.length : Int), c'.map fun n : Nat => (n : Int), rfl, ?_, h1, by rw [mapV]; exact h2⟩
        unfold prK
        rw [e]
      obtain ⟨rs, cs, rfl, R3, pm', len'⟩ := prs_sorted P3 srt pm
      have s4 := Same.new (o := .lst (rs.map V.ref)) np
      have o4 : Own H (upd H3 lp (.lst (rs.map V.ref))) S (([] : List Addr).map V.ref) := ⟨o1.sm.trans (s13.trans s4), s4 _ _ (s13 _ _ o1.at_), nS⟩
      have hlp : upd H3 lp (.lst (rs.map V.ref)) lp = some (.lst (rs.map V.ref)) := upd_same
      have R4 := R3.mono fun p y h => h.mono fun b zs e => s4 _ _ e
      have lpS : lp ≠ S := fun z => by
        have := s13 _ _ o1.at_
        rw [← z, np] at this
        cases this
      generalize upd H3 lp (.lst (rs.map V.ref)) = H4 at o4 hlp R4 ⊢
      have ndc : cs.Nodup := pm'.nodup_iff.mpr ndF
      have mc : ∀ c, c ∈ cs ↔ c ∈ F := fun c => pm'.mem_iff
      refine ⟨lp, rfl, ⟨_, SqL.of hlp⟩, ?_⟩
      refine for_list (K := K) (a := lp) (xs := rs.map V.ref) (fun j σ H' => ∃ (x2 x3 x4 : Option V) (us : List Addr) (Rl : List (List Nat)), σ = [some (.ref d), some (.ref S), x2, x3, x4] ∧ (∀ b v, b ≠ S → H4 b = some v → H' b = some v) ∧ Own H H' S (us.map V.ref) ∧ TupsAt H' us Rl ∧ KeptS F cs j Rl) ⟨none, none, none, [], [], rfl, fun b v _ e => e, o4, RefsAt.nil _ _, KeptS.zero _ _⟩ ?_ ?_ ?_
      · rintro j σ H' _ ⟨_, _, _, _, _, _, kp, _⟩
        exact SqL.of (kp _ _ lpS hlp)
      · rintro j x σ H5 hx ⟨x2, x3, x4, us, Rl, rfl, kp5, o5, U5, kl⟩
        obtain ⟨pr, cr, rfl, hcr, tr, hpr0, htr0⟩ := R4.at_ hx
        have hpr : H4 pr = some (.tup [.int (cr.length : Int), .ref tr]) := hpr0
        have htr : H4 tr = some (.tup (cr.map nV)) := htr0
        have hpr5 := kp5 _ _ (fun z => by rw [z, o4.at_] at hpr; cases hpr) hpr
        have htr5 := kp5 _ _ (fun z => by rw [z, o4.at_] at htr; cases htr) htr
        have tst := kl.test rise mc ndc len' hcr
        have RF : ∀ c ∈ Rl, c ∈ F := fun c hc => (mc c).mp (List.mem_of_mem_take ((kl.mem c).mp hc).1)
        have RlF : Rl.length ≤ F.length := List.Nodup.length_le_of_subset kl.nd RF
        refine ⟨pr, _, rfl, SqT.of hpr5, rfl, _, _, rfl, _, _, rfl, rfl, ?_⟩
        refine ⟨_, rfl, S, rfl, ⟨_, SqL.of o5.at_⟩, fun L nL => ?_⟩
        refine lc_list (K := K) (a := S) (xs := us.map V.ref) (fun i H' => ∃ (ws : List Addr) (ms : List (List Nat)), Own H5 H' L (ws.map V.ref) ∧ TupsAt H' ws ms ∧ ms.length ≤ i ∧ (ms = [] ↔ ∀ m ∈ Rl.take i, ¬ SubL m cr)) ⟨[], [], ⟨Same.new nL, upd_same, nL⟩, RefsAt.nil _ _, Nat.le_refl _, fun _ x hx => (by cases hx), fun _ => rfl⟩ (fun _ H' _ h => by obtain ⟨ws, ms, o', _⟩ := h; exact SqL.of (o'.sm _ _ o5.at_)) ?_ ?_
        · rintro i' v H16 hv ⟨ws, ms, o16, W16, ml, mw⟩
          have hi' : i' < Rl.length := by
            have := (List.getElem?_eq_some_iff.mp hv).1
            rwa [List.length_map, U5.1] at this
          obtain ⟨tm, cm, rfl, hcm, hat⟩ := U5.at_ hv
          have hat16 := o16.sm _ _ hat
          have tkm : Rl.take (i' + 1) = Rl.take i' ++ [cm] := by rw [List.take_add_one, hcm]; rfl
          have cm4 := (lF cm (RF cm (List.mem_of_getElem? hcm))).2.2
          refine ⟨rfl, _, rfl, _, rfl, tr, tm, cr, cm, rfl, o16.sm _ _ htr5, hat16, cm4, fun b H17 hb s17 => ⟨_, rfl, ite2 (fun h1 => ?_) (fun h1 => ?_)⟩⟩
          · have o17 : Own H5 H17 L (ws.map V.ref) := ⟨o16.sm.trans s17, s17 _ _ o16.at_, o16.nw⟩
            refine ⟨_, rfl, _, o17.at_, by rw [List.length_map, W16.1]; omega, ws ++ [tm], ms ++ [cm], ?_, ?_, ?_, ?_⟩
            · rw [List.map_append]
              exact o17.app
            · exact ((W16.mono fun b zs e => s17 _ _ e).push (y := cm) (s17 _ _ hat16)).mono fun b zs e => by
                rw [upd_ne (fun z => by rw [z, o17.at_] at e; cases e)]
                exact e
            · rw [List.length_append]
              show ms.length + 1 ≤ _
              omega
            · rw [tkm]
              exact ⟨fun z => (by cases ms <;> cases z), fun z => absurd (hb.mp h1) (z cm (List.mem_append.mpr (.inr List.mem_cons_self)))⟩
          · refine ⟨ws, ms, ⟨o16.sm.trans s17, s17 _ _ o16.at_, o16.nw⟩, W16.mono fun b zs e => s17 _ _ e, by omega, mw.trans ?_⟩
            rw [tkm]
            refine ⟨fun z m hm => ?_, fun z m hm => z m (List.mem_append.mpr (.inl hm))⟩
            rcases List.mem_append.mp hm with e | e
            · exact z m e
            · rw [List.mem_singleton.mp e]
              exact fun y => h1 (hb.mpr y)
        · rintro H16 ⟨ws, ms, o16, W16, ml, mw⟩
          rw [List.length_map, U5.1, List.take_length] at mw
          refine ⟨small 0, fun z nz => ?_⟩
          have s17 := Same.new (o := .lst []) nz
          refine ⟨.list (tupsD ms), .list [], .lst (SqL.of (s17 _ _ o16.at_)) (dpTups (W16.mono fun b zs e => s17 _ _ e)), .lst (SqL.of upd_same) .nil, shaped_lst (tupsD_can ms).1 (tupsD_can ms).2 (by decide), by decide, _, rfl, ?_⟩
          have ee : (PyData.eqv (.list (tupsD ms)) (.list [])) = decide (ms.length = 0) := by
            show (PyData.eqvAll _ []) = _
            unfold tupsD
            rw [eqvAllN, List.length_map]
          rw [ee]
          have s57 : Same H5 (upd H16 z (.lst [])) := o16.sm.trans s17
          generalize upd H16 z (.lst []) = H17 at s57 ⊢
          have o17 : Own H H17 S (us.map V.ref) := ⟨o5.sm.trans s57, s57 _ _ o5.at_, nS⟩
          have U17 := U5.mono fun b zs e => s57 _ _ e
          have kp17 : ∀ b v, b ≠ S → H4 b = some v → H17 b = some v := fun b v hb e => s57 _ _ (kp5 b v hb e)
          refine ite2 (fun h1 => ?_) (fun h1 => ?_)
          · have hm : Minl F cr := tst.mp (mw.mp (List.length_eq_zero_iff.mp (of_decide_eq_true h1)))
            refine ⟨_, rfl, .inl ⟨rfl, _, SqL.of o17.at_⟩, _, rfl, S, _, _, rfl, rfl, o17.at_, by rw [List.length_map, U17.1]; omega, ?_⟩
            refine ⟨_, _, _, us ++ [tr], Rl ++ [cr], rfl, fun b v hb e => by rw [upd_ne hb]; exact kp17 b v hb e, by rw [List.map_append]; exact o17.app, ?_, kl.yes ndc hcr hm⟩
            exact (U17.push (y := cr) (s57 _ _ htr5)).mono fun b zs e => by
              rw [upd_ne (fun z => by rw [z, o17.at_] at e; cases e)]
              exact e
          · have hm : ¬ Minl F cr := fun z => h1 (decide_eq_true (List.length_eq_zero_iff.mpr (mw.mpr (tst.mpr z))))
            exact ⟨_, _, _, us, Rl, rfl, kp17, o17, U17, kl.no hcr hm⟩
      · rintro σ H5 ⟨x2, x3, x4, us, Rl, rfl, kp5, o5, U5, kl⟩
        rw [List.length_map, R4.1] at kl
        have hR : ∀ c, c ∈ Rl ↔ (c ∈ F ∧ Minl F c) := fun c => by
          rw [kl.mem, List.take_length, mc]
        refine ⟨_, rfl, S, us.map V.ref, fun x => (tupN H5 x).map (fun n : Nat => (n : Int)), rfl, SqL.of o5.at_, fun x hx => ?_, fun ys lp2 srt pm2 np => ?_⟩
        · obtain ⟨t, c', rfl, hc, ht⟩ := U5.all hx
          dsimp only
          rw [tupN_at ht]
          refine ⟨⟨t, rfl, by rw [mapV]; exact ht⟩, fun z => ?_⟩
          have z' := List.map_eq_nil_iff.mp z
          rw [z'] at hc
          have := (lF [] ((hR _).mp hc).1).2.1
          cases this
        · obtain ⟨rs', ls, rfl, hR9, pd, sd⟩ := tups_sorted U5 srt pm2
          have sP := Same.new (o := .lst (rs'.map V.ref)) np
          exact q lp2 _ rs' ls (o5.sm.trans sP) (Same.was o5.sm np) upd_same (hR9.mono fun b zs e => sP _ _ e) (pd.nodup_iff.mpr kl.nd) (fun c => by rw [pd.mem_iff, hR]) sd
end
end K24
set_option Elab.async false
set_option linter.all false
set_option maxRecDepth 100000
set_option maxHeartbeats 4000000
namespace K24
open PySem PySem.Spec PyProof.Rows L2 GX
open C8 (Cal pe_c pe_gc Met Mak)
section
variable {P : Program} {w : World} {K : PySem.W.Frag} {mg : Str → Option Value} {base : Heap} {Ts : List Addr}
/-- the cuts of a wire, as a list of tuples, no part of S -/
def KTolL (S : Addr) (n : Net) (k : Nat) (H : Hp) (q : Addr) (x : Nat) : Prop := q ≠ S ∧ ∃ (rs : List Addr) (cs : List (List Nat)), H q = some (.lst (rs.map V.ref)) ∧ TupsAt H rs cs ∧ CutsAre n k x cs ∧ cs.length < 2 ^ 23
theorem KTolL.mono {S : Addr} {n : Net} {k : Nat} {H H' : Hp} {q : Addr} {x : Nat} (h : KTolL S n k H q x) (m : ∀ b v, b ≠ S → H b = some v → (∀ kvs, v ≠ .dT kvs) → H' b = some v) (hS : ∀ xs, H S ≠ some (.tup xs)) : KTolL S n k H' q x := by
  obtain ⟨ne, rs, cs, h1, h2, h3⟩ := h
  exact ⟨ne, rs, cs, m _ _ ne h1 (fun _ z => by cases z), h2.mono fun b xs e => m _ _ (fun z => hS xs (by rw [← z]; exact e)) e (fun _ z => by cases z), h3⟩
/-- made behind H0 -/
def KTolN (H0 : Hp) (S : Addr) (n : Net) (k : Nat) (H : Hp) (q : Addr) (x : Nat) : Prop := H0 q = none ∧ KTolL S n k H q x
theorem KTolN.mono {H0 : Hp} {S : Addr} {n : Net} {k : Nat} {H H' : Hp} {q : Addr} {x : Nat} (h : KTolN H0 S n k H q x) (m : ∀ b v, b ≠ S → H b = some v → (∀ kvs, v ≠ .dT kvs) → H' b = some v) (hS : ∀ xs, H S ≠ some (.tup xs)) : KTolN H0 S n k H' q x := ⟨h.1, h.2.mono m hS⟩
def spCutsD : Sp := fun vs H Q _ => ∃ (a : Addr) (n : Net) (g o : Addr) (ps : List Addr) (k : Nat), vs = [.ref a, nV k] ∧ NetAt H a n g o ps ∧ n.Ok ∧ 2 ≤ k ∧ k ≤ 4 ∧
  ∀ r H' (qs : List Addr), Same H H' → H r = none → H' r = some (.lst (qs.map V.ref)) → PtsAt (KTolN H r n k) H' qs (List.range (n.many + n.gates.length)) → Q (.ref r) H'
theorem ok_cutsD {f c : Addr} (D : Dfn K mg "_law_cuts" s__law_cuts f c) (T : Txt mg) (c__law_least : Cal P w K mg base 2 "_law_least" spLeastD []) : Cal P w K mg base 3 "_law_cuts" spCutsD [] := by
  refine cal D (fun _ _ _ _ _ _ us hl => match us, hl with | [_, _], _ => rfl) sc__law_cuts (fun vs H Q E h => ?_) (fun A outer s H vs Q E hr h => ?_)
  · obtain ⟨a, n, g, o, ps, k, rfl, _⟩ := h
    rfl
  · obtain ⟨a, n, g, o, ps, k, rfl, N, ok, hk2, hk4, q⟩ := h
    have m8 := ok.m8
    have m1 := ok.m1
    have g16 := ok.g16
    refine ⟨_, (pss_cons (ps_setLc (i := 2) (own := [("_law_wire", 3)]) (g := gName 3) (tt := tYes) rfl sc__law_cuts.nd rfl rfl (sw_true rfl rfl rfl (by decide +kernel)) (pi_range1 (by rfl) T.b_range (pa_cons (pe_ix ix_tup (pv 0) pe_int (fun _ _ => rfl)) pa_nil)) (blkOk_by (own := [("_law_wire", 3)]) (N := ["_law_net_here", "_law_k", "_law_cuts_here", "_law_wire", "_law_kind", "_law_one", "_law_other", "_law_some", "_law_first", "_law_second", "_law_cut"]) (sc := defScope s__law_cuts) (by decide +kernel)) (fun _ _ _ _ _ => (pg_name (i := 3) sc__law_cuts.nd rfl (by first | exact Or.inl rfl | exact Or.inr rfl))) (fun _ _ _ _ _ => pts_nil) (fun _ _ _ _ _ => (pe_lst pa_nil)))
      (pss_cons (ps_for PassesOwn.never rfl (pi_tup (pe_ix ix_tup (pv 0) pe_int (fun _ _ => rfl))) (pg_tup rfl (pgs_cons (pg_name (i := 4) sc__law_cuts.nd rfl (by first | exact Or.inl rfl | exact Or.inr rfl)) (pgs_cons (pg_name (i := 5) sc__law_cuts.nd rfl (by first | exact Or.inl rfl | exact Or.inr rfl)) (pgs_cons (pg_name (i := 6) sc__law_cuts.nd rfl (by first | exact Or.inl rfl | exact Or.inr rfl)) pgs_nil))))
        (pss_cons (ps_set (i := 7) sc__law_cuts.nd rfl (by first | exact Or.inl rfl | exact Or.inr rfl) pe_dnewT)
      (pss_cons (ps_for PassesOwn.never rfl (pi_list (pe_op op_cat (pe_ix ix_list (pv 2) (pv 5) (fun _ _ => rfl)) (pe_lst (pa_cons (pe_tup (pa_cons (pv 5) pa_nil)) pa_nil)))) (pg_name (i := 8) sc__law_cuts.nd rfl (by first | exact Or.inl rfl | exact Or.inr rfl))
        (pss_one (ps_for PassesOwn.never rfl (pi_list (pe_op op_cat (pe_ix ix_list (pv 2) (pv 6) (fun _ _ => rfl)) (pe_lst (pa_cons (pe_tup (pa_cons (pv 6) pa_nil)) pa_nil)))) (pg_name (i := 9) sc__law_cuts.nd rfl (by first | exact Or.inl rfl | exact Or.inr rfl))
        (pss_cons (ps_set (i := 10) sc__law_cuts.nd rfl (by first | exact Or.inl rfl | exact Or.inr rfl) (pe_callTy call_tuple_of (by rfl) T.b_tuple (by decide +kernel) (pa_cons (pe_callB (cr_sortedSet rfl) (by rfl) T.b_sorted (by decide +kernel) (pa_cons (pe_callTy (cr_setN rfl) (by rfl) T.b_set (by decide +kernel) (pa_cons (pe_op op_catA (pv 8) (pv 9)) pa_nil)) pa_nil)) pa_nil)))
      (pss_one (ps_if (pt_cmpR op_le (pe_callB call_len_seq (by rfl) T.b_len (by decide +kernel) (pa_cons (pv 10) pa_nil)) (pv 1) (nomark _)) (pss_one (ps_dput (Nat.lt_of_le_of_lt (Nat.add_le_add_left (by decide) _) hr.units) (pv 7) (pv 10) pe_bl (by rfl))) pss_nil))))))
      (pss_one (ps_expr (pe_bm PySem.F.plainAttrs_list PySem.F.slot_list_append PySem.F.type_list_append mt_append (pv 2) (pa_cons (pe_c c__law_least hr (by decide) (by rfl) (pa_cons (pv 7) pa_nil)) pa_nil)))))))
      (pss_one (ps_ret (pv 2))))), ?_⟩
    refine ⟨_, rfl, a, _, 0, _, rfl, rfl, SqT.of N.top, at0, _, rfl, by omega, by omega, fun S nS => ?_⟩
    refine lc_range (lo := 0) (n := ((n.many : Nat) : Int).toNat) (fun i H' => ∃ qs : List Addr, Own H H' S (qs.map V.ref) ∧ i ≤ n.many ∧ PtsAt (KTolN H S n k) H' qs (List.range i)) ⟨[], ⟨Same.new nS, upd_same, nS⟩, Nat.zero_le _, PtsAt.nil _ _⟩ ?_ ?_
    · rintro i H1 hi ⟨qs, o1, im, K1⟩
      rw [Int.toNat_natCast] at hi
      refine ⟨rfl, ?_⟩
      unfold tYes
      refine iteT ?_
      refine ⟨small 0, fun e ne => ?_⟩
      have s2 := Same.new (o := .lst []) ne
      have he2 : upd H1 e (.lst []) e = some (.lst []) := upd_same
      have eS : e ≠ S := fun z => by rw [z, o1.at_] at ne; cases ne
      generalize upd H1 e (.lst []) = H2 at s2 he2 ⊢
      have o2 : Own H H2 S (qs.map V.ref) := ⟨o1.sm.trans s2, s2 _ _ o1.at_, nS⟩
      refine ⟨_, o2.at_, by rw [List.length_map, K1.1, List.length_range]; exact small256 (by omega), qs ++ [e], by rw [List.map_append]; exact o2.app, hi, ?_⟩
      rw [List.range_succ]
      have up : ∀ b v, b ≠ S → H2 b = some v → (∀ kvs, v ≠ .dT kvs) → upd H2 S (.lst (qs.map V.ref ++ [V.ref e])) b = some v := fun b v hb e _ => by rw [upd_ne hb]; exact e
      have nt : ∀ xs, H2 S ≠ some (.tup xs) := fun xs z => by rw [o2.at_] at z; cases z
      refine (K1.mono fun p y h => (h.mono (fun b v _ e _ => s2 _ _ e) fun xs z => by rw [o1.at_] at z; cases z).mono up nt).push ?_
      exact KTolN.mono (H := H2) ⟨Same.was o1.sm ne, eS, [], [], he2, RefsAt.nil _ _, cuts_input hi, by decide⟩ up nt
    rintro H1 ⟨qs, o1, _, K1⟩
    rw [Int.toNat_natCast] at K1
    have N1 := N.same o1.sm
    refine ⟨_, rfl, a, _, 1, _, rfl, rfl, SqT.of N1.top, at1, g, rfl, ⟨_, SqT.of N1.gt⟩, ?_⟩
    refine for_tup (K := K) (a := g) (xs := ps.map V.ref) (fun i σ H' => ∃ (x3 x4 x5 x6 x7 x8 x9 x10 : Option V) (qs : List Addr), σ = [some (.ref a), some (nV k), some (.ref S), x3, x4, x5, x6, x7, x8, x9, x10] ∧ Own H H' S (qs.map V.ref) ∧ PtsAt (KTolN H S n k) H' qs (List.range (n.many + i))) ⟨none, none, none, none, none, none, none, none, qs, rfl, o1, K1⟩ ?_ ?_ ?_
    · rintro i σ H' _ ⟨_, _, _, _, _, _, _, _, _, _, o', _⟩
      exact SqT.of (o'.sm _ _ N.gt)
    · rintro i x σ H2 hx ⟨x3, x4, x5, x6, x7, x8, x9, x10, qs, rfl, o2, K2⟩
      have N2 := N.same o2.sm
      have hi : i < n.gates.length := by
        have := (List.getElem?_eq_some_iff.mp hx).1
        rwa [List.length_map, N.gs.1] at this
      have hil : i < ps.length := by rw [N.gs.1]; exact hi
      rw [List.getElem?_map, List.getElem?_eq_getElem hil] at hx
      cases hx
      have hpg := N2.gs.2 i _ _ (List.getElem?_eq_getElem hil) (List.getElem?_eq_getElem hi)
      have hkk : n.gates[n.many + i - n.many]? = some n.gates[i] := by rw [Nat.add_sub_cancel_left]; exact List.getElem?_eq_getElem hi
      generalize n.gates[i] = kk at hpg hkk
      generalize ps[i] = pg at hpg
      have hm : n.many ≤ n.many + i := Nat.le_add_right _ _
      have hgt : n.many + i < n.many + n.gates.length := by omega
      have l1 := place_lt ok hm hkk (.inl rfl)
      have l2 := place_lt ok hm hkk (.inr rfl)
      refine ⟨pg, _, rfl, SqT.of hpg, rfl, _, _, rfl, _, _, rfl, _, _, rfl, rfl, ?_⟩
      refine fun d nd => ?_
      have s3 := Same.new (o := .dT []) nd
      have hd3 : upd H2 d (.dT []) d = some (.dT (kvT [])) := upd_same
      have d2 : H2 d = none := nd
      generalize upd H2 d (.dT []) = H3 at s3 hd3 ⊢
      have o3 : Own H H3 S (qs.map V.ref) := ⟨o2.sm.trans s3, s3 _ _ o2.at_, nS⟩
      have K3 : PtsAt (KTolN H S n k) H3 qs (List.range (n.many + i)) := K2.mono fun p y h => h.mono (fun b v _ e _ => s3 _ _ e) fun xs z => by rw [o2.at_] at z; cases z
      have ql : qs.length = n.many + i := by rw [K3.1, List.length_range]
      obtain ⟨q1, eq1, _, q1S, rs1, cs1, hq1, T1, C1, b1⟩ := K3.get (i := kk.2.1) (y := kk.2.1) (by rw [List.getElem?_range l1])
      obtain ⟨q2, eq2, _, q2S, rs2, cs2, hq2, T2, C2, b2⟩ := K3.get (i := kk.2.2) (y := kk.2.2) (by rw [List.getElem?_range l2])
      refine ⟨_, rfl, _, rfl, S, _, _, _, rfl, rfl, SqL.of o3.at_, atI_nat eq1, _, rfl, small 1, fun t7 nt7 => ⟨small 1, fun l7 nl7 => ?_⟩⟩
      have s7 := (Same.new (o := .tup [nV kk.2.1]) nt7).trans (Same.new (o := .lst [.ref t7]) nl7)
      have ht7 : upd (upd H3 t7 (.tup [nV kk.2.1])) l7 (.lst [.ref t7]) t7 = some (.tup ([kk.2.1].map nV)) := Same.new nl7 _ _ upd_same
      have hl7 : upd (upd H3 t7 (.tup [nV kk.2.1])) l7 (.lst [.ref t7]) l7 = some (.lst [.ref t7]) := upd_same
      generalize upd (upd H3 t7 (.tup [nV kk.2.1])) l7 (.lst [.ref t7]) = H7 at s7 ht7 hl7 ⊢
      refine ⟨q1, l7, _, _, rfl, rfl, s7 _ _ hq1, hl7, by rw [List.length_map, T1.1]; show cs1.length + 1 ≤ sizeLine; exact Nat.le_trans (by omega : cs1.length + 1 ≤ 2 ^ 23) (by decide), fun R2 nR2 => ?_⟩
      have s9 := s7.trans (Same.new (o := .lst (rs1.map V.ref ++ [V.ref t7])) nR2)
      have hR9 : upd H7 R2 (.lst (rs1.map V.ref ++ [V.ref t7])) R2 = some (.lst ((rs1 ++ [t7]).map V.ref)) := by rw [upd_same, List.map_append]; rfl
      have TF9 : TupsAt (upd H7 R2 (.lst (rs1.map V.ref ++ [V.ref t7]))) (rs1 ++ [t7]) (cs1 ++ [[kk.2.1]]) := (T1.mono fun b zs e => s9 _ _ e).push (Same.new nR2 _ _ ht7)
      generalize upd H7 R2 (.lst (rs1.map V.ref ++ [V.ref t7])) = H9 at hR9 s9 TF9 ⊢
      have hd9 := s9 _ _ hd3
      have hS9 := s9 _ _ o3.at_
      generalize hfs : cs1 ++ [[kk.2.1]] = fs at TF9
      have fsok : ∀ c ∈ fs, c.Pairwise (· < ·) ∧ (∀ x ∈ c, x < 23) ∧ c.length ≤ 4 ∧ 0 < c.length := fun c hc => by
        rw [← hfs] at hc
        rcases List.mem_append.mp hc with e | e
        · have lc := (C1.mem c).mp e
          refine ⟨lc.rise, fun x hx => by have := lc.lt x hx; omega, Nat.le_trans lc.len hk4, Nat.pos_of_ne_zero fun z => ?_⟩
          have hs := lc.sep
          rw [List.length_eq_zero_iff.mp z] at hs
          exact sep_none ok _ _ (Nat.le_refl _) (by omega) hs
        · rw [List.mem_singleton.mp e]
          exact ⟨List.pairwise_singleton _ _, fun x hx => by rw [List.mem_singleton.mp hx]; omega, by show 1 ≤ 4; decide, by show 0 < 1; decide⟩
      have full : ∀ {x : Nat} {cs : List (List Nat)}, x < n.many + i → CutsAre n k x cs → ∀ M, M ∈ (cs ++ [[x]]).map maskOf ↔ (MinT n x M ∧ pop M ≤ k) := fun {x cs} hx C M => by
        rw [← cuts_full ok (k := k) (by omega) (by omega) C M, List.map_append, List.mem_append]
        show (_ ∨ M ∈ [maskOf [x]]) ↔ M ∈ maskOf [x] :: cs.map maskOf
        rw [List.mem_singleton, List.mem_cons]
        exact or_comm
      have fm := full l1 C1
      rw [hfs] at fm
      have sm := full l2 C2
      -- all but the dict stays
      have keepd : ∀ {Hx Ha : Hp} {u : HO}, (∀ b v, b ≠ d → Hx b = some v → Ha b = some v) → ∀ b v, b ≠ d → Hx b = some v → upd Ha d u b = some v := fun hh b v hb e => by rw [upd_ne hb]; exact hh b v hb e
      have nod : ∀ {b : Addr} {o : HO}, H9 b = some o → (∀ kvs, o ≠ .dT kvs) → b ≠ d := fun {b o} e ho z => by
        rw [z, hd9] at e
        cases e
        exact ho _ rfl
      have dF : ∀ (F : List (List Nat)), (F.map maskOf).Nodup → (∀ c ∈ F, c.Pairwise (· < ·) ∧ (∀ x ∈ c, x < 23) ∧ 0 < c.length ∧ c.length ≤ k) → F.length < sizeLine := fun F nF hF => by
        have := nodup_lt23 nF fun M hM => by
          obtain ⟨c, hc, rfl⟩ := List.mem_map.mp hM
          exact mask_lt (hF c hc).2.1
        rwa [List.length_map] at this
      refine ⟨R2, rfl, ⟨_, SqL.of hR9⟩, ?_⟩
      refine for_list (K := K) (a := R2) (xs := (rs1 ++ [t7]).map V.ref) (fun i σ H' => ∃ (x8 x9 x10 : Option V) (F : List (List Nat)), σ = [some (.ref a), some (nV k), some (.ref S), x3, some (nV kk.1), some (nV kk.2.1), some (nV kk.2.2), some (.ref d), x8, x9, x10] ∧ (∀ b v, b ≠ d → H9 b = some v → H' b = some v) ∧ H' d = some (.dT (kvT F)) ∧ (F.map maskOf).Nodup ∧ (∀ c ∈ F, c.Pairwise (· < ·) ∧ (∀ x ∈ c, x < 23) ∧ 0 < c.length ∧ c.length ≤ k) ∧ FoundW k (fs.map maskOf) ((cs2 ++ [[kk.2.2]]).map maskOf) i 0 (F.map maskOf)) ⟨x8, x9, x10, [], rfl, fun b v _ e => e, hd9, List.nodup_nil, fun c hc => (by cases hc), FoundW.zero _ _ _⟩ ?_ ?_ ?_
      · rintro i σ H' _ ⟨_, _, _, _, _, kp, _⟩
        exact SqL.of (kp _ _ (nod hR9 fun _ z => (by cases z)) hR9)
      · rintro i x σ H10 hx ⟨x8, x9, x10, F, rfl, kp10, hd10, nF, lF, fw⟩
        obtain ⟨tf, cf, rfl, hcf, htf⟩ := TF9.at_ hx
        have hi : i < fs.length := (List.getElem?_eq_some_iff.mp hcf).1
        have ecf : (fs.map maskOf).getD i 0 = maskOf cf := by rw [List.getD_eq_getElem?_getD, List.getElem?_map, hcf]; rfl
        obtain ⟨cf1, cf2, cf3, cf4⟩ := fsok cf (List.mem_of_getElem? hcf)
        have htf10 := kp10 _ _ (nod htf fun _ z => (by cases z)) htf
        have hS10 := kp10 _ _ (nod hS9 fun _ z => (by cases z)) hS9
        have hq210 := kp10 _ _ (nod (s9 _ _ hq2) fun _ z => (by cases z)) (s9 _ _ hq2)
        have T210 := T2.mono fun b zs e => kp10 _ _ (nod (s9 _ _ e) fun _ z => (by cases z)) (s9 _ _ e)
        -- the cuts of the other place
        refine ⟨_, rfl, _, rfl, S, _, _, _, rfl, rfl, SqL.of hS10, atI_nat eq2, _, rfl, small 1, fun t8 nt8 => ⟨small 1, fun l8 nl8 => ?_⟩⟩
        have s11 := (Same.new (o := .tup [nV kk.2.2]) nt8).trans (Same.new (o := .lst [.ref t8]) nl8)
        have ht8 : upd (upd H10 t8 (.tup [nV kk.2.2])) l8 (.lst [.ref t8]) t8 = some (.tup ([kk.2.2].map nV)) := Same.new nl8 _ _ upd_same
        have hl8 : upd (upd H10 t8 (.tup [nV kk.2.2])) l8 (.lst [.ref t8]) l8 = some (.lst [.ref t8]) := upd_same
        generalize upd (upd H10 t8 (.tup [nV kk.2.2])) l8 (.lst [.ref t8]) = H11 at s11 ht8 hl8 ⊢
        refine ⟨q2, l8, _, _, rfl, rfl, s11 _ _ hq210, hl8, by rw [List.length_map, T2.1]; show cs2.length + 1 ≤ sizeLine; exact Nat.le_trans (by omega : cs2.length + 1 ≤ 2 ^ 23) (by decide), fun R nR => ?_⟩
        have s12 := s11.trans (Same.new (o := .lst (rs2.map V.ref ++ [V.ref t8])) nR)
        have hR12 : upd H11 R (.lst (rs2.map V.ref ++ [V.ref t8])) R = some (.lst ((rs2 ++ [t8]).map V.ref)) := by rw [upd_same, List.map_append]; rfl
        have TS12 : TupsAt (upd H11 R (.lst (rs2.map V.ref ++ [V.ref t8]))) (rs2 ++ [t8]) (cs2 ++ [[kk.2.2]]) := (T210.mono fun b zs e => s12 _ _ e).push (Same.new nR _ _ ht8)
        generalize upd H11 R (.lst (rs2.map V.ref ++ [V.ref t8])) = H12 at hR12 s12 TS12 ⊢
        have hd12 := s12 _ _ hd10
        have htf12 := s12 _ _ htf10
        have kp12 : ∀ b v, b ≠ d → H9 b = some v → H12 b = some v := fun b v hb e => s12 _ _ (kp10 b v hb e)
        have ssok : ∀ c ∈ cs2 ++ [[kk.2.2]], c.Pairwise (· < ·) ∧ (∀ x ∈ c, x < 23) ∧ c.length ≤ 4 := fun c hc => by
          rcases List.mem_append.mp hc with e | e
          · have lc := (C2.mem c).mp e
            exact ⟨lc.rise, fun x hx => by have := lc.lt x hx; omega, Nat.le_trans lc.len hk4⟩
          · rw [List.mem_singleton.mp e]
            exact ⟨List.pairwise_singleton _ _, fun x hx => by rw [List.mem_singleton.mp hx]; omega, by show 1 ≤ 4; decide⟩
        generalize cs2 ++ [[kk.2.2]] = ss at TS12 ssok fw ⊢
        have nod2 : ∀ {b : Addr} {o : HO}, H12 b = some o → (∀ kvs, o ≠ .dT kvs) → b ≠ d := fun {b o} e ho z => by
          rw [z, hd12] at e
          cases e
          exact ho _ rfl
        have hDK : ∀ {Ha Hb : Hp}, (∀ b v, b ≠ d → H12 b = some v → Ha b = some v) → Same Ha Hb → ∀ b v, b ≠ d → H12 b = some v → Hb b = some v := fun hh ss b v hb e => ss _ _ (hh b v hb e)
        refine ⟨R, rfl, ⟨_, SqL.of hR12⟩, ?_⟩
        refine for_list (K := K) (a := R) (xs := (rs2 ++ [t8]).map V.ref) (fun j σ H' => ∃ (x9 x10 : Option V) (F : List (List Nat)), σ = [some (.ref a), some (nV k), some (.ref S), x3, some (nV kk.1), some (nV kk.2.1), some (nV kk.2.2), some (.ref d), some (.ref tf), x9, x10] ∧ (∀ b v, b ≠ d → H12 b = some v → H' b = some v) ∧ H' d = some (.dT (kvT F)) ∧ (F.map maskOf).Nodup ∧ (∀ c ∈ F, c.Pairwise (· < ·) ∧ (∀ x ∈ c, x < 23) ∧ 0 < c.length ∧ c.length ≤ k) ∧ FoundW k (fs.map maskOf) (ss.map maskOf) i j (F.map maskOf)) ⟨_, _, F, rfl, fun b v _ e => e, hd12, nF, lF, fw⟩ ?_ ?_ ?_
        · rintro j σ H' _ ⟨_, _, _, _, kp, _⟩
          exact SqL.of (kp _ _ (nod2 hR12 fun _ z => (by cases z)) hR12)
        · rintro j x σ H11 hx ⟨x9, x10, F, rfl, kp11, hd11, nF, lF, fw⟩
          obtain ⟨ts, cs, rfl, hcs, hts⟩ := TS12.at_ hx
          have hj : j < (ss.map maskOf).length := by rw [List.length_map]; exact (List.getElem?_eq_some_iff.mp hcs).1
          have ecs : (ss.map maskOf).getD j 0 = maskOf cs := by rw [List.getD_eq_getElem?_getD, List.getElem?_map, hcs]; rfl
          obtain ⟨cs1', cs2', cs3'⟩ := ssok cs (List.mem_of_getElem? hcs)
          have htf11 := kp11 _ _ (nod2 htf12 fun _ z => (by cases z)) htf12
          have hts11 := kp11 _ _ (nod2 hts fun _ z => (by cases z)) hts
          refine ⟨_, rfl, _, rfl, ?_⟩
          refine catA_any rfl rfl htf11 hts11 (by rw [List.length_map, List.length_map]; exact Nat.le_of_lt (small256 (by omega))) fun p1 H12 s12 h12 => ?_
          rw [← List.map_append] at h12
          refine ⟨p1, cf ++ cs, rfl, .inr (SqT.of h12), by rw [List.length_append]; omega, fun sq c nsq hc => ?_⟩
          rw [List.length_append] at hc
          have s13 := Same.new (o := SetO w sq (fun j => decide (j ∈ (cf ++ cs).map fun n : Nat => (n : Int))) c) nsq
          refine ⟨sq, _, c, rfl, upd_same, by omega, fun out l pw hmm hll nl => ?_⟩
          obtain ⟨ys, rfl, yr, ym⟩ := sorted_set_nat pw hmm
          rw [mapV]
          have s14 := Same.new (o := .lst (ys.map nV)) nl
          refine ⟨l, _, rfl, .inl ⟨SqL.of upd_same, fun tp ntp => ?_⟩⟩
          have s15 := Same.new (o := .tup (ys.map nV)) ntp
          have s0 := ((s12.trans s13).trans s14).trans s15
          have hd15 := s0 _ _ hd11
          have kp15 := hDK kp11 s0
          have mu := mask_union ym
          have mp := mask_pop yr
          have y23 : ∀ x ∈ ys, x < 23 := fun x hx => (List.mem_append.mp ((ym x).mp hx)).elim (cf2 x) (cs2' x)
          have y0 : 0 < ys.length := by
            obtain ⟨x, hx⟩ := List.exists_mem_of_length_pos cf4
            exact List.length_pos_of_mem ((ym x).mpr (List.mem_append.mpr (.inl hx)))
          refine ⟨_, rfl, tp, _, rfl, .inr (SqT.of upd_same), _, rfl, _, _, rfl, rfl, _, rfl, ite2 (fun hp => ?_) (fun hp => ?_)⟩
          · have hp' : ys.length ≤ k := by
              have := of_decide_eq_true hp
              rw [List.length_map] at this
              omega
            have hpm : pop ((fs.map maskOf).getD i 0 ||| (ss.map maskOf).getD j 0) ≤ k := by rw [ecf, ecs, ← mu, mp]; exact hp'
            refine ⟨_, rfl, _, rfl, d, _, rfl, DPut.t (k := ys.map nK) hd15 (by rw [mapKV]; exact upd_same) (by rw [kvT_len]; exact dF F nF lF), ?_⟩
            by_cases e : ys ∈ F
            · rw [kvT_again e]
              exact ⟨_, _, F, rfl, keepd kp15, upd_same, nF, lF, fw.yes hj hpm fun M' => by
                rw [ecf, ecs, ← mu]
                exact ⟨.inl, fun z => z.elim id fun z => by rw [z]; exact List.mem_map.mpr ⟨ys, e, rfl⟩⟩⟩
            · rw [kvT_put e]
              refine ⟨_, _, F ++ [ys], rfl, keepd kp15, upd_same, ?_, fun c hc => ?_, fw.yes hj hpm fun M' => by rw [ecf, ecs, ← mu, List.map_append, List.mem_append]; exact or_congr_right List.mem_singleton⟩
              · rw [List.map_append]
                refine nodup_snoc nF fun z => ?_
                obtain ⟨c, hc, ec⟩ := List.mem_map.mp z
                exact e (by rw [← mask_inj (lF c hc).1 yr ec]; exact hc)
              · rcases List.mem_append.mp hc with h | h
                · exact lF c h
                · rw [List.mem_singleton.mp h]
                  exact ⟨yr, y23, y0, hp'⟩
          · refine ⟨_, _, F, rfl, kp15, hd15, nF, lF, fw.no hj fun z => hp (decide_eq_true ?_)⟩
            rw [ecf, ecs, ← mu, mp] at z
            rw [List.length_map]
            omega
        · rintro σ H13 ⟨x9, x10, F, rfl, kp13, hd13, nF, lF, fw⟩
          rw [List.length_map, TS12.1, ← List.length_map (f := maskOf)] at fw
          exact ⟨_, _, _, F, rfl, fun b v hb e => kp13 b v hb (kp12 b v hb e), hd13, nF, lF, fw.row (by rw [List.length_map]; exact hi)⟩
      · rintro σ H10 ⟨x8, x9, x10, F, rfl, kp10, hd10, nF, lF, fw⟩
        rw [List.length_map, TF9.1, ← List.length_map (f := maskOf)] at fw
        have mlF : ML n k (n.many + i) ((F.map maskOf).filter fun M => !hasPart (F.map maskOf) M) := gate_found ok hm hgt hkk fm sm fw.all
        have ndF : F.Nodup := by
          rw [List.nodup_iff_pairwise_ne] at nF ⊢
          rw [List.pairwise_map] at nF
          exact nF.imp fun h e => h (by rw [e])
        have s210 : Same H2 H10 := fun b v e => kp10 b v (fun z => by rw [z, d2] at e; cases e) (s9 _ _ (s3 _ _ e))
        have hS10 := s210 _ _ o2.at_
        refine ⟨_, rfl, .inl ⟨rfl, _, SqL.of hS10⟩, _, rfl, d, F, rfl, hd10, ndF, fun c hc => ⟨(lF c hc).1, (lF c hc).2.2.1, by have := (lF c hc).2.2.2; omega⟩, dF F nF lF, fun r H11 rs ls s11 r0 hr11 TR ndl meml srt => ?_⟩
        have s211 := s210.trans s11
        have hS11 := s11 _ _ hS10
        refine ⟨S, _, _, rfl, rfl, hS11, by rw [List.length_map, ql]; exact small256 (by omega), ?_⟩
        have o11 : Own H H11 S (qs.map V.ref) := ⟨o2.sm.trans s211, hS11, nS⟩
        refine ⟨_, _, _, _, _, _, _, _, qs ++ [r], rfl, by rw [List.map_append]; exact o11.app, ?_⟩
        have rH : H r = none := Same.was (o2.sm.trans s210) r0
        have rS : r ≠ S := fun z => by rw [z, hS10] at r0; cases r0
        have up : ∀ b v, b ≠ S → H11 b = some v → (∀ kvs, v ≠ .dT kvs) → upd H11 S (.lst (qs.map V.ref ++ [V.ref r])) b = some v := fun b v hb e _ => by rw [upd_ne hb]; exact e
        have nt : ∀ xs, H11 S ≠ some (.tup xs) := fun xs z => by rw [hS11] at z; cases z
        rw [← Nat.add_assoc, List.range_succ]
        refine (K2.mono fun p y h => (h.mono (fun b v _ e _ => s211 _ _ e) fun xs z => by rw [o2.at_] at z; cases z).mono up nt).push ?_
        have rise : ∀ c ∈ F, c.Pairwise (· < ·) := fun c hc => (lF c hc).1
        have ml : ML n k (n.many + i) (ls.map maskOf) := fun M => (kept_masks rise (fun c hc => (lF c hc).2.2.1) meml M).trans (mlF M)
        have ndm : (ls.map maskOf).Nodup := by
          rw [List.nodup_iff_pairwise_ne, List.pairwise_map]
          exact List.Pairwise.imp_of_mem (fun {x y} hx hy h e => h (mask_inj (rise x ((meml x).mp hx).1) (rise y ((meml y).mp hy).1) e)) (List.nodup_iff_pairwise_ne.mp ndl)
        have lsF : ls.length ≤ F.length := List.Nodup.length_le_of_subset ndl fun c hc => ((meml c).mp hc).1
        refine KTolN.mono (H := H11) ⟨rH, rS, rs, ls, hr11, TR, cuts_of_masks ok ml ndm ?_ srt, ?_⟩ up nt
        · rw [List.map_map]
          have : ls.map (bitsOf ∘ maskOf) = ls := by
            conv => rhs; rw [← List.map_id ls]
            exact List.map_congr_left fun c hc => bits_mask (rise c ((meml c).mp hc).1)
          rw [this]
        · refine Nat.lt_of_le_of_lt lsF ?_
          have nd0 : (0 :: F.map maskOf).Nodup := List.nodup_cons.mpr ⟨fun z => by
            obtain ⟨c, hc, e⟩ := List.mem_map.mp z
            have := mask_pos (lF c hc).2.2.1
            omega, nF⟩
          have := nd0.length_le_of_subset (l₂ := List.range (2 ^ 23)) fun x hx => List.mem_range.mpr (by
            rcases List.mem_cons.mp hx with e | e
            · rw [e]; decide
            · obtain ⟨c, hc, rfl⟩ := List.mem_map.mp e
              exact mask_lt (lF c hc).2.1)
          rw [List.length_range, List.length_cons, List.length_map] at this
          omega
    · rintro σ H2 ⟨x3, x4, x5, x6, x7, x8, x9, x10, qs, rfl, o2, K2⟩
      rw [List.length_map, N.gs.1] at K2
      exact ⟨_, rfl, q S H2 qs o2.sm nS o2.at_ K2⟩
end
end K24
set_option Elab.async false
set_option linter.all false
set_option maxRecDepth 100000
set_option maxHeartbeats 4000000
namespace K24
open PySem PySem.Spec PyProof.Rows L2 GX
open C8 (Cal pe_c pe_gc Met Mak)
section
/-! ### depths of chains -/
theorem deps_one {n : Net} {k : Nat} {ds : List Nat} (d : DepsTo n k ds) {g : Nat} (hg : n.many ≤ g) (hl : g < ds.length) : 1 ≤ ds.getD g 0 := by
  obtain ⟨⟨c, lc, e1⟩, _⟩ := d.at_ g hg hl
  rw [e1]
  omega
/-- the same places, either way about -/
structure Like (n n' : Net) : Prop where
  m : n.many = n'.many
  l : n.gates.length = n'.gates.length
  g : ∀ (i : Nat) (k : Nat × Nat × Nat), n.gates[i]? = some k → ∃ k' : Nat × Nat × Nat, n'.gates[i]? = some k' ∧ ∀ z, (z = k.2.1 ∨ z = k.2.2) ↔ (z = k'.2.1 ∨ z = k'.2.2)
theorem Like.symm {n n' : Net} (h : Like n n') : Like n' n := ⟨h.m.symm, h.l.symm, fun i k hk => by
  have hi : i < n.gates.length := by rw [h.l]; exact (List.getElem?_eq_some_iff.mp hk).1
  obtain ⟨k', e, hz⟩ := h.g i _ (List.getElem?_eq_getElem hi)
  rw [hk] at e
  cases e
  exact ⟨_, List.getElem?_eq_getElem hi, fun z => (hz z).symm⟩⟩
theorem Like.rc {n n' : Net} (h : Like n n') {st : List Nat} {w y : Nat} (r : Rc n st w n.many y) : Rc n' st w n'.many y := by
  induction r with
  | here e => exact .here e
  | @step g p k _ hg _ hk hp hs ih =>
    obtain ⟨k', e, hz⟩ := h.g _ k hk
    rw [h.m] at e hg
    exact .step ih hg hg e ((hz p).mp hp) hs
theorem Like.sep {n n' : Net} (h : Like n n') {st : List Nat} {w : Nat} : Sep n w st ↔ Sep n' w st := ⟨fun s y r => by rw [← h.m]; exact s y (h.symm.rc r), fun s y r => by rw [h.m]; exact s y (h.rc r)⟩
end
section
variable {P : Program} {w : World} {K : PySem.W.Frag} {mg : Str → Option Value} {base : Heap} {Ts : List Addr}
def spDepsD : Sp := fun vs H Q _ => ∃ (a : Addr) (n : Net) (g o : Addr) (ps : List Addr) (ca S : Addr) (qs : List Addr) (k : Nat), vs = [.ref a, .ref ca] ∧ NetAt H a n g o ps ∧ n.Ok ∧ 2 ≤ k ∧ k ≤ 4 ∧ H ca = some (.lst (qs.map V.ref)) ∧ PtsAt (KTolL S n k) H qs (List.range (n.many + n.gates.length)) ∧
  ∀ r H' (ds : List Nat), Same H H' → H r = none → H' r = some (.lst (ds.map nV)) → ds.length = n.many + n.gates.length → DepsTo n k ds → Q (.ref r) H'
theorem ok_depsD {f c : Addr} (D : Dfn K mg "_law_depths" s__law_depths f c) (T : Txt mg) : Cal P w K mg base 1 "_law_depths" spDepsD [] := by
  refine cal D (fun _ _ _ _ _ _ us hl => match us, hl with | [_, _], _ => rfl) sc__law_depths (fun vs H Q E h => ?_) (fun A outer s H vs Q E hr h => ?_)
  · obtain ⟨a, n, g, o, ps, ca, S, qs, k, rfl, _⟩ := h
    rfl
  · obtain ⟨a, n, g, o, ps, ca, S, qs, k, rfl, N, ok, hk2, hk, hca, KP, q⟩ := h
    have m8 := ok.m8
    have g16 := ok.g16
    have m1 := ok.m1
    refine ⟨_, (pss_cons (ps_set (i := 2) sc__law_depths.nd rfl (by first | exact Or.inl rfl | exact Or.inr rfl) (pe_op op_rep (pe_lst (pa_cons pe_int pa_nil)) (pe_ix ix_tup (pv 0) pe_int (fun _ _ => rfl))))
      (pss_cons (ps_for PassesOwn.never rfl (pi_range2 (by rfl) T.b_range (pa_cons (pe_ix ix_tup (pv 0) pe_int (fun _ _ => rfl)) (pa_cons (pe_op op_add (pe_ix ix_tup (pv 0) pe_int (fun _ _ => rfl)) (pe_callB call_len_seq (by rfl) T.b_len (by decide +kernel) (pa_cons (pe_ix ix_tup (pv 0) pe_int (fun _ _ => rfl)) pa_nil))) pa_nil))) (pg_name (i := 3) sc__law_depths.nd rfl (by first | exact Or.inl rfl | exact Or.inr rfl))
        (pss_one (ps_expr (pe_bm PySem.F.plainAttrs_list PySem.F.slot_list_append PySem.F.type_list_append mt_append (pv 2) (pa_cons (pe_callB (cr_min rfl) (by rfl) T.b_min (by decide +kernel) (pa_cons (pe_lc (own := [("_law_cut", 5)]) (g := gName 5) (tt := tYes) rfl sc__law_depths.nd (pi_list (pe_ix ix_list (pv 1) (pv 3) (fun _ _ => rfl))) (blkOk_by (own := [("_law_cut", 5)]) (N := ["_law_net_here", "_law_cuts_here", "_law_known", "_law_gate_here", "_law_wire", "_law_cut"]) (sc := defScope s__law_depths) (by decide +kernel)) (fun _ _ _ _ _ => (pg_name (i := 5) sc__law_depths.nd rfl (by first | exact Or.inl rfl | exact Or.inr rfl))) (fun _ _ _ _ _ => pts_nil) (fun _ _ _ _ _ => (pe_op op_add pe_int (pe_callB (cr_maxK (K := K) rfl) (by rfl) T.b_max (by decide +kernel) (pa_cons (pe_lc (own := [("_law_wire", 4)]) (g := gName 4) (tt := tYes) rfl sc__law_depths.nd (pi_tupK (K := K) (pv 5)) (blkOk_by (own := [("_law_wire", 4)]) (by rfl)) (fun _ _ _ _ _ => (pg_name (i := 4) sc__law_depths.nd rfl (by first | exact Or.inl rfl | exact Or.inr rfl))) (fun _ _ _ _ _ => pts_nil) (fun _ _ _ _ _ => (pe_ix (ix_listK (K := K)) (pv 2) (pv 4) (fun _ _ => rfl)))) pa_nil))))) pa_nil)) pa_nil)))))
      (pss_one (ps_ret (pv 2))))), ?_⟩
    refine ⟨small 1, fun z nz => ?_⟩
    have e1 := Same.new (o := .lst [.int 0]) nz
    refine ⟨_, rfl, a, _, 0, _, rfl, rfl, SqT.of (N.same e1).top, at0, z, _, _, rfl, rfl, upd_same, by omega, by omega, ?_, fun l nl => ?_⟩
    · show 1 * (((n.many : Nat)) : Int).toNat ≤ sizeLine
      rw [Int.toNat_natCast]
      exact small _ (by omega)
    have ef : (List.replicate (((n.many : Nat)) : Int).toNat [V.int 0]).flatten = (List.replicate n.many 0).map nV := by
      rw [Int.toNat_natCast, List.map_replicate, List.flatten_replicate_singleton]
      rfl
    rw [ef]
    have nlH : H l = none := Same.was e1 nl
    have o1 : Own H (upd (upd H z (.lst [.int 0])) l (.lst ((List.replicate n.many 0).map nV))) l ((List.replicate n.many 0).map nV) := ⟨e1.trans (Same.new nl), upd_same, nlH⟩
    generalize upd (upd H z (.lst [.int 0])) l (.lst ((List.replicate n.many 0).map nV)) = H1 at o1 ⊢
    have N1 := N.same o1.sm
    refine ⟨_, rfl, a, _, 0, _, rfl, rfl, SqT.of N1.top, at0, _, rfl, a, _, 0, _, rfl, rfl, SqT.of N1.top, at0, _, rfl, a, _, 1, _, rfl, rfl, SqT.of N1.top, at1, g, _, rfl, .inr (SqT.of N1.gt), _, _, rfl, rfl, _, _, rfl, ⟨by omega, by omega, by omega, by rw [List.length_map, N.gs.1]; omega⟩, ?_⟩
    refine for_range (lo := ((n.many : Nat) : Int)) (n := (((n.many : Nat) : Int) + (((ps.map V.ref).length : Nat) : Int) - ((n.many : Nat) : Int)).toNat) (fun j σ H' => ∃ (x3 x4 x5 : Option V) (ds : List Nat), σ = [some (.ref a), some (.ref ca), some (.ref l), x3, x4, x5] ∧ Own H H' l (ds.map nV) ∧ ds.length = n.many + j ∧ DepsTo n k ds) ⟨none, none, none, List.replicate n.many 0, rfl, o1, by rw [List.length_replicate]; rfl, ⟨fun x hx _ => by rw [List.getD_eq_getElem?_getD, List.getElem?_replicate, if_pos hx]; rfl, fun g' h1 h2 => by rw [List.length_replicate] at h2; omega⟩⟩ ?_ ?_
    · rintro j σ H2 hj ⟨x3, x4, x5, ds, rfl, o2, dl, dt⟩
      have hj' : j < n.gates.length := by
        rw [List.length_map, N.gs.1] at hj
        omega
      have hgt : n.many + j < n.many + n.gates.length := by omega
      obtain ⟨q1, eq1, q1S, rs, cs, hq1, TQ, CA, cl⟩ := KP.get (i := n.many + j) (y := n.many + j) (by rw [List.getElem?_range hgt])
      have hq12 := o2.sm _ _ hq1
      have TS := TQ.mono fun b zs e => o2.sm _ _ e
      refine ⟨_, rfl, .inl ⟨rfl, _, SqL.of o2.at_⟩, ?_⟩
      refine ⟨_, rfl, _, rfl, ca, _, _, _, rfl, rfl, SqL.of (o2.sm _ _ hca), atI_nat (j := n.many + j) eq1, q1, rfl, ⟨_, SqL.of hq12⟩, fun M nM => ?_⟩
      have c0 : cs.length ≠ 0 := fun z => by
        have := (cuts_ml ok CA).some_ ok hk2 (Nat.le_add_right n.many j) (List.getElem?_eq_getElem (show n.many + j - n.many < n.gates.length by omega))
        rw [List.length_eq_zero_iff.mp z] at this
        exact this rfl
      refine lc_list (K := K) (a := q1) (xs := rs.map V.ref) (fun i H' => Own H2 H' M (((cs.take i).map fun c => 1 + maxL (c.map fun x => ds.getD x 0)).map nV)) ⟨Same.new nM, upd_same, nM⟩ (fun _ H' _ h => SqL.of (h.sm _ _ hq12)) ?_ ?_
      · rintro i v H4 hv o4
        have hi : i < cs.length := by
          have := (List.getElem?_eq_some_iff.mp hv).1
          rwa [List.length_map, TS.1] at this
        obtain ⟨tq, c', rfl, hc, hat⟩ := TS.at_ hv
        have hat4 := o4.sm _ _ hat
        have lc := (CA.mem c').mp (List.mem_of_getElem? hc)
        have c2 := lc.lt
        have c4 := lc.len
        have c3 : 0 < c'.length := Nat.pos_of_ne_zero fun z => by
          have hs := lc.sep
          rw [List.length_eq_zero_iff.mp z] at hs
          exact sep_none ok _ _ (Nat.le_refl _) hgt hs
        have tk : cs.take (i + 1) = cs.take i ++ [c'] := by rw [List.take_add_one, hc]; rfl
        refine ⟨rfl, ?_⟩
        refine iteT (B := Own H2 H4 M (((cs.take (i + 1)).map fun c => 1 + maxL (c.map fun x => ds.getD x 0)).map nV)) ?_
        have hl5 := o4.sm _ _ o2.at_
        refine ⟨_, rfl, tq, rfl, ⟨_, SqT.of hat4⟩, fun M2 nM2 => ?_⟩
        refine lc_tup (K := K) (a := tq) (xs := c'.map nV) (fun i H' => Own H4 H' M2 (((c'.take i).map fun x => ds.getD x 0).map nV)) ⟨Same.new nM2, upd_same, nM2⟩ (fun k H' _ o' => SqT.of (o'.sm _ _ hat4)) ?_ ?_
        · rintro i2 x H6 hx o6
          have hi2 : i2 < c'.length := by
            have := (List.getElem?_eq_some_iff.mp hx).1
            rwa [List.length_map] at this
          rw [natAt hi2] at hx
          cases hx
          refine ⟨rfl, ?_⟩
          unfold tYes
          refine iteT ?_
          refine ⟨_, rfl, _, rfl, l, _, _, _, rfl, rfl, SqL.of (o6.sm _ _ hl5), atI_nat (natAt (by have := c2 _ (getD_mem hi2); omega)), _, o6.at_, by rw [List.length_map, List.length_map, List.length_take]; exact small256 (by omega), ?_⟩
          have : c'.getD i2 0 = c'[i2] := by rw [List.getD_eq_getElem?_getD, List.getElem?_eq_getElem hi2]; rfl
          rw [List.take_add_one, List.getElem?_eq_getElem hi2, Option.toList_some, List.map_append, List.map_append, this]
          exact o6.app
        · rintro H6 o6
          rw [List.length_map, List.take_length] at o6
          have o7 : Own H2 H6 M _ := ⟨o4.sm.trans o6.sm, o6.sm _ _ o4.at_, o4.nw⟩
          refine ⟨M2, (c'.map fun x => ds.getD x 0).map (fun n : Nat => (n : Int)), rfl, (by rw [mapV]; exact SqL.of o6.at_), by rw [List.length_map, List.length_map]; exact c3, fun m hm hb => ⟨_, _, rfl, rfl, ?_⟩⟩
          have e := max_eq hm hb
          have e2 : V.int (1 + m) = nV (1 + maxL (c'.map fun x => ds.getD x 0)) := by
            have := V.int.inj e
            rw [this]
            rfl
          dsimp -proj only
          rw [e2]
          refine ⟨_, o7.at_, by rw [List.length_map, List.length_map, List.length_take]; exact Nat.lt_of_le_of_lt (Nat.min_le_right _ _) (Nat.lt_of_lt_of_le cl (by decide)), ?_⟩
          rw [tk, List.map_append, List.map_append]
          exact o7.app
      · rintro H4 o4
        rw [List.length_map, TS.1, List.take_length] at o4
        have o5 : Own H H4 l (ds.map nV) := ⟨o2.sm.trans o4.sm, o4.sm _ _ o2.at_, o2.nw⟩
        refine ⟨M, (cs.map fun c => 1 + maxL (c.map fun x => ds.getD x 0)).map (fun n : Nat => (n : Int)), rfl, (by rw [mapV]; exact SqL.of o4.at_), by rw [List.length_map, List.length_map]; omega, fun m hm hb => ?_⟩
        obtain ⟨mn, hmn, rfl⟩ := List.mem_map.mp hm
        have hb' : ∀ y ∈ (cs.map fun c => 1 + maxL (c.map fun x => ds.getD x 0)), mn ≤ y := fun y hy => by
          have := hb _ (List.mem_map.mpr ⟨y, hy, rfl⟩)
          omega
        refine ⟨l, _, _, rfl, rfl, o5.at_, by rw [List.length_map]; exact small256 (by omega), _, _, _, ds ++ [mn], rfl, by rw [List.map_append]; exact o5.app, by rw [List.length_append, dl]; rfl, ?_⟩
        have gs : ∀ x, x < ds.length → (ds ++ [mn]).getD x 0 = ds.getD x 0 := fun x hx => getSnoc hx
        have gl : (ds ++ [mn]).getD (n.many + j) 0 = mn := by
          rw [← dl]
          exact getLastN
        have cong : ∀ g' c, g' ≤ ds.length → LC n k g' c → maxL (c.map fun x => (ds ++ [mn]).getD x 0) = maxL (c.map fun x => ds.getD x 0) := fun g' c hg' lc => maxL_congr fun x hx => gs x (by have := lc.lt x hx; omega)
        refine ⟨fun x hx hx2 => ?_, fun g' hg1 hg2 => ?_⟩
        · rw [gs x (by omega)]
          exact dt.low x hx (by omega)
        · rw [List.length_append] at hg2
          have hg2' : g' < ds.length + 1 := hg2
          by_cases e : g' < ds.length
          · obtain ⟨⟨c, hc, e1⟩, e2⟩ := dt.at_ g' hg1 e
            rw [gs g' e]
            refine ⟨⟨c, hc, by rw [cong g' c (by omega) hc]; exact e1⟩, fun c hc => by rw [cong g' c (by omega) hc]; exact e2 c hc⟩
          · have eg : g' = n.many + j := by omega
            subst eg
            rw [gl]
            refine ⟨?_, fun c hc => by rw [cong _ c (by omega) hc]; exact hb' _ (List.mem_map.mpr ⟨c, (CA.mem c).mpr hc, rfl⟩)⟩
            obtain ⟨c, hc, e1⟩ := List.mem_map.mp hmn
            have lc := (CA.mem c).mp hc
            exact ⟨c, lc, by rw [cong _ c (by omega) lc]; exact e1.symm⟩
    · rintro σ H2 ⟨x3, x4, x5, ds, rfl, o2, dl, dt⟩
      rw [List.length_map, N.gs.1, show (((n.many : Nat) : Int) + ((n.gates.length : Nat) : Int) - ((n.many : Nat) : Int)).toNat = n.gates.length by omega] at dl
      exact ⟨_, rfl, q l H2 ds o2.sm o2.nw o2.at_ dl dt⟩
end
end K24
set_option Elab.async false
set_option linter.all false
set_option maxRecDepth 100000
set_option maxHeartbeats 4000000
namespace K24
open PySem PySem.Spec PyProof.Rows L2 GX
open C8 (Cal pe_c pe_gc Met Mak)
section
/-- a way to a wire goes through what tells it -/
theorem way_hits {n : Net} {g : Nat} {c xs : List Nat} (W : Way n g xs) (s : Sep n g c) : ∃ x ∈ xs, x ∈ c := Classical.byContradiction fun no => by
  have no : ∀ i, i < xs.length → xs.getD i 0 ∉ c := fun i hi hc => no ⟨_, getD_mem hi, hc⟩
  have key : ∀ d i, i + d + 1 = xs.length → Rc n c g n.many (xs.getD i 0) := by
    intro d
    induction d with
    | zero =>
      intro i hi
      have e := W.last
      rw [show xs.length - 1 = i by omega] at e
      have := no i (by omega)
      rw [e] at this ⊢
      exact .here this
    | succ d ih =>
      intro i hi
      obtain ⟨h1, k, hk, h2⟩ := W.steps i (by omega)
      exact .step (ih (i + 1) (by omega)) h1 h1 hk h2 (no i (by omega))
  have := s _ (key (xs.length - 1) 0 (by have := W.ne; omega))
  have := W.first
  omega
/-- a paper that holds shows no more than the depths -/
theorem pap_sound {n : Net} (ok : n.Ok) {k : Nat} {ds : List Nat} (dl : ds.length = n.many + n.gates.length) (dt : DepsTo n k ds) {es : Pap} (po : PapOk n es) (sh : ∀ (j : Nat) (e : Nat × List (List Nat)), es[j]? = some e → ShowsT n k (labE n es) (n.many + j) (e.2.map thWs)) : ∀ b x, x ≤ b → x < n.many + n.gates.length → (labE n es).getD x 0 ≤ ((ds.getD x 0 : Nat) : Int) := by
  have low : ∀ x, x < n.many → (labE n es).getD x 0 = 0 := fun x hx => by
    unfold labE
    rw [List.getD_eq_getElem?_getD, List.getElem?_append_left (by rw [List.length_replicate]; exact hx), List.getElem?_replicate]
    rw [if_pos hx]
    rfl
  intro b
  induction b with
  | zero =>
    intro x hx hlt
    rw [low x (by have := ok.m1; omega)]
    exact Int.natCast_nonneg _
  | succ b ih =>
    intro x hx hlt
    by_cases hm : x < n.many
    · rw [low x hm]
      exact Int.natCast_nonneg _
    · have hj : x - n.many < es.length := by rw [po.len]; omega
      have he : es[x - n.many]? = some es[x - n.many] := List.getElem?_eq_getElem hj
      have s := sh _ _ he
      rw [show n.many + (x - n.many) = x by omega] at s
      have d1 : 1 ≤ ds.getD x 0 := deps_one dt (by omega) (by omega)
      rcases s with ⟨s1, _⟩ | ⟨s1, xss, e1, xl, xw, xa⟩
      · rw [s1]; omega
      · refine Int.not_lt.mp fun lt => ?_
        obtain ⟨⟨c, lc, e2⟩, _⟩ := dt.at_ x (by omega) (by omega)
        have cx : ∀ y ∈ c, (labE n es).getD y 0 < (labE n es).getD x 0 - 1 := fun y hy => by
          have h1 := lc.lt y hy
          have h2 := ih y (by omega) (by omega)
          have h3 : ds.getD y 0 ≤ maxL (c.map fun x => ds.getD x 0) := le_maxL (List.mem_map.mpr ⟨y, hy, rfl⟩)
          omega
        obtain ⟨F, hF⟩ := Classical.axiomOfChoice (r := fun (i y : Nat) => i < k + 1 → y ∈ xss.getD i [] ∧ y ∈ c) (fun i => by
          by_cases hi : i < k + 1
          · have hm : xss.getD i [] ∈ xss := by
              rw [List.getD_eq_getElem?_getD, List.getElem?_eq_getElem (by omega)]
              exact List.getElem_mem _
            obtain ⟨y, h1, h2⟩ := way_hits (xw _ hm) lc.sep
            exact ⟨y, fun _ => ⟨h1, h2⟩⟩
          · exact ⟨0, fun z => absurd z hi⟩)
        have ne : ∀ i j, i < j → j < k + 1 → F i ≠ F j := fun i j h1 h2 z => by
          have a := xa i j h1 (by omega)
          have f1 := hF i (by omega)
          have f2 := hF j h2
          rw [z] at f1
          have := List.all_eq_true.mp a (F j) f1.1
          rw [decide_eq_true f2.1, Bool.not_true, Bool.false_or] at this
          have := of_decide_eq_true this
          have := cx _ f2.2
          omega
        have nd : ((List.range (k + 1)).map F).Nodup := by
          rw [List.nodup_iff_pairwise_ne, List.pairwise_map]
          refine List.pairwise_lt_range.imp_of_mem fun {i j} _ hj h => ne i j h (List.mem_range.mp hj)
        have le := nd.length_le_of_subset (l₂ := c) fun y hy => by
          obtain ⟨i, hi, rfl⟩ := List.mem_map.mp hy
          exact (hF i (List.mem_range.mp hi)).2
        rw [List.length_map, List.length_range] at le
        have := lc.len
        omega
end
end K24
set_option Elab.async false
set_option linter.all false
set_option maxRecDepth 100000
set_option maxHeartbeats 4000000
namespace K24
open PySem PySem.Spec PyProof.Rows L2 GX
open C8 (Cal pe_c pe_gc Met Mak)
section
variable {P : Program} {w : World} {K : PySem.W.Frag} {mg : Str → Option Value} {base : Heap} {Ts : List Addr} {CTooMany CNoDepth CNoChange CNoMatch CNoRow CNoText CCoverError : Addr}
/-- a depth is at most the wire's number -/
theorem deps_num {n : Net} (ok : n.Ok) {k : Nat} {ds : List Nat} (d : DepsTo n k ds) : ∀ x, x < ds.length → ds.getD x 0 ≤ x := by
  intro x
  induction x using Nat.strongRecOn with
  | _ x ih =>
    intro hx
    by_cases h : x < n.many
    · rw [d.low x h hx]
      exact Nat.zero_le _
    · obtain ⟨⟨c, lc, e⟩, _⟩ := d.at_ x (by omega) hx
      rw [e]
      by_cases z : 0 < (c.map fun y => ds.getD y 0).length
      · obtain ⟨y, hy, ey⟩ := List.mem_map.mp (maxL_mem z)
        have h1 := lc.lt y hy
        have h2 := ih y h1 (by omega)
        rw [← ey]
        omega
      · rw [List.length_eq_zero_iff.mp (Nat.eq_zero_of_not_pos z)]
        have := ok.m1
        show 1 + 0 ≤ x
        omega
/-- the greatest depth of the outs -/
def MaxO (n : Net) (ds : List Nat) (m : Int) : Prop := m ∈ (n.outs.map fun x => ds.getD x 0).map (fun n : Nat => (n : Int)) ∧ ∀ x ∈ (n.outs.map fun x => ds.getD x 0).map (fun n : Nat => (n : Int)), x ≤ m
theorem MaxO.uniq {n : Net} {ds : List Nat} {m m' : Int} (h : MaxO n ds m) (h' : MaxO n ds m') : m = m' := Int.le_antisymm (h'.2 _ h.1) (h.2 _ h'.1)
end
section
variable {P : Program} {w : World} {K : PySem.W.Frag} {mg : Str → Option Value} {base : Heap} {Ts : List Addr}
theorem cut_neg (xs : List V) (h : 0 < xs.length) : cutV xs none (some (-1)) = xs.take (xs.length - 1) := by
  unfold cutV
  rw [HT.sIx_none, List.drop_zero, Nat.sub_zero]
  congr 1
  unfold HT.sIx
  simp only []
  first
    | (rw [if_pos (by decide)]; omega)
    | (split <;> omega)
    | omega
theorem dkt_tup {W C b : Addr} {t u : Nat} {H H1 : Hp} {xs : List V} (w0 : Wt H W C u) (tb : Tabs Ts H) (d : Dkt W C t Ts H H1) (e : H b = some (.tup xs)) : H1 b = some (.tup xs) := by
  obtain ⟨⟨ns, x, y, e1, e2, _⟩, _⟩ := w0
  exact d.at_ ⟨fun z => (by rw [z, e1] at e; cases e), fun z => (by rw [z, e2] at e; cases e)⟩ (tb.nott e fun _ z => by cases z) e
theorem cut_less (xs : List V) : cutV xs none (some (-1)) = xs.take (xs.length - 1) := by
  by_cases h : 0 < xs.length
  · exact cut_neg xs h
  · rw [List.length_eq_zero_iff.mp (by omega : xs.length = 0)]
    rfl
def fewE (es : Pap) : Pap := es.map fun e => (e.1, e.2.take (e.2.length - 1))
theorem few_papok {n : Net} {es : Pap} (h : PapOk n es) : PapOk n (fewE es) := by
  refine ⟨by unfold fewE; rw [List.length_map]; exact h.len, fun e he => ?_, fun e he => ?_, fun e he xs hx => ?_⟩ <;> obtain ⟨x, hx0, rfl⟩ := List.mem_map.mp he
  · exact h.lab x hx0
  · refine Nat.le_trans (show (x.2.take (x.2.length - 1)).length ≤ x.2.length from ?_) (h.few x hx0)
    rw [List.length_take]
    exact Nat.min_le_right _ _
  · exact h.way x hx0 xs (List.mem_of_mem_take hx)
def spRight24 (Ts : List Addr) : Sp := fun vs H Q _ => ∃ (W C a : Addr) (n : Net) (g o : Addr) (ps : List Addr) (k t : Nat), vs = [.ref W, .ref a, nV k] ∧ Wt H W C t ∧ t ≤ 600000 ∧ NetAt H a n g o ps ∧ n.Ok ∧ n.gates.length ≤ 9 ∧ 2 ≤ k ∧ k ≤ 4 ∧ Tabs Ts H ∧ ∀ H', Dkt W C (t + 3000) Ts H H' → Q (.bl true) H'
theorem ok_right24 {f c : Addr} (D : Dfn K mg "_law_right" s__law_right f c) (T : Txt mg) (c__law_cuts : Cal P w K mg base 3 "_law_cuts" spCutsD []) (c__law_depths : Cal P w K mg base 1 "_law_depths" spDepsD []) (c__law_hand : Cal P w K mg base 3 "_law_hand" spHand []) (c__law_is_paper : Cal P w K mg base 3 "_law_is_paper" spLPap []) (c_depth_paper_holds : Cal P w K mg base 8 "depth_paper_holds" (spPaper Ts) []) : Cal P w K mg base 9 "_law_right" (spRight24 Ts) [] := by
  refine cal D (fun _ _ _ _ _ _ us hl => match us, hl with | [_, _, _], _ => rfl) sc__law_right (fun vs H Q E h => ?_) (fun A outer s H vs Q E hr h => ?_)
  · obtain ⟨W, C, a, n, g, o, ps, k, t, rfl, _⟩ := h
    rfl
  · obtain ⟨W, C, a, n, g, o, ps, k, t, rfl, wl, ht, N, ok, g9, k2, k4, tb, q⟩ := h
    refine ⟨_, (pss_cons (ps_set (i := 3) sc__law_right.nd rfl (by first | exact Or.inl rfl | exact Or.inr rfl) (pe_c c__law_depths hr (by decide) (by rfl) (pa_cons (pv 1) (pa_cons (pe_c c__law_cuts hr (by decide) (by rfl) (pa_cons (pv 1) (pa_cons (pv 2) pa_nil))) pa_nil))))
      (pss_cons (ps_for PassesOwn.never rfl (pi_range1 (by rfl) T.b_range (pa_cons pe_int pa_nil)) (pg_name (i := 4) sc__law_right.nd rfl (by first | exact Or.inl rfl | exact Or.inr rfl))
        (pss_cons (ps_set (i := 5) sc__law_right.nd rfl (by first | exact Or.inl rfl | exact Or.inr rfl) (pe_c c__law_hand hr (by decide) (by rfl) (pa_cons (pv 0) (pa_cons (pv 1) (pa_cons (pv 2) (pa_cons (pv 3) pa_nil))))))
      (pss_cons (ps_set (i := 6) sc__law_right.nd rfl (by first | exact Or.inl rfl | exact Or.inr rfl) (pe_c c__law_is_paper hr (by decide) (by rfl) (pa_cons (pv 1) (pa_cons (pv 2) (pa_cons (pv 5) pa_nil)))))
      (pss_cons (ps_for PassesOwn.never rfl (pi_range1 (by rfl) T.b_range (pa_cons pe_int pa_nil)) (pg_name (i := 7) sc__law_right.nd rfl (by first | exact Or.inl rfl | exact Or.inr rfl))
        (pss_cons (ps_set (i := 8) sc__law_right.nd rfl (by first | exact Or.inl rfl | exact Or.inr rfl) (pe_c c_depth_paper_holds hr (by decide) (by rfl) (pa_cons (pv 1) (pa_cons (pv 2) (pa_cons (pv 5) pa_nil)))))
      (pss_one (ps_if (PW.pt (pw_or (pt_not (pt_val (pe_callB call_isi (by rfl) T.b_isinstance (by decide +kernel) (pa_cons (pv 8) (pa_cons (pe_bltn (v := .ty "bool") (by rfl) T.b_bool (by decide +kernel) rfl) pa_nil))))) (pw_or1 (pt_cmpR op_ne (pv 8) (pv 6) (nomark _))))) (pss_one (ps_ret pe_bl)) pss_nil))))
      (pss_cons (ps_set (i := 9) sc__law_right.nd rfl (by first | exact Or.inl rfl | exact Or.inr rfl) (pe_callTy call_tuple_of (by rfl) T.b_tuple (by decide +kernel) (pa_cons (pe_lc (own := [("_law_label", 10), ("_law_some", 11)])  (tt := tYes) rfl sc__law_right.nd (pi_tup (pv 5)) (blkOk_by (own := [("_law_label", 10), ("_law_some", 11)]) (N := ["_law_deck_here", "_law_net_here", "_law_k", "_law_known", "_law_turn", "_law_paper", "_law_due", "_law_again", "_law_told", "_law_fewer", "_law_label", "_law_some", "_law_thing", "_law_other", "_law_deep", "_law_j"]) (sc := defScope s__law_right) (by decide +kernel)) (fun _ _ _ _ _ => (pg_tupK (K := K) (n := 2) rfl rfl (pgs_cons (pg_name (i := 10) sc__law_right.nd rfl (by first | exact Or.inl rfl | exact Or.inr rfl)) (pgs_cons (pg_name (i := 11) sc__law_right.nd rfl (by first | exact Or.inl rfl | exact Or.inr rfl)) pgs_nil)))) (fun _ _ _ _ _ => pts_nil) (fun _ _ _ _ _ => (pe_tup (pa_cons (pv 10) (pa_cons (pe_slice (sl_tupAK (K := K)) (pv 11) po_none (po_some (pe_un un_neg pe_int))) pa_nil))))) pa_nil)))
      (pss_cons (ps_for PassesOwn.never rfl (pi_list (pe_lst (pa_cons (pe_tup (pa_cons (pv 5) (pa_cons pe_int pa_nil))) (pa_cons (pe_tup (pa_cons (pv 5) (pa_cons pe_int pa_nil))) (pa_cons (pe_tup (pa_cons (pv 5) (pa_cons pe_int pa_nil))) (pa_cons (pe_tup (pa_cons (pv 9) (pa_cons (pe_callB (call_max2 rfl) (by rfl) T.b_max (by decide +kernel) (pa_cons pe_int (pa_cons (pe_op op_sub (pv 2) pe_int) pa_nil))) pa_nil))) (pa_cons (pe_tup (pa_cons (pv 9) (pa_cons (pv 2) pa_nil))) (pa_cons (pe_tup (pa_cons (pv 5) (pa_cons (pv 2) pa_nil))) pa_nil)))))))) (pg_tup rfl (pgs_cons (pg_name (i := 12) sc__law_right.nd rfl (by first | exact Or.inl rfl | exact Or.inr rfl)) (pgs_cons (pg_name (i := 13) sc__law_right.nd rfl (by first | exact Or.inl rfl | exact Or.inr rfl)) pgs_nil)))
        (pss_cons (ps_set (i := 8) sc__law_right.nd rfl (by first | exact Or.inl rfl | exact Or.inr rfl) (pe_c c_depth_paper_holds hr (by decide) (by rfl) (pa_cons (pv 1) (pa_cons (pv 13) (pa_cons (pv 12) pa_nil)))))
      (pss_one (ps_if (PW.pt (pw_or (pt_not (pt_val (pe_callB call_isi (by rfl) T.b_isinstance (by decide +kernel) (pa_cons (pv 8) (pa_cons (pe_bltn (v := .ty "bool") (by rfl) T.b_bool (by decide +kernel) rfl) pa_nil))))) (pw_or1 (pt_cmpR op_ne (pv 8) (pe_c c__law_is_paper hr (by decide) (by rfl) (pa_cons (pv 1) (pa_cons (pv 13) (pa_cons (pv 12) pa_nil)))) (nomark _))))) (pss_one (ps_ret pe_bl)) pss_nil))))
      (pss_cons (ps_set (i := 14) sc__law_right.nd rfl (by first | exact Or.inl rfl | exact Or.inr rfl) (pe_slice sl_list (pv 3) (po_some (pe_ix ix_tup (pv 1) pe_int (fun _ _ => rfl))) po_none))
      (pss_one (ps_if (PW.pt (pw_and (pt_val (pv 6)) (pw_and1 (pt_val (pe_callB (cr_any rfl) (by rfl) T.b_any (by decide +kernel) (pa_cons (pe_lc (own := [("_law_j", 15)]) (g := gName 15) (tt := tYes) rfl sc__law_right.nd (pi_range1 (by rfl) T.b_range (pa_cons (pe_callB call_len_seq (by rfl) T.b_len (by decide +kernel) (pa_cons (pv 5) pa_nil)) pa_nil)) (blkOk_by (own := [("_law_j", 15)]) (N := ["_law_deck_here", "_law_net_here", "_law_k", "_law_known", "_law_turn", "_law_paper", "_law_due", "_law_again", "_law_told", "_law_fewer", "_law_label", "_law_some", "_law_thing", "_law_other", "_law_deep", "_law_j"]) (sc := defScope s__law_right) (by decide +kernel)) (fun _ _ _ _ _ => (pg_name (i := 15) sc__law_right.nd rfl (by first | exact Or.inl rfl | exact Or.inr rfl))) (fun _ _ _ _ _ => pts_nil) (fun _ _ _ _ _ => (pe_cmpR op_gt (pe_ix (ix_tupK (K := K)) (pe_ix (ix_tupK (K := K)) (pv 5) (pv 15) (fun _ _ => rfl)) pe_int (fun _ _ => rfl)) (pe_ix (ix_listK (K := K)) (pv 14) (pv 15) (fun _ _ => rfl)) (nomark _)))) pa_nil)))))) (pss_one (ps_ret pe_bl)) pss_nil)))))))))
      (pss_one (ps_ret pe_bl)))), ?_⟩
    have m8 := ok.m8
    refine ⟨_, rfl, _, rfl, _, rfl, a, n, g, o, ps, k, rfl, N, ok, k2, k4, fun ca H1 qs s1 nca hca KT => ?_⟩
    refine ⟨a, n, g, o, ps, ca, ca, qs, k, rfl, N.same s1, ok, k2, k4, hca, ⟨KT.1, fun i p x h1 h2 => (KT.2 i p x h1 h2).2⟩, fun kn H2 ds s2 nkn hkn dl dt => ?_⟩
    have KN : ∀ x, n.many ≤ x → x < ds.length → 1 ≤ ds.getD x 0 ∧ ds.getD x 0 ≤ 100 := fun x h1 h2 => ⟨deps_one dt h1 h2, by have := deps_num ok dt x h2; have := ok.g16; omega⟩
    have s02 := s1.trans s2
    have w2 := wl.same s02
    have tb2 := tb.same s02
    have N2 := N.same s02
    have knW : kn ≠ W ∧ kn ≠ C := wl.new (Same.was s1 nkn)
    have knT : kn ∉ Ts := fun z => tb2.lst hkn z
    refine ⟨_, rfl, by decide, by decide, ?_⟩
    refine for_range (lo := 0) (n := 6) (fun i σ H' => ∃ x4 x5 x6 x7 x8 x9 x12 x13 x14 : Option V, σ = [some (.ref W), some (.ref a), some (nV k), some (.ref kn), x4, x5, x6, x7, x8, x9, none, none, x12, x13, x14, none] ∧ Dkt W C (t + 450 * i) Ts H2 H') ⟨none, none, none, none, none, none, none, none, none, rfl, ⟨w2, tb2, Keep.refl⟩⟩ ?_ ?_
    · rintro i σ H3 hi ⟨x4, x5, x6, x7, x8, x9, x12, x13, x14, rfl, d3⟩
      have N3 : NetAt H3 a n g o ps := N2.mono fun b xs e => dkt_tup w2 tb2 d3 e
      have hkn3 := d3.at_ knW knT hkn
      refine ⟨_, rfl, _, rfl, _, rfl, _, rfl, W, C, a, kn, n, g, o, ps, k, t + 450 * i, ds, rfl, d3.wl, by omega, N3, ok, g9, k4, hkn3, knW, dl, KN, fun pa H4 es qs4 k34 PA po pk => ?_⟩
      have d4 := d3.draw k34
      have tb4 := d4.tb
      have N4 : NetAt H4 a n g o ps := N2.mono fun b xs e => dkt_tup w2 tb2 d4 e
      have hkn4 := d4.at_ knW knT hkn
      refine ⟨_, rfl, _, rfl, _, rfl, a, n, g, o, ps, k, pa, es, qs4, rfl, N4, ok, PA, po, by omega, fun due H5 hdue s5 => ?_⟩
      have a5 := Aft.ofSame tb4 s5
      refine ⟨_, rfl, by decide, by decide, ?_⟩
      refine for_range (lo := 0) (n := 2) (fun j σ H' => ∃ x7 x8 : Option V, σ = [some (.ref W), some (.ref a), some (nV k), some (.ref kn), some (.int (0 + ((i : Nat) : Int))), some (.ref pa), some (.bl due), x7, x8, x9, none, none, x12, x13, x14, none] ∧ Aft Ts H4 H') ⟨x7, x8, rfl, a5⟩ ?_ ?_
      · rintro j σ H6 hj ⟨x7, x8, rfl, a6⟩
        have PA6 := PA.mono fun b xs e => a6.tup tb4 e
        refine ⟨_, rfl, _, rfl, _, rfl, a, n, g, o, ps, k, .ref pa, thPap es, rfl, N4.aft tb4 a6, ok, PA6.rep, by omega, a6.tb, fun b H7 hb a7 => ?_⟩
        obtain rfl : b = due := Bool.eq_iff_iff.mpr (hb.trans hdue.symm)
        refine ⟨_, rfl, _, _, _, _, true, rfl, .ty "bool", tyx (.bl _), kit_ty (kBool_ok (.bl _)), _, rfl, iteF ?_⟩
        refine ⟨_, rfl, _, rfl, rfl, _, rfl, ?_⟩
        rw [decide_eq_true rfl]
        exact iteF ⟨_, _, rfl, a6.trans a7⟩
      rintro σ H6 ⟨x7, x8, rfl, a6⟩
      have PA6 := PA.mono fun b xs e => a6.tup tb4 e
      have ql : qs4.length = es.length := PA.ts.1
      have e16 : es.length ≤ 16 := by rw [po.len]; omega
      refine ⟨_, rfl, pa, rfl, ⟨_, SqT.of PA6.top⟩, fun M nM => ?_⟩
      refine lc_tup (K := K) (a := pa) (xs := qs4.map V.ref) (fun j H' => ∃ fs : List Addr, Own H6 H' M (fs.map V.ref) ∧ PtsAt EntAt H' fs (fewE (es.take j))) ⟨[], ⟨Same.new nM, upd_same, nM⟩, PtsAt.nil _ _⟩ (fun _ H' _ ⟨_, o', _⟩ => SqT.of (o'.sm _ _ PA6.top)) ?_ ?_
      · rintro j x H7 hx ⟨fs, o7, F7⟩
        have P7 := PA6.mono fun b xs e => o7.sm _ _ e
        obtain ⟨p, e, rfl, he, q1, us, hp, hq, TW⟩ := P7.ts.at_ hx
        have hj : j < es.length := (List.getElem?_eq_some_iff.mp he).1
        refine ⟨p, _, rfl, SqT.of hp, rfl, _, _, rfl, _, _, rfl, rfl, rfl, ?_⟩
        unfold tYes
        refine iteT ?_
        refine ⟨_, rfl, ?_⟩
        refine ⟨_, rfl, ?_⟩
        unfold tNoPart
        refine ⟨_, rfl, _, rfl, ?_⟩
        refine slA (lo := none) (hi := some (-1)) hq fun r8 H8 s8 e8 => ?_
        rw [cut_less, List.length_map, ← List.map_take, show us.length = e.2.length from TW.1] at e8
        refine ⟨small 2, fun pp npp => ?_⟩
        have s9 := Same.new (o := .tup [nV e.1, .ref r8]) npp
        have s79 := s8.trans s9
        have o9 : Own H6 (upd H8 pp (.tup [nV e.1, .ref r8])) M (fs.map V.ref) := ⟨o7.sm.trans s79, s79 _ _ o7.at_, o7.nw⟩
        have F9 := F7.mono fun p y h => h.mono fun b xs e => s79 _ _ e
        have hpp : upd H8 pp (.tup [nV e.1, .ref r8]) pp = some (.tup [nV e.1, .ref r8]) := upd_same
        have he9 := s9 _ _ e8
        have T9 : TupsAt (upd H8 pp (.tup [nV e.1, .ref r8])) (us.take (e.2.length - 1)) (e.2.take (e.2.length - 1)) := by
          refine ⟨by rw [List.length_take, List.length_take, show us.length = e.2.length from TW.1], fun m u y e1 e2 => ?_⟩
          have hm : m < e.2.length - 1 := by
            have := (List.getElem?_eq_some_iff.mp e2).1
            rw [List.length_take] at this
            omega
          rw [List.getElem?_take_of_lt hm] at e1 e2
          exact s79 _ _ (TW.2 m u y e1 e2)
        generalize upd H8 pp (.tup [nV e.1, .ref r8]) = H9 at o9 F9 hpp he9 T9 ⊢
        have fl : fs.length = j := by
          rw [F7.1]
          unfold fewE
          rw [List.length_map, List.length_take]
          omega
        refine ⟨_, o9.at_, by rw [List.length_map, fl]; exact small256 (by omega), fs ++ [pp], by rw [List.map_append]; exact o9.app, ?_⟩
        have up9 : ∀ b xs, H9 b = some (HO.tup xs) → upd H9 M (.lst (fs.map V.ref ++ [.ref pp])) b = some (.tup xs) := fun b xs e => by
          rw [upd_ne (fun z => by rw [z, o9.at_] at e; cases e)]
          exact e
        have ef : fewE (es.take (j + 1)) = fewE (es.take j) ++ [(e.1, e.2.take (e.2.length - 1))] := by
          unfold fewE
          rw [List.take_add_one, he, List.map_append]
          rfl
        rw [ef]
        exact PtsAt.push (F9.mono fun p y h => h.mono up9) ⟨r8, _, up9 _ _ hpp, up9 _ _ he9, T9.mono up9⟩
      rintro H7 ⟨fs, o7, F7⟩
      rw [List.length_map, ql, List.take_length] at F7
      refine ⟨M, _, rfl, .inl ⟨SqL.of o7.at_, fun fw nfw => ?_⟩⟩
      have s8 := Same.new (o := .tup (fs.map V.ref)) nfw
      have a8 := a6.trans (Aft.ofSame a6.tb (o7.sm.trans s8))
      have FA : PapAt (upd H7 fw (.tup (fs.map V.ref))) fw (fewE es) fs := ⟨upd_same, F7.mono fun p y h => h.mono fun b xs e => s8 _ _ e⟩
      generalize upd H7 fw (.tup (fs.map V.ref)) = H8 at a8 FA ⊢
      have fo := few_papok po
      refine ⟨_, rfl, small 2, fun p1 n1 => ⟨_, rfl, small 2, fun p2 n2 => ⟨_, rfl, small 2, fun p3 n3 => ⟨_, rfl, _, rfl, _, _, rfl, rfl, _, _, rfl, small 2, fun p4 n4 => ⟨_, rfl, _, rfl, small 2, fun p5 n5 => ⟨_, rfl, _, rfl, small 2, fun p6 n6 => ⟨small 6, fun L nL => ?_⟩⟩⟩⟩⟩⟩⟩
      have z1 := Same.new (o := .tup [.ref pa, .int 2]) n1
      have z2 := Same.new (o := .tup [.ref pa, .int 3]) n2
      have z3 := Same.new (o := .tup [.ref pa, .int 4]) n3
      have z4 := Same.new (o := .tup [.ref fw, .int (if ((k : Nat) : Int) - 1 > 2 then ((k : Nat) : Int) - 1 else 2)]) n4
      have z5 := Same.new (o := .tup [.ref fw, nV k]) n5
      have z6 := Same.new (o := .tup [.ref pa, nV k]) n6
      have zL := Same.new (o := .lst [.ref p1, .ref p2, .ref p3, .ref p4, .ref p5, .ref p6]) nL
      have y6 := zL
      have y5 := z6.trans y6
      have y4 := z5.trans y5
      have y3 := z4.trans y4
      have y2 := z3.trans y3
      have y1 := z2.trans y2
      have y0 := z1.trans y1
      have h1 := y1 _ _ (upd_same (H := H8) (a := p1) (o := .tup [.ref pa, .int 2]))
      have h2 := y2 _ _ (upd_same (H := (upd H8 p1 (.tup [.ref pa, .int 2]))) (a := p2) (o := .tup [.ref pa, .int 3]))
      have h3 := y3 _ _ (upd_same (H := (upd (upd H8 p1 (.tup [.ref pa, .int 2])) p2 (.tup [.ref pa, .int 3]))) (a := p3) (o := .tup [.ref pa, .int 4]))
      have h4 := y4 _ _ (upd_same (H := (upd (upd (upd H8 p1 (.tup [.ref pa, .int 2])) p2 (.tup [.ref pa, .int 3])) p3 (.tup [.ref pa, .int 4]))) (a := p4) (o := .tup [.ref fw, .int (if ((k : Nat) : Int) - 1 > 2 then ((k : Nat) : Int) - 1 else 2)]))
      have h5 := y5 _ _ (upd_same (H := (upd (upd (upd (upd H8 p1 (.tup [.ref pa, .int 2])) p2 (.tup [.ref pa, .int 3])) p3 (.tup [.ref pa, .int 4])) p4 (.tup [.ref fw, .int (if ((k : Nat) : Int) - 1 > 2 then ((k : Nat) : Int) - 1 else 2)]))) (a := p5) (o := .tup [.ref fw, nV k]))
      have h6 := y6 _ _ (upd_same (H := (upd (upd (upd (upd (upd H8 p1 (.tup [.ref pa, .int 2])) p2 (.tup [.ref pa, .int 3])) p3 (.tup [.ref pa, .int 4])) p4 (.tup [.ref fw, .int (if ((k : Nat) : Int) - 1 > 2 then ((k : Nat) : Int) - 1 else 2)])) p5 (.tup [.ref fw, nV k]))) (a := p6) (o := .tup [.ref pa, nV k]))
      have hk4 : ∃ kk : Nat, (if ((k : Nat) : Int) - 1 > 2 then ((k : Nat) : Int) - 1 else 2) = ((kk : Nat) : Int) ∧ kk ≤ 100 := by
        split
        · exact ⟨k - 1, by omega, by omega⟩
        · exact ⟨2, rfl, by decide⟩
      obtain ⟨kk, ekk, kk100⟩ := hk4
      refine (fun (rest : ∀ H9 : Hp, Same H8 H9 → H9 L = some (.lst ([p1, p2, p3, p4, p5, p6].map V.ref)) → (∀ p ∈ [p1, p2, p3, p4, p5, p6], ∃ (x : Addr) (kk : Nat), H9 p = some (.tup [.ref x, nV kk]) ∧ (x = pa ∨ x = fw) ∧ kk ≤ 100) → _) => rest _ y0 upd_same fun p hp => ?_) ?_
      · simp only [List.mem_cons, List.not_mem_nil, or_false] at hp
        rcases hp with e | e | e | e | e | e <;> rw [e]
        · exact ⟨pa, 2, h1, .inl rfl, by decide⟩
        · exact ⟨pa, 3, h2, .inl rfl, by decide⟩
        · exact ⟨pa, 4, h3, .inl rfl, by decide⟩
        · exact ⟨fw, kk, by rw [h4, ekk]; rfl, .inr rfl, kk100⟩
        · exact ⟨fw, k, h5, .inr rfl, by omega⟩
        · exact ⟨pa, k, h6, .inl rfl, by omega⟩
      clear h1 h2 h3 h4 h5 h6 y0 y1 y2 y3 y4 y5 y6 zL z1 z2 z3 z4 z5 z6 nL n1 n2 n3 n4 n5 n6
      generalize [p1, p2, p3, p4, p5, p6] = prs
      intro H9 s9 hL9 hprs
      have a9 := a8.trans (Aft.ofSame a8.tb s9)
      have P9 := PA.mono fun b xs e => a9.tup tb4 e
      have F9 := FA.mono fun b xs e => s9 _ _ e
      have tb9 := a9.tb
      have both : ∀ x, (x = pa ∨ x = fw) → ∃ es' qs', PapAt H9 x es' qs' ∧ PapOk n es' := fun x hx => by
        rcases hx with e | e <;> rw [e]
        · exact ⟨es, qs4, P9, po⟩
        · exact ⟨_, fs, F9, fo⟩
      refine ⟨L, rfl, ⟨_, SqL.of hL9⟩, ?_⟩
      refine for_list (K := K) (a := L) (xs := prs.map V.ref) (fun j σ H' => ∃ x8 x12 x13 : Option V, σ = [some (.ref W), some (.ref a), some (nV k), some (.ref kn), some (.int (0 + ((i : Nat) : Int))), some (.ref pa), some (.bl due), x7, x8, some (.ref fw), none, none, x12, x13, x14, none] ∧ Aft Ts H9 H') ⟨x8, x12, x13, rfl, Aft.refl tb9⟩ ?_ ?_ ?_
      · rintro j σ H' _ ⟨_, _, _, _, a'⟩
        exact SqL.of (a'.lst tb9 hL9)
      · rintro j x σ H10 hx ⟨x8, x12, x13, rfl, a10⟩
        obtain ⟨p, hpm, rfl⟩ : ∃ p ∈ prs, x = V.ref p := by
          rw [List.getElem?_map] at hx
          cases e : prs[j]? with
          | none => rw [e] at hx; cases hx
          | some p => rw [e] at hx; exact ⟨p, List.mem_of_getElem? e, (Option.some.inj hx).symm⟩
        obtain ⟨y, k2', hp9, hy, hk2'⟩ := hprs p hpm
        obtain ⟨es', qs', Py, poy⟩ := both y hy
        have N10 := (N4.aft tb4 a9).aft tb9 a10
        have Py10 := Py.mono fun b xs e => a10.tup tb9 e
        refine ⟨p, _, rfl, SqT.of (a10.tup tb9 hp9), rfl, _, _, rfl, _, _, rfl, rfl, ?_⟩
        refine ⟨_, rfl, _, rfl, _, rfl, a, n, g, o, ps, k2', .ref y, thPap es', rfl, N10, ok, Py10.rep, hk2', a10.tb, fun b H11 hb a11 => ?_⟩
        have a91 := a10.trans a11
        refine ⟨_, rfl, _, _, _, _, true, rfl, .ty "bool", tyx (.bl _), kit_ty (kBool_ok (.bl _)), _, rfl, iteF ?_⟩
        refine ⟨_, rfl, _, rfl, _, rfl, _, rfl, a, n, g, o, ps, k2', y, es', qs', rfl, N10.aft a10.tb a11, ok, Py.mono fun b xs e => a91.tup tb9 e, poy, hk2', fun b2 H12 hb2 s12 => ⟨rfl, _, rfl, ?_⟩⟩
        obtain rfl : b = b2 := Bool.eq_iff_iff.mpr (hb.trans hb2.symm)
        rw [decide_eq_true rfl]
        exact iteF ⟨_, _, _, rfl, a91.trans (Aft.ofSame a91.tb s12)⟩
      rintro σ H10 ⟨x8, x12, x13, rfl, a10⟩
      have a410 := a9.trans a10
      have N10 := N4.aft tb4 a410
      have hkn10 := a410.lst tb4 hkn4
      have P10 := PA.mono fun b xs e => a410.tup tb4 e
      refine ⟨_, rfl, _, rfl, a, _, 0, _, rfl, rfl, SqT.of N10.top, at0, _, rfl, ?_⟩
      unfold tNoPart
      refine ⟨kn, _, rfl, SqL.of hkn10, fun dp ndp => ?_⟩
      rw [cut_lo, ← List.map_drop]
      have s11 := Same.new (o := .lst ((ds.drop n.many).map nV)) ndp
      have hdp : upd H10 dp (.lst ((ds.drop n.many).map nV)) dp = some (.lst ((ds.drop n.many).map nV)) := upd_same
      have a11 := a410.trans (Aft.ofSame a410.tb s11)
      have P11 := P10.mono fun b xs e => s11 _ _ e
      generalize upd H10 dp (.lst ((ds.drop n.many).map nV)) = H11 at hdp a11 P11 ⊢
      have fin : ∀ {H' : Hp}, Aft Ts H4 H' → Dkt W C (t + 450 * (i + 1)) Ts H2 H' := fun a' => (d4.aft a').le (by omega)
      refine ⟨_, rfl, _, rfl, ?_⟩
      cases due with
      | false => exact iteF ⟨_, _, _, _, _, _, _, _, _, rfl, fin a11⟩
      | true =>
        refine iteT ?_
        have sh := (paper_ent po).mp (hdue.mp rfl)
        have snd := pap_sound ok dl dt po sh
        refine ⟨_, rfl, pa, _, rfl, .inr (SqT.of P11.top), _, rfl, by rw [List.length_map]; omega, by rw [List.length_map]; omega, fun M2 nM2 => ?_⟩
        refine lc_range (lo := 0) (n := (((qs4.map V.ref).length : Nat) : Int).toNat) (fun j H' => Own H11 H' M2 ((List.replicate j false).map V.bl)) ⟨Same.new nM2, upd_same, nM2⟩ ?_ ?_
        · rintro j H12 hj o12
          rw [Int.toNat_natCast, List.length_map, ql] at hj
          have P12 := P11.mono fun b xs e => o12.sm _ _ e
          have hjq : j < qs4.length := by omega
          have eq_ : (qs4.map V.ref)[j]? = some (.ref qs4[j]) := by rw [List.getElem?_map, List.getElem?_eq_getElem hjq]; rfl
          obtain ⟨p, e, epp, he, q1, us, hp, hq, TW⟩ := P12.ts.at_ eq_
          rw [epp] at eq_
          have hjd : n.many + j < ds.length := by rw [dl, ← po.len]; omega
          have ed : ((ds.drop n.many).map nV)[j]? = some (nV (ds.getD (n.many + j) 0)) := by
            rw [List.getElem?_map, List.getElem?_drop, List.getElem?_eq_getElem hjd, List.getD_eq_getElem?_getD, List.getElem?_eq_getElem hjd]
            rfl
          have le : ((e.1 : Nat) : Int) ≤ ((ds.getD (n.many + j) 0 : Nat) : Int) := by
            have h := snd (n.many + j) (n.many + j) (Nat.le_refl _) (by rw [← dl]; exact hjd)
            have hl : (labE n es).getD (n.many + j) 0 = ((e.1 : Nat) : Int) := by
              unfold labE
              rw [List.getD_eq_getElem?_getD, List.getElem?_append_right (by rw [List.length_replicate]; omega), List.length_replicate, Nat.add_sub_cancel_left, List.getElem?_map, he]
              rfl
            rwa [hl] at h
          rw [show V.int (0 + ((j : Nat) : Int)) = nV j from congrArg V.int (Int.zero_add _)]
          refine ⟨rfl, ?_⟩
          unfold tYes
          refine iteT ?_
          refine ⟨_, rfl, _, rfl, pa, _, _, _, rfl, rfl, SqT.of P12.top, atI_nat eq_, p, _, 0, _, rfl, rfl, SqT.of hp, at0, _, rfl, _, rfl, dp, _, _, _, rfl, rfl, SqL.of (o12.sm _ _ hdp), atI_nat ed, _, _, rfl, rfl, _, o12.at_, by rw [List.length_map, List.length_replicate]; exact small256 (by omega), ?_⟩
          dsimp -proj only
          rw [decide_eq_false (show ¬ ((ds.getD (n.many + j) 0 : Nat) : Int) < ((e.1 : Nat) : Int) by omega), List.replicate_succ', List.map_append]
          exact o12.app
        · rintro H12 o12
          refine ⟨M2, List.replicate _ false, rfl, SqL.of o12.at_, _, rfl, ?_⟩
          rw [show (List.replicate (((qs4.map V.ref).length : Nat) : Int).toNat false).any id = false by
            rw [List.any_eq_false]
            intro x hx
            rw [(List.mem_replicate.mp hx).2]
            exact Bool.false_ne_true]
          exact iteF ⟨_, _, _, _, _, _, _, _, _, rfl, fin (a11.trans (Aft.ofSame a11.tb o12.sm))⟩
    · rintro σ H3 ⟨x4, x5, x6, x7, x8, x9, x12, x13, x14, rfl, d3⟩
      exact q H3 ⟨d3.wl.le (by omega), d3.tb, fun b v e n => d3.kp b v (s02 _ _ e) n⟩
end
end K24
set_option Elab.async false
set_option linter.all false
set_option maxRecDepth 100000
set_option maxHeartbeats 4000000
namespace K24
open PySem PySem.Spec PyProof.Rows L2 GX
open C8 (Cal pe_c pe_gc Met Mak)
section
variable {P : Program} {w : World} {K : PySem.W.Frag} {mg : Str → Option Value} {base : Heap} {Ts : List Addr}
def spLaw (K : PySem.W.Frag) (Ts : List Addr) : Sp := fun vs H Q _ => ∃ (a : Addr) (ns : List Int), vs = [.ref a] ∧ SqL K H a (ns.map V.int) ∧ ns.length ≤ 63 ∧ Tabs Ts H ∧ ∀ H', Q (.bl true) H'
theorem sq_same {K : PySem.W.Frag} {H H' : Hp} {a : Addr} {xs : List V} (h : SqL K H a xs) (s : Same H H') : SqL K H' a xs := by
  rcases h with (h | ⟨o, h⟩) | h
  · exact .inl (.inl (s _ _ h))
  · exact .inl (.inr ⟨o, s _ _ h⟩)
  · exact .inr h
theorem ok_law {f c : Addr} {oc kV doc pm ct : Value} {od an : Option Addr} {osl : Array (Option Value)}
    (lk : K.lookup f = some ⟨oc, od, .func (PySem.W.fnOf "law" "law" (defArgs s_law) (defBody s_law) (defScope s_law) .none kV doc pm an (.ref c) ct), osl⟩) (hcd : PySem.W.codeIn K (.ref c) "law" = true) (T : Txt mg)
    (c__law_deck : Cal P w K mg base 1 "_law_deck" (spDeck K) []) (c__law_draw : Cal P w K mg base 1 "_law_draw" spDraw []) (c__law_net : Cal P w K mg base 3 "_law_net" spNet []) (c__law_right : Cal P w K mg base 9 "_law_right" (spRight24 Ts) []) :
    FnOk P w K mg base L2.CX0 10 f (PySem.W.fnOf "law" "law" (defArgs s_law) (defBody s_law) (defScope s_law) .none kV doc pm an (.ref c) ct) ["_law_script"] (spLaw K Ts) := by
  refine fnok lk hcd sc_law (fun vs H Q E h => ?_) (fun A outer s H vs Q E hr h => ?_)
  · obtain ⟨a, ns, rfl, _⟩ := h
    rfl
  · obtain ⟨a, ns, rfl, hS, hlen, tb, q⟩ := h
    refine ⟨_, (pss_cons (ps_set (i := 1) sc_law.nd rfl (by first | exact Or.inl rfl | exact Or.inr rfl) (pe_c c__law_deck hr (by decide) (by rfl) (pa_cons (pv 0) pa_nil)))
      (pss_cons (ps_for PassesOwn.never rfl (pi_range1 (by rfl) T.b_range (pa_cons (pe_callB (call_max2 rfl) (by rfl) T.b_max (by decide +kernel) (pa_cons pe_int (pa_cons (pe_callB (call_min2 rfl) (by rfl) T.b_min (by decide +kernel) (pa_cons pe_int (pa_cons (pe_callB call_len_seq (by rfl) T.b_len (by decide +kernel) (pa_cons (pv 0) pa_nil)) pa_nil))) pa_nil))) pa_nil)) (pg_name (i := 2) sc_law.nd rfl (by first | exact Or.inl rfl | exact Or.inr rfl))
        (pss_cons (ps_set (i := 3) sc_law.nd rfl (by first | exact Or.inl rfl | exact Or.inr rfl) (pe_c c__law_net hr (by decide) (by rfl) (pa_cons (pv 1) (pa_cons pe_int (pa_cons (pe_ix ix_list (pe_lst (pa_cons pe_int (pa_cons pe_int pa_nil))) (pe_callTy call_int1 (by rfl) T.b_int (by decide +kernel) (pa_cons (pe_cmpR op_eq (pe_c c__law_draw hr (by decide) (by rfl) (pa_cons (pv 1) (pa_cons pe_int pa_nil))) pe_int (nomark _)) pa_nil)) (fun _ _ => rfl)) pa_nil)))))
      (pss_one (ps_for PassesOwn.never rfl (pi_tup (pe_tup (pa_cons pe_int (pa_cons pe_int (pa_cons pe_int pa_nil))))) (pg_name (i := 4) sc_law.nd rfl (by first | exact Or.inl rfl | exact Or.inr rfl))
        (pss_one (ps_if (pt_not (pt_val (pe_c c__law_right hr (by decide) (by rfl) (pa_cons (pv 1) (pa_cons (pv 3) (pa_cons (pv 4) pa_nil)))))) (pss_one (ps_ret pe_bl)) pss_nil))))))
      (pss_one (ps_ret pe_bl)))), ?_⟩
    refine ⟨_, rfl, a, ns, rfl, hS, hlen, fun W C H1 nW nC w1 s1 => ?_⟩
    have tb1 := tb.same s1
    have hS1 : SqL K H1 a (ns.map V.int) := sq_same hS s1
    refine ⟨_, rfl, a, _, rfl, .inl hS1, _, _, rfl, _, _, rfl, _, rfl, ?_, ?_, ?_⟩
    · split <;> split <;> omega
    · rw [List.length_map]
      split <;> split <;> omega
    refine for_range (lo := 0) (fun i σ H' => ∃ x2 x3 x4, σ = [some (.ref a), some (.ref W), x2, x3, x4] ∧ ∃ t, t ≤ 20000 * i ∧ Wt H' W C t ∧ Tabs Ts H') ⟨none, none, none, rfl, 0, Nat.le_refl _, w1, tb1⟩ ?_ ?_
    · rintro i σ H2 hi ⟨x2, x3, x4, rfl, t, ht, w2, tb2⟩
      have hi2 : i < 2 := by
        rw [List.length_map] at hi
        split at hi <;> split at hi <;> omega
      refine ⟨_, rfl, small 2, fun z nz => ?_⟩
      have s3 := Same.new (o := .lst [.int 6, .int 9]) nz
      have hz : upd H2 z (.lst [.int 6, .int 9]) z = some (.lst [.int 6, .int 9]) := upd_same
      have w3 := w2.same s3
      have tb3 := tb2.same s3
      have zW := w2.new nz
      generalize upd H2 z (.lst [.int 6, .int 9]) = H3 at hz w3 tb3 ⊢
      refine ⟨_, rfl, W, C, 8, t, rfl, w3, by omega, by decide, by decide, fun d H4 e0 e1 k4 => ⟨rfl, ?_⟩⟩
      obtain ⟨gm, egm, gm9⟩ : ∃ gm : Nat, (if decide (V.int d = V.int 5) = true then V.int 9 else V.int 6) = nV gm ∧ gm ≤ 9 := by
        split
        · exact ⟨9, rfl, by decide⟩
        · exact ⟨6, rfl, by decide⟩
      have d3 : Dkt W C t Ts H3 H3 := ⟨w3, tb3, Keep.refl⟩
      have d4 := d3.draw k4
      refine .inr ⟨_, rfl, z, _, _, nV gm, rfl, rfl, SqL.of (k4.at_ zW hz), (by rw [atIf]; exact congrArg some egm), ?_⟩
      refine ⟨W, C, 8, gm, t + 1, rfl, k4.wl, by omega, by decide, by decide, by omega, fun an n g o ps H5 ok m8 g9 N k5 => ?_⟩
      have d5 := d4.draw k5
      refine ⟨small 3, fun ka nka => ?_⟩
      have s6 := Same.new (o := .tup [V.int 2, V.int 3, V.int 4]) nka
      have hka : upd H5 ka (.tup [V.int 2, V.int 3, V.int 4]) ka = some (.tup ([2, 3, 4].map nV)) := upd_same
      have d6 := d5.same s6
      have N6 := N.same s6
      generalize upd H5 ka (.tup [V.int 2, V.int 3, V.int 4]) = H6 at hka d6 N6 ⊢
      have w6 := d6.wl
      have tb6 := d6.tb
      refine ⟨ka, rfl, ⟨_, SqT.of hka⟩, ?_⟩
      refine for_tup (K := K) (a := ka) (xs := [2, 3, 4].map nV) (fun j σ H' => ∃ x4, σ = [some (.ref a), some (.ref W), some (.int (0 + ((i : Nat) : Int))), some (.ref an), x4] ∧ Dkt W C (t + 300 + 3000 * j) Ts H6 H') ⟨_, rfl, w6.le (by omega), tb6, Keep.refl⟩ ?_ ?_ ?_
      · rintro j σ H' _ ⟨_, _, d'⟩
        exact SqT.of (dkt_tup w6 tb6 d' hka)
      · rintro j x σ H9 hx ⟨x4, rfl, d9⟩
        have hj : j < 3 := (List.getElem?_eq_some_iff.mp hx).1
        obtain ⟨kw, rfl, kw2, kw3⟩ : ∃ kw : Nat, x = nV kw ∧ 2 ≤ kw ∧ kw ≤ 4 := by
          rcases (by omega : j = 0 ∨ j = 1 ∨ j = 2) with rfl | rfl | rfl
          · exact ⟨2, (Option.some.inj hx).symm, by decide, by decide⟩
          · exact ⟨3, (Option.some.inj hx).symm, by decide, by decide⟩
          · exact ⟨4, (Option.some.inj hx).symm, by decide, by decide⟩
        have N9 : NetAt H9 an n g o ps := N6.mono fun b xs e => dkt_tup w6 tb6 d9 e
        refine ⟨_, rfl, _, rfl, _, rfl, W, C, an, n, g, o, ps, kw, t + 300 + 3000 * j, rfl, d9.wl, by omega, N9, ok, by omega, kw2, kw3, d9.tb, fun H10 d10 => ?_⟩
        refine ⟨_, rfl, iteF ?_⟩
        exact ⟨_, rfl, d10.wl.le (by omega), d10.tb, d9.kp.trans d10.kp⟩
      · rintro σ H9 ⟨x4, rfl, d9⟩
        have : ([2, 3, 4].map nV).length = 3 := rfl
        rw [this] at d9
        exact ⟨_, _, _, rfl, t + 300 + 3000 * 3, by omega, d9.wl, d9.tb⟩
    · rintro σ H2 _
      exact q H2
end
end K24
set_option Elab.async false
set_option linter.all false
set_option maxRecDepth 100000
set_option maxHeartbeats 4000000
namespace K24
open PySem PySem.Spec PyProof.Rows L2 GX
open C8 (Cal pe_c pe_gc)
/-! ### what the top has written -/
theorem all_mk {l : PySem.W.OpenLaw} {w : World} {K : PySem.W.Frag} {h : Heap} {mg : Str → Option Value} {fa : Addr} (X : K.In h) (G : h.Ns mainGlobals mg) (hfa : mg "law" = some (.ref fa))
    {f0 c0 : Addr} {od0 an0 : Option Addr} {sl0 : Array (Option Value)} {oc0 kV0 dc0 pm0 ct0 : Value}
    (a0 : PySem.W.nsIn K mainGlobals "is_whole" = some (some (.ref f0))) (l0 : K.lookup f0 = some ⟨oc0, od0, .func (PySem.W.fnOf "is_whole" "is_whole" (defArgs s_is_whole) (defBody s_is_whole) (defScope s_is_whole) .none kV0 dc0 pm0 an0 (.ref c0) ct0), sl0⟩) (e0 : PySem.W.codeIn K (.ref c0) "is_whole" = true) (k0 : PySem.W.keepIn K (.ref f0) = true)
    {f1 c1 : Addr} {od1 an1 : Option Addr} {sl1 : Array (Option Value)} {oc1 kV1 dc1 pm1 ct1 : Value}
    (a1 : PySem.W.nsIn K mainGlobals "is_below" = some (some (.ref f1))) (l1 : K.lookup f1 = some ⟨oc1, od1, .func (PySem.W.fnOf "is_below" "is_below" (defArgs s_is_below) (defBody s_is_below) (defScope s_is_below) .none kV1 dc1 pm1 an1 (.ref c1) ct1), sl1⟩) (e1 : PySem.W.codeIn K (.ref c1) "is_below" = true) (k1 : PySem.W.keepIn K (.ref f1) = true)
    {f2 c2 : Addr} {od2 an2 : Option Addr} {sl2 : Array (Option Value)} {oc2 kV2 dc2 pm2 ct2 : Value}
    (a2 : PySem.W.nsIn K mainGlobals "wires_in" = some (some (.ref f2))) (l2 : K.lookup f2 = some ⟨oc2, od2, .func (PySem.W.fnOf "wires_in" "wires_in" (defArgs s_wires_in) (defBody s_wires_in) (defScope s_wires_in) .none kV2 dc2 pm2 an2 (.ref c2) ct2), sl2⟩) (e2 : PySem.W.codeIn K (.ref c2) "wires_in" = true) (k2 : PySem.W.keepIn K (.ref f2) = true)
    {f3 c3 : Addr} {od3 an3 : Option Addr} {sl3 : Array (Option Value)} {oc3 kV3 dc3 pm3 ct3 : Value}
    (a3 : PySem.W.nsIn K mainGlobals "places" = some (some (.ref f3))) (l3 : K.lookup f3 = some ⟨oc3, od3, .func (PySem.W.fnOf "places" "places" (defArgs s_places) (defBody s_places) (defScope s_places) .none kV3 dc3 pm3 an3 (.ref c3) ct3), sl3⟩) (e3 : PySem.W.codeIn K (.ref c3) "places" = true) (k3 : PySem.W.keepIn K (.ref f3) = true)
    {f4 c4 : Addr} {od4 an4 : Option Addr} {sl4 : Array (Option Value)} {oc4 kV4 dc4 pm4 ct4 : Value}
    (a4 : PySem.W.nsIn K mainGlobals "is_step" = some (some (.ref f4))) (l4 : K.lookup f4 = some ⟨oc4, od4, .func (PySem.W.fnOf "is_step" "is_step" (defArgs s_is_step) (defBody s_is_step) (defScope s_is_step) .none kV4 dc4 pm4 an4 (.ref c4) ct4), sl4⟩) (e4 : PySem.W.codeIn K (.ref c4) "is_step" = true) (k4 : PySem.W.keepIn K (.ref f4) = true)
    {f5 c5 : Addr} {od5 an5 : Option Addr} {sl5 : Array (Option Value)} {oc5 kV5 dc5 pm5 ct5 : Value}
    (a5 : PySem.W.nsIn K mainGlobals "is_way" = some (some (.ref f5))) (l5 : K.lookup f5 = some ⟨oc5, od5, .func (PySem.W.fnOf "is_way" "is_way" (defArgs s_is_way) (defBody s_is_way) (defScope s_is_way) .none kV5 dc5 pm5 an5 (.ref c5) ct5), sl5⟩) (e5 : PySem.W.codeIn K (.ref c5) "is_way" = true) (k5 : PySem.W.keepIn K (.ref f5) = true)
    {P5 : Addr} {dd5 : Option Addr} {vs5 : Array Value} {ls5 : Array (Option Value)} {fl5 : Str} {tf5 tg5 tt5 : Tok} {fg5 tx5 : Int} {iF5 : Bool}
    (o5 : K.lookup c5 = some ⟨.type "code", dd5, .fields vs5, ls5⟩) (h5 : vs5[11]? = some (.ref P5) ∧ vs5.getD 11 .none = .ref P5 ∧ vs5.getD 18 .none = .str fl5 tf5 ∧ vs5.getD 7 .none = .int fg5 tg5 ∧ vs5.getD 9 .none = .bool iF5 ∧ vs5.getD 10 .none = .int tx5 tt5 ∧ c5 ≠ P5) (n5 : K.lookup P5 = none) (y5 : TabOf K mg h "is_way")
    {f6 c6 : Addr} {od6 an6 : Option Addr} {sl6 : Array (Option Value)} {oc6 kV6 dc6 pm6 ct6 : Value}
    (a6 : PySem.W.nsIn K mainGlobals "_law_deck" = some (some (.ref f6))) (l6 : K.lookup f6 = some ⟨oc6, od6, .func (PySem.W.fnOf "_law_deck" "_law_deck" (defArgs s__law_deck) (defBody s__law_deck) (defScope s__law_deck) .none kV6 dc6 pm6 an6 (.ref c6) ct6), sl6⟩) (e6 : PySem.W.codeIn K (.ref c6) "_law_deck" = true) (k6 : PySem.W.keepIn K (.ref f6) = true)
    {f7 c7 : Addr} {od7 an7 : Option Addr} {sl7 : Array (Option Value)} {oc7 kV7 dc7 pm7 ct7 : Value}
    (a7 : PySem.W.nsIn K mainGlobals "_law_draw" = some (some (.ref f7))) (l7 : K.lookup f7 = some ⟨oc7, od7, .func (PySem.W.fnOf "_law_draw" "_law_draw" (defArgs s__law_draw) (defBody s__law_draw) (defScope s__law_draw) .none kV7 dc7 pm7 an7 (.ref c7) ct7), sl7⟩) (e7 : PySem.W.codeIn K (.ref c7) "_law_draw" = true) (k7 : PySem.W.keepIn K (.ref f7) = true)
    {f8 c8 : Addr} {od8 an8 : Option Addr} {sl8 : Array (Option Value)} {oc8 kV8 dc8 pm8 ct8 : Value}
    (a8 : PySem.W.nsIn K mainGlobals "_law_gate" = some (some (.ref f8))) (l8 : K.lookup f8 = some ⟨oc8, od8, .func (PySem.W.fnOf "_law_gate" "_law_gate" (defArgs s__law_gate) (defBody s__law_gate) (defScope s__law_gate) .none kV8 dc8 pm8 an8 (.ref c8) ct8), sl8⟩) (e8 : PySem.W.codeIn K (.ref c8) "_law_gate" = true) (k8 : PySem.W.keepIn K (.ref f8) = true)
    {f9 c9 : Addr} {od9 an9 : Option Addr} {sl9 : Array (Option Value)} {oc9 kV9 dc9 pm9 ct9 : Value}
    (a9 : PySem.W.nsIn K mainGlobals "_law_net" = some (some (.ref f9))) (l9 : K.lookup f9 = some ⟨oc9, od9, .func (PySem.W.fnOf "_law_net" "_law_net" (defArgs s__law_net) (defBody s__law_net) (defScope s__law_net) .none kV9 dc9 pm9 an9 (.ref c9) ct9), sl9⟩) (e9 : PySem.W.codeIn K (.ref c9) "_law_net" = true) (k9 : PySem.W.keepIn K (.ref f9) = true)
    {f10 c10 : Addr} {od10 an10 : Option Addr} {sl10 : Array (Option Value)} {oc10 kV10 dc10 pm10 ct10 : Value}
    (a10 : PySem.W.nsIn K mainGlobals "_law_held" = some (some (.ref f10))) (l10 : K.lookup f10 = some ⟨oc10, od10, .func (PySem.W.fnOf "_law_held" "_law_held" (defArgs s__law_held) (defBody s__law_held) (defScope s__law_held) .none kV10 dc10 pm10 an10 (.ref c10) ct10), sl10⟩) (e10 : PySem.W.codeIn K (.ref c10) "_law_held" = true) (k10 : PySem.W.keepIn K (.ref f10) = true)
    {f11 c11 : Addr} {od11 an11 : Option Addr} {sl11 : Array (Option Value)} {oc11 kV11 dc11 pm11 ct11 : Value}
    (a11 : PySem.W.nsIn K mainGlobals "_law_least" = some (some (.ref f11))) (l11 : K.lookup f11 = some ⟨oc11, od11, .func (PySem.W.fnOf "_law_least" "_law_least" (defArgs s__law_least) (defBody s__law_least) (defScope s__law_least) .none kV11 dc11 pm11 an11 (.ref c11) ct11), sl11⟩) (e11 : PySem.W.codeIn K (.ref c11) "_law_least" = true) (k11 : PySem.W.keepIn K (.ref f11) = true)
    {f12 c12 : Addr} {od12 an12 : Option Addr} {sl12 : Array (Option Value)} {oc12 kV12 dc12 pm12 ct12 : Value}
    (a12 : PySem.W.nsIn K mainGlobals "_law_cuts" = some (some (.ref f12))) (l12 : K.lookup f12 = some ⟨oc12, od12, .func (PySem.W.fnOf "_law_cuts" "_law_cuts" (defArgs s__law_cuts) (defBody s__law_cuts) (defScope s__law_cuts) .none kV12 dc12 pm12 an12 (.ref c12) ct12), sl12⟩) (e12 : PySem.W.codeIn K (.ref c12) "_law_cuts" = true) (k12 : PySem.W.keepIn K (.ref f12) = true)
    {f13 c13 : Addr} {od13 an13 : Option Addr} {sl13 : Array (Option Value)} {oc13 kV13 dc13 pm13 ct13 : Value}
    (a13 : PySem.W.nsIn K mainGlobals "_law_depths" = some (some (.ref f13))) (l13 : K.lookup f13 = some ⟨oc13, od13, .func (PySem.W.fnOf "_law_depths" "_law_depths" (defArgs s__law_depths) (defBody s__law_depths) (defScope s__law_depths) .none kV13 dc13 pm13 an13 (.ref c13) ct13), sl13⟩) (e13 : PySem.W.codeIn K (.ref c13) "_law_depths" = true) (k13 : PySem.W.keepIn K (.ref f13) = true)
    {f14 c14 : Addr} {od14 an14 : Option Addr} {sl14 : Array (Option Value)} {oc14 kV14 dc14 pm14 ct14 : Value}
    (a14 : PySem.W.nsIn K mainGlobals "is_entry" = some (some (.ref f14))) (l14 : K.lookup f14 = some ⟨oc14, od14, .func (PySem.W.fnOf "is_entry" "is_entry" (defArgs s_is_entry) (defBody s_is_entry) (defScope s_is_entry) .none kV14 dc14 pm14 an14 (.ref c14) ct14), sl14⟩) (e14 : PySem.W.codeIn K (.ref c14) "is_entry" = true) (k14 : PySem.W.keepIn K (.ref f14) = true)
    {f15 c15 : Addr} {od15 an15 : Option Addr} {sl15 : Array (Option Value)} {oc15 kV15 dc15 pm15 ct15 : Value}
    (a15 : PySem.W.nsIn K mainGlobals "are_entries" = some (some (.ref f15))) (l15 : K.lookup f15 = some ⟨oc15, od15, .func (PySem.W.fnOf "are_entries" "are_entries" (defArgs s_are_entries) (defBody s_are_entries) (defScope s_are_entries) .none kV15 dc15 pm15 an15 (.ref c15) ct15), sl15⟩) (e15 : PySem.W.codeIn K (.ref c15) "are_entries" = true) (k15 : PySem.W.keepIn K (.ref f15) = true)
    {P15 : Addr} {dd15 : Option Addr} {vs15 : Array Value} {ls15 : Array (Option Value)} {fl15 : Str} {tf15 tg15 tt15 : Tok} {fg15 tx15 : Int} {iF15 : Bool}
    (o15 : K.lookup c15 = some ⟨.type "code", dd15, .fields vs15, ls15⟩) (h15 : vs15[11]? = some (.ref P15) ∧ vs15.getD 11 .none = .ref P15 ∧ vs15.getD 18 .none = .str fl15 tf15 ∧ vs15.getD 7 .none = .int fg15 tg15 ∧ vs15.getD 9 .none = .bool iF15 ∧ vs15.getD 10 .none = .int tx15 tt15 ∧ c15 ≠ P15) (n15 : K.lookup P15 = none) (y15 : TabOf K mg h "are_entries")
    {f16 c16 : Addr} {od16 an16 : Option Addr} {sl16 : Array (Option Value)} {oc16 kV16 dc16 pm16 ct16 : Value}
    (a16 : PySem.W.nsIn K mainGlobals "are_apart" = some (some (.ref f16))) (l16 : K.lookup f16 = some ⟨oc16, od16, .func (PySem.W.fnOf "are_apart" "are_apart" (defArgs s_are_apart) (defBody s_are_apart) (defScope s_are_apart) .none kV16 dc16 pm16 an16 (.ref c16) ct16), sl16⟩) (e16 : PySem.W.codeIn K (.ref c16) "are_apart" = true) (k16 : PySem.W.keepIn K (.ref f16) = true)
    {P16 : Addr} {dd16 : Option Addr} {vs16 : Array Value} {ls16 : Array (Option Value)} {fl16 : Str} {tf16 tg16 tt16 : Tok} {fg16 tx16 : Int} {iF16 : Bool}
    (o16 : K.lookup c16 = some ⟨.type "code", dd16, .fields vs16, ls16⟩) (h16 : vs16[11]? = some (.ref P16) ∧ vs16.getD 11 .none = .ref P16 ∧ vs16.getD 18 .none = .str fl16 tf16 ∧ vs16.getD 7 .none = .int fg16 tg16 ∧ vs16.getD 9 .none = .bool iF16 ∧ vs16.getD 10 .none = .int tx16 tt16 ∧ c16 ≠ P16) (n16 : K.lookup P16 = none) (y16 : TabOf K mg h "are_apart")
    {f17 c17 : Addr} {od17 an17 : Option Addr} {sl17 : Array (Option Value)} {oc17 kV17 dc17 pm17 ct17 : Value}
    (a17 : PySem.W.nsIn K mainGlobals "shows_label" = some (some (.ref f17))) (l17 : K.lookup f17 = some ⟨oc17, od17, .func (PySem.W.fnOf "shows_label" "shows_label" (defArgs s_shows_label) (defBody s_shows_label) (defScope s_shows_label) .none kV17 dc17 pm17 an17 (.ref c17) ct17), sl17⟩) (e17 : PySem.W.codeIn K (.ref c17) "shows_label" = true) (k17 : PySem.W.keepIn K (.ref f17) = true)
    {P17 : Addr} {dd17 : Option Addr} {vs17 : Array Value} {ls17 : Array (Option Value)} {fl17 : Str} {tf17 tg17 tt17 : Tok} {fg17 tx17 : Int} {iF17 : Bool}
    (o17 : K.lookup c17 = some ⟨.type "code", dd17, .fields vs17, ls17⟩) (h17 : vs17[11]? = some (.ref P17) ∧ vs17.getD 11 .none = .ref P17 ∧ vs17.getD 18 .none = .str fl17 tf17 ∧ vs17.getD 7 .none = .int fg17 tg17 ∧ vs17.getD 9 .none = .bool iF17 ∧ vs17.getD 10 .none = .int tx17 tt17 ∧ c17 ≠ P17) (n17 : K.lookup P17 = none) (y17 : TabOf K mg h "shows_label")
    {f18 c18 : Addr} {od18 an18 : Option Addr} {sl18 : Array (Option Value)} {oc18 kV18 dc18 pm18 ct18 : Value}
    (a18 : PySem.W.nsIn K mainGlobals "depth_paper_holds" = some (some (.ref f18))) (l18 : K.lookup f18 = some ⟨oc18, od18, .func (PySem.W.fnOf "depth_paper_holds" "depth_paper_holds" (defArgs s_depth_paper_holds) (defBody s_depth_paper_holds) (defScope s_depth_paper_holds) .none kV18 dc18 pm18 an18 (.ref c18) ct18), sl18⟩) (e18 : PySem.W.codeIn K (.ref c18) "depth_paper_holds" = true) (k18 : PySem.W.keepIn K (.ref f18) = true)
    {P18 : Addr} {dd18 : Option Addr} {vs18 : Array Value} {ls18 : Array (Option Value)} {fl18 : Str} {tf18 tg18 tt18 : Tok} {fg18 tx18 : Int} {iF18 : Bool}
    (o18 : K.lookup c18 = some ⟨.type "code", dd18, .fields vs18, ls18⟩) (h18 : vs18[11]? = some (.ref P18) ∧ vs18.getD 11 .none = .ref P18 ∧ vs18.getD 18 .none = .str fl18 tf18 ∧ vs18.getD 7 .none = .int fg18 tg18 ∧ vs18.getD 9 .none = .bool iF18 ∧ vs18.getD 10 .none = .int tx18 tt18 ∧ c18 ≠ P18) (n18 : K.lookup P18 = none) (y18 : TabOf K mg h "depth_paper_holds")
    {f19 c19 : Addr} {od19 an19 : Option Addr} {sl19 : Array (Option Value)} {oc19 kV19 dc19 pm19 ct19 : Value}
    (a19 : PySem.W.nsIn K mainGlobals "_law_is_way" = some (some (.ref f19))) (l19 : K.lookup f19 = some ⟨oc19, od19, .func (PySem.W.fnOf "_law_is_way" "_law_is_way" (defArgs s__law_is_way) (defBody s__law_is_way) (defScope s__law_is_way) .none kV19 dc19 pm19 an19 (.ref c19) ct19), sl19⟩) (e19 : PySem.W.codeIn K (.ref c19) "_law_is_way" = true) (k19 : PySem.W.keepIn K (.ref f19) = true)
    {f20 c20 : Addr} {od20 an20 : Option Addr} {sl20 : Array (Option Value)} {oc20 kV20 dc20 pm20 ct20 : Value}
    (a20 : PySem.W.nsIn K mainGlobals "_law_is_entry" = some (some (.ref f20))) (l20 : K.lookup f20 = some ⟨oc20, od20, .func (PySem.W.fnOf "_law_is_entry" "_law_is_entry" (defArgs s__law_is_entry) (defBody s__law_is_entry) (defScope s__law_is_entry) .none kV20 dc20 pm20 an20 (.ref c20) ct20), sl20⟩) (e20 : PySem.W.codeIn K (.ref c20) "_law_is_entry" = true) (k20 : PySem.W.keepIn K (.ref f20) = true)
    {f21 c21 : Addr} {od21 an21 : Option Addr} {sl21 : Array (Option Value)} {oc21 kV21 dc21 pm21 ct21 : Value}
    (a21 : PySem.W.nsIn K mainGlobals "_law_is_paper" = some (some (.ref f21))) (l21 : K.lookup f21 = some ⟨oc21, od21, .func (PySem.W.fnOf "_law_is_paper" "_law_is_paper" (defArgs s__law_is_paper) (defBody s__law_is_paper) (defScope s__law_is_paper) .none kV21 dc21 pm21 an21 (.ref c21) ct21), sl21⟩) (e21 : PySem.W.codeIn K (.ref c21) "_law_is_paper" = true) (k21 : PySem.W.keepIn K (.ref f21) = true)
    {f22 c22 : Addr} {od22 an22 : Option Addr} {sl22 : Array (Option Value)} {oc22 kV22 dc22 pm22 ct22 : Value}
    (a22 : PySem.W.nsIn K mainGlobals "_law_all_ways" = some (some (.ref f22))) (l22 : K.lookup f22 = some ⟨oc22, od22, .func (PySem.W.fnOf "_law_all_ways" "_law_all_ways" (defArgs s__law_all_ways) (defBody s__law_all_ways) (defScope s__law_all_ways) .none kV22 dc22 pm22 an22 (.ref c22) ct22), sl22⟩) (e22 : PySem.W.codeIn K (.ref c22) "_law_all_ways" = true) (k22 : PySem.W.keepIn K (.ref f22) = true)
    {f23 c23 : Addr} {od23 an23 : Option Addr} {sl23 : Array (Option Value)} {oc23 kV23 dc23 pm23 ct23 : Value}
    (a23 : PySem.W.nsIn K mainGlobals "_law_meet" = some (some (.ref f23))) (l23 : K.lookup f23 = some ⟨oc23, od23, .func (PySem.W.fnOf "_law_meet" "_law_meet" (defArgs s__law_meet) (defBody s__law_meet) (defScope s__law_meet) .none kV23 dc23 pm23 an23 (.ref c23) ct23), sl23⟩) (e23 : PySem.W.codeIn K (.ref c23) "_law_meet" = true) (k23 : PySem.W.keepIn K (.ref f23) = true)
    {f24 c24 : Addr} {od24 an24 : Option Addr} {sl24 : Array (Option Value)} {oc24 kV24 dc24 pm24 ct24 : Value}
    (a24 : PySem.W.nsIn K mainGlobals "_law_picked" = some (some (.ref f24))) (l24 : K.lookup f24 = some ⟨oc24, od24, .func (PySem.W.fnOf "_law_picked" "_law_picked" (defArgs s__law_picked) (defBody s__law_picked) (defScope s__law_picked) .none kV24 dc24 pm24 an24 (.ref c24) ct24), sl24⟩) (e24 : PySem.W.codeIn K (.ref c24) "_law_picked" = true) (k24 : PySem.W.keepIn K (.ref f24) = true)
    {f25 c25 : Addr} {od25 an25 : Option Addr} {sl25 : Array (Option Value)} {oc25 kV25 dc25 pm25 ct25 : Value}
    (a25 : PySem.W.nsIn K mainGlobals "_law_hand" = some (some (.ref f25))) (l25 : K.lookup f25 = some ⟨oc25, od25, .func (PySem.W.fnOf "_law_hand" "_law_hand" (defArgs s__law_hand) (defBody s__law_hand) (defScope s__law_hand) .none kV25 dc25 pm25 an25 (.ref c25) ct25), sl25⟩) (e25 : PySem.W.codeIn K (.ref c25) "_law_hand" = true) (k25 : PySem.W.keepIn K (.ref f25) = true)
    {f26 c26 : Addr} {od26 an26 : Option Addr} {sl26 : Array (Option Value)} {oc26 kV26 dc26 pm26 ct26 : Value}
    (a26 : PySem.W.nsIn K mainGlobals "_law_right" = some (some (.ref f26))) (l26 : K.lookup f26 = some ⟨oc26, od26, .func (PySem.W.fnOf "_law_right" "_law_right" (defArgs s__law_right) (defBody s__law_right) (defScope s__law_right) .none kV26 dc26 pm26 an26 (.ref c26) ct26), sl26⟩) (e26 : PySem.W.codeIn K (.ref c26) "_law_right" = true) (k26 : PySem.W.keepIn K (.ref f26) = true)
    {f27 c27 : Addr} {od27 an27 : Option Addr} {sl27 : Array (Option Value)} {oc27 kV27 dc27 pm27 ct27 : Value}
    (a27 : PySem.W.nsIn K mainGlobals "law" = some (some (.ref f27))) (l27 : K.lookup f27 = some ⟨oc27, od27, .func (PySem.W.fnOf "law" "law" (defArgs s_law) (defBody s_law) (defScope s_law) .none kV27 dc27 pm27 an27 (.ref c27) ct27), sl27⟩) (e27 : PySem.W.codeIn K (.ref c27) "law" = true) (k27 : PySem.W.keepIn K (.ref f27) = true)
    (z_all : PySem.W.nsIn K mainGlobals "all" = some none) (z_any : PySem.W.nsIn K mainGlobals "any" = some none) (z_bool : PySem.W.nsIn K mainGlobals "bool" = some none) (z_enumerate : PySem.W.nsIn K mainGlobals "enumerate" = some none) (z_int : PySem.W.nsIn K mainGlobals "int" = some none) (z_isinstance : PySem.W.nsIn K mainGlobals "isinstance" = some none) (z_len : PySem.W.nsIn K mainGlobals "len" = some none) (z_list : PySem.W.nsIn K mainGlobals "list" = some none) (z_max : PySem.W.nsIn K mainGlobals "max" = some none) (z_min : PySem.W.nsIn K mainGlobals "min" = some none) (z_range : PySem.W.nsIn K mainGlobals "range" = some none) (z_set : PySem.W.nsIn K mainGlobals "set" = some none) (z_sorted : PySem.W.nsIn K mainGlobals "sorted" = some none) (z_sum : PySem.W.nsIn K mainGlobals "sum" = some none) (z_tuple : PySem.W.nsIn K mainGlobals "tuple" = some none) (z_zip : PySem.W.nsIn K mainGlobals "zip" = some none) : LamX.LawAtS l w K L2.CX0 10 63 "_law_script" mg fa h := by
  have e := hfa.symm.trans (PySem.W.mg_of X G a27)
  cases e
  have D_is_whole : Dfn K mg "is_whole" s_is_whole f0 c0 := ⟨⟨_, _, _, _, _, _, _, _, l0⟩, e0, k0, PySem.W.mg_of X G a0⟩
  have D_is_below : Dfn K mg "is_below" s_is_below f1 c1 := ⟨⟨_, _, _, _, _, _, _, _, l1⟩, e1, k1, PySem.W.mg_of X G a1⟩
  have D_wires_in : Dfn K mg "wires_in" s_wires_in f2 c2 := ⟨⟨_, _, _, _, _, _, _, _, l2⟩, e2, k2, PySem.W.mg_of X G a2⟩
  have D_places : Dfn K mg "places" s_places f3 c3 := ⟨⟨_, _, _, _, _, _, _, _, l3⟩, e3, k3, PySem.W.mg_of X G a3⟩
  have D_is_step : Dfn K mg "is_step" s_is_step f4 c4 := ⟨⟨_, _, _, _, _, _, _, _, l4⟩, e4, k4, PySem.W.mg_of X G a4⟩
  have D_is_way : Dfn K mg "is_way" s_is_way f5 c5 := ⟨⟨_, _, _, _, _, _, _, _, l5⟩, e5, k5, PySem.W.mg_of X G a5⟩
  have D__law_deck : Dfn K mg "_law_deck" s__law_deck f6 c6 := ⟨⟨_, _, _, _, _, _, _, _, l6⟩, e6, k6, PySem.W.mg_of X G a6⟩
  have D__law_draw : Dfn K mg "_law_draw" s__law_draw f7 c7 := ⟨⟨_, _, _, _, _, _, _, _, l7⟩, e7, k7, PySem.W.mg_of X G a7⟩
  have D__law_gate : Dfn K mg "_law_gate" s__law_gate f8 c8 := ⟨⟨_, _, _, _, _, _, _, _, l8⟩, e8, k8, PySem.W.mg_of X G a8⟩
  have D__law_net : Dfn K mg "_law_net" s__law_net f9 c9 := ⟨⟨_, _, _, _, _, _, _, _, l9⟩, e9, k9, PySem.W.mg_of X G a9⟩
  have D__law_held : Dfn K mg "_law_held" s__law_held f10 c10 := ⟨⟨_, _, _, _, _, _, _, _, l10⟩, e10, k10, PySem.W.mg_of X G a10⟩
  have D__law_least : Dfn K mg "_law_least" s__law_least f11 c11 := ⟨⟨_, _, _, _, _, _, _, _, l11⟩, e11, k11, PySem.W.mg_of X G a11⟩
  have D__law_cuts : Dfn K mg "_law_cuts" s__law_cuts f12 c12 := ⟨⟨_, _, _, _, _, _, _, _, l12⟩, e12, k12, PySem.W.mg_of X G a12⟩
  have D__law_depths : Dfn K mg "_law_depths" s__law_depths f13 c13 := ⟨⟨_, _, _, _, _, _, _, _, l13⟩, e13, k13, PySem.W.mg_of X G a13⟩
  have D_is_entry : Dfn K mg "is_entry" s_is_entry f14 c14 := ⟨⟨_, _, _, _, _, _, _, _, l14⟩, e14, k14, PySem.W.mg_of X G a14⟩
  have D_are_entries : Dfn K mg "are_entries" s_are_entries f15 c15 := ⟨⟨_, _, _, _, _, _, _, _, l15⟩, e15, k15, PySem.W.mg_of X G a15⟩
  have D_are_apart : Dfn K mg "are_apart" s_are_apart f16 c16 := ⟨⟨_, _, _, _, _, _, _, _, l16⟩, e16, k16, PySem.W.mg_of X G a16⟩
  have D_shows_label : Dfn K mg "shows_label" s_shows_label f17 c17 := ⟨⟨_, _, _, _, _, _, _, _, l17⟩, e17, k17, PySem.W.mg_of X G a17⟩
  have D_depth_paper_holds : Dfn K mg "depth_paper_holds" s_depth_paper_holds f18 c18 := ⟨⟨_, _, _, _, _, _, _, _, l18⟩, e18, k18, PySem.W.mg_of X G a18⟩
  have D__law_is_way : Dfn K mg "_law_is_way" s__law_is_way f19 c19 := ⟨⟨_, _, _, _, _, _, _, _, l19⟩, e19, k19, PySem.W.mg_of X G a19⟩
  have D__law_is_entry : Dfn K mg "_law_is_entry" s__law_is_entry f20 c20 := ⟨⟨_, _, _, _, _, _, _, _, l20⟩, e20, k20, PySem.W.mg_of X G a20⟩
  have D__law_is_paper : Dfn K mg "_law_is_paper" s__law_is_paper f21 c21 := ⟨⟨_, _, _, _, _, _, _, _, l21⟩, e21, k21, PySem.W.mg_of X G a21⟩
  have D__law_all_ways : Dfn K mg "_law_all_ways" s__law_all_ways f22 c22 := ⟨⟨_, _, _, _, _, _, _, _, l22⟩, e22, k22, PySem.W.mg_of X G a22⟩
  have D__law_meet : Dfn K mg "_law_meet" s__law_meet f23 c23 := ⟨⟨_, _, _, _, _, _, _, _, l23⟩, e23, k23, PySem.W.mg_of X G a23⟩
  have D__law_picked : Dfn K mg "_law_picked" s__law_picked f24 c24 := ⟨⟨_, _, _, _, _, _, _, _, l24⟩, e24, k24, PySem.W.mg_of X G a24⟩
  have D__law_hand : Dfn K mg "_law_hand" s__law_hand f25 c25 := ⟨⟨_, _, _, _, _, _, _, _, l25⟩, e25, k25, PySem.W.mg_of X G a25⟩
  have D__law_right : Dfn K mg "_law_right" s__law_right f26 c26 := ⟨⟨_, _, _, _, _, _, _, _, l26⟩, e26, k26, PySem.W.mg_of X G a26⟩
  have T : Txt mg := ⟨PySem.W.mg_none_of X G z_all, PySem.W.mg_none_of X G z_any, PySem.W.mg_none_of X G z_bool, PySem.W.mg_none_of X G z_enumerate, PySem.W.mg_none_of X G z_int, PySem.W.mg_none_of X G z_isinstance, PySem.W.mg_none_of X G z_len, PySem.W.mg_none_of X G z_list, PySem.W.mg_none_of X G z_max, PySem.W.mg_none_of X G z_min, PySem.W.mg_none_of X G z_range, PySem.W.mg_none_of X G z_set, PySem.W.mg_none_of X G z_sorted, PySem.W.mg_none_of X G z_sum, PySem.W.mg_none_of X G z_tuple, PySem.W.mg_none_of X G z_zip⟩
  refine ⟨(PySem.W.fnOf "law" "law" (defArgs s_law) (defBody s_law) (defScope s_law) .none kV27 dc27 pm27 an27 (.ref c27) ct27), [(c5, P5), (c15, P15), (c16, P16), (c17, P17), (c18, P18)], spLaw K ([(c5, P5), (c15, P15), (c16, P16), (c17, P17), (c18, P18)].map (·.2)), ?t0, ?t1, ?t2, fun s v => .of_eq rfl, fun H a ns hl _ hH hS => ⟨a, ns, rfl, hS, hl, fun p hp => ?t3, fun _ => rfl⟩, fun base _ _ TB => ?t4⟩
  case t0 => 
    intro p hp
    simp only [List.mem_cons, List.not_mem_nil, or_false] at hp
    rcases hp with rfl | rfl | rfl | rfl | rfl
    · exact y5 f5 c5 P5 _ _ _ _ _ _ (PySem.W.mg_of X G a5) l5 rfl rfl o5 h5.1
    · exact y15 f15 c15 P15 _ _ _ _ _ _ (PySem.W.mg_of X G a15) l15 rfl rfl o15 h15.1
    · exact y16 f16 c16 P16 _ _ _ _ _ _ (PySem.W.mg_of X G a16) l16 rfl rfl o16 h16.1
    · exact y17 f17 c17 P17 _ _ _ _ _ _ (PySem.W.mg_of X G a17) l17 rfl rfl o17 h17.1
    · exact y18 f18 c18 P18 _ _ _ _ _ _ (PySem.W.mg_of X G a18) l18 rfl rfl o18 h18.1
  case t1 => 
    intro p hp
    simp only [List.mem_cons, List.not_mem_nil, or_false] at hp
    rcases hp with rfl | rfl | rfl | rfl | rfl
    · exact n5
    · exact n15
    · exact n16
    · exact n17
    · exact n18
  case t2 => 
    intro p hp
    simp only [List.mem_cons, List.not_mem_nil, or_false] at hp
    rcases hp with rfl | rfl | rfl | rfl | rfl
    · exact codeHd_of X o5 h5
    · exact codeHd_of X o15 h15
    · exact codeHd_of X o16 h16
    · exact codeHd_of X o17 h17
    · exact codeHd_of X o18 h18
  case t3 =>
    obtain ⟨pr, hpr, rfl⟩ := List.mem_map.mp hp
    exact ⟨#[], hH pr hpr, trivial⟩
  case t4 =>
    have c__law_deck := ok_deck (P := l.prog) (w := w) (base := base) D__law_deck T
    have c__law_draw := ok_draw (P := l.prog) (w := w) (base := base) D__law_draw T
    have c__law_gate := ok_gate (P := l.prog) (w := w) (base := base) D__law_gate T c__law_draw
    have c__law_net := ok_net (P := l.prog) (w := w) (base := base) D__law_net T c__law_draw c__law_gate
    have c__law_held := ok_held (P := l.prog) (w := w) (base := base) D__law_held T
    have c__law_least := ok_leastD (P := l.prog) (w := w) (base := base) D__law_least T c__law_held
    have c__law_cuts := ok_cutsD (P := l.prog) (w := w) (base := base) D__law_cuts T c__law_least
    have c__law_depths := ok_depsD (P := l.prog) (w := w) (base := base) D__law_depths T
    have c__law_all_ways := ok_allw (P := l.prog) (w := w) (base := base) D__law_all_ways T
    have c__law_meet := ok_meet (P := l.prog) (w := w) (base := base) D__law_meet T
    have c__law_picked := ok_pick (P := l.prog) (w := w) (base := base) D__law_picked T c__law_draw c__law_meet
    have c__law_hand := ok_hand (P := l.prog) (w := w) (base := base) D__law_hand T c__law_draw c__law_all_ways c__law_picked
    have c__law_is_way := ok_lway (P := l.prog) (w := w) (base := base) D__law_is_way T
    have c__law_is_entry := ok_lent (P := l.prog) (w := w) (base := base) D__law_is_entry T c__law_is_way
    have c__law_is_paper := ok_lpap (P := l.prog) (w := w) (base := base) D__law_is_paper T c__law_is_entry
    have c_is_whole := ok_whole (P := l.prog) (w := w) (base := base) D_is_whole T
    have c_is_entry := ok_entry (P := l.prog) (w := w) (base := base) D_is_entry T c_is_whole
    have c_are_entries := ok_entries (P := l.prog) (w := w) (base := base) (Ts := [(c5, P5), (c15, P15), (c16, P16), (c17, P17), (c18, P18)].map (·.2)) D_are_entries T c_is_entry (tabB_of (TB (c15, P15) (by simp))) (by simp)
    have c_is_below := ok_below (P := l.prog) (w := w) (base := base) D_is_below c_is_whole
    have c_wires_in := ok_wires (P := l.prog) (w := w) (base := base) D_wires_in T
    have c_places := ok_places (P := l.prog) (w := w) (base := base) D_places
    have c_is_step := ok_step (P := l.prog) (w := w) (base := base) D_is_step c_places
    have c_is_way := ok_iswayT (P := l.prog) (w := w) (base := base) (Ts := [(c5, P5), (c15, P15), (c16, P16), (c17, P17), (c18, P18)].map (·.2)) D_is_way T c_is_below c_wires_in c_is_step (tabB_of (TB (c5, P5) (by simp))) (by simp)
    have c_are_apart := ok_apart (P := l.prog) (w := w) (base := base) (Ts := [(c5, P5), (c15, P15), (c16, P16), (c17, P17), (c18, P18)].map (·.2)) D_are_apart T (tabB_of (TB (c16, P16) (by simp))) (by simp)
    have c_shows_label := ok_shows (P := l.prog) (w := w) (base := base) (Ts := [(c5, P5), (c15, P15), (c16, P16), (c17, P17), (c18, P18)].map (·.2)) D_shows_label T c_is_way c_are_apart (tabB_of (TB (c17, P17) (by simp))) (by simp)
    have c_depth_paper_holds := ok_paper (P := l.prog) (w := w) (base := base) (Ts := [(c5, P5), (c15, P15), (c16, P16), (c17, P17), (c18, P18)].map (·.2)) D_depth_paper_holds T c_are_entries c_shows_label (tabB_of (TB (c18, P18) (by simp))) (by simp)
    have c__law_right := ok_right24 (P := l.prog) (w := w) (base := base) (Ts := [(c5, P5), (c15, P15), (c16, P16), (c17, P17), (c18, P18)].map (·.2)) D__law_right T c__law_cuts c__law_depths c__law_hand c__law_is_paper c_depth_paper_holds
    exact ok_law l27 e27 T c__law_deck c__law_draw c__law_net c__law_right
end K24
open PySem PySem.W PyProof.Rows
set_option maxRecDepth 100000 in
set_option maxHeartbeats 0 in
theorem PySem.Challenge.cw_tablecover_k24_papers_of_depths_by_any_h_holds : PySem.Challenge.rw_tablecover_k24_papers_of_depths_by_any_h.Holds := by
  w_on; o_law; k_head; (case hw => w_witness2)
  k_fill
  refine GX.walk_defs (l := PySem.Challenge.rw_tablecover_k24_papers_of_depths_by_any_h) (n := 63) (k := 10) (x := "_law_script") (CX := fun _ => L2.CX0) rfl (by decide) rfl ⟨rfl, by decide, by decide⟩ (fun w h Y => PySem.W.kIn_of Y) ?F (fun _ _ _ _ _ h => h)
  case F =>
    intro w mg fa h Y KX G hmg TF
    refine' K24.all_mk KX G hmg ?a0 ?l0 ?e0 ?k0 ?a1 ?l1 ?e1 ?k1 ?a2 ?l2 ?e2 ?k2 ?a3 ?l3 ?e3 ?k3 ?a4 ?l4 ?e4 ?k4 ?a5 ?l5 ?e5 ?k5 ?o5 ?h5 ?n5 ?y5 ?a6 ?l6 ?e6 ?k6 ?a7 ?l7 ?e7 ?k7 ?a8 ?l8 ?e8 ?k8 ?a9 ?l9 ?e9 ?k9 ?a10 ?l10 ?e10 ?k10 ?a11 ?l11 ?e11 ?k11 ?a12 ?l12 ?e12 ?k12 ?a13 ?l13 ?e13 ?k13 ?a14 ?l14 ?e14 ?k14 ?a15 ?l15 ?e15 ?k15 ?o15 ?h15 ?n15 ?y15 ?a16 ?l16 ?e16 ?k16 ?o16 ?h16 ?n16 ?y16 ?a17 ?l17 ?e17 ?k17 ?o17 ?h17 ?n17 ?y17 ?a18 ?l18 ?e18 ?k18 ?o18 ?h18 ?n18 ?y18 ?a19 ?l19 ?e19 ?k19 ?a20 ?l20 ?e20 ?k20 ?a21 ?l21 ?e21 ?k21 ?a22 ?l22 ?e22 ?k22 ?a23 ?l23 ?e23 ?k23 ?a24 ?l24 ?e24 ?k24 ?a25 ?l25 ?e25 ?k25 ?a26 ?l26 ?e26 ?k26 ?a27 ?l27 ?e27 ?k27 ?z_all ?z_any ?z_bool ?z_enumerate ?z_int ?z_isinstance ?z_len ?z_list ?z_max ?z_min ?z_range ?z_set ?z_sorted ?z_sum ?z_tuple ?z_zip
    (case a0 => k_is)
    (case l0 => k_is)
    (case e0 => k_is)
    (case k0 => k_is)
    (case a1 => k_is)
    (case l1 => k_is)
    (case e1 => k_is)
    (case k1 => k_is)
    (case a2 => k_is)
    (case l2 => k_is)
    (case e2 => k_is)
    (case k2 => k_is)
    (case a3 => k_is)
    (case l3 => k_is)
    (case e3 => k_is)
    (case k3 => k_is)
    (case a4 => k_is)
    (case l4 => k_is)
    (case e4 => k_is)
    (case k4 => k_is)
    (case a5 => k_is)
    (case l5 => k_is)
    (case e5 => k_is)
    (case k5 => k_is)
    (case o5 => k_is)
    (case h5 => exact ⟨rfl, rfl, rfl, rfl, rfl, rfl, by decide⟩)
    (case n5 => rfl)
    (case y5 => exact TF _ (by decide +kernel))
    (case a6 => k_is)
    (case l6 => k_is)
    (case e6 => k_is)
    (case k6 => k_is)
    (case a7 => k_is)
    (case l7 => k_is)
    (case e7 => k_is)
    (case k7 => k_is)
    (case a8 => k_is)
    (case l8 => k_is)
    (case e8 => k_is)
    (case k8 => k_is)
    (case a9 => k_is)
    (case l9 => k_is)
    (case e9 => k_is)
    (case k9 => k_is)
    (case a10 => k_is)
    (case l10 => k_is)
    (case e10 => k_is)
    (case k10 => k_is)
    (case a11 => k_is)
    (case l11 => k_is)
    (case e11 => k_is)
    (case k11 => k_is)
    (case a12 => k_is)
    (case l12 => k_is)
    (case e12 => k_is)
    (case k12 => k_is)
    (case a13 => k_is)
    (case l13 => k_is)
    (case e13 => k_is)
    (case k13 => k_is)
    (case a14 => k_is)
    (case l14 => k_is)
    (case e14 => k_is)
    (case k14 => k_is)
    (case a15 => k_is)
    (case l15 => k_is)
    (case e15 => k_is)
    (case k15 => k_is)
    (case o15 => k_is)
    (case h15 => exact ⟨rfl, rfl, rfl, rfl, rfl, rfl, by decide⟩)
    (case n15 => rfl)
    (case y15 => exact TF _ (by decide +kernel))
    (case a16 => k_is)
    (case l16 => k_is)
    (case e16 => k_is)
    (case k16 => k_is)
    (case o16 => k_is)
    (case h16 => exact ⟨rfl, rfl, rfl, rfl, rfl, rfl, by decide⟩)
    (case n16 => rfl)
    (case y16 => exact TF _ (by decide +kernel))
    (case a17 => k_is)
    (case l17 => k_is)
    (case e17 => k_is)
    (case k17 => k_is)
    (case o17 => k_is)
    (case h17 => exact ⟨rfl, rfl, rfl, rfl, rfl, rfl, by decide⟩)
    (case n17 => rfl)
    (case y17 => exact TF _ (by decide +kernel))
    (case a18 => k_is)
    (case l18 => k_is)
    (case e18 => k_is)
    (case k18 => k_is)
    (case o18 => k_is)
    (case h18 => exact ⟨rfl, rfl, rfl, rfl, rfl, rfl, by decide⟩)
    (case n18 => rfl)
    (case y18 => exact TF _ (by decide +kernel))
    (case a19 => k_is)
    (case l19 => k_is)
    (case e19 => k_is)
    (case k19 => k_is)
    (case a20 => k_is)
    (case l20 => k_is)
    (case e20 => k_is)
    (case k20 => k_is)
    (case a21 => k_is)
    (case l21 => k_is)
    (case e21 => k_is)
    (case k21 => k_is)
    (case a22 => k_is)
    (case l22 => k_is)
    (case e22 => k_is)
    (case k22 => k_is)
    (case a23 => k_is)
    (case l23 => k_is)
    (case e23 => k_is)
    (case k23 => k_is)
    (case a24 => k_is)
    (case l24 => k_is)
    (case e24 => k_is)
    (case k24 => k_is)
    (case a25 => k_is)
    (case l25 => k_is)
    (case e25 => k_is)
    (case k25 => k_is)
    (case a26 => k_is)
    (case l26 => k_is)
    (case e26 => k_is)
    (case k26 => k_is)
    (case a27 => k_is)
    (case l27 => k_is)
    (case e27 => k_is)
    (case k27 => k_is)
    (case z_all => k_is)
    (case z_any => k_is)
    (case z_bool => k_is)
    (case z_enumerate => k_is)
    (case z_int => k_is)
    (case z_isinstance => k_is)
    (case z_len => k_is)
    (case z_list => k_is)
    (case z_max => k_is)
    (case z_min => k_is)
    (case z_range => k_is)
    (case z_set => k_is)
    (case z_sorted => k_is)
    (case z_sum => k_is)
    (case z_tuple => k_is)
    (case z_zip => k_is)
