import PyProof.Rows.All
import Wide.All
import OpenK.AllK
import Wide.FinOn
import HandS.ForMost
import HandS.AnyAll
import HandS.GenList
import PyProof.TupleOfGen
import HandS.Walk
import HandS.Codes
import HandS.TupAny
import HandS.IsInst
import HandS.EndTab
import HandS.Wide
import HandS.Conv
import KE.GoesMore
import PyProof.EnumMake
import HandS.Style
import HandS.TupMul
import HandS.SetFor
import HandS.Strs
import HandS.Zip
import HandS.NamedTupSort
import HandS.TupSets
import KE.BitLaws
import KE.IntBitsLaws
import HandS.WideBits
import HandS.Rev
import HandS.RevRange
import HandS.Dict
import KE.KIndexOf
import KE.KDictPairs
import HandS.Flow
import HandS.Lambda
import KE.KMinKey
import HandS.TupLe
import HandS.DictComp
import HandS.Comp
import HandS.DictTup
import PyProof.EqKinds
import HandS.DictEq
import HandS.Iter
import HandS.SortInts
import HandS.More
import PySem.Challenge.RW_tablecover_k57_great_nets_eased
set_option Elab.async false
set_option linter.all false
set_option maxRecDepth 100000
set_option maxHeartbeats 4000000
/-! Generator expressions as arguments of all, any, tuple, over the hand layer: the element may call, make objects, hold further generator expressions. -/
namespace GX
open PySem PySem.Spec PyProof.Rows L2 GenW
/-- the frame of a generator expression made in the state s; A0: what runs around it while it runs -/
abbrev gcx (X : Cx) (A0 : Around) (s : Shared) (H : Hp) (scope : Scope) (code : Value) (fp : List Addr) : Cx :=
  { X with
    A := A0.deeper (genEnv scope (cloFrom X.env.cells scope.names []) s.heap.objs.size code builtinsNs X.env)
    s_0 := s
    H_0 := H
    env := genEnv scope (cloFrom X.env.cells scope.names []) s.heap.objs.size code builtinsNs X.env
    outer := X.stack
    stack := genEnv scope (cloFrom X.env.cells scope.names []) s.heap.objs.size code builtinsNs X.env :: X.stack
    ex := fp
    fn := fun _ => false
    calm := true
    pn := []
    xe := fun _ _ => False }
/-- the names of the generator expression's scope -/
structure GxOk (N : List Str) (sc scope : Scope) (own : List (Str × Nat)) : Prop where
  blk : BlkOk N sc scope own
  co : scope.isCoroutine = false
  cell : ∀ y ∈ scope.names, y.2 ≠ .cell
  dot : scope.names.lookup (".0" : Str) = some NameKind.local
section
variable {X : Cx} {pins : List (Addr × Obj)} {σ : L2.St} {H : Hp} {s : Shared}
theorem gen_start {A0 : Around} {scope : Scope} {own : List (Str × Nat)} {fp : List Addr} {code : Value} {h5 : Heap} {g5 : Array GenState} {t5 : Nat} {m : Str → Option Value}
    (I : Inv X pins σ H s) (ok : GxOk X.N X.env.scope scope own) (hN : X.N.Nodup) (hfp : ∀ b ∈ fp, FpOk X pins H b ∧ b < s.heap.objs.size)
    (hh : A0.handled = none) (hfr : A0.frames = some X.stack)
    (hn : h5.Ns s.heap.objs.size m) (kp : ∀ b o, s.heap.get? b = some o → h5.get? b = some o) (hg : AllBare g5) :
    Inv (gcx X A0 s H scope code fp) [] (wipe σ (own.map (·.2))) H { s with heap := h5, gens := g5, toks := t5 } := by
  have hfree : ∀ y ∈ scope.names, y.2 = .free → ∃ c, X.env.cells.lookup y.1 = some c := fun y hy e => by
    rcases ok.blk.free y hy e with k | k
    · exact I.ok.has _ (.inl k)
    · exact I.ok.has _ (.inr k)
  have cm : ∀ {y c}, (cloFrom X.env.cells scope.names []).lookup y = some c → X.env.cells.lookup y = some c ∧ c < s.heap.objs.size ∧ scope.names.lookup y = some .free := fun {y c} hl => by
    rcases cloFrom_mem (PySem.mem_of_lookup hl) with hm | ⟨h1, rfl⟩
    · cases hm
    · obtain ⟨c, hc⟩ := hfree _ h1 rfl
      rw [hc]
      obtain ⟨w, z⟩ := I.cell _ _ hc
      exact ⟨rfl, z.lt, ok.blk.uniq _ h1⟩
  have look : ∀ {y}, scope.names.lookup y = some .free → ∃ c, (cloFrom X.env.cells scope.names []).lookup y = some c ∧ X.env.cells.lookup y = some c := fun {y} hl => by
    have hy : (y, NameKind.free) ∈ scope.names := PySem.mem_of_lookup hl
    obtain ⟨c', e'⟩ := mem_lookup (cloFrom_has (cells := X.env.cells) (acc := []) hy)
    exact ⟨c', e', (cm e').1⟩
  have okB : (gcx X A0 s H scope code fp).Ok := by
    refine ⟨I.ok.mod, ok.blk.kind, I.ok.glob, rfl, Nat.le_refl _, fun y z c e1 e2 => ?_, fun y hy => ?_, fun y c z e => (by cases z), fun _ => hh, Around.frames_deeper hfr, .inr ⟨rfl, rfl⟩,
      fun b hb => ⟨Nat.ne_of_lt (hfp b hb).2, fun y c e z => ?_⟩, I.bs, Nat.le_trans I.ok.bsz I.sz, fun b o e hb => ?_, fun b hb z => ?_, I.stack, I.stkFree⟩
    · exact I.ok.inj y z c (cm e1).1 (cm e2).1
    · rcases hy with hy | hy
      · exact absurd rfl (ok.cell _ (PySem.mem_of_lookup hy))
      · obtain ⟨c, h1, _⟩ := look hy
        exact ⟨c, h1⟩
    · exact (hfp b hb).1.2.2.2.2.1 y c (cm e).1 z
    · rcases (hfp b hb).1.2.2.2.1 with z | z
      · exact I.ok.noex b o e z
      · exact absurd (Nat.lt_of_lt_of_le (Heap.lt_size e) (Nat.le_trans I.ok.bsz z)) (Nat.lt_irrefl _)
    · rcases List.mem_cons.mp (I.stkSub b z) with z | z
      · exact (hfp b hb).1.2.1 z
      · exact (hfp b hb).1.2.2.1 z
  refine ⟨okB, rfl, hg, Un.kept kp, ⟨m, hn, fun i y av e1 e2 e3 => ?_⟩, fun y c e => ?_, I.hok.fresh (Nat.le_refl _), fun y c e => I.freeC y c (cm e).1, fun p hp => absurd (show p ∈ ([] : List (Addr × Obj)) ++ [] from hp) (by simp), I.hok.kept kp, by rw [wipe_length]; exact I.len⟩
  · obtain ⟨e2, hne⟩ := wipe_some e2
    have no : ∀ k, scope.names.lookup y = some k → ¬ (k = .local ∨ k = .cell) := fun k e hh => by
      rcases ok.blk.own _ (PySem.mem_of_lookup e) hh with e' | e'
      · obtain ⟨p, hp, hpy⟩ := List.mem_map.mp e'
        have e3 := ok.blk.ix p hp
        have : p.1 = y := hpy
        rw [this] at e3
        exact hne (List.mem_map.mpr ⟨p, hp, nodup_ix hN e3 e1⟩)
      · exact e' (List.mem_of_getElem? e1)
    have hfr : scope.names.lookup y = some .free := by
      rcases e3 with e3 | e3 | e3
      · exact absurd (.inl rfl) (no _ e3)
      · exact absurd (.inr rfl) (no _ e3)
      · exact e3
    obtain ⟨m', hn', hl⟩ := I.loc
    have hvis : Vis X.env.scope y := (ok.blk.free _ (PySem.mem_of_lookup hfr) rfl).elim (fun k => .inr (.inl k)) (fun k => .inr (.inr k))
    obtain ⟨w, r, q⟩ := hl i y av e1 e2 hvis
    refine ⟨w, r, .inr ⟨.inr hfr, ?_⟩⟩
    obtain ⟨c, h1, h2⟩ := look hfr
    rcases q with ⟨k, _⟩ | ⟨_, c', e', z⟩
    · have k : X.env.scope.names.lookup y = some .local := k
      rcases ok.blk.free _ (PySem.mem_of_lookup hfr) rfl with k' | k' <;> rw [show X.env.scope.names.lookup y = _ from k'] at k <;> cases k
    · rw [h2] at e'; cases e'
      exact ⟨c, h1, z.keeps kp⟩
  · obtain ⟨w, z⟩ := I.cell y c (cm e).1
    exact ⟨w, z.keeps kp⟩
end
/-! ### asleep -/
/-- while the generator sleeps its consumer changes what stands at B alone -/
structure Slp (B : List Addr) (s s' : Shared) : Prop where
  os : s'.os = s.os
  bare : AllBare s'.gens
  keep : ∀ b o, b ∉ B → s.heap.get? b = some o → s'.heap.get? b = some o
/-- the consumer's own objects -/
structure Aprt (Y : Cx) (B fp : List Addr) (a : Addr) : Prop where
  hi : ∀ b ∈ B, Y.s_0.heap.objs.size ≤ b
  lo : ∀ b ∈ B, b ≠ Y.env.locals
  ce : ∀ b ∈ B, ∀ x c, Y.env.cells.lookup x = some c → c ≠ b
  sf : ∀ b ∈ B, b ∉ Y.fs
  bf : ∀ b ∈ B, b ∉ fp
  na : a ∉ B
  af : a ∉ fp
theorem woken {Y : Cx} {B fp : List Addr} {a : Addr} {go : Obj} {pins pins' : List (Addr × Obj)} {σ : L2.St} {H : Hp} {s s' : Shared} (hpn : Y.pn = []) (hB : Aprt Y B fp a) (I : Inv Y ((a, go) :: pins) σ H s)
    (hHB : ∀ b ∈ B, H b = none) (z : Slp B s s') (hp : ∀ p ∈ pins', p.1 ∈ B ∧ s'.heap.get? p.1 = some p.2 ∧ ∀ v, p.2.data ≠ .cell v) : Inv Y ((a, go) :: pins') σ H s' := by
  have I1 : Inv Y [(a, go)] σ H s := I.pins_of fun p hp => by
    have e : p = (a, go) := List.mem_singleton.mp hp
    rw [e]
    exact I.pin (a, go) (List.mem_append_right _ List.mem_cons_self)
  have nt : ∀ b u, H b = some u → b ∉ B := fun b u q hb => by rw [hHB b hb] at q; cases q
  obtain ⟨z1, z2, z3⟩ := z
  obtain ⟨hh, g, d, t, o⟩ := s'
  have ho : o = s.os := z1
  subst ho
  have J : Inv Y [(a, go)] σ H { s with heap := hh, gens := g, drawn := d, toks := t } := by
    refine I1.step (g' := g) (t' := t) (d' := d) (ch := B) (fun b hb => ?_)
      (fun b ob _ _ hc q _ => z3 b ob hc q) (fun b ob _ _ hc q _ => ⟨ob.slots, z3 b ob hc q⟩) (fun _ _ _ _ n => n) (fun b ob hc q => ⟨ob, z3 b ob hc q⟩)
      (fun _ _ q => q) (fun _ _ _ q => q) (fun b ps q => ⟨#[], by rw [q]; simp⟩) (fun m hm => ?_) (fun b u q => ?_) z2
    · refine ⟨.inr (hB.hi b hb), hB.lo b hb, hB.ce b hb, fun p hp => ?_⟩
      rw [hpn] at hp
      have e : p = (a, go) := by simpa using hp
      rw [e]
      intro e2
      have e3 : a = b := e2
      exact hB.na (by rw [e3]; exact hb)
    · obtain ⟨ob, es, ep, ho, r⟩ := hm
      exact ⟨ob, es, ep, z3 _ ob (fun hb => hB.lo _ hb rfl) ho, r⟩
    · refine (I1.hok b u q).stay (fun c v hc y => z3 c v ?_ y) (fun _ y => y) fun _ _ y => y
      rcases hc with y | y
      · rw [y]; exact nt b u q
      · exact nt c _ y
  refine J.pins_of fun p hp' => ?_
  rcases List.mem_cons.mp hp' with e | hp'
  · rw [e]
    exact J.pin (a, go) (List.mem_append_right _ List.mem_cons_self)
  · obtain ⟨h1, h2, h3⟩ := hp p hp'
    exact ⟨h2, hHB _ h1, hB.lo _ h1, hB.sf _ h1, h3⟩
/-! ### the turns -/
/-- what the consumer holds behind ys: Pn; what is wanted at a yield: Kx; where it goes on: Cn; at the end: Fi -/
structure Con where
  B : List Addr
  Pn : List V → List (Addr × Obj) → Prop
  Kx : List V → V → Hp → Prop
  Cn : List V → V → Prop
  Fi : List V → Hp → Prop
structure Con.Ok (C : Con) : Prop where
  pn : ∀ ys pins, C.Pn ys pins → ∀ p ∈ pins, p.1 ∈ C.B ∧ ∀ v, p.2.data ≠ .cell v
  all : ∀ ys pins, C.Pn ys pins → ∀ b ∈ C.B, ∃ o, (b, o) ∈ pins
def YG (Y : Cx) (C : Con) (a : Addr) (go : Obj) (σ0 : L2.St) : Protocol := fun n s₀ v s kap =>
  ∃ ys x pins H, RelV x v ∧ C.Pn ys pins ∧ Inv Y ((a, go) :: pins) σ0 H s ∧ C.Kx ys x H ∧
    (C.Cn ys x → ∀ s', Slp C.B s s' → (∃ pins', C.Pn (ys ++ [x]) pins' ∧ ∀ p ∈ pins', s'.heap.get? p.1 = some p.2) → kap (.send .none) s')
def RG (Y : Cx) (C : Con) (a : Addr) (go : Obj) (σ0 : L2.St) : Nat → Shared → Shared → Prop := fun n s₀ s => ∃ ys pins H, C.Pn ys pins ∧ Inv Y ((a, go) :: pins) σ0 H s ∧ C.Fi ys H
def GSt (Y : Cx) (C : Con) (fp : List Addr) (tn : Nat → Heap → Prop) (a : Addr) (go : Obj) (σ0 : L2.St) (W : Nat → Nat → List V → Hp → Prop) (i m : Nat) (ys : List V) (s : Shared) : Prop :=
  ∃ pins H, C.Pn ys pins ∧ Inv Y ((a, go) :: pins) σ0 H s ∧ tn i s.heap ∧ (∀ b ∈ fp, H b = none) ∧ W i m ys H
/-- the turns' reading -/
def Turns (J : It) (g : TG) (tt : TT) (te : TE) (vs : List Nat) (σ0 : L2.St) (C : Con) (W : Nat → Nat → List V → Hp → Prop) : Prop := ∀ i m ys H, W i m ys H →
  (J.stop i H ∧ C.Fi ys H) ∨ (J.go i H ∧ ∃ Nx : List V → Hp → Prop, (∀ ys' H', Nx ys' H' → ∃ m', m' < m ∧ W (i + 1) m' ys' H') ∧ ∀ x H', J.yld i H x H' → g x σ0 H' fun σ2 H2 => wipe σ2 vs = σ0 ∧ tt σ2 H2 fun b H3 =>
    if b = true then te σ2 H3 fun y H4 => C.Kx ys y H4 ∧ (C.Cn ys y → Nx (ys ++ [y]) H4) else Nx ys H3)
section
variable {Y : Cx} {C : Con} {A0 : Around} {elt tg iter : Expr} {ifs : List Expr} {scope : Scope} {pos : Pos} {it a : Addr} {fp : List Addr} {tn : Nat → Heap → Prop} {go : Obj} {J : It} {g : TG} {tt : TT} {te : TE} {vs : List Nat} {σ0 : L2.St} {W : Nat → Nat → List V → Hp → Prop}
theorem seg_loop (hA : A0.over (.compLoop (.GeneratorExp elt [⟨tg, iter, ifs, 0⟩] scope pos) 0 (.ref it) .none Y.env) [] = Y.A) (hc : Y.calm = true) (hx : ∀ e s, Y.xe e s → False) (hpn : Y.pn = []) (hco : Y.env.scope.isCoroutine = false)
    (CO : C.Ok) (hB : Aprt Y C.B fp a) (hst : ∀ b ∈ fp, b ≠ Y.env.locals ∧ b ∉ Y.fs ∧ (b ∈ Y.ex ∨ Y.s_0.heap.objs.size ≤ b) ∧ ∀ x c, Y.env.cells.lookup x = some c → c ≠ b)
    (T : Turn Y.prog Y.w Y.K tg J fp it tn) (hg : PG Y tg g) (ht : PTs Y ifs tt) (he : PE Y elt te) (turns : Turns J g tt te vs σ0 C W) :
    ∀ (m i n : Nat) (ys : List V) (s₀ s : Shared), m < n → GSt Y C fp tn a go σ0 W i m ys s →
      Seg (model Y.prog Y.w) A0 (fun n s₀ r s₁ => r = .ok .next ∧ RG Y C a go σ0 n s₀ s₁) (YG Y C a go σ0) n s₀
        (.compLoop (.GeneratorExp elt [⟨tg, iter, ifs, 0⟩] scope pos) 0 (.ref it) .none Y.env)
        ((model Y.prog Y.w).den (.compLoop (.GeneratorExp elt [⟨tg, iter, ifs, 0⟩] scope pos) 0 (.ref it) .none Y.env)) [] s := by
  intro m
  induction m using Nat.strongRecOn with
  | ind m ih =>
    intro i n ys s₀ s hmn ⟨pins, H, hP, I, st, fr, w⟩
    have stat : ∀ {H' : Hp}, (∀ b ∈ fp, H' b = none) → ∀ b ∈ fp, FpOk Y ((a, go) :: pins) H' b := fun hn b hb => by
      obtain ⟨h1, h2, h3, h4⟩ := hst b hb
      refine ⟨hn b hb, h1, h2, h3, h4, fun p hp => ?_⟩
      rw [hpn] at hp
      rcases List.mem_cons.mp (show p ∈ (a, go) :: pins from hp) with e | hp
      · rw [e]; intro e2; have e3 : a = b := e2; exact hB.af (by rw [e3]; exact hb)
      · intro e2; exact hB.bf _ (CO.pn _ _ hP p hp).1 (by rw [e2]; exact hb)
    obtain ⟨k, rfl⟩ : ∃ k, n = k + 1 := ⟨n - 1, by omega⟩
    show Seg _ A0 _ _ _ s₀ _ ((compTurn (.GeneratorExp elt [⟨tg, iter, ifs, 0⟩] scope pos) 0 (.ref it) .none Y.env).onRaise (leaving Y.env)) [] s
    rw [compTurn_gen, Sem.onRaise_eq_wrap]
    refine seg_bind_wrap (wpAny_standAt ?_)
    rcases turns i m ys H w with ⟨stop, q⟩ | ⟨go1, Nx, hN, step⟩
    · refine seg_bind_wrap ?_
      rw [hA]
      refine thn (T.done Y rfl rfl rfl hc i _ s σ0 H _ I (stat fr) st stop) fun r s1 ⟨hr, I1⟩ => ?_
      subst hr
      exact seg_end (.ok .next) ⟨rfl, ys, pins, H, hP, I1, q⟩
    · refine seg_bind_wrap ?_
      rw [hA]
      refine thn (T.item Y rfl rfl rfl hc i _ s σ0 H _ I (stat fr) st go1) fun r s1 ⟨u, hr, h1⟩ => ?_
      subst hr
      refine seg_bind_wrap ?_
      rw [hA]
      refine thn h1 fun _ s2 ⟨x, H2, I2, rx, y2, st2, fr2⟩ => ?_
      have I2' := I2.pinned (stat fr2) (T.obj _ _ st2)
      refine seg_bind_wrap ?_
      rw [hA]
      refine wpAny_mono (hg.run _ s2 σ0 H2 x u _ I2' rx (step x H2 y2)) (fun _ s3 ⟨σ3, H3, I3, hw, q3⟩ => ?_) (fun e s' z => (hx e s' z).elim)
      refine seg_bind_wrap ?_
      rw [hA]
      refine wpAny_mono (ht.run _ s3 σ3 H3 _ I3 q3) (fun b s4 ⟨H4, I4, q4⟩ => ?_) (fun e s' z => (hx e s' z).elim)
      have weak : ∀ {H' : Hp} {s' : Shared}, Inv Y ((a, go) :: pins ++ pinsAt fp s2.heap) σ3 H' s' → Inv Y ((a, go) :: pins ++ pinsAt fp s2.heap) σ0 H' s' := fun I' => by
        refine I'.weak (by rw [← hw, wipe_length]) fun j v e => ?_
        rw [← hw] at e
        exact (wipe_some e).1
      have tnk : ∀ {H' : Hp} {s' : Shared}, Inv Y ((a, go) :: pins ++ pinsAt fp s2.heap) σ3 H' s' → tn (i + 1) s'.heap ∧ ∀ b ∈ fp, H' b = none := fun I' => by
        refine ⟨T.keep _ _ _ st2 fun b hb o e => (I'.pin (b, o) (List.mem_append_right _ (List.mem_append_right _ (mem_pinsAt hb e)))).1, fun b hb => ?_⟩
        obtain ⟨o, e, d⟩ := T.obj _ _ st2 b hb
        exact (I'.pin (b, o) (List.mem_append_right _ (List.mem_append_right _ (mem_pinsAt hb e)))).2.1
      cases b with
      | false =>
        rw [if_neg Bool.false_ne_true] at q4
        obtain ⟨m', hm, w'⟩ := hN _ _ q4
        obtain ⟨t4, f4⟩ := tnk I4
        simp only [Bool.false_eq_true, if_false]
        exact seg_again rfl (ih m' hm (i + 1) (k + 1) ys s₀ s4 (by omega) ⟨pins, H4, hP, (weak I4).unpinned, t4, f4, w'⟩)
      | true =>
        rw [if_pos rfl] at q4
        simp only [if_true]
        have hy : ∀ v, yieldOut Y.env v = yieldValue v := fun v => by simp only [yieldOut, hco, Bool.false_eq_true, if_false]
        simp only [hy]
        rw [Sem.bind_eq_wrap', Sem.bind_eq_wrap', Sem.wrap_wrap, Sem.wrap_wrap]
        refine seg_wrap ?_
        rw [hA]
        refine wpAny_mono (he.run _ s4 σ3 H4 _ I4 q4) (fun v s5 ⟨y, H5, I5, ry, kx, nx⟩ => ?_) (fun e s' z => (hx e s' z).elim)
        obtain ⟨t5, f5⟩ := tnk I5
        have I5' := (weak I5).unpinned
        refine seg_at (seg_yield rfl rfl rfl ⟨ys, y, pins, H5, ry, hP, I5', kx, fun cn s6 z ⟨pins', hP', hp'⟩ => ?_⟩)
        obtain ⟨m', hm, w'⟩ := hN _ _ (nx cn)
        have hHB : ∀ b ∈ C.B, H5 b = none := fun b hb => by
          obtain ⟨o, ho⟩ := CO.all _ _ hP b hb
          exact (I5'.pin (b, o) (List.mem_append_right _ (List.mem_cons_of_mem _ ho))).2.1
        have I6 : Inv Y ((a, go) :: pins') σ0 H5 s6 := woken hpn hB I5' hHB z fun p hp => ⟨(CO.pn _ _ hP' p hp).1, hp' p hp, (CO.pn _ _ hP' p hp).2⟩
        refine seg_again rfl (ih m' hm (i + 1) k (ys ++ [y]) s6 s6 (by omega) ⟨pins', H5, hP', I6, T.keep _ _ _ t5 fun b hb o e => z.keep b o (fun hm => hB.bf b hm hb) e, f5, w'⟩)
end
end GX
set_option Elab.async false
set_option linter.all false
set_option maxRecDepth 100000
set_option maxHeartbeats 4000000
namespace GX
open PySem PySem.Spec PyProof.Rows L2 GenW
section
variable {Y : Cx} {C : Con} {A0 : Around} {elt tg iter : Expr} {ifs : List Expr} {scope : Scope} {pos : Pos} {it a : Addr} {fp : List Addr} {tn : Nat → Heap → Prop} {go : Obj} {J : It} {g : TG} {tt : TT} {te : TE} {vs : List Nat} {σ0 : L2.St} {W : Nat → Nat → List V → Hp → Prop}
theorem seg_start (hA : A0.over (.compLoop (.GeneratorExp elt [⟨tg, iter, ifs, 0⟩] scope pos) 0 (.ref it) .none Y.env) [] = Y.A) (hc : Y.calm = true) (hx : ∀ e s, Y.xe e s → False) (hpn : Y.pn = []) (hco : Y.env.scope.isCoroutine = false)
    (CO : C.Ok) (hB : Aprt Y C.B fp a) (hst : ∀ b ∈ fp, b ≠ Y.env.locals ∧ b ∉ Y.fs ∧ (b ∈ Y.ex ∨ Y.s_0.heap.objs.size ≤ b) ∧ ∀ x c, Y.env.cells.lookup x = some c → c ≠ b)
    (T : Turn Y.prog Y.w Y.K tg J fp it tn) (hg : PG Y tg g) (ht : PTs Y ifs tt) (he : PE Y elt te) (turns : Turns J g tt te vs σ0 C W)
    (m i n : Nat) (ys : List V) (s₀ s : Shared) (hmn : m < n) (h : GSt Y C fp tn a go σ0 W i m ys s) :
      Seg (model Y.prog Y.w) A0 (fun n s₀ r s₁ => r = .ok .next ∧ RG Y C a go σ0 n s₀ s₁) (YG Y C a go σ0) n s₀
        (.compStart (.GeneratorExp elt [⟨tg, iter, ifs, 0⟩] scope pos) 0 (.ref it) .none Y.env)
        ((model Y.prog Y.w).den (.compStart (.GeneratorExp elt [⟨tg, iter, ifs, 0⟩] scope pos) 0 (.ref it) .none Y.env)) [] s := by
  have loop := seg_loop (iter := iter) (scope := scope) (pos := pos) hA hc hx hpn hco CO hB hst T hg ht he turns m i n ys s₀ s hmn h
  obtain ⟨pins, H, hP, I, st, fr, w⟩ := h
  show Seg _ A0 _ _ _ s₀ _ ((compStart (.GeneratorExp elt [⟨tg, iter, ifs, 0⟩] scope pos) 0 (.ref it) .none Y.env).onRaise (leaving Y.env)) [] s
  unfold compStart
  rw [Sem.onRaise_eq_wrap]
  show Seg _ A0 _ _ _ s₀ _ ((ask >>= _).wrap _ _ _ _) [] s
  refine seg_bind_wrap (wpAny_askSetting ?_)
  split
  · exact seg_again rfl loop
  · first
      | exact seg_bind_wrap (wpAny_rule (seg_bind_wrap (wpAny_standAt (seg_bind_wrap (T.self _ i s _ _ st (seg_again rfl loop))))))
      | (refine seg_bind_wrap (wpAny_rule ?_); show Seg _ A0 _ _ _ s₀ _ ((standAt iter.pos >>= _).wrap _ _ _ _) [] s; exact seg_bind_wrap (wpAny_standAt (seg_bind_wrap (T.self _ i s _ _ st (seg_again rfl loop)))))
end
/-! ### the generator, as its consumer sees it -/
def Live (Y : Cx) (C : Con) (A0 : Around) (a : Addr) (go : Obj) (σ0 : L2.St) (g n : Nat) (s : Shared) : Prop :=
  s.heap.IsGen a g ∧ s.heap.NoLimit ∧ ∃ gs, s.gens[g]? = some gs ∧ gs.Goes (model Y.prog Y.w) A0 (fun n s₀ r s₁ => r = .ok .next ∧ RG Y C a go σ0 n s₀ s₁) (YG Y C a go σ0) n (.send .none) (s.setGen g .running)
theorem inv_setGen {Y : Cx} {pins : List (Addr × Obj)} {σ : L2.St} {H : Hp} {s : Shared} {g : Nat} {gs : GenState} (I : Inv Y pins σ H s) (hb : gs.bare = true) : Inv Y pins σ H (s.setGen g gs) :=
  ⟨I.ok, I.os, allBare_setGen I.bare hb, I.base, I.loc, I.cell, I.free, I.freeC, I.pin, I.hok, I.len⟩
/-- one next -/
theorem gx_next {Y : Cx} {C : Con} {A : Around} {a : Addr} {go : Obj} {σ0 : L2.St} {g n : Nat} {s : Shared} {Q : Option Value → Shared → Prop} {E : Value → Shared → Prop} (hh : A.handled = none) (hroom : A.depth < recursionLimit)
    (L : Live Y C A.in1 a go σ0 g n s) (hgo : ∀ h : Heap, h.get? a = some go → h.IsGen a g)
    (hY : ∀ ys x v pins H s₁, RelV x v → C.Pn ys pins → Inv Y ((a, go) :: pins) σ0 H s₁ → C.Kx ys x H →
      (C.Cn ys x → ∀ s', Slp C.B s₁ s' → (∃ pins', C.Pn (ys ++ [x]) pins' ∧ ∀ p ∈ pins', s'.heap.get? p.1 = some p.2) → s'.heap.get? a = some go → s'.heap.NoLimit → s'.gens = s₁.gens → ∃ k, n = k + 1 ∧ Live Y C A.in1 a go σ0 g k s') → Q (some v) s₁)
    (hF : ∀ ys pins H s₁, C.Pn ys pins → Inv Y ((a, go) :: pins) σ0 H s₁ → C.Fi ys H → Q none s₁) :
    wpAny (model Y.prog Y.w) A (pyNext (.ref a)) Q E s := by
  obtain ⟨hg, hl, gs, hgs, hgoes⟩ := L
  have hgl : g < s.gens.size := (Array.getElem?_eq_some_iff.mp hgs).1
  refine wpAny_gsz (n := g + 1) hgl (wpAny_pyNext_genexpQ hh hl hroom hg hgs hgoes (fun v s₁ gs' hb hv => ?_) (fun s₁ hp h' hk => ?_))
  · intro hsz
    obtain ⟨ys, x, pins, H, rv, hP, I, kx, kap⟩ := hv
    have hsz1 : g < s₁.gens.size := by
      have q : (s₁.setGen g gs').gens.size = s₁.gens.size := setGen_size _ _ _
      have hsz' : g + 1 ≤ (s₁.setGen g gs').gens.size := hsz
      omega
    refine hY ys x v pins H _ rv hP (inv_setGen I hb) kx fun cn s' z hp ha hl' hgens => ?_
    have z' : Slp C.B s₁ (s'.setGen g .running) := ⟨z.os, allBare_setGen z.bare rfl, fun b o hb e => z.keep b o hb e⟩
    have q := kap cn _ z' hp
    cases n with
    | zero => exact False.elim q
    | succ k => exact ⟨k, rfl, hgo _ ha, hl', gs', by rw [hgens]; exact setGen_at hsz1, q⟩
  · intro _
    obtain ⟨ys, pins, H, hP, I, fi⟩ := hp
    refine hF ys pins H _ hP ?_ fi
    exact (inv_setGen (gs := .finished) (g := g) I rfl).kept (t' := s₁.toks) hk
end GX
set_option Elab.async false
set_option linter.all false
set_option maxRecDepth 100000
set_option maxHeartbeats 4000000
namespace GX
open PySem PySem.Spec PyProof.Rows L2 GenW
/-- a generator expression has been made -/
structure Made (X : Cx) (pins : List (Addr × Obj)) (σ : L2.St) (A0 : Around) (elt tg iter : Expr) (ifs : List Expr) (scope : Scope) (gpos : Pos) (own : List (Str × Nat)) (it a : Addr) (fp : List Addr) (tn : Nat → Heap → Prop) (J : It) (H4 : Hp) (s4 s5 : Shared) (code : Value) (g : Nat) (go : Obj) : Prop where
  outer : Inv X pins σ H4 s4
  inner : Inv (gcx X A0 s4 H4 scope code fp) [(a, go)] (wipe σ (own.map (·.2))) H4 s5
  turn : Turn X.prog X.w X.K tg J fp it tn
  tn0 : tn 0 s5.heap
  fpk : ∀ b ∈ fp, FpOk X pins H4 b ∧ b < s4.heap.objs.size
  alo : s4.heap.objs.size < a
  asz : s5.heap.objs.size = a + 1
  gen : ∀ h : Heap, h.get? a = some go → h.IsGen a g
  gs : s5.gens[g]? = some (.fresh (.compStart (.GeneratorExp elt [⟨tg, iter, ifs, 0⟩] scope gpos) 0 (.ref it) .none (gcx X A0 s4 H4 scope code fp).env))
  ga : s5.heap.get? a = some go
section
variable {X : Cx} {pins : List (Addr × Obj)} {σ : L2.St} {H : Hp} {s : Shared}
theorem gx_make {A0 : Around} {c P : Addr} {elt tg iter : Expr} {ifs : List Expr} {gpos : Pos} {scope : Scope} {own : List (Str × Nat)} {wi : TI} {k : Nat} {R : It → Hp → Prop} {Q' : Value → Shared → Prop}
    (hA0h : A0.handled = none) (hA0f : A0.frames = X.A.frames) (hr : Room k X.A) (TB : GxR.TabB X.base X.mg c P) (hcode : X.env.code = .ref c) (ok : GxOk X.N X.env.scope scope own) (hN : X.N.Nodup) (hi : PI X tg iter wi)
    (hs : ∀ v, genFold iter X.env v = pure v) (I : Inv X pins σ H s) (h : wi σ H fun J H1 => GxR.TabG H1 P ∧ ∀ H2, GxR.Tabbed P H1 H2 → R J H2)
    (hQ : ∀ it a fp tn J H4 s4 s5 code g go, Made X pins σ A0 elt tg iter ifs scope gpos own it a fp tn J H4 s4 s5 code g go → R J H4 → Q' (.ref a) s5) :
    wpAny (model X.prog X.w) X.A (eval (.GeneratorExp elt [⟨tg, iter, ifs, 0⟩] scope gpos) X.env) Q' X.xe s := by
  have hfree : ∀ y ∈ scope.names, y.2 = .free → ∃ c, X.env.cells.lookup y.1 = some c := fun y hy e => by
    rcases ok.blk.free y hy e with k | k
    · exact I.ok.has _ (.inl k)
    · exact I.ok.has _ (.inr k)
  refine wpAny_GeneratorExp_make ok.co (closure_ok hfree) ok.cell ok.dot ok.blk.kind (by have := hr.dp; omega) ?_ hs
  refine thn (hi.run pins s σ H _ I h) fun xv s1 hx => thn hx fun itv s2 h2 => ?_
  obtain ⟨it, fp, tn, J, H2, e, I2, T, st2, f2, ⟨ps, hP, ht⟩, q⟩ := h2
  subst e
  have hPs : s2.heap.get? P = some { cls := .none, data := .fields ps } := I2.hok P _ hP
  have cd : PySem.W.CodeHd s2.heap c P := TB.code.keeps fun b u e => I2.bk b u e
  have sz : ∀ b ∈ fp, b < s2.heap.objs.size := fun b hb => by
    obtain ⟨o, e, _⟩ := T.obj _ _ st2 b hb
    exact Heap.lt_size e
  have fnP : ∀ b ∈ fp, b ≠ P := fun b hb e => by
    have q := (f2 b hb).1
    rw [e, hP] at q
    cases q
  have cont : ∀ (code : Value) (h3 : Heap) (tk : Nat) (ps' : Array Value), Heap.ExtBut P s2.heap h3 → s2.heap.objs.size ≤ h3.objs.size → h3.get? P = some { cls := .none, data := .fields ps' } → (∃ more, ps' = ps ++ more) → TriplesOk ps'.toList →
      wpAny (model X.prog X.w) X.A (builtinsFor X.env.globals X.env.builtins) (fun bi s₄ =>
        ∀ h', h'.Ns s₄.heap.objs.size (fun y => if y = ".0" then some (Value.ref it) else none) → Heap.SameBut s₄.heap.objs.size (s₄.heap.push { cls := .type "frame", data := .dict #[] }) h' →
          Q' (.ref h'.objs.size) { s₄ with
            gens := s₄.gens.push (.fresh (.compStart (.GeneratorExp elt [⟨tg, iter, ifs, 0⟩] scope gpos) 0 (.ref it) .none (genEnv scope (cloFrom X.env.cells scope.names []) s₄.heap.objs.size code bi X.env))),
            toks := s₄.toks + 1 + 1 + 1,
            heap := h'.push { cls := .type "generator", data := .fields #[.int s₄.gens.size 0, .str "<genexpr>" (s₄.toks + 1), .str (X.env.qual ++ "<genexpr>") (s₄.toks + 1 + 1)] } }) X.xe { s2 with heap := h3, toks := tk } := by
    intro code h3 tk ps' hx hsz hP3 hmore ht3
    obtain ⟨more, em⟩ := hmore
    obtain ⟨bm, ob, e1, e2, e3, e4, e5, e6, e7, e8⟩ := TB.bm
    have keep3 : ∀ b u, b ≠ P → s2.heap.get? b = some u → h3.get? b = some u := fun b u hb e => hx b u hb e
    refine wpAny_builtinsFor (m := X.mg) (by rw [I2.ok.glob]; exact (I2.mod.glob.keeps I2.bk).extBut hx TB.gP) e1 e2 (keep3 _ _ e4 (I2.bk _ _ e5)) e6 e7 e8 ?_
    have I4 : Inv X pins σ (upd H2 P (.tbl (ps ++ more))) { s2 with heap := h3, toks := tk } :=
      GxR.inv_tab (more := more) (h' := h3) (g' := s2.gens) (d' := s2.drawn) (t' := tk) I2 hP (fun b u hb e => keep3 b u hb e) (by rw [← em]; exact hP3) I2.bare
    have hT4 : GxR.Tabbed P H2 (upd H2 P (.tbl (ps ++ more))) := ⟨⟨ps ++ more, upd_same, by rw [← em]; exact ht3⟩, fun b hb => upd_ne hb⟩
    have fk : ∀ b ∈ fp, FpOk X pins (upd H2 P (.tbl (ps ++ more))) b ∧ b < h3.objs.size := fun b hb => by
      refine ⟨⟨?_, (f2 b hb).2⟩, Nat.lt_of_lt_of_le (sz b hb) hsz⟩
      rw [upd_ne (fnP b hb)]
      exact (f2 b hb).1
    intro h' hn' hs'
    have hszh : h'.objs.size = h3.objs.size + 1 := by rw [hs'.1, Heap.size_push]
    have keep' : ∀ b o, h3.get? b = some o → h'.get? b = some o := fun b o e => hs'.extBut b o (Nat.ne_of_lt (Heap.lt_size e)) (Heap.get?_push_of_some _ e)
    have keep5 : ∀ b o, h3.get? b = some o → (h'.push { cls := .type "generator", data := .fields #[.int s2.gens.size 0, .str "<genexpr>" (tk + 1), .str (X.env.qual ++ "<genexpr>") (tk + 1 + 1)] }).get? b = some o := fun b o e => Heap.get?_push_of_some _ (keep' b o e)
    have hat : (h'.push { cls := .type "generator", data := .fields #[.int s2.gens.size 0, .str "<genexpr>" (tk + 1), .str (X.env.qual ++ "<genexpr>") (tk + 1 + 1)] }).get? h'.objs.size = some { cls := .type "generator", data := .fields #[.int s2.gens.size 0, .str "<genexpr>" (tk + 1), .str (X.env.qual ++ "<genexpr>") (tk + 1 + 1)] } := Heap.get?_push_size _ rfl
    have IY : Inv (gcx X A0 { s2 with heap := h3, toks := tk } (upd H2 P (.tbl (ps ++ more))) scope code fp) [] (wipe σ (own.map (·.2))) (upd H2 P (.tbl (ps ++ more)))
        { s2 with heap := h'.push { cls := .type "generator", data := .fields #[.int s2.gens.size 0, .str "<genexpr>" (tk + 1), .str (X.env.qual ++ "<genexpr>") (tk + 1 + 1)] }, gens := s2.gens.push (.fresh (.compStart (.GeneratorExp elt [⟨tg, iter, ifs, 0⟩] scope gpos) 0 (.ref it) .none (genEnv scope (cloFrom X.env.cells scope.names []) h3.objs.size code builtinsNs X.env))), toks := tk + 1 + 1 + 1 } :=
      gen_start (s := { s2 with heap := h3, toks := tk }) I4 ok hN fk hA0h (hA0f.trans I2.ok.frames) (hn'.push _) keep5 (I2.bare.push rfl)
    have ano : ∀ b, b < h3.objs.size → h'.objs.size ≠ b := fun b hb => by rw [hszh]; omega
    refine hQ it h'.objs.size fp tn J _ { s2 with heap := h3, toks := tk } _ code s2.gens.size _ ⟨I4, IY.pins_of fun p hp => ?_, T, ?_, fk, ?_, ?_, ?_, Array.getElem?_push_size .., hat⟩ (q _ hT4)
    · rw [List.mem_singleton.mp hp]
      refine ⟨hat, I4.hok.fresh (by show h3.objs.size ≤ h'.objs.size; omega), ?_, fun hb => ?_, fun v z => by cases z⟩
      · show h'.objs.size ≠ h3.objs.size
        omega
      · obtain ⟨_, o, ho, _⟩ := (I4.stack).mem hb
        exact ano _ (Heap.lt_size ho) rfl
    · exact T.keep _ _ _ st2 fun b hb o e => keep5 b o (keep3 b o (fnP b hb) e)
    · show h3.objs.size < h'.objs.size
      omega
    · show (h'.push _).objs.size = h'.objs.size + 1
      rw [Heap.size_push]
    · intro h hh
      exact ⟨_, _, _, hh, rfl, rfl, rfl⟩
  refine ⟨I2.nolimit, ?_⟩
  cases hf : codeAmong gpos ps.toList with
  | none =>
    refine wpAny_genexprCodeX hcode (cd.code hPs ht) (cd.tab hPs) hf fun c' h' tk hx hge hlt hco' _ htab' _ => ?_
    obtain ⟨o1, vs, f1, tf, fl, tg', inF, tx, tt, op, _, _, _, _, _, _, _, _, _, htr, _⟩ := hco'
    exact cont _ h' tk _ hx (Nat.le_trans hge (Nat.le_of_lt hlt)) htab'.2 ⟨_, rfl⟩ htr
  | some cv =>
    refine wpAny_genexprCode_hit hcode (cd.code hPs ht) hf ?_
    exact cont cv s2.heap s2.toks ps (Heap.ExtBut.refl _ _) (Nat.le_refl _) hPs ⟨#[], by simp⟩ ht
end
end GX
set_option Elab.async false
set_option linter.all false
set_option maxRecDepth 100000
set_option maxHeartbeats 4000000
namespace GX
open PySem PySem.Spec PyProof.Rows L2 GenW
theorem over_comp {A : Around} {elt : Expr} {gs : List Comprehension} {scope : Scope} {pos : Pos} {it acc : Value} {env : Env} : A.over (.compLoop (.GeneratorExp elt gs scope pos) 0 it acc env) [] = A.deeper env := by
  first
    | rfl
    | (obtain ⟨hd, d, fr, gs, u⟩ := A; simp [Around.over, Around.deeper, marksOver, frameCount, unitsOf, envsOf, guardsOf, pushEnvs, pushGuards, Code.envs, Code.env?, Code.isFrame, Code.guards, Code.isGuard, Code.weight, Code.frames, Code.isCreation, Code.isCaller, Code.cUnits])
section
variable {X : Cx} {pins : List (Addr × Obj)} {σ : L2.St} {A0 : Around} {elt tg iter : Expr} {ifs : List Expr} {scope : Scope} {gpos : Pos} {own : List (Str × Nat)} {it a : Addr} {fp : List Addr} {tn : Nat → Heap → Prop} {J : It} {H4 : Hp} {s4 s5 : Shared} {code : Value} {g : Nat} {go : Obj}
/-- behind it: the outer frame again -/
theorem Made.back (M : Made X pins σ A0 elt tg iter ifs scope gpos own it a fp tn J H4 s4 s5 code g go) {pl : List (Addr × Obj)} {σ' : L2.St} {H' : Hp} {s' : Shared} (I : Inv (gcx X A0 s4 H4 scope code fp) pl σ' H' s') : Inv X pins σ H' s' := by
  have os : s'.os = s4.os := I.os
  have un : Un (frs X.stack) fp H4 H' s4.heap s'.heap := I.base
  have hok : HOk X.prog X.w H' s'.heap := I.hok
  have bare := I.bare
  obtain ⟨h', g', d', t', o'⟩ := s'
  obtain rfl : o' = s4.os := os
  exact M.outer.call (h' := h') (g' := g') (d' := d') (t' := t') (ch := fp) un hok bare fun b hb => ⟨(M.fpk b hb).1.2.2.2.1, (M.fpk b hb).1.2.1, (M.fpk b hb).1.2.2.2.2.1, (M.fpk b hb).1.2.2.2.2.2⟩
theorem Made.stat (M : Made X pins σ A0 elt tg iter ifs scope gpos own it a fp tn J H4 s4 s5 code g go) : ∀ b ∈ fp, b ≠ (gcx X A0 s4 H4 scope code fp).env.locals ∧ b ∉ (gcx X A0 s4 H4 scope code fp).fs ∧ (b ∈ (gcx X A0 s4 H4 scope code fp).ex ∨ (gcx X A0 s4 H4 scope code fp).s_0.heap.objs.size ≤ b) ∧ ∀ x c, (gcx X A0 s4 H4 scope code fp).env.cells.lookup x = some c → c ≠ b := fun b hb =>
  ⟨(M.inner.ok.exf b hb).1, M.inner.ok.exfs b hb, .inl hb, fun x c e => (M.inner.ok.exf b hb).2 x c e⟩
/-- the consumer's objects: none, or one that is new -/
theorem Made.apart0 (M : Made X pins σ A0 elt tg iter ifs scope gpos own it a fp tn J H4 s4 s5 code g go) : Aprt (gcx X A0 s4 H4 scope code fp) [] fp a :=
  ⟨fun b hb => (by cases hb), fun b hb => (by cases hb), fun b hb => (by cases hb), fun b hb => (by cases hb), fun b hb => (by cases hb), fun hb => (by cases hb), fun hb =>
    absurd (Nat.lt_trans (M.fpk a hb).2 M.alo) (Nat.lt_irrefl _)⟩
theorem Made.apart1 (M : Made X pins σ A0 elt tg iter ifs scope gpos own it a fp tn J H4 s4 s5 code g go) {S : Addr} (hS : a < S) : Aprt (gcx X A0 s4 H4 scope code fp) [S] fp a := by
  have h1 := M.alo
  have big : ∀ b ∈ [S], s5.heap.objs.size ≤ b := fun b hb => by
    rw [List.mem_singleton.mp hb, M.asz]
    exact hS
  have sz5 : s4.heap.objs.size ≤ s5.heap.objs.size := by rw [M.asz]; omega
  refine ⟨fun b hb => Nat.le_trans sz5 (big b hb), fun b hb => ?_, fun b hb x c e z => ?_, fun b hb => M.inner.nofs (big b hb), fun b hb hb2 => ?_, fun hb => ?_, M.apart0.af⟩
  · exact Nat.ne_of_gt (Nat.lt_of_lt_of_le M.inner.lt (big b hb))
  · obtain ⟨v, q⟩ := M.inner.cell x c e
    have q1 := q.lt
    have q2 := big b hb
    rw [z] at q1
    exact absurd (Nat.lt_of_lt_of_le q1 q2) (Nat.lt_irrefl _)
  · exact absurd (Nat.lt_of_lt_of_le (M.fpk b hb2).2 (Nat.le_trans sz5 (big b hb))) (Nat.lt_irrefl _)
  · exact Nat.ne_of_lt hS (List.mem_singleton.mp hb)
/-- the fresh generator, for a consumer whose objects stand in a later state -/
theorem Made.live (M : Made X pins σ A0 elt tg iter ifs scope gpos own it a fp tn J H4 s4 s5 code g go) {C : Con} {g1 : TG} {tt : TT} {te : TE} {W : Nat → Nat → List V → Hp → Prop} {m : Nat} {s6 : Shared} {pins' : List (Addr × Obj)} (CO : C.Ok) (hB : Aprt (gcx X A0 s4 H4 scope code fp) C.B fp a)
    (co : scope.isCoroutine = false)
    (hg : PG (gcx X A0 s4 H4 scope code fp) tg g1) (ht : PTs (gcx X A0 s4 H4 scope code fp) ifs tt) (he : PE (gcx X A0 s4 H4 scope code fp) elt te) (turns : Turns J g1 tt te (own.map (·.2)) (wipe σ (own.map (·.2))) C W) (w0 : W 0 m [] H4)
    (hHB : ∀ b ∈ C.B, H4 b = none) (z : Slp C.B s5 s6) (hP : C.Pn [] pins') (hp : ∀ p ∈ pins', s6.heap.get? p.1 = some p.2) (hgens : s6.gens = s5.gens) (hl : s6.heap.NoLimit) :
    Live (gcx X A0 s4 H4 scope code fp) C A0 a go (wipe σ (own.map (·.2))) g (m + 1) s6 := by
  have ga6 : s6.heap.get? a = some go := z.keep a go hB.na M.ga
  have z' : Slp C.B s5 (s6.setGen g .running) := ⟨z.os, allBare_setGen z.bare rfl, z.keep⟩
  have I6 : Inv (gcx X A0 s4 H4 scope code fp) ((a, go) :: pins') (wipe σ (own.map (·.2))) H4 (s6.setGen g .running) := woken rfl hB M.inner hHB z' fun p hp' => ⟨(CO.pn _ _ hP p hp').1, hp p hp', (CO.pn _ _ hP p hp').2⟩
  refine ⟨M.gen _ ga6, hl, _, (by rw [hgens]; exact M.gs), ?_⟩
  refine ⟨rfl, ?_⟩
  exact seg_start over_comp rfl (fun _ _ z => z) rfl co CO hB M.stat M.turn hg ht he turns m 0 (m + 1) [] _ _ (Nat.lt_succ_self _)
    ⟨pins', H4, hP, I6, M.turn.keep _ _ _ M.tn0 fun b hb o e => z.keep b o (fun hm => hB.bf b hm hb) e, fun b hb => (M.fpk b hb).1.1, w0⟩
end
/-! ### all, any -/
end GX
set_option Elab.async false
set_option linter.all false
set_option maxRecDepth 100000
set_option maxHeartbeats 4000000
namespace GX
open PySem PySem.Spec PyProof.Rows L2 GenW
/-! ### tuple -/
def conTup0 (Q : VK) : Con := ⟨[], fun _ pins => pins = [], fun ys _ _ => ys.length < sizeLine, fun _ _ => True, fun ys H => ys.length ≤ sizeLine ∧ ∀ p, H p = none → Q (.ref p) (upd H p (.tup ys))⟩
def conTup (Q : VK) (S : Addr) : Con := ⟨[S], fun ys pins => ∃ acc c, Vals ys acc.toList ∧ pins = [(S, lstObj acc c)], fun ys _ _ => ys.length < sizeLine, fun _ _ => True, fun ys H => ys.length ≤ sizeLine ∧ ∀ p, H p = none → Q (.ref p) (upd H p (.tup ys))⟩
theorem ok_tup (Q : VK) (S : Addr) : (conTup Q S).Ok := by
  refine ⟨fun ys pins ⟨acc, c, _, e⟩ p hp => ?_, fun ys pins ⟨acc, c, _, e⟩ b hb => ?_⟩
  · subst e
    rw [List.mem_singleton.mp hp]
    exact ⟨List.mem_singleton.mpr rfl, fun v z => by cases z⟩
  · subst e
    rw [List.mem_singleton.mp hb]
    exact ⟨_, List.mem_singleton.mpr rfl⟩
theorem tup_loop {Y : Cx} {A : Around} {a S : Addr} {go : Obj} {σ0 : L2.St} {g : Nat} {Q : VK} {R : Result → Shared → Prop} {res : Value} (hh : A.handled = none) (hd : A.depth < recursionLimit) (hgo : ∀ h : Heap, h.get? a = some go → h.IsGen a g) (hSa : S ≠ a) (hSc : S ≠ cStatics)
    (hR : ∀ ys acc c s' H, Vals ys acc.toList → Inv Y [(a, go), (S, lstObj acc c)] σ0 H s' → ys.length ≤ sizeLine → (∀ p, H p = none → Q (.ref p) (upd H p (.tup ys))) → R (.ok (.ret res)) s') :
    ∀ (n : Nat) (s : Shared), Live Y (conTup Q S) A.in1.in1 a go σ0 g n s → codeAny (model Y.prog Y.w) A (.builtin "list.extend.loop" ⟨[.ref S, .ref a, res], []⟩) R s := by
  intro n
  induction n with
  | zero =>
    intro s L
    refine codeAny_builtin F.entry_extend_loop ?_
    rw [Around.under_plainId F.plain_extend_loop _]
    show wpAny _ A.in1 (pyNext (.ref a) >>= _) _ _ s
    refine wpAny_bind (gx_next (A := A.in1) hh hd L hgo (fun ys x v pins H s₁ rv hP I kx kap => ?_) fun ys pins H s₁ hP I fi => ?_)
    · obtain ⟨acc, c, hv, rfl⟩ := hP
      have hS1 : s₁.heap.get? S = some (lstObj acc c) := (I.pin (S, lstObj acc c) (List.mem_append_right _ (List.mem_cons_of_mem _ List.mem_cons_self))).1
      have ga : s₁.heap.get? a = some go := (I.pin (a, go) (List.mem_append_right _ List.mem_cons_self)).1
      have keep3 : ∀ b o, b ≠ S → s₁.heap.get? b = some o → (s₁.heap.update S (Obj.mapSeq (·.push v))).get? b = some o := fun b o hbS e => (Heap.get?_update_other _ _ (Ne.symm hbS)).trans e
      obtain ⟨k, hk, _⟩ := kap trivial { s₁ with heap := s₁.heap.update S (Obj.mapSeq (·.push v)) } ⟨rfl, I.bare, fun b o hb e => keep3 b o (fun z => hb (by rw [z]; exact List.mem_singleton.mpr rfl)) e⟩
        ⟨_, ⟨acc.push v, _, by rw [Array.toList_push]; exact hv.append (.cons rv .nil), rfl⟩, fun p hp => by rw [List.mem_singleton.mp hp]; exact Heap.get?_update_self _ hS1 rfl⟩ (keep3 a go (Ne.symm hSa) ga)
        (let ⟨mc, hns, hnn⟩ := I.nolimit; ⟨mc, hns.at' fun o e => keep3 _ o (Ne.symm hSc) e, hnn⟩) rfl
      cases hk
    · obtain ⟨acc, c, hv, rfl⟩ := hP
      exact wpAny_pure (hR ys acc c s₁ H hv I fi.1 fi.2)
  | succ n ih =>
    intro s L
    refine codeAny_builtin F.entry_extend_loop ?_
    rw [Around.under_plainId F.plain_extend_loop _]
    show wpAny _ A.in1 (pyNext (.ref a) >>= _) _ _ s
    refine wpAny_bind (gx_next (A := A.in1) hh hd L hgo (fun ys x v pins H s₁ rv hP I kx kap => ?_) fun ys pins H s₁ hP I fi => ?_)
    · obtain ⟨acc, c, hv, rfl⟩ := hP
      have hS1 : s₁.heap.get? S = some (lstObj acc c) := (I.pin (S, lstObj acc c) (List.mem_append_right _ (List.mem_cons_of_mem _ List.mem_cons_self))).1
      have ga : s₁.heap.get? a = some go := (I.pin (a, go) (List.mem_append_right _ List.mem_cons_self)).1
      have keep3 : ∀ b o, b ≠ S → s₁.heap.get? b = some o → (s₁.heap.update S (Obj.mapSeq (·.push v))).get? b = some o := fun b o hbS e => (Heap.get?_update_other _ _ (Ne.symm hbS)).trans e
      have hl : acc.size < sizeLine := by
        have q1 : ys.length = acc.toList.length := hv.length
        have q2 : ys.length < sizeLine := kx
        have q3 : acc.toList.length = acc.size := Array.length_toList ..
        exact Nat.lt_of_le_of_lt (Nat.le_of_eq (q3.symm.trans q1.symm)) q2
      obtain ⟨k, hk, L'⟩ := kap trivial { s₁ with heap := s₁.heap.update S (Obj.mapSeq (·.push v)) } ⟨rfl, I.bare, fun b o hb e => keep3 b o (fun z => hb (by rw [z]; exact List.mem_singleton.mpr rfl)) e⟩
        ⟨_, ⟨acc.push v, _, by rw [Array.toList_push]; exact hv.append (.cons rv .nil), rfl⟩, fun p hp => by rw [List.mem_singleton.mp hp]; exact Heap.get?_update_self _ hS1 rfl⟩ (keep3 a go (Ne.symm hSa) ga)
        (let ⟨mc, hns, hnn⟩ := I.nolimit; ⟨mc, hns.at' fun o e => keep3 _ o (Ne.symm hSc) e, hnn⟩) rfl
      cases hk
      show wpAny _ A.in1 (updateSeq S (·.push v) >>= _) _ _ _
      refine wpAny_bind ?_
      exact wpAny_updateSeq hS1 rfl (wpAny_pure ⟨plainId_quiet F.plain_extend_loop _, ih _ L'⟩) (Nat.le_of_lt hl) (by show (acc.push v).size ≤ sizeLine + 1; rw [Array.size_push]; omega)
    · obtain ⟨acc, c, hv, rfl⟩ := hP
      exact wpAny_pure (hR ys acc c s₁ H hv I fi.1 fi.2)
section
variable {X : Cx} {pins : List (Addr × Obj)} {σ : L2.St} {A : Around} {elt tg iter : Expr} {ifs : List Expr} {scope : Scope} {gpos : Pos} {own : List (Str × Nat)} {it a : Addr} {fp : List Addr} {tn : Nat → Heap → Prop} {J : It} {H4 : Hp} {s4 s5 : Shared} {code : Value} {g : Nat} {go : Obj}
theorem collect_gx {g1 : TG} {tt : TT} {te : TE} {W : Nat → Nat → List V → Hp → Prop} {m : Nat} {Q : VK} {Q' : List Value → Shared → Prop} {E : Value → Shared → Prop} (hh : A.handled = none) (hd : A.depth < recursionLimit)
    (M : Made X pins σ A.in1.in1 elt tg iter ifs scope gpos own it a fp tn J H4 s4 s5 code g go) (co : scope.isCoroutine = false)
    (hg : PG (gcx X A.in1.in1 s4 H4 scope code fp) tg g1) (ht : PTs (gcx X A.in1.in1 s4 H4 scope code fp) ifs tt) (he : PE (gcx X A.in1.in1 s4 H4 scope code fp) elt te) (turns : Turns J g1 tt te (own.map (·.2)) (wipe σ (own.map (·.2))) (conTup0 Q) W) (w0 : W 0 m [] H4)
    (hQ : ∀ (ys : List V) (acc : Array Value) (s' : Shared) (H' : Hp), Vals ys acc.toList → Inv X pins σ H' s' → ys.length ≤ sizeLine → (∀ p, H' p = none → Q (.ref p) (upd H' p (.tup ys))) → Q' acc.toList s') :
    wpAny (model X.prog X.w) A (collect (.ref a)) Q' E s5 := by
  have hSa : s5.heap.objs.size ≠ a := by rw [M.asz]; exact Nat.succ_ne_self _
  have haS : a < s5.heap.objs.size := by rw [M.asz]; exact Nat.lt_succ_self _
  have hl5 : s5.heap.NoLimit := M.inner.nolimit
  have hcl : cStatics < s5.heap.objs.size := let ⟨_, hn, _⟩ := hl5; hn.lt
  unfold collect
  refine wpAny_bind (wpAny_runValue (codeAny_builtin F.entry_proto_collect ?_))
  rw [Around.under_plainId F.plain_proto_collect _]
  show wpAny _ A.in1 (newList [] >>= fun l => again (.builtin "list.__iadd__" ⟨[l, .ref a], []⟩)) _ _ s5
  refine wpAny_bind (wpAny_newObj_type ?_)
  refine wpAny_pure ⟨plainId_quiet F.plain_list_iadd _, codeAny_builtin F.entry_list_iadd ?_⟩
  rw [Around.under_plainId F.plain_list_iadd _]
  have k1 : ∀ b o, s5.heap.get? b = some o → (s5.heap.push { cls := .type "list", data := .seq ([] : List Value).toArray }).get? b = some o := fun b o e => Heap.get?_push_of_some _ e
  have gen1 := M.gen _ (k1 _ _ M.ga)
  show wpAny _ A.in1 (Builtin.List.listExtendWith (.ref s5.heap.objs.size) (.ref a) (.ref s5.heap.objs.size)) _ _ _
  unfold Builtin.List.listExtendWith
  refine wpAny_bind (wpAny_typeOf (Heap.IsGen.typeIs (s := { s5 with heap := _ }) gen1) ?_)
  have h1 : Builtin.List.listSameRef (.ref s5.heap.objs.size) (.ref a) = false := by simp [Builtin.List.listSameRef, hSa]
  have h2 : (Value.type "generator" == Value.type "list") = false := by decide
  have h3 : (Value.type "generator" == Value.type "tuple") = false := by decide
  simp only [h1, h2, h3, Bool.or_false, Bool.false_eq_true, if_false]
  refine wpAny_bind (wpAny_pyIter_gen (s := { s5 with heap := _ }) gen1 ?_)
  refine wpAny_bind (wpAny_holding ?_)
  unfold Builtin.List.listLengthHint
  refine wpAny_bind (wpAny_specialOf (Heap.IsGen.typeIs (s := { s5 with heap := _ }) gen1) F.gen_no_len ?_)
  show wpAny _ A.in1 (specialOf (Value.ref a) (Str.ofString "__length_hint__") >>= _) _ _ _
  refine wpAny_bind (wpAny_specialOf (Heap.IsGen.typeIs (s := { s5 with heap := _ }) gen1) F.gen_no_hint ?_)
  refine wpAny_pure ?_
  show wpAny _ A.in1 (rule "list.extend.makes-room" >>= fun _ => Builtin.List.listTouch (.ref s5.heap.objs.size) >>= fun _ =>
    again (.builtin "list.extend.loop" ⟨[.ref s5.heap.objs.size, .ref a, .ref s5.heap.objs.size], []⟩)) _ _ _
  refine wpAny_bind (wpAny_rule ?_)
  have hS1 : (s5.heap.push { cls := .type "list", data := .seq ([] : List Value).toArray }).get? s5.heap.objs.size = some { cls := .type "list", data := .seq ([] : List Value).toArray } := Heap.get?_push_size _ rfl
  refine wpAny_bind ?_
  show wpAny _ A.in1 (updateSeq s5.heap.objs.size (·.push .none) >>= fun _ => updateSeq s5.heap.objs.size (·.pop)) _ _ _
  refine wpAny_bind (wpAny_updateSeq hS1 rfl ?_)
  have hS2 := Heap.get?_update_self (Obj.mapSeq (·.push Value.none)) hS1 rfl
  refine wpAny_updateSeq hS2 rfl ?_
  have hS3 := Heap.get?_update_self (Obj.mapSeq (·.pop)) hS2 rfl
  have oth : ∀ b o, b ≠ s5.heap.objs.size → s5.heap.get? b = some o →
      (((s5.heap.push { cls := .type "list", data := .seq ([] : List Value).toArray }).update s5.heap.objs.size (Obj.mapSeq (·.push Value.none))).update s5.heap.objs.size (Obj.mapSeq (·.pop))).get? b = some o :=
    fun b o hb e => (Heap.get?_update_other _ _ (Ne.symm hb)).trans ((Heap.get?_update_other _ _ (Ne.symm hb)).trans (k1 b o e))
  have z : Slp (conTup Q s5.heap.objs.size).B s5 { s5 with heap := ((s5.heap.push { cls := .type "list", data := .seq ([] : List Value).toArray }).update s5.heap.objs.size (Obj.mapSeq (·.push Value.none))).update s5.heap.objs.size (Obj.mapSeq (·.pop)) } :=
    ⟨rfl, M.inner.bare, fun b o hb e => oth b o (fun q => hb (by rw [q]; exact List.mem_singleton.mpr rfl)) e⟩
  have L := M.live (C := conTup Q s5.heap.objs.size) (ok_tup Q _) (M.apart1 haS) co hg ht he turns w0 (fun b hb => by rw [List.mem_singleton.mp hb]; exact M.inner.hok.fresh (Nat.le_refl _)) z
    (pins' := [(s5.heap.objs.size, lstObj #[] _)]) ⟨#[], _, .nil, rfl⟩ (fun p hp => by rw [List.mem_singleton.mp hp]; exact hS3) rfl
    (let ⟨mc, hns, hnn⟩ := hl5; ⟨mc, hns.at' fun o e => oth _ o (Nat.ne_of_lt hcl) e, hnn⟩)
  refine wpAny_pure ⟨plainId_quiet F.plain_extend_loop _, tup_loop (Y := gcx X A.in1.in1 s4 H4 scope code fp) hh hd M.gen hSa (Nat.ne_of_gt hcl) (fun ys acc c s' H' hv I' hle q => ?_) (m + 1) _ L⟩
  have hS' : s'.heap.get? s5.heap.objs.size = some (lstObj acc c) := (I'.pin (s5.heap.objs.size, lstObj acc c) (List.mem_append_right _ (List.mem_cons_of_mem _ List.mem_cons_self))).1
  show wpAny _ A (load s5.heap.objs.size >>= _) _ _ s'
  refine wpAny_bind (wpAny_load hS' ?_)
  exact wpAny_pure (hQ ys acc s' H' hv (M.back I') hle q)
theorem call_tuple_gx {g1 : TG} {tt : TT} {te : TE} {W : Nat → Nat → List V → Hp → Prop} {m : Nat} {Q : VK} {E : Value → Shared → Prop} (hh : A.handled = none) (hd : A.depth < recursionLimit)
    (M : Made X pins σ A.in4 elt tg iter ifs scope gpos own it a fp tn J H4 s4 s5 code g go) (co : scope.isCoroutine = false)
    (hg : PG (gcx X A.in4 s4 H4 scope code fp) tg g1) (ht : PTs (gcx X A.in4 s4 H4 scope code fp) ifs tt) (he : PE (gcx X A.in4 s4 H4 scope code fp) elt te) (turns : Turns J g1 tt te (own.map (·.2)) (wipe σ (own.map (·.2))) (conTup0 Q) W) (w0 : W 0 m [] H4) :
    wpAny (model X.prog X.w) A (call (.type "tuple") [.ref a]) (EP X pins σ Q) E s5 := by
  have new : codeAny (model X.prog X.w) A.in1 (.call (.builtin "tuple.__new__") ⟨[.type "tuple", .ref a], []⟩) (wants (fun obj s₁ => s₁.TypeIs obj "tuple" ∧ EP X pins σ Q obj s₁) E) s5 := by
    refine codeAny_of_tree ?_
    show wpAny _ A.in1.in1 (do checkBuiltinCall "tuple.__new__" ⟨[.type "tuple", .ref a], []⟩; again (.builtin "tuple.__new__" ⟨[.type "tuple", .ref a], []⟩)) _ _ s5
    refine wpAny_bind (wpAny_of_eq (F.newCall_tuple_1 _) (wpAny_pure ⟨plainId_quiet F.plain_tuple_new _, codeAny_builtin F.entry_tuple_new ?_⟩))
    rw [Around.under_plainId F.plain_tuple_new _]
    have hsub := sub_tuple_self
    have hinit := init_tuple_lookup
    have hmh := madeHere_tuple
    have hTI : s5.TypeIs (.ref a) "generator" := Heap.IsGen.typeIs (M.gen _ M.ga)
    wp_walk using wpAny_typeOf hTI, collect_gx (A := A.in1.in1) hh hd M co hg ht he turns w0
    intro ys acc s' H' hv I' hle q
    show wpAny _ _ (Builtin.Tuple.tupleExact acc.toList.toArray >>= fun v => ret v) _ _ _
    unfold Builtin.Tuple.tupleExact
    have hlen := hv.length
    refine wpAny_bind (wpAny_newObj_type ?_ (by show acc.toList.toArray.size ≤ sizeLine; rw [List.size_toArray]; omega))
    refine wpAny_pure ?_
    have hf : H' s'.heap.objs.size = none := I'.hok.fresh (Nat.le_refl _)
    refine ⟨⟨_, Heap.get?_push_size _ rfl, rfl⟩, .ref s'.heap.objs.size, upd H' s'.heap.objs.size (.tup ys), I'.laid (t' := s'.toks) (fun b u e => Heap.get?_push_of_some _ e) (Nat.le_refl _) ?_, rfl, q _ hf⟩
    exact ⟨hle, acc.toList, hv, ⟨_, Heap.get?_push_size _ rfl, rfl, _, rfl⟩⟩
  refine callType_codes (Q₁ := fun obj s₁ => s₁.TypeIs obj "tuple" ∧ EP X pins σ Q obj s₁) F.called_tuple (F.typeCall_tuple_1 _) F.entry_object_init new fun obj s₁ h₁ => ?_
  exact ⟨h₁.1, F.args_object_init_2 obj _, object_init_meets F.called_tuple.init.lookup F.called_tuple.made (by decide) X.prog X.w A.in1 _ s₁ ⟨h₁.1, rfl, h₁.2⟩⟩
end
/-- tuple(elt for tg in iter if ..) -/
def tTupG (P : Addr) (wi : TI) (g : TG) (tt : TT) (te : TE) (vs : List Nat) : TE := fun σ H Q => wi σ H fun J H1 => GxR.TabG H1 P ∧ ∀ H2, GxR.Tabbed P H1 H2 → ∃ W : Nat → Nat → List V → Hp → Prop, (∃ m, W 0 m [] H2) ∧ Turns J g tt te vs (wipe σ vs) (conTup0 Q) W
section
variable {X : Cx} {c P : Addr} {elt tg iter : Expr} {ifs : List Expr} {p pos gpos : Pos} {scope : Scope} {own : List (Str × Nat)} {wi : TI} {g : TG} {tt : TT} {te : TE} {k : Nat}
theorem pe_tupG (hr : Room k X.A) (hgl : Gl X "tuple") (hm : X.mg "tuple" = none) (TB : GxR.TabB X.base X.mg c P) (hcode : X.env.code = .ref c) (ok : GxOk X.N X.env.scope scope own) (hN : X.N.Nodup) (hi : PI X tg iter wi)
    (hg : ∀ (s : Shared) (H : Hp) (code : Value) (fp : List Addr), PG (gcx X X.A.in4 s H scope code fp) tg g) (ht : ∀ (s : Shared) (H : Hp) (code : Value) (fp : List Addr), PTs (gcx X X.A.in4 s H scope code fp) ifs tt)
    (hel : ∀ (s : Shared) (H : Hp) (code : Value) (fp : List Addr), PE (gcx X X.A.in4 s H scope code fp) elt te) (hs : ∀ v, genFold iter X.env v = pure v := by intro _; rfl)
    (he : starEach [.GeneratorExp elt [⟨tg, iter, ifs, 0⟩] scope gpos] X.env = (false, eval (.GeneratorExp elt [⟨tg, iter, ifs, 0⟩] scope gpos) X.env) :: starEach [] X.env := by rfl) :
    PE X (.Call (.Name "tuple" p) [.GeneratorExp elt [⟨tg, iter, ifs, 0⟩] scope gpos] [] pos) (tTupG P wi g tt te (own.map (·.2))) := by
  refine ⟨fun pins s σ H Q I h => ?_⟩
  refine wpAny_Call_Name_kw (ld_blt I hgl hm (show bootBuiltins "tuple" = some (.type "tuple") by decide +kernel) ?_)
  refine PyProof.Rows.callWith_type1 ?_ he (by rfl)
  rw [he]
  show wpAny _ _ (spliced ((false, eval (.GeneratorExp elt [⟨tg, iter, ifs, 0⟩] scope gpos) X.env) :: backTo pos (starEach [] X.env))) _ _ s
  refine Calls.spliced_cons (gx_make (A0 := X.A.in4) (own := own) (R := fun J H2 => ∃ W : Nat → Nat → List V → Hp → Prop, (∃ m, W 0 m [] H2) ∧ Turns J g tt te (own.map (fun q : Str × Nat => q.2)) (wipe σ (own.map (fun q : Str × Nat => q.2))) (conTup0 Q) W) hr.hd rfl hr TB hcode ok hN hi hs I h fun it a fp tn J H4 s4 s5 code gn go M q => ?_)
  obtain ⟨W, ⟨m, w0⟩, turns⟩ := q
  refine Calls.spliced_nil ?_
  exact call_tuple_gx hr.hd hr.depth M ok.co (hg s4 H4 code fp) (ht s4 H4 code fp) (hel s4 H4 code fp) turns w0
end
/-! ### room, scopes, turns -/
theorem Room.gx4 {k : Nat} {X : Cx} (r : Room (k + 1) X.A) {s : Shared} {H : Hp} {scope : Scope} {code : Value} {fp : List Addr} : Room k (gcx X X.A.in4 s H scope code fp).A :=
  ⟨r.hd, by have := r.dp; show X.A.depth + 1 + 3 * k + 5 < _; omega, by have := r.un; show X.A.units + 1 + 1 + 1 + 1 + 3 + 16 * k + 200 < _; omega⟩
def gxC (N : List Str) (sc scope : Scope) (own : List (Str × Nat)) : Bool :=
  blkC N sc scope own && !scope.isCoroutine && scope.names.all (fun y => match y.2 with | .cell => false | _ => true) && (match scope.names.lookup (".0" : Str) with | some .local => true | _ => false)
theorem gxOk_by {N : List Str} {sc scope : Scope} {own : List (Str × Nat)} (h : gxC N sc scope own = true) : GxOk N sc scope own := by
  unfold gxC at h
  simp only [Bool.and_eq_true] at h
  obtain ⟨⟨⟨h1, h2⟩, h3⟩, h4⟩ := h
  refine ⟨blkOk_by h1, by simpa using h2, fun y hy e => ?_, ?_⟩
  · have q := List.all_eq_true.mp h3 y hy
    rw [e] at q
    cases q
  · split at h4
    · assumption
    · cases h4
/-- the turns over a walk of n: Pv by the turn, what is out, the heap -/
theorem turns_it {J : It} {n : Nat} {G : Hp → Prop} {Yd : Nat → Hp → V → Hp → Prop} (w : Walk J n G Yd) {g : TG} {tt : TT} {te : TE} {vs : List Nat} {σ0 : L2.St} {C : Con} {H : Hp} (Pv : Nat → List V → Hp → Prop) (h0 : Pv 0 [] H) (hG : ∀ i ys H, i ≤ n → Pv i ys H → G H)
    (hs : ∀ i x ys H H', i < n → Pv i ys H → Yd i H x H' → g x σ0 H' fun σ2 H2 => wipe σ2 vs = σ0 ∧ tt σ2 H2 fun b H3 =>
      if b = true then te σ2 H3 fun y H4 => C.Kx ys y H4 ∧ (C.Cn ys y → Pv (i + 1) (ys ++ [y]) H4) else Pv (i + 1) ys H3) (hd : ∀ ys H, Pv n ys H → C.Fi ys H) :
    ∃ W : Nat → Nat → List V → Hp → Prop, (∃ m, W 0 m [] H) ∧ Turns J g tt te vs σ0 C W := by
  refine ⟨fun i m ys H => m = n - i ∧ i ≤ n ∧ Pv i ys H, ⟨n, by simp, Nat.zero_le _, h0⟩, ?_⟩
  rintro i m ys H ⟨rfl, hi, p⟩
  have q := hG i ys H hi p
  by_cases hlt : i < n
  · exact .inr ⟨w.goes i H hlt q, Pv (i + 1), fun ys' H' p' => ⟨n - (i + 1), by omega, rfl, hlt, p'⟩, fun x H' y => hs i x ys H H' hlt p (w.yields i H x H' hlt q y)⟩
  · have e : i = n := by omega
    subst e
    exact .inl ⟨w.stops H q, hd ys H p⟩
end GX
set_option Elab.async false
set_option linter.all false
set_option maxRecDepth 100000
set_option maxHeartbeats 4000000
namespace GX
open PySem PySem.Spec PyProof.Rows L2
open C8 (Cal pe_c)
/-! ### a def of the text with its code object -/
structure Dfn (K : PySem.W.Frag) (mg : Str → Option Value) (x : Str) (st : Stmt) (f c : Addr) : Prop where
  ex : ∃ (oc : Value) (od : Option Addr) (kV doc pm : Value) (an : Option Addr) (ct : Value) (osl : Array (Option Value)),
    K.lookup f = some ⟨oc, od, .func (PySem.W.fnOf x x (defArgs st) (defBody st) (defScope st) .none kV doc pm an (.ref c) ct), osl⟩
  hcd : PySem.W.codeIn K (.ref c) x = true
  kp : PySem.W.keepIn K (.ref f) = true
  mgf : mg x = some (.ref f)
section
variable {P : Program} {w : World} {K : PySem.W.Frag} {mg : Str → Option Value} {base : Heap}
theorem cal {x : Str} {st : Stmt} {f c : Addr} {N ps : List Str} {k : Nat} {sp : Sp} (D : Dfn K mg x st f c)
    (hb : ∀ (kV doc pm : Value) (an : Option Addr) (cdv ct : Value) (us : List Value), us.length = ps.length → bindArgs (PySem.W.fnOf x x (defArgs st) (defBody st) (defScope st) .none kV doc pm an cdv ct) ⟨us, []⟩ = pure (ps.zip us))
    (S : FnScope N ps (defScope st)) (len : ∀ vs H Q E, sp vs H Q E → vs.length = ps.length)
    (hbody : ∀ (A : Around) (outer : List Env) (s : Shared) (H : Hp) (vs : List V) (Q : VK) (E : XK), Room k (A.deeper (envOfC x (defScope st) s.heap.objs.size f (.ref c))) → sp vs H Q E →
      ∃ t, PSs (cxOf CX0 P w K mg base N x (defScope st) f (.ref c) A outer s H E).nox (defBody st) t ∧ t { nx := fun _ H' => Q .non H', rt := Q } (start N vs) H) : Cal P w K mg base (k + 1) x sp [] := by
  obtain ⟨oc, od, kV, doc, pm, an, ct, osl, lk⟩ := D.ex
  refine ⟨f, _, ps, [], fn_of lk D.hcd S len (fun A outer s H vs Q E hr hsp => ?_), D.mgf, D.kp, .all (hb kV doc pm an (.ref c) ct), .nil⟩
  obtain ⟨t, h, q⟩ := hbody A outer s H vs Q E hr hsp
  exact ⟨t, h.nox, q⟩
end
section
variable {P : Program} {w : World} {K : PySem.W.Frag} {mg : Str → Option Value} {base : Heap}
/-- .. for the law itself -/
theorem fnok {x : Str} {st : Stmt} {f c : Addr} {N ps : List Str} {k : Nat} {sp : Sp} {oc kV doc pm ct : Value} {od an : Option Addr} {osl : Array (Option Value)}
    (lk : K.lookup f = some ⟨oc, od, .func (PySem.W.fnOf x x (defArgs st) (defBody st) (defScope st) .none kV doc pm an (.ref c) ct), osl⟩) (hcd : PySem.W.codeIn K (.ref c) x = true)
    (S : FnScope N ps (defScope st)) (len : ∀ vs H Q E, sp vs H Q E → vs.length = ps.length)
    (hbody : ∀ (A : Around) (outer : List Env) (s : Shared) (H : Hp) (vs : List V) (Q : VK) (E : XK), Room k (A.deeper (envOfC x (defScope st) s.heap.objs.size f (.ref c))) → sp vs H Q E →
      ∃ t, PSs (cxOf CX0 P w K mg base N x (defScope st) f (.ref c) A outer s H E).nox (defBody st) t ∧ t { nx := fun _ H' => Q .non H', rt := Q } (start N vs) H) :
    FnOk P w K mg base CX0 (k + 1) f (PySem.W.fnOf x x (defArgs st) (defBody st) (defScope st) .none kV doc pm an (.ref c) ct) ps sp := by
  refine fn_of lk hcd S len (fun A outer s H vs Q E hr hsp => ?_)
  obtain ⟨t, h, q⟩ := hbody A outer s H vs Q E hr hsp
  exact ⟨t, h.nox, q⟩
end
/-! ### heaps: all but X stands -/
def Keep (X : List Addr) (H H' : Hp) : Prop := ∀ b o, H b = some o → b ∉ X → H' b = some o
theorem Keep.refl {X : List Addr} {H : Hp} : Keep X H H := fun _ _ e _ => e
theorem Keep.trans {X : List Addr} {H H1 H2 : Hp} (a : Keep X H H1) (b : Keep X H1 H2) : Keep X H H2 := fun c o e n => b c o (a c o e n) n
theorem Keep.mono {X Y : List Addr} {H H' : Hp} (a : Keep X H H') (h : ∀ b ∈ X, b ∈ Y) : Keep Y H H' := fun c o e n => a c o e fun z => n (h c z)
theorem Keep.new {X : List Addr} {H : Hp} {p : Addr} {o : HO} (n : H p = none) : Keep X H (upd H p o) := fun b u e _ => by rw [upd_ne (ne_of_none e n)]; exact e
theorem Keep.put {X : List Addr} {H : Hp} {p : Addr} {o : HO} (h : p ∈ X) : Keep X H (upd H p o) := fun b u e n => by rw [upd_ne (fun z => n (by rw [z]; exact h))]; exact e
/-- the tables of the defs that hold generator expressions -/
def Tabs (Ts : List Addr) (H : Hp) : Prop := ∀ P ∈ Ts, GxR.TabG H P
theorem Tabs.nott {Ts : List Addr} {H : Hp} (t : Tabs Ts H) {b : Addr} {o : HO} (e : H b = some o) (h : ∀ ps, o ≠ .tbl ps) : b ∉ Ts := fun z => by
  obtain ⟨ps, q, _⟩ := t b z
  rw [e] at q
  exact h ps (Option.some.inj q)
theorem Tabs.none {Ts : List Addr} {H : Hp} (t : Tabs Ts H) {b : Addr} (e : H b = none) : b ∉ Ts := fun z => by
  obtain ⟨ps, q, _⟩ := t b z
  rw [e] at q
  cases q
theorem Tabs.tup {Ts : List Addr} {H : Hp} (t : Tabs Ts H) {b : Addr} {xs : List V} (e : H b = some (.tup xs)) : b ∉ Ts := t.nott e fun _ z => by cases z
theorem Tabs.lst {Ts : List Addr} {H : Hp} (t : Tabs Ts H) {b : Addr} {xs : List V} (e : H b = some (.lst xs)) : b ∉ Ts := t.nott e fun _ z => by cases z
theorem Tabs.upd {Ts : List Addr} {H : Hp} (t : Tabs Ts H) {p : Addr} {o : HO} (h : p ∉ Ts) : Tabs Ts (L2.upd H p o) := fun b hb => by
  obtain ⟨ps, q, r⟩ := t b hb
  exact ⟨ps, by rw [upd_ne (fun z => h (by rw [← z]; exact hb))]; exact q, r⟩
/-- behind a generator expression: its table may have grown -/
theorem Tabs.tabbed {Ts : List Addr} {H H' : Hp} {P : Addr} (t : Tabs Ts H) (h : GxR.Tabbed P H H') : Tabs Ts H' := fun b hb => by
  by_cases e : b = P
  · rw [e]; exact h.1
  · obtain ⟨ps, q, r⟩ := t b hb
    exact ⟨ps, by rw [h.2 b e]; exact q, r⟩
theorem Keep.tabbed {X : List Addr} {H H' : Hp} {P : Addr} (hP : P ∈ X) (h : GxR.Tabbed P H H') : Keep X H H' := fun b o e n => by rw [h.2 b (fun z => n (by rw [z]; exact hP))]; exact e
/-- what a def that reads and makes leaves: the tables may have grown -/
structure Aft (Ts : List Addr) (H H' : Hp) : Prop where
  kp : Keep Ts H H'
  tb : Tabs Ts H'
theorem Aft.trans {Ts : List Addr} {H H1 H2 : Hp} (a : Aft Ts H H1) (b : Aft Ts H1 H2) : Aft Ts H H2 := ⟨a.kp.trans b.kp, b.tb⟩
theorem Aft.refl {Ts : List Addr} {H : Hp} (t : Tabs Ts H) : Aft Ts H H := ⟨Keep.refl, t⟩
theorem Aft.new {Ts : List Addr} {H : Hp} {p : Addr} {o : HO} (t : Tabs Ts H) (n : H p = Option.none) : Aft Ts H (L2.upd H p o) := ⟨Keep.new n, t.upd (t.none n)⟩
theorem Aft.tup {Ts : List Addr} {H H' : Hp} (a : Aft Ts H H') (t : Tabs Ts H) {b : Addr} {xs : List V} (e : H b = some (.tup xs)) : H' b = some (.tup xs) := a.kp b _ e (t.tup e)
theorem Aft.lst {Ts : List Addr} {H H' : Hp} (a : Aft Ts H H') (t : Tabs Ts H) {b : Addr} {xs : List V} (e : H b = some (.lst xs)) : H' b = some (.lst xs) := a.kp b _ e (t.lst e)
/-! ### the law's end with the tables of its defs -/
def TabOf (K : PySem.W.Frag) (mg : Str → Option Value) (h : Heap) (x : Str) : Prop := ∀ (fa c P : Addr) (o : Obj) (fd : FuncData) (e : Value) (dd : Option Addr) (vs : Array Value) (sl : Array (Option Value)),
  mg x = some (.ref fa) → K.lookup fa = some o → o.data = .func fd → fd.code = .ref c → K.lookup c = some ⟨e, dd, .fields vs, sl⟩ → vs[11]? = some (.ref P) → h.get? P = some { cls := .none, data := .fields #[] }
theorem walk_defs {l : PySem.W.OpenLaw} {n k : Nat} {q : Program} {loose : List Str} {XP : (Str → Option Value) → Heap → Prop} {YP : World → Heap → Prop} {d : DefRec} {K : Params → PySem.W.Frag} {CX : World → CXT} {x : Str}
    (hn : l.most = some n) (hn2 : n ≤ sizeLine) (hdf : d.params.defaults = []) (hr : Room k callerA) (hY : ∀ (w : World) (h : Heap), YP w h → (K w.params).In h)
    (F : ∀ (w : World) (mg : Str → Option Value) (fa : Addr) (h : Heap), YP w h → (K w.params).In h → h.Ns mainGlobals mg → mg d.name = some (.ref fa) → (∀ y : Str, ((recsOf q).any fun e => e.name == y) = true → TabOf (K w.params) mg h y) → LamX.LawAtS l w (K w.params) (CX w) k n x mg fa h)
    (hCX : ∀ (w : World) (H : Hp) (s : Shared) (e : Value) (s' : Shared), CX w [] H s (fun _ _ _ => False) e s' → False) :
    PySem.W.WalkO q loose XP YP l.row.toRowW d [] (fun f vs => PySem.call f vs) := by
  refine Att.attach_callB hn hdf fun w s₀ s₁ mg mb fa o pm cd doc a vs ns G Y ho hd hcd hmg hobj hints hlen hbits hg => ?_
  have KX := hY w _ Y
  have own : ∀ y : Str, ((recsOf q).any fun e => e.name == y) = true → TabOf (K w.params) mg s₁.heap y := fun y hrec fa c P o1 fd1 e dd vs1 sl k0 k1 k2 k3 k4 k5 => by
    obtain ⟨dL, hm, hn1⟩ := List.any_eq_true.mp hrec
    have hn2 : dL.name = y := beq_iff_eq.mp hn1
    obtain ⟨a', o', fd', c', P', h1, h2, h3, h4, h5, h6⟩ := G.T.tab dL hm
    rw [hn2, k0] at h1
    cases h1
    have g1 := KX _ _ k1
    rw [g1] at h2
    cases h2
    rw [k2] at h3
    cases h3
    rw [k3] at h4
    cases h4
    obtain ⟨⟨oc, vc, e1, _, e3, e4⟩, hP⟩ := h6
    have g2 := KX _ _ k4
    rw [g2] at e1
    cases e1
    cases e3
    rw [k5] at e4
    cases e4
    exact hP
  obtain ⟨fd, cs, sp, hT, nT, C, hb, hsp, hF⟩ := F w mg fa _ Y KX G.T.g hmg own
  exact LamX.law_callTs KX G.T.g G.T.b G.T.builtins G.T.nolimit hg hT nT C G.T.bmain hobj hints (Nat.le_trans hlen hn2) hr hF hb (fun H hH hS => hsp H a ns hlen hbits hH hS) fun H e s' => hCX w H s₁ e s'
theorem codeHd_of {K : PySem.W.Frag} {h : Heap} (X : K.In h) {c P : Addr} {dd : Option Addr} {vs : Array Value} {sl : Array (Option Value)} {file : Str} {tf tg tt : Tok} {flags text : Int} {inF : Bool} (lc : K.lookup c = some ⟨.type "code", dd, .fields vs, sl⟩)
    (e : vs[11]? = some (.ref P) ∧ vs.getD 11 .none = .ref P ∧ vs.getD 18 .none = .str file tf ∧ vs.getD 7 .none = .int flags tg ∧ vs.getD 9 .none = .bool inF ∧ vs.getD 10 .none = .int text tt ∧ c ≠ P) : PySem.W.CodeHd h c P :=
  ⟨_, vs, file, tf, flags, tg, inF, text, tt, X c _ lc, rfl, rfl, e.1, e.2.1, e.2.2.1, e.2.2.2.1, e.2.2.2.2.1, e.2.2.2.2.2.1, e.2.2.2.2.2.2⟩
theorem tabB_of {base : Heap} {mg : Str → Option Value} {c P : Addr} (t : LamX.TabB base mg c P) : GxR.TabB base mg c P := ⟨t.code, t.bm, t.gP⟩
/-! ### small things -/
theorem small (n : Nat) (h : n ≤ 100000 := by decide) : n ≤ sizeLine := Nat.le_trans h (by decide)
theorem at0 {a : V} {r : List V} : atI (a :: r) 0 = some a := atI_nat (j := 0) rfl
theorem at1 {a b : V} {r : List V} : atI (a :: b :: r) 1 = some b := atI_nat (j := 1) rfl
theorem at2 {a b c : V} {r : List V} : atI (a :: b :: c :: r) 2 = some c := atI_nat (j := 2) rfl
end GX
set_option Elab.async false
set_option linter.all false
set_option maxRecDepth 100000
set_option maxHeartbeats 4000000
/-! Nets as data, and how they stand in the heap. -/
namespace GX
open PySem PySem.Spec PyProof.Rows L2
structure Net where
  many : Nat
  gates : List (Nat × Nat × Nat)
  outs : List Nat
def gateOk (many i : Nat) (g : Nat × Nat × Nat) : Prop := g.1 < 16 ∧ g.2.1 < many + i ∧ g.2.2 < many + i
structure Net.Ok (n : Net) : Prop where
  m1 : 1 ≤ n.many
  m8 : n.many ≤ 8
  g16 : n.gates.length ≤ 16
  gs : ∀ (i : Nat) (g : Nat × Nat × Nat), n.gates[i]? = some g → gateOk n.many i g
  o1 : 1 ≤ n.outs.length
  o8 : n.outs.length ≤ 8
  os : ∀ o ∈ n.outs, o < n.many + n.gates.length
def nV (n : Nat) : V := .int (n : Int)
def gV (g : Nat × Nat × Nat) : List V := [nV g.1, nV g.2.1, nV g.2.2]
/-- the gates at these addresses -/
def GatesAt (H : Hp) (ps : List Addr) (gs : List (Nat × Nat × Nat)) : Prop := ps.length = gs.length ∧ ∀ (i : Nat) (p : Addr) (g : Nat × Nat × Nat), ps[i]? = some p → gs[i]? = some g → H p = some (.tup (gV g))
structure NetAt (H : Hp) (a : Addr) (n : Net) (g o : Addr) (ps : List Addr) : Prop where
  top : H a = some (.tup [nV n.many, .ref g, .ref o])
  gt : H g = some (.tup (ps.map V.ref))
  gs : GatesAt H ps n.gates
  ot : H o = some (.tup (n.outs.map nV))
theorem GatesAt.nil (H : Hp) : GatesAt H [] [] := ⟨rfl, fun i p g e _ => by simp at e⟩
theorem GatesAt.mono {H H' : Hp} {ps : List Addr} {gs : List (Nat × Nat × Nat)} (x : GatesAt H ps gs) (k : ∀ b xs, H b = some (.tup xs) → H' b = some (.tup xs)) : GatesAt H' ps gs := ⟨x.1, fun i p g e1 e2 => k _ _ (x.2 i p g e1 e2)⟩
theorem NetAt.mono {H H' : Hp} {a g o : Addr} {n : Net} {ps : List Addr} (x : NetAt H a n g o ps) (k : ∀ b xs, H b = some (.tup xs) → H' b = some (.tup xs)) : NetAt H' a n g o ps := ⟨k _ _ x.top, k _ _ x.gt, x.gs.mono k, k _ _ x.ot⟩
theorem GatesAt.push {H : Hp} {ps : List Addr} {gs : List (Nat × Nat × Nat)} {p : Addr} {g : Nat × Nat × Nat} (x : GatesAt H ps gs) (h : H p = some (.tup (gV g))) : GatesAt H (ps ++ [p]) (gs ++ [g]) := by
  refine ⟨by rw [List.length_append, List.length_append, x.1]; rfl, fun i q g' e1 e2 => ?_⟩
  by_cases hi : i < ps.length
  · rw [List.getElem?_append_left hi] at e1
    rw [List.getElem?_append_left (by rw [← x.1]; exact hi)] at e2
    exact x.2 i q g' e1 e2
  · rw [List.getElem?_append_right (by omega)] at e1
    rw [List.getElem?_append_right (by rw [← x.1]; omega)] at e2
    have hz : i - ps.length = 0 := by
      obtain ⟨h1, _⟩ := List.getElem?_eq_some_iff.mp e1
      simp at h1
      omega
    rw [hz] at e1
    rw [← x.1, hz] at e2
    cases e1
    cases e2
    exact h
/-- what a tuple holds it keeps, where but X is kept and X holds none -/
theorem Keep.tups {X : List Addr} {H H' : Hp} (k : Keep X H H') (n : ∀ b ∈ X, ∀ xs, H b ≠ some (.tup xs)) : ∀ b xs, H b = some (.tup xs) → H' b = some (.tup xs) := fun b xs e => k b _ e fun z => n b z xs e
/-! ### the well -/
def Wl (H : Hp) (W : Addr) : Prop := ∃ a b c : Int, H W = some (.lst [.int a, .int b, .int c])
theorem Wl.nt {H : Hp} {W : Addr} (h : Wl H W) : ∀ b ∈ [W], ∀ xs, H b ≠ some (.tup xs) := fun b hb xs e => by
  rw [List.mem_singleton.mp hb] at e
  obtain ⟨_, _, _, q⟩ := h
  rw [e] at q
  cases q
theorem Wl.keep {X : List Addr} {H H' : Hp} {W : Addr} (h : Wl H W) (k : Keep X H H') (n : W ∉ X) : Wl H' W := by
  obtain ⟨a, b, c, e⟩ := h
  exact ⟨a, b, c, k _ _ e n⟩
theorem Wl.tab {Ts : List Addr} {H : Hp} {W : Addr} (h : Wl H W) (t : Tabs Ts H) : W ∉ Ts := by
  obtain ⟨a, b, c, e⟩ := h
  exact t.lst e
theorem Tabs.keep {Ts X : List Addr} {H H' : Hp} (t : Tabs Ts H) (k : Keep X H H') (n : ∀ b ∈ X, b ∉ Ts) : Tabs Ts H' := fun b hb => by
  obtain ⟨ps, q, r⟩ := t b hb
  exact ⟨ps, k b _ q fun z => n b z hb, r⟩
/-! ### words for the readings -/
theorem Same.keep {X : List Addr} {H H' : Hp} (s : Same H H') : Keep X H H' := fun b o e _ => s b o e
theorem Same.new {H : Hp} {p : Addr} {o : HO} (n : H p = none) : Same H (upd H p o) := fun b u e => by rw [upd_ne (ne_of_none e n)]; exact e
theorem catA {K : PySem.W.Frag} {H : Hp} {a b : Addr} {xs ys : List V} {Q : VK} (h1 : H a = some (.tup xs)) (h2 : H b = some (.tup ys)) (hz : xs.length + ys.length ≤ sizeLine) (q : ∀ r H', Same H H' → H' r = some (.tup (xs ++ ys)) → Q (.ref r) H') : rCatA K (.ref a) (.ref b) H Q := by
  refine ⟨a, b, xs, ys, rfl, rfl, SqT.of h1, SqT.of h2, hz, fun e => ?_, fun e1 e2 => ?_, fun e1 e2 p hp => ?_⟩
  · exact q b H (Same.refl _) (by rw [e]; exact h2)
  · exact q a H (Same.refl _) (by rw [e2, List.append_nil]; exact h1)
  · exact q p _ (Same.new hp) upd_same
theorem slA {K : PySem.W.Frag} {H : Hp} {a : Addr} {xs : List V} {lo hi : Option Int} {Q : VK} (h1 : H a = some (.tup xs)) (q : ∀ r H', Same H H' → H' r = some (.tup (cutV xs lo hi)) → Q (.ref r) H') : rSlA K (.ref a) lo hi H Q := by
  refine ⟨a, xs, rfl, SqT.of h1, fun e => ?_, fun e p hp => ?_⟩
  · refine q a H (Same.refl _) ?_
    unfold cutV
    rw [e.1, e.2, List.drop_zero, Nat.sub_zero, List.take_length]
    exact h1
  · exact q p _ (Same.new hp) upd_same
theorem atIf {a b : V} {k : Bool} : atI [a, b] (if k = true then 1 else 0) = some (if k = true then b else a) := by cases k <;> rfl
theorem cut_lo (xs : List V) (n : Nat) : cutV xs (some (n : Int)) none = xs.drop n := by
  unfold cutV
  rw [show HT.sIx xs.length 0 (some (n : Int)) = min n xs.length from HT.sIx_nat xs.length 0 n, HT.sIx_none]
  by_cases h : n ≤ xs.length
  · rw [Nat.min_eq_left h, List.take_of_length_le]
    rw [List.length_drop]
    exact Nat.le_refl _
  · rw [Nat.min_eq_right (by omega), List.drop_of_length_le (Nat.le_refl _), List.drop_of_length_le (by omega), List.take_nil]
theorem cut_hi (xs : List V) (n : Nat) : cutV xs none (some (n : Int)) = xs.take n := by
  unfold cutV
  rw [show HT.sIx xs.length xs.length (some (n : Int)) = min n xs.length from HT.sIx_nat xs.length xs.length n, HT.sIx_none, List.drop_zero, Nat.sub_zero]
  by_cases h : n ≤ xs.length
  · rw [Nat.min_eq_left h]
  · rw [Nat.min_eq_right (by omega), List.take_of_length_le (by omega : xs.length ≤ n), List.take_length]
/-- the well stands, all else is kept -/
structure Wk (W : Addr) (H H' : Hp) : Prop where
  wl : Wl H' W
  kp : Keep [W] H H'
theorem Wk.nxt {W : Addr} {H H1 H2 : Hp} (s : Wk W H H1) (wl : Wl H2 W) (k : Keep [W] H1 H2) : Wk W H H2 := ⟨wl, s.kp.trans k⟩
theorem Wl.same {H H' : Hp} {W : Addr} (h : Wl H W) (s : Same H H') : Wl H' W := by
  obtain ⟨a, b, c, e⟩ := h
  exact ⟨a, b, c, s _ _ e⟩
theorem Wk.same {W : Addr} {H H1 H2 : Hp} (s : Wk W H H1) (e : Same H1 H2) : Wk W H H2 := ⟨s.wl.same e, s.kp.trans (Same.keep e)⟩
theorem Wk.new {W : Addr} {H H1 : Hp} {p : Addr} {o : HO} (s : Wk W H H1) (n : H1 p = none) : Wk W H (upd H1 p o) := s.same (Same.new n)
/-- a tuple stands behind a draw -/
theorem Wl.tup {H H' : Hp} {W : Addr} (h : Wl H W) (k : Keep [W] H H') {b : Addr} {xs : List V} (e : H b = some (.tup xs)) : H' b = some (.tup xs) := k.tups h.nt b xs e
theorem Wl.gates {H H' : Hp} {W : Addr} (h : Wl H W) (k : Keep [W] H H') {ps : List Addr} {gs : List (Nat × Nat × Nat)} (x : GatesAt H ps gs) : GatesAt H' ps gs := x.mono (k.tups h.nt)
theorem Same.gates {H H' : Hp} (s : Same H H') {ps : List Addr} {gs : List (Nat × Nat × Nat)} (x : GatesAt H ps gs) : GatesAt H' ps gs := x.mono fun b xs e => s b _ e
/-- a list of our own, filled behind H: all that was stands -/
structure Own (H H' : Hp) (l : Addr) (xs : List V) : Prop where
  sm : Same H H'
  at_ : H' l = some (.lst xs)
  nw : H l = none
theorem Own.app {H H' : Hp} {l : Addr} {xs : List V} {y : V} (o : Own H H' l xs) : Own H (upd H' l (.lst (xs ++ [y]))) l (xs ++ [y]) :=
  ⟨fun b u e => by rw [upd_ne (ne_of_none e o.nw)]; exact o.sm b u e, upd_same, o.nw⟩
theorem NetAt.same {H H' : Hp} {a g o : Addr} {n : Net} {ps : List Addr} (x : NetAt H a n g o ps) (s : Same H H') : NetAt H' a n g o ps := x.mono fun b xs e => s b _ e
theorem Tabs.same {Ts : List Addr} {H H' : Hp} (t : Tabs Ts H) (s : Same H H') : Tabs Ts H' := fun b hb => by
  obtain ⟨ps, q, r⟩ := t b hb
  exact ⟨ps, s _ _ q, r⟩
theorem Aft.ofSame {Ts : List Addr} {H H' : Hp} (t : Tabs Ts H) (s : Same H H') : Aft Ts H H' := ⟨Same.keep s, Tabs.same t s⟩
theorem NetAt.aft {Ts : List Addr} {H H' : Hp} {a g o : Addr} {n : Net} {ps : List Addr} (x : NetAt H a n g o ps) (t : Tabs Ts H) (s : Aft Ts H H') : NetAt H' a n g o ps := x.mono fun b xs e => s.tup t e
/-! ### rules with the written part named (for generator expressions) -/
section
variable {X : Cx} {K : PySem.W.Frag}
theorem ix_tupK (h : X.K = K := by rfl) : IxR X (rIxT K) := by subst h; exact ix_tup
theorem ix_listK (h : X.K = K := by rfl) : IxR X (rIxL K) := by subst h; exact ix_list
theorem op_notIn_seqK (h : X.K = K := by rfl) : OpR X (compareOp .NotIn) (rIn K true) := by subst h; exact op_notIn_seq
theorem len_seqK (h : X.K = K := by rfl) : CallR X (.builtin "len") (fun xs H Q => ∃ p ys, xs = [.ref p] ∧ (SqL K H p ys ∨ SqT K H p ys) ∧ Q (.int ys.length) H) := by subst h; exact call_len_seq
end
end GX
set_option Elab.async false
set_option linter.all false
set_option maxRecDepth 100000
set_option maxHeartbeats 4000000
/-! enumerate of a tuple, walked. -/
namespace GX
open PySem PySem.Spec PyProof.Rows L2
open AutoSeq1 (wpAny_loadPart')
end GX
set_option Elab.async false
set_option linter.all false
set_option maxRecDepth 100000
set_option maxHeartbeats 4000000
/-! t[::-1] of a tuple. -/
namespace GX
open PySem PySem.Spec PyProof.Rows L2 HT
end GX
set_option Elab.async false
set_option linter.all false
set_option maxRecDepth 100000
set_option maxHeartbeats 4000000
/-! A tuple times an int of one or more. -/
namespace GX
open PySem PySem.Spec PyProof.Rows L2
open AutoSeq1 (wpAny_loadPart')
end GX
set_option Elab.async false
set_option linter.all false
set_option maxRecDepth 100000
set_option maxHeartbeats 4000000
/-! set(xs) of whole numbers, xs a list or a tuple; sorted of it. -/
namespace GX
open PySem PySem.Spec PyProof.Rows L2
/-- a set as it is made, empty -/
def fset (w : World) : Obj := { cls := .type "set", dict := none, data := .set #[] 0 (.fresh 0 0 (!w.params.followText "set-order")) }
section
variable {P : Program} {w : World} {A : Around} {E : Value → Shared → Prop} {s : Shared}
/-- what set(l) leaves: the set of ns at the next address -/
def Left (w : World) (s : Shared) (ns : List Int) (r : Value) (t : Shared) : Prop :=
  r = .none ∧ ∃ g tk c, t = { s with heap := g, toks := tk } ∧ SetR w g s.heap.objs.size (fun j => decide (j ∈ ns)) c ∧ c ≤ ns.length ∧ ∀ b o, s.heap.get? b = some o → g.get? b = some o
theorem init_list {l : Addr} {its : Array Value} {ns : List Int} (hh : A.handled = none) (hl : s.heap.IsList l its) (hi : IntsAre its.toList ns) (hb : ns.length + 1 < scanBound) :
    codeAny (model P w) A (.call (.builtin "set.__init__") ⟨[.ref s.heap.objs.size, .ref l], []⟩) (wants (Left w s ns) E) { s with heap := s.heap.push (fset w) } := by
  have eN : its.size = ns.length := by
    have z := IntsAre.length hi
    rwa [Array.length_toList] at z
  have atS : (s.heap.push (fset w)).get? s.heap.objs.size = some (fset w) := Heap.get?_push_size _ rfl
  refine codeAny_call_builtin F.called_set.init.plain F.entry_set_init (check_set_init_1 ⟨_, atS, rfl⟩ ?_)
  obtain ⟨⟨k1, k2, k3, k4⟩, hol, e1, m, e2⟩ := hl
  dsimp only at e1 e2
  subst e1
  subst e2
  have on : (s.heap.push (fset w)).get? l = some ⟨.type "list", k2, .seq its m, k4⟩ := Heap.get?_push_of_some _ hol
  have u1 := F.sub_list_set
  have u2 := F.sub_list_frozenset
  have u3 : (Value.type "list" == Value.type "dict") = false := by decide
  have isL : (s.heap.push (fset w)).IsList l its := ⟨_, on, rfl, m, rfl⟩
  unfold Builtin.«set.__init__» noKeywords Builtin.Frozenset.updateFrom
  generalize eP : pyIter = PI
  wp_walk
  subst eP
  refine wpAny_pyIter_list isL (wpAny_bind (wpAny_runValue ?_))
  have lt : l < s.heap.objs.size := Heap.lt_size hol
  have zz : (s.heap.push (fset w)).objs.size = s.heap.objs.size + 1 := Heap.size_push ..
  have ne1 : l ≠ (s.heap.push (fset w)).objs.size := by rw [zz]; exact Nat.ne_of_lt (Nat.lt_succ_of_lt lt)
  have ne2 : s.heap.objs.size ∉ [(s.heap.push (fset w)).objs.size, l] := by
    intro z
    rcases List.mem_cons.mp z with z | z
    · rw [zz] at z
      exact Nat.ne_of_lt (Nat.lt_succ_self _) z
    · exact Nat.ne_of_gt lt (List.mem_singleton.mp z)
  have vals : ∀ (i : Nat) (v : Value), its[i]? = some v → ∃ k t, ns[i]? = some k ∧ v = .int k t := fun i v hv => by
    have hlt : i < ns.length := by rw [← eN]; exact (Array.getElem?_eq_some_iff.mp hv).1
    obtain ⟨t, e⟩ := IntsAre.int_at hi i v (by rw [Array.getElem?_toList]; exact hv)
    refine ⟨ns[i], t, List.getElem?_eq_getElem hlt, e.trans ?_⟩
    show Value.int (ns.getD i 0) t = _
    rw [List.getD_eq_getElem?_getD, List.getElem?_eq_getElem hlt]
    rfl
  have h3 : A.in1.in1.handled = none := by simp [hh]
  refine set_update_ints (Walks.list h3 _ l ne1 its).toS s.heap.objs.size ne2 ns eN hb vals (its.size - 0) 0 _ (by omega) (Nat.zero_le _) ?st ?s0 ?rest
  case st => exact ⟨⟨_, Heap.get?_push_size _ rfl, rfl, rfl⟩, isL.push _⟩
  case s0 => exact ⟨0, Nat.le_refl 0, setR_new_at (Heap.get?_push_of_some _ atS)⟩
  intro t c mv hc hS
  obtain ⟨h', g2, d2, tk, o2⟩ := t
  obtain rfl : g2 = s.gens := mv.gens
  obtain rfl : d2 = s.drawn := mv.drawn
  obtain rfl : o2 = s.os := mv.os
  show wpAny _ _ _ _ _ _
  refine wpAny_pure ?_
  show wpAny _ _ (ret Value.none) _ _ _
  refine wpAny_pure ⟨rfl, h', tk, c, rfl, hS, by omega, fun b o e => ?_⟩
  have lb : b < s.heap.objs.size := Heap.lt_size e
  refine mv.heap b o (fun z => ?_) (Heap.get?_push_of_some _ (Heap.get?_push_of_some _ e))
  rcases List.mem_cons.mp z with z | z
  · exact Nat.ne_of_lt lb z
  · have z' := List.mem_singleton.mp z
    rw [zz] at z'
    exact Nat.ne_of_lt (Nat.lt_succ_of_lt lb) z'
theorem call_set_of {l : Addr} {ns : List Int} {Q : Value → Shared → Prop}
    (hin : codeAny (model P w) A.in1 (.call (.builtin "set.__init__") ⟨[.ref s.heap.objs.size, .ref l], []⟩) (wants (Left w s ns) E) { s with heap := s.heap.push (fset w) })
    (h : ∀ g tk c, SetR w g s.heap.objs.size (fun j => decide (j ∈ ns)) c → c ≤ ns.length → (∀ b o, s.heap.get? b = some o → g.get? b = some o) → Q (.ref s.heap.objs.size) { s with heap := g, toks := tk }) :
    wpAny (model P w) A (call (.type "set") [.ref l]) Q E s := by
  obtain ⟨c, tl, q1⟩ := F.called_set.mro
  have q2 := F.called_set.made
  have q3 := F.called_set.sub
  refine wpAny_call (codeAny_of_tree ?_)
  show wpAny _ _ (callAny (.type "set") ⟨[.ref l], []⟩) _ _ s
  refine wpAny_pure ⟨Code.quiet_builtin _ (by decide +kernel), codeAny_builtin F.entry_type_call ?_⟩
  rw [Around.under_plain (weight_type_call_type "set" [.ref l] []) rfl]
  have q4 := F.called_set.notType
  have q5 := F.called_set.canCreate
  have q6 := F.typeCall_set_1 (.ref l)
  repeat (any_goals (first | assumption | wp_step))
  refine codeAny_mono (code_set_led1 (.ref l) (E := E) (Q₁ := fun v t => v = .ref s.heap.objs.size ∧ t = { s with heap := s.heap.push (fset w) }) ⟨rfl, rfl⟩) fun r t hr => ?_
  cases r with
  | error e => exact hr
  | ok f =>
    cases f with
    | ret v =>
      obtain ⟨rfl, rfl⟩ := hr
      have q7 : Shared.TypeIs { s with heap := s.heap.push (fset w) } (.ref s.heap.objs.size) "set" := ⟨fset w, Heap.get?_push_size _ rfl, rfl⟩
      have q8 := F.called_set.init.lookup
      have q9 := F.called_set.init.bind (.ref s.heap.objs.size)
      repeat (any_goals (first | assumption | wp_step))
      refine codeAny_mono hin fun r2 t2 hr2 => ?_
      cases r2 with
      | error e => exact hr2
      | ok f2 =>
        cases f2 with
        | ret v2 =>
          obtain ⟨rfl, g, tk, c2, rfl, k1, k2, k3⟩ := hr2
          repeat (any_goals (first | assumption | wp_step))
          exact h g tk c2 k1 k2 k3
        | _ => exact hr2.elim
    | _ => exact hr.elim
theorem set_of_list {l : Addr} {its : Array Value} {ns : List Int} {Q : Value → Shared → Prop} (hh : A.handled = none) (hl : s.heap.IsList l its) (hi : IntsAre its.toList ns) (hb : ns.length + 1 < scanBound)
    (h : ∀ g tk c, SetR w g s.heap.objs.size (fun j => decide (j ∈ ns)) c → c ≤ ns.length → (∀ b o, s.heap.get? b = some o → g.get? b = some o) → Q (.ref s.heap.objs.size) { s with heap := g, toks := tk }) :
    wpAny (model P w) A (call (.type "set") [.ref l]) Q E s := call_set_of (init_list (by simp [hh]) hl hi hb) h
end
/-- set(xs) -/
def rSetN (K : PySem.W.Frag) (w : World) : List V → Hp → VK → Prop := fun xs H Q => ∃ (p : Addr) (ns : List Nat), xs = [.ref p] ∧ (SqL K H p (ns.map nV) ∨ SqT K H p (ns.map nV)) ∧ ns.length ≤ 60 ∧
  ∀ (q : Addr) (c : Nat), H q = none → c ≤ ns.length → Q (.ref q) (upd H q (SetO w q (fun j => decide (j ∈ ns.map fun n : Nat => (n : Int))) c))
theorem vals_n : ∀ {ns : List Nat} {us : List Value}, Vals (ns.map nV) us → IntsAre us (ns.map fun n : Nat => (n : Int))
  | [], _, .nil => .nil
  | n :: ns, _, .cons r t => by
    obtain ⟨k, rfl⟩ := r
    exact .cons n k (vals_n t)
theorem cr_setN {X : Cx} (hc : X.calm = true) : CallR X (.type "set") (rSetN X.K X.w) := by
  intro pins s σ H xs us Q I r h
  obtain ⟨p, ns, rfl, hq, hn, q⟩ := h
  rw [Vals.ref1 r]
  have hln : (ns.map fun n : Nat => (n : Int)).length = ns.length := List.length_map ..
  have hb : (ns.map fun n : Nat => (n : Int)).length + 1 < scanBound := by rw [hln]; unfold scanBound; omega
  have fin : ∀ (g : Heap) (tk c : Nat), SetR X.w g s.heap.objs.size (fun j => decide (j ∈ ns.map fun n : Nat => (n : Int))) c → c ≤ (ns.map fun n : Nat => (n : Int)).length → (∀ b o, s.heap.get? b = some o → g.get? b = some o) →
      EP X pins σ Q (.ref s.heap.objs.size) { s with heap := g, toks := tk } := fun g tk c hS hcl hk =>
    ⟨.ref s.heap.objs.size, _, I.laid (t' := tk) (o := SetO X.w s.heap.objs.size (fun j => decide (j ∈ ns.map fun n : Nat => (n : Int))) c) hk (Nat.le_refl _) (setO_new hS), rfl, q _ _ (I.hok.fresh (Nat.le_refl _)) (by rw [← hln]; exact hcl)⟩
  rcases hq with hq | hq
  · obtain ⟨its, rv, p1, _⟩ := I.list hq
    exact set_of_list (I.ok.hd hc) p1.isList (by simpa using vals_n rv) hb fin
  · obtain ⟨its, rv, p1, _⟩ := I.tuple hq
    exact call_set_tupI _ (I.ok.hd hc) p1 (by simpa using vals_n rv) hb fin
/-- sorted(set(xs)): the unlike ones, rising -/
theorem sorted_set_nat {ns : List Nat} {out : List Int} (pw : out.Pairwise (· < ·)) (hm : ∀ k : Int, k ∈ out ↔ decide (k ∈ ns.map fun n : Nat => (n : Int)) = true) : ∃ ys : List Nat, out = (ys.map fun n : Nat => (n : Int)) ∧ ys.Pairwise (· < ·) ∧ ∀ z, z ∈ ys ↔ z ∈ ns := by
  have hm' : ∀ k : Int, k ∈ out ↔ k ∈ ns.map fun n : Nat => (n : Int) := fun k => (hm k).trans decide_eq_true_iff
  have hnn : ∀ i ∈ out, 0 ≤ i := fun i hi => by
    obtain ⟨x, _, rfl⟩ := List.mem_map.mp ((hm' i).mp hi)
    omega
  refine ⟨out.map Int.toNat, ?_, ?_, fun z => ⟨fun h => ?_, fun h => ?_⟩⟩
  · rw [List.map_map]
    conv => lhs; rw [← List.map_id out]
    refine List.map_congr_left fun i hi => ?_
    show i = ((i.toNat : Nat) : Int)
    rw [Int.toNat_of_nonneg (hnn i hi)]
  · rw [List.pairwise_map]
    refine List.Pairwise.imp_of_mem (fun {a b} ha hb h => ?_) pw
    have := hnn a ha
    have := hnn b hb
    omega
  · obtain ⟨i, hi, rfl⟩ := List.mem_map.mp h
    obtain ⟨x, hx, rfl⟩ := List.mem_map.mp ((hm' i).mp hi)
    rw [Int.toNat_natCast]
    exact hx
  · exact List.mem_map.mpr ⟨(z : Int), (hm' _).mpr (List.mem_map.mpr ⟨z, h, rfl⟩), Int.toNat_natCast z⟩
end GX
set_option Elab.async false
set_option linter.all false
set_option maxRecDepth 100000
set_option maxHeartbeats 4000000
/-! sorted(l), l a list of tuples of ints, of any lengths from 1 on. -/
namespace GX
open PySem PySem.Spec PyProof.Rows L2 Srt
open SrtO (Cmp SortableO lt2 Srtd Stb)
section
variable {prog : Program} {w : World} {A : Around} {E : Value → Shared → Prop} {s : Shared}
theorem lex_any {b R fin : Bool} : ∀ {xs ys : List Value} {ns ms : List Int} (i : Nat), IntsAre xs ns → IntsAre ys ms → fin = decide (ns.length < ms.length) → R = HT.lexLt ns ms → PySem.W.KatLex prog w A b fin (fun r s' => s' = s ∧ r = R) (xs.zip ys) i s
  | _, _, _, _, i, .nil, hy, hf, hR => by
    rw [List.zip_nil_left]
    refine PySem.W.kat_nil ⟨rfl, ?_⟩
    rw [hf, hR]
    cases hy with
    | nil => rfl
    | cons m u r => rfl
  | _, _, _, _, i, .cons n t r, hy, hf, hR => by
    cases hy with
    | nil =>
      rw [List.zip_nil_right]
      refine PySem.W.kat_nil ⟨rfl, ?_⟩
      rw [hf, hR]
      rfl
    | cons m u r' =>
      rw [List.zip_cons_cons]
      refine PySem.W.kat_cons (SeqAt.EqAt.int_int n t m u prog w _ _ ?_)
      rw [HT.lexLt_cons] at hR
      refine PySem.W.kat_go (fun e1 => ?_) (fun e1 => ?_)
      · have ex : n = m := by simpa using e1
        rw [if_pos ex] at hR
        refine PySem.W.kat_yes (lex_any (i + 1) r r' ?_ hR)
        rw [hf]
        exact decide_eq_decide.mpr ⟨Nat.lt_of_succ_lt_succ, Nat.succ_lt_succ⟩
      · have ex : ¬ n = m := by simpa using e1
        rw [if_neg ex] at hR
        exact PySem.W.kat_no (TS.oneLt_ints _ ⟨rfl, hR.symm⟩)
theorem tups_cmp {vs : List Value} {k : Value → List Int} (hp : ∀ v ∈ vs, TS.TupInts s.heap v (k v)) : Cmp prog w A s (tuples' true) (fun p => p.1 ∈ vs) (lt2 fun v u => HT.lexLt (k v) (k u)) := by
  intro p q hm hm'
  obtain ⟨a, xs, e, ⟨o, ho, hc, n, hd⟩, hi⟩ := hp _ hm
  obtain ⟨a', ys, e', ⟨o', ho', hc', n', hd'⟩, hi'⟩ := hp _ hm'
  show wpAny (model prog w) A (keyLt' (tuples' true) p.1 q.1) (fun r s' => s' = s ∧ r = HT.lexLt (k p.1) (k q.1)) (fun _ _ => False) s
  generalize k p.1 = ns at hi ⊢
  generalize k q.1 = ms at hi' ⊢
  rw [e, e']
  refine PySem.W.kat_lt ho hd ho' hd' (lex_any 0 hi hi' ?_ rfl)
  have z1 : xs.size = ns.length := by rw [← hi.length]; simp
  have z2 : ys.size = ms.length := by rw [← hi'.length]; simp
  rw [z1, z2]
theorem tups_firsts {h : Heap} {k : Value → List Int} : ∀ {vs : List Value}, (∀ v ∈ vs, TS.TupInts h v (k v) ∧ k v ≠ []) → ∃ fs, PySem.W.KatTups h vs fs ∧ fs.length = vs.length ∧ ∀ f ∈ fs, ∃ x t, f = Value.int x t
  | [], _ => ⟨[], PySem.W.KatTups.nil, rfl, fun f hf => absurd hf (by simp)⟩
  | v :: vs, hp => by
    obtain ⟨fs, h1, h2, h3⟩ := tups_firsts fun u hu => hp u (List.mem_cons_of_mem _ hu)
    obtain ⟨⟨a, xs, e, ⟨o, ho, hc, n, hd⟩, hi⟩, hne⟩ := hp v List.mem_cons_self
    cases hk : k v with
    | nil => exact absurd hk hne
    | cons x r =>
      rw [hk] at hi
      generalize hxs : xs.toList = l at hi
      cases hi with
      | cons n0 t0 r0 =>
        have h0 : xs[0]? = some (Value.int x t0) := by
          have : xs.toList[0]? = some (Value.int x t0) := by rw [hxs]; rfl
          simpa using this
        subst e
        refine ⟨Value.int x t0 :: fs, PySem.W.KatTups.cons ho hc hd h0 h1, by rw [List.length_cons, List.length_cons, h2], fun f hf => ?_⟩
        rcases List.mem_cons.mp hf with rfl | hf
        · exact ⟨_, _, rfl⟩
        · exact h3 f hf
theorem tups_sortable {a : Addr} {vs : List Value} {k : Value → List Int} (h0 : 0 < vs.length) (hp : ∀ v ∈ vs, TS.TupInts s.heap v (k v) ∧ k v ≠ []) (ha : ∀ o, s.heap.get? a = some o → o.cls ≠ .type "tuple") : SortableO prog w A s a vs fun v u => HT.lexLt (k v) (k u) := by
  intro h' keep
  have hp' : ∀ v ∈ vs, TS.TupInts h' v (k v) ∧ k v ≠ [] := fun v hm => ⟨(hp v hm).1.keeps fun b o e c => keep b o (fun z => by subst z; exact ha o e c) e, (hp v hm).2⟩
  obtain ⟨fs, h1, h2, h3⟩ := tups_firsts hp'
  refine ⟨tuples' true, fun Q E hq => ?_, tups_cmp fun v hv => (hp' v hv).1⟩
  refine PySem.W.kat_kind (T := .type "int") h1 (by omega) (fun f hm => ?_) (by rfl) ?_
  · obtain ⟨x, t, rfl⟩ := h3 f hm
    exact PySem.W.Looks.now
  · have e : (Value.type "int" != Value.type "tuple") = true := by first | decide +kernel | rfl | decide
    rw [e]
    exact hq
end
def rSortTup (K : PySem.W.Frag) : List V → Hp → VK → Prop := fun vs H Q => ∃ (a : Addr) (xs : List V) (k : V → List Int), vs = [V.ref a] ∧ SqL K H a xs ∧ (∀ x ∈ xs, (∃ t, x = V.ref t ∧ H t = some (.tup ((k x).map V.int))) ∧ k x ≠ []) ∧
  ∀ ys p, Srtd (fun x y => HT.lexLt (k x) (k y)) ys → ys.Perm xs → H p = none → Q (.ref p) (upd H p (.lst ys))
theorem cr_sortTup {X : Cx} : CallR X (.builtin "sorted") (rSortTup X.K) := by
  intro pins s σ H vs us Q I r h
  obtain ⟨a, xs, k, rfl, hs, hx, q⟩ := h
  obtain ⟨its, rv, hl, hz⟩ := I.list hs
  rw [Vals.ref1 r]
  obtain ⟨e1, e2⟩ := refs_back rv fun x m => by
    obtain ⟨⟨t, e, _⟩, _⟩ := hx x m
    exact ⟨t, e⟩
  have hp : ∀ v ∈ its, TS.TupInts s.heap v (k (backV v)) ∧ k (backV v) ≠ [] := fun v hv => by
    obtain ⟨t, rfl⟩ := e2 v hv
    have hm : V.ref t ∈ xs := by rw [e1]; exact List.mem_map.mpr ⟨_, hv, rfl⟩
    obtain ⟨⟨t', e, ht⟩, hne⟩ := hx _ hm
    cases e
    exact ⟨tupI_raw I (SqT.of ht), hne⟩
  refine SrtO.sorted_ord (ltv := fun v u => HT.lexLt (k (backV v)) (k (backV u))) (NtL.swo_lexL fun v => k (backV v)) hl.isList (by rw [← rv.length]; exact hz) (fun h2 h₁ a' ha kk => ?_) fun out hs hb => ?_
  · refine tups_sortable (s := { s with heap := h₁ }) (by omega) (fun v hm => ⟨(hp v hm).1.keeps fun b o e _ => (kk b o e).2, (hp v hm).2⟩) fun o e => ?_
    have e' : some o = some (seqObj "list" its.toArray 0) := e.symm.trans ha
    cases e'
    intro c
    exact absurd (Value.type.inj c) (by decide)
  · obtain ⟨ep, he'⟩ := PyProof.Rows.sortedAll_at s.heap its out.toArray
    have h3 : ∀ u ∈ out, ∃ a, u = Value.ref a := fun u hu => e2 u (hb.perm.mem_iff.mp hu)
    have hpm : (out.map backV).Perm xs := by
      rw [e1]
      exact hb.perm.map backV
    have hlen : (out.map backV).length ≤ sizeLine := by
      rw [hpm.length_eq]
      exact hz
    exact ⟨.ref _, upd H (s.heap.objs.size + 1) (.lst (out.map backV)), I.laid (t' := s.toks) (fun _ _ => PyProof.Rows.sortedAll_old) (Nat.le_succ _) ⟨hlen, out, ep, vals_back h3, he'⟩, rfl, q _ _ (SrtO.srtd_map hs) hpm (I.hok.fresh (Nat.le_succ _))⟩
end GX
set_option Elab.async false
set_option linter.all false
set_option maxRecDepth 100000
set_option maxHeartbeats 4000000
/-! sorted(l), l a list of pairs (n, tuple of ints). -/
namespace GX
open PySem PySem.Spec PyProof.Rows L2 Srt
open SrtO (Cmp SortableO lt2 Srtd Stb)
/-- v is a pair: an int, a tuple of ints -/
def PairP (h : Heap) (v : Value) (ns : List Int) : Prop := ∃ (a b : Addr) (n : Int) (t : Tok) (ks : List Int), v = .ref a ∧ ns = n :: ks ∧ IsTup h a #[.int n t, .ref b] ∧ TS.TupInts h (.ref b) ks
theorem PairP.keeps {h h' : Heap} {v : Value} {ns : List Int} (x : PairP h v ns) (k : ∀ b o, h.get? b = some o → o.cls = .type "tuple" → h'.get? b = some o) : PairP h' v ns := by
  obtain ⟨a, b, n, t, ks, e, en, ⟨o, ho, hc, hd⟩, ti⟩ := x
  exact ⟨a, b, n, t, ks, e, en, ⟨o, k _ _ ho hc, hc, hd⟩, ti.keeps k⟩
theorem items_mix {prog : Program} {w : World} : ∀ {xs : List Value} {ns : List Int}, IntsAre xs ns → ItemsAre (L2.mixKind prog w) (ns.map fun n => (Sum.inl n : L2.Key)) xs
  | _, _, .nil => .nil
  | _, _, .cons n t r => .cons (L2.mixKind_int prog w n t) (items_mix r)
section
variable {prog : Program} {w : World} {A : Around} {E : Value → Shared → Prop} {s : Shared}
theorem inl_inj : ∀ {ns ms : List Int}, ns.map (fun n => (Sum.inl n : L2.Key)) = ms.map (fun n => (Sum.inl n : L2.Key)) → ns = ms
  | [], [], _ => rfl
  | [], _ :: _, h => by cases h
  | _ :: _, [], h => by cases h
  | n :: ns, m :: ms, h => by
    obtain ⟨h1, h2⟩ := List.cons.inj h
    rw [Sum.inl.inj h1, inl_inj h2]
theorem lex_irr : ∀ ns : List Int, HT.lexLt ns ns = false
  | [] => HT.lexLt_nil_nil
  | n :: ns => by rw [HT.lexLt_cons, if_pos rfl]; exact lex_irr ns
theorem pairs_cmp {vs : List Value} {k : Value → List Int} (hu : A.units < cLine) (hp : ∀ v ∈ vs, PairP s.heap v (k v)) : Cmp prog w A s (tuples' true) (fun p => p.1 ∈ vs) (lt2 fun v u => HT.lexLt (k v) (k u)) := by
  intro p q hm hm'
  obtain ⟨a, b, n, t, ks, e, en, ⟨o, ho, hc, z, hd⟩, ti⟩ := hp _ hm
  obtain ⟨a', b', n', t', ks', e', en', ⟨o', ho', hc', z', hd'⟩, ti'⟩ := hp _ hm'
  show wpAny (model prog w) A (keyLt' (tuples' true) p.1 q.1) (fun r s' => s' = s ∧ r = HT.lexLt (k p.1) (k q.1)) (fun _ _ => False) s
  rw [en, en', e, e']
  refine PySem.W.kat_lt ho hd ho' hd' ?_
  show PySem.W.KatLex prog w A true (decide (2 < 2)) _ [(.int n t, .int n' t'), (.ref b, .ref b')] 0 s
  refine PySem.W.kat_cons (SeqAt.EqAt.int_int n t n' t' prog w _ _ ?_)
  rw [HT.lexLt_cons]
  refine PySem.W.kat_go (fun e1 => ?_) (fun e1 => ?_)
  · have ex : n = n' := by simpa using e1
    rw [if_pos ex]
    obtain ⟨_, xs, eb, tb, ib⟩ := ti
    obtain ⟨_, ys, eb', tb', ib'⟩ := ti'
    cases eb
    cases eb'
    have k1 : IsTupleKey (L2.mixKind prog w) s.heap (ks.map fun n => (Sum.inl n : L2.Key)) b := by
      obtain ⟨ok, hok, ck, nk, dk⟩ := tb
      exact ⟨ok, _, nk, hok, ck, dk, items_mix ib⟩
    have k2 : IsTupleKey (L2.mixKind prog w) s.heap (ks'.map fun n => (Sum.inl n : L2.Key)) b' := by
      obtain ⟨ok, hok, ck, nk, dk⟩ := tb'
      exact ⟨ok, _, nk, hok, ck, dk, items_mix ib'⟩
    refine PySem.W.kat_yes (PySem.W.kat_cons (wpAny_eqBool_tuple hu k1 k2 ?_))
    refine PySem.W.kat_go (fun e0 => ?_) (fun e0 => ?_)
    · have z0 := inl_inj (of_decide_eq_true e0)
      rw [z0, lex_irr]
      exact PySem.W.kat_yes (PySem.W.kat_nil ⟨rfl, rfl⟩)
    · refine PySem.W.kat_no ?_
      show wpAny _ _ (oneLt' false _ _) _ _ _
      exact PySem.W.kat_one _ _ (HT.lt_tupInts tb tb' ib ib' hu ⟨rfl, rfl⟩)
  · have ex : ¬ n = n' := by simpa using e1
    rw [if_neg ex]
    exact PySem.W.kat_no (TS.oneLt_ints _ ⟨rfl, rfl⟩)
theorem pairs_firsts {h : Heap} {k : Value → List Int} : ∀ {vs : List Value}, (∀ v ∈ vs, PairP h v (k v)) → ∃ fs, PySem.W.KatTups h vs fs ∧ fs.length = vs.length ∧ ∀ f ∈ fs, ∃ x t, f = Value.int x t
  | [], _ => ⟨[], PySem.W.KatTups.nil, rfl, fun f hf => absurd hf (by simp)⟩
  | v :: vs, hp => by
    obtain ⟨fs, h1, h2, h3⟩ := pairs_firsts fun u hu => hp u (List.mem_cons_of_mem _ hu)
    obtain ⟨a, b, n, t, ks, e, en, ⟨o, ho, hc, z, hd⟩, ti⟩ := hp v List.mem_cons_self
    subst e
    refine ⟨Value.int n t :: fs, PySem.W.KatTups.cons ho hc hd rfl h1, by rw [List.length_cons, List.length_cons, h2], fun f hf => ?_⟩
    rcases List.mem_cons.mp hf with rfl | hf
    · exact ⟨_, _, rfl⟩
    · exact h3 f hf
theorem pairs_sortable {a : Addr} {vs : List Value} {k : Value → List Int} (hu : A.units < cLine) (h0 : 0 < vs.length) (hp : ∀ v ∈ vs, PairP s.heap v (k v)) (ha : ∀ o, s.heap.get? a = some o → o.cls ≠ .type "tuple") : SortableO prog w A s a vs fun v u => HT.lexLt (k v) (k u) := by
  intro h' keep
  have hp' : ∀ v ∈ vs, PairP h' v (k v) := fun v hm => (hp v hm).keeps fun b o e c => keep b o (fun z => by subst z; exact ha o e c) e
  obtain ⟨fs, h1, h2, h3⟩ := pairs_firsts hp'
  refine ⟨tuples' true, fun Q E hq => ?_, pairs_cmp hu hp'⟩
  refine PySem.W.kat_kind (T := .type "int") h1 (by omega) (fun f hm => ?_) (by rfl) ?_
  · obtain ⟨x, t, rfl⟩ := h3 f hm
    exact PySem.W.Looks.now
  · have e : (Value.type "int" != Value.type "tuple") = true := by first | decide +kernel | rfl | decide
    rw [e]
    exact hq
end
def rSortPair (K : PySem.W.Frag) : List V → Hp → VK → Prop := fun vs H Q => ∃ (a : Addr) (xs : List V) (k : V → List Int), vs = [V.ref a] ∧ SqL K H a xs ∧ (∀ x ∈ xs, ∃ (t b : Addr) (n : Int) (ks : List Int), x = V.ref t ∧ k x = n :: ks ∧ H t = some (.tup [.int n, .ref b]) ∧ H b = some (.tup (ks.map V.int))) ∧
  ∀ ys p, Srtd (fun x y => HT.lexLt (k x) (k y)) ys → ys.Perm xs → H p = none → Q (.ref p) (upd H p (.lst ys))
theorem cr_sortPair {X : Cx} (hu : X.A.units + 2 < cLine) : CallR X (.builtin "sorted") (rSortPair X.K) := by
  intro pins s σ H vs us Q I r h
  obtain ⟨a, xs, k, rfl, hs, hx, q⟩ := h
  obtain ⟨its, rv, hl, hz⟩ := I.list hs
  rw [Vals.ref1 r]
  obtain ⟨e1, e2⟩ := refs_back rv fun x m => by
    obtain ⟨t, _, _, _, e, _⟩ := hx x m
    exact ⟨t, e⟩
  have hp : ∀ v ∈ its, PairP s.heap v (k (backV v)) := fun v hv => by
    obtain ⟨t, rfl⟩ := e2 v hv
    have hm : V.ref t ∈ xs := by rw [e1]; exact List.mem_map.mpr ⟨_, hv, rfl⟩
    obtain ⟨t', b, n, ks, e, ek, ht, hb⟩ := hx _ hm
    cases e
    obtain ⟨its2, rv2, hT, _⟩ := I.tuple (SqT.of ht)
    cases rv2 with
    | cons r1 rr =>
      cases rr with
      | cons r2 rr2 =>
        cases rr2
        obtain ⟨tk, rfl⟩ := r1
        cases r2
        exact ⟨t, b, n, tk, ks, rfl, ek, hT, tupI_raw I (SqT.of hb)⟩
  have hu2 : X.A.in1.in1.units < cLine := by show X.A.units + 1 + 1 < cLine; omega
  refine SrtO.sorted_ord (ltv := fun v u => HT.lexLt (k (backV v)) (k (backV u))) (NtL.swo_lexL fun v => k (backV v)) hl.isList (by rw [← rv.length]; exact hz) (fun h2 h₁ a' ha kk => ?_) fun out hs hb => ?_
  · refine pairs_sortable (s := { s with heap := h₁ }) hu2 (by omega) (fun v hm => (hp v hm).keeps fun b o e _ => (kk b o e).2) fun o e => ?_
    have e' : some o = some (seqObj "list" its.toArray 0) := e.symm.trans ha
    cases e'
    intro c
    exact absurd (Value.type.inj c) (by decide)
  · obtain ⟨ep, he'⟩ := PyProof.Rows.sortedAll_at s.heap its out.toArray
    have h3 : ∀ u ∈ out, ∃ a, u = Value.ref a := fun u hu => e2 u (hb.perm.mem_iff.mp hu)
    have hpm : (out.map backV).Perm xs := by
      rw [e1]
      exact hb.perm.map backV
    have hlen : (out.map backV).length ≤ sizeLine := by
      rw [hpm.length_eq]
      exact hz
    exact ⟨.ref _, upd H (s.heap.objs.size + 1) (.lst (out.map backV)), I.laid (t' := s.toks) (fun _ _ => PyProof.Rows.sortedAll_old) (Nat.le_succ _) ⟨hlen, out, ep, vals_back h3, he'⟩, rfl, q _ _ (SrtO.srtd_map hs) hpm (I.hok.fresh (Nat.le_succ _))⟩
end GX
set_option Elab.async false
set_option linter.all false
set_option maxRecDepth 100000
set_option maxHeartbeats 4000000
/-! What leads from a wire down, past no stop. -/
namespace GX
open PySem PySem.Spec PyProof.Rows L2
inductive Rc (n : Net) (st : List Nat) (w j : Nat) : Nat → Prop
  | here : w ∉ st → Rc n st w j w
  | step {g p : Nat} {k : Nat × Nat × Nat} : Rc n st w j g → n.many ≤ g → j ≤ g → n.gates[g - n.many]? = some k → (p = k.2.1 ∨ p = k.2.2) → p ∉ st → Rc n st w j p
theorem place_lt {n : Net} (ok : n.Ok) {g p : Nat} {k : Nat × Nat × Nat} (hg : n.many ≤ g) (hk : n.gates[g - n.many]? = some k) (hp : p = k.2.1 ∨ p = k.2.2) : p < g := by
  obtain ⟨_, h1, h2⟩ := ok.gs _ _ hk
  rcases hp with rfl | rfl <;> omega
theorem Rc.le {n : Net} (ok : n.Ok) {st : List Nat} {w j y : Nat} (h : Rc n st w j y) : y ≤ w := by
  induction h with
  | here _ => exact Nat.le_refl _
  | step _ hg _ hk hp _ ih => exact Nat.le_trans (Nat.le_of_lt (place_lt ok hg hk hp)) ih
theorem Rc.free {n : Net} {st : List Nat} {w j y : Nat} (h : Rc n st w j y) : y ∉ st := by cases h <;> assumption
theorem Rc.mono {n : Net} {st : List Nat} {w j i y : Nat} (h : Rc n st w j y) (l : i ≤ j) : Rc n st w i y := by
  induction h with
  | here e => exact .here e
  | step _ hg hj hk hp hs ih => exact .step ih hg (Nat.le_trans l hj) hk hp hs
theorem Rc.low {n : Net} {st : List Nat} {w j y : Nat} (h : Rc n st w j y) : Rc n st w n.many y := by
  induction h with
  | here e => exact .here e
  | step _ hg hj hk hp hs ih => exact .step ih hg hg hk hp hs
theorem inV_n (x : Nat) (st : List Nat) : inV (nV x) (st.map nV) = decide (x ∈ st) := by
  unfold inV
  rw [List.any_map]
  induction st with
  | nil => rfl
  | cons y r ih =>
    rw [List.any_cons, ih]
    have e : ((fun y => eqV y (nV x)) ∘ nV) y = decide (x = y) := by
      show eqV (nV y) (nV x) = decide (x = y)
      unfold eqV
      by_cases h : x = y
      · subst h
        rw [decide_eq_true (rfl : x = x)]
        exact decide_eq_true rfl
      · rw [decide_eq_false h]
        refine decide_eq_false fun z => h ?_
        have z' : ((y : Nat) : Int) = (x : Int) := z
        omega
    rw [e, ← Bool.decide_or]
    congr 1
    exact propext List.mem_cons.symm
theorem flat_ns (st : List Nat) : (st.map nV).all flatV = true := by
  rw [List.all_map, List.all_eq_true]
  intro x _
  rfl
/-- rising, unlike: told by its members -/
theorem rise_eq : ∀ {xs ys : List Nat}, xs.Pairwise (· < ·) → ys.Pairwise (· < ·) → (∀ z, z ∈ xs ↔ z ∈ ys) → xs = ys
  | [], [], _, _, _ => rfl
  | [], y :: ys, _, _, h => by cases (h y).mpr List.mem_cons_self
  | x :: xs, [], _, _, h => by cases (h x).mp List.mem_cons_self
  | x :: xs, y :: ys, hx, hy, h => by
    have hx1 := List.pairwise_cons.mp hx
    have hy1 := List.pairwise_cons.mp hy
    have e : x = y := by
      rcases List.mem_cons.mp ((h x).mp List.mem_cons_self) with e | e
      · exact e
      · rcases List.mem_cons.mp ((h y).mpr List.mem_cons_self) with e' | e'
        · exact e'.symm
        · have := hy1.1 _ e
          have := hx1.1 _ e'
          omega
    subst e
    refine congrArg _ (rise_eq hx1.2 hy1.2 fun z => ⟨fun hz => ?_, fun hz => ?_⟩)
    · rcases List.mem_cons.mp ((h z).mp (List.mem_cons_of_mem _ hz)) with e | e
      · have := hx1.1 _ hz
        omega
      · exact e
    · rcases List.mem_cons.mp ((h z).mpr (List.mem_cons_of_mem _ hz)) with e | e
      · have := hy1.1 _ hz
        omega
      · exact e
end GX
set_option Elab.async false
set_option linter.all false
set_option maxRecDepth 100000
set_option maxHeartbeats 4000000
/-! Lists of the wires reached; ways put together. -/
namespace GX
open PySem PySem.Spec PyProof.Rows L2
theorem nodup_len : ∀ {xs ys : List Nat}, xs.Nodup → (∀ x ∈ xs, x ∈ ys) → xs.length ≤ ys.length
  | [], _, _, _ => Nat.zero_le _
  | x :: xs, ys, h, s => by
    have h1 := List.nodup_cons.mp h
    have hx := s x List.mem_cons_self
    have ih := nodup_len (ys := ys.erase x) h1.2 fun z hz => (List.mem_erase_of_ne (fun e => h1.1 (by rw [← e]; exact hz))).mpr (s z (List.mem_cons_of_mem _ hz))
    rw [List.length_erase_of_mem hx] at ih
    have : 0 < ys.length := List.length_pos_of_mem hx
    rw [List.length_cons]
    omega
theorem nodup_lt {xs : List Nat} {m : Nat} (h : xs.Nodup) (s : ∀ x ∈ xs, x < m) : xs.length ≤ m := by
  have := nodup_len (ys := List.range m) h fun x hx => List.mem_range.mpr (s x hx)
  rwa [List.length_range] at this
theorem nodup_snoc {xs : List Nat} {x : Nat} (h : xs.Nodup) (n : x ∉ xs) : (xs ++ [x]).Nodup := by
  rw [List.nodup_append]
  refine ⟨h, by simp, fun a ha b hb => ?_⟩
  rw [List.mem_singleton.mp hb]
  exact fun e => n (by rw [← e]; exact ha)
theorem getD_pre {xs t : List Nat} {i : Nat} (h : i < xs.length) : (xs ++ t).getD i 0 = xs.getD i 0 := by
  rw [List.getD_eq_getElem?_getD, List.getD_eq_getElem?_getD, List.getElem?_append_left h]
theorem getD_mem {xs : List Nat} {i : Nat} (h : i < xs.length) : xs.getD i 0 ∈ xs := by
  rw [List.getD_eq_getElem?_getD, List.getElem?_eq_getElem h]
  exact List.getElem_mem h
theorem mem_getD {xs : List Nat} {x : Nat} (h : x ∈ xs) : ∃ i, i < xs.length ∧ xs.getD i 0 = x := by
  obtain ⟨i, hi, e⟩ := List.getElem_of_mem h
  exact ⟨i, hi, by rw [List.getD_eq_getElem?_getD, List.getElem?_eq_getElem hi]; exact e⟩
/-- found so far; the first k have been gone on from -/
structure LedOk (n : Net) (st : List Nat) (w : Nat) (xs : List Nat) (k : Nat) : Prop where
  nd : xs.Nodup
  rc : ∀ y ∈ xs, Rc n st w n.many y
  self : w ∉ st → w ∈ xs
  le : k ≤ xs.length
  done : ∀ j, j < k → n.many ≤ xs.getD j 0 → ∀ g, n.gates[xs.getD j 0 - n.many]? = some g → ∀ p, (p = g.2.1 ∨ p = g.2.2) → p ∉ st → p ∈ xs
theorem LedOk.all {n : Net} {st : List Nat} {w : Nat} {xs : List Nat} (h : LedOk n st w xs xs.length) (y : Nat) : y ∈ xs ↔ Rc n st w n.many y := by
  refine ⟨h.rc y, fun r => ?_⟩
  induction r with
  | here e => exact h.self e
  | step _ hg _ hk hp hs ih =>
    obtain ⟨i, hi, e⟩ := mem_getD ih
    exact h.done i hi (by rw [e]; exact hg) _ (by rw [e]; exact hk) _ hp hs
def isSt (n : Net) (x y : Nat) : Prop := n.many ≤ y ∧ ∃ k, n.gates[y - n.many]? = some k ∧ (x = k.2.1 ∨ x = k.2.2)
/-- from x (left out) up to w -/
structure Up (n : Net) (x w : Nat) (zs : List Nat) : Prop where
  lt : ∀ z ∈ zs, z < n.many + n.gates.length
  last : (x :: zs).getD zs.length 0 = w
  ch : ∀ i, i + 1 < (x :: zs).length → isSt n ((x :: zs).getD i 0) ((x :: zs).getD (i + 1) 0)
theorem Up.nil (n : Net) (w : Nat) : Up n w w [] := ⟨fun z hz => (by cases hz), rfl, fun i hi => (by simp at hi)⟩
theorem Up.cons {n : Net} {p x w : Nat} {zs : List Nat} (s : isSt n p x) (hx : x < n.many + n.gates.length) (u : Up n x w zs) : Up n p w (x :: zs) := by
  refine ⟨fun z hz => ?_, ?_, fun i hi => ?_⟩
  · rcases List.mem_cons.mp hz with rfl | hz
    · exact hx
    · exact u.lt z hz
  · exact u.last
  · cases i with
    | zero => exact s
    | succ i => exact u.ch i (by simpa using hi)
/-- from some wire down to w, upward -/
structure Down (n : Net) (w : Nat) (xs : List Nat) : Prop where
  ne : 0 < xs.length
  lt : ∀ x ∈ xs, x < n.many + n.gates.length
  last : xs.getD (xs.length - 1) 0 = w
  steps : ∀ i, i + 1 < xs.length → isSt n (xs.getD i 0) (xs.getD (i + 1) 0)
theorem Down.cons {n : Net} {w p : Nat} {xs : List Nat} (d : Down n w xs) (hp : p < n.many + n.gates.length) (s : isSt n p (xs.getD 0 0)) : Down n w (p :: xs) := by
  have h0 := d.ne
  refine ⟨by rw [List.length_cons]; omega, fun x hx => ?_, ?_, fun i hi => ?_⟩
  · rcases List.mem_cons.mp hx with rfl | hx
    · exact hp
    · exact d.lt x hx
  · rw [List.length_cons, show xs.length + 1 - 1 = (xs.length - 1) + 1 by omega]
    exact d.last
  · cases i with
    | zero => exact s
    | succ i => exact d.steps i (by simpa using hi)
end GX
set_option Elab.async false
set_option linter.all false
set_option maxRecDepth 100000
set_option maxHeartbeats 4000000
/-! Wires that tell a gate: going back from a cut. -/
namespace GX
open PySem PySem.Spec PyProof.Rows L2
theorem Rc.sub {n : Net} {st st' : List Nat} {w j y : Nat} (h : Rc n st' w j y) (s : ∀ z ∈ st, z ∈ st') : Rc n st w j y := by
  induction h with
  | here e => exact .here fun z => e (s _ z)
  | step _ hg hj hk hp hs ih => exact .step ih hg hj hk hp fun z => hs (s _ z)
/-- no input leads past them -/
def Sep (n : Net) (w : Nat) (st : List Nat) : Prop := ∀ y, Rc n st w n.many y → n.many ≤ y
theorem Sep.more {n : Net} {w : Nat} {st st' : List Nat} (h : Sep n w st) (s : ∀ z ∈ st, z ∈ st') : Sep n w st' := fun y r => h y (r.sub s)
theorem sep_first {n : Net} {w : Nat} {st : List Nat} {k : Nat × Nat × Nat} (hw : n.many ≤ w) (hk : n.gates[w - n.many]? = some k) (h : ∀ z, (z = k.2.1 ∨ z = k.2.2) → z ∈ st) : Sep n w st := by
  have all : ∀ y, Rc n st w n.many y → y = w := fun y r => by
    induction r with
    | here _ => rfl
    | step _ _ _ hk' hp hs ih =>
      subst ih
      rw [hk] at hk'
      cases hk'
      exact absurd (h _ hp) hs
  exact fun y r => by rw [all y r]; exact hw
structure CutOk (n : Net) (gt : Nat) (ys : List Nat) : Prop where
  ne : 0 < ys.length
  lt : ∀ y ∈ ys, y < gt
  sep : Sep n gt ys
  rise : ys.Pairwise (· < ·)
end GX
set_option Elab.async false
set_option linter.all false
set_option maxRecDepth 100000
set_option maxHeartbeats 4000000
/-! Bits of numbers, as the texts write them. -/
namespace GX
open PySem PySem.Spec PyProof.Rows L2
theorem pt_truthK {X : Cx} {K : PySem.W.Frag} {a : Expr} {ta : TE} (ha : PE X a ta) (he : ∀ whole, isTrue a X.env whole = (do let v ← whole; standAt a.pos; holding [v] (truthy v))) (h : X.K = K := by rfl) : PT X a (fun σ H Q => ta σ H fun x H' => ∃ k, TruV K x H' k ∧ Q k H') := by subst h; exact pt_truth ha he
theorem natAt {l : List Nat} {i : Nat} (h : i < l.length) : (l.map nV)[i]? = some (nV (l.getD i 0)) := by
  rw [List.getElem?_map, List.getD_eq_getElem?_getD, List.getElem?_eq_getElem h]
  rfl
theorem mapV (xs : List Nat) : (xs.map fun n : Nat => (n : Int)).map V.int = xs.map nV := by
  rw [List.map_map]
  rfl
theorem dpNat (K : PySem.W.Frag) (H : Hp) : ∀ xs : List Nat, DpAll K H (xs.map nV) ((xs.map fun n : Nat => (n : Int)).map PyData.int)
  | [] => .nil
  | x :: r => .cons (.int _) (dpNat K H r)
theorem getSnoc {xs : List Nat} {x i : Nat} (h : i < xs.length) : (xs ++ [x]).getD i 0 = xs.getD i 0 := getD_pre h
theorem getLastN {xs : List Nat} {x : Nat} : (xs ++ [x]).getD xs.length 0 = x := by
  rw [List.getD_eq_getElem?_getD, List.getElem?_append_right (Nat.le_refl _), Nat.sub_self]
  rfl
/-- number >> place & 1 -/
theorem bit_of (r p : Nat) : Builtin.bitAnd (((r : Nat) : Int) / 2 ^ ((p : Nat) : Int).toNat) 1 = ((r / 2 ^ p % 2 : Nat) : Int) := by
  rw [bitAnd_m1, Int.toNat_natCast]
  norm_cast
theorem shl_of (p : Nat) : (1 : Int) * 2 ^ ((p : Nat) : Int).toNat = ((2 ^ p : Nat) : Int) := by
  rw [Int.toNat_natCast, Int.one_mul]
  norm_cast
/-! ### idle places -/
theorem small256 {n : Nat} (h : n ≤ 10000) : n < sizeLine := Nat.lt_of_le_of_lt h (by decide)
end GX
set_option Elab.async false
set_option linter.all false
set_option maxRecDepth 100000
set_option maxHeartbeats 4000000
/-! Tuples at a list of addresses. -/
namespace GX
open PySem PySem.Spec PyProof.Rows L2
def RefsAt {α : Type} (f : α → List V) (H : Hp) (ps : List Addr) (xs : List α) : Prop := ps.length = xs.length ∧ ∀ (i : Nat) (p : Addr) (x : α), ps[i]? = some p → xs[i]? = some x → H p = some (.tup (f x))
section
variable {α : Type} {f : α → List V} {H H' : Hp} {ps : List Addr} {xs : List α}
theorem RefsAt.nil (f : α → List V) (H : Hp) : RefsAt f H [] [] := ⟨rfl, fun i p g e _ => by simp at e⟩
theorem RefsAt.mono (x : RefsAt f H ps xs) (k : ∀ b zs, H b = some (.tup zs) → H' b = some (.tup zs)) : RefsAt f H' ps xs := ⟨x.1, fun i p g e1 e2 => k _ _ (x.2 i p g e1 e2)⟩
theorem RefsAt.push {q : Addr} {y : α} (x : RefsAt f H ps xs) (h : H q = some (.tup (f y))) : RefsAt f H (ps ++ [q]) (xs ++ [y]) := by
  refine ⟨by rw [List.length_append, List.length_append, x.1]; rfl, fun i r g e1 e2 => ?_⟩
  by_cases hi : i < ps.length
  · rw [List.getElem?_append_left hi] at e1
    rw [List.getElem?_append_left (by rw [← x.1]; exact hi)] at e2
    exact x.2 i r g e1 e2
  · rw [List.getElem?_append_right (by omega)] at e1
    rw [List.getElem?_append_right (by rw [← x.1]; omega)] at e2
    have hz : i - ps.length = 0 := by
      obtain ⟨h1, _⟩ := List.getElem?_eq_some_iff.mp e1
      simp at h1
      omega
    rw [hz] at e1
    rw [← x.1, hz] at e2
    cases e1
    cases e2
    exact h
theorem RefsAt.at_ (x : RefsAt f H ps xs) {i : Nat} {v : V} (e : (ps.map V.ref)[i]? = some v) : ∃ q y, v = .ref q ∧ xs[i]? = some y ∧ H q = some (.tup (f y)) := by
  rw [List.getElem?_map] at e
  cases h : ps[i]? with
  | none => rw [h] at e; cases e
  | some q =>
    rw [h] at e
    cases e
    have h2 : i < xs.length := by rw [← x.1]; exact (List.getElem?_eq_some_iff.mp h).1
    exact ⟨q, xs[i], rfl, List.getElem?_eq_getElem h2, x.2 i q _ h (List.getElem?_eq_getElem h2)⟩
theorem RefsAt.get (x : RefsAt f H ps xs) {i : Nat} {y : α} (e : xs[i]? = some y) : ∃ q, (ps.map V.ref)[i]? = some (.ref q) ∧ H q = some (.tup (f y)) := by
  have h2 : i < ps.length := by rw [x.1]; exact (List.getElem?_eq_some_iff.mp e).1
  exact ⟨ps[i], by rw [List.getElem?_map, List.getElem?_eq_getElem h2]; rfl, x.2 i _ y (List.getElem?_eq_getElem h2) e⟩
end
end GX
namespace GX
open PySem PySem.Spec PyProof.Rows L2
/-- things of any make at a list of addresses -/
def PtsAt {α : Type} (R : Hp → Addr → α → Prop) (H : Hp) (ps : List Addr) (xs : List α) : Prop := ps.length = xs.length ∧ ∀ (i : Nat) (p : Addr) (x : α), ps[i]? = some p → xs[i]? = some x → R H p x
section
variable {α : Type} {R : Hp → Addr → α → Prop} {H H' : Hp} {ps : List Addr} {xs : List α}
theorem PtsAt.nil (R : Hp → Addr → α → Prop) (H : Hp) : PtsAt R H [] [] := ⟨rfl, fun i p g e _ => by simp at e⟩
theorem PtsAt.mono (x : PtsAt R H ps xs) (k : ∀ p y, R H p y → R H' p y) : PtsAt R H' ps xs := ⟨x.1, fun i p g e1 e2 => k _ _ (x.2 i p g e1 e2)⟩
theorem PtsAt.cons {q : Addr} {y : α} (x : PtsAt R H ps xs) (h : R H q y) : PtsAt R H (q :: ps) (y :: xs) := by
  refine ⟨by rw [List.length_cons, List.length_cons, x.1], fun i r g e1 e2 => ?_⟩
  cases i with
  | zero =>
    cases e1
    cases e2
    exact h
  | succ i => exact x.2 i r g e1 e2
theorem PtsAt.push {q : Addr} {y : α} (x : PtsAt R H ps xs) (h : R H q y) : PtsAt R H (ps ++ [q]) (xs ++ [y]) := by
  refine ⟨by rw [List.length_append, List.length_append, x.1]; rfl, fun i r g e1 e2 => ?_⟩
  by_cases hi : i < ps.length
  · rw [List.getElem?_append_left hi] at e1
    rw [List.getElem?_append_left (by rw [← x.1]; exact hi)] at e2
    exact x.2 i r g e1 e2
  · rw [List.getElem?_append_right (by omega)] at e1
    rw [List.getElem?_append_right (by rw [← x.1]; omega)] at e2
    have hz : i - ps.length = 0 := by
      obtain ⟨h1, _⟩ := List.getElem?_eq_some_iff.mp e1
      simp at h1
      omega
    rw [hz] at e1
    rw [← x.1, hz] at e2
    cases e1
    cases e2
    exact h
theorem PtsAt.at_ (x : PtsAt R H ps xs) {i : Nat} {v : V} (e : (ps.map V.ref)[i]? = some v) : ∃ q y, v = .ref q ∧ xs[i]? = some y ∧ R H q y := by
  rw [List.getElem?_map] at e
  cases h : ps[i]? with
  | none => rw [h] at e; cases e
  | some q =>
    rw [h] at e
    cases e
    have h2 : i < xs.length := by rw [← x.1]; exact (List.getElem?_eq_some_iff.mp h).1
    exact ⟨q, xs[i], rfl, List.getElem?_eq_getElem h2, x.2 i q _ h (List.getElem?_eq_getElem h2)⟩
theorem PtsAt.get (x : PtsAt R H ps xs) {i : Nat} {y : α} (e : xs[i]? = some y) : ∃ q, (ps.map V.ref)[i]? = some (.ref q) ∧ R H q y := by
  have h2 : i < ps.length := by rw [x.1]; exact (List.getElem?_eq_some_iff.mp e).1
  exact ⟨ps[i], by rw [List.getElem?_map, List.getElem?_eq_getElem h2]; rfl, x.2 i _ y (List.getElem?_eq_getElem h2) e⟩
end
end GX
set_option Elab.async false
set_option linter.all false
set_option maxRecDepth 100000
set_option maxHeartbeats 4000000
namespace GX
open PySem PySem.Spec PyProof.Rows L2
/-- the well, the tables stand; all else is kept -/
structure Dk (W : Addr) (Ts : List Addr) (H H' : Hp) : Prop where
  wl : Wl H' W
  tb : Tabs Ts H'
  kp : Keep (W :: Ts) H H'
theorem Dk.aft {W : Addr} {Ts : List Addr} {H H1 H2 : Hp} (d : Dk W Ts H H1) (a : Aft Ts H1 H2) : Dk W Ts H H2 := ⟨d.wl.keep a.kp (d.wl.tab d.tb), a.tb, d.kp.trans (a.kp.mono fun b hb => List.mem_cons_of_mem _ hb)⟩
theorem Dk.same {W : Addr} {Ts : List Addr} {H H1 H2 : Hp} (d : Dk W Ts H H1) (s : Same H1 H2) : Dk W Ts H H2 := d.aft (Aft.ofSame d.tb s)
theorem Wk.tabs {W : Addr} {Ts : List Addr} {H H1 : Hp} (wl : Wl H W) (tb : Tabs Ts H) (s : Wk W H H1) : Tabs Ts H1 := tb.keep s.kp fun b hb => by rw [List.mem_singleton.mp hb]; exact wl.tab tb
theorem Dk.draw {W : Addr} {Ts : List Addr} {H H1 H2 : Hp} (d : Dk W Ts H H1) (s : Wk W H1 H2) : Dk W Ts H H2 := ⟨s.wl, s.tabs d.wl d.tb, d.kp.trans (s.kp.mono fun b hb => by rw [List.mem_singleton.mp hb]; exact List.mem_cons_self)⟩
/-- a list of our own, made behind H, is changed -/
theorem Dk.put {W : Addr} {Ts : List Addr} {H H1 : Hp} {l : Addr} {o : HO} {xs : List V} (d : Dk W Ts H H1) (nl : H l = none) (hl : H1 l = some (.lst xs)) (nW : l ≠ W) : Dk W Ts H (upd H1 l o) :=
  ⟨by obtain ⟨x, y, z, e⟩ := d.wl; exact ⟨x, y, z, by rw [upd_ne (fun z => nW z.symm)]; exact e⟩, d.tb.upd (d.tb.lst hl), fun b u e n => by rw [upd_ne (ne_of_none e nl)]; exact d.kp b u e n⟩
theorem Dk.was {W : Addr} {Ts : List Addr} {H H1 : Hp} {l : Addr} (d : Dk W Ts H H1) (n : H1 l = none) : H l = none ∧ l ≠ W := by
  have hW : l ≠ W := fun z => by
    obtain ⟨_, _, _, e⟩ := d.wl
    rw [← z, n] at e
    cases e
  refine ⟨?_, hW⟩
  cases e : H l with
  | none => rfl
  | some u =>
    have := d.kp _ _ e fun z => by
      rcases List.mem_cons.mp z with z | z
      · exact hW z
      · exact d.tb.none n z
    rw [n] at this
    cases this
def natOf (σ : L2.St) (i : Nat) : Nat := match σ[i]? with
  | some (some (V.int z)) => z.toNat
  | _ => 0
end GX
set_option Elab.async false
set_option linter.all false
set_option maxRecDepth 100000
set_option maxHeartbeats 4000000
/-! list(reversed(xs)), xs a list. -/
namespace GX
open PySem PySem.Spec PyProof.Rows L2 RT
end GX
set_option Elab.async false
set_option linter.all false
set_option maxRecDepth 100000
set_option maxHeartbeats 4000000
/-! A deck: a list with a list of cells, a seed and a count. -/
namespace GX
open PySem PySem.Spec PyProof.Rows L2
structure Wd (H : Hp) (W C : Addr) : Prop where
  ex : ∃ (ns : List Int) (a b : Int), H W = some (.lst [.ref C, .int a, .int b]) ∧ H C = some (.lst (ns.map V.int)) ∧ ns.length ≤ 64
  ne : W ≠ C
theorem Wd.nt {H : Hp} {W C : Addr} (h : Wd H W C) : ∀ b ∈ [W, C], ∀ xs, H b ≠ some (.tup xs) := fun b hb xs e => by
  obtain ⟨ns, a, c, e1, e2, _⟩ := h.ex
  rcases List.mem_cons.mp hb with z | z
  · rw [z, e1] at e
    cases e
  · rw [List.mem_singleton.mp z, e2] at e
    cases e
theorem Wd.same {H H' : Hp} {W C : Addr} (h : Wd H W C) (s : Same H H') : Wd H' W C := by
  obtain ⟨⟨ns, a, c, e1, e2, l⟩, ne⟩ := h
  exact ⟨⟨ns, a, c, s _ _ e1, s _ _ e2, l⟩, ne⟩
theorem Wd.keep {X : List Addr} {H H' : Hp} {W C : Addr} (h : Wd H W C) (k : Keep X H H') (n : W ∉ X) (m : C ∉ X) : Wd H' W C := by
  obtain ⟨⟨ns, a, c, e1, e2, l⟩, ne⟩ := h
  exact ⟨⟨ns, a, c, k _ _ e1 n, k _ _ e2 m, l⟩, ne⟩
theorem Wd.tabW {Ts : List Addr} {H : Hp} {W C : Addr} (h : Wd H W C) (t : Tabs Ts H) : W ∉ Ts := by
  obtain ⟨ns, a, c, e1, e2, _⟩ := h.ex
  exact t.lst e1
theorem Wd.tabC {Ts : List Addr} {H : Hp} {W C : Addr} (h : Wd H W C) (t : Tabs Ts H) : C ∉ Ts := by
  obtain ⟨ns, a, c, e1, e2, _⟩ := h.ex
  exact t.lst e2
/-- the deck stands, all else is kept -/
structure Wk2 (W C : Addr) (H H' : Hp) : Prop where
  wl : Wd H' W C
  kp : Keep [W, C] H H'
theorem Wk2.nxt {W C : Addr} {H H1 H2 : Hp} (s : Wk2 W C H H1) (t : Wk2 W C H1 H2) : Wk2 W C H H2 := ⟨t.wl, s.kp.trans t.kp⟩
theorem Wk2.same {W C : Addr} {H H1 H2 : Hp} (s : Wk2 W C H H1) (e : Same H1 H2) : Wk2 W C H H2 := ⟨s.wl.same e, s.kp.trans (Same.keep e)⟩
theorem Wk2.new {W C : Addr} {H H1 : Hp} {p : Addr} {o : HO} (s : Wk2 W C H H1) (n : H1 p = none) : Wk2 W C H (upd H1 p o) := s.same (Same.new n)
theorem Wk2.refl {W C : Addr} {H : Hp} (h : Wd H W C) : Wk2 W C H H := ⟨h, Keep.refl⟩
theorem Wd.tup {H H' : Hp} {W C : Addr} (h : Wd H W C) (k : Wk2 W C H H') {b : Addr} {xs : List V} (e : H b = some (.tup xs)) : H' b = some (.tup xs) := k.kp.tups h.nt b xs e
theorem Wd.new {H : Hp} {W C l : Addr} (h : Wd H W C) (n : H l = none) : l ≠ W ∧ l ≠ C := by
  obtain ⟨ns, a, c, e1, e2, _⟩ := h.ex
  refine ⟨fun z => ?_, fun z => ?_⟩
  · rw [← z, n] at e1
    cases e1
  · rw [← z, n] at e2
    cases e2
theorem Wk2.at_ {W C : Addr} {H H' : Hp} {l : Addr} {o : HO} (k : Wk2 W C H H') (n : l ≠ W ∧ l ≠ C) (e : H l = some o) : H' l = some o := k.kp _ _ e fun z => by
  rcases List.mem_cons.mp z with z | z
  · exact n.1 z
  · exact n.2 (List.mem_singleton.mp z)
theorem Wk2.was {W C : Addr} {H H' : Hp} {l : Addr} (k : Wk2 W C H H') (n : H' l = none) : H l = none := by
  obtain ⟨n1, n2⟩ := k.wl.new n
  cases e : H l with
  | none => rfl
  | some u =>
    have := k.at_ ⟨n1, n2⟩ e
    rw [n] at this
    cases this
/-- a list of our own is changed -/
theorem Wk2.put {W C : Addr} {H H' : Hp} {l : Addr} {o : HO} (s : Wk2 W C H H') (nl : H l = none) (n : l ≠ W ∧ l ≠ C) : Wk2 W C H (upd H' l o) := by
  obtain ⟨⟨⟨ns, a, c, e1, e2, z⟩, ne⟩, k⟩ := s
  exact ⟨⟨⟨ns, a, c, by rw [upd_ne (Ne.symm n.1)]; exact e1, by rw [upd_ne (Ne.symm n.2)]; exact e2, z⟩, ne⟩, fun b u e hb => by rw [upd_ne (ne_of_none e nl)]; exact k b u e hb⟩
theorem tupPut {H : Hp} {l : Addr} {xs ys : List V} (h : H l = some (.lst xs)) : ∀ b zs, H b = some (.tup zs) → upd H l (.lst ys) b = some (.tup zs) := fun b zs e => by
  rw [upd_ne (fun z => by rw [z, h] at e; cases e)]
  exact e
/-- the deck, the tables stand; all else is kept -/
structure Dk2 (W C : Addr) (Ts : List Addr) (H H' : Hp) : Prop where
  wl : Wd H' W C
  tb : Tabs Ts H'
  kp : Keep (W :: C :: Ts) H H'
theorem Dk2.aft {W C : Addr} {Ts : List Addr} {H H1 H2 : Hp} (d : Dk2 W C Ts H H1) (a : Aft Ts H1 H2) : Dk2 W C Ts H H2 := ⟨d.wl.keep a.kp (d.wl.tabW d.tb) (d.wl.tabC d.tb), a.tb, d.kp.trans (a.kp.mono fun b hb => List.mem_cons_of_mem _ (List.mem_cons_of_mem _ hb))⟩
theorem Dk2.same {W C : Addr} {Ts : List Addr} {H H1 H2 : Hp} (d : Dk2 W C Ts H H1) (s : Same H1 H2) : Dk2 W C Ts H H2 := d.aft (Aft.ofSame d.tb s)
theorem Wk2.tabs {W C : Addr} {Ts : List Addr} {H H1 : Hp} (wl : Wd H W C) (tb : Tabs Ts H) (s : Wk2 W C H H1) : Tabs Ts H1 := tb.keep s.kp fun b hb => by
  rcases List.mem_cons.mp hb with z | z
  · rw [z]; exact wl.tabW tb
  · rw [List.mem_singleton.mp z]; exact wl.tabC tb
theorem Dk2.draw {W C : Addr} {Ts : List Addr} {H H1 H2 : Hp} (d : Dk2 W C Ts H H1) (s : Wk2 W C H1 H2) : Dk2 W C Ts H H2 := ⟨s.wl, s.tabs d.wl d.tb, d.kp.trans (s.kp.mono fun b hb => by
  rcases List.mem_cons.mp hb with z | z
  · rw [z]; exact List.mem_cons_self
  · rw [List.mem_singleton.mp z]; exact List.mem_cons_of_mem _ List.mem_cons_self)⟩
theorem Dk2.put {W C : Addr} {Ts : List Addr} {H H1 : Hp} {l : Addr} {o : HO} {xs : List V} (d : Dk2 W C Ts H H1) (nl : H l = none) (hl : H1 l = some (.lst xs)) (n : l ≠ W ∧ l ≠ C) : Dk2 W C Ts H (upd H1 l o) :=
  ⟨by obtain ⟨⟨ns, x, y, e, e2, z⟩, ne⟩ := d.wl; exact ⟨⟨ns, x, y, by rw [upd_ne (Ne.symm n.1)]; exact e, by rw [upd_ne (Ne.symm n.2)]; exact e2, z⟩, ne⟩, d.tb.upd (d.tb.lst hl), fun b u e m => by rw [upd_ne (ne_of_none e nl)]; exact d.kp b u e m⟩
theorem Dk2.was {W C : Addr} {Ts : List Addr} {H H1 : Hp} {l : Addr} (d : Dk2 W C Ts H H1) (n : H1 l = none) : H l = none := by
  obtain ⟨n1, n2⟩ := d.wl.new n
  cases e : H l with
  | none => rfl
  | some u =>
    have := d.kp _ _ e fun z => by
      rcases List.mem_cons.mp z with z | z
      · exact n1 z
      · rcases List.mem_cons.mp z with z | z
        · exact n2 z
        · exact d.tb.none n z
    rw [n] at this
    cases this
/-- a while by a measure, its test read once -/
theorem while_at {c : TT} {tb : TS} {D : Ends} {σ : L2.St} {H : Hp} (Pv : L2.St → Hp → Prop) (μ : L2.St → Hp → Nat) (h0 : Pv σ H)
    (hs : ∀ σ H, Pv σ H → c σ H fun b H1 => if b = true then ∃ N : L2.St → Hp → Prop, (∀ σ' H', N σ' H' → ∃ m', m' < μ σ H ∧ (m' = μ σ' H' ∧ Pv σ' H')) ∧ tb { D with nx := N, ct := N, bk := D.nx } σ H1 else D.nx σ H1) : tWhile c tb D σ H := by
  refine ⟨fun m σ H => m = μ σ H ∧ Pv σ H, ⟨_, rfl, h0⟩, ?_⟩
  rintro m σ H ⟨rfl, p⟩
  exact hs σ H p
theorem whN {Pv : L2.St → Hp → Prop} {μ : L2.St → Hp → Nat} {m : Nat} : ∀ σ' H', (Pv σ' H' ∧ μ σ' H' < m) → ∃ m', m' < m ∧ (m' = μ σ' H' ∧ Pv σ' H') := fun σ' H' h => ⟨_, h.2, rfl, h.1⟩
theorem dpInt (K : PySem.W.Frag) (H : Hp) : ∀ xs : List Int, DpAll K H (xs.map V.int) (xs.map PyData.int)
  | [] => .nil
  | x :: r => .cons (.int _) (dpInt K H r)
theorem eqvAllN {xs : List PyData} : PyData.eqvAll xs [] = decide (xs.length = 0) := by cases xs <;> rfl
theorem len64 {n : Nat} (h : n ≤ 100000) : n < sizeLine := Nat.lt_of_le_of_lt h (by decide)
end GX
set_option Elab.async false
set_option linter.all false
set_option maxRecDepth 100000
set_option maxHeartbeats 4000000
/-! Covers as data, and how they stand in the heap; dicts of wires. -/
namespace GX
open PySem PySem.Spec PyProof.Rows L2
theorem Same.was {H H' : Hp} {l : Addr} (s : Same H H') (n : H' l = none) : H l = none := by
  cases e : H l with
  | none => rfl
  | some u => cases ((s _ _ e).symm.trans n)
abbrev Tb := Nat × List Nat
def TbAt (H : Hp) (p : Addr) (t : Tb) : Prop := ∃ c, H p = some (.tup [nV t.1, .ref c]) ∧ H c = some (.tup (t.2.map nV))
theorem TbAt.mono {H H' : Hp} (k : ∀ b xs, H b = some (.tup xs) → H' b = some (.tup xs)) (p : Addr) (t : Tb) (x : TbAt H p t) : TbAt H' p t := by
  obtain ⟨c, h1, h2⟩ := x
  exact ⟨c, k _ _ h1, k _ _ h2⟩
structure CovAt (H : Hp) (a : Addr) (cv : List Tb) (ps : List Addr) : Prop where
  top : H a = some (.tup (ps.map V.ref))
  ts : PtsAt TbAt H ps cv
theorem CovAt.mono {H H' : Hp} {a : Addr} {cv : List Tb} {ps : List Addr} (x : CovAt H a cv ps) (k : ∀ b xs, H b = some (.tup xs) → H' b = some (.tup xs)) : CovAt H' a cv ps := ⟨k _ _ x.top, x.ts.mono (TbAt.mono k)⟩
theorem CovAt.same {H H' : Hp} {a : Addr} {cv : List Tb} {ps : List Addr} (x : CovAt H a cv ps) (s : Same H H') : CovAt H' a cv ps := x.mono fun b xs e => s _ _ e
inductive Need (n : Net) (cv : List Tb) : Nat → Prop
  | out {o : Nat} : o ∈ n.outs → n.many ≤ o → Need n cv o
  | step {t : Tb} {x : Nat} : t ∈ cv → Need n cv t.1 → x ∈ t.2 → n.many ≤ x → Need n cv x
theorem Need.more {n : Net} {cv cv' : List Tb} (s : ∀ t ∈ cv, t ∈ cv') {x : Nat} (h : Need n cv x) : Need n cv' x := by
  induction h with
  | out h1 h2 => exact .out h1 h2
  | step ht _ hx hm ih => exact .step (s _ ht) ih hx hm
structure CovOk (n : Net) (k : Nat) (cv : List Tb) : Prop where
  rise : cv.Pairwise (fun a b => a.1 < b.1)
  gt : ∀ t ∈ cv, n.many ≤ t.1 ∧ t.1 < n.many + n.gates.length
  cut : ∀ t ∈ cv, CutOk n t.1 t.2 ∧ t.2.length ≤ k
  outs : ∀ o ∈ n.outs, n.many ≤ o → ∃ t ∈ cv, t.1 = o
  clo : ∀ t ∈ cv, ∀ x ∈ t.2, n.many ≤ x → ∃ u ∈ cv, u.1 = x
theorem rise_uniq {cv : List Tb} (h : cv.Pairwise (fun a b => a.1 < b.1)) {t u : Tb} (ht : t ∈ cv) (hu : u ∈ cv) (e : t.1 = u.1) : t = u := by
  induction cv with
  | nil => cases ht
  | cons a r ih =>
    obtain ⟨h1, h2⟩ := List.pairwise_cons.mp h
    rcases List.mem_cons.mp ht with e1 | e1
    · rcases List.mem_cons.mp hu with e2 | e2
      · rw [e1, e2]
      · have := h1 u e2
        rw [e1] at e
        omega
    · rcases List.mem_cons.mp hu with e2 | e2
      · have := h1 t e1
        rw [e2] at e
        omega
      · exact ih h2 e1 e2
theorem CovOk.len {n : Net} (ok : n.Ok) {k : Nat} {cv : List Tb} (c : CovOk n k cv) : cv.length ≤ 24 := by
  have h1 : (cv.map fun t : Tb => t.1).Nodup := by
    rw [List.nodup_iff_pairwise_ne, List.pairwise_map]
    exact c.rise.imp fun h => Nat.ne_of_lt h
  have := nodup_lt (m := n.many + n.gates.length) h1 fun y hy => by
    obtain ⟨t, ht, rfl⟩ := List.mem_map.mp hy
    exact (c.gt t ht).2
  rw [List.length_map] at this
  have := ok.m8
  have := ok.g16
  omega
/-! ### a dict whose keys are these numbers -/
def nK (x : Nat) : L2.Key := .inl (x : Int)
theorem nK_inj {x y : Nat} (h : nK x = nK y) : x = y := by
  have := Sum.inl.inj h
  omega
def KeysAt (H : Hp) (d : Addr) (S : Nat → Prop) (b : Nat) : Prop := ∃ kvs : List (L2.Key × V), H d = some (.dK kvs) ∧ kvs.length ≤ b ∧ ∀ x : Nat, (valV kvs (nK x)).isSome = true ↔ S x
theorem KeysAt.nil {H : Hp} {d : Addr} (h : H d = some (.dK [])) : KeysAt H d (fun _ => False) 0 := ⟨[], h, Nat.le_refl _, fun x => by rw [valV_nil]; exact ⟨fun z => (by cases z), fun z => z.elim⟩⟩
theorem put_isSome (kvs : List (L2.Key × V)) (x y : Nat) (v : V) : (valV (putK kvs (nK x) v) (nK y)).isSome = true ↔ (y = x ∨ (valV kvs (nK y)).isSome = true) := by
  rw [valV_put]
  by_cases e : nK y = nK x
  · rw [if_pos e]
    exact ⟨fun _ => .inl (nK_inj e), fun _ => rfl⟩
  · rw [if_neg e]
    exact ⟨fun z => .inr z, fun z => by rcases z with z | z; exact absurd (by rw [z]) e; exact z⟩
end GX
set_option Elab.async false
set_option linter.all false
set_option maxRecDepth 100000
set_option maxHeartbeats 4000000
/-! Least cuts, as lists and as masks. -/
namespace GX
open PySem PySem.Spec PyProof.Rows L2
/-! ### what tells -/
theorem Rc.via {n : Net} {st : List Nat} {g a y : Nat} {k : Nat × Nat × Nat} (hg : n.many ≤ g) (hk : n.gates[g - n.many]? = some k) (hp : a = k.2.1 ∨ a = k.2.2) (gs : g ∉ st) (r : Rc n st a n.many y) : Rc n st g n.many y := by
  induction r with
  | here h => exact .step (.here gs) hg hg hk hp h
  | step _ hg' hj hk' hp' hs ih => exact .step ih hg' hj hk' hp' hs
theorem Rc.split {n : Net} {st : List Nat} {g y : Nat} {k : Nat × Nat × Nat} (hk : n.gates[g - n.many]? = some k) (r : Rc n st g n.many y) : y = g ∨ Rc n st k.2.1 n.many y ∨ Rc n st k.2.2 n.many y := by
  induction r with
  | here h => exact .inl rfl
  | @step g' p k' _ hg' hj hk' hp' hs ih =>
    rcases ih with e | h | h
    · subst e
      rw [hk] at hk'
      cases hk'
      rcases hp' with rfl | rfl
      · exact .inr (.inl (.here hs))
      · exact .inr (.inr (.here hs))
    · exact .inr (.inl (.step h hg' hj hk' hp' hs))
    · exact .inr (.inr (.step h hg' hj hk' hp' hs))
theorem sep_gate {n : Net} {st : List Nat} {g : Nat} {k : Nat × Nat × Nat} (hg : n.many ≤ g) (hk : n.gates[g - n.many]? = some k) (gs : g ∉ st) : Sep n g st ↔ (Sep n k.2.1 st ∧ Sep n k.2.2 st) := by
  refine ⟨fun h => ⟨fun y r => h y (r.via hg hk (.inl rfl) gs), fun y r => h y (r.via hg hk (.inr rfl) gs)⟩, fun h y r => ?_⟩
  rcases r.split hk with e | r | r
  · rw [e]; exact hg
  · exact h.1 y r
  · exact h.2 y r
theorem sep_in {n : Net} {w : Nat} {st : List Nat} (h : w ∈ st) : Sep n w st := fun y r => by
  exfalso
  induction r with
  | here z => exact z h
  | step _ _ _ _ _ _ ih => exact ih
theorem sep_input {n : Net} {w : Nat} {st : List Nat} (h : w < n.many) : Sep n w st ↔ w ∈ st := by
  refine ⟨fun s => Classical.not_not.mp fun z => ?_, sep_in⟩
  have := s w (.here z)
  omega
theorem sep_none {n : Net} (ok : n.Ok) : ∀ b w, w ≤ b → w < n.many + n.gates.length → ¬ Sep n w []
  | b, w, hb, hw => fun s => by
    by_cases h : w < n.many
    · exact absurd ((sep_input h).mp s) List.not_mem_nil
    · obtain ⟨k, hk⟩ : ∃ k, n.gates[w - n.many]? = some k := ⟨_, List.getElem?_eq_getElem (by omega)⟩
      have lt := place_lt ok (by omega) hk (.inl rfl)
      cases b with
      | zero => omega
      | succ b => exact sep_none ok b k.2.1 (by omega) (by omega) ((sep_gate (by omega) hk List.not_mem_nil).mp s).1
/-- only wires up to w matter -/
theorem sep_low {n : Net} (ok : n.Ok) {w : Nat} {st st' : List Nat} (h : ∀ x, x ≤ w → x ∈ st → x ∈ st') (s : Sep n w st) : Sep n w st' := fun y r => by
  refine s y ?_
  induction r with
  | here z => exact .here fun z' => z (h _ (Nat.le_refl _) z')
  | step r hg hj hk hp hs ih => exact .step ih hg hj hk hp fun z' => hs (h _ ((Rc.step r hg hj hk hp hs).le ok) z')
/-! ### masks -/
def bitsOf (M : Nat) : List Nat := (List.range (Builtin.Int.intBits ((M : Nat) : Int))).filter fun x => M.testBit x
theorem mem_bits {M x : Nat} : x ∈ bitsOf M ↔ M.testBit x = true := by
  unfold bitsOf
  rw [List.mem_filter, List.mem_range]
  refine ⟨fun h => h.2, fun h => ⟨?_, h⟩⟩
  refine Nat.lt_of_not_le fun hle => ?_
  rw [intBits_le_iff, Int.natAbs_natCast] at hle
  rw [Nat.testBit_lt_two_pow hle] at h
  cases h
theorem bits_rise (M : Nat) : (bitsOf M).Pairwise (· < ·) := List.Pairwise.filter _ List.pairwise_lt_range
theorem bits_nodup (M : Nat) : (bitsOf M).Nodup := (bits_rise M).imp fun h => Nat.ne_of_lt h
theorem bits_inj {M N : Nat} (h : bitsOf M = bitsOf N) : M = N := by
  apply Nat.eq_of_testBit_eq
  intro j
  have : j ∈ bitsOf M ↔ j ∈ bitsOf N := by rw [h]
  rw [mem_bits, mem_bits] at this
  cases e : M.testBit j <;> cases e2 : N.testBit j <;> simp_all
def maskOf (c : List Nat) : Nat := c.foldr (fun x acc => 2 ^ x ||| acc) 0
theorem mask_bit (c : List Nat) (j : Nat) : (maskOf c).testBit j = decide (j ∈ c) := by
  induction c with
  | nil => exact Nat.zero_testBit j
  | cons x r ih =>
    show (2 ^ x ||| maskOf r).testBit j = _
    rw [Nat.testBit_or, ih, Nat.testBit_two_pow]
    rw [Bool.eq_iff_iff, Bool.or_eq_true, decide_eq_true_iff, decide_eq_true_iff, decide_eq_true_iff, List.mem_cons]
    exact ⟨fun h => h.imp Eq.symm id, fun h => h.imp Eq.symm id⟩
theorem bits_mask {c : List Nat} (h : c.Pairwise (· < ·)) : bitsOf (maskOf c) = c := rise_eq (bits_rise _) h fun z => by rw [mem_bits, mask_bit, decide_eq_true_iff]
theorem mask_bits (M : Nat) : maskOf (bitsOf M) = M := bits_inj (bits_mask (bits_rise M))
def Sub (f M : Nat) : Prop := ∀ j, f.testBit j = true → M.testBit j = true
theorem Sub.refl (M : Nat) : Sub M M := fun _ h => h
theorem Sub.trans {a b c : Nat} (h : Sub a b) (g : Sub b c) : Sub a c := fun j x => g j (h j x)
theorem sub_and {f M : Nat} : f &&& M = f ↔ Sub f M := by
  refine ⟨fun h j hj => ?_, fun h => ?_⟩
  · rw [← h, Nat.testBit_and, Bool.and_eq_true] at hj
    exact hj.2
  · apply Nat.eq_of_testBit_eq
    intro j
    rw [Nat.testBit_and]
    cases e : f.testBit j with
    | false => rfl
    | true => rw [h j e]; rfl
theorem Sub.le {f M : Nat} (h : Sub f M) : f ≤ M := by
  rw [← sub_and.mpr h]
  exact Nat.and_le_right
theorem Sub.anti {f M : Nat} (h : Sub f M) (g : Sub M f) : f = M := Nat.le_antisymm h.le g.le
theorem sub_zero {M : Nat} : Sub 0 M := fun j h => by rw [Nat.zero_testBit] at h; cases h
def pop (M : Nat) : Nat := (bitsOf M).length
theorem pop_sub {f M : Nat} (h : Sub f M) : pop f ≤ pop M := nodup_len (bits_nodup f) fun x hx => mem_bits.mpr (h x (mem_bits.mp hx))
theorem sub_or_left (f s : Nat) : Sub f (f ||| s) := fun j h => by rw [Nat.testBit_or, h]; rfl
theorem sub_or_right (f s : Nat) : Sub s (f ||| s) := fun j h => by rw [Nat.testBit_or, h, Bool.or_true]
theorem or_sub {f s M : Nat} (h : Sub f M) (g : Sub s M) : Sub (f ||| s) M := fun j hj => by
  rw [Nat.testBit_or, Bool.or_eq_true] at hj
  exact hj.elim (h j) (g j)
def Tm (n : Net) (w M : Nat) : Prop := Sep n w (bitsOf M)
theorem Tm.more {n : Net} {w M N : Nat} (h : Tm n w M) (s : Sub M N) : Tm n w N := Sep.more h fun z hz => mem_bits.mpr (s z (mem_bits.mp hz))
structure MinT (n : Net) (w M : Nat) : Prop where
  tl : Tm n w M
  min : ∀ f, Sub f M → Tm n w f → f = M
theorem min_ex {n : Net} {w : Nat} : ∀ b M, M ≤ b → Tm n w M → ∃ f, Sub f M ∧ MinT n w f
  | b, M, hb, h => by
    by_cases hm : ∀ f, Sub f M → Tm n w f → f = M
    · exact ⟨M, Sub.refl M, h, hm⟩
    · obtain ⟨f, hf⟩ := Classical.not_forall.mp hm
      obtain ⟨h1, h2⟩ := Classical.not_imp.mp hf
      obtain ⟨h3, h4⟩ := Classical.not_imp.mp h2
      have := h1.le
      cases b with
      | zero => omega
      | succ b =>
        obtain ⟨e, e1, e2⟩ := min_ex b f (by omega) h3
        exact ⟨e, e1.trans h1, e2⟩
theorem tm_zero {n : Net} (ok : n.Ok) {w : Nat} (hw : w < n.many + n.gates.length) : ¬ Tm n w 0 := by
  have : bitsOf 0 = [] := List.eq_nil_iff_forall_not_mem.mpr fun x hx => by
    have := mem_bits.mp hx
    rw [Nat.zero_testBit] at this
    cases this
  unfold Tm
  rw [this]
  exact sep_none ok w w (Nat.le_refl _) hw
/-- no greater wires -/
theorem MinT.low {n : Net} (ok : n.Ok) {w M : Nat} (h : MinT n w M) : ∀ x, M.testBit x = true → x ≤ w := fun x hx => by
  have e : M % 2 ^ (w + 1) = M := h.min _ (fun j hj => by
      rw [Nat.testBit_mod_two_pow, Bool.and_eq_true] at hj
      exact hj.2) (sep_low ok (fun y hy hm => mem_bits.mpr (by
        rw [Nat.testBit_mod_two_pow, decide_eq_true (by omega), Bool.true_and]
        exact mem_bits.mp hm)) h.tl)
  rw [← e, Nat.testBit_mod_two_pow, Bool.and_eq_true] at hx
  have := of_decide_eq_true hx.1
  omega
theorem bit_self (w : Nat) : (2 ^ w).testBit w = true := by rw [Nat.testBit_two_pow]; exact decide_eq_true rfl
theorem tm_self {n : Net} {w M : Nat} (h : M.testBit w = true) : Tm n w M := sep_in (mem_bits.mpr h)
theorem sub_pow {f w : Nat} (h : Sub f (2 ^ w)) : f = 0 ∨ f = 2 ^ w := by
  by_cases e : f.testBit w = true
  · right
    exact h.anti fun j hj => by
      rw [Nat.testBit_two_pow] at hj
      rw [← of_decide_eq_true hj]
      exact e
  · left
    apply Nat.eq_of_testBit_eq
    intro j
    rw [Nat.zero_testBit]
    cases e2 : f.testBit j with
    | false => rfl
    | true =>
      have := h j e2
      rw [Nat.testBit_two_pow] at this
      rw [of_decide_eq_true this] at e
      exact absurd e2 e
theorem min_pow {n : Net} (ok : n.Ok) {w : Nat} (hw : w < n.many + n.gates.length) : MinT n w (2 ^ w) := by
  refine ⟨tm_self (bit_self w), fun f hf ht => ?_⟩
  rcases sub_pow hf with e | e
  · rw [e] at ht
    exact absurd ht (tm_zero ok hw)
  · exact e
theorem min_has {n : Net} {w M : Nat} (h : MinT n w M) (e : M.testBit w = true) : M = 2 ^ w := by
  refine (h.min (2 ^ w) (fun j hj => ?_) (tm_self (bit_self w))).symm
  rw [Nat.testBit_two_pow] at hj
  rw [← of_decide_eq_true hj]
  exact e
theorem pop_pow (w : Nat) : pop (2 ^ w) = 1 := by
  have : bitsOf (2 ^ w) = [w] := rise_eq (bits_rise _) (List.pairwise_singleton _ _) fun z => by
    rw [mem_bits, Nat.testBit_two_pow, decide_eq_true_iff, List.mem_singleton]
    exact eq_comm
  unfold pop
  rw [this]
  rfl
/-- the masks of a wire -/
def ML (n : Net) (k w : Nat) (ms : List Nat) : Prop := ∀ M, M ∈ ms ↔ (MinT n w M ∧ pop M ≤ k ∧ M.testBit w = false)
theorem ML.input {n : Net} {k w : Nat} (h : w < n.many) : ML n k w [] := fun M => ⟨fun z => (by cases z), fun z => by
  have := mem_bits.mp ((sep_input h).mp z.1.tl)
  rw [z.2.2] at this
  cases this⟩
theorem ML.full {n : Net} (ok : n.Ok) {k w : Nat} {ms : List Nat} (hw : w < n.many + n.gates.length) (hk : 1 ≤ k) (h : ML n k w ms) (M : Nat) : M ∈ ms ++ [2 ^ w] ↔ (MinT n w M ∧ pop M ≤ k) := by
  rw [List.mem_append, List.mem_singleton, h]
  constructor
  · rintro (z | rfl)
    · exact ⟨z.1, z.2.1⟩
    · exact ⟨min_pow ok hw, by rw [pop_pow]; exact hk⟩
  · rintro ⟨h1, h2⟩
    cases e : M.testBit w with
    | false => exact .inl ⟨h1, h2, rfl⟩
    | true => exact .inr (min_has h1 e)
/-- what is found for a gate -/
def Found (k : Nat) (fs ss F : List Nat) : Prop := ∀ M, M ∈ F ↔ ∃ f ∈ fs, ∃ s ∈ ss, M = f ||| s ∧ pop M ≤ k
def hasPart (F : List Nat) (M : Nat) : Bool := F.any fun p => decide (0 < p ∧ p ≠ M ∧ p &&& M = p)
theorem hasPart_iff {F : List Nat} {M : Nat} : hasPart F M = true ↔ ∃ p ∈ F, 0 < p ∧ p ≠ M ∧ Sub p M := by
  unfold hasPart
  rw [List.any_eq_true]
  constructor
  · rintro ⟨p, hp, h⟩
    obtain ⟨h1, h2, h3⟩ := of_decide_eq_true h
    exact ⟨p, hp, h1, h2, sub_and.mp h3⟩
  · rintro ⟨p, hp, h1, h2, h3⟩
    exact ⟨p, hp, decide_eq_true ⟨h1, h2, sub_and.mpr h3⟩⟩
theorem gate_found {n : Net} (ok : n.Ok) {k g : Nat} {kk : Nat × Nat × Nat} {fs ss F : List Nat} (hg : n.many ≤ g) (hw : g < n.many + n.gates.length) (hkk : n.gates[g - n.many]? = some kk)
    (hf : ∀ M, M ∈ fs ↔ (MinT n kk.2.1 M ∧ pop M ≤ k)) (hs : ∀ M, M ∈ ss ↔ (MinT n kk.2.2 M ∧ pop M ≤ k)) (hF : Found k fs ss F) : ML n k g (F.filter fun M => !hasPart F M) := by
  have l1 := place_lt ok hg hkk (.inl rfl)
  have l2 := place_lt ok hg hkk (.inr rfl)
  have nog : ∀ M ∈ F, M.testBit g = false := fun M hM => by
    obtain ⟨f, h1, s, h2, rfl, _⟩ := (hF M).mp hM
    rw [Nat.testBit_or]
    cases e1 : f.testBit g with
    | true =>
      have := ((hf f).mp h1).1.low ok g e1
      omega
    | false =>
      cases e2 : s.testBit g with
      | true =>
        have := ((hs s).mp h2).1.low ok g e2
        omega
      | false => rfl
  have tell : ∀ M ∈ F, Tm n g M := fun M hM => by
    have hn : g ∉ bitsOf M := fun z => by
      have := mem_bits.mp z
      rw [nog M hM] at this
      cases this
    obtain ⟨f, h1, s, h2, rfl, _⟩ := (hF M).mp hM
    exact (sep_gate hg hkk hn).mpr ⟨((hf f).mp h1).1.tl.more (sub_or_left f s), ((hs s).mp h2).1.tl.more (sub_or_right f s)⟩
  have below : ∀ M, Tm n g M → M.testBit g = false → pop M ≤ k → ∃ M' ∈ F, Sub M' M := fun M ht hb hp => by
    have hn : g ∉ bitsOf M := fun z => by
      have := mem_bits.mp z
      rw [hb] at this
      cases this
    obtain ⟨t1, t2⟩ := (sep_gate hg hkk hn).mp ht
    obtain ⟨f, f1, f2⟩ := min_ex M M (Nat.le_refl _) t1
    obtain ⟨s, s1, s2⟩ := min_ex M M (Nat.le_refl _) t2
    have hsub := or_sub f1 s1
    exact ⟨f ||| s, (hF _).mpr ⟨f, (hf f).mpr ⟨f2, Nat.le_trans (pop_sub f1) hp⟩, s, (hs s).mpr ⟨s2, Nat.le_trans (pop_sub s1) hp⟩, rfl, Nat.le_trans (pop_sub hsub) hp⟩, hsub⟩
  have popF : ∀ M ∈ F, pop M ≤ k := fun M hM => by
    obtain ⟨_, _, _, _, _, h⟩ := (hF M).mp hM
    exact h
  intro M
  rw [List.mem_filter]
  constructor
  · rintro ⟨hM, hp⟩
    refine ⟨⟨tell M hM, fun f hf ht => Classical.not_not.mp fun ne => ?_⟩, popF M hM, nog M hM⟩
    have fb : f.testBit g = false := by
      cases e : f.testBit g with
      | false => rfl
      | true =>
        have := hf g e
        rw [nog M hM] at this
        cases this
    obtain ⟨M', h1, h2⟩ := below f ht fb (Nat.le_trans (pop_sub hf) (popF M hM))
    have hpart : hasPart F M = true := hasPart_iff.mpr ⟨M', h1, Nat.pos_of_ne_zero fun z => tm_zero ok hw (by rw [← z]; exact tell M' h1), fun z => ne (hf.anti (by rw [← z]; exact h2)), h2.trans hf⟩
    rw [hpart] at hp
    cases hp
  · rintro ⟨hm, hp, hb⟩
    obtain ⟨M', h1, h2⟩ := below M hm.tl hb hp
    have e : M' = M := hm.min M' h2 (tell M' h1)
    rw [e] at h1
    refine ⟨h1, ?_⟩
    cases hh : hasPart F M with
    | false => rfl
    | true =>
      obtain ⟨p, p1, p2, p3, p4⟩ := hasPart_iff.mp hh
      exact absurd (hm.min p p4 (tell p p1)) p3
/-! ### cuts as lists -/
structure LC (n : Net) (k g : Nat) (c : List Nat) : Prop where
  rise : c.Pairwise (· < ·)
  lt : ∀ x ∈ c, x < g
  sep : Sep n g c
  len : c.length ≤ k
  least : ∀ x ∈ c, ¬ Sep n g (c.filter fun y => decide (y ≠ x))
theorem lc_bits {n : Net} (ok : n.Ok) {k g M : Nat} (h : MinT n g M ∧ pop M ≤ k ∧ M.testBit g = false) : LC n k g (bitsOf M) := by
  obtain ⟨h1, h2, h3⟩ := h
  refine ⟨bits_rise M, fun x hx => ?_, h1.tl, h2, fun x hx hs => ?_⟩
  · have e := mem_bits.mp hx
    have := h1.low ok x e
    refine Nat.lt_of_le_of_ne this fun z => ?_
    rw [z, h3] at e
    cases e
  · have hr : ((bitsOf M).filter fun y => decide (y ≠ x)).Pairwise (· < ·) := (bits_rise M).filter _
    have ht : Tm n g (maskOf ((bitsOf M).filter fun y => decide (y ≠ x))) := by
      unfold Tm
      rw [bits_mask hr]
      exact hs
    have e := h1.min _ (fun j hj => by
      rw [mask_bit, decide_eq_true_iff] at hj
      exact mem_bits.mp (List.mem_filter.mp hj).1) ht
    have := mem_bits.mp hx
    rw [← e, mask_bit, decide_eq_true_iff] at this
    exact of_decide_eq_true (List.mem_filter.mp this).2 rfl
theorem bits_lc {n : Net} {k g : Nat} {c : List Nat} (h : LC n k g c) : MinT n g (maskOf c) ∧ pop (maskOf c) ≤ k ∧ (maskOf c).testBit g = false := by
  refine ⟨⟨by unfold Tm; rw [bits_mask h.rise]; exact h.sep, fun f hf ht => ?_⟩, by unfold pop; rw [bits_mask h.rise]; exact h.len, ?_⟩
  · refine Classical.not_not.mp fun ne => ?_
    obtain ⟨x, hx1, hx2⟩ : ∃ x, x ∈ c ∧ f.testBit x = false := by
      refine Classical.not_not.mp fun z => ne (hf.anti fun j hj => ?_)
      rw [mask_bit, decide_eq_true_iff] at hj
      cases e : f.testBit j with
      | true => rfl
      | false => exact absurd ⟨j, hj, e⟩ z
    refine h.least x hx1 (Sep.more ht fun z hz => List.mem_filter.mpr ⟨?_, decide_eq_true fun e => ?_⟩)
    · have := hf z (mem_bits.mp hz)
      rw [mask_bit, decide_eq_true_iff] at this
      exact this
    · have := mem_bits.mp hz
      rw [e, hx2] at this
      cases this
  · rw [mask_bit]
    exact decide_eq_false fun z => absurd (h.lt g z) (Nat.lt_irrefl _)
/-- the cuts of a gate, in order -/
abbrev lexN (a b : List Nat) : Bool := HT.lexLt (a.map fun n : Nat => (n : Int)) (b.map fun n : Nat => (n : Int))
structure CutsAre (n : Net) (k g : Nat) (cs : List (List Nat)) : Prop where
  mem : ∀ c, c ∈ cs ↔ LC n k g c
  nd : cs.Nodup
  srt : cs.Pairwise fun a b => lexN b a = false
theorem lex_tri : ∀ a b : List Nat, lexN a b = false → lexN b a = false → a = b
  | [], [], _, _ => rfl
  | [], y :: b, h, _ => by cases h
  | x :: a, [], _, h => by cases h
  | x :: a, y :: b, h1, h2 => by
    have h1' : (if ((x : Nat) : Int) = ((y : Nat) : Int) then lexN a b else decide (((x : Nat) : Int) < ((y : Nat) : Int))) = false := h1
    have h2' : (if ((y : Nat) : Int) = ((x : Nat) : Int) then lexN b a else decide (((y : Nat) : Int) < ((x : Nat) : Int))) = false := h2
    by_cases e : x = y
    · subst e
      rw [if_pos rfl] at h1' h2'
      rw [lex_tri a b h1' h2']
    · rw [if_neg (by omega)] at h1' h2'
      have := of_decide_eq_false h1'
      have := of_decide_eq_false h2'
      omega
theorem lex_uniq : ∀ {l m : List (List Nat)}, l.Nodup → m.Nodup → l.Pairwise (fun a b => lexN b a = false) → m.Pairwise (fun a b => lexN b a = false) → (∀ c, c ∈ l ↔ c ∈ m) → l = m
  | [], m, _, _, _, _, h => (List.eq_nil_iff_forall_not_mem.mpr fun x hx => by cases (h x).mpr hx).symm
  | x :: l, [], _, _, _, _, h => by cases (h x).mp List.mem_cons_self
  | x :: l, y :: m, n1, n2, s1, s2, h => by
    obtain ⟨a1, a2⟩ := List.pairwise_cons.mp s1
    obtain ⟨b1, b2⟩ := List.pairwise_cons.mp s2
    obtain ⟨c1, c2⟩ := List.nodup_cons.mp n1
    obtain ⟨d1, d2⟩ := List.nodup_cons.mp n2
    have e : x = y := by
      refine Classical.not_not.mp fun ne => ne ?_
      have hx := (List.mem_cons.mp ((h x).mp List.mem_cons_self)).resolve_left ne
      have hy := (List.mem_cons.mp ((h y).mpr List.mem_cons_self)).resolve_left (Ne.symm ne)
      exact lex_tri x y (b1 x hx) (a1 y hy)
    subst e
    rw [lex_uniq c2 d2 a2 b2 fun c => ?_]
    refine ⟨fun hc => ?_, fun hc => ?_⟩
    · exact (List.mem_cons.mp ((h c).mp (List.mem_cons_of_mem _ hc))).resolve_left fun z => c1 (by rw [← z]; exact hc)
    · exact (List.mem_cons.mp ((h c).mpr (List.mem_cons_of_mem _ hc))).resolve_left fun z => d1 (by rw [← z]; exact hc)
theorem CutsAre.uniq {n : Net} {k g : Nat} {cs ds : List (List Nat)} (h : CutsAre n k g cs) (d : CutsAre n k g ds) : cs = ds := lex_uniq h.nd d.nd h.srt d.srt fun c => (h.mem c).trans (d.mem c).symm
theorem cuts_of_masks {n : Net} (ok : n.Ok) {k g : Nat} {ms : List Nat} (h : ML n k g ms) (nd : ms.Nodup) {cs : List (List Nat)} (pm : cs.Perm (ms.map bitsOf)) (srt : cs.Pairwise fun a b => lexN b a = false) : CutsAre n k g cs := by
  refine ⟨fun c => ?_, ?_, srt⟩
  · rw [pm.mem_iff, List.mem_map]
    constructor
    · rintro ⟨M, hM, rfl⟩
      exact lc_bits ok ((h M).mp hM)
    · intro hc
      exact ⟨maskOf c, (h _).mpr (bits_lc hc), bits_mask hc.rise⟩
  · refine pm.nodup_iff.mpr ?_
    rw [List.nodup_iff_pairwise_ne, List.pairwise_map]
    exact (List.nodup_iff_pairwise_ne.mp nd).imp fun h e => h (bits_inj e)
/-! ### taking bits away -/
theorem clow_bit : ∀ b x, x ≤ b → x ≠ 0 → ∃ l, x.testBit l = true ∧ ∀ j, (x &&& (x - 1)).testBit j = (x.testBit j && decide (j ≠ l))
  | 0, x, hb, h0 => absurd (Nat.le_zero.mp hb) h0
  | b + 1, x, hb, h0 => by
    by_cases e : x % 2 = 1
    · refine ⟨0, by rw [Nat.testBit_zero]; exact decide_eq_true e, fun j => ?_⟩
      cases j with
      | zero => rw [Nat.testBit_and, Nat.testBit_zero, Nat.testBit_zero, decide_eq_false (p := (x - 1) % 2 = 1) (by omega), Bool.and_false, decide_eq_false (p := 0 ≠ 0) (fun z => z rfl), Bool.and_false]
      | succ j => rw [Nat.testBit_and, Nat.testBit_add_one, Nat.testBit_add_one, show (x - 1) / 2 = x / 2 by omega, Bool.and_self, decide_eq_true (by omega), Bool.and_true]
    · obtain ⟨l, h1, h2⟩ := clow_bit b (x / 2) (by omega) (by omega)
      refine ⟨l + 1, by rw [Nat.testBit_add_one]; exact h1, fun j => ?_⟩
      cases j with
      | zero => rw [Nat.testBit_and, Nat.testBit_zero, decide_eq_false e, Bool.false_and, Bool.false_and]
      | succ j =>
        rw [Nat.testBit_and, Nat.testBit_add_one, Nat.testBit_add_one, show (x - 1) / 2 = x / 2 - 1 by omega, ← Nat.testBit_and, h2 j]
        congr 1
        exact decide_eq_decide.mpr (by omega)
theorem pop_clow {x : Nat} (h : x ≠ 0) : pop (x &&& (x - 1)) + 1 = pop x := by
  obtain ⟨l, h1, h2⟩ := clow_bit x x (Nat.le_refl _) h
  have hb : ∀ j, j ∈ bitsOf (x &&& (x - 1)) ↔ (j ∈ bitsOf x ∧ j ≠ l) := fun j => by rw [mem_bits, h2, Bool.and_eq_true, decide_eq_true_iff, mem_bits]
  have pm : (l :: bitsOf (x &&& (x - 1))).Perm (bitsOf x) := by
    refine (List.perm_ext_iff_of_nodup (List.nodup_cons.mpr ⟨fun z => ((hb l).mp z).2 rfl, bits_nodup _⟩) (bits_nodup _)).mpr fun j => ?_
    rw [List.mem_cons, hb]
    constructor
    · rintro (rfl | h)
      · exact mem_bits.mpr h1
      · exact h.1
    · intro h
      by_cases e : j = l
      · exact .inl e
      · exact .inr ⟨h, e⟩
  exact pm.length_eq
theorem pop_zero_iff {x : Nat} : pop x = 0 ↔ x = 0 := by
  constructor
  · intro h
    refine Classical.not_not.mp fun z => ?_
    have := pop_clow z
    omega
  · rintro rfl
    have : bitsOf 0 = [] := List.eq_nil_iff_forall_not_mem.mpr fun x hx => by
      have := mem_bits.mp hx
      rw [Nat.zero_testBit] at this
      cases this
    unfold pop
    rw [this]
    rfl
def clows : Nat → Nat → Nat
  | 0, x => x
  | i + 1, x => let y := clows i x; y &&& (y - 1)
theorem clows_pop (x : Nat) : ∀ i, pop (clows i x) = pop x - i
  | 0 => rfl
  | i + 1 => by
    show pop (clows i x &&& (clows i x - 1)) = _
    have ih := clows_pop x i
    by_cases e : clows i x = 0
    · rw [e] at ih ⊢
      have z := pop_zero_iff.mpr (rfl : (0 : Nat) = 0)
      rw [Nat.zero_and]
      omega
    · have := pop_clow e
      omega
theorem fits_iff (x k : Nat) : clows k x = 0 ↔ pop x ≤ k := by
  rw [← pop_zero_iff, clows_pop]
  omega
/-- the next part below -/
theorem next_part : ∀ b p m q, p ≤ b → 0 < p → Sub p m → Sub q m → q < p → q ≤ (p - 1) &&& m
  | 0, p, m, q, hb, h0, _, _, _ => absurd (Nat.le_zero.mp hb) (Nat.ne_of_gt h0)
  | b + 1, p, m, q, hb, h0, hp, hq, hlt => by
    have half : ∀ {x y : Nat}, Sub x y → Sub (x / 2) (y / 2) := fun {x y} h j hj => by
      rw [← Nat.testBit_add_one] at hj ⊢
      exact h _ hj
    have low : ∀ {x y : Nat}, Sub x y → x % 2 ≤ y % 2 := fun {x y} h => by
      have := h 0
      rw [Nat.testBit_zero, Nat.testBit_zero, decide_eq_true_iff, decide_eq_true_iff] at this
      omega
    have hand : ∀ x y : Nat, x &&& y = 2 * (x / 2 &&& y / 2) + (x % 2) * (y % 2) := fun x y => by
      apply Nat.eq_of_testBit_eq
      intro j
      have hm : x % 2 * (y % 2) = 0 ∨ x % 2 * (y % 2) = 1 := by
        rcases Nat.mod_two_eq_zero_or_one x with h | h <;> rcases Nat.mod_two_eq_zero_or_one y with h' | h' <;> rw [h, h'] <;> simp
      cases j with
      | zero =>
        rw [Nat.testBit_and, Nat.testBit_zero, Nat.testBit_zero, Nat.testBit_zero, show (2 * (x / 2 &&& y / 2) + x % 2 * (y % 2)) % 2 = x % 2 * (y % 2) by omega]
        rcases Nat.mod_two_eq_zero_or_one x with h | h <;> rcases Nat.mod_two_eq_zero_or_one y with h' | h' <;> rw [h, h'] <;> rfl
      | succ j => rw [Nat.testBit_and, Nat.testBit_add_one, Nat.testBit_add_one, Nat.testBit_add_one, show (2 * (x / 2 &&& y / 2) + x % 2 * (y % 2)) / 2 = (x / 2 &&& y / 2) by omega, Nat.testBit_and]
    rw [hand]
    by_cases e : p % 2 = 1
    · have h1 := sub_and.mpr (half hp)
      rw [show (p - 1) / 2 = p / 2 by omega, h1]
      have := low hq
      have := low hp
      omega
    · have ih := next_part b (p / 2) (m / 2) (q / 2) (by omega) (by omega) (half hp) (half hq)
      rw [show (p - 1) / 2 = p / 2 - 1 by omega, show (p - 1) % 2 = 1 by omega, Nat.one_mul]
      have h3 := low hq
      by_cases e2 : q / 2 < p / 2
      · have := ih e2
        omega
      · omega
end GX
set_option Elab.async false
set_option linter.all false
set_option maxRecDepth 100000
set_option maxHeartbeats 4000000
/-! t.index(x), t a tuple of whole numbers from 0 on. -/
namespace GX
open PySem PySem.Spec PyProof.Rows L2
end GX
set_option Elab.async false
set_option linter.all false
set_option maxRecDepth 100000
set_option maxHeartbeats 4000000
/-! Tuples held as just made (frozen), so that their methods can be called; and let go again. -/
namespace GX
open PySem PySem.Spec PyProof.Rows L2
/-- a tuple that is known to hold no dict -/
def FzT (H : Hp) (p : Addr) (xs : List V) : Prop := ∃ o : Obj, H p = some (.frz o (.tup xs)) ∧ o.cls = .type "tuple" ∧ o.dict = none
theorem FzT.sq {K : PySem.W.Frag} {H : Hp} {p : Addr} {xs : List V} (h : FzT H p xs) : SqT K H p xs := by
  obtain ⟨o, h1, _⟩ := h
  exact .inl (.inr ⟨o, h1⟩)
theorem FzT.mono {H H' : Hp} {p : Addr} {xs : List V} (h : FzT H p xs) (k : ∀ u, H p = some u → H' p = some u) : FzT H' p xs := by
  obtain ⟨o, h1, h2⟩ := h
  exact ⟨o, k _ h1, h2⟩
end GX
set_option Elab.async false
set_option linter.all false
set_option maxRecDepth 100000
set_option maxHeartbeats 4000000
/-! Tuples that are held frozen from their making: displays, sums, and dict() of them. -/
namespace GX
open PySem PySem.Spec PyProof.Rows L2
/-- what stands now stood not ahead, if it is none there -/
def Was (H H' : Hp) : Prop := ∀ b, H' b = none → H b = none
theorem Was.refl {H : Hp} : Was H H := fun _ e => e
theorem Was.trans {H H1 H2 : Hp} (a : Was H H1) (b : Was H1 H2) : Was H H2 := fun c e => a c (b c e)
theorem FzT.same {H H' : Hp} {p : Addr} {xs : List V} (h : FzT H p xs) (s : Same H H') : FzT H' p xs := h.mono fun u e => s _ _ e
def rCatF (K : PySem.W.Frag) : V → V → Hp → VK → Prop := fun x y H Q => ∃ (a b : Addr) (xs ys : List V), x = .ref a ∧ y = .ref b ∧ SqT K H a xs ∧ SqT K H b ys ∧ xs ≠ [] ∧ xs.length + ys.length ≤ sizeLine ∧ (ys = [] → Q (.ref a) H) ∧ (ys ≠ [] → ∀ p H', H p = none → (∀ c, c ≠ p → H' c = H c) → FzT H' p (xs ++ ys) → Q (.ref p) H')
theorem op_catF {X : Cx} : OpR X (binaryOp .Add) (rCatF X.K) := by
  intro pins s σ H x y v u Q I rx ry h
  obtain ⟨a, b, xs, ys, rfl, rfl, ha, hb, hx, hz, q1, q2⟩ := h
  cases rx
  cases ry
  obtain ⟨its, r1, p1, _⟩ := I.tuple ha
  obtain ⟨its2, r2, p2, _⟩ := I.tuple hb
  refine HT.cat_tup p1 p2 (fun z => hx (r1.nil_iff.mp z)) (fun z => ⟨.ref a, H, I, rfl, q1 (r2.nil_iff.mp z)⟩) (fun z => ?_) (by rw [← r1.length, ← r2.length]; exact hz)
  have hat := Heap.get?_push_size s.heap (o := { cls := .type "tuple", data := .seq (its ++ its2).toArray }) rfl
  exact ⟨.ref s.heap.objs.size, _, I.laid (t' := s.toks) (o := .frz { cls := .type "tuple", data := .seq (its ++ its2).toArray } (.tup (xs ++ ys))) (fun b ob q => Heap.get?_push_of_some _ q) (Nat.le_refl _) ⟨hat, by rw [List.length_append]; exact hz, _, r1.append r2, _, hat, rfl, _, rfl⟩, rfl, q2 (fun w => z (r2.nil_iff.mpr w)) _ _ (I.hok.fresh (Nat.le_refl _)) (fun b hb => upd_ne hb) ⟨_, upd_same, rfl, rfl⟩⟩
/-- dict(t), t a tuple of pairs, held frozen -/
theorem call_dictF {X : Cx} (hcalm : X.calm = true) : CallR X (.type "dict") (fun xs H Q => ∃ (a : Addr) (ps : List Addr) (kvs : List (L2.Key × V)), xs = [.ref a] ∧ FzT H a (ps.map V.ref) ∧ Paired (fun p kv => SqT X.K H p [kV kv.1, kv.2]) ps kvs ∧
    ∀ p, H p = none → Q (.ref p) (upd H p (.dK (mergeK [] kvs)))) := by
  intro pins s σ H xs us Q I r q
  obtain ⟨a, ps, kvs, rfl, hq, hp, q⟩ := q
  rw [Vals.ref1 r]
  obtain ⟨its, rv, pt, hz⟩ := I.tuple (hq.sq (K := X.K))
  have ei := refs_at rv
  subst ei
  rw [List.length_map] at hz
  obtain ⟨prs, rel, hl, hpr⟩ := pairs_of I hp
  obtain ⟨ob, hf, hc, hd⟩ := hq
  have hg : s.heap.get? a = some ob := (I.hok a _ hf).1
  obtain ⟨ob', hg', hc', n, hdat⟩ := pt
  rw [hg] at hg'
  cases hg'
  have hlen : prs.length = (ps.map Value.ref).toArray.size := by rw [List.size_toArray, List.length_map, hl]
  -- the values of the keys, as they stand
  have hex : ∃ kus : List Value, kus.length = prs.length ∧ ∀ (j : Nat) (q : L2.Key × Value) (u : Value), prs[j]? = some q → kus[j]? = some u → ∃ b : Addr, ps[j]? = some b ∧ IsTup s.heap b #[u, q.2] ∧ keyIs q.1 u = true := by
    have key : ∀ (m : Nat) (qs : List (L2.Key × Value)) (d : Nat), qs.length = m → (∀ (j : Nat) (q : L2.Key × Value), qs[j]? = some q → ∃ (b : Addr) (u : Value), ps[d + j]? = some b ∧ IsTup s.heap b #[u, q.2] ∧ keyIs q.1 u = true) →
        ∃ kus : List Value, kus.length = m ∧ ∀ (j : Nat) (q : L2.Key × Value) (u : Value), qs[j]? = some q → kus[j]? = some u → ∃ b : Addr, ps[d + j]? = some b ∧ IsTup s.heap b #[u, q.2] ∧ keyIs q.1 u = true := by
      intro m
      induction m with
      | zero =>
        intro qs d hm _
        rw [List.length_eq_zero_iff.mp hm]
        exact ⟨[], rfl, fun j q u e => by simp at e⟩
      | succ m ih =>
        intro qs d hm hh
        cases qs with
        | nil => cases hm
        | cons q0 r0 =>
          obtain ⟨b, u, e1, e2, e3⟩ := hh 0 q0 rfl
          obtain ⟨kus, kl, kh⟩ := ih r0 (d + 1) (by simpa using hm) fun j q e => by
            have := hh (j + 1) q (by simpa using e)
            rw [show d + (j + 1) = d + 1 + j by omega] at this
            exact this
          refine ⟨u :: kus, by rw [List.length_cons, kl], fun j q u' e f => ?_⟩
          cases j with
          | zero =>
            cases e
            cases f
            exact ⟨b, e1, e2, e3⟩
          | succ j =>
            have := kh j q u' (by simpa using e) (by simpa using f)
            rw [show d + 1 + j = d + (j + 1) by omega] at this
            exact this
    obtain ⟨kus, kl, kh⟩ := key prs.length prs 0 rfl fun j q e => by rw [Nat.zero_add]; exact hpr j q e
    exact ⟨kus, kl, fun j q u e f => by have := kh j q u e f; rwa [Nat.zero_add] at this⟩
  obtain ⟨kus, kl, kh⟩ := hex
  have zl : (kus.zip (prs.map fun q : L2.Key × Value => q.2)).length = prs.length := by rw [List.length_zip, List.length_map, kl, Nat.min_self]
  have zat : ∀ (j : Nat) (k v : Value), (kus.zip (prs.map fun q : L2.Key × Value => q.2))[j]? = some (k, v) → ∃ q, prs[j]? = some q ∧ kus[j]? = some k ∧ q.2 = v := fun j k v e => by
    obtain ⟨e1, e2⟩ := List.getElem?_zip_eq_some.mp e
    rw [List.getElem?_map] at e2
    cases h : prs[j]? with
    | none => rw [h] at e2; cases e2
    | some q =>
      rw [h] at e2
      exact ⟨q, rfl, e1, Option.some.inj e2⟩
  refine PySem.call_dict_pairs (knd := mixKind X.prog X.w) (kvs := prs) (PairArg.tuple a (ps.map Value.ref).toArray (fun j => ps.getD j 0) (kus.zip (prs.map fun q : L2.Key × Value => q.2))) (I.ok.hd hcalm) ⟨⟨ob, n, hg, hc, hd, hdat⟩, by rw [zl]; exact hlen.symm, fun j k v e => ?_⟩ ⟨zl.symm, fun j key v e => ?_⟩ (by rw [zl, hl]; exact hz) fun h' tk hd' k => ?_
  · obtain ⟨q', h1, h2, h3⟩ := zat j k v e
    obtain ⟨b, e1, e2, e3⟩ := kh j q' k h1 h2
    have eg : ps.getD j 0 = b := by rw [List.getD_eq_getElem?_getD, e1]; rfl
    refine ⟨?_, ?_⟩
    · show (ps.map Value.ref).toArray[j]? = some (Value.ref (ps.getD j 0))
      rw [eg]
      simp [e1]
    · show PairAt s.heap (ps.getD j 0) k v
      rw [eg, ← h3]
      exact .inl e2
  · obtain ⟨q', h1, h2, h3⟩ := zat j key v e
    obtain ⟨b, e1, e2, e3⟩ := kh j q' key h1 h2
    exact ⟨q'.1, by rw [h1, ← h3], e3⟩
  · have hm : (s.heap.objs.size == sysModules) = false := beq_eq_false_iff_ne.mpr (Nat.ne_of_gt I.big)
    have hlen2 : (mergeK [] kvs).length ≤ sizeLine := by
      refine Nat.le_trans (length_mergeK kvs []) ?_
      rw [List.length_nil, Nat.zero_add, rel.length, hl]
      exact hz
    exact ⟨.ref s.heap.objs.size, upd H s.heap.objs.size (.dK (mergeK [] kvs)), I.laid (t' := tk) (fun b o e => k b o (by simp) e) (Nat.le_refl _) (show ObjOk X.prog X.w _ _ _ (.dK (mergeK [] kvs)) from ⟨hlen2, hm, merged [] prs, KV.merge rel .nil, hd'⟩), rfl, q _ (I.hok.fresh (Nat.le_refl _))⟩
end GX
set_option Elab.async false
set_option linter.all false
set_option maxRecDepth 100000
set_option maxHeartbeats 4000000
/-! Things of any make, as they stand in the heap, and what is a net of them. -/
namespace GX
open PySem PySem.Spec PyProof.Rows L2
theorem pg_tupK {X : Cx} {K : PySem.W.Frag} {es : List Expr} {k : Nat} {t : TGs} {n : Nat} {pos : _} (h : X.K = K) (hc : X.calm = true) (hh : PGs X es t) (hn : (assignEach es X.env).length = n := by rfl) (hst : (assignEach es X.env).findIdx? (·.1) = none := by rfl) : PG X (.Tuple es k pos) (gTup K n t) := by subst h; exact pg_tup hc hh hn hst
inductive Th where
  | non | bl (b : Bool) | int (i : Int) | str (x : Str) | oth (l : Bool) | tup (ts : List Th)
mutual
inductive Rep (H : Hp) : V → Th → Prop
  | non : Rep H .non .non
  | bl (b : Bool) : Rep H (.bl b) (.bl b)
  | int (i : Int) : Rep H (.int i) (.int i)
  | str (x : Str) : Rep H (.str x) (.str x)
  | lst {a : Addr} {xs : List V} (e : H a = some (.lst xs)) : Rep H (.ref a) (.oth true)
  | dic {a : Addr} {kvs : List (Key × V)} (e : H a = some (.dK kvs)) : Rep H (.ref a) (.oth false)
  | tup {a : Addr} {vs : List V} {ts : List Th} (e : H a = some (.tup vs)) (r : RepAll H vs ts) : Rep H (.ref a) (.tup ts)
inductive RepAll (H : Hp) : List V → List Th → Prop
  | nil : RepAll H [] []
  | cons {v : V} {vs : List V} {t : Th} {ts : List Th} : Rep H v t → RepAll H vs ts → RepAll H (v :: vs) (t :: ts)
end
/-- lists, dicts and tuples stand -/
def KeepT (H H' : Hp) : Prop := ∀ b o, H b = some o → (∀ ps, o ≠ .tbl ps) → H' b = some o
mutual
theorem Rep.mono {H H' : Hp} (k : KeepT H H') : ∀ {v : V} {t : Th}, Rep H v t → Rep H' v t
  | _, _, .non => .non
  | _, _, .bl b => .bl b
  | _, _, .int i => .int i
  | _, _, .str x => .str x
  | _, _, .lst e => .lst (k _ _ e fun _ z => by cases z)
  | _, _, .dic e => .dic (k _ _ e fun _ z => by cases z)
  | _, _, .tup e r => .tup (k _ _ e fun _ z => by cases z) (r.mono k)
theorem RepAll.mono {H H' : Hp} (k : KeepT H H') : ∀ {vs : List V} {ts : List Th}, RepAll H vs ts → RepAll H' vs ts
  | _, _, .nil => .nil
  | _, _, .cons a b => .cons (a.mono k) (b.mono k)
end
theorem KeepT.same {H H' : Hp} (s : Same H H') : KeepT H H' := fun b o e _ => s b o e
theorem KeepT.aft {Ts : List Addr} {H H' : Hp} (t : Tabs Ts H) (a : Aft Ts H H') : KeepT H H' := fun b o e n => a.kp b o e (t.nott e n)
theorem RepAll.length {H : Hp} : ∀ {vs : List V} {ts : List Th}, RepAll H vs ts → vs.length = ts.length
  | _, _, .nil => rfl
  | _, _, .cons _ b => by rw [List.length_cons, List.length_cons, b.length]
theorem RepAll.get {H : Hp} : ∀ {vs : List V} {ts : List Th} {i : Nat} {v : V}, RepAll H vs ts → vs[i]? = some v → ∃ t, ts[i]? = some t ∧ Rep H v t
  | _, _, _, _, .nil, h => by simp at h
  | _, _, 0, _, .cons a _, h => by cases h; exact ⟨_, rfl, a⟩
  | _, _, i + 1, _, .cons _ b, h => RepAll.get (i := i) b h
theorem RepAll.append {H : Hp} : ∀ {vs ws : List V} {ts us : List Th}, RepAll H vs ts → RepAll H ws us → RepAll H (vs ++ ws) (ts ++ us)
  | _, _, _, _, .nil, s => s
  | _, _, _, _, .cons a b, s => .cons a (b.append s)
theorem RepAll.drop {H : Hp} : ∀ {vs : List V} {ts : List Th} (n : Nat), RepAll H vs ts → RepAll H (vs.drop n) (ts.drop n)
  | _, _, 0, r => r
  | _, _, _ + 1, .nil => .nil
  | _, _, n + 1, .cons _ b => b.drop n
theorem RepAll.take {H : Hp} : ∀ {vs : List V} {ts : List Th} (n : Nat), RepAll H vs ts → RepAll H (vs.take n) (ts.take n)
  | _, _, 0, _ => .nil
  | _, _, _ + 1, .nil => .nil
  | _, _, n + 1, .cons a b => .cons a (b.take n)
theorem RepAll.reverse {H : Hp} : ∀ {vs : List V} {ts : List Th}, RepAll H vs ts → RepAll H vs.reverse ts.reverse
  | _, _, .nil => .nil
  | _, _, .cons a b => by
    rw [List.reverse_cons, List.reverse_cons]
    exact b.reverse.append (.cons a .nil)
/-! ### what is a net -/
def Th.isB (b : Int) : Th → Bool
  | .int i => decide (0 ≤ i) && decide (i < b)
  | _ => false
def Th.many : Th → Bool
  | .int i => decide (1 ≤ i) && decide (i ≤ 8)
  | _ => false
def Th.gate (w : Int) : Th → Bool
  | .tup [k, a, b] => k.isB 16 && a.isB w && b.isB w
  | _ => false
def gatesFrom (w : Int) : List Th → Bool
  | [] => true
  | t :: r => t.gate w && gatesFrom (w + 1) r
def Th.gates (m : Int) : Th → Bool
  | .tup ts => decide (ts.length ≤ 16) && gatesFrom m ts
  | _ => false
def Th.outs (c : Int) : Th → Bool
  | .tup ts => decide (1 ≤ ts.length) && decide (ts.length ≤ 8) && ts.all (Th.isB c)
  | _ => false
def Th.val : Th → Int
  | .int i => i
  | _ => 0
def Th.len : Th → Nat
  | .tup ts => ts.length
  | _ => 0
end GX
set_option Elab.async false
set_option linter.all false
set_option maxRecDepth 100000
set_option maxHeartbeats 4000000
/-! Things of whole numbers and tuples alone, no longer than n, no deeper than d. -/
namespace GX
open PySem PySem.Spec PyProof.Rows L2
def Th.pl (n : Nat) : Nat → Th → Bool
  | 0, _ => false
  | _ + 1, .int _ => true
  | d + 1, .tup ts => decide (ts.length ≤ n) && ts.all (Th.pl n d)
  | _ + 1, _ => false
/-- tuples stand -/
def KeepU (H H' : Hp) : Prop := ∀ b xs, H b = some (.tup xs) → H' b = some (.tup xs)
theorem KeepU.trans {H H1 H2 : Hp} (a : KeepU H H1) (b : KeepU H1 H2) : KeepU H H2 := fun c xs e => b c xs (a c xs e)
theorem KeepU.same {H H' : Hp} (s : Same H H') : KeepU H H' := fun b xs e => s b _ e
theorem pl_monoAll {H H' : Hp} {n d : Nat} (ih : ∀ v t, Th.pl n d t = true → Rep H v t → Rep H' v t) : ∀ {vs : List V} {ts : List Th}, ts.all (Th.pl n d) = true → RepAll H vs ts → RepAll H' vs ts
  | _, _, _, .nil => .nil
  | _, _, p, .cons a b => by
    rw [List.all_cons, Bool.and_eq_true] at p
    exact .cons (ih _ _ p.1 a) (pl_monoAll ih p.2 b)
theorem pl_mono {H H' : Hp} {n : Nat} (k : KeepU H H') : ∀ (d : Nat) (v : V) (t : Th), Th.pl n d t = true → Rep H v t → Rep H' v t
  | 0, _, _, p, _ => by cases p
  | d + 1, v, t, p, r => by
    cases r with
    | int i => exact .int i
    | @tup a vs ts e ra =>
      have p' : (decide (ts.length ≤ n) && ts.all (Th.pl n d)) = true := p
      rw [Bool.and_eq_true] at p'
      exact .tup (k _ _ e) (pl_monoAll (pl_mono k d) p'.2 ra)
    | _ => cases p
theorem pl_le {n m : Nat} (h : n ≤ m) : ∀ (d : Nat) (t : Th), Th.pl n d t = true → Th.pl m d t = true
  | 0, _, p => by cases p
  | d + 1, t, p => by
    cases t with
    | int i => rfl
    | tup ts =>
      have p' : (decide (ts.length ≤ n) && ts.all (Th.pl n d)) = true := p
      rw [Bool.and_eq_true] at p'
      show (decide (ts.length ≤ m) && ts.all (Th.pl m d)) = true
      rw [Bool.and_eq_true]
      refine ⟨decide_eq_true (Nat.le_trans (of_decide_eq_true p'.1) h), ?_⟩
      rw [List.all_eq_true]
      intro x hx
      exact pl_le h d x (List.all_eq_true.mp p'.2 x hx)
    | _ => cases p
theorem pl_dpAll {K : PySem.W.Frag} {H : Hp} {n d : Nat} (ih : ∀ v t, Th.pl n d t = true → Rep H v t → ∃ x, Dp K H v x ∧ x.canLay0 = true ∧ x.depth ≤ d) :
    ∀ {vs : List V} {ts : List Th}, ts.all (Th.pl n d) = true → RepAll H vs ts → ∃ xs, DpAll K H vs xs ∧ PyData.canLayAll0 xs = true ∧ PyData.depthAll xs ≤ d ∧ xs.length = vs.length
  | _, _, _, .nil => ⟨[], .nil, rfl, Nat.zero_le _, rfl⟩
  | _, _, p, .cons a b => by
    rw [List.all_cons, Bool.and_eq_true] at p
    obtain ⟨x, h1, h2, h3⟩ := ih _ _ p.1 a
    obtain ⟨xs, g1, g2, g3, g4⟩ := pl_dpAll ih p.2 b
    refine ⟨x :: xs, .cons h1 g1, ?_, ?_, by rw [List.length_cons, List.length_cons, g4]⟩
    · show (x.canLay0 && PyData.canLayAll0 xs) = true
      rw [h2, g2]
      rfl
    · show max x.depth (PyData.depthAll xs) ≤ d
      omega
theorem pl_dp {K : PySem.W.Frag} {H : Hp} {n : Nat} : ∀ (d : Nat) (v : V) (t : Th), Th.pl n d t = true → Rep H v t → ∃ x, Dp K H v x ∧ x.canLay0 = true ∧ x.depth ≤ d
  | 0, v, t, p, r => by cases p
  | d + 1, v, t, p, r => by
    cases r with
    | int i => exact ⟨.int i, .int i, rfl, Nat.zero_le _⟩
    | @tup a vs ts e ra =>
      have p' : (decide (ts.length ≤ n) && ts.all (Th.pl n d)) = true := p
      rw [Bool.and_eq_true] at p'
      obtain ⟨xs, g1, g2, g3, _⟩ := pl_dpAll (pl_dp d) p'.2 ra
      exact ⟨.tuple xs, .tup (SqT.of e) g1, g2, Nat.succ_le_succ g3⟩
    | _ => cases p
/-- things of the values: whole numbers and tuples -/
def Pl (n d : Nat) (H : Hp) (v : V) : Prop := ∃ t, Rep H v t ∧ Th.pl n d t = true
def PlAll (n d : Nat) (H : Hp) (vs : List V) : Prop := ∃ ts, RepAll H vs ts ∧ ts.all (Th.pl n d) = true
theorem Pl.mono {n d : Nat} {H H' : Hp} {v : V} (h : Pl n d H v) (k : KeepU H H') : Pl n d H' v := let ⟨t, r, p⟩ := h; ⟨t, pl_mono k d v t p r, p⟩
theorem PlAll.mono {n d : Nat} {H H' : Hp} {vs : List V} (h : PlAll n d H vs) (k : KeepU H H') : PlAll n d H' vs := let ⟨ts, r, p⟩ := h; ⟨ts, pl_monoAll (pl_mono k d) p r, p⟩
theorem all_sub {α : Type} {f : α → Bool} {xs ys : List α} (h : xs.all f = true) (s : ∀ x ∈ ys, x ∈ xs) : ys.all f = true := by
  rw [List.all_eq_true] at h ⊢
  exact fun x hx => h x (s x hx)
theorem PlAll.drop {n d : Nat} {H : Hp} {vs : List V} (i : Nat) (h : PlAll n d H vs) : PlAll n d H (vs.drop i) := let ⟨ts, r, p⟩ := h; ⟨ts.drop i, r.drop i, all_sub p fun _ hx => List.mem_of_mem_drop hx⟩
theorem PlAll.take {n d : Nat} {H : Hp} {vs : List V} (i : Nat) (h : PlAll n d H vs) : PlAll n d H (vs.take i) := let ⟨ts, r, p⟩ := h; ⟨ts.take i, r.take i, all_sub p fun _ hx => List.mem_of_mem_take hx⟩
theorem PlAll.cut {n d : Nat} {H : Hp} {vs : List V} (lo hi : Option Int) (h : PlAll n d H vs) : PlAll n d H (cutV vs lo hi) := by
  unfold cutV
  exact (h.drop _).take _
theorem PlAll.reverse {n d : Nat} {H : Hp} {vs : List V} (h : PlAll n d H vs) : PlAll n d H vs.reverse := let ⟨ts, r, p⟩ := h; ⟨ts.reverse, r.reverse, all_sub p fun _ hx => List.mem_reverse.mp hx⟩
theorem PlAll.append {n d : Nat} {H : Hp} {vs ws : List V} (h : PlAll n d H vs) (g : PlAll n d H ws) : PlAll n d H (vs ++ ws) := let ⟨ts, r, p⟩ := h; let ⟨us, s, q⟩ := g; ⟨ts ++ us, r.append s, by rw [List.all_append, p, q]; rfl⟩
theorem PlAll.get {n d : Nat} {H : Hp} {vs : List V} {i : Nat} {v : V} (h : PlAll n d H vs) (e : vs[i]? = some v) : Pl n d H v := by
  obtain ⟨ts, r, p⟩ := h
  obtain ⟨t, ht, rt⟩ := r.get e
  exact ⟨t, rt, List.all_eq_true.mp p t (List.mem_of_getElem? ht)⟩
theorem PlAll.le {n m d : Nat} {H : Hp} {vs : List V} (h : PlAll n d H vs) (l : n ≤ m) : PlAll m d H vs := let ⟨ts, r, p⟩ := h; ⟨ts, r, by
  rw [List.all_eq_true] at p ⊢
  exact fun x hx => pl_le l d x (p x hx)⟩
theorem Pl.tup {n d : Nat} {H : Hp} {a : Addr} {vs : List V} (e : H a = some (.tup vs)) (hl : vs.length ≤ n) (h : PlAll n d H vs) : Pl n (d + 1) H (.ref a) := by
  obtain ⟨ts, r, p⟩ := h
  refine ⟨.tup ts, .tup e r, ?_⟩
  show (decide (ts.length ≤ n) && ts.all (Th.pl n d)) = true
  rw [p, Bool.and_true]
  exact decide_eq_true (by rw [← r.length]; exact hl)
theorem Pl.int {n d : Nat} {H : Hp} (i : Int) : Pl n (d + 1) H (.int i) := ⟨.int i, .int i, rfl⟩
theorem PlAll.dp {K : PySem.W.Frag} {n d : Nat} {H : Hp} {vs : List V} (h : PlAll n d H vs) : ∃ xs, DpAll K H vs xs ∧ PyData.canLayAll0 xs = true ∧ PyData.depthAll xs ≤ d ∧ xs.length = vs.length := let ⟨_, r, p⟩ := h; pl_dpAll (pl_dp d) p r
/-- t == () and l == [] -/
theorem shaped_tup {xs : List PyData} {d : Nat} (h1 : PyData.canLayAll0 xs = true) (h2 : PyData.depthAll xs ≤ d) (h3 : d < 64) : SeqAt.shaped (.tuple xs) = true := by
  show (PyData.canLayAll0 xs && decide (PyData.depthAll xs + 1 ≤ 64)) = true
  rw [h1, decide_eq_true (by omega)]
  rfl
theorem shaped_lst {xs : List PyData} {d : Nat} (h1 : PyData.canLayAll0 xs = true) (h2 : PyData.depthAll xs ≤ d) (h3 : d < 64) : SeqAt.shaped (.list xs) = true := by
  show (PyData.canLayAll0 xs && decide (PyData.depthAll xs + 1 ≤ 64)) = true
  rw [h1, decide_eq_true (by omega)]
  rfl
end GX
set_option Elab.async false
set_option linter.all false
set_option maxRecDepth 100000
set_option maxHeartbeats 4000000
/-! Dicts whose keys are wires; dicts of covers. -/
namespace GX
open PySem PySem.Spec PyProof.Rows L2
/-- a dict with True for each of these -/
def kvF (F : List Nat) : List (L2.Key × V) := F.map fun x : Nat => (nK x, V.bl true)
theorem kvF_len (F : List Nat) : (kvF F).length = F.length := List.length_map _
theorem kvF_some (F : List Nat) (x : Nat) : (valV (kvF F) (nK x)).isSome = decide (x ∈ F) := by
  rw [← valV_any]
  unfold kvF
  rw [List.any_map, Bool.eq_iff_iff, List.any_eq_true, decide_eq_true_iff]
  constructor
  · rintro ⟨y, hy, e⟩
    have e' : nK y = nK x := of_decide_eq_true e
    rw [← nK_inj e']
    exact hy
  · intro h
    exact ⟨x, h, decide_eq_true rfl⟩
theorem kvF_put {F : List Nat} {x : Nat} (h : x ∉ F) : putK (kvF F) (nK x) (.bl true) = kvF (F ++ [x]) := by
  have : valV (kvF F) (nK x) = none := by
    have := kvF_some F x
    rw [decide_eq_false h] at this
    cases e : valV (kvF F) (nK x) with
    | none => rfl
    | some v => rw [e] at this; cases this
  rw [putK_new _ this]
  unfold kvF
  rw [List.map_append]
  rfl
/-- a cover as data -/
def covD (cv : List Tb) : List PyData := cv.map fun t : Tb => .tuple [.int ((t.1 : Nat) : Int), .tuple ((t.2.map fun n : Nat => (n : Int)).map PyData.int)]
theorem canInts : ∀ xs : List Int, PyData.canLayAll0 (xs.map PyData.int) = true ∧ PyData.depthAll (xs.map PyData.int) = 0
  | [] => ⟨rfl, rfl⟩
  | x :: r => by
    obtain ⟨h1, h2⟩ := canInts r
    refine ⟨?_, ?_⟩
    · show ((PyData.int x).canLay0 && PyData.canLayAll0 (r.map PyData.int)) = true
      rw [h1]
      rfl
    · show max (PyData.int x).depth (PyData.depthAll (r.map PyData.int)) = 0
      rw [h2]
      rfl
theorem dpCovAll {K : PySem.W.Frag} {H : Hp} : ∀ {qs : List Addr} {cv : List Tb}, PtsAt TbAt H qs cv → DpAll K H (qs.map V.ref) (covD cv)
  | [], cv, x => by
    have : cv = [] := List.length_eq_zero_iff.mp x.1.symm
    subst this
    exact .nil
  | p :: r, [], x => by cases x.1
  | p :: r, t :: cv, x => by
    obtain ⟨c, h1, h2⟩ := x.2 0 p t rfl rfl
    exact .cons (.tup (SqT.of h1) (.cons (.int _) (.cons (.tup (SqT.of h2) (dpNat K _ _)) .nil))) (dpCovAll (K := K) (H := H) (qs := r) (cv := cv) ⟨by simpa using x.1, fun i p' t' e1 e2 => x.2 (i + 1) p' t' (by simpa using e1) (by simpa using e2)⟩)
theorem CovAt.dp {K : PySem.W.Frag} {H : Hp} {a : Addr} {cv : List Tb} {qs : List Addr} (x : CovAt H a cv qs) : Dp K H (.ref a) (.tuple (covD cv)) := .tup (SqT.of x.top) (dpCovAll x.ts)
end GX
set_option Elab.async false
set_option linter.all false
set_option maxRecDepth 100000
set_option maxHeartbeats 4000000
/-! Masks as whole numbers. -/
namespace GX
open PySem PySem.Spec PyProof.Rows L2
theorem ip_and {X : Cx} : PIp X .BitAnd (ipI fun i j => Builtin.bitAnd i j) := by
  intro pins s σ H x y v u Q I r1 r2 h
  obtain ⟨i, j, e1, e2, q⟩ := h
  subst e1; subst e2
  obtain ⟨t, rfl⟩ := r1
  obtain ⟨t', rfl⟩ := r2
  exact iand_int ⟨.int _, H, I.tok _, ⟨_, rfl⟩, q⟩
theorem and_of (a b : Nat) : Builtin.bitAnd ((a : Nat) : Int) ((b : Nat) : Int) = ((a &&& b : Nat) : Int) := by
  rw [bitAnd_pp (Int.natCast_nonneg a) (Int.natCast_nonneg b), Int.toNat_natCast, Int.toNat_natCast]
theorem or_of (a b : Nat) : Builtin.bitOr ((a : Nat) : Int) ((b : Nat) : Int) = ((a ||| b : Nat) : Int) := by
  rw [bitOr_nn (Int.natCast_nonneg a) (Int.natCast_nonneg b), Int.toNat_natCast, Int.toNat_natCast]
theorem and_low (a : Nat) : Builtin.bitAnd ((a : Nat) : Int) (((a : Nat) : Int) - 1) = ((a &&& (a - 1) : Nat) : Int) := by
  cases a with
  | zero => rfl
  | succ a =>
    rw [show (((a + 1 : Nat) : Nat) : Int) - 1 = ((a : Nat) : Int) by omega, and_of]
    rfl
theorem and_next {p M : Nat} (h : 0 < p) : Builtin.bitAnd (((p : Nat) : Int) - 1) ((M : Nat) : Int) = (((p - 1) &&& M : Nat) : Int) := by
  rw [show ((p : Nat) : Int) - 1 = ((p - 1 : Nat) : Int) by omega, and_of]
theorem kvF_again {F : List Nat} {x : Nat} (h : x ∈ F) : putK (kvF F) (nK x) (.bl true) = kvF F := by
  have ha : ((kvF F).any fun kv => decide (kv.1 = nK x)) = true := by
    rw [List.any_eq_true]
    exact ⟨(nK x, .bl true), List.mem_map.mpr ⟨x, h, rfl⟩, decide_eq_true rfl⟩
  unfold putK
  rw [if_pos ha]
  conv => rhs; rw [← List.map_id (kvF F)]
  refine List.map_congr_left fun kv hkv => ?_
  obtain ⟨y, _, rfl⟩ := List.mem_map.mp hkv
  by_cases e : nK y = nK x
  · rw [if_pos e]; rfl
  · rw [if_neg e]; rfl
/-- what is found so far -/
def FoundW (k : Nat) (fs ss : List Nat) (i j : Nat) (F : List Nat) : Prop := ∀ M, M ∈ F ↔ ((∃ f ∈ fs.take i, ∃ s ∈ ss, M = f ||| s ∧ pop M ≤ k) ∨ ∃ s ∈ ss.take j, M = fs.getD i 0 ||| s ∧ pop M ≤ k)
theorem FoundW.zero (k : Nat) (fs ss : List Nat) : FoundW k fs ss 0 0 [] := fun M => ⟨fun h => (by cases h), fun h => by
  rcases h with ⟨f, hf, _⟩ | ⟨s, hs, _⟩
  · cases hf
  · cases hs⟩
theorem mem_take_succ {l : List Nat} {i : Nat} (h : i < l.length) (x : Nat) : x ∈ l.take (i + 1) ↔ (x ∈ l.take i ∨ x = l.getD i 0) := by
  rw [List.take_add_one, List.getElem?_eq_getElem h, Option.toList_some, List.mem_append, List.mem_singleton, List.getD_eq_getElem?_getD, List.getElem?_eq_getElem h]
  rfl
theorem FoundW.row {k : Nat} {fs ss : List Nat} {i : Nat} {F : List Nat} (hi : i < fs.length) (h : FoundW k fs ss i ss.length F) : FoundW k fs ss (i + 1) 0 F := fun M => by
  rw [h M, List.take_length]
  constructor
  · rintro (⟨f, hf, r⟩ | r)
    · exact .inl ⟨f, (mem_take_succ hi f).mpr (.inl hf), r⟩
    · exact .inl ⟨_, (mem_take_succ hi _).mpr (.inr rfl), r⟩
  · rintro (⟨f, hf, r⟩ | ⟨s, hs, _⟩)
    · rcases (mem_take_succ hi f).mp hf with hf | rfl
      · exact .inl ⟨f, hf, r⟩
      · exact .inr r
    · cases hs
theorem FoundW.no {k : Nat} {fs ss : List Nat} {i j : Nat} {F : List Nat} (hj : j < ss.length) (h : FoundW k fs ss i j F) (np : ¬ pop (fs.getD i 0 ||| ss.getD j 0) ≤ k) : FoundW k fs ss i (j + 1) F := fun M => by
  rw [h M]
  constructor
  · rintro (r | ⟨s, hs, r⟩)
    · exact .inl r
    · exact .inr ⟨s, (mem_take_succ hj s).mpr (.inl hs), r⟩
  · rintro (r | ⟨s, hs, rfl, r2⟩)
    · exact .inl r
    · rcases (mem_take_succ hj s).mp hs with hs | rfl
      · exact .inr ⟨s, hs, rfl, r2⟩
      · exact absurd r2 np
theorem FoundW.yes {k : Nat} {fs ss : List Nat} {i j : Nat} {F F' : List Nat} (hj : j < ss.length) (h : FoundW k fs ss i j F) (np : pop (fs.getD i 0 ||| ss.getD j 0) ≤ k) (hF : ∀ M, M ∈ F' ↔ (M ∈ F ∨ M = fs.getD i 0 ||| ss.getD j 0)) : FoundW k fs ss i (j + 1) F' := fun M => by
  rw [hF M, h M]
  constructor
  · rintro ((r | ⟨s, hs, r⟩) | rfl)
    · exact .inl r
    · exact .inr ⟨s, (mem_take_succ hj s).mpr (.inl hs), r⟩
    · exact .inr ⟨_, (mem_take_succ hj _).mpr (.inr rfl), rfl, np⟩
  · rintro (r | ⟨s, hs, rfl, r2⟩)
    · exact .inl (.inl r)
    · rcases (mem_take_succ hj s).mp hs with hs | rfl
      · exact .inl (.inr ⟨s, hs, rfl, r2⟩)
      · exact .inr rfl
theorem FoundW.all {k : Nat} {fs ss F : List Nat} (h : FoundW k fs ss fs.length 0 F) : Found k fs ss F := fun M => by
  rw [h M, List.take_length]
  constructor
  · rintro (r | ⟨s, hs, _⟩)
    · exact r
    · cases hs
  · exact fun r => .inl r
theorem or_lt23 {a b : Nat} (h : a < 2 ^ 23) (g : b < 2 ^ 23) : a ||| b < 2 ^ 23 := Nat.or_lt_two_pow h g
theorem nodup_lt23 {F : List Nat} (nd : F.Nodup) (h : ∀ M ∈ F, M < 2 ^ 23) : F.length < sizeLine := by
  have := nd.length_le_of_subset (l₂ := List.range (2 ^ 23)) fun x hx => List.mem_range.mpr (h x hx)
  rw [List.length_range] at this
  exact Nat.lt_of_le_of_lt this (by decide)
end GX
namespace GX
open PySem PySem.Spec PyProof.Rows L2
theorem bits_small {M : Nat} (h : M < 2 ^ 23) : Builtin.Int.intBits ((M : Nat) : Int) ≤ 10000 := by
  refine Nat.le_trans (m := 23) ?_ (by decide)
  rw [intBits_le_iff, Int.natAbs_natCast]
  exact h
end GX
namespace GX
open PySem PySem.Spec PyProof.Rows L2
theorem putK_le (kvs : List (L2.Key × V)) (k : L2.Key) (v : V) : (putK kvs k v).length ≤ kvs.length + 1 := by
  unfold putK
  by_cases h : (kvs.any fun kv => decide (kv.1 = k)) = true
  · rw [if_pos h, List.length_map]
    omega
  · rw [if_neg h, List.length_append]
    exact Nat.le_refl _
theorem mem_take_lt {ws : List Nat} (r : ws.Pairwise (· < ·)) {i y : Nat} (hi : i < ws.length) (hy : y ∈ ws) (h : y < ws.getD i 0) : y ∈ ws.take i := by
  obtain ⟨j, hj, rfl⟩ := List.mem_iff_getElem.mp hy
  have e : ws.getD i 0 = ws[i] := by rw [List.getD_eq_getElem?_getD, List.getElem?_eq_getElem hi]; rfl
  rw [e] at h
  refine List.mem_take_iff_getElem.mpr ⟨j, ?_, rfl⟩
  by_cases hji : j < i
  · omega
  · by_cases he : i = j
    · subst he
      omega
    · have := List.pairwise_iff_getElem.mp r i j hi hj (by omega)
      omega
theorem not_mem_take {ws : List Nat} (r : ws.Pairwise (· < ·)) {i y : Nat} (hi : i < ws.length) (hy : y ∈ ws.take i) : y < ws.getD i 0 := by
  obtain ⟨j, hj, rfl⟩ := List.mem_take_iff_getElem.mp hy
  have e : ws.getD i 0 = ws[i] := by rw [List.getD_eq_getElem?_getD, List.getElem?_eq_getElem hi]; rfl
  rw [e]
  exact List.pairwise_iff_getElem.mp r j i (by omega) hi (by omega)
/-- the cuts of a wire, as they lie in the dict -/
def CutsIn (n : Net) (k : Nat) (H : Hp) (kvs : List (L2.Key × V)) (x : Nat) : Prop := ∃ (p : Addr) (ms : List Nat), valV kvs (nK x) = some (.ref p) ∧ H p = some (.lst (ms.map nV)) ∧ ML n k x ms ∧ ms.Nodup
theorem CutsIn.mono {n : Net} {k x : Nat} {H H' : Hp} {kvs : List (L2.Key × V)} (h : CutsIn n k H kvs x) (m : ∀ b zs, H b = some (.lst zs) → H' b = some (.lst zs)) : CutsIn n k H' kvs x := by
  obtain ⟨p, ms, h1, h2, h3⟩ := h
  exact ⟨p, ms, h1, m _ _ h2, h3⟩
theorem CutsIn.put {n : Net} {k x y : Nat} {H : Hp} {kvs : List (L2.Key × V)} {v : V} (h : CutsIn n k H kvs x) (ne : x ≠ y) : CutsIn n k H (putK kvs (nK y) v) x := by
  obtain ⟨p, ms, h1, h2, h3⟩ := h
  exact ⟨p, ms, by rw [valV_put, if_neg (fun e => ne (nK_inj e))]; exact h1, h2, h3⟩
theorem ML.lt23 {n : Net} (ok : n.Ok) {k w M : Nat} {ms : List Nat} (hw : w < n.many + n.gates.length) (h : ML n k w ms) (hM : M ∈ ms) : 0 < M ∧ M < 2 ^ 23 := by
  obtain ⟨h1, h2, h3⟩ := (h M).mp hM
  have m8 := ok.m8
  have g16 := ok.g16
  refine ⟨Nat.pos_of_ne_zero fun z => tm_zero ok hw (by rw [← z]; exact h1.tl), ?_⟩
  refine Nat.lt_pow_two_of_testBit M fun j hj => ?_
  cases e : M.testBit j with
  | false => rfl
  | true =>
    have := h1.low ok j e
    have e2 : j = w := by omega
    rw [e2, h3] at e
    cases e
theorem pow_lt23 {x : Nat} (h : x < 23) : 0 < 2 ^ x ∧ 2 ^ x < 2 ^ 23 := ⟨Nat.two_pow_pos x, Nat.pow_lt_pow_right (by decide) h⟩
end GX
namespace GX
open PySem PySem.Spec PyProof.Rows L2
/-- with two wires a gate is told: so it has a least cut -/
theorem ML.some_ {n : Net} (ok : n.Ok) {k g : Nat} {kk : Nat × Nat × Nat} {ms : List Nat} (hk : 2 ≤ k) (hg : n.many ≤ g) (hkk : n.gates[g - n.many]? = some kk) (h : ML n k g ms) : ms ≠ [] := by
  have l1 := place_lt ok hg hkk (.inl rfl)
  have l2 := place_lt ok hg hkk (.inr rfl)
  have bit : ∀ j, (2 ^ kk.2.1 ||| 2 ^ kk.2.2).testBit j = true ↔ (j = kk.2.1 ∨ j = kk.2.2) := fun j => by
    rw [Nat.testBit_or, Nat.testBit_two_pow, Nat.testBit_two_pow, Bool.or_eq_true, decide_eq_true_iff, decide_eq_true_iff]
    omega
  have ht : Tm n g (2 ^ kk.2.1 ||| 2 ^ kk.2.2) := sep_first hg hkk fun z hz => mem_bits.mpr ((bit z).mpr hz)
  obtain ⟨f, f1, f2⟩ := min_ex _ _ (Nat.le_refl _) ht
  have hp : pop (2 ^ kk.2.1 ||| 2 ^ kk.2.2) ≤ 2 := by
    have := (bits_nodup (2 ^ kk.2.1 ||| 2 ^ kk.2.2)).length_le_of_subset (l₂ := [kk.2.1, kk.2.2]) fun x hx => by
      rcases (bit x).mp (mem_bits.mp hx) with e | e
      · rw [e]; exact List.mem_cons_self
      · rw [e]; exact List.mem_cons_of_mem _ List.mem_cons_self
    exact this
  have hm : f ∈ ms := (h f).mpr ⟨f2, Nat.le_trans (pop_sub f1) (by omega), by
    cases e : f.testBit g with
    | false => rfl
    | true =>
      rcases (bit g).mp (f1 g e) with e | e <;> omega⟩
  exact fun z => by
    rw [z] at hm
    cases hm
end GX
set_option Elab.async false
set_option linter.all false
set_option maxRecDepth 100000
set_option maxHeartbeats 4000000
/-! Slices of tuples and tuples put together, whatever object they are. -/
namespace GX
open PySem PySem.Spec PyProof.Rows L2
theorem catA_any {K : PySem.W.Frag} {x y : V} {H : Hp} {Q : VK} {a b : Addr} {xs ys : List V} (ex : x = .ref a) (ey : y = .ref b) (hx : H a = some (.tup xs)) (hy : H b = some (.tup ys)) (hl : xs.length + ys.length ≤ sizeLine) (h : ∀ p H', Same H H' → H' p = some (.tup (xs ++ ys)) → Q (.ref p) H') : rCatA K x y H Q := by
  refine ⟨a, b, xs, ys, ex, ey, SqT.of hx, SqT.of hy, hl, fun e => h b H (Same.refl _) (by rw [e, List.nil_append]; exact hy), fun _ e => h a H (Same.refl _) (by rw [e, List.append_nil]; exact hx), fun _ _ p np => h p _ (Same.new np) upd_same⟩
end GX
set_option Elab.async false
set_option linter.all false
set_option maxRecDepth 100000
set_option maxHeartbeats 4000000
/-! A net that stands in the heap, as a thing. -/
namespace GX
open PySem PySem.Spec PyProof.Rows L2
end GX
set_option Elab.async false
set_option linter.all false
set_option maxRecDepth 100000
set_option maxHeartbeats 4000000
/-! The worth of a wire where some wires are held. -/
namespace GX
open PySem PySem.Spec PyProof.Rows L2
def gw (k a b : Nat) : Nat := k / 2 ^ (a + 2 * b) % 2
/-- where a wire stands -/
def ixOf (x : Nat) : List Nat → Nat
  | [] => 0
  | y :: r => if y = x then 0 else ixOf x r + 1
def bitIn (ws : List Nat) (r x : Nat) : Nat := r / 2 ^ ixOf x ws % 2
/-- what a wire has, by those ahead -/
def valOf (n : Net) (ws : List Nat) (r : Nat) (acc : List Nat) (x : Nat) : Nat :=
  if x ∈ ws then bitIn ws r x else if x < n.many then 0 else match n.gates[x - n.many]? with
    | some k => gw k.1 (acc.getD k.2.1 0) (acc.getD k.2.2 0)
    | none => 0
def evl (n : Net) (ws : List Nat) (r : Nat) : Nat → List Nat
  | 0 => []
  | m + 1 => evl n ws r m ++ [valOf n ws r (evl n ws r m) m]
def ev (n : Net) (ws : List Nat) (r x : Nat) : Nat := valOf n ws r (evl n ws r x) x
/-- a content -/
def contOf (n : Net) (ws : List Nat) (w : Nat) : List Nat := (List.range (2 ^ ws.length)).map fun r => ev n ws r w
end GX
set_option Elab.async false
set_option linter.all false
set_option maxRecDepth 100000
set_option maxHeartbeats 4000000
/-! Contents with a place more, or one less. -/
namespace GX
open PySem PySem.Spec PyProof.Rows L2
def del (p n : Nat) : Nat := n / (2 * 2 ^ p) * 2 ^ p + n % 2 ^ p
/-- with a place more -/
def wd (xs : List Nat) (p : Nat) : List Nat := (List.range (2 * xs.length)).map fun n => xs.getD (del p n) 0
end GX
set_option Elab.async false
set_option linter.all false
set_option maxRecDepth 100000
set_option maxHeartbeats 4000000
/-! Lists of tuples of whole numbers, sorted. -/
namespace GX
open PySem PySem.Spec PyProof.Rows L2
def natV : V → Nat
  | .int i => i.toNat
  | _ => 0
/-- the whole numbers of a tuple -/
def tupN (H : Hp) : V → List Nat
  | .ref t => match H t with
    | some (.tup xs) => xs.map natV
    | _ => []
  | _ => []
theorem tupN_at {H : Hp} {t : Addr} {c : List Nat} (h : H t = some (.tup (c.map nV))) : tupN H (.ref t) = c := by
  show (match H t with | some (HO.tup xs) => xs.map natV | _ => []) = c
  rw [h]
  show (c.map nV).map natV = c
  rw [List.map_map]
  conv => rhs; rw [← List.map_id c]
  refine List.map_congr_left fun x _ => ?_
  show ((x : Nat) : Int).toNat = x
  exact Int.toNat_natCast x
abbrev TupsAt (H : Hp) (qs : List Addr) (cs : List (List Nat)) : Prop := RefsAt (fun c : List Nat => c.map nV) H qs cs
theorem TupsAt.map {H : Hp} : ∀ {qs : List Addr} {cs : List (List Nat)}, TupsAt H qs cs → (qs.map V.ref).map (tupN H) = cs
  | [], cs, h => (List.length_eq_zero_iff.mp h.1.symm).symm
  | q :: qs, [], h => by cases h.1
  | q :: qs, c :: cs, h => by
    have h1 := h.2 0 q c rfl rfl
    have h2 : TupsAt H qs cs := ⟨Nat.succ.inj h.1, fun i p x e1 e2 => h.2 (i + 1) p x e1 e2⟩
    show tupN H (.ref q) :: _ = _
    rw [tupN_at h1, TupsAt.map h2]
theorem TupsAt.all {H : Hp} {qs : List Addr} {cs : List (List Nat)} (h : TupsAt H qs cs) {x : V} (hx : x ∈ qs.map V.ref) : ∃ t c, x = .ref t ∧ c ∈ cs ∧ H t = some (.tup (c.map nV)) := by
  obtain ⟨i, hi, e⟩ := List.mem_iff_getElem.mp hx
  obtain ⟨t, c, e1, e2, e3⟩ := h.at_ (i := i) (v := x) (by rw [List.getElem?_eq_getElem hi, e])
  exact ⟨t, c, e1, List.mem_of_getElem? e2, e3⟩
/-- sorted: the tuples again -/
theorem tups_sorted {H : Hp} {qs : List Addr} {cs : List (List Nat)} (h : TupsAt H qs cs) {ys : List V} (srt : SrtO.Srtd (fun x y => HT.lexLt ((tupN H x).map fun n : Nat => (n : Int)) ((tupN H y).map fun n : Nat => (n : Int))) ys) (pm : ys.Perm (qs.map V.ref)) :
    ∃ (rs : List Addr) (ds : List (List Nat)), ys = rs.map V.ref ∧ TupsAt H rs ds ∧ ds.Perm cs ∧ ds.Pairwise fun a b => lexN b a = false := by
  have hall : ∀ y ∈ ys, ∃ t c, y = .ref t ∧ c ∈ cs ∧ H t = some (.tup (c.map nV)) := fun y hy => h.all (pm.mem_iff.mp hy)
  have mk : ∀ zs : List V, (∀ y ∈ zs, ∃ t c, y = .ref t ∧ c ∈ cs ∧ H t = some (.tup (c.map nV))) → ∃ rs : List Addr, zs = rs.map V.ref ∧ TupsAt H rs (zs.map (tupN H)) := by
    intro zs
    induction zs with
    | nil => exact fun _ => ⟨[], rfl, RefsAt.nil _ _⟩
    | cons y zs ih =>
      intro hz
      obtain ⟨t, c, rfl, _, ht⟩ := hz y List.mem_cons_self
      obtain ⟨rs, e, hr⟩ := ih fun y hy => hz y (List.mem_cons_of_mem _ hy)
      refine ⟨t :: rs, by rw [e]; rfl, ⟨congrArg Nat.succ hr.1, fun i p x e1 e2 => ?_⟩⟩
      cases i with
      | zero =>
        cases e1
        have e2' : some (tupN H (.ref t)) = some x := e2
        rw [tupN_at ht] at e2'
        cases e2'
        exact ht
      | succ i => exact hr.2 i p x e1 e2
  obtain ⟨rs, e, hr⟩ := mk ys hall
  refine ⟨rs, ys.map (tupN H), e, hr, ?_, ?_⟩
  · have := pm.map (tupN H)
    rw [TupsAt.map h] at this
    exact this
  · exact List.pairwise_map.mpr srt
end GX
set_option Elab.async false
set_option linter.all false
set_option maxRecDepth 100000
set_option maxHeartbeats 4000000
/-! All sets of some wires; the least that tell among them. -/
namespace GX
open PySem PySem.Spec PyProof.Rows L2
end GX
namespace GX
open PySem PySem.Spec PyProof.Rows L2
end GX
namespace GX
open PySem PySem.Spec PyProof.Rows L2
def tupsD (cs : List (List Nat)) : List PyData := cs.map fun c : List Nat => .tuple ((c.map fun n : Nat => (n : Int)).map PyData.int)
theorem tupsD_can : ∀ cs : List (List Nat), PyData.canLayAll0 (tupsD cs) = true ∧ PyData.depthAll (tupsD cs) ≤ 1
  | [] => ⟨rfl, Nat.zero_le _⟩
  | c :: r => by
    obtain ⟨h1, h2⟩ := tupsD_can r
    obtain ⟨g1, g2⟩ := canInts (c.map fun n : Nat => (n : Int))
    refine ⟨?_, ?_⟩
    · show (PyData.canLayAll0 ((c.map fun n : Nat => (n : Int)).map PyData.int) && PyData.canLayAll0 (tupsD r)) = true
      rw [g1, h1]
      rfl
    · show max (PyData.depthAll ((c.map fun n : Nat => (n : Int)).map PyData.int) + 1) (PyData.depthAll (tupsD r)) ≤ 1
      rw [g2]
      omega
theorem dpTups {K : PySem.W.Frag} {H : Hp} : ∀ {qs : List Addr} {cs : List (List Nat)}, TupsAt H qs cs → DpAll K H (qs.map V.ref) (tupsD cs)
  | [], cs, x => by
    have : cs = [] := List.length_eq_zero_iff.mp x.1.symm
    subst this
    exact .nil
  | p :: r, [], x => by cases x.1
  | p :: r, c :: cs, x => by
    have h1 := x.2 0 p c rfl rfl
    exact .cons (.tup (SqT.of h1) (dpNat K _ _)) (dpTups (K := K) (H := H) (qs := r) (cs := cs) ⟨by simpa using x.1, fun i p' t' e1 e2 => x.2 (i + 1) p' t' (by simpa using e1) (by simpa using e2)⟩)
end GX
namespace GX
open PySem PySem.Spec PyProof.Rows L2
/-- a least cut lies within each that tells -/
theorem lc_within {n : Net} (ok : n.Ok) {k g : Nat} {xs : List Nat} (ris : xs.Pairwise (· < ·)) (lt : ∀ x ∈ xs, x < g) (sep : Sep n g xs) (hl : xs.length ≤ k) : ∃ c, LC n k g c ∧ ∀ x ∈ c, x ∈ xs := by
  have hb := bits_mask ris
  have ht : Tm n g (maskOf xs) := by
    unfold Tm
    rw [hb]
    exact sep
  obtain ⟨f, f1, f2⟩ := min_ex (maskOf xs) (maskOf xs) (Nat.le_refl _) ht
  have hp : pop f ≤ k := Nat.le_trans (pop_sub f1) (by unfold pop; rw [hb]; exact hl)
  have fg : f.testBit g = false := by
    cases e : f.testBit g with
    | false => rfl
    | true =>
      have h1 := f1 g e
      rw [mask_bit, decide_eq_true_iff] at h1
      exact absurd (lt g h1) (Nat.lt_irrefl _)
  refine ⟨bitsOf f, lc_bits ok ⟨f2, hp, fg⟩, fun x hx => ?_⟩
  have h1 := f1 x (mem_bits.mp hx)
  rwa [mask_bit, decide_eq_true_iff] at h1
end GX
namespace GX
open PySem PySem.Spec PyProof.Rows L2
end GX
set_option Elab.async false
set_option linter.all false
/-! Comprehensions within comprehensions. -/
namespace GX
open PySem PySem.Spec PyProof.Rows L2
theorem pi_tupK {X : Cx} {tg l : Expr} {tl : TE} {K : PySem.W.Frag} (hl : PE X l tl) (h : X.K = K := by rfl) : PI X tg l (iTup K tl) := by subst h; exact pi_tup hl
theorem cr_maxK {X : Cx} {K : PySem.W.Frag} (hc : X.calm = true) (h : X.K = K := by rfl) : CallR X (.builtin "max") (rMax K) := by subst h; exact cr_max hc
end GX
set_option Elab.async false
set_option linter.all false
set_option maxRecDepth 100000
set_option maxHeartbeats 4000000
namespace GX
open PySem PySem.Spec PyProof.Rows L2
end GX
set_option Elab.async false
set_option linter.all false
set_option maxRecDepth 100000
set_option maxHeartbeats 4000000
/-! Depths in covers; lean covers. -/
namespace GX
open PySem PySem.Spec PyProof.Rows L2
def maxL : List Nat → Nat
  | [] => 0
  | x :: r => max x (maxL r)
theorem le_maxL {xs : List Nat} {x : Nat} (h : x ∈ xs) : x ≤ maxL xs := by
  induction xs with
  | nil => cases h
  | cons y r ih =>
    unfold maxL
    rcases List.mem_cons.mp h with h | h
    · omega
    · have := ih h
      omega
theorem maxL_mem {xs : List Nat} (h : 0 < xs.length) : maxL xs ∈ xs := by
  induction xs with
  | nil => cases h
  | cons y r ih =>
    unfold maxL
    cases r with
    | nil =>
      show max y 0 ∈ _
      rw [Nat.max_eq_left (Nat.zero_le _)]
      exact List.mem_cons_self
    | cons z t =>
      have := ih (Nat.succ_pos _)
      by_cases e : maxL (z :: t) ≤ y
      · rw [Nat.max_eq_left e]
        exact List.mem_cons_self
      · rw [Nat.max_eq_right (by omega)]
        exact List.mem_cons_of_mem _ this
theorem max_eq {xs : List Nat} {m : Int} (hm : m ∈ xs.map fun n : Nat => (n : Int)) (hb : ∀ y ∈ xs.map (fun n : Nat => (n : Int)), y ≤ m) : V.int m = nV (maxL xs) := by
  obtain ⟨x, hx, rfl⟩ := List.mem_map.mp hm
  have h1 := le_maxL hx
  have h2 := hb _ (List.mem_map.mpr ⟨_, maxL_mem (List.length_pos_of_mem hx), rfl⟩)
  show V.int _ = V.int _
  congr 1
  have h2' : ((maxL xs : Nat) : Int) ≤ ((x : Nat) : Int) := h2
  omega
theorem maxL_congr {ws : List Nat} {f g : Nat → Nat} (h : ∀ x ∈ ws, f x = g x) : maxL (ws.map f) = maxL (ws.map g) := by rw [List.map_congr_left h]
/-- depths, table by table -/
def dStep (f : Nat → Nat) (t : Tb) : Nat → Nat := fun x => if x = t.1 then 1 + maxL (t.2.map f) else f x
def dMap (cv : List Tb) : Nat → Nat := cv.foldl dStep (fun _ => 0)
theorem dMap_snoc (cv : List Tb) (t : Tb) : dMap (cv ++ [t]) = dStep (dMap cv) t := by
  unfold dMap
  rw [List.foldl_append]
  rfl
theorem dMap_take {cv : List Tb} {i : Nat} {t : Tb} (h : cv[i]? = some t) : dMap (cv.take (i + 1)) = dStep (dMap (cv.take i)) t := by
  rw [List.take_add_one, h, Option.toList_some, dMap_snoc]
/-- tables rising, their wires lesser -/
structure Ris (cv : List Tb) : Prop where
  rise : cv.Pairwise (fun a b => a.1 < b.1)
  lt : ∀ t ∈ cv, ∀ x ∈ t.2, x < t.1
theorem Ris.init {cv : List Tb} {t : Tb} (h : Ris (cv ++ [t])) : Ris cv ∧ (∀ u ∈ cv, u.1 < t.1) ∧ ∀ x ∈ t.2, x < t.1 := by
  obtain ⟨h1, _, h3⟩ := List.pairwise_append.mp h.rise
  exact ⟨⟨h1, fun u hu => h.lt u (List.mem_append.mpr (.inl hu))⟩, fun u hu => h3 u hu t List.mem_cons_self, h.lt t (List.mem_append.mpr (.inr List.mem_cons_self))⟩
theorem rev_ind {P : List Tb → Prop} (h0 : P []) (h1 : ∀ cv t, P cv → P (cv ++ [t])) : ∀ cv, P cv := fun cv => by
  rw [← List.reverse_reverse cv]
  induction cv.reverse with
  | nil => exact h0
  | cons t r ih =>
    rw [List.reverse_cons]
    exact h1 _ _ ih
theorem dMap_out {cv : List Tb} : ∀ x, (∀ t ∈ cv, t.1 ≠ x) → dMap cv x = 0 := by
  refine rev_ind (P := fun cv => ∀ x, (∀ t ∈ cv, t.1 ≠ x) → dMap cv x = 0) (fun x _ => rfl) (fun cv t ih x h => ?_) cv
  rw [dMap_snoc]
  unfold dStep
  rw [if_neg (fun e => h t (List.mem_append.mpr (.inr List.mem_cons_self)) e.symm)]
  exact ih x fun u hu => h u (List.mem_append.mpr (.inl hu))
theorem dMap_in {cv : List Tb} : Ris cv → ∀ t ∈ cv, dMap cv t.1 = 1 + maxL (t.2.map (dMap cv)) := by
  refine rev_ind (P := fun cv => Ris cv → ∀ t ∈ cv, dMap cv t.1 = 1 + maxL (t.2.map (dMap cv))) (fun _ t ht => by cases ht) (fun cv t ih h u hu => ?_) cv
  obtain ⟨r, h1, h2⟩ := h.init
  rw [dMap_snoc]
  rcases List.mem_append.mp hu with hu | hu
  · have lt := h1 u hu
    have e : ∀ x ∈ u.2, dStep (dMap cv) t x = dMap cv x := fun x hx => by
      have := r.lt u hu x hx
      unfold dStep
      rw [if_neg (by omega)]
    rw [maxL_congr e]
    unfold dStep
    rw [if_neg (by omega)]
    exact ih r u hu
  · rw [List.mem_singleton.mp hu]
    have e : ∀ x ∈ t.2, dStep (dMap cv) t x = dMap cv x := fun x hx => by
      have := h2 x hx
      unfold dStep
      rw [if_neg (by omega)]
    rw [maxL_congr e]
    unfold dStep
    rw [if_pos rfl]
/-- needed or not -/
noncomputable def needB (n : Net) (cv : List Tb) (x : Nat) : Bool := @decide (Need n cv x) (Classical.propDecidable _)
theorem needB_iff {n : Net} {cv : List Tb} {x : Nat} : needB n cv x = true ↔ Need n cv x := by
  unfold needB
  exact @decide_eq_true_iff _ (Classical.propDecidable _)
noncomputable def leanOf (n : Net) (cv : List Tb) : List Tb := cv.filter fun t => needB n cv t.1
theorem leanOf_mem {n : Net} {cv : List Tb} {t : Tb} : t ∈ leanOf n cv ↔ t ∈ cv ∧ Need n cv t.1 := by
  unfold leanOf
  rw [List.mem_filter, needB_iff]
theorem Need.big {n : Net} {cv : List Tb} {x : Nat} (h : Need n cv x) : n.many ≤ x := by
  cases h with
  | out _ h => exact h
  | step _ _ _ h => exact h
theorem CovOk.ris {n : Net} {k : Nat} {cv : List Tb} (c : CovOk n k cv) : Ris cv := ⟨c.rise, fun t ht x hx => (c.cut t ht).1.lt x hx⟩
theorem Need.tab {n : Net} {k : Nat} {cv : List Tb} (c : CovOk n k cv) {x : Nat} (h : Need n cv x) : ∃ t ∈ cv, t.1 = x := by
  cases h with
  | out h1 h2 => exact c.outs _ h1 h2
  | step ht _ hx hm => exact c.clo _ ht _ hx hm
theorem lean_ok {n : Net} {k : Nat} {cv : List Tb} (c : CovOk n k cv) : CovOk n k (leanOf n cv) := by
  refine ⟨c.rise.filter _, fun t ht => c.gt t (leanOf_mem.mp ht).1, fun t ht => c.cut t (leanOf_mem.mp ht).1, fun o ho hm => ?_, fun t ht x hx hm => ?_⟩
  · obtain ⟨t, ht, e⟩ := c.outs o ho hm
    exact ⟨t, leanOf_mem.mpr ⟨ht, by rw [e]; exact .out ho hm⟩, e⟩
  · obtain ⟨h1, h2⟩ := leanOf_mem.mp ht
    obtain ⟨u, hu, e⟩ := c.clo t h1 x hx hm
    exact ⟨u, leanOf_mem.mpr ⟨hu, by rw [e]; exact .step h1 h2 hx hm⟩, e⟩
end GX
namespace GX
open PySem PySem.Spec PyProof.Rows L2
/-- a dict comprehension over anything walked -/
theorem dc_it {J : It} {n : Nat} {G : Hp → Prop} {Y : Nat → Hp → V → Hp → Prop} (wk : Walk J n G Y) {g : TG} {tt : TT} {tk tv : TE} {vs : List Nat} {σ : L2.St} {H1 : Hp} {D : Addr} {Qd : Hp → Prop} (Pv : Nat → Hp → Prop) (h0 : Pv 0 (upd H1 D (.dK []))) (hG : ∀ i H, i ≤ n → Pv i H → G H)
    (hs : ∀ i x H H', i < n → Pv i H → Y i H x H' → g x (wipe σ vs) H' fun σ2 H2 => wipe σ2 vs = wipe σ vs ∧ tt σ2 H2 fun b H3 =>
      if b = true then tk σ2 H3 fun y H4 => tv σ2 H4 fun z H5 => ∃ kvs k, y = kV k ∧ H5 D = some (.dK kvs) ∧ kvs.length < sizeLine ∧ Pv (i + 1) (upd H5 D (.dK (putK kvs k z))) else Pv (i + 1) H3) (hd : ∀ H, Pv n H → Qd H) :
    ∃ W : Nat → Nat → Hp → Prop, (∃ m, W 0 m (upd H1 D (.dK []))) ∧ ∀ i m H, W i m H →
      (J.stop i H ∧ Qd H) ∨ (J.go i H ∧ ∃ Nx : Hp → Prop, (∀ H', Nx H' → ∃ m', m' < m ∧ W (i + 1) m' H') ∧ ∀ x H', J.yld i H x H' → g x (wipe σ vs) H' fun σ2 H2 => wipe σ2 vs = wipe σ vs ∧ tt σ2 H2 fun b H3 =>
        if b = true then tk σ2 H3 fun y H4 => tv σ2 H4 fun z H5 => ∃ kvs k, y = kV k ∧ H5 D = some (.dK kvs) ∧ kvs.length < sizeLine ∧ Nx (upd H5 D (.dK (putK kvs k z))) else Nx H3) := by
  refine ⟨fun i m H => m = n - i ∧ i ≤ n ∧ Pv i H, ⟨n, by simp, Nat.zero_le _, h0⟩, ?_⟩
  rintro i m H ⟨rfl, hi, p⟩
  have q := hG i H hi p
  by_cases hlt : i < n
  · exact .inr ⟨wk.goes i H hlt q, Pv (i + 1), fun H' p' => ⟨n - (i + 1), by omega, rfl, hlt, p'⟩, fun x H' y => hs i x H H' hlt p (wk.yields i H x H' hlt q y)⟩
  · have e : i = n := by omega
    subst e
    exact .inl ⟨wk.stops H q, hd H p⟩
end GX
set_option Elab.async false
set_option linter.all false
set_option maxRecDepth 100000
set_option maxHeartbeats 4000000
/-! min(xs, key=lambda x: ..) where the lambda may call and capture names. -/
namespace GX
open PySem PySem.Spec PyProof.Rows L2
section
variable {X : Cx} {pins : List (Addr × Obj)} {σ : L2.St} {H : Hp} {s : Shared}
/-- what is at ch changes, which nobody tracks -/
theorem inv_raw {ch : List Addr} {h' : Heap} {t' : Nat} (I : Inv X pins σ H s) (hch : ∀ b ∈ ch, FpOk X pins H b) (k : ∀ b o, b ∉ ch → s.heap.get? b = some o → h'.get? b = some o) : Inv X pins σ H { s with heap := h', toks := t' } := by
  have nt : ∀ b u, H b = some u → b ∉ ch := fun b u q hb => by rw [(hch b hb).1] at q; cases q
  refine I.step (g' := s.gens) (t' := t') (d' := s.drawn) (ch := ch) (fun b hb => ⟨(hch b hb).2.2.2.1, (hch b hb).2.1, (hch b hb).2.2.2.2.1, (hch b hb).2.2.2.2.2⟩)
      (fun b ob _ _ hc q _ => k b ob hc q) (fun b ob _ _ hc q _ => ⟨ob.slots, k b ob hc q⟩) (fun _ _ _ _ n => n) (fun b ob hc q => ⟨ob, k b ob hc q⟩)
      (fun _ _ q => q) (fun _ _ _ q => q) (fun b ps q => ⟨#[], by rw [q]; simp⟩) (fun m hm => ?_) (fun b u q => ?_) I.bare
  · obtain ⟨ob, es, ep, ho, r⟩ := hm
    exact ⟨ob, es, ep, k _ ob (fun hb => (hch _ hb).2.1 rfl) ho, r⟩
  · refine (I.hok b u q).stay (fun c v hc y => k c v ?_ y) (fun _ y => y) fun _ _ y => y
    rcases hc with y | y
    · rw [y]; exact nt b u q
    · exact nt c _ y
/-- what stays true of a place when pins are added that are elsewhere -/
theorem FpOk.add {b : Addr} {p : Addr × Obj} (h : FpOk X pins H b) (n : p.1 ≠ b) : FpOk X (p :: pins) H b :=
  ⟨h.1, h.2.1, h.2.2.1, h.2.2.2.1, h.2.2.2.2.1, fun q hq => (List.mem_append.mp hq).elim (fun z => h.2.2.2.2.2 q (List.mem_append_left _ z)) fun z => (List.mem_cons.mp z).elim (fun e => by rw [e]; exact n) fun z => h.2.2.2.2.2 q (List.mem_append_right _ z)⟩
theorem FpOk.heap {b : Addr} {H' : Hp} (h : FpOk X pins H b) (n : H' b = none) : FpOk X pins H' b := ⟨n, h.2⟩
theorem Inv.pin1 {b : Addr} {o : Obj} (I : Inv X pins σ H s) (h : FpOk X pins H b) (e : s.heap.get? b = some o) (d : ∀ v, o.data ≠ .cell v) : Inv X ((b, o) :: pins) σ H s :=
  I.pins_of fun p hp => (List.mem_cons.mp hp).elim (fun z => by rw [z]; exact ⟨e, h.1, h.2.1, h.2.2.1, d⟩) fun z => I.pin p (List.mem_append_right _ z)
theorem Inv.unpin1 {p : Addr × Obj} (I : Inv X (p :: pins) σ H s) : Inv X pins σ H s := I.pins_of fun q hq => I.pin q (List.mem_append_right _ (List.mem_cons_of_mem _ hq))
theorem iter_ne {h : Heap} {l a : Addr} {its : Array Value} {i : Nat} (hl : h.IsList l its) (hi : h.IsListIter a l i) : l ≠ a := fun z => by
  obtain ⟨o, ho, hc, _⟩ := hl
  obtain ⟨o2, ho2, hc2, _⟩ := hi
  rw [z, ho2] at ho
  cases ho
  rw [hc2] at hc
  injection hc with hc
  exact absurd hc (by decide)
theorem iter_neT {h : Heap} {l a : Addr} {its : Array Value} {i : Nat} (hl : h.IsTuple l its) (hi : h.IsTupleIter a l i) : l ≠ a := fun z => by
  obtain ⟨o, ho, hc, _⟩ := hl
  obtain ⟨o2, ho2, hc2, _⟩ := hi
  rw [z, ho2] at ho
  cases ho
  rw [hc2] at hc
  injection hc with hc
  exact absurd hc (by decide)
/-- a list or a tuple walked by an iterator of its own -/
structure SeqK (X : Cx) (pins : List (Addr × Obj)) (σ : L2.St) (l : Addr) (xs : List V) (Sq : Hp → Prop) (It : Heap → Addr → Nat → Prop) : Prop where
  obj : ∀ {h : Heap} {a : Addr} {i : Nat}, It h a i → ∃ o, h.get? a = some o ∧ (∀ v, o.data ≠ .cell v) ∧ ∀ h' : Heap, h'.get? a = some o → It h' a i
  start : ∀ (s : Shared) (H : Hp) (Q E : Value → Shared → Prop), Inv X pins σ H s → Sq H → (∀ o, It (s.heap.push o) s.heap.objs.size 0 → Q (.ref s.heap.objs.size) { s with heap := s.heap.push o }) → wpAny (model X.prog X.w) X.A.in1 (pyIter (.ref l)) Q E s
  item : ∀ (s : Shared) (H : Hp) (a : Addr) (j : Nat) (x : V) (Q : Option Value → Shared → Prop) (E : Value → Shared → Prop), X.A.handled = none → Inv X pins σ H s → Sq H → It s.heap a j → xs[j]? = some x →
    (∀ v h' tk', RelV x v → It h' a (j + 1) → (∀ b o, b ∉ [a] → s.heap.get? b = some o → h'.get? b = some o) → Q (some v) { s with heap := h', toks := tk' }) → wpAny (model X.prog X.w) X.A.in1 (pyNext (.ref a)) Q E s
  done : ∀ (s : Shared) (H : Hp) (a : Addr) (Q : Option Value → Shared → Prop) (E : Value → Shared → Prop), X.A.handled = none → Inv X pins σ H s → Sq H → It s.heap a xs.length →
    (∀ h' tk', (∀ b o, b ∉ [a] → s.heap.get? b = some o → h'.get? b = some o) → Q none { s with heap := h', toks := tk' }) → wpAny (model X.prog X.w) X.A.in1 (pyNext (.ref a)) Q E s
theorem seqL {l : Addr} {xs : List V} : SeqK X pins σ l xs (fun H => SqL X.K H l xs) (fun h a i => h.IsListIter a l i) where
  obj := fun ⟨o, e, hc, hd⟩ => ⟨o, e, fun v z => (by rw [hd] at z; cases z), fun h' e' => ⟨o, e', hc, hd⟩⟩
  start := fun s H Q E I hs q => by
    obtain ⟨its, rv, hl, hz⟩ := I.list hs
    exact wpAny_pyIter_list hl.isList (q _ ⟨_, Heap.get?_push_size _ rfl, rfl, rfl⟩)
  item := fun s H a j x Q E hh I hs hit hx q => by
    obtain ⟨its, rv, hl, hz⟩ := I.list hs
    have hlen : its.toArray.size = xs.length := by rw [List.size_toArray]; exact rv.length.symm
    refine (Walks.list (prog := X.prog) (w := X.w) (A := X.A.in1) hh a l (iter_ne hl.isList hit) its.toArray).item j _ _ _ (by rw [hlen]; exact (List.getElem?_eq_some_iff.mp hx).1) ⟨hit, hl.isList⟩ fun v h' tk' hP hst' hk' => ?_
    obtain ⟨v', hv', rx⟩ := rv.get hx
    obtain rfl : v' = v := by
      have e : its.toArray[j]? = some v := hP
      rw [List.getElem?_toArray, hv'] at e
      exact Option.some.inj e
    exact q v' h' tk' rx hst'.1 hk'
  done := fun s H a Q E hh I hs hit q => by
    obtain ⟨its, rv, hl, hz⟩ := I.list hs
    have hlen : its.toArray.size = xs.length := by rw [List.size_toArray]; exact rv.length.symm
    exact (Walks.list (prog := X.prog) (w := X.w) (A := X.A.in1) hh a l (iter_ne hl.isList hit) its.toArray).done _ _ _ ⟨by rw [hlen]; exact hit, hl.isList⟩ q
theorem seqT {l : Addr} {xs : List V} : SeqK X pins σ l xs (fun H => SqT X.K H l xs) (fun h a i => h.IsTupleIter a l i) where
  obj := fun ⟨o, e, hc, hd⟩ => ⟨o, e, fun v z => (by rw [hd] at z; cases z), fun h' e' => ⟨o, e', hc, hd⟩⟩
  start := fun s H Q E I hs q => by
    obtain ⟨its, rv, hl, hz⟩ := I.tuple hs
    exact wpAny_pyIter_tuple hl (q _ ⟨_, Heap.get?_push_size _ rfl, rfl, rfl⟩)
  item := fun s H a j x Q E hh I hs hit hx q => by
    obtain ⟨its, rv, hl, hz⟩ := I.tuple hs
    have hlen : its.toArray.size = xs.length := by rw [List.size_toArray]; exact rv.length.symm
    refine (Walks.tuple (prog := X.prog) (w := X.w) (A := X.A.in1) hh a l (iter_neT hl hit) its.toArray).item j _ _ _ (by rw [hlen]; exact (List.getElem?_eq_some_iff.mp hx).1) ⟨hit, hl⟩ fun v h' tk' hP hst' hk' => ?_
    obtain ⟨v', hv', rx⟩ := rv.get hx
    obtain rfl : v' = v := by
      have e : its.toArray[j]? = some v := hP
      rw [List.getElem?_toArray, hv'] at e
      exact Option.some.inj e
    exact q v' h' tk' rx hst'.1 hk'
  done := fun s H a Q E hh I hs hit q => by
    obtain ⟨its, rv, hl, hz⟩ := I.tuple hs
    have hlen : its.toArray.size = xs.length := by rw [List.size_toArray]; exact rv.length.symm
    exact (Walks.tuple (prog := X.prog) (w := X.w) (A := X.A.in1) hh a l (iter_neT hl hit) its.toArray).done _ _ _ ⟨by rw [hlen]; exact hit, hl⟩ q
/-! ### the loop of min -/
/-- a function value called with one value -/
def KeyR (X : Cx) (pl : List (Addr × Obj)) (q : Value) (σ : L2.St) (kt : V → Hp → VK → Prop) : Prop :=
  ∀ (pins : List (Addr × Obj)) (s : Shared) (H : Hp) (x : V) (u : Value) (Q : VK), (∀ p ∈ pl, p ∈ pins) → Inv X pins σ H s → RelV x u → kt x H Q → wpAny (model X.prog X.w) X.A.in1 (call q [u]) (EP X pins σ Q) (fun _ _ => False) s
def LtR (X : Cx) (σ : L2.St) (lt : R2) : Prop :=
  ∀ (pins : List (Addr × Obj)) (s : Shared) (H : Hp) (x y : V) (u v : Value) (Q : VK), Inv X pins σ H s → RelV x u → RelV y v → lt x y H Q → wpAny (model X.prog X.w) X.A.in1 (richCompare .Lt u v) (EP X pins σ Q) (fun _ _ => False) s
/-- the walk: what is known behind j items, the best one, its key -/
structure MinW (kt : V → Hp → VK → Prop) (lt : R2) (Sq : Hp → Prop) (xs : List V) (Q : VK) (W : Nat → V → V → Hp → Prop) : Prop where
  at_ : ∀ j b k H, W j b k H → Sq H
  step : ∀ j b k H x, W j b k H → xs[j]? = some x → kt x H fun k' H1 => lt k' k H1 fun r H2 => ∃ c, r = .bl c ∧ W (j + 1) (if c then x else b) (if c then k' else k) H2
  done : ∀ b k H, W xs.length b k H → Q b H
theorem min_loop {pl : List (Addr × Obj)} {q : Value} {kt : V → Hp → VK → Prop} {lt : R2} {l IA SA : Addr} {xs : List V} {Sq : Hp → Prop} {It : Heap → Addr → Nat → Prop} {Q : VK} {W : Nat → V → V → Hp → Prop} (SK : SeqK X pins σ l xs Sq It) (hh : X.A.handled = none) (hq : KeyR X pl q σ kt) (hlt : LtR X σ lt) (M : MinW kt lt Sq xs Q W) (hpl : ∀ p ∈ pl, p ∈ pins)
    (hSI : SA ≠ IA) (hqn : (∃ f, q = .ref f) ∨ ∃ id, q = .builtin id) :
    ∀ (r j : Nat) (s : Shared) (H : Hp) (b k : V) (ub uk : Value) (c : Nat), xs.length - j = r → j ≤ xs.length → Inv X pins σ H s → FpOk X pins H IA → FpOk X pins H SA → s.heap.get? SA = some (seqObj "list" #[ub, uk] c) → It s.heap IA j → RelV b ub → RelV k uk → W j b k H →
      codeAny (model X.prog X.w) X.A (.builtin "min.loop" ⟨[.ref IA, q, .ref SA], []⟩) (fun r s' => ∃ v, r = .ok (.ret v) ∧ EP X pins σ Q v s') s := by
  have hname : (toString "min" ++ toString ".loop" : String) = "min.loop" := by decide
  rcases hqn with ⟨f, rfl⟩ | ⟨id, rfl⟩
  all_goals
    intro r
    induction r with
    | zero =>
      intro j s H b k ub uk c hr hj I fI fS gS hit rb rk w
      obtain rfl : j = xs.length := by omega
      refine codeAny_builtin PySem.F.entry_min_loop ?_
      rw [Around.under_plainId PySem.F.plain_min_loop _]
      show wpAny _ X.A.in1 (seqItems? (.ref SA) >>= _) _ _ _
      refine wpAny_bind (wpAny_seqItems gS rfl ?_)
      show wpAny _ X.A.in1 (tryCatch (pyNext (.ref IA)) _ >>= _) _ _ _
      refine wpAny_bind (wpAny_tryCatch (SK.done s H IA _ _ hh I (M.at_ _ _ _ _ w) hit fun h' tk' hk' => ?_))
      have gS' := hk' SA _ (by simpa using hSI) gS
      have k2 : ∀ b o, b ∉ [IA, SA] → s.heap.get? b = some o → (h'.update SA (Obj.mapSeq fun _ => (#[] : Array Value))).get? b = some o := fun b o hb e =>
        (Heap.get?_update_other _ _ (fun z => hb (by rw [z]; simp))).trans (hk' b o (fun z => hb (by rw [List.mem_singleton.mp z]; simp)) e)
      show wpAny _ X.A.in1 (updateSeq SA (fun _ => #[]) >>= _) _ _ _
      refine wpAny_bind ?_
      refine wpAny_updateSeq gS' rfl (wpAny_bind (wpAny_letGo (wpAny_pure ?_)))
      exact ⟨_, rfl, b, H, inv_raw (s := s) (t' := tk') I (ch := [IA, SA]) (fun b hb => by
        rcases List.mem_cons.mp hb with z | z
        · rw [z]; exact fI
        · rw [List.mem_singleton.mp z]; exact fS) k2, rb, M.done _ _ _ w⟩
    | succ r ih =>
      intro j s H b k ub uk c hr hj I fI fS gS hit rb rk w
      have hlt' : j < xs.length := by omega
      refine codeAny_builtin PySem.F.entry_min_loop ?_
      rw [Around.under_plainId PySem.F.plain_min_loop _]
      show wpAny _ X.A.in1 (seqItems? (.ref SA) >>= _) _ _ _
      refine wpAny_bind (wpAny_seqItems gS rfl ?_)
      show wpAny _ X.A.in1 (tryCatch (pyNext (.ref IA)) _ >>= _) _ _ _
      obtain ⟨x, hx⟩ : ∃ x, xs[j]? = some x := ⟨_, List.getElem?_eq_getElem hlt'⟩
      refine wpAny_bind (wpAny_tryCatch (SK.item s H IA j x _ _ hh I (M.at_ _ _ _ _ w) hit hx fun v' h' tk' rx hst' hk' => ?_))
      obtain ⟨oI', hoI', nI, hoc⟩ := SK.obj hst'
      have gS1 := hk' SA _ (by simpa using hSI) gS
      have I1 : Inv X pins σ H { s with heap := h', toks := tk' } := inv_raw I (ch := [IA]) (fun b hb => by rw [List.mem_singleton.mp hb]; exact fI) fun b o hb e => hk' b o hb e
      have I2 := Inv.pin1 I1 fI hoI' nI
      have I3 := Inv.pin1 I2 (FpOk.add fS hSI.symm) gS1 (fun v z => by cases z)
      show wpAny _ X.A.in1 (tryCatch (holding [v'] (call _ [v'])) _ >>= _) _ _ _
      refine wpAny_bind (wpAny_tryCatch (wpAny_holding (wpAny_mono (hq _ _ _ x v' _ (fun p hp => List.mem_cons_of_mem _ (List.mem_cons_of_mem _ (hpl p hp))) I3 rx (M.step j b k H x w hx)) (fun u s2 ⟨k', H2, I4, rk', q2⟩ => ?_) fun _ _ hF => hF.elim)))
      show wpAny _ X.A.in1 (tryCatch (holding [v', u] (richCompare .Lt u uk >>= _)) _ >>= _) _ _ _
      refine wpAny_bind (wpAny_tryCatch (wpAny_holding (wpAny_bind (wpAny_mono (hlt _ _ _ k' k u uk _ I4 rk' rk q2) (fun bv s3 ⟨rv', H3, I5, rr, q3⟩ => ?_) fun _ _ hF => hF.elim))))
      obtain ⟨cb, rfl, w'⟩ := q3
      obtain rfl : bv = .bool cb := rr
      refine wpAny_bind (wpAny_holding (wpAny_truthy_bool ?_))
      refine wpAny_bind (wpAny_letGo (wpAny_pure ?_))
      have pS := I5.pin (SA, seqObj "list" #[ub, uk] c) (List.mem_append_right _ List.mem_cons_self)
      have pI := I5.pin (IA, oI') (List.mem_append_right _ (List.mem_cons_of_mem _ List.mem_cons_self))
      have I6 := Inv.unpin1 (Inv.unpin1 I5)
      have fI6 : FpOk X pins H3 IA := FpOk.heap fI pI.2.1
      have fS6 : FpOk X pins H3 SA := FpOk.heap fS pS.2.1
      have hit3 : It s3.heap IA (j + 1) := hoc _ pI.1
      cases cb with
      | true =>
        obtain ⟨c2, hc2⟩ : ∃ c2, (s3.heap.update SA (Obj.mapSeq fun _ => #[v', u])).get? SA = some (seqObj "list" #[v', u] c2) := ⟨_, get?_update_seq pS.1 fun _ => #[v', u]⟩
        simp only [if_true] at w' ⊢
        have k3 : ∀ b o, b ∉ [SA] → s3.heap.get? b = some o → (s3.heap.update SA (Obj.mapSeq fun _ => #[v', u])).get? b = some o := fun b o hb e =>
          (Heap.get?_update_other _ _ (fun z => hb (by rw [z]; simp))).trans e
        refine wpAny_bind ?_
        refine wpAny_updateSeq pS.1 rfl (wpAny_bind (wpAny_letGo ?_))
        rw [hname]
        refine wpAny_pure ⟨plainId_quiet PySem.F.plain_min_loop _, ih (j + 1) _ H3 x k' v' u c2 (by omega) hlt' (inv_raw I6 (ch := [SA]) (fun b hb => by rw [List.mem_singleton.mp hb]; exact fS6) k3) fI6 fS6 hc2 (hoc _ (k3 _ _ (fun z => hSI (List.mem_singleton.mp z).symm) pI.1)) rx rk' w'⟩
      | false =>
        simp only [Bool.false_eq_true, if_false] at w' ⊢
        refine wpAny_bind (wpAny_letGo ?_)
        rw [hname]
        exact wpAny_pure ⟨plainId_quiet PySem.F.plain_min_loop _, ih (j + 1) _ H3 b k ub uk c (by omega) hlt' I6 fI6 fS6 pS.1 hit3 rb rk w'⟩
theorem min_run {E : Value → Shared → Prop} {pl : List (Addr × Obj)} {q : Value} {kt : V → Hp → VK → Prop} {lt : R2} {l : Addr} {xs : List V} {Sq : Hp → Prop} {It : Heap → Addr → Nat → Prop} {Q : VK} {W : Nat → V → V → Hp → Prop} {x0 : V} (SK : SeqK X pins σ l xs Sq It) (hh : X.A.handled = none) (hq : KeyR X pl q σ kt) (hlt : LtR X σ lt) (M : MinW kt lt Sq xs Q W) (hpl : ∀ p ∈ pl, p ∈ pins)
    (hqn : (∃ f, q = .ref f) ∨ ∃ id, q = .builtin id) (I : Inv X pins σ H s) (hs : Sq H) (hx : xs[0]? = some x0) (first : kt x0 H fun k H1 => W 1 x0 k H1) :
    wpAny (model X.prog X.w) X.A (call (.builtin "min") [.ref l] [(Str.ofString "key", q)]) (EP X pins σ Q) E s := by
  have hname : (toString "min" ++ toString ".loop" : String) = "min.loop" := by decide
  have hne : 0 < xs.length := (List.getElem?_eq_some_iff.mp hx).1
  refine kmk_tree PySem.F.kind_min PySem.F.plain_min PySem.F.entry_min (kmk_min_key _ _) ?_
  rcases hqn with ⟨f, rfl⟩ | ⟨id, rfl⟩
  all_goals
    show wpAny _ X.A.in1 (Builtin.Builtins.bindParams "min" ["key", "default"] 0 ⟨[], [(Str.ofString "key", _)]⟩ >>= _) _ _ s
    refine wpAny_bind (wpAny_of_eq (show Builtin.Builtins.bindParams "min" ["key", "default"] 0 ⟨[], [(Str.ofString "key", _)]⟩ = pure [some _, none] from rfl) ?_)
    refine wpAny_bind (wpAny_pure ?_)
    refine wpAny_bind (SK.start s H _ _ I hs fun oi hit0 => ?_)
    refine wpAny_bind (wpAny_newList ?_ (Nat.zero_le _))
    rw [hname]
    have hS : (s.heap.push oi).objs.size = s.heap.objs.size + 1 := size_push' ..
    have hSI : (s.heap.push oi).objs.size ≠ s.heap.objs.size := by rw [hS]; exact Nat.ne_of_gt (Nat.lt_succ_self _)
    refine wpAny_pure ⟨plainId_quiet PySem.F.plain_min_loop _, ?_⟩
    obtain ⟨o0, ho0, _, hk0⟩ := SK.obj hit0
    have hit : It ((s.heap.push oi).push (seqObj "list" #[] 0)) s.heap.objs.size 0 := hk0 _ (Heap.get?_push_of_some _ ho0)
    have gS : ((s.heap.push oi).push (seqObj "list" #[] 0)).get? (s.heap.push oi).objs.size = some (seqObj "list" #[] 0) := Heap.get?_push_size _ rfl
    have I0 : Inv X pins σ H { s with heap := (s.heap.push oi).push (seqObj "list" #[] 0), toks := s.toks } := I.kept (t' := s.toks) fun b o e => Heap.get?_push_of_some _ (Heap.get?_push_of_some _ e)
    have fI : FpOk X pins H s.heap.objs.size := I.fpOk (Nat.le_refl _) (I.hok.fresh (Nat.le_refl _))
    have fS : FpOk X pins H (s.heap.push oi).objs.size := I.fpOk (by rw [hS]; omega) (I.hok.fresh (by rw [hS]; omega))
    clear ho0 hk0 hit0 hS
    generalize (s.heap.push oi).objs.size = SA at hSI gS fS ⊢
    have I00 : Inv X pins σ H { s with heap := (s.heap.push oi).push (seqObj "list" #[] 0) } := I0
    generalize (s.heap.push oi).push (seqObj "list" #[] 0) = h0 at hit gS I00 ⊢
    clear I0
    generalize s.heap.objs.size = IA at hSI hit fI ⊢
    refine codeAny_builtin PySem.F.entry_min_loop ?_
    rw [Around.under_plainId PySem.F.plain_min_loop _]
    show wpAny _ X.A.in1 (seqItems? (.ref SA) >>= _) _ _ _
    refine wpAny_bind (wpAny_seqItems gS rfl ?_)
    show wpAny _ X.A.in1 (tryCatch (pyNext (.ref IA)) _ >>= _) _ _ _
    refine wpAny_bind (wpAny_tryCatch (SK.item { s with heap := h0 } H IA 0 x0 _ _ hh I00 hs hit hx fun v' h' tk' rx hst' hk' => ?_))
    obtain ⟨oI', hoI', nI, hoc⟩ := SK.obj hst'
    have gS1 := hk' SA _ (by simpa using hSI) gS
    have I1 : Inv X pins σ H { s with heap := h', toks := tk' } := inv_raw (s := { s with heap := h0 }) (t' := tk') I00 (ch := [IA]) (fun b hb => by rw [List.mem_singleton.mp hb]; exact fI) fun b o hb e => hk' b o hb e
    have I2 := Inv.pin1 I1 fI hoI' nI
    have I3 := Inv.pin1 I2 (FpOk.add fS hSI.symm) gS1 (fun v z => by cases z)
    show wpAny _ X.A.in1 (tryCatch (holding [v'] (call _ [v'])) _ >>= _) _ _ _
    refine wpAny_bind (wpAny_tryCatch (wpAny_holding (wpAny_mono (hq _ _ _ x0 v' _ (fun p hp => List.mem_cons_of_mem _ (List.mem_cons_of_mem _ (hpl p hp))) I3 rx first) (fun u s2 ⟨k', H2, I4, rk', w1⟩ => ?_) fun _ _ hF => hF.elim)))
    have pS := I4.pin (SA, seqObj "list" #[] 0) (List.mem_append_right _ List.mem_cons_self)
    have pI := I4.pin (IA, oI') (List.mem_append_right _ (List.mem_cons_of_mem _ List.mem_cons_self))
    have I6 := Inv.unpin1 (Inv.unpin1 I4)
    have fI6 : FpOk X pins H2 IA := FpOk.heap fI pI.2.1
    have fS6 : FpOk X pins H2 SA := FpOk.heap fS pS.2.1
    obtain ⟨c2, hc2⟩ : ∃ c2, (s2.heap.update SA (Obj.mapSeq fun _ => #[v', u])).get? SA = some (seqObj "list" #[v', u] c2) := ⟨_, get?_update_seq pS.1 fun _ => #[v', u]⟩
    have k3 : ∀ b o, b ∉ [SA] → s2.heap.get? b = some o → (s2.heap.update SA (Obj.mapSeq fun _ => #[v', u])).get? b = some o := fun b o hb e =>
      (Heap.get?_update_other _ _ (fun z => hb (by rw [z]; simp))).trans e
    show wpAny _ X.A.in1 (updateSeq SA (fun _ => #[v', u]) >>= _) _ _ _
    refine wpAny_bind ?_
    refine wpAny_updateSeq pS.1 rfl ?_
    rw [hname]
    refine wpAny_pure ⟨plainId_quiet PySem.F.plain_min_loop _, codeAny_mono (min_loop SK hh hq hlt M hpl hSI (by first | exact .inl ⟨_, rfl⟩ | exact .inr ⟨_, rfl⟩) _ 1 _ H2 x0 k' v' u c2 rfl hne (inv_raw I6 (ch := [SA]) (fun b hb => by rw [List.mem_singleton.mp hb]; exact fS6) k3) fI6 fS6 hc2 (hoc _ (k3 _ _ (fun z => hSI (List.mem_singleton.mp z).symm) pI.1)) rx rk' w1) fun r s' ⟨v, e, h⟩ => ?_⟩
    subst e
    exact h
end
/-! ### the lambda: its names, its frame -/
/-- one parameter, no other name of its own: captured ones and globals -/
structure LamOk (N : List Str) (sc scope : Scope) (p : Str) (ix : Nat) : Prop where
  blk : BlkOk N sc scope [(p, ix)]
  co : scope.isCoroutine = false
  gen : scope.isGenerator = false
  cell : ∀ y ∈ scope.names, y.2 ≠ .cell
  par : scope.names.lookup p = some NameKind.local
def lamC (N : List Str) (sc scope : Scope) (p : Str) (ix : Nat) : Bool :=
  blkC N sc scope [(p, ix)] && !scope.isCoroutine && !scope.isGenerator && scope.names.all (fun y => match y.2 with | .cell => false | _ => true) && (match scope.names.lookup p with | some .local => true | _ => false)
theorem lamOk_by {N : List Str} {sc scope : Scope} {p : Str} {ix : Nat} (h : lamC N sc scope p ix = true) : LamOk N sc scope p ix := by
  unfold lamC at h
  simp only [Bool.and_eq_true] at h
  obtain ⟨⟨⟨⟨h1, h2⟩, h3⟩, h4⟩, h5⟩ := h
  refine ⟨blkOk_by h1, by simpa using h2, by simpa using h3, fun y hy e => ?_, ?_⟩
  · have q := List.all_eq_true.mp h4 y hy
    rw [e] at q
    cases q
  · split at h5
    · assumption
    · cases h5
abbrev lamE (X : Cx) (scope : Scope) (L f c' : Addr) : Env := PySem.W.envX (X.env.qual ++ "<lambda>") scope L f (.ref c') (cloFrom X.env.cells scope.names [])
/-- the context of the lambda's body -/
def lamX (X : Cx) (A : Around) (s : Shared) (H : Hp) (scope : Scope) (f c' : Addr) : Cx :=
  { X with
    A := A.deeper (lamE X scope s.heap.objs.size f c')
    s_0 := s
    H_0 := H
    env := lamE X scope s.heap.objs.size f c'
    outer := X.stack
    stack := lamE X scope s.heap.objs.size f c' :: X.stack
    ex := []
    fn := fun _ => false
    calm := true
    pn := []
    xe := fun _ _ => False }
section
variable {X : Cx} {pins : List (Addr × Obj)} {σ : L2.St} {H : Hp} {s : Shared}
theorem lam_in {A : Around} {scope : Scope} {p : Str} {ix : Nat} {f c' : Addr} {v : V} {u : Value} {h₁ : Heap} {tk : Nat} (I : Inv X pins σ H s) (L : LamOk X.N X.env.scope scope p ix) (hN : X.N.Nodup) (hh : A.handled = none) (hfr : A.frames = some X.stack) (r : RelV v u)
    (hns : h₁.Ns s.heap.objs.size fun y => [(p, u)].reverse.lookup y) (kp : ∀ b o, s.heap.get? b = some o → h₁.get? b = some o) :
    Inv (lamX X A s H scope f c') [] (σ.set ix (some v)) H { s with heap := h₁, toks := tk } := by
  have e0 := I.env0
  have hfree : ∀ y ∈ scope.names, y.2 = .free → ∃ c, X.env.cells.lookup y.1 = some c := fun y hy e => by
    rcases L.blk.free y hy e with k | k
    · exact I.ok.has _ (.inl k)
    · exact I.ok.has _ (.inr k)
  have cm : ∀ {y c}, (cloFrom X.env.cells scope.names []).lookup y = some c → X.env.cells.lookup y = some c := fun {y c} e => by
    rcases cloFrom_mem (PySem.mem_of_lookup e) with hm | ⟨h1, h2⟩
    · cases hm
    · obtain ⟨c1, hc⟩ := hfree _ h1 rfl
      have hc : X.env.cells.lookup y = some c1 := hc
      have e2 : c = c1 := by
        rw [h2, hc] <;> rfl
      rw [e2]
      exact hc
  have look : ∀ {y}, scope.names.lookup y = some .free → ∃ c, (cloFrom X.env.cells scope.names []).lookup y = some c := fun {y} hl => by
    have hy : (y, NameKind.free) ∈ scope.names := PySem.mem_of_lookup hl
    exact mem_lookup (cloFrom_has (cells := X.env.cells) (acc := []) hy)
  have cellK : ∀ {c : Addr} {v : Option Value}, s.heap.IsCell c v → h₁.IsCell c v := fun {c v} ⟨o, ho, hd⟩ => ⟨o, kp _ _ ho, hd⟩
  have noA : ∀ b : Addr, b ∉ (lamX X A s H scope f c').ex := fun b z => absurd (show b ∈ ([] : List Addr) from z) (by simp)
  refine ⟨⟨e0.mod, L.blk.kind, rfl, rfl, Nat.le_refl _, fun y z c e1 e2 => I.ok.inj y z c (cm e1) (cm e2), fun y hy => ?_, fun y c z _ => ?_, fun _ => hh, Around.frames_deeper hfr, .inr ⟨rfl, rfl⟩, fun b z => absurd z (noA b), e0.bs, e0.bsz, fun b _ _ => noA b,
      fun b z => absurd z (noA b), e0.funs, e0.frf⟩,
    rfl, e0.bare, Un.kept kp, ⟨_, hns, fun i y w e1 e2 e3 => ?_⟩, fun y c e => ?_, e0.hok.fresh (Nat.le_refl _), fun y c e => ?_, fun q hq => absurd (show q ∈ ([] : List (Addr × Obj)) ++ [] from hq) (by simp), e0.hok.kept kp, (List.length_set ..).trans I.len⟩
  · have hy : scope.names.lookup y = some .cell ∨ scope.names.lookup y = some .free := hy
    rcases hy with hy | hy
    · exact absurd rfl (L.cell _ (PySem.mem_of_lookup hy))
    · exact look hy
  · have z : false = true := z
    cases z
  · have e3 : Vis scope y := e3
    have e1 : X.N[i]? = some y := e1
    have hix : X.N[ix]? = some p := L.blk.ix (p, ix) List.mem_cons_self
    rcases e3 with k | k | k
    · rcases L.blk.own _ (PySem.mem_of_lookup k) (.inl rfl) with z | z
      · have hy : y = p := by simpa using z
        subst hy
        obtain rfl : i = ix := nodup_ix hN e1 hix
        have hl : i < σ.length := by rw [I.len]; exact (List.getElem?_eq_some_iff.mp e1).1
        rw [List.getElem?_set_self hl] at e2
        obtain rfl : v = w := by cases e2; rfl
        exact ⟨u, r, .inl ⟨k, by simp⟩⟩
      · exact absurd (List.mem_of_getElem? e1) z
    · exact absurd rfl (L.cell _ (PySem.mem_of_lookup k))
    · have hne : ix ≠ i := fun z => by
        subst z
        rw [hix] at e1
        cases e1
        rw [L.par] at k
        cases k
      rw [List.getElem?_set_ne hne] at e2
      obtain ⟨m, hn, hl⟩ := I.loc
      have hvis : Vis X.env.scope y := (L.blk.free _ (PySem.mem_of_lookup k) rfl).elim (fun k => .inr (.inl k)) (fun k => .inr (.inr k))
      obtain ⟨w', rw', q⟩ := hl i y w e1 e2 hvis
      obtain ⟨c2, h2⟩ := look k
      refine ⟨w', rw', .inr ⟨.inr k, c2, h2, ?_⟩⟩
      have c1 := cm h2
      rcases q with ⟨k', _⟩ | ⟨_, c3, e', z⟩
      · have k' : X.env.scope.names.lookup y = some .local := k'
        rcases L.blk.free _ (PySem.mem_of_lookup k) rfl with k2 | k2 <;> rw [show X.env.scope.names.lookup y = _ from k2] at k' <;> cases k'
      · rw [c1] at e'
        cases e'
        exact cellK z
  · obtain ⟨w', z⟩ := I.cell y c (cm e)
    exact ⟨w', cellK z⟩
  · exact I.freeC y c (cm e)
/-- the lambda called -/
theorem lam_key {params : Arguments} {body : Expr} {scope : Scope} {p : Str} {ix k : Nat} {f c' : Addr} {pm ctv : Value} {tb : TE} {fo : Obj} (hfo : fo = PySem.W.kla_obj "<lambda>" (X.env.qual ++ "<lambda>") params body scope (cloFrom X.env.cells scope.names []) pm c' ctv)
    (L : LamOk X.N X.env.scope scope p ix) (hN : X.N.Nodup) (hr : Room (k + 2) X.A) 
    (hbind : ∀ u, bindArgs (PySem.W.kla_fn "<lambda>" (X.env.qual ++ "<lambda>") params body scope (cloFrom X.env.cells scope.names []) pm (.ref c') ctv) ⟨[u], []⟩ = pure [(p, u)])
    (hbody : ∀ (s : Shared) (H : Hp), PE (lamX X X.A.in1 s H scope f c') body tb) :
    KeyR X [(f, fo)] (.ref f) σ fun x H Q => H c' = some (LamX.CodeO c' (X.env.qual ++ "<lambda>")) ∧ tb (σ.set ix (some x)) H Q := by
  intro pl s H x u Q hpl I rx ⟨hc, h⟩
  obtain ⟨⟨oc, vs, t, hoc, hdc, hvc⟩, _, _⟩ := I.hok c' _ hc
  have hf := (I.pin (f, fo) (List.mem_append_right _ (hpl _ List.mem_cons_self))).1
  subst hfo
  have hp1 : Around.depth X.A.in1 < recursionLimit := by have := hr.dp; show X.A.depth < _; omega
  have rc : codeAny (model X.prog X.w) X.A.in1 (.call (.ref f) ⟨[u], []⟩) (fun r s' => ∃ w, r = .ok (.ret w) ∧ CE X.stack X.prog X.w H s Q w s') s := by
    refine PySem.W.kla_callFunE hp1 hf rfl L.co L.gen rfl ⟨c', oc, vs, t, rfl, hoc, hdc, hvc⟩ ?_
    rw [hbind]
    refine wpAny_pure (wpAny_newFunctionEnv L.cell (fun y hy => ?_) (fun h₁ hns hsb => ⟨I.nolimit.fresh _ hsb, ?_⟩) L.blk.kind)
    · have hy : y ∈ [(p, u)] := hy
      rw [List.mem_singleton.mp hy]
      exact L.par
    show codeAny _ _ (.expr body (lamE X scope s.heap.objs.size f c')) _ _
    have kp : ∀ b o, s.heap.get? b = some o → h₁.get? b = some o := fun b o e => hsb.extBut b o (Nat.ne_of_lt (Heap.lt_size e)) (Heap.get?_push_of_some _ e)
    have J : Inv (lamX X X.A.in1 s H scope f c') [] (σ.set ix (some x)) H { s with heap := h₁, toks := s.toks + ([(p, u)] : List (Str × Value)).length } := lam_in I L hN hr.hd I.ok.frames rx hns kp
    refine PySem.W.kla_codeExpr (wpAny_mono ((hbody s H).run [] _ _ H Q J h) (fun v s' hq => ?_) fun e s' hq => False.elim hq)
    obtain ⟨w', H', J', rv, q⟩ := hq
    exact ⟨v, rfl, w', H', J'.os, J'.bare, J'.base, J'.hok, rv, q⟩
  refine wpAny_call (codeAny_mono rc fun r s' hq => ?_)
  obtain ⟨w, rfl, hq⟩ := hq
  exact I.after hq
/-- the lambda made: the table tells code objects of its name alone, all else stays -/
theorem lam_made {c P : Addr} {q : Str} {params : Arguments} {body : Expr} {scope : Scope} {pos : Pos} {E Q : Value → Shared → Prop} (I : Inv X pins σ H s) (TB : GxR.TabB X.base X.mg c P) (hcode : X.env.code = .ref c) (hq : X.env.qual ++ "<lambda>" = q)
    (hT : LamX.TabS H P q) (hdef : defaultsOf params X.env = ([], [])) (hfree : ∀ y ∈ scope.names, y.2 = .free → ∃ c, X.env.cells.lookup y.1 = some c)
    (h : ∀ (f c' : Addr) (pm ctv : Value) (H1 : Hp) (s' : Shared), Inv X pins σ H1 s' → (∀ b o, b ≠ P → H b = some o → H1 b = some o) → LamX.TabS H1 P q →
      s'.heap.get? f = some (PySem.W.kla_obj "<lambda>" (X.env.qual ++ "<lambda>") params body scope (cloFrom X.env.cells scope.names []) pm c' ctv) → FpOk X pins H1 f → H1 c' = some (LamX.CodeO c' q) → Q (.ref f) s') :
    wpAny (model X.prog X.w) X.A (eval (.Lambda params body scope pos) X.env) Q E s := by
  subst hq
  obtain ⟨ps, hP, ht, ha⟩ := hT
  refine PySem.W.kla_eval hdef ?_
  have bP : s.heap.BuiltinsAt X.mg P := TB.bm.keeps I.bk
  have hP' : s.heap.get? P = some { cls := .none, data := .fields ps } := I.hok P _ hP
  have old : ∀ (h' : Heap) (fo : Obj) (H' : Hp), s.heap.objs.size ≤ h'.objs.size → H' h'.objs.size = none → FpOk X pins H' h'.objs.size := fun h' fo H' hsz hn => I.fpOk hsz hn
  cases hc : codeAmong pos ps.toList with
  | none =>
    refine PySem.W.kla_makeFunction (mg := X.mg) (c := c) (P := P) (ps := ps) (closure_ok hfree) I.ok.glob (I.mod.glob.keeps I.bk) hcode (TB.code.keeps I.bk) hP' ht hc TB.gP bP fun c' ctv h' tk hx hge hlt hrec htb => ?_
    obtain ⟨c2, oc, vs, t, e2, hoc, hd, hv⟩ := hrec
    cases e2
    have hsz : s.heap.objs.size ≤ h'.objs.size := Nat.le_trans hge (Nat.le_of_lt hlt)
    have nC : H c' = none := I.hok.fresh hge
    have I1 := LamX.inv_table (t' := tk) (more := #[rawInt pos.line, rawInt pos.col, .ref c']) (h' := h'.push (PySem.W.kla_obj "<lambda>" (X.env.qual ++ "<lambda>") params body scope (cloFrom X.env.cells scope.names []) ((X.mg "__name__").getD .none) c' ctv)) I hP
      (fun b o hb e => Heap.get?_push_of_some _ (hx b o hb e)) (Heap.get?_push_of_some _ htb) hge ⟨oc, vs, t, Heap.get?_push_of_some _ hoc, hd, hv⟩
    have kE : ∀ b o, b ≠ P → H b = some o → upd (upd H P (.tbl (ps ++ #[rawInt pos.line, rawInt pos.col, .ref c']))) c' (LamX.CodeO c' (X.env.qual ++ "<lambda>")) b = some o := fun b o hb e => by
      rw [upd_ne (ne_of_none e nC), upd_ne hb]
      exact e
    have eL : (ps ++ #[rawInt pos.line, rawInt pos.col, .ref c']).toList = ps.toList ++ [rawInt pos.line, rawInt pos.col, .ref c'] := by simp
    refine h h'.objs.size c' ((X.mg "__name__").getD .none) ctv _ _ I1 kE ?_ (Heap.get?_push_size _ rfl) (old h' (PySem.W.kla_obj "" "" params body scope [] .none c' .none) _ hsz ?_) upd_same
    · refine ⟨_, by rw [upd_ne (ne_of_none hP nC), upd_same], by rw [eL]; exact PySem.TriplesOk_snoc _ _ _ _ ht, fun p' cv hcv => ?_⟩
      rw [eL] at hcv
      rcases LamX.among_app _ ht hcv with z | z
      · obtain ⟨c0, e1, e2⟩ := ha p' cv z
        exact ⟨c0, e1, kE _ _ (fun z => by rw [z, hP] at e2; exact LamX.codeO_ne ps (Option.some.inj e2).symm) e2⟩
      · exact ⟨c', z, upd_same⟩
    · have n1 : h'.objs.size ≠ c' := Nat.ne_of_gt hlt
      have n2 : h'.objs.size ≠ P := Nat.ne_of_gt (Nat.lt_of_lt_of_le (Heap.lt_size hP') hsz)
      rw [upd_ne n1, upd_ne n2]
      exact I.hok.fresh hsz
  | some cv =>
    obtain ⟨c', e, hco⟩ := ha pos cv hc
    subst e
    refine PySem.W.kla_makeFunctionHit (mg := X.mg) (c := c) (P := P) (ps := ps) (closure_ok hfree) I.ok.glob (I.mod.glob.keeps I.bk) hcode (TB.code.keeps I.bk) hP' ht hc bP fun ctv h' tk hx hsz => ?_
    have I1 : Inv X pins σ H { s with heap := h'.push (PySem.W.kla_obj "<lambda>" (X.env.qual ++ "<lambda>") params body scope (cloFrom X.env.cells scope.names []) ((X.mg "__name__").getD .none) c' ctv), toks := tk } := I.kept fun b o e => Heap.get?_push_of_some _ (hx b o e)
    exact h h'.objs.size c' ((X.mg "__name__").getD .none) ctv H _ I1 (fun b o _ e => e) ⟨ps, hP, ht, ha⟩ (Heap.get?_push_size _ rfl) (old h' (PySem.W.kla_obj "" "" params body scope [] .none c' .none) _ hsz (I.hok.fresh hsz)) hco
theorem sqT_keep {K : PySem.W.Frag} {H H' : Hp} {P l : Addr} {q : Str} {xs : List V} (T : LamX.TabS H P q) (k : ∀ b o, b ≠ P → H b = some o → H' b = some o) (h : SqT K H l xs) : SqT K H' l xs := by
  obtain ⟨ps, hP, _⟩ := T
  have nn : ∀ o, H l = some o → (∀ ps, o ≠ .tbl ps) → l ≠ P := fun o e hn z => by
    rw [z, hP] at e
    exact hn ps (Option.some.inj e).symm
  rcases h with (h | ⟨o, h⟩) | h
  · exact .inl (.inl (k _ _ (nn _ h fun _ z => by cases z) h))
  · exact .inl (.inr ⟨o, k _ _ (nn _ h fun _ z => by cases z) h⟩)
  · exact .inr h
end
/-! ### in a built-in -/
abbrev in1X (X : Cx) : Cx := { X with A := X.A.in1, xe := fun _ _ => False }
section
variable {X : Cx} {pins : List (Addr × Obj)} {σ : L2.St} {H : Hp} {s : Shared}
theorem inv_in1 (I : Inv X pins σ H s) : Inv (in1X X) pins σ H s :=
  ⟨⟨I.ok.mod, I.ok.kind, I.ok.glob, I.ok.blt, I.ok.above, I.ok.inj, I.ok.has, I.ok.cab, I.ok.hd, I.ok.frames, I.ok.stk, I.ok.exf, I.ok.bs, I.ok.bsz, I.ok.noex, I.ok.exfs, I.ok.funs, I.ok.frf⟩, I.os, I.bare, I.base, I.loc, I.cell, I.free, I.freeC, I.pin, I.hok, I.len⟩
theorem of_in1 (I : Inv (in1X X) pins σ H s) : Inv X pins σ H s :=
  ⟨⟨I.ok.mod, I.ok.kind, I.ok.glob, I.ok.blt, I.ok.above, I.ok.inj, I.ok.has, I.ok.cab, I.ok.hd, I.ok.frames, I.ok.stk, I.ok.exf, I.ok.bs, I.ok.bsz, I.ok.noex, I.ok.exfs, I.ok.funs, I.ok.frf⟩, I.os, I.bare, I.base, I.loc, I.cell, I.free, I.freeC, I.pin, I.hok, I.len⟩
theorem ltR_of {lt : R2} (h : OpR (in1X X) (compareOp .Lt) lt) : ∀ σ, LtR X σ lt := fun σ pins s H x y u v Q I rx ry q =>
  wpAny_mono (h pins s σ H x y u v Q (inv_in1 I) rx ry q) (fun w s' ⟨z, H', I', r, q'⟩ => ⟨z, H', of_in1 I', r, q'⟩) fun _ _ z => z
/-! ### min(xs, key=..) -/
/-- at_: what a walk needs of the heap at each turn -/
def rMinK (Sq : Hp → Addr → List V → Prop) (kt : V → Hp → VK → Prop) (lt : R2) (at_ : Hp → Prop) (l : Addr) (xs : List V) (H : Hp) (Q : VK) : Prop :=
  ∃ (x0 : V) (W : Nat → V → V → Hp → Prop), xs[0]? = some x0 ∧ kt x0 H (fun k H1 => W 1 x0 k H1) ∧ (∀ j b k H, W j b k H → Sq H l xs ∧ at_ H) ∧
    (∀ j b k H x, W j b k H → xs[j]? = some x → kt x H fun k' H1 => lt k' k H1 fun r H2 => ∃ c, r = .bl c ∧ W (j + 1) (if c then x else b) (if c then k' else k) H2) ∧ ∀ b k H, W xs.length b k H → Q b H
def tMinK (Sq : Hp → Addr → List V → Prop) (P : Addr) (q : Str) (ix : Nat) (ta tb : TE) (lt : R2) : TE := fun σ H Q => tCons ta tNil σ H fun vs H1 => ∃ (l : Addr) (xs : List V), vs = [.ref l] ∧ Sq H1 l xs ∧ LamX.TabS H1 P q ∧
  ∀ (c' : Addr) (H2 : Hp), (∀ b o, b ≠ P → H1 b = some o → H2 b = some o) → LamX.TabS H2 P q → H2 c' = some (LamX.CodeO c' q) →
    rMinK Sq (fun x H Q => tb (σ.set ix (some x)) H Q) lt (fun H => H c' = some (LamX.CodeO c' q)) l xs H2 Q
theorem pe_minK {Sq : Hp → Addr → List V → Prop} {It : Addr → Heap → Addr → Nat → Prop} {c P : Addr} {q : Str} {params : Arguments} {body e : Expr} {scope : Scope} {x : Str} {ix k : Nat} {lpos kpos p1 pos : Pos} {ta tb : TE} {lt : R2} (SK : ∀ (pins : List (Addr × Obj)) (σ : L2.St) (l : Addr) (xs : List V), SeqK X pins σ l xs (fun H => Sq H l xs) (It l))
    (kS : ∀ {H H' : Hp} {l : Addr} {xs : List V}, LamX.TabS H P q → (∀ b o, b ≠ P → H b = some o → H' b = some o) → Sq H l xs → Sq H' l xs)
    (hr : Room (k + 2) X.A) (hgl : Gl X "min") (hm : X.mg "min" = none) (TB : GxR.TabB X.base X.mg c P) (hcode : X.env.code = .ref c) (hq : X.env.qual ++ "<lambda>" = q) (L : LamOk X.N X.env.scope scope x ix) (hN : X.N.Nodup)
    (hlt : ∀ σ, LtR X σ lt) (ha : PA X [e] (tCons ta tNil)) (hbody : ∀ (s : Shared) (H : Hp) (f c' : Addr), PE (lamX X X.A.in1 s H scope f c') body tb)
    (hdef : defaultsOf params X.env = ([], []) := by rfl)
    (hbind : ∀ (qn : Str) (cl : List (Str × Addr)) (pm cv ctv u : Value), bindArgs (PySem.W.kla_fn "<lambda>" qn params body scope cl pm cv ctv) ⟨[u], []⟩ = pure [(x, u)] := by intros; rfl)
    (he : backTo pos (starEach [e] X.env) = (false, eval e X.env) :: backTo pos (starEach [] X.env) := by rfl) (hpl : (backTo pos (starEach [e] X.env)).any (·.1) = false := by rfl) :
    PE X (.Call (.Name "min" p1) [e] [⟨some (Str.ofString "key"), .Lambda params body scope lpos, kpos⟩] pos) (tMinK Sq P q ix ta tb lt) := by
  have hfree : ∀ {pins : List (Addr × Obj)} {σ : L2.St} {H : Hp} {s : Shared}, Inv X pins σ H s → ∀ y ∈ scope.names, y.2 = .free → ∃ c, X.env.cells.lookup y.1 = some c := fun I y hy e => by
    rcases L.blk.free y hy e with k | k
    · exact I.ok.has _ (.inl k)
    · exact I.ok.has _ (.inr k)
  refine ⟨fun pins s σ H Q I h => ?_⟩
  refine wpAny_Call_Name_kw (ld_blt I hgl hm (show bootBuiltins "min" = some (.builtin "min") by decide +kernel) ?_)
  refine PyProof.Rows.callWith_kw (thn (ha.run pos pins s σ H _ I h) fun us s1 ⟨vs, H1, I1, r1, q1⟩ => ?_) he hpl
  obtain ⟨l, xs, rfl, hs, hT, q2⟩ := q1
  obtain rfl := Vals.ref1 r1
  show wpAny _ _ (evalAll [(do let v ← eval (.Lambda params body scope lpos) X.env; standAt pos; pure v)]) _ _ s1
  refine wpAny_evalAll_cons (wpAny_bind (lam_made I1 TB hcode hq hT hdef (hfree I1) fun f c' pm ctv H2 s2 I2 k2 T2 hf ff hc => ?_))
  refine wpAny_bind (wpAny_standAt (wpAny_pure (wpAny_evalAll_nil ?_)))
  obtain ⟨x0, W, hx0, first, wat, step, fin⟩ := q2 c' H2 k2 T2 hc
  have I3 := Inv.pin1 I2 ff hf (fun v z => by cases z)
  have hk := lam_key (σ := σ) (k := k) (ix := ix) (tb := tb) (p := x) (f := f) (c' := c') (params := params) (body := body) (pm := pm) (ctv := ctv) rfl L hN hr (fun u => hbind _ _ _ _ _ u) (fun s H => hbody s H f c')
  subst hq
  refine wpAny_mono (min_run (W := fun j b k H => W j b k H) (E := X.xe) (pins := (f, PySem.W.kla_obj "<lambda>" (X.env.qual ++ "<lambda>") params body scope (cloFrom X.env.cells scope.names []) pm c' ctv) :: pins) (SK _ σ l xs) hr.hd hk (hlt σ) ⟨fun j b k H w => (wat j b k H w).1, fun j b k H x w hx => ⟨(wat j b k H w).2, step j b k H x w hx⟩, fin⟩ (fun p hp => by rw [List.mem_singleton.mp hp]; exact List.mem_cons_self) (.inl ⟨f, rfl⟩) I3 (kS hT k2 hs) hx0 ⟨hc, first⟩) (fun u s' ⟨v, H', I', rv, q'⟩ => ⟨v, H', Inv.unpin1 I', rv, q'⟩) fun _ _ z => z
theorem Room.lam {k : Nat} {X : Cx} (r : Room (k + 1) X.A) {s : Shared} {H : Hp} {scope : Scope} {f c' : Addr} : Room k (lamX X X.A.in1 s H scope f c').A :=
  ⟨r.hd, by have := r.dp; show X.A.depth + 1 + 3 * k + 5 < _; omega, by have := r.un; show X.A.units + 1 + 3 + 16 * k + 200 < _; omega⟩
theorem Room.u4 {k : Nat} {X : Cx} (r : Room k X.A) : (in1X X).A.units + 4 < cLine := by have := r.un; show X.A.units + 1 + 4 < _; omega
/-- min of a tuple by a lambda -/
theorem pe_minKT {K : PySem.W.Frag} {c P : Addr} {q : Str} {params : Arguments} {body e : Expr} {scope : Scope} {x : Str} {ix k : Nat} {lpos kpos p1 pos : Pos} {ta tb : TE} {lt : R2} (hK : X.K = K)
    (hr : Room (k + 2) X.A) (hgl : Gl X "min") (hm : X.mg "min" = none) (TB : GxR.TabB X.base X.mg c P) (hcode : X.env.code = .ref c) (hq : X.env.qual ++ "<lambda>" = q) (L : LamOk X.N X.env.scope scope x ix) (hN : X.N.Nodup)
    (hlt : ∀ σ, LtR X σ lt) (ha : PA X [e] (tCons ta tNil)) (hbody : ∀ (s : Shared) (H : Hp) (f c' : Addr), PE (lamX X X.A.in1 s H scope f c') body tb)
    (hdef : defaultsOf params X.env = ([], []) := by rfl)
    (hbind : ∀ (qn : Str) (cl : List (Str × Addr)) (pm cv ctv u : Value), bindArgs (PySem.W.kla_fn "<lambda>" qn params body scope cl pm cv ctv) ⟨[u], []⟩ = pure [(x, u)] := by intros; rfl)
    (he : backTo pos (starEach [e] X.env) = (false, eval e X.env) :: backTo pos (starEach [] X.env) := by rfl) (hpl : (backTo pos (starEach [e] X.env)).any (·.1) = false := by rfl) :
    PE X (.Call (.Name "min" p1) [e] [⟨some (Str.ofString "key"), .Lambda params body scope lpos, kpos⟩] pos) (tMinK (SqT K) P q ix ta tb lt) := by
  subst hK
  exact pe_minK (It := fun l h a i => h.IsTupleIter a l i) (fun _ _ _ _ => seqT) (fun T k h => sqT_keep T k h) hr hgl hm TB hcode hq L hN hlt ha hbody hdef hbind he hpl
end
/-! ### tables of lambdas beside those of generator expressions -/
/-- all but the tables stays; the tables of Ts and the lambda's at P are tables -/
structure AftL (Ts : List Addr) (P : Addr) (q : Str) (H H' : Hp) : Prop where
  kp : Keep (P :: Ts) H H'
  tb : Tabs Ts H'
  tl : LamX.TabS H' P q
section
variable {Ts : List Addr} {P : Addr} {q : Str} {H H1 H2 : Hp}
theorem AftL.trans (a : AftL Ts P q H H1) (b : AftL Ts P q H1 H2) : AftL Ts P q H H2 := ⟨a.kp.trans b.kp, b.tb, b.tl⟩
theorem AftL.refl (t : Tabs Ts H) (l : LamX.TabS H P q) : AftL Ts P q H H := ⟨Keep.refl, t, l⟩
theorem tabS_keep {X : List Addr} (l : LamX.TabS H P q) (k : Keep X H H1) (hP : P ∉ X) (hX : ∀ b ∈ X, (∃ ps, H b = some (.tbl ps)) ∨ H b = none ∨ ∃ xs, H b = some (.lst xs)) : LamX.TabS H1 P q := by
  obtain ⟨ps, h1, h2, h3⟩ := l
  refine ⟨ps, k _ _ h1 hP, h2, fun pos cv hc => ?_⟩
  obtain ⟨c, e1, e2⟩ := h3 pos cv hc
  refine ⟨c, e1, k _ _ e2 fun hc => ?_⟩
  rcases hX c hc with ⟨ps', z⟩ | z | ⟨xs, z⟩
  · rw [e2] at z
    exact LamX.codeO_ne ps' (Option.some.inj z)
  · rw [e2] at z
    cases z
  · rw [e2] at z
    unfold LamX.CodeO at z
    cases z
theorem AftL.of (a : Aft Ts H H1) (t : Tabs Ts H) (l : LamX.TabS H P q) (hP : P ∉ Ts) : AftL Ts P q H H1 :=
  ⟨a.kp.mono fun b hb => List.mem_cons_of_mem _ hb, a.tb, tabS_keep l a.kp hP fun b hb => .inl (by obtain ⟨ps, h, _⟩ := t b hb; exact ⟨ps, h⟩)⟩
theorem AftL.lam (k : ∀ b o, b ≠ P → H b = some o → H1 b = some o) (t : Tabs Ts H) (l : LamX.TabS H1 P q) (hP : P ∉ Ts) : AftL Ts P q H H1 :=
  ⟨fun b o e n => k b o (fun z => n (by rw [z]; exact List.mem_cons_self)) e, fun b hb => by
    obtain ⟨ps, h, r⟩ := t b hb
    exact ⟨ps, k _ _ (fun z => hP (by rw [← z]; exact hb)) h, r⟩, l⟩
theorem AftL.same (s : Same H H1) (t : Tabs Ts H) (l : LamX.TabS H P q) : AftL Ts P q H H1 :=
  ⟨fun b o e _ => s b o e, fun b hb => by
    obtain ⟨ps, h, r⟩ := t b hb
    exact ⟨ps, s _ _ h, r⟩, l.ext fun b o e => s b o e⟩
theorem AftL.at_ (a : AftL Ts P q H H1) (t : Tabs Ts H) (l : LamX.TabS H P q) {b : Addr} {o : HO} (e : H b = some o) (hn : ∀ ps, o ≠ .tbl ps) : H1 b = some o := a.kp b o e fun z => by
  rcases List.mem_cons.mp z with z | z
  · obtain ⟨ps, h, _⟩ := l
    rw [← z, e] at h
    exact hn ps (Option.some.inj h)
  · exact t.nott e hn z
theorem AftL.tup (a : AftL Ts P q H H1) (t : Tabs Ts H) (l : LamX.TabS H P q) {b : Addr} {xs : List V} (e : H b = some (.tup xs)) : H1 b = some (.tup xs) := a.at_ t l e fun _ z => by cases z
theorem AftL.lst (a : AftL Ts P q H H1) (t : Tabs Ts H) (l : LamX.TabS H P q) {b : Addr} {xs : List V} (e : H b = some (.lst xs)) : H1 b = some (.lst xs) := a.at_ t l e fun _ z => by cases z
end
end GX
set_option Elab.async false
set_option linter.all false
set_option maxRecDepth 100000
set_option maxHeartbeats 4000000
/-! Needs: gates and the depths they have to keep, as dicts. -/
namespace GX
open PySem PySem.Spec PyProof.Rows L2
abbrev Nd := List (Nat × Int)
def kvI (ns : Nd) : List (L2.Key × V) := ns.map fun e => (nK e.1, V.int e.2)
def ndGet : Nd → Nat → Option Int
  | [], _ => none
  | e :: r, w => if e.1 = w then some e.2 else ndGet r w
def ndPut : Nd → Nat → Int → Nd
  | [], w, d => [(w, d)]
  | e :: r, w, d => if e.1 = w then (e.1, d) :: r else e :: ndPut r w d
def NdOk (ns : Nd) : Prop := (ns.map (·.1)).Nodup
theorem kvI_len (ns : Nd) : (kvI ns).length = ns.length := List.length_map _
theorem kvI_val : ∀ (ns : Nd) (w : Nat), valV (kvI ns) (nK w) = (ndGet ns w).map V.int
  | [], _ => rfl
  | e :: r, w => by
    unfold ndGet
    by_cases h : e.1 = w
    · rw [if_pos h]
      exact valV_pos (p := (nK e.1, V.int e.2)) (r := kvI r) (by rw [h])
    · rw [if_neg h, ← kvI_val r w]
      exact valV_neg (p := (nK e.1, V.int e.2)) (r := kvI r) fun z => h (nK_inj z)
theorem ndPut_keys : ∀ (ns : Nd) (w : Nat) (d : Int), (ndPut ns w d).map (·.1) = if w ∈ ns.map (·.1) then ns.map (·.1) else ns.map (·.1) ++ [w]
  | [], w, d => by rw [if_neg (by simp)]; rfl
  | e :: r, w, d => by
    unfold ndPut
    by_cases h : e.1 = w
    · rw [if_pos h, if_pos (by rw [← h]; exact List.mem_cons_self)]
      rfl
    · rw [if_neg h]
      show e.1 :: (ndPut r w d).map (·.1) = _
      rw [ndPut_keys r w d]
      show _ = if w ∈ e.1 :: r.map (·.1) then e.1 :: r.map (·.1) else e.1 :: r.map (·.1) ++ [w]
      by_cases h2 : w ∈ r.map (·.1)
      · rw [if_pos h2, if_pos (List.mem_cons_of_mem _ h2)]
      · rw [if_neg h2, if_neg fun z => by
          rcases List.mem_cons.mp z with z | z
          · exact h z.symm
          · exact h2 z]
        rfl
theorem NdOk.put {ns : Nd} (h : NdOk ns) (w : Nat) (d : Int) : NdOk (ndPut ns w d) := by
  unfold NdOk
  rw [ndPut_keys]
  split
  · exact h
  · rename_i hw
    refine List.nodup_append.mpr ⟨h, List.nodup_cons.mpr ⟨by simp, List.nodup_nil⟩, fun a ha b hb e => ?_⟩
    rw [List.mem_singleton.mp hb] at e
    exact hw (e ▸ ha)
theorem ndGet_put : ∀ (ns : Nd) (w : Nat) (d : Int) (x : Nat), ndGet (ndPut ns w d) x = if x = w then some d else ndGet ns x
  | [], w, d, x => by
    unfold ndPut
    show (if w = x then some d else none) = _
    by_cases h : x = w
    · rw [if_pos h, if_pos h.symm]
    · rw [if_neg h, if_neg fun z => h z.symm]
      rfl
  | e :: r, w, d, x => by
    unfold ndPut
    by_cases h : e.1 = w
    · rw [if_pos h]
      show (if e.1 = x then some d else ndGet r x) = if x = w then some d else if e.1 = x then some e.2 else ndGet r x
      by_cases hx : x = w
      · rw [if_pos hx, if_pos (h.trans hx.symm)]
      · rw [if_neg hx, if_neg (fun z => hx (z.symm.trans h)), if_neg (fun z => hx (z.symm.trans h))]
    · rw [if_neg h]
      show (if e.1 = x then some e.2 else ndGet (ndPut r w d) x) = if x = w then some d else if e.1 = x then some e.2 else ndGet r x
      rw [ndGet_put r w d x]
      by_cases hx : e.1 = x
      · rw [if_pos hx, if_pos hx, if_neg fun z => h (hx.trans z)]
      · rw [if_neg hx, if_neg hx]
theorem kvI_put {ns : Nd} (ok : NdOk ns) (w : Nat) (d : Int) : putK (kvI ns) (nK w) (.int d) = kvI (ndPut ns w d) := by
  induction ns with
  | nil => rfl
  | cons e r ih =>
    have okr : NdOk r := (List.nodup_cons.mp ok).2
    have hn : e.1 ∉ r.map (·.1) := (List.nodup_cons.mp ok).1
    have ih := ih okr
    unfold putK at ih ⊢
    unfold ndPut
    by_cases h : e.1 = w
    · rw [if_pos h, if_pos]
      · show (if nK e.1 = nK w then (nK e.1, V.int d) else (nK e.1, V.int e.2)) :: _ = (nK e.1, V.int d) :: kvI r
        rw [if_pos (show nK e.1 = nK w by rw [h])]
        congr 1
        refine (List.map_congr_left fun kv hkv => ?_).trans (List.map_id _)
        rw [if_neg fun z => ?_]
        · rfl
        · obtain ⟨x, hx, rfl⟩ := List.mem_map.mp hkv
          rw [h, ← nK_inj (show nK x.1 = nK w from z)] at hn
          exact hn (List.mem_map.mpr ⟨x, hx, rfl⟩)
      · show (decide (nK e.1 = nK w) || _) = true
        rw [decide_eq_true (by rw [h])]
        rfl
    · rw [if_neg h]
      have hk : ¬ nK e.1 = nK w := fun z => h (nK_inj z)
      have ha : ((kvI (e :: r)).any fun kv => decide (kv.1 = nK w)) = (kvI r).any fun kv => decide (kv.1 = nK w) := by
        show (decide (nK e.1 = nK w) || _) = _
        rw [decide_eq_false hk]
        rfl
      rw [ha]
      show (if _ then (if nK e.1 = nK w then _ else (nK e.1, V.int e.2)) :: List.map _ (kvI r) else (nK e.1, V.int e.2) :: kvI r ++ _) = (nK e.1, V.int e.2) :: kvI (ndPut r w d)
      rw [if_neg hk, ← ih]
      split <;> rfl
/-- merged one by one -/
theorem kvI_merge : ∀ {more ns : Nd}, NdOk ns → mergeK (kvI ns) (kvI more) = kvI (more.foldl (fun acc e => ndPut acc e.1 e.2) ns)
  | [], _, _ => rfl
  | e :: r, ns, ok => by
    show mergeK (putK (kvI ns) (nK e.1) (V.int e.2)) (kvI r) = _
    rw [kvI_put ok]
    exact kvI_merge (ok.put _ _)
end GX
set_option Elab.async false
set_option linter.all false
set_option maxRecDepth 100000
set_option maxHeartbeats 4000000
/-! `<` of tuples of two ints and a tuple of ints. -/
namespace GX
open PySem PySem.Spec PyProof.Rows L2 PySem.SeqAt
section
variable {A : Around} {s : Shared}
/-- two tuples of ints are equal -/
theorem eqAt_ints {l b : Addr} {its its2 : List Value} {ns ms : List Int} (hl : s.heap.IsTuple l its.toArray) (hb : s.heap.IsTuple b its2.toArray) (hi : IntsAre its ns) (hj : IntsAre its2 ms) (hu : A.units < cLine) : EqAt A s (.ref l) (.ref b) (decide (ns = ms)) := by
  by_cases hlb : l = b
  · subst hlb
    obtain ⟨o, e, _, n, d⟩ := hl
    obtain ⟨o', e', _, n', d'⟩ := hb
    rw [e] at e'
    cases e'
    rw [d] at d'
    obtain ⟨h1, _⟩ : its.toArray = its2.toArray ∧ True := ⟨by injection d', trivial⟩
    have h2 : its = its2 := by simpa using h1
    subst h2
    have : ns = ms := by
      have : ∀ {us : List Value} {xs ys : List Int}, IntsAre us xs → IntsAre us ys → xs = ys := by
        intro us
        induction us with
        | nil => intro xs ys h1 h2; cases h1; cases h2; rfl
        | cons u us ih =>
          intro xs ys h1 h2
          cases h1 with | cons _ _ h1 =>
          cases h2 with | cons _ _ h2 => rw [ih h1 h2]
      exact this hi hj
    rw [decide_eq_true this]
    exact EqAt.same _
  · have h := RcAt.tuples (A := A) (e := fun j => ns.getD j 0 == ms.getD j 0) hl hb hu (fun j h1 h2 => ?_)
    · have l1 := hi.length
      have l2 := hj.length
      have e : ((List.range (min its.toArray.size its2.toArray.size)).all (fun j => ns.getD j 0 == ms.getD j 0) && its.toArray.size == its2.toArray.size) = decide (ns = ms) := by
        rw [List.size_toArray, List.size_toArray, Bool.eq_iff_iff, Bool.and_eq_true, List.all_eq_true, beq_iff_eq, decide_eq_true_iff]
        constructor
        · rintro ⟨h1, h2⟩
          refine List.ext_getElem (by omega) fun i a b => ?_
          have := h1 i (List.mem_range.mpr (by omega))
          rw [beq_iff_eq] at this
          simpa [a, b] using this
        · rintro rfl
          exact ⟨fun j _ => by simp, by omega⟩
      rw [← e]
      exact EqAt.of_refs hlb h
    · have h1' : j < its.length := by simpa using h1
      have h2' : j < its2.length := by simpa using h2
      have l1 := hi.length
      have l2 := hj.length
      obtain ⟨t, ht⟩ := hi.get j (ns.getD j 0) (by rw [List.getD_eq_getElem?_getD, List.getElem?_eq_getElem (by omega : j < ns.length)]; rfl)
      obtain ⟨u, hu2⟩ := hj.get j (ms.getD j 0) (by rw [List.getD_eq_getElem?_getD, List.getElem?_eq_getElem (by omega : j < ms.length)]; rfl)
      have e1 : its.toArray[j] = .int (ns.getD j 0) t := by
        rw [List.getElem_toArray]
        rw [List.getElem?_eq_getElem h1'] at ht
        exact Option.some.inj ht
      have e2 : its2.toArray[j] = .int (ms.getD j 0) u := by
        rw [List.getElem_toArray]
        rw [List.getElem?_eq_getElem h2'] at hu2
        exact Option.some.inj hu2
      rw [e1, e2]
      exact EqAt.int_int _ _ _ _
end
/-- a key: two ints and a tuple of ints, told as one list -/
def KeyAt (K : PySem.W.Frag) (H : Hp) (v : V) (ks : List Int) : Prop := ∃ (a c : Addr) (d l : Int) (ns : List Int), v = .ref a ∧ ks = d :: l :: ns ∧ SqT K H a [.int d, .int l, .ref c] ∧ SqT K H c (ns.map V.int)
theorem sqT_same {K : PySem.W.Frag} {H H' : Hp} {a : Addr} {xs : List V} (s : Same H H') (h : SqT K H a xs) : SqT K H' a xs := by
  rcases h with (h | ⟨o, h⟩) | h
  · exact .inl (.inl (s _ _ h))
  · exact .inl (.inr ⟨o, s _ _ h⟩)
  · exact .inr h
theorem KeyAt.same {K : PySem.W.Frag} {H H' : Hp} {v : V} {ks : List Int} (s : Same H H') (h : KeyAt K H v ks) : KeyAt K H' v ks := by
  obtain ⟨ka, kc, d, l, ns, e1, e2, a1, a2⟩ := h
  exact ⟨ka, kc, d, l, ns, e1, e2, sqT_same s a1, sqT_same s a2⟩
def rLtK3 (K : PySem.W.Frag) : R2 := fun x y H Q => ∃ k1 k2, KeyAt K H x k1 ∧ KeyAt K H y k2 ∧ Q (.bl (HT.lexLt k1 k2)) H
theorem op_ltK3 {X : Cx} {K : PySem.W.Frag} (hu : X.A.units + 4 < cLine) (h : X.K = K := by rfl) : OpR X (compareOp .Lt) (rLtK3 K) := by
  subst h
  intro pins s σ H x y v u Q I rx ry h
  obtain ⟨_, _, ⟨a, c, d, l, ns, rfl, rfl, ha, hc⟩, ⟨a2, c2, d2, l2, ms, rfl, rfl, ha2, hc2⟩, q⟩ := h
  cases rx
  cases ry
  obtain ⟨ia, ra, pa, _⟩ := I.tuple ha
  obtain ⟨ia2, ra2, pa2, _⟩ := I.tuple ha2
  obtain ⟨ic, rc, pc, _⟩ := I.tuple hc
  obtain ⟨ic2, rc2, pc2, _⟩ := I.tuple hc2
  have jc : IntsAre ic ns := intsAre_of rc
  have jc2 : IntsAre ic2 ms := intsAre_of rc2
  obtain ⟨u1, w1, rfl, r1, rw1⟩ : ∃ u w, ia = u :: w ∧ RelV (.int d) u ∧ Vals [.int l, .ref c] w := by cases ra with | cons h1 h2 => exact ⟨_, _, rfl, h1, h2⟩
  obtain ⟨u2, u3, rfl, r2, r3⟩ := vals2 rw1
  obtain ⟨v1, w2, rfl, q1, rw2⟩ : ∃ u w, ia2 = u :: w ∧ RelV (.int d2) u ∧ Vals [.int l2, .ref c2] w := by cases ra2 with | cons h1 h2 => exact ⟨_, _, rfl, h1, h2⟩
  obtain ⟨v2, v3, rfl, q2, q3⟩ := vals2 rw2
  obtain ⟨t1, rfl⟩ := r1
  obtain ⟨t2, rfl⟩ := r2
  cases r3
  obtain ⟨t3, rfl⟩ := q1
  obtain ⟨t4, rfl⟩ := q2
  cases q3
  have hu1 : X.A.in1.units < cLine := by show X.A.units + 1 < _; omega
  have R : Ob.RcOp .Lt X.A s (.ref a) (.ref a2) (HT.lexLt (d :: l :: ns) (d2 :: l2 :: ms)) := by
    have h := Ob.RcOp.tuples_lt (A := X.A) (s := s) (e := fun j => match j with | 0 => decide (d = d2) | 1 => decide (l = l2) | _ => decide (ns = ms)) (r := fun j => match j with | 0 => decide (d < d2) | 1 => decide (l < l2) | _ => HT.lexLt ns ms) pa pa2 (by omega) (fun j h1 h2 => ?_) (fun j h1 h2 he => ?_)
    · have e : Ob.lexAt (fun j => match j with | 0 => decide (d = d2) | 1 => decide (l = l2) | _ => decide (ns = ms)) (fun j => match j with | 0 => decide (d < d2) | 1 => decide (l < l2) | _ => HT.lexLt ns ms) (decide ([Value.int d t1, .int l t2, .ref c].toArray.size < [Value.int d2 t3, .int l2 t4, .ref c2].toArray.size)) 0 (min [Value.int d t1, .int l t2, .ref c].toArray.size [Value.int d2 t3, .int l2 t4, .ref c2].toArray.size) = HT.lexLt (d :: l :: ns) (d2 :: l2 :: ms) := by
        show Ob.lexAt _ _ false 0 3 = _
        rw [Ob.lexAt_succ, Ob.lexAt_succ, Ob.lexAt_succ, Ob.lexAt_zero]
        rw [HT.lexLt_cons, HT.lexLt_cons]
        simp only [decide_eq_true_eq]
        split
        · split
          · split
            · rename_i h3
              subst h3
              have lexSelf : ∀ xs : List Int, HT.lexLt xs xs = false := fun xs => by
                induction xs with
                | nil => rfl
                | cons x xs ih => rw [HT.lexLt_cons, if_pos rfl, ih]
              exact (lexSelf _).symm
            · rfl
          · rfl
        · rfl
      rw [e] at h
      exact h
    · match j, h1, h2 with
      | 0, _, _ => exact (show (d == d2) = decide (d = d2) by rw [Bool.eq_iff_iff]; simp) ▸ EqAt.int_int d t1 d2 t3
      | 1, _, _ => exact (show (l == l2) = decide (l = l2) by rw [Bool.eq_iff_iff]; simp) ▸ EqAt.int_int l t2 l2 t4
      | 2, _, _ => exact eqAt_ints pc pc2 jc jc2 hu1
    · match j, h1, h2 with
      | 0, _, _ => exact Ob.RcOp.lt_int d d2 t1 t3
      | 1, _, _ => exact Ob.RcOp.lt_int l l2 t2 t4
      | 2, _, _ => exact fun prog w E Q h => HT.lt_tupInts pc pc2 (by simpa using jc) (by simpa using jc2) hu1 h
  exact R X.prog X.w _ _ ⟨.bl (HT.lexLt (d :: l :: ns) (d2 :: l2 :: ms)), H, I, rfl, q⟩
end GX
set_option Elab.async false
set_option linter.all false
/-! A statement by what stands behind it. -/
namespace GX
open PySem PySem.Spec PyProof.Rows L2
end GX
set_option Elab.async false
set_option linter.all false
set_option maxRecDepth 100000
set_option maxHeartbeats 4000000
/-! All rising rows; what tells by what is held. -/
namespace GX
open PySem PySem.Spec PyProof.Rows L2
end GX
set_option Elab.async false
set_option linter.all false
set_option maxRecDepth 100000
set_option maxHeartbeats 4000000
/-! x = {k: v for ..}: a dict comprehension given to a name. -/
namespace GX
open PySem PySem.Spec PyProof.Rows L2
section
variable {X : Cx}
theorem sw_trueD {kx vx : Expr} {cs : List Comprehension} {sc : Scope} {p py : Pos} {y : Str} {l : Nat} {env : Env} (hk : env.scope.kind = .function) (hy : env.scope.names.lookup y = some .local) (hl : (py.line == p.line) = true)
    (ha : (sc.names.any fun (n, k) => n == y && (k == .local || k == .cell)) = false) : swapsWith (.DictComp kx vx cs sc p) (some (.Name y py)) l env = pure true := by
  have k1 : env.kindOf y = some .local := hy
  have k2 : env.blockKind = .function := by unfold Env.blockKind; rw [hk]; rfl
  unfold swapsWith
  simp only [k2, k1, ha, Expr.pos, hl]
  rfl
theorem ps_setDc {i : Nat} {y : Str} {py : Pos} {kx vx tg it : Expr} {ifs : List Expr} {sc : Scope} {own : List (Str × Nat)} {p sp : Pos} {wi : TI} {g : TG} {tt : TT} {tk tv : TE} (hc : X.calm = true) (hN : X.N.Nodup) (hy : X.N[i]? = some y) (hyl : X.env.scope.names.lookup y = some .local)
    (sw : swapsWith (.DictComp kx vx [⟨tg, it, ifs, 0⟩] sc p) (some (.Name y py)) sp.line X.env = pure true) (hi : PI X tg it wi) (ok : BlkOk X.N X.env.scope sc own)
    (hg : ∀ (s : Shared) (H : Hp) (C : Addr) (cl : List (Str × Addr)) (fp : List Addr), PG (X.blk s H sc (compEnvC sc cl C X.env) fp) tg g) (ht : ∀ (s : Shared) (H : Hp) (C : Addr) (cl : List (Str × Addr)) (fp : List Addr), PTs (X.blk s H sc (compEnvC sc cl C X.env) fp) ifs tt)
    (hk : ∀ (s : Shared) (H : Hp) (C : Addr) (cl : List (Str × Addr)) (fp : List Addr), PE (X.blk s H sc (compEnvC sc cl C X.env) fp) kx tk)
    (he : ∀ (s : Shared) (H : Hp) (C : Addr) (cl : List (Str × Addr)) (fp : List Addr), PE (X.blk s H sc (compEnvC sc cl C X.env) fp) vx tv) (hs : ∀ x, foldedSetIterable it X.env x = pure x := by intro _; rfl) :
    PS X (.Assign [.Name y py] (.DictComp kx vx [⟨tg, it, ifs, 0⟩] sc p) sp) (tAsg (tDc wi g tt tk tv (own.map (·.2))) (gName i)) := by
  refine ⟨fun pins s σ H D I hh => ?_⟩
  rw [exec_Assign_Name_used _ _ _ _ sw]
  refine wpAny_bind (wpAny_standAt (wpAny_bind ?_))
  show wpAny _ X.A (do let _ ← comprehension (.DictComp kx vx [⟨tg, it, ifs, 0⟩] sc p) sc X.env (firstIterPos [⟨tg, it, ifs, 0⟩] p) newDict false (eval it X.env) (some (assign (.Name y py) X.env))) _ _ s
  have hh : tDc wi g tt tk tv (own.map (·.2)) σ H (fun x H1 => gName i x σ H1 D.nx) := hh
  refine wpAny_bind (thn (dc_core (Qf := fun _ t => SP X pins D .next t) hc hN I hi ok hg ht hk he hs hh fun L C t m H' I' q hn f => ?_) fun _ t hq => wpAny_pure (wpAny_pure hq))
  show wpAny _ _ (assign (.Name y py) X.env (.ref L)) _ _ _
  refine wpAny_assign_Name (store_ok2 (v := V.ref L) I' hN hy (.inl hyl) rfl (fun t2 I2 ⟨a, sb, ha⟩ => ?_) (.inr hyl))
  obtain ⟨f0, f1, f2, f3, f4, f5⟩ := f
  have nC : C ≠ a := by
    rcases ha with z | z
    · rw [z]; exact f1
    · exact fun e => f4 y a z e.symm
  refine ⟨m, hn.sameBut sb nC, fun h3 sb3 => ⟨_, H', I2.turned (t' := t2.toks) (fun b o hb e => (sb3.2 b hb).trans e) f0 f1 f3 f4 f5, q⟩⟩
end
end GX
set_option Elab.async false
set_option linter.all false
set_option maxRecDepth 100000
set_option maxHeartbeats 4000000
/-! sorted(d.items()), d a dict of whole numbers and tuples of whole numbers. -/
namespace GX
open PySem PySem.Spec PyProof.Rows L2 Srt
open SrtO (Cmp SortableO lt2 Srtd Stb)
open L2.DX (itemsO itemsO_ok takeT pget)
def rItemsK : V → List V → Hp → VK → Prop := fun x xs H Q => ∃ (a : Addr) (kvs : List (L2.Key × V)), x = .ref a ∧ xs = [] ∧ H a = some (.dK kvs) ∧ ∀ p, H p = none → Q (.ref p) (upd H p (itemsO p a))
theorem mt_itemsK {X : Cx} : MtR X "dict.items" rItemsK := by
  intro pins s σ H x xs v us Q I rx rxs h
  obtain ⟨a, kvs, rfl, rfl, ha, q⟩ := h
  cases rx
  cases rxs
  obtain ⟨z, hd, vs, kv, o, es, ep, ho, hx, hdat, _⟩ := I.hok a _ ha
  refine DT.callItems (es := es) (ep := ep) hd ⟨o, ho, hx, hdat⟩ ?_
  have hf : H s.heap.objs.size = none := I.hok.fresh (Nat.le_refl _)
  exact ⟨.ref s.heap.objs.size, upd H s.heap.objs.size (itemsO s.heap.objs.size a), I.laid (t' := s.toks) (fun b u e => Heap.get?_push_of_some _ e) (Nat.le_refl _) (itemsO_ok (Heap.get?_push_size _ rfl)), rfl, q _ hf⟩
theorem ints_uniq : ∀ {xs : List Value} {ns ms : List Int}, IntsAre xs ns → IntsAre xs ms → ns = ms
  | _, _, _, .nil, .nil => rfl
  | _, _, _, .cons n t r, .cons _ _ r' => by rw [ints_uniq r r']
theorem pairP_uniq {h : Heap} {v : Value} {ns ms : List Int} (x : PairP h v ns) (y : PairP h v ms) : ns = ms := by
  obtain ⟨a, b, n, t, ks, e, en, ⟨o, ho, hc, z, hd⟩, c, xs, ec, ⟨o2, ho2, hc2, z2, hd2⟩, ib⟩ := x
  obtain ⟨a', b', n', t', ks', e', en', ⟨o', ho', hc', z', hd'⟩, c', xs', ec', ⟨o2', ho2', hc2', z2', hd2'⟩, ib'⟩ := y
  rw [e] at e'
  cases e'
  rw [ho] at ho'
  cases ho'
  rw [hd] at hd'
  cases hd'
  cases ec
  cases ec'
  rw [ho2] at ho2'
  cases ho2'
  rw [hd2] at hd2'
  cases hd2'
  rw [en, en', ints_uniq ib ib']
theorem pairs_at {K : Type} [DecidableEq K] {prog : Program} {w : World} {knd : KeyKind prog w K} : ∀ {es : List DictEntry} {kvs : List (K × Value)}, Pairs knd es kvs → ∀ {j : Nat} {e : DictEntry}, es[j]? = some e → ∃ kv, kvs[j]? = some kv ∧ knd.is kv.1 e.key = true ∧ e.val = kv.2
  | _, _, .nil, j, e, h => by simp at h
  | _, _, .cons h1 h2 r, 0, e, h => by
    cases h
    exact ⟨_, rfl, h1, h2⟩
  | _, _, .cons h1 h2 r, j + 1, e, h => pairs_at r h
/-- sorted(d.items()) -/
def rSortItZ : List V → Hp → VK → Prop := fun vs H Q => ∃ (p a : Addr) (zs : List (Nat × Addr)), vs = [.ref p] ∧ H p = some (itemsO p a) ∧ H a = some (.dK (zs.map fun z => (nK z.1, V.ref z.2))) ∧ zs.length < 64 ∧ (zs.map (·.1)).Nodup ∧
  (∀ z ∈ zs, ∃ c : List Nat, H z.2 = some (.tup (c.map nV))) ∧
  ∀ (H' : Hp) (l : Addr) (ps : List (Addr × Nat × Addr)), (∀ b o, H b = some o → H' b = some o) → (ps.map (·.2)).Perm zs → (ps.map (·.2)).Pairwise (fun e f => e.1 < f.1) → H' l = some (.lst (ps.map fun z => V.ref z.1)) → (∀ z ∈ ps, H' z.1 = some (.tup [nV z.2.1, .ref z.2.2])) → Q (.ref l) H'
theorem cr_sortItZ {X : Cx} (hc : X.calm = true) (hu : X.A.units + 2 < cLine) : CallR X (.builtin "sorted") rSortItZ := by
  intro pins s σ H xs us Q I r h
  obtain ⟨p, a, ks, rfl, hp, ha, h64, knd', hv, q⟩ := h
  obtain rfl := Vals.ref1 r
  have view : s.heap.IsItemsView p a := (show ObjOk X.prog X.w H s.heap p (itemsO p a) from I.hok p _ hp).1
  obtain ⟨z, hd, vs, kv, o, es, ep, ho, hx, hdat, _, prs, _⟩ := I.hok a _ ha
  have l1 : (ks.map fun z => (nK z.1, V.ref z.2)).length = vs.length := Paired.length kv
  rw [List.length_map] at l1
  have l2 : es.size = vs.length := prs.length
  have hh : X.A.handled = none := I.ok.hd hc
  refine DT.sortedI (es := es) (ep := ep) hh view ⟨o, ho, hx, hdat⟩ (by rw [sizeLine_eq]; omega) fun h' tk as hk hlt hl hG => ?_
  have lak : as.length = ks.length := by omega
  have nd : as.Nodup := List.Pairwise.imp (fun h => Nat.ne_of_lt h) hG.rise
  -- the pairs that were made
  have pr : ∀ (j : Nat) (b : Addr), as[j]? = some b → ∃ (e : Nat × Addr) (t : Tok), ks[j]? = some e ∧ h'.get? b = some { cls := .type "tuple", data := .seq #[Value.int (e.1 : Int) t, Value.ref e.2] } := by
    intro j b hj
    obtain ⟨en, he, hg⟩ := hG.pairs j b hj
    have he' : es.toList[j]? = some en := by rw [← he]; exact Array.getElem?_toList
    obtain ⟨kv1, g1, g2, g3⟩ := pairs_at prs he'
    obtain ⟨kv0, f1, f2, f3⟩ := pget kv g1
    rw [List.getElem?_map] at f1
    cases hkj : ks[j]? with
    | none => rw [hkj] at f1; cases f1
    | some e =>
      rw [hkj] at f1
      cases f1
      have rk : RelV (kV (nK e.1)) en.key := by
        rw [show kv1.1 = nK e.1 from f2.symm] at g2
        exact relV_key (show keyIs (nK e.1) en.key = true from g2)
      obtain ⟨t, ht⟩ := (show ∃ t, en.key = Value.int (e.1 : Int) t from rk)
      refine ⟨e, t, rfl, ?_⟩
      rw [hg, ht, g3, show kv1.2 = Value.ref e.2 from f3]
  -- the heap of the sort
  have hob : (h'.push { cls := .type "list", data := .seq (as.map Value.ref).toArray }).get? h'.objs.size = some (seqObj "list" (as.map Value.ref).toArray 0) := Heap.get?_push_size _ rfl
  have kb : ∀ b o, s.heap.get? b = some o → (h'.push { cls := .type "list", data := .seq (as.map Value.ref).toArray }).get? b = some o := fun b o e => Heap.get?_push_of_some _ (hk b o e)
  have ne0 : ∀ b o, h'.get? b = some o → b ≠ h'.objs.size := fun b o e => Nat.ne_of_lt (Heap.lt_size e)
  generalize hh2 : h'.push { cls := .type "list", data := .seq (as.map Value.ref).toArray } = h2 at hob kb ⊢
  have ka : ∀ b o, h'.get? b = some o → h2.get? b = some o := fun b o e => by rw [← hh2]; exact Heap.get?_push_of_some _ e
  have pin : ∀ (j : Nat) (b : Addr), as[j]? = some b → ∃ (e : Nat × Addr) (ns : List Int), ks[j]? = some e ∧ PairP h2 (.ref b) ((e.1 : Int) :: ns) := by
    intro j b hj
    obtain ⟨e, t, he, hg⟩ := pr j b hj
    obtain ⟨c, hcut⟩ := hv e (List.mem_of_getElem? he)
    refine ⟨e, c.map fun n : Nat => (n : Int), he, b, e.2, (e.1 : Int), t, _, rfl, rfl, ⟨_, ka _ _ hg, rfl, 0, rfl⟩, ?_⟩
    have : SqT X.K H e.2 ((c.map fun n : Nat => (n : Int)).map V.int) := by rw [mapV]; exact SqT.of hcut
    exact (tupI_raw I this).keeps fun b o e _ => kb b o e
  let kf : Value → List Int := fun v => open Classical in if h : ∃ ns, PairP h2 v ns then h.choose else []
  have kfp : ∀ v ∈ as.map Value.ref, PairP h2 v (kf v) := fun v hv' => by
    obtain ⟨b, hb, rfl⟩ := List.mem_map.mp hv'
    obtain ⟨j, hj⟩ := List.mem_iff_getElem?.mp hb
    obtain ⟨e, ns, _, hP⟩ := pin j b hj
    have hex : ∃ ns, PairP h2 (.ref b) ns := ⟨_, hP⟩
    have e : kf (.ref b) = hex.choose := dif_pos hex
    rw [e]
    exact hex.choose_spec
  have kfe : ∀ (j : Nat) (b : Addr) (e : Nat × Addr), as[j]? = some b → ks[j]? = some e → ∃ ns, kf (.ref b) = (e.1 : Int) :: ns := fun j b e hj he => by
    obtain ⟨e', ns, he', hP⟩ := pin j b hj
    rw [he] at he'
    cases he'
    exact ⟨ns, pairP_uniq (kfp _ (List.mem_map.mpr ⟨b, List.mem_of_getElem? hj, rfl⟩)) hP⟩
  refine wpAny_call_entry PyProof.Rows.slot_list_sort ⟨_, hob, rfl⟩ PyProof.Rows.entry_list_sort
    (SrtO.list_sort_ord (s := { s with heap := h2, toks := tk }) (NtL.swo_lexL kf) hob (by rw [List.length_map, sizeLine_eq]; omega) (fun hge => pairs_sortable (by show X.A.units + 1 + 1 < cLine; omega) (by omega) kfp fun o' e c => ?_) fun out hs hb => ⟨.none, rfl, ?_⟩) (PyProof.Rows.args_list_sort _)
  · have e' : some o' = some (seqObj "list" (as.map Value.ref).toArray 0) := e.symm.trans hob
    cases e'
    exact absurd (Value.type.inj c) (by decide)
  · show EP X pins σ Q (.ref h'.objs.size) { s with heap := sortedHeap h2 h'.objs.size (as.map Value.ref) out.toArray, toks := tk }
    obtain ⟨zs, pz, ez⟩ := perm_lift (fun z : Addr × Nat × Addr => Value.ref z.1) hb.perm (as.zip ks) (by
      have : (as.zip ks).map (fun z : Addr × Nat × Addr => Value.ref z.1) = ((as.zip ks).map (·.1)).map Value.ref := by rw [List.map_map]; rfl
      rw [this, List.map_fst_zip (by omega)])
    have idx : ∀ z ∈ zs, ∃ j : Nat, as[j]? = some z.1 ∧ ks[j]? = some z.2 := by
      intro z' hz'
      obtain ⟨j, hj⟩ := List.mem_iff_getElem?.mp (pz.mem_iff.mp hz')
      exact ⟨j, List.getElem?_zip_eq_some.mp hj⟩
    have hperm : (zs.map (·.2)).Perm ks := by
      have e := pz.map (·.2)
      have m2 : (as.zip ks).map (·.2) = ks := List.map_snd_zip (by rw [lak]; exact Nat.le_refl _)
      rw [m2] at e
      exact e
    have hsort : (zs.map (·.2)).Pairwise (fun e f => e.1 < f.1) := by
      have le : (zs.map (·.2)).Pairwise (fun e f => e.1 ≤ f.1) := by
        have hs' := hs
        rw [← ez] at hs'
        have hs' := List.pairwise_map.mp hs'
        rw [List.pairwise_map]
        refine List.Pairwise.imp_of_mem (fun {x y} hx hy h => ?_) hs'
        obtain ⟨j, j1, j2⟩ := idx x hx
        obtain ⟨i, i1, i2⟩ := idx y hy
        obtain ⟨n1, e1⟩ := kfe j _ _ j1 j2
        obtain ⟨n2, e2⟩ := kfe i _ _ i1 i2
        have h : HT.lexLt (kf (.ref y.1)) (kf (.ref x.1)) = false := h
        rw [e1, e2, HT.lexLt_cons] at h
        by_cases z : ((y.2.1 : Nat) : Int) = ((x.2.1 : Nat) : Int)
        · omega
        · rw [if_neg z] at h
          have := of_decide_eq_false h
          omega
      have nk : ((zs.map (·.2)).map (·.1)).Nodup := (hperm.map (·.1)).nodup_iff.mpr knd'
      have nk2 := List.pairwise_map.mp (List.nodup_iff_pairwise_ne.mp nk)
      exact (le.and nk2).imp fun {x y} h => Nat.lt_of_le_of_ne h.1 h.2
    -- behind the sort
    have kF : ∀ b o, b ≠ h'.objs.size → h2.get? b = some o → (sortedHeap h2 h'.objs.size (as.map Value.ref) out.toArray).get? b = some o := fun b o hb e => (PyProof.Rows.sortedHeap_old hb (Heap.lt_size e)).trans e
    have kS : ∀ b o, s.heap.get? b = some o → (sortedHeap h2 h'.objs.size (as.map Value.ref) out.toArray).get? b = some o := fun b o e => kF b o (ne0 _ _ (hk b o e)) (kb b o e)
    obtain ⟨eF, heF⟩ := PyProof.Rows.sortedHeap_at (vs := as.map Value.ref) (out := out.toArray) hob
    have I1 : Inv X pins σ H { s with heap := sortedHeap h2 h'.objs.size (as.map Value.ref) out.toArray, toks := tk } := I.kept (t' := tk) kS
    have hn0 : H h'.objs.size = none := I.hok.fresh (Nat.le_of_lt hlt)
    have hlen : (zs.map fun z => V.ref z.1).length ≤ sizeLine := by
      have e := hperm.length_eq
      rw [List.length_map] at e
      rw [List.length_map, sizeLine_eq]
      omega
    have rv : Vals (zs.map fun z => V.ref z.1) out := by
      rw [← ez]
      exact vals_maps (fun z : Addr × Nat × Addr => V.ref z.1) (fun z => Value.ref z.1) zs fun _ _ => rfl
    have I2 : Inv X pins σ (upd H h'.objs.size (.lst (zs.map fun z => V.ref z.1))) { s with heap := sortedHeap h2 h'.objs.size (as.map Value.ref) out.toArray, toks := tk } :=
      I1.take (h' := sortedHeap h2 h'.objs.size (as.map Value.ref) out.toArray) (t' := tk) (fun b ob _ e => e) (I.fpOk (Nat.le_of_lt hlt) hn0) ⟨hlen, out, eF, rv, heF⟩
    obtain ⟨H2, I3, g, qt⟩ := takeT (P := fun b vs => ∃ (j : Nat) (e : Nat × Addr), as[j]? = some b ∧ ks[j]? = some e ∧ vs = [nV e.1, .ref e.2]) I as _ I2 nd fun b hb => by
      obtain ⟨j, hj⟩ := List.mem_iff_getElem?.mp hb
      obtain ⟨e, t, he, hg⟩ := pr j b hj
      have hbl : s.heap.objs.size ≤ b := Nat.le_of_lt (hG.above b hb)
      refine ⟨hbl, ?_, [nV e.1, .ref e.2], ⟨j, e, hj, he, rfl⟩, fun H3 => ⟨(by rw [sizeLine_eq]; show 2 ≤ 16777216; omega), [Value.int (e.1 : Int) t, Value.ref e.2], .cons ⟨t, rfl⟩ (.cons rfl .nil), ⟨_, kF _ _ (ne0 _ _ hg) (ka _ _ hg), rfl, 0, rfl⟩⟩⟩
      rw [upd_ne (ne0 _ _ hg)]
      exact I.hok.fresh hbl
    have gr : ∀ b o, H b = some o → H2 b = some o := fun b o e => g b o (by rw [upd_ne (ne_of_none e hn0)]; exact e)
    refine ⟨.ref h'.objs.size, H2, I3, rfl, q H2 h'.objs.size zs gr hperm hsort (g _ _ upd_same) fun z' hz' => ?_⟩
    obtain ⟨i, i1, i2⟩ := idx z' hz'
    obtain ⟨vs, ⟨j, e, j1, j2, ev⟩, hH⟩ := qt z'.1 (List.mem_of_getElem? i1)
    have eij : i = j := (List.getElem?_inj (List.getElem?_eq_some_iff.mp i1).1 nd).mp (i1.trans j1.symm)
    subst eij
    have ee : e = z'.2 := Option.some.inj (j2.symm.trans i2)
    rw [ev, ee] at hH
    exact hH
end GX
set_option Elab.async false
set_option linter.all false
set_option maxRecDepth 100000
set_option maxHeartbeats 4000000
/-! Each wire has its least cuts, as a list in order. -/
namespace GX
open PySem PySem.Spec PyProof.Rows L2
theorem lex_cons (x y : Nat) (a b : List Nat) : lexN (x :: a) (y :: b) = if x = y then lexN a b else decide (x < y) := by
  show (if ((x : Nat) : Int) = ((y : Nat) : Int) then lexN a b else decide (((x : Nat) : Int) < ((y : Nat) : Int))) = _
  by_cases e : x = y
  · rw [if_pos (by omega), if_pos e]
  · rw [if_neg (by omega), if_neg e]
    by_cases h : x < y
    · rw [decide_eq_true h, decide_eq_true (by omega)]
    · rw [decide_eq_false h, decide_eq_false (by omega)]
theorem lex_anti : ∀ a b : List Nat, lexN a b = true → lexN b a = false
  | [], [], h => by cases h
  | [], y :: b, _ => rfl
  | x :: a, [], h => by cases h
  | x :: a, y :: b, h => by
    rw [lex_cons] at h ⊢
    by_cases e : x = y
    · rw [if_pos e] at h
      rw [if_pos e.symm]
      exact lex_anti a b h
    · rw [if_neg e] at h
      rw [if_neg fun z => e z.symm]
      have := of_decide_eq_true h
      exact decide_eq_false (by omega)
theorem lex_trans : ∀ a b c : List Nat, lexN b a = false → lexN c b = false → lexN c a = false
  | _, _, [], _, h => by
    rename_i a b _
    cases b with
    | nil => cases a with
      | nil => rfl
      | cons x a => rename_i h1; exact h1
    | cons y b => cases h
  | [], b, z :: c, _, _ => rfl
  | x :: a, [], z :: c, h, _ => by cases h
  | x :: a, y :: b, z :: c, h1, h2 => by
    rw [lex_cons] at h1 h2 ⊢
    by_cases e1 : y = x
    · rw [if_pos e1] at h1
      by_cases e2 : z = y
      · rw [if_pos e2] at h2
        rw [if_pos (e2.trans e1)]
        exact lex_trans a b c h1 h2
      · rw [if_neg e2] at h2
        rw [if_neg (by omega)]
        have := of_decide_eq_false h2
        exact decide_eq_false (by omega)
    · rw [if_neg e1] at h1
      have g1 := of_decide_eq_false h1
      by_cases e2 : z = y
      · rw [if_neg (by omega)]
        exact decide_eq_false (by omega)
      · rw [if_neg e2] at h2
        have := of_decide_eq_false h2
        rw [if_neg (by omega)]
        exact decide_eq_false (by omega)
/-- put in order -/
theorem lex_ins (c : List Nat) : ∀ l : List (List Nat), l.Pairwise (fun a b => lexN b a = false) → ∃ m : List (List Nat), m.Perm (c :: l) ∧ m.Pairwise fun a b => lexN b a = false
  | [], _ => ⟨[c], .refl _, List.pairwise_singleton _ _⟩
  | d :: l, h => by
    obtain ⟨h1, h2⟩ := List.pairwise_cons.mp h
    cases e : lexN d c with
    | false =>
      refine ⟨c :: d :: l, .refl _, List.pairwise_cons.mpr ⟨fun x hx => ?_, h⟩⟩
      rcases List.mem_cons.mp hx with hx | hx
      · rw [hx]; exact e
      · exact lex_trans c d x e (h1 x hx)
    | true =>
      obtain ⟨m, m1, m2⟩ := lex_ins c l h2
      refine ⟨d :: m, (m1.cons d).trans (.swap c d l), List.pairwise_cons.mpr ⟨fun x hx => ?_, m2⟩⟩
      rcases List.mem_cons.mp (m1.mem_iff.mp hx) with hx | hx
      · rw [hx]; exact lex_anti d c e
      · exact h1 x hx
theorem lex_sorted : ∀ l : List (List Nat), ∃ m : List (List Nat), m.Perm l ∧ m.Pairwise fun a b => lexN b a = false
  | [] => ⟨[], .refl _, .nil⟩
  | c :: l => by
    obtain ⟨m, m1, m2⟩ := lex_sorted l
    obtain ⟨q, q1, q2⟩ := lex_ins c m m2
    exact ⟨q, q1.trans (m1.cons c), q2⟩
theorem cuts_ex {n : Net} (ok : n.Ok) (k g : Nat) : ∃ cs, CutsAre n k g cs := by
  have ⟨ms, h, nd⟩ : ∃ ms : List Nat, ML n k g ms ∧ ms.Nodup := by
    refine ⟨(List.range (2 ^ g)).filter fun M => @decide (MinT n g M ∧ pop M ≤ k ∧ M.testBit g = false) (Classical.propDecidable _), fun M => ?_, List.Pairwise.filter _ List.nodup_range⟩
    rw [List.mem_filter, List.mem_range]
    constructor
    · rintro ⟨_, h⟩
      exact @of_decide_eq_true _ (Classical.propDecidable _) h
    · intro h
      refine ⟨Nat.lt_pow_two_of_testBit M fun i hi => ?_, @decide_eq_true _ (Classical.propDecidable _) h⟩
      cases e : M.testBit i with
      | false => rfl
      | true =>
        have := h.1.low ok i e
        have : i = g := by omega
        rw [this, h.2.2] at e
        cases e
  obtain ⟨cs, pm, srt⟩ := lex_sorted (ms.map bitsOf)
  exact ⟨cs, cuts_of_masks ok h nd pm srt⟩
noncomputable def cofX (n : Net) (k x : Nat) : List (List Nat) := open Classical in if h : ∃ cs, CutsAre n k x cs then h.choose else []
theorem cofX_ok {n : Net} (ok : n.Ok) (k x : Nat) : CutsAre n k x (cofX n k x) := by
  unfold cofX
  rw [dif_pos (cuts_ex ok k x)]
  exact (cuts_ex ok k x).choose_spec
end GX
set_option Elab.async false
set_option linter.all false
set_option maxRecDepth 100000
set_option maxHeartbeats 4000000
/-! The choice of a gate: the least deep, then the shortest, then the first. -/
namespace GX
open PySem PySem.Spec PyProof.Rows L2
theorem lexN_irr : ∀ a : List Nat, lexN a a = false
  | [] => rfl
  | x :: a => by
    show (if ((x : Nat) : Int) = ((x : Nat) : Int) then lexN a a else _) = false
    rw [if_pos rfl, lexN_irr a]
theorem lexN_cons {x y : Nat} {a b : List Nat} : lexN (x :: a) (y :: b) = true ↔ x < y ∨ (x = y ∧ lexN a b = true) := by
  show (if ((x : Nat) : Int) = ((y : Nat) : Int) then lexN a b else decide (((x : Nat) : Int) < ((y : Nat) : Int))) = true ↔ _
  by_cases e : x = y
  · subst e
    rw [if_pos rfl]
    exact ⟨fun h => .inr ⟨rfl, h⟩, fun h => h.elim (fun z => absurd z (Nat.lt_irrefl _)) fun z => z.2⟩
  · rw [if_neg (by omega), decide_eq_true_iff]
    exact ⟨fun h => .inl (by omega), fun h => h.elim (fun z => by omega) fun z => absurd z.1 e⟩
theorem lexN_trans : ∀ {a b c : List Nat}, lexN a b = true → lexN b c = true → lexN a c = true
  | [], [], _, h, _ => by cases h
  | [], _ :: _, [], _, h => by cases h
  | [], _ :: _, _ :: _, _, _ => rfl
  | _ :: _, [], _, h, _ => by cases h
  | _ :: _, _ :: _, [], _, h => by cases h
  | x :: a, y :: b, z :: c, h1, h2 => by
    rw [lexN_cons] at h1 h2 ⊢
    rcases h1 with h1 | ⟨rfl, h1⟩
    · rcases h2 with h2 | ⟨rfl, h2⟩
      · exact .inl (Nat.lt_trans h1 h2)
      · exact .inl h1
    · rcases h2 with h2 | ⟨rfl, h2⟩
      · exact .inl h2
      · exact .inr ⟨rfl, lexN_trans h1 h2⟩
/-- the key of a cut by the depths ds -/
def keyN (ds c : List Nat) : List Nat := (1 + maxL (c.map fun x => ds.getD x 0)) :: c.length :: c
theorem keyN_inj {ds c c' : List Nat} (h : keyN ds c = keyN ds c') : c = c' := by injection (List.cons.inj h).2
structure Best (ds : List Nat) (cs : List (List Nat)) (c : List Nat) : Prop where
  mem : c ∈ cs
  low : ∀ c' ∈ cs, lexN (keyN ds c') (keyN ds c) = false
theorem Best.uniq {ds : List Nat} {cs : List (List Nat)} {c c' : List Nat} (h : Best ds cs c) (h' : Best ds cs c') : c = c' := keyN_inj (lex_tri _ _ (h'.low _ h.mem) (h.low _ h'.mem))
/-- one more cut -/
theorem best_step {ds : List Nat} {cs : List (List Nat)} {c x : List Nat} (h : Best ds cs c) : Best ds (cs ++ [x]) (if lexN (keyN ds x) (keyN ds c) = true then x else c) := by
  by_cases e : lexN (keyN ds x) (keyN ds c) = true
  · rw [if_pos e]
    refine ⟨List.mem_append_right _ (List.mem_singleton.mpr rfl), fun c' hc => ?_⟩
    rcases List.mem_append.mp hc with hc | hc
    · have := h.low c' hc
      cases z : lexN (keyN ds c') (keyN ds x) with
      | false => rfl
      | true =>
        rw [lexN_trans z e] at this
        cases this
    · rw [List.mem_singleton.mp hc]
      exact lexN_irr _
  · rw [if_neg e]
    refine ⟨List.mem_append_left _ h.mem, fun c' hc => ?_⟩
    rcases List.mem_append.mp hc with hc | hc
    · exact h.low c' hc
    · rw [List.mem_singleton.mp hc]
      simpa using e
end GX
set_option Elab.async false
set_option linter.all false
set_option maxRecDepth 100000
set_option maxHeartbeats 4000000
/-! min(xs), xs a list of triples (int, int, tuple of ints). -/
namespace GX
open PySem PySem.Spec PyProof.Rows L2
section
variable {X : Cx} {pins : List (Addr × Obj)} {σ : L2.St} {H : Hp} {s : Shared}
theorem min_args0 (a : Value) : argsOk "min" { pos := [a], kw := [] } := by rfl
structure MinW0 (lt : R2) (Sq : Hp → Prop) (xs : List V) (Q : VK) (W : Nat → V → Hp → Prop) : Prop where
  at_ : ∀ j b H, W j b H → Sq H
  step : ∀ j b H x, W j b H → xs[j]? = some x → lt x b H fun r H2 => ∃ c, r = .bl c ∧ W (j + 1) (if c then x else b) H2
  done : ∀ b H, W xs.length b H → Q b H
theorem min_loop0 {lt : R2} {l IA SA : Addr} {xs : List V} {Sq : Hp → Prop} {It : Heap → Addr → Nat → Prop} {Q : VK} {W : Nat → V → Hp → Prop} (SK : SeqK X pins σ l xs Sq It) (hh : X.A.handled = none) (hlt : LtR X σ lt) (M : MinW0 lt Sq xs Q W)
    (hSI : SA ≠ IA) :
    ∀ (r j : Nat) (s : Shared) (H : Hp) (b : V) (ub : Value) (c : Nat), xs.length - j = r → j ≤ xs.length → Inv X pins σ H s → FpOk X pins H IA → FpOk X pins H SA → s.heap.get? SA = some (seqObj "list" #[ub, ub] c) → It s.heap IA j → RelV b ub → W j b H →
      codeAny (model X.prog X.w) X.A (.builtin "min.loop" ⟨[.ref IA, .none, .ref SA], []⟩) (fun r s' => ∃ v, r = .ok (.ret v) ∧ EP X pins σ Q v s') s := by
  have hname : (toString "min" ++ toString ".loop" : String) = "min.loop" := by decide
  intro r
  induction r with
  | zero =>
    intro j s H b ub c hr hj I fI fS gS hit rb w
    obtain rfl : j = xs.length := by omega
    refine codeAny_builtin PySem.F.entry_min_loop ?_
    rw [Around.under_plainId PySem.F.plain_min_loop _]
    show wpAny _ X.A.in1 (seqItems? (.ref SA) >>= _) _ _ _
    refine wpAny_bind (wpAny_seqItems gS rfl ?_)
    show wpAny _ X.A.in1 (tryCatch (pyNext (.ref IA)) _ >>= _) _ _ _
    refine wpAny_bind (wpAny_tryCatch (SK.done s H IA _ _ hh I (M.at_ _ _ _ w) hit fun h' tk' hk' => ?_))
    have gS' := hk' SA _ (by simpa using hSI) gS
    have k2 : ∀ b o, b ∉ [IA, SA] → s.heap.get? b = some o → (h'.update SA (Obj.mapSeq fun _ => (#[] : Array Value))).get? b = some o := fun b o hb e =>
      (Heap.get?_update_other _ _ (fun z => hb (by rw [z]; simp))).trans (hk' b o (fun z => hb (by rw [List.mem_singleton.mp z]; simp)) e)
    show wpAny _ X.A.in1 (updateSeq SA (fun _ => #[]) >>= _) _ _ _
    refine wpAny_bind ?_
    refine wpAny_updateSeq gS' rfl (wpAny_bind (wpAny_letGo (wpAny_pure ?_)))
    exact ⟨_, rfl, b, H, inv_raw (s := s) (t' := tk') I (ch := [IA, SA]) (fun b hb => by
      rcases List.mem_cons.mp hb with z | z
      · rw [z]; exact fI
      · rw [List.mem_singleton.mp z]; exact fS) k2, rb, M.done _ _ w⟩
  | succ r ih =>
    intro j s H b ub c hr hj I fI fS gS hit rb w
    have hlt' : j < xs.length := by omega
    refine codeAny_builtin PySem.F.entry_min_loop ?_
    rw [Around.under_plainId PySem.F.plain_min_loop _]
    show wpAny _ X.A.in1 (seqItems? (.ref SA) >>= _) _ _ _
    refine wpAny_bind (wpAny_seqItems gS rfl ?_)
    show wpAny _ X.A.in1 (tryCatch (pyNext (.ref IA)) _ >>= _) _ _ _
    obtain ⟨x, hx⟩ : ∃ x, xs[j]? = some x := ⟨_, List.getElem?_eq_getElem hlt'⟩
    refine wpAny_bind (wpAny_tryCatch (SK.item s H IA j x _ _ hh I (M.at_ _ _ _ w) hit hx fun v' h' tk' rx hst' hk' => ?_))
    obtain ⟨oI', hoI', nI, hoc⟩ := SK.obj hst'
    have gS1 := hk' SA _ (by simpa using hSI) gS
    have I1 : Inv X pins σ H { s with heap := h', toks := tk' } := inv_raw I (ch := [IA]) (fun b hb => by rw [List.mem_singleton.mp hb]; exact fI) fun b o hb e => hk' b o hb e
    have I2 := Inv.pin1 I1 fI hoI' nI
    have I3 := Inv.pin1 I2 (FpOk.add fS hSI.symm) gS1 (fun v z => by cases z)
    refine wpAny_bind (wpAny_pure ?_)
    show wpAny _ X.A.in1 (tryCatch (holding [v', v'] (richCompare .Lt v' ub >>= _)) _ >>= _) _ _ _
    refine wpAny_bind (wpAny_tryCatch (wpAny_holding (wpAny_bind (wpAny_mono (hlt _ _ _ x b v' ub _ I3 rx rb (M.step j b H x w hx)) (fun bv s3 ⟨rv', H3, I5, rr, q3⟩ => ?_) fun _ _ hF => hF.elim))))
    obtain ⟨cb, rfl, w'⟩ := q3
    obtain rfl : bv = .bool cb := rr
    refine wpAny_bind (wpAny_holding (wpAny_truthy_bool ?_))
    refine wpAny_bind (wpAny_letGo (wpAny_pure ?_))
    have pS := I5.pin (SA, seqObj "list" #[ub, ub] c) (List.mem_append_right _ List.mem_cons_self)
    have pI := I5.pin (IA, oI') (List.mem_append_right _ (List.mem_cons_of_mem _ List.mem_cons_self))
    have I6 := Inv.unpin1 (Inv.unpin1 I5)
    have fI6 : FpOk X pins H3 IA := FpOk.heap fI pI.2.1
    have fS6 : FpOk X pins H3 SA := FpOk.heap fS pS.2.1
    have hit3 : It s3.heap IA (j + 1) := hoc _ pI.1
    cases cb with
    | true =>
      obtain ⟨c2, hc2⟩ : ∃ c2, (s3.heap.update SA (Obj.mapSeq fun _ => #[v', v'])).get? SA = some (seqObj "list" #[v', v'] c2) := ⟨_, get?_update_seq pS.1 fun _ => #[v', v']⟩
      simp only [if_true] at w' ⊢
      have k3 : ∀ b o, b ∉ [SA] → s3.heap.get? b = some o → (s3.heap.update SA (Obj.mapSeq fun _ => #[v', v'])).get? b = some o := fun b o hb e =>
        (Heap.get?_update_other _ _ (fun z => hb (by rw [z]; simp))).trans e
      refine wpAny_bind ?_
      refine wpAny_updateSeq pS.1 rfl (wpAny_bind (wpAny_letGo ?_))
      rw [hname]
      refine wpAny_pure ⟨plainId_quiet PySem.F.plain_min_loop _, ih (j + 1) _ H3 x v' c2 (by omega) hlt' (inv_raw I6 (ch := [SA]) (fun b hb => by rw [List.mem_singleton.mp hb]; exact fS6) k3) fI6 fS6 hc2 (hoc _ (k3 _ _ (fun z => hSI (List.mem_singleton.mp z).symm) pI.1)) rx w'⟩
    | false =>
      simp only [Bool.false_eq_true, if_false] at w' ⊢
      refine wpAny_bind (wpAny_letGo ?_)
      rw [hname]
      exact wpAny_pure ⟨plainId_quiet PySem.F.plain_min_loop _, ih (j + 1) _ H3 b ub c (by omega) hlt' I6 fI6 fS6 pS.1 hit3 rb w'⟩
theorem min_run0 {E : Value → Shared → Prop} {lt : R2} {l : Addr} {xs : List V} {Sq : Hp → Prop} {It : Heap → Addr → Nat → Prop} {Q : VK} {W : Nat → V → Hp → Prop} {x0 : V} (SK : SeqK X pins σ l xs Sq It) (hh : X.A.handled = none) (hlt : LtR X σ lt) (M : MinW0 lt Sq xs Q W)
    (I : Inv X pins σ H s) (hs : Sq H) (hx : xs[0]? = some x0) (first : W 1 x0 H) :
    wpAny (model X.prog X.w) X.A (call (.builtin "min") [.ref l] []) (EP X pins σ Q) E s := by
  have hname : (toString "min" ++ toString ".loop" : String) = "min.loop" := by decide
  have hne : 0 < xs.length := (List.getElem?_eq_some_iff.mp hx).1
  refine kmk_tree PySem.F.kind_min PySem.F.plain_min PySem.F.entry_min (min_args0 _) ?_
  show wpAny _ X.A.in1 (Builtin.Builtins.bindParams "min" ["key", "default"] 0 ⟨[], []⟩ >>= _) _ _ s
  refine wpAny_bind (wpAny_of_eq (show Builtin.Builtins.bindParams "min" ["key", "default"] 0 ⟨[], []⟩ = pure [none, none] from rfl) ?_)
  refine wpAny_bind (wpAny_pure ?_)
  refine wpAny_bind (SK.start s H _ _ I hs fun oi hit0 => ?_)
  refine wpAny_bind (wpAny_newList ?_ (Nat.zero_le _))
  rw [hname]
  have hS : (s.heap.push oi).objs.size = s.heap.objs.size + 1 := size_push' ..
  have hSI : (s.heap.push oi).objs.size ≠ s.heap.objs.size := by rw [hS]; exact Nat.ne_of_gt (Nat.lt_succ_self _)
  refine wpAny_pure ⟨plainId_quiet PySem.F.plain_min_loop _, ?_⟩
  obtain ⟨o0, ho0, _, hk0⟩ := SK.obj hit0
  have hit : It ((s.heap.push oi).push (seqObj "list" #[] 0)) s.heap.objs.size 0 := hk0 _ (Heap.get?_push_of_some _ ho0)
  have gS : ((s.heap.push oi).push (seqObj "list" #[] 0)).get? (s.heap.push oi).objs.size = some (seqObj "list" #[] 0) := Heap.get?_push_size _ rfl
  have I0 : Inv X pins σ H { s with heap := (s.heap.push oi).push (seqObj "list" #[] 0), toks := s.toks } := I.kept (t' := s.toks) fun b o e => Heap.get?_push_of_some _ (Heap.get?_push_of_some _ e)
  have fI : FpOk X pins H s.heap.objs.size := I.fpOk (Nat.le_refl _) (I.hok.fresh (Nat.le_refl _))
  have fS : FpOk X pins H (s.heap.push oi).objs.size := I.fpOk (by rw [hS]; omega) (I.hok.fresh (by rw [hS]; omega))
  clear ho0 hk0 hit0 hS
  generalize (s.heap.push oi).objs.size = SA at hSI gS fS ⊢
  have I00 : Inv X pins σ H { s with heap := (s.heap.push oi).push (seqObj "list" #[] 0) } := I0
  generalize (s.heap.push oi).push (seqObj "list" #[] 0) = h0 at hit gS I00 ⊢
  clear I0
  generalize s.heap.objs.size = IA at hSI hit fI ⊢
  refine codeAny_builtin PySem.F.entry_min_loop ?_
  rw [Around.under_plainId PySem.F.plain_min_loop _]
  show wpAny _ X.A.in1 (seqItems? (.ref SA) >>= _) _ _ _
  refine wpAny_bind (wpAny_seqItems gS rfl ?_)
  show wpAny _ X.A.in1 (tryCatch (pyNext (.ref IA)) _ >>= _) _ _ _
  refine wpAny_bind (wpAny_tryCatch (SK.item { s with heap := h0 } H IA 0 x0 _ _ hh I00 hs hit hx fun v' h' tk' rx hst' hk' => ?_))
  obtain ⟨oI', hoI', nI, hoc⟩ := SK.obj hst'
  have gS1 := hk' SA _ (by simpa using hSI) gS
  have I1 : Inv X pins σ H { s with heap := h', toks := tk' } := inv_raw (s := { s with heap := h0 }) (t' := tk') I00 (ch := [IA]) (fun b hb => by rw [List.mem_singleton.mp hb]; exact fI) fun b o hb e => hk' b o hb e
  refine wpAny_bind (wpAny_pure ?_)
  obtain ⟨c2, hc2⟩ : ∃ c2, (h'.update SA (Obj.mapSeq fun _ => #[v', v'])).get? SA = some (seqObj "list" #[v', v'] c2) := ⟨_, get?_update_seq gS1 fun _ => #[v', v']⟩
  have k3 : ∀ b o, b ∉ [SA] → h'.get? b = some o → (h'.update SA (Obj.mapSeq fun _ => #[v', v'])).get? b = some o := fun b o hb e =>
    (Heap.get?_update_other _ _ (fun z => hb (by rw [z]; simp))).trans e
  show wpAny _ X.A.in1 (updateSeq SA (fun _ => #[v', v']) >>= _) _ _ _
  refine wpAny_bind ?_
  refine wpAny_updateSeq gS1 rfl ?_
  rw [hname]
  refine wpAny_pure ⟨plainId_quiet PySem.F.plain_min_loop _, codeAny_mono (min_loop0 SK hh hlt M hSI _ 1 _ H x0 v' c2 rfl hne (inv_raw I1 (ch := [SA]) (fun b hb => by rw [List.mem_singleton.mp hb]; exact fS) k3) fI fS hc2 (hoc _ (k3 _ _ (fun z => hSI (List.mem_singleton.mp z).symm) hoI')) rx first) fun r s' ⟨v, e, h⟩ => ?_⟩
  subst e
  exact h
end
end GX
set_option Elab.async false
set_option linter.all false
set_option maxRecDepth 100000
set_option maxHeartbeats 4000000
/-! Cuts put together as tuples. -/
namespace GX
open PySem PySem.Spec PyProof.Rows L2
/-! ### a dict whose keys are tuples of numbers -/
def kvT (F : List (List Nat)) : List (List L2.Key × V) := F.map fun c => (c.map nK, V.bl true)
theorem kvT_len (F : List (List Nat)) : (kvT F).length = F.length := List.length_map _
theorem mapK_inj : ∀ {c d : List Nat}, c.map nK = d.map nK → c = d
  | [], [], _ => rfl
  | [], _ :: _, h => by cases h
  | _ :: _, [], h => by cases h
  | x :: c, y :: d, h => by
    obtain ⟨h1, h2⟩ := List.cons.inj h
    rw [nK_inj h1, mapK_inj h2]
theorem mapKV (c : List Nat) : (c.map nK).map kV = c.map nV := by
  rw [List.map_map]
  rfl
theorem kvT_any (F : List (List Nat)) (c : List Nat) : ((kvT F).any fun kv => decide (kv.1 = c.map nK)) = decide (c ∈ F) := by
  by_cases h : c ∈ F
  · rw [decide_eq_true h, List.any_eq_true]
    exact ⟨(c.map nK, .bl true), List.mem_map.mpr ⟨c, h, rfl⟩, decide_eq_true rfl⟩
  · rw [decide_eq_false h, List.any_eq_false]
    intro kv hkv e
    obtain ⟨d, hd, rfl⟩ := List.mem_map.mp hkv
    exact h (by rw [← mapK_inj (of_decide_eq_true e)]; exact hd)
theorem kvT_put {F : List (List Nat)} {c : List Nat} (h : c ∉ F) : putK (kvT F) (c.map nK) (.bl true) = kvT (F ++ [c]) := by
  unfold putK
  rw [kvT_any, decide_eq_false h, if_neg Bool.false_ne_true]
  unfold kvT
  rw [List.map_append]
  rfl
theorem kvT_again {F : List (List Nat)} {c : List Nat} (h : c ∈ F) : putK (kvT F) (c.map nK) (.bl true) = kvT F := by
  unfold putK
  rw [kvT_any, decide_eq_true h, if_pos rfl]
  conv => rhs; rw [← List.map_id (kvT F)]
  refine List.map_congr_left fun kv hkv => ?_
  obtain ⟨y, _, rfl⟩ := List.mem_map.mp hkv
  by_cases e : y.map nK = c.map nK
  · rw [if_pos e]; rfl
  · rw [if_neg e]; rfl
/-! ### masks of rising lists -/
theorem mask_inj {c d : List Nat} (hc : c.Pairwise (· < ·)) (hd : d.Pairwise (· < ·)) (h : maskOf c = maskOf d) : c = d := by rw [← bits_mask hc, ← bits_mask hd, h]
theorem mask_union {c f s : List Nat} (h : ∀ x, x ∈ c ↔ x ∈ f ++ s) : maskOf c = maskOf f ||| maskOf s := by
  apply Nat.eq_of_testBit_eq
  intro j
  rw [mask_bit, Nat.testBit_or, mask_bit, mask_bit, ← Bool.decide_or]
  refine decide_eq_decide.mpr ?_
  rw [h, List.mem_append]
theorem mask_pop {c : List Nat} (h : c.Pairwise (· < ·)) : pop (maskOf c) = c.length := by unfold pop; rw [bits_mask h]
theorem mask_sub {c d : List Nat} : Sub (maskOf c) (maskOf d) ↔ ∀ x ∈ c, x ∈ d := by
  constructor
  · intro h x hx
    have := h x (by rw [mask_bit]; exact decide_eq_true hx)
    rw [mask_bit] at this
    exact of_decide_eq_true this
  · intro h j hj
    rw [mask_bit] at hj ⊢
    exact decide_eq_true (h j (of_decide_eq_true hj))
theorem mask_pos {c : List Nat} (h : 0 < c.length) : 0 < maskOf c := Nat.pos_of_ne_zero fun z => by
  cases c with
  | nil => cases h
  | cons x r =>
    have : (maskOf (x :: r)).testBit x = true := by rw [mask_bit]; exact decide_eq_true List.mem_cons_self
    rw [z, Nat.zero_testBit] at this
    cases this
theorem mask_lt {c : List Nat} {m : Nat} (h : ∀ x ∈ c, x < m) : maskOf c < 2 ^ m := by
  induction c with
  | nil => exact Nat.two_pow_pos m
  | cons x r ih =>
    show 2 ^ x ||| maskOf r < 2 ^ m
    exact Nat.or_lt_two_pow (Nat.pow_lt_pow_right (by decide) (h x List.mem_cons_self)) (ih fun y hy => h y (List.mem_cons_of_mem _ hy))
/-! ### least ones, those of few wires first -/
def SubL (c d : List Nat) : Prop := ∀ x ∈ c, x ∈ d
def Minl (F : List (List Nat)) (c : List Nat) : Prop := ∀ c' ∈ F, SubL c' c → c' = c
theorem minl_ex {F : List (List Nat)} (rise : ∀ c ∈ F, c.Pairwise (· < ·)) : ∀ b c, c.length ≤ b → c ∈ F → ∃ m ∈ F, SubL m c ∧ Minl F m
  | b, c, hb, hc => by
    by_cases h : Minl F c
    · exact ⟨c, hc, fun x hx => hx, h⟩
    · obtain ⟨c', h1⟩ := Classical.not_forall.mp h
      obtain ⟨h2, h3⟩ := Classical.not_imp.mp h1
      obtain ⟨h4, h5⟩ := Classical.not_imp.mp h3
      have lt : c'.length < c.length := by
        have le := nodup_len ((rise c' h2).imp fun h => Nat.ne_of_lt h) h4
        refine Nat.lt_of_le_of_ne le fun e => h5 ?_
        have sub : ∀ x ∈ c, x ∈ c' := fun x hx => Classical.not_not.mp fun hn => by
          have nd : (x :: c').Nodup := List.nodup_cons.mpr ⟨hn, (rise c' h2).imp fun h => Nat.ne_of_lt h⟩
          have := nodup_len nd (ys := c) fun y hy => by
            rcases List.mem_cons.mp hy with e | e
            · rw [e]; exact hx
            · exact h4 y e
          rw [List.length_cons] at this
          omega
        exact rise_eq (rise c' h2) (rise c hc) fun z => ⟨h4 z, sub z⟩
      cases b with
      | zero => omega
      | succ b =>
        obtain ⟨m, m1, m2, m3⟩ := minl_ex rise b c' (by omega) h2
        exact ⟨m, m1, fun x hx => h4 x (m2 x hx), m3⟩
theorem subl_len {c d : List Nat} (hc : c.Pairwise (· < ·)) (hd : d.Pairwise (· < ·)) (h : SubL c d) (ne : c ≠ d) : c.length < d.length := by
  have le := nodup_len (hc.imp fun h => Nat.ne_of_lt h) h
  refine Nat.lt_of_le_of_ne le fun e => ne ?_
  have sub : ∀ x ∈ d, x ∈ c := fun x hx => Classical.not_not.mp fun hn => by
    have nd : (x :: c).Nodup := List.nodup_cons.mpr ⟨hn, hc.imp fun h => Nat.ne_of_lt h⟩
    have := nodup_len nd (ys := d) fun y hy => by
      rcases List.mem_cons.mp hy with e | e
      · rw [e]; exact hx
      · exact h y e
    rw [List.length_cons] at this
    omega
  exact rise_eq hc hd fun z => ⟨h z, sub z⟩
/-- what is kept so far: all least ones below a size, and the first few of it -/
structure KeptL (F : List (List Nat)) (s : Nat) (rows : List (List Nat)) (R : List (List Nat)) : Prop where
  nd : R.Nodup
  mem : ∀ c, c ∈ R ↔ ((c ∈ F ∧ c.length < s ∨ c ∈ rows) ∧ Minl F c)
theorem KeptL.test {F : List (List Nat)} (rise : ∀ c ∈ F, c.Pairwise (· < ·)) {s : Nat} {rows R : List (List Nat)} (h : KeptL F s rows R) {c : List Nat} (hc : c ∈ F) (hs : c.length = s) (hr : c ∉ rows) (hrf : ∀ c ∈ rows, c ∈ F) : (∀ m ∈ R, ¬ SubL m c) ↔ Minl F c := by
  constructor
  · intro a c' hc' hsub
    refine Classical.not_not.mp fun ne => ?_
    obtain ⟨m, m1, m2, m3⟩ := minl_ex rise _ c' (Nat.le_refl _) hc'
    have mc : SubL m c := fun x hx => hsub x (m2 x hx)
    have mne : m ≠ c := fun e => by
      have : SubL c c' := by rw [← e]; exact m2
      exact ne (rise_eq (rise c' hc') (rise c hc) fun z => ⟨hsub z, this z⟩)
    have := subl_len (rise m m1) (rise c hc) mc mne
    exact a m ((h.mem m).mpr ⟨.inl ⟨m1, by omega⟩, m3⟩) mc
  · intro hm m hmR hsub
    obtain ⟨h1, _⟩ := (h.mem m).mp hmR
    have mF : m ∈ F := h1.elim (fun z => z.1) (hrf m)
    have e := hm m mF hsub
    rw [e] at h1
    rcases h1 with z | z
    · omega
    · exact hr z
theorem KeptL.yes {F : List (List Nat)} {s : Nat} {rows R : List (List Nat)} (h : KeptL F s rows R) {c : List Nat} (hs : c.length = s) (hr : c ∉ rows) (hm : Minl F c) : KeptL F s (rows ++ [c]) (R ++ [c]) := by
  refine ⟨?_, fun d => ?_⟩
  · refine List.nodup_append.mpr ⟨h.nd, List.nodup_cons.mpr ⟨fun z => (by cases z), List.nodup_nil⟩, fun a ha b hb e => ?_⟩
    rw [List.mem_singleton.mp hb] at e
    rw [e] at ha
    rcases ((h.mem c).mp ha).1 with z | z
    · omega
    · exact hr z
  · rw [List.mem_append, h.mem, List.mem_append, List.mem_singleton]
    constructor
    · rintro (⟨h1, h2⟩ | rfl)
      · exact ⟨h1.imp id .inl, h2⟩
      · exact ⟨.inr (.inr rfl), hm⟩
    · rintro ⟨h1 | h1 | rfl, h2⟩
      · exact .inl ⟨.inl h1, h2⟩
      · exact .inl ⟨.inr h1, h2⟩
      · exact .inr rfl
theorem KeptL.no {F : List (List Nat)} {s : Nat} {rows R : List (List Nat)} (h : KeptL F s rows R) {c : List Nat} (hm : ¬ Minl F c) : KeptL F s (rows ++ [c]) R := by
  refine ⟨h.nd, fun d => ?_⟩
  rw [h.mem, List.mem_append, List.mem_singleton]
  constructor
  · rintro ⟨h1, h2⟩
    exact ⟨h1.imp id .inl, h2⟩
  · rintro ⟨h1 | h1 | rfl, h2⟩
    · exact ⟨.inl h1, h2⟩
    · exact ⟨.inr h1, h2⟩
    · exact absurd h2 hm
theorem KeptL.next {F : List (List Nat)} {s : Nat} {R : List (List Nat)} (h : KeptL F s (F.filter fun c => decide (c.length = s)) R) : KeptL F (s + 1) [] R := by
  refine ⟨h.nd, fun c => ?_⟩
  rw [h.mem]
  refine and_congr_left fun _ => ?_
  rw [List.mem_filter, decide_eq_true_iff]
  constructor
  · rintro (⟨h1, h2⟩ | ⟨h1, h2⟩)
    · exact .inl ⟨h1, by omega⟩
    · exact .inl ⟨h1, by omega⟩
  · rintro (⟨h1, h2⟩ | h1)
    · by_cases e : c.length = s
      · exact .inr ⟨h1, e⟩
      · exact .inl ⟨h1, by omega⟩
    · cases h1
/-- the least ones as masks -/
theorem kept_masks {F R : List (List Nat)} (rise : ∀ c ∈ F, c.Pairwise (· < ·)) (pos : ∀ c ∈ F, 0 < c.length) (hR : ∀ c, c ∈ R ↔ (c ∈ F ∧ Minl F c)) (M : Nat) : M ∈ R.map maskOf ↔ M ∈ (F.map maskOf).filter fun M => !hasPart (F.map maskOf) M := by
  have key : ∀ c ∈ F, (hasPart (F.map maskOf) (maskOf c) = true ↔ ¬ Minl F c) := fun c hc => by
    rw [hasPart_iff]
    constructor
    · rintro ⟨p, hp, p0, pne, ps⟩ hm
      obtain ⟨c', hc', rfl⟩ := List.mem_map.mp hp
      exact pne (by rw [hm c' hc' (mask_sub.mp ps)])
    · intro h
      obtain ⟨c', h1⟩ := Classical.not_forall.mp h
      obtain ⟨h2, h3⟩ := Classical.not_imp.mp h1
      obtain ⟨h4, h5⟩ := Classical.not_imp.mp h3
      exact ⟨maskOf c', List.mem_map.mpr ⟨c', h2, rfl⟩, mask_pos (pos c' h2), fun e => h5 (mask_inj (rise c' h2) (rise c hc) e), mask_sub.mpr h4⟩
  rw [List.mem_map, List.mem_filter, List.mem_map]
  constructor
  · rintro ⟨c, hc, rfl⟩
    obtain ⟨h1, h2⟩ := (hR c).mp hc
    refine ⟨⟨c, h1, rfl⟩, ?_⟩
    cases e : hasPart (F.map maskOf) (maskOf c) with
    | false => rfl
    | true => exact absurd h2 ((key c h1).mp e)
  · rintro ⟨⟨c, hc, rfl⟩, hb⟩
    refine ⟨c, (hR c).mpr ⟨hc, Classical.not_not.mp fun z => ?_⟩, rfl⟩
    rw [(key c hc).mpr z] at hb
    cases hb
/-! ### cuts of wires as masks -/
theorem cuts_ml {n : Net} (ok : n.Ok) {k g : Nat} {cs : List (List Nat)} (h : CutsAre n k g cs) : ML n k g (cs.map maskOf) := fun M => by
  rw [List.mem_map]
  constructor
  · rintro ⟨c, hc, rfl⟩
    exact bits_lc ((h.mem c).mp hc)
  · intro z
    exact ⟨bitsOf M, (h.mem _).mpr (lc_bits ok z), mask_bits M⟩
theorem cuts_input {n : Net} {k x : Nat} (h : x < n.many) : CutsAre n k x [] := ⟨fun c => ⟨fun z => (by cases z), fun z => by
  have := z.lt x ((sep_input h).mp z.sep)
  omega⟩, List.nodup_nil, .nil⟩
theorem mask_one (x : Nat) : maskOf [x] = 2 ^ x := by
  apply Nat.eq_of_testBit_eq
  intro j
  rw [mask_bit, Nat.testBit_two_pow]
  refine decide_eq_decide.mpr ?_
  rw [List.mem_singleton]
  exact ⟨fun e => e.symm, fun e => e.symm⟩
theorem cuts_full {n : Net} (ok : n.Ok) {k w : Nat} {cs : List (List Nat)} (hw : w < n.many + n.gates.length) (hk : 1 ≤ k) (h : CutsAre n k w cs) (M : Nat) : M ∈ ([w] :: cs).map maskOf ↔ (MinT n w M ∧ pop M ≤ k) := by
  rw [← (cuts_ml ok h).full ok hw hk M, List.map_cons, List.mem_cons, List.mem_append, List.mem_singleton, mask_one]
  exact Or.comm
end GX
set_option Elab.async false
set_option linter.all false
set_option maxRecDepth 100000
set_option maxHeartbeats 4000000
/-! len of a set of whole numbers. -/
namespace GX
open PySem PySem.Spec PyProof.Rows L2
end GX
set_option Elab.async false
set_option linter.all false
set_option maxRecDepth 100000
set_option maxHeartbeats 4000000
/-! Likenesses: steps, pairs, what is shown. -/
namespace GX
open PySem PySem.Spec PyProof.Rows L2
abbrev IP := Int × Int
def pV (x : IP) : List V := [.int x.1, .int x.2]
structure Stp where
  a : Int
  b : Int
  ps : List IP
def PsAt (H : Hp) (p : Addr) (xs : List IP) : Prop := ∃ qs : List Addr, H p = some (.tup (qs.map V.ref)) ∧ RefsAt pV H qs xs
def StAt (H : Hp) (p : Addr) (s : Stp) : Prop := ∃ q, H p = some (.tup [.int s.a, .int s.b, .ref q]) ∧ PsAt H q s.ps
def LkAt (H : Hp) (p : Addr) (ss : List Stp) : Prop := ∃ qs : List Addr, H p = some (.tup (qs.map V.ref)) ∧ PtsAt StAt H qs ss
def Tups (H H' : Hp) : Prop := ∀ b xs, H b = some (.tup xs) → H' b = some (.tup xs)
theorem Tups.refl (H : Hp) : Tups H H := fun _ _ e => e
theorem Tups.trans {H1 H2 H3 : Hp} (a : Tups H1 H2) (b : Tups H2 H3) : Tups H1 H3 := fun _ _ e => b _ _ (a _ _ e)
theorem Tups.same {H H' : Hp} (s : Same H H') : Tups H H' := fun _ _ e => s _ _ e
theorem PsAt.mono {H H' : Hp} {p : Addr} {xs : List IP} (k : Tups H H') (x : PsAt H p xs) : PsAt H' p xs := by
  obtain ⟨qs, h1, h2⟩ := x
  exact ⟨qs, k _ _ h1, h2.mono k⟩
theorem StAt.mono {H H' : Hp} (k : Tups H H') (p : Addr) (s : Stp) (x : StAt H p s) : StAt H' p s := by
  obtain ⟨q, h1, h2⟩ := x
  exact ⟨q, k _ _ h1, h2.mono k⟩
theorem LkAt.mono {H H' : Hp} {p : Addr} {ss : List Stp} (k : Tups H H') (x : LkAt H p ss) : LkAt H' p ss := by
  obtain ⟨qs, h1, h2⟩ := x
  exact ⟨qs, k _ _ h1, h2.mono (StAt.mono k)⟩
/-! ### what is asked -/
def IsPr (n m : Net) (x : IP) : Prop := (0 ≤ x.1 ∧ x.1 < ((n.many + n.gates.length : Nat) : Int)) ∧ (0 ≤ x.2 ∧ x.2 < ((m.many + m.gates.length : Nat) : Int))
def SameI (n : Net) (x : IP) : Prop := x.1 = x.2 ∧ x.1 < ((n.many : Nat) : Int)
def Shn (n : Net) (S : List IP) (x : IP) : Prop := SameI n x ∨ x ∈ S
def fsts (xs : List IP) : List Nat := xs.map fun x => x.1.toNat
def snds (xs : List IP) : List Nat := xs.map fun x => x.2.toNat
structure PrsOk (n m : Net) (xs : List IP) : Prop where
  l1 : 1 ≤ xs.length
  l8 : xs.length ≤ 8
  each : ∀ x ∈ xs, IsPr n m x
  rise : (fsts xs).Pairwise (· < ·)
  nod : (snds xs).Nodup
structure StpOk (n m : Net) (S : List IP) (s : Stp) : Prop where
  pr : IsPr n m (s.a, s.b)
  ps : PrsOk n m s.ps
  shn : ∀ x ∈ s.ps, Shn n S x
  tl1 : Sep n s.a.toNat (fsts s.ps)
  tl2 : Sep m s.b.toNat (snds s.ps)
  ct : contOf n (fsts s.ps) s.a.toNat = contOf m (snds s.ps) s.b.toNat
def outPs (n m : Net) : List IP := (n.outs.zip m.outs).map fun x => (((x.1 : Nat) : Int), ((x.2 : Nat) : Int))
def key (s : Stp) : IP := (s.a, s.b)
def Hlds (n m : Net) : List IP → List Stp → Prop
  | S, [] => ∀ x ∈ outPs n m, Shn n S x
  | S, s :: r => StpOk n m S s ∧ Hlds n m (S ++ [key s]) r
theorem Hlds.at_ {n m : Net} {S : List IP} {ss : List Stp} {i : Nat} {s : Stp} (e : ss[i]? = some s) : Hlds n m S (ss.drop i) ↔ (StpOk n m S s ∧ Hlds n m (S ++ [key s]) (ss.drop (i + 1))) := by
  have hi := (List.getElem?_eq_some_iff.mp e).1
  have hs : ss[i] = s := (List.getElem?_eq_some_iff.mp e).2
  rw [List.drop_eq_getElem_cons hi, hs]
  exact Iff.rfl
/-! ### whole numbers -/
/-! ### rising pairs -/
/-! ### pairs in a list -/
/-! ### the dict of what is shown -/
def pK (x : IP) : List L2.Key := [.inl x.1, .inl x.2]
theorem pK_inj {x y : IP} (h : pK x = pK y) : x = y := by
  obtain ⟨h1, h2⟩ := List.cons.inj h
  obtain ⟨h3, _⟩ := List.cons.inj h2
  exact Prod.ext (Sum.inl.inj h1) (Sum.inl.inj h3)
structure ShD (H : Hp) (d : Addr) (S : List IP) (kvs : List (List L2.Key × V)) : Prop where
  at_ : H d = some (.dT kvs)
  len : kvs.length ≤ S.length
  iff : ∀ x, (valV kvs (pK x)).isSome = true ↔ x ∈ S
theorem ShD.put {H : Hp} {d : Addr} {S : List IP} {kvs : List (List L2.Key × V)} {x : IP} (h : ShD H d S kvs) : ShD (upd H d (.dT (putK kvs (pK x) (.bl true)))) d (S ++ [x]) (putK kvs (pK x) (.bl true)) := by
  refine ⟨upd_same, ?_, fun y => ?_⟩
  · have := length_putK kvs (pK x) (.bl true)
    have := h.len
    rw [List.length_append]
    show _ ≤ _ + 1
    omega
  · rw [valV_put, List.mem_append, List.mem_singleton]
    by_cases e : y = x
    · rw [if_pos (by rw [e])]
      exact ⟨fun _ => .inr e, fun _ => rfl⟩
    · rw [if_neg (fun z => e (pK_inj z)), h.iff]
      exact ⟨.inl, fun z => z.resolve_right e⟩
end GX
set_option Elab.async false
set_option linter.all false
set_option maxRecDepth 100000
set_option maxHeartbeats 4000000
namespace GX
open PySem PySem.Spec PyProof.Rows L2
def natsD (xs : List Nat) : List PyData := (xs.map fun n : Nat => (n : Int)).map PyData.int
theorem ints_can : ∀ xs : List Int, PyData.canLayAll0 (xs.map PyData.int) = true ∧ PyData.depthAll (xs.map PyData.int) ≤ 0
  | [] => ⟨rfl, Nat.zero_le _⟩
  | c :: r => by
    obtain ⟨h1, h2⟩ := ints_can r
    refine ⟨?_, ?_⟩
    · show (PyData.canLay0 (.int c) && PyData.canLayAll0 (r.map PyData.int)) = true
      rw [h1]
      rfl
    · show max (PyData.depth (.int c)) (PyData.depthAll (r.map PyData.int)) ≤ 0
      have : PyData.depth (.int c) = 0 := rfl
      omega
theorem natsD_tup (xs : List Nat) : SeqAt.shaped (.tuple (natsD xs)) = true := shaped_tup (ints_can _).1 (ints_can _).2 (by decide)
theorem natsD_lst (xs : List Nat) : SeqAt.shaped (.list (natsD xs)) = true := PySem.W.ke_shaped_ints _
theorem natsD_eqv : ∀ xs ys : List Nat, PyData.eqvAll (natsD xs) (natsD ys) = decide (xs = ys)
  | [], [] => rfl
  | [], _ :: _ => rfl
  | _ :: _, [] => rfl
  | x :: xs, y :: ys => by
    show (((x : Int) == (y : Int)) && PyData.eqvAll (natsD xs) (natsD ys)) = _
    rw [natsD_eqv xs ys]
    by_cases h : x = y
    · subst h
      rw [beq_self_eq_true, Bool.true_and]
      exact decide_eq_decide.mpr ⟨fun z => by rw [z], fun z => (List.cons.inj z).2⟩
    · rw [beq_false_of_ne (fun z => h (Int.ofNat_inj.mp z)), Bool.false_and]
      exact (decide_eq_false (fun z => h (List.cons.inj z).1)).symm
theorem natsD_eqT (xs ys : List Nat) : PyData.eqv (.tuple (natsD xs)) (.tuple (natsD ys)) = decide (xs = ys) := natsD_eqv xs ys
theorem natsD_eqL (xs ys : List Nat) : PyData.eqv (.list (natsD xs)) (.list (natsD ys)) = decide (xs = ys) := natsD_eqv xs ys
theorem dp_natT {K : PySem.W.Frag} {H : Hp} {p : Addr} {xs : List Nat} (h : H p = some (.tup (xs.map nV))) : Dp K H (.ref p) (.tuple (natsD xs)) := .tup (SqT.of h) (dpNat K H xs)
theorem Aft.dT {Ts : List Addr} {H H' : Hp} (a : Aft Ts H H') (t : Tabs Ts H) {b : Addr} {kvs : List (List L2.Key × V)} (e : H b = some (.dT kvs)) : H' b = some (.dT kvs) := a.kp b _ e (t.nott e fun _ z => by cases z)
theorem ShD.aft {Ts : List Addr} {H H' : Hp} {d : Addr} {S : List IP} {kvs : List (List L2.Key × V)} (h : ShD H d S kvs) (a : Aft Ts H H') (t : Tabs Ts H) : ShD H' d S kvs := ⟨a.dT t h.at_, h.len, h.iff⟩
theorem ShD.same {H H' : Hp} {d : Addr} {S : List IP} {kvs : List (List L2.Key × V)} (h : ShD H d S kvs) (s : Same H H') : ShD H' d S kvs := ⟨s _ _ h.at_, h.len, h.iff⟩
theorem Aft.tups {Ts : List Addr} {H H' : Hp} (a : Aft Ts H H') (t : Tabs Ts H) : Tups H H' := fun _ _ e => a.tup t e
theorem PrsOk.nd {n m : Net} {xs : List IP} (h : PrsOk n m xs) : (fsts xs).Nodup := h.rise.imp fun z => Nat.ne_of_lt z
end GX
set_option Elab.async false
set_option linter.all false
set_option maxRecDepth 100000
set_option maxHeartbeats 4000000
/-! min(xs), xs a list of tuples of ints. -/
namespace GX
open PySem PySem.Spec PyProof.Rows L2
end GX
set_option Elab.async false
set_option linter.all false
set_option maxRecDepth 100000
set_option maxHeartbeats 4000000
/-! max(xs, default=None), min(xs, default=None) of a list of ints. -/
namespace GX
open PySem PySem.Spec PyProof.Rows L2
end GX
set_option Elab.async false
set_option linter.all false
set_option maxRecDepth 100000
set_option maxHeartbeats 4000000
/-! A tuple of things of any make, held against a tuple of one text. -/
namespace GX
open PySem PySem.Spec PyProof.Rows L2
open PySem.SeqAt (EqAt)
end GX
set_option Elab.async false
set_option linter.all false
set_option maxRecDepth 100000
set_option maxHeartbeats 4000000
/-! Anything held against a tuple with one text. -/
namespace GX
open PySem PySem.Spec PyProof.Rows L2
end GX
set_option Elab.async false
set_option linter.all false
set_option maxRecDepth 100000
set_option maxHeartbeats 4000000
/-! Layouts as data, and how they stand in the heap. -/
namespace GX
open PySem PySem.Spec PyProof.Rows L2
structure Lay where
  many : Nat
  tabs : List (List Nat × List Nat)
  outs : List Nat
structure tabOk (w : Nat) (t : List Nat × List Nat) : Prop where
  p1 : 1 ≤ t.1.length
  p4 : t.1.length ≤ 4
  lt : ∀ x ∈ t.1, x < w
  rise : t.1.Pairwise (· < ·)
  len : t.2.length = 2 ^ t.1.length
  bit : ∀ x ∈ t.2, x < 2
structure Lay.Ok (l : Lay) : Prop where
  m1 : 1 ≤ l.many
  m8 : l.many ≤ 8
  t16 : l.tabs.length ≤ 16
  ts : ∀ (i : Nat) (t : List Nat × List Nat), l.tabs[i]? = some t → tabOk (l.many + i) t
  o1 : 1 ≤ l.outs.length
  o8 : l.outs.length ≤ 8
  os : ∀ o ∈ l.outs, o < l.many + l.tabs.length
/-- a table in the heap -/
def TabAt (H : Hp) (p : Addr) (t : List Nat × List Nat) : Prop := ∃ a b, H p = some (.tup [.ref a, .ref b]) ∧ H a = some (.tup (t.1.map nV)) ∧ H b = some (.tup (t.2.map nV))
theorem TabAt.mono {H H' : Hp} {p : Addr} {t : List Nat × List Nat} (x : TabAt H p t) (k : ∀ b xs, H b = some (.tup xs) → H' b = some (.tup xs)) : TabAt H' p t := by
  obtain ⟨a, b, h1, h2, h3⟩ := x
  exact ⟨a, b, k _ _ h1, k _ _ h2, k _ _ h3⟩
def TabsAt (H : Hp) (ps : List Addr) (ts : List (List Nat × List Nat)) : Prop := ps.length = ts.length ∧ ∀ (i : Nat) (p : Addr) (t : List Nat × List Nat), ps[i]? = some p → ts[i]? = some t → TabAt H p t
theorem TabsAt.nil (H : Hp) : TabsAt H [] [] := ⟨rfl, fun i p g e _ => by simp at e⟩
theorem TabsAt.mono {H H' : Hp} {ps : List Addr} {ts : List (List Nat × List Nat)} (x : TabsAt H ps ts) (k : ∀ b xs, H b = some (.tup xs) → H' b = some (.tup xs)) : TabsAt H' ps ts := ⟨x.1, fun i p g e1 e2 => (x.2 i p g e1 e2).mono k⟩
theorem TabsAt.push {H : Hp} {ps : List Addr} {ts : List (List Nat × List Nat)} {q : Addr} {y : List Nat × List Nat} (x : TabsAt H ps ts) (h : TabAt H q y) : TabsAt H (ps ++ [q]) (ts ++ [y]) := by
  refine ⟨by rw [List.length_append, List.length_append, x.1]; rfl, fun i r g e1 e2 => ?_⟩
  by_cases hi : i < ps.length
  · rw [List.getElem?_append_left hi] at e1
    rw [List.getElem?_append_left (by rw [← x.1]; exact hi)] at e2
    exact x.2 i r g e1 e2
  · rw [List.getElem?_append_right (by omega)] at e1
    rw [List.getElem?_append_right (by rw [← x.1]; omega)] at e2
    have hz : i - ps.length = 0 := by
      obtain ⟨h1, _⟩ := List.getElem?_eq_some_iff.mp e1
      simp at h1
      omega
    rw [hz] at e1
    rw [← x.1, hz] at e2
    cases e1
    cases e2
    exact h
theorem TabsAt.at_ {H : Hp} {ps : List Addr} {ts : List (List Nat × List Nat)} (x : TabsAt H ps ts) {i : Nat} {v : V} (e : (ps.map V.ref)[i]? = some v) : ∃ q y, v = .ref q ∧ ts[i]? = some y ∧ TabAt H q y := by
  rw [List.getElem?_map] at e
  cases h : ps[i]? with
  | none => rw [h] at e; cases e
  | some q =>
    rw [h] at e
    cases e
    have h2 : i < ts.length := by rw [← x.1]; exact (List.getElem?_eq_some_iff.mp h).1
    exact ⟨q, ts[i], rfl, List.getElem?_eq_getElem h2, x.2 i q _ h (List.getElem?_eq_getElem h2)⟩
structure LayAt (H : Hp) (a : Addr) (l : Lay) (g o : Addr) (ps : List Addr) : Prop where
  top : H a = some (.tup [nV l.many, .ref g, .ref o])
  gt : H g = some (.tup (ps.map V.ref))
  ts : TabsAt H ps l.tabs
  ot : H o = some (.tup (l.outs.map nV))
theorem LayAt.mono {H H' : Hp} {a g o : Addr} {l : Lay} {ps : List Addr} (x : LayAt H a l g o ps) (k : ∀ b xs, H b = some (.tup xs) → H' b = some (.tup xs)) : LayAt H' a l g o ps := ⟨k _ _ x.top, k _ _ x.gt, x.ts.mono k, k _ _ x.ot⟩
end GX
set_option Elab.async false
set_option linter.all false
set_option maxRecDepth 100000
set_option maxHeartbeats 4000000
/-! Contents at rows. -/
namespace GX
open PySem PySem.Spec PyProof.Rows L2
end GX
set_option Elab.async false
set_option linter.all false
set_option maxRecDepth 100000
set_option maxHeartbeats 4000000
/-! Tables without their idle places. -/
namespace GX
open PySem PySem.Spec PyProof.Rows L2
/-! ### how the program goes: from the last one down -/
/-! ### layouts as data -/
def tabD (t : List Nat × List Nat) : PyData := .tuple [.tuple ((t.1.map fun n : Nat => (n : Int)).map PyData.int), .tuple ((t.2.map fun n : Nat => (n : Int)).map PyData.int)]
def layD (l : Lay) : List PyData := [.int ((l.many : Nat) : Int), .tuple (l.tabs.map tabD), .tuple ((l.outs.map fun n : Nat => (n : Int)).map PyData.int)]
theorem tabsD_dp {K : PySem.W.Frag} {H : Hp} : ∀ {ps : List Addr} {ts : List (List Nat × List Nat)}, TabsAt H ps ts → DpAll K H (ps.map V.ref) (ts.map tabD)
  | [], ts, x => by
    have : ts = [] := List.length_eq_zero_iff.mp x.1.symm
    subst this
    exact .nil
  | p :: r, [], x => by cases x.1
  | p :: r, t :: ts, x => by
    obtain ⟨a, b, h0, h1, h2⟩ := x.2 0 p t rfl rfl
    exact .cons (.tup (SqT.of h0) (.cons (.tup (SqT.of h1) (dpNat K _ _)) (.cons (.tup (SqT.of h2) (dpNat K _ _)) .nil))) (tabsD_dp (K := K) (H := H) (ps := r) (ts := ts) ⟨by simpa using x.1, fun i p' t' e1 e2 => x.2 (i + 1) p' t' (by simpa using e1) (by simpa using e2)⟩)
theorem LayAt.dp {K : PySem.W.Frag} {H : Hp} {a g o : Addr} {l : Lay} {ps : List Addr} (x : LayAt H a l g o ps) : Dp K H (.ref a) (.tuple (layD l)) := .tup (SqT.of x.top) (.cons (.int _) (.cons (.tup (SqT.of x.gt) (tabsD_dp x.ts)) (.cons (.tup (SqT.of x.ot) (dpNat K _ _)) .nil)))
theorem LayAt.same {H H' : Hp} {a g o : Addr} {l : Lay} {ps : List Addr} (x : LayAt H a l g o ps) (s : Same H H') : LayAt H' a l g o ps := x.mono fun b xs e => s _ _ e
theorem LayAt.aft {Ts : List Addr} {H H' : Hp} {a g o : Addr} {l : Lay} {ps : List Addr} (x : LayAt H a l g o ps) (t : Tabs Ts H) (s : Aft Ts H H') : LayAt H' a l g o ps := x.mono fun b xs e => s.tup t e
end GX
set_option Elab.async false
set_option linter.all false
set_option maxRecDepth 100000
set_option maxHeartbeats 4000000
namespace K57
open PySem PySem.Spec PyProof.Rows L2 GX
open C8 (Cal pe_c pe_gc)
-- @alt one_deeper lst par=l[i],t[i]
-- @alt one_deeper tup par=t[i],t[i]
-- @alt one_deeper dk par=DK,t[i]
def topS (i : Nat) : Stmt := PySem.Challenge.pw_tablecover_k57_great_nets_eased.main.body.getD i (.Pass ⟨0, 0, 0, 0⟩)
abbrev s_wires_of : Stmt := topS 1
theorem sc_wires_of : FnScope ["mask", "wire"] ["mask"] (defScope s_wires_of) := ⟨rfl, rfl, rfl, by decide +kernel, rfl, by decide +kernel, by decide +kernel⟩
abbrev s_fits : Stmt := topS 2
theorem sc_fits : FnScope ["mask", "k", "turn"] ["mask", "k"] (defScope s_fits) := ⟨rfl, rfl, rfl, by decide +kernel, rfl, by decide +kernel, by decide +kernel⟩
abbrev s_has_part : Stmt := topS 3
theorem sc_has_part : FnScope ["masks", "mask", "part"] ["masks", "mask"] (defScope s_has_part) := ⟨rfl, rfl, rfl, by decide +kernel, rfl, by decide +kernel, by decide +kernel⟩
abbrev s_wires_in : Stmt := topS 5
theorem sc_wires_in : FnScope ["net"] ["net"] (defScope s_wires_in) := ⟨rfl, rfl, rfl, by decide +kernel, rfl, by decide +kernel, by decide +kernel⟩
abbrev s_places : Stmt := topS 7
theorem sc_places : FnScope ["net", "gate", "kind", "one", "other"] ["net", "gate"] (defScope s_places) := ⟨rfl, rfl, rfl, by decide +kernel, rfl, by decide +kernel, by decide +kernel⟩
abbrev s_gate_masks : Stmt := topS 9
theorem sc_gate_masks : FnScope ["firsts", "seconds", "k", "found", "first", "second", "mask"] ["firsts", "seconds", "k"] (defScope s_gate_masks) := ⟨rfl, rfl, rfl, by decide +kernel, rfl, by decide +kernel, by decide +kernel⟩
abbrev s_cut_masks : Stmt := topS 10
theorem sc_cut_masks : FnScope ["net", "wires", "k", "masks", "wire", "one", "other"] ["net", "wires", "k"] (defScope s_cut_masks) := ⟨rfl, rfl, rfl, by decide +kernel, rfl, by decide +kernel, by decide +kernel⟩
abbrev s_told_cuts : Stmt := topS 11
theorem sc_told_cuts : FnScope ["masks", "mask"] ["masks"] (defScope s_told_cuts) := ⟨rfl, rfl, rfl, by decide +kernel, rfl, by decide +kernel, by decide +kernel⟩
abbrev s_all_cuts : Stmt := topS 12
theorem sc_all_cuts : FnScope ["net", "k", "wires", "masks", "gate", "one", "other", "wire"] ["net", "k"] (defScope s_all_cuts) := ⟨rfl, rfl, rfl, by decide +kernel, rfl, by decide +kernel, by decide +kernel⟩
abbrev s_one_deeper : Stmt := topS 14
theorem sc_one_deeper : FnScope ["told", "wires", "wire"] ["told", "wires"] (defScope s_one_deeper) := ⟨rfl, rfl, rfl, by decide +kernel, rfl, by decide +kernel, by decide +kernel⟩
abbrev s_depths_by : Stmt := topS 15
theorem sc_depths_by : FnScope ["net", "cuts", "told", "gate", "cut"] ["net", "cuts"] (defScope s_depths_by) := ⟨rfl, rfl, rfl, by decide +kernel, rfl, by decide +kernel, by decide +kernel⟩
abbrev s_leaned : Stmt := topS 17
theorem sc_leaned : FnScope ["net", "cover", "needed", "out", "tables", "gate", "cut", "wire"] ["net", "cover"] (defScope s_leaned) := ⟨rfl, rfl, rfl, by decide +kernel, rfl, by decide +kernel, by decide +kernel⟩
abbrev s_depth_by : Stmt := topS 18
theorem sc_depth_by : FnScope ["net", "cover", "told", "wire", "gate", "cut", "out"] ["net", "cover"] (defScope s_depth_by) := ⟨rfl, rfl, rfl, by decide +kernel, rfl, by decide +kernel, by decide +kernel⟩
abbrev s_chosen : Stmt := topS 20
theorem sc_chosen : FnScope ["cuts", "told", "cut"] ["cuts", "told"] (defScope s_chosen) := ⟨rfl, rfl, rfl, by decide +kernel, rfl, by decide +kernel, by decide +kernel⟩
abbrev s_all_choices : Stmt := topS 21
theorem sc_all_choices : FnScope ["net", "cuts", "told", "gate"] ["net", "cuts"] (defScope s_all_choices) := ⟨rfl, rfl, rfl, by decide +kernel, rfl, by decide +kernel, by decide +kernel⟩
abbrev s__law_deck : Stmt := topS 28
theorem sc__law_deck : FnScope ["_law_script", "_law_cells"] ["_law_script"] (defScope s__law_deck) := ⟨rfl, rfl, rfl, by decide +kernel, rfl, by decide +kernel, by decide +kernel⟩
abbrev s__law_draw : Stmt := topS 29
theorem sc__law_draw : FnScope ["_law_deck_here", "_law_most", "_law_cell", "_law_number"] ["_law_deck_here", "_law_most"] (defScope s__law_draw) := ⟨rfl, rfl, rfl, by decide +kernel, rfl, by decide +kernel, by decide +kernel⟩
abbrev s__law_gate : Stmt := topS 30
theorem sc__law_gate : FnScope ["_law_deck_here", "_law_many", "_law_wire", "_law_way", "_law_reach", "_law_twice", "_law_one", "_law_other"] ["_law_deck_here", "_law_many", "_law_wire", "_law_way"] (defScope s__law_gate) := ⟨rfl, rfl, rfl, by decide +kernel, rfl, by decide +kernel, by decide +kernel⟩
abbrev s__law_net : Stmt := topS 31
theorem sc__law_net : FnScope ["_law_deck_here", "_law_inputs", "_law_gates", "_law_way", "_law_many", "_law_count", "_law_made", "_law_k", "_law_outs", "_law_far"] ["_law_deck_here", "_law_inputs", "_law_gates"] (defScope s__law_net) := ⟨rfl, rfl, rfl, by decide +kernel, rfl, by decide +kernel, by decide +kernel⟩
abbrev s__law_held : Stmt := topS 32
theorem sc__law_held : FnScope ["_law_one", "_law_other", "_law_wire"] ["_law_one", "_law_other"] (defScope s__law_held) := ⟨rfl, rfl, rfl, by decide +kernel, rfl, by decide +kernel, by decide +kernel⟩
abbrev s__law_least : Stmt := topS 33
theorem sc__law_least : FnScope ["_law_some", "_law_kept", "_law_many", "_law_cut", "_law_one"] ["_law_some"] (defScope s__law_least) := ⟨rfl, rfl, rfl, by decide +kernel, rfl, by decide +kernel, by decide +kernel⟩
abbrev s__law_cuts : Stmt := topS 34
theorem sc__law_cuts : FnScope ["_law_net_here", "_law_k", "_law_cuts_here", "_law_wire", "_law_kind", "_law_one", "_law_other", "_law_some", "_law_first", "_law_second", "_law_cut"] ["_law_net_here", "_law_k"] (defScope s__law_cuts) := ⟨rfl, rfl, rfl, by decide +kernel, rfl, by decide +kernel, by decide +kernel⟩
abbrev s__law_depths : Stmt := topS 35
theorem sc__law_depths : FnScope ["_law_net_here", "_law_cuts_here", "_law_known", "_law_gate_here", "_law_wire", "_law_cut"] ["_law_net_here", "_law_cuts_here"] (defScope s__law_depths) := ⟨rfl, rfl, rfl, by decide +kernel, rfl, by decide +kernel, by decide +kernel⟩
abbrev s__law_same : Stmt := topS 45
theorem sc__law_same : FnScope ["_law_found", "_law_due", "_law_k"] ["_law_found", "_law_due"] (defScope s__law_same) := ⟨rfl, rfl, rfl, by decide +kernel, rfl, by decide +kernel, by decide +kernel⟩
abbrev s_turned : Stmt := topS 23
theorem sc_turned : FnScope ["net", "choices", "cover", "turn", "tables"] ["net", "choices", "cover", "turn"] (defScope s_turned) := ⟨rfl, rfl, rfl, by decide +kernel, rfl, by decide +kernel, by decide +kernel⟩
abbrev s_turns_of : Stmt := topS 24
theorem sc_turns_of : FnScope ["cuts", "cover", "gate", "held", "cut"] ["cuts", "cover"] (defScope s_turns_of) := ⟨rfl, rfl, rfl, by decide +kernel, rfl, by decide +kernel, by decide +kernel⟩
abbrev s_first_good : Stmt := topS 25
theorem sc_first_good : FnScope ["net", "cuts", "choices", "depth", "cover", "turn", "told"] ["net", "cuts", "choices", "depth", "cover"] (defScope s_first_good) := ⟨rfl, rfl, rfl, by decide +kernel, rfl, by decide +kernel, by decide +kernel⟩
abbrev s_eased : Stmt := topS 26
theorem sc_eased : FnScope ["net", "k", "depth", "cover", "cuts", "choices", "eased_cover", "turns", "found", "turn"] ["net", "k", "depth", "cover"] (defScope s_eased) := ⟨rfl, rfl, rfl, by decide +kernel, rfl, by decide +kernel, by decide +kernel⟩
abbrev s__law_choices : Stmt := topS 36
theorem sc__law_choices : FnScope ["_law_net_here", "_law_cuts_here", "_law_known", "_law_found", "_law_gate_here", "_law_some", "_law_cut", "_law_wire"] ["_law_net_here", "_law_cuts_here", "_law_known"] (defScope s__law_choices) := ⟨rfl, rfl, rfl, by decide +kernel, rfl, by decide +kernel, by decide +kernel⟩
abbrev s__law_needed : Stmt := topS 37
theorem sc__law_needed : FnScope ["_law_net_here", "_law_table", "_law_chosen", "_law_found", "_law_waiting", "_law_wire", "_law_gate_here"] ["_law_net_here", "_law_table", "_law_chosen"] (defScope s__law_needed) := ⟨rfl, rfl, rfl, by decide +kernel, rfl, by decide +kernel, by decide +kernel⟩
abbrev s__law_depth : Stmt := topS 38
theorem sc__law_depth : FnScope ["_law_net_here", "_law_table", "_law_deep", "_law_wire", "_law_gate_here"] ["_law_net_here", "_law_table"] (defScope s__law_depth) := ⟨rfl, rfl, rfl, by decide +kernel, rfl, by decide +kernel, by decide +kernel⟩
abbrev s__law_wider : Stmt := topS 39
theorem sc__law_wider : FnScope ["_law_deck_here", "_law_net_here", "_law_gate_here", "_law_cut", "_law_k"] ["_law_deck_here", "_law_net_here", "_law_gate_here", "_law_cut", "_law_k"] (defScope s__law_wider) := ⟨rfl, rfl, rfl, by decide +kernel, rfl, by decide +kernel, by decide +kernel⟩
abbrev s__law_lean : Stmt := topS 40
theorem sc__law_lean : FnScope ["_law_deck_here", "_law_net_here", "_law_cuts_here", "_law_k", "_law_chosen", "_law_way", "_law_gate_here", "_law_some", "_law_places", "_law_drawn"] ["_law_deck_here", "_law_net_here", "_law_cuts_here", "_law_k"] (defScope s__law_lean) := ⟨rfl, rfl, rfl, by decide +kernel, rfl, by decide +kernel, by decide +kernel⟩
abbrev s__law_cover : Stmt := topS 41
theorem sc__law_cover : FnScope ["_law_table", "_law_gate_here"] ["_law_table"] (defScope s__law_cover) := ⟨rfl, rfl, rfl, by decide +kernel, rfl, by decide +kernel, by decide +kernel⟩
abbrev s__law_turned : Stmt := topS 42
theorem sc__law_turned : FnScope ["_law_net_here", "_law_table", "_law_chosen", "_law_gate_here", "_law_cut", "_law_more"] ["_law_net_here", "_law_table", "_law_chosen", "_law_gate_here", "_law_cut"] (defScope s__law_turned) := ⟨rfl, rfl, rfl, by decide +kernel, rfl, by decide +kernel, by decide +kernel⟩
abbrev s__law_good_turn : Stmt := topS 43
theorem sc__law_good_turn : FnScope ["_law_net_here", "_law_cuts_here", "_law_table", "_law_chosen", "_law_depth_here", "_law_gate_here", "_law_cut", "_law_other"] ["_law_net_here", "_law_cuts_here", "_law_table", "_law_chosen", "_law_depth_here"] (defScope s__law_good_turn) := ⟨rfl, rfl, rfl, by decide +kernel, rfl, by decide +kernel, by decide +kernel⟩
abbrev s__law_eased : Stmt := topS 44
theorem sc__law_eased : FnScope ["_law_net_here", "_law_cuts_here", "_law_table", "_law_chosen", "_law_depth_here", "_law_turns", "_law_turn"] ["_law_net_here", "_law_cuts_here", "_law_table", "_law_chosen", "_law_depth_here"] (defScope s__law_eased) := ⟨rfl, rfl, rfl, by decide +kernel, rfl, by decide +kernel, by decide +kernel⟩
abbrev s__law_great : Stmt := topS 46
theorem sc__law_great : FnScope ["_law_deck_here", "_law_most", "_law_many", "_law_gates", "_law_outs", "_law_way", "_law_k"] ["_law_deck_here", "_law_most"] (defScope s__law_great) := ⟨rfl, rfl, rfl, by decide +kernel, rfl, by decide +kernel, by decide +kernel⟩
abbrev s__law_chain : Stmt := topS 47
theorem sc__law_chain : FnScope ["_law_deck_here", "_law_most", "_law_many", "_law_gates", "_law_k"] ["_law_deck_here", "_law_most"] (defScope s__law_chain) := ⟨rfl, rfl, rfl, by decide +kernel, rfl, by decide +kernel, by decide +kernel⟩
abbrev s__law_right : Stmt := topS 48
theorem sc__law_right : FnScope ["_law_net_here", "_law_k", "_law_table", "_law_more", "_law_cuts_here", "_law_chosen", "_law_depth_here", "_law_due", "_law_told"] ["_law_net_here", "_law_k", "_law_table", "_law_more"] (defScope s__law_right) := ⟨rfl, rfl, rfl, by decide +kernel, rfl, by decide +kernel, by decide +kernel⟩
abbrev s_law : Stmt := topS 49
theorem sc_law : FnScope ["_law_script", "_law_deck_here", "_law_k", "_law_most", "_law_net_here", "_law_cuts_here", "_law_turn", "_law_table", "_law_j"] ["_law_script"] (defScope s_law) := ⟨rfl, rfl, rfl, by decide +kernel, rfl, by decide +kernel, by decide +kernel⟩
structure Txt (mg : Str → Option Value) : Prop where
  b_bool : mg "bool" = none
  b_dict : mg "dict" = none
  b_int : mg "int" = none
  b_isinstance : mg "isinstance" = none
  b_len : mg "len" = none
  b_list : mg "list" = none
  b_max : mg "max" = none
  b_min : mg "min" = none
  b_range : mg "range" = none
  b_reversed : mg "reversed" = none
  b_set : mg "set" = none
  b_sorted : mg "sorted" = none
  b_str : mg "str" = none
  b_sum : mg "sum" = none
  b_tuple : mg "tuple" = none
section
variable {P : Program} {w : World} {K : PySem.W.Frag} {mg : Str → Option Value} {base : Heap} {Ts : List Addr}
def spWires : Sp := fun vs H Q _ => ∃ (a : Addr) (n : Net) (g o : Addr) (ps : List Addr), vs = [.ref a] ∧ NetAt H a n g o ps ∧ Q (nV (n.many + n.gates.length)) H
theorem ok_wires {f c : Addr} (D : Dfn K mg "wires_in" s_wires_in f c) (T : Txt mg) : Cal P w K mg base 1 "wires_in" spWires [] := by
  refine cal D (fun _ _ _ _ _ _ us hl => match us, hl with | [_], _ => rfl) sc_wires_in (fun vs H Q E h => ?_) (fun A outer s H vs Q E hr h => ?_)
  · obtain ⟨a, n, g, o, ps, rfl, _⟩ := h
    rfl
  · obtain ⟨a, n, g, o, ps, rfl, N, q⟩ := h
    refine ⟨_, (pss_one (ps_ret (pe_op op_add (pe_ix ix_tup (pv 0) pe_int (fun _ _ => rfl)) (pe_callB call_len_seq (by rfl) T.b_len (by decide +kernel) (pa_cons (pe_ix ix_tup (pv 0) pe_int (fun _ _ => rfl)) pa_nil))))), ?_⟩
    refine ⟨_, rfl, a, _, 0, _, rfl, rfl, SqT.of N.top, at0, _, rfl, a, _, 1, _, rfl, rfl, SqT.of N.top, at1, g, _, rfl, .inr (SqT.of N.gt), _, _, rfl, rfl, ?_⟩
    have e : (V.int ((n.many : Int) + ((ps.map V.ref).length : Int))) = nV (n.many + n.gates.length) := by
      rw [List.length_map, N.gs.1]
      rfl
    show Q (V.int ((n.many : Int) + ((ps.map V.ref).length : Int))) H
    rw [e]
    exact q
def spPlaces : Sp := fun vs H Q _ => ∃ (a : Addr) (n : Net) (g o : Addr) (ps : List Addr) (x : Nat) (k : Nat × Nat × Nat), vs = [.ref a, nV x] ∧ NetAt H a n g o ps ∧ n.many ≤ x ∧ n.gates[x - n.many]? = some k ∧ ∀ p, H p = none → Q (.ref p) (upd H p (.tup [nV k.2.1, nV k.2.2]))
theorem ok_places {f c : Addr} (D : Dfn K mg "places" s_places f c) : Cal P w K mg base 1 "places" spPlaces [] := by
  refine cal D (fun _ _ _ _ _ _ us hl => match us, hl with | [_, _], _ => rfl) sc_places (fun vs H Q E h => ?_) (fun A outer s H vs Q E hr h => ?_)
  · obtain ⟨a, n, g, o, ps, x, k, rfl, _⟩ := h
    rfl
  · obtain ⟨a, n, g, o, ps, x, k, rfl, N, hx, hk, q⟩ := h
    refine ⟨_, (pss_cons (ps_asg (pe_ix ix_tup (pe_ix ix_tup (pv 0) pe_int (fun _ _ => rfl)) (pe_op op_sub (pv 1) (pe_ix ix_tup (pv 0) pe_int (fun _ _ => rfl))) (fun _ _ => rfl)) (pg_tup rfl (pgs_cons (pg_name (i := 2) sc_places.nd rfl (by first | exact Or.inl rfl | exact Or.inr rfl)) (pgs_cons (pg_name (i := 3) sc_places.nd rfl (by first | exact Or.inl rfl | exact Or.inr rfl)) (pgs_cons (pg_name (i := 4) sc_places.nd rfl (by first | exact Or.inl rfl | exact Or.inr rfl)) pgs_nil)))))
      (pss_one (ps_ret (pe_tup (pa_cons (pv 3) (pa_cons (pv 4) pa_nil)))))), ?_⟩
    have hil : x - n.many < ps.length := by rw [N.gs.1]; exact (List.getElem?_eq_some_iff.mp hk).1
    have hp := N.gs.2 _ _ _ (List.getElem?_eq_getElem hil) hk
    have e1 : (ps.map V.ref)[x - n.many]? = some (.ref ps[x - n.many]) := by rw [List.getElem?_map, List.getElem?_eq_getElem hil]; rfl
    refine ⟨_, rfl, a, _, 1, _, rfl, rfl, SqT.of N.top, at1, _, rfl, _, rfl, a, _, 0, _, rfl, rfl, SqT.of N.top, at0, _, _, rfl, rfl, g, _, _, _, rfl, rfl, SqT.of N.gt, (by rw [show (((x : Nat) : Int) - ((n.many : Nat) : Int)) = ((x - n.many : Nat) : Int) by omega]; exact atI_nat e1), ?_⟩
    refine ⟨_, _, rfl, SqT.of hp, rfl, _, _, rfl, _, _, rfl, _, _, rfl, rfl, ?_⟩
    exact ⟨_, rfl, _, rfl, small 2, fun p np => q p np⟩
end
section
variable {P : Program} {w : World} {K : PySem.W.Frag} {mg : Str → Option Value} {base : Heap} {Ts : List Addr}
def spWiresOf (Ts : List Addr) : Sp := fun vs H Q _ => ∃ M : Nat, vs = [nV M] ∧ M < 2 ^ 23 ∧ Tabs Ts H ∧ ∀ p H', Aft Ts H H' → H' p = some (.tup ((bitsOf M).map nV)) → Q (.ref p) H'
theorem bits_step (M i : Nat) : (List.range (i + 1)).filter (fun x => M.testBit x) = (List.range i).filter (fun x => M.testBit x) ++ (if M.testBit i = true then [i] else []) := by
  rw [List.range_succ, List.filter_append, List.filter_cons]
  rfl
theorem ok_wiresof {f c PG : Addr} (D : Dfn K mg "wires_of" s_wires_of f c) (T : Txt mg) (TB_wires_of : GxR.TabB base mg c PG) (hP : PG ∈ Ts) : Cal P w K mg base 1 "wires_of" (spWiresOf Ts) [] := by
  refine cal D (fun _ _ _ _ _ _ us hl => match us, hl with | [_], _ => rfl) sc_wires_of (fun vs H Q E h => ?_) (fun A outer s H vs Q E hr h => ?_)
  · obtain ⟨M, rfl, _⟩ := h
    rfl
  · obtain ⟨M, rfl, hM, tb, q⟩ := h
    refine ⟨_, (pss_one (ps_ret (pe_tupG (own := [("wire", 1)]) hr (by rfl) T.b_tuple TB_wires_of rfl (gxOk_by (N := ["mask", "wire"]) (sc := defScope s_wires_of) (own := [("wire", 1)]) (by decide +kernel)) sc_wires_of.nd (pi_range1 (by rfl) T.b_range (pa_cons (pe_bits (pv 0)) pa_nil)) (fun _ _ _ _ => (pg_name (i := 1) sc_wires_of.nd rfl (by first | exact Or.inl rfl | exact Or.inr rfl))) (fun _ _ _ _ => (pts_one (pt_truthK (K := K) (pe_op op_and (pe_op op_shr (pv 0) (pv 1)) pe_int) (by intro _; rfl)))) (fun _ _ _ _ => (pv 1))))), ?_⟩
    have hb : Builtin.Int.intBits ((M : Nat) : Int) ≤ 10000 := bits_small hM
    refine ⟨_, rfl, _, rfl, _, rfl, by omega, by omega, tb PG hP, fun H2 ht => ?_⟩
    have a2 : Aft Ts H H2 := ⟨Keep.tabbed hP ht, tb.tabbed ht⟩
    refine turns_it (walk_range (lo := 0) (n := ((Builtin.Int.intBits ((M : Nat) : Int) : Nat) : Int).toNat)) (fun i ys H' => ys = ((List.range i).filter fun x => M.testBit x).map nV ∧ Aft Ts H H') ⟨rfl, a2⟩ (fun i ys H' _ _ => trivial) ?_ ?_
    · rintro i x ys H3 H4 hi ⟨rfl, a3⟩ ⟨rfl, rfl⟩
      rw [Int.toNat_natCast] at hi
      refine ⟨rfl, _, rfl, _, rfl, _, _, rfl, rfl, by omega, _, _, rfl, rfl, ?_⟩
      dsimp -proj only
      rw [Int.zero_add, bit_of]
      refine ⟨_, rfl, ?_⟩
      have ev : ((((M / 2 ^ i % 2 : Nat) : Int) != 0)) = M.testBit i := by
        rw [Nat.testBit_eq_decide_div_mod_eq]
        by_cases h : M / 2 ^ i % 2 = 1
        · rw [h]
          rfl
        · rw [decide_eq_false h, show M / 2 ^ i % 2 = 0 by omega]
          rfl
      rw [ev]
      refine ite2 (fun h0 => ?_) (fun h0 => ?_)
      · refine ⟨_, rfl, ?_, fun _ => ⟨?_, a3⟩⟩
        · show (List.map nV _).length < sizeLine
          rw [List.length_map]
          exact Nat.lt_of_le_of_lt (List.length_filter_le _ _) (by rw [List.length_range]; exact small256 (by omega))
        · rw [bits_step, if_pos h0, List.map_append]
          rfl
      · refine ⟨?_, a3⟩
        rw [bits_step, if_neg h0, List.append_nil]
    · rintro ys H3 ⟨rfl, a3⟩
      rw [Int.toNat_natCast]
      refine ⟨?_, fun r hr => ?_⟩
      · rw [List.length_map]
        exact Nat.le_trans (List.length_filter_le _ _) (by rw [List.length_range]; exact Nat.le_of_lt (small256 hb))
      · exact q r _ (a3.trans (Aft.new a3.tb hr)) upd_same
def spFits : Sp := fun vs H Q _ => ∃ M k : Nat, vs = [nV M, nV k] ∧ k ≤ 1000 ∧ Q (.bl (decide (pop M ≤ k))) H
theorem ok_fits {f c : Addr} (D : Dfn K mg "fits" s_fits f c) (T : Txt mg) : Cal P w K mg base 1 "fits" spFits [] := by
  refine cal D (fun _ _ _ _ _ _ us hl => match us, hl with | [_, _], _ => rfl) sc_fits (fun vs H Q E h => ?_) (fun A outer s H vs Q E hr h => ?_)
  · obtain ⟨M, k, rfl, _⟩ := h
    rfl
  · obtain ⟨M, k, rfl, hk, q⟩ := h
    refine ⟨_, (pss_cons (ps_for PassesOwn.never rfl (pi_range1 (by rfl) T.b_range (pa_cons (pv 1) pa_nil)) (pg_name (i := 2) sc_fits.nd rfl (by first | exact Or.inl rfl | exact Or.inr rfl))
        (pss_one (ps_aug (i := 0) sc_fits.nd rfl (by first | exact Or.inl rfl | exact Or.inr rfl) (pe_op op_sub (pv 0) pe_int) ip_and)))
      (pss_one (ps_ret (pe_cmpR op_eq (pv 0) pe_int (nomark _))))), ?_⟩
    refine ⟨_, rfl, _, rfl, by omega, by omega, ?_⟩
    refine for_range (lo := 0) (n := ((k : Nat) : Int).toNat) (fun i σ H' => ∃ x2 : Option V, σ = [some (nV (clows i M)), some (nV k), x2] ∧ H' = H) ⟨none, rfl, rfl⟩ ?_ ?_
    · rintro i σ H' _ ⟨x2, rfl, rfl⟩
      refine ⟨_, rfl, _, rfl, _, _, rfl, rfl, _, _, rfl, rfl, ?_⟩
      refine ⟨some (V.int (0 + ((i : Nat) : Int))), ?_, rfl⟩
      show [some (V.int (Builtin.bitAnd ((clows i M : Nat) : Int) (((clows i M : Nat) : Int) - 1))), _, _] = _
      rw [and_low]
      rfl
    · rintro σ H' ⟨x2, rfl, rfl⟩
      rw [Int.toNat_natCast]
      refine ⟨_, rfl, rfl, ?_⟩
      have e : decide (nV (clows k M) = V.int 0) = decide (pop M ≤ k) := by
        refine decide_eq_decide.mpr ⟨fun z => (fits_iff M k).mp ?_, fun z => by rw [(fits_iff M k).mpr z]; rfl⟩
        have z' := V.int.inj z
        omega
      show Q (.bl (decide (nV (clows k M) = V.int 0))) H'
      rw [e]
      exact q
def spHasPart : Sp := fun vs H Q _ => ∃ (d : Addr) (F : List Nat) (M : Nat), vs = [.ref d, nV M] ∧ Rd H d (.dK (kvF F)) ∧ 0 < M ∧ Q (.bl (hasPart F M)) H
theorem ok_haspart {f c : Addr} (D : Dfn K mg "has_part" s_has_part f c) (T : Txt mg) : Cal P w K mg base 1 "has_part" spHasPart [] := by
  refine cal D (fun _ _ _ _ _ _ us hl => match us, hl with | [_, _], _ => rfl) sc_has_part (fun vs H Q E h => ?_) (fun A outer s H vs Q E hr h => ?_)
  · obtain ⟨d, F, M, rfl, _⟩ := h
    rfl
  · obtain ⟨d, F, M, rfl, hd, hM, q⟩ := h
    refine ⟨_, (pss_cons (ps_set (i := 2) sc_has_part.nd rfl (by first | exact Or.inl rfl | exact Or.inr rfl) (pe_op op_and (pe_op op_sub (pv 1) pe_int) (pv 1)))
      (pss_cons (ps_while PassesOwn.never (pt_cmpR op_gt (pv 2) pe_int (nomark _)) (pss_cons (ps_if (pt_cmp (pc_din (Nat.lt_of_le_of_lt (Nat.add_le_add_left (by decide) _) hr.units) (pv 2) (pv 0))) (pss_one (ps_ret pe_bl)) pss_nil)
      (pss_one (ps_set (i := 2) sc_has_part.nd rfl (by first | exact Or.inl rfl | exact Or.inr rfl) (pe_op op_and (pe_op op_sub (pv 2) pe_int) (pv 1))))))
      (pss_one (ps_ret pe_bl)))), ?_⟩
    refine ⟨_, rfl, _, _, rfl, rfl, _, rfl, _, _, rfl, rfl, ?_⟩
    dsimp -proj only
    rw [and_next hM]
    have sub1 : ∀ {p : Nat}, Sub ((p - 1) &&& M) M := fun {p} j hj => by
      rw [Nat.testBit_and] at hj
      exact (Bool.and_eq_true_iff.mp hj).2
    refine while_at (fun σ H' => ∃ p : Nat, σ = [some (.ref d), some (nV M), some (nV p)] ∧ H' = H ∧ Sub p M ∧ p < M ∧ ∀ q ∈ F, 0 < q → q ≠ M → Sub q M → q ≤ p) (fun σ _ => natOf σ 2) ⟨_, rfl, rfl, sub1, Nat.lt_of_le_of_lt Nat.and_le_left (by omega), fun q _ h0 ne sq => next_part M M M q (Nat.le_refl _) hM (Sub.refl M) sq (Nat.lt_of_le_of_ne sq.le ne)⟩ ?_
    rintro σ H' ⟨p, rfl, rfl, hp, hpM, hq⟩
    refine ⟨_, rfl, _, _, rfl, rfl, _, rfl, ite2 (fun h0 => ?_) (fun h0 => ?_)⟩
    · have p0 : 0 < p := by
        have := of_decide_eq_true h0
        omega
      refine ⟨_, whN, ?_⟩
      have dg : DGet H' d (nV p) (valV (kvF F) (nK p)) := .inl ⟨kvF F, nK p, hd, rfl, rfl⟩
      refine ⟨_, rfl, _, rfl, d, _, rfl, dg, _, rfl, ?_⟩
      rw [kvF_some]
      refine ite2 (fun hin => ?_) (fun hin => ?_)
      · have e : hasPart F M = true := hasPart_iff.mpr ⟨p, of_decide_eq_true hin, p0, Nat.ne_of_lt hpM, hp⟩
        rw [e] at q
        exact q
      · refine ⟨_, rfl, _, _, rfl, rfl, _, rfl, _, _, rfl, rfl, ?_⟩
        dsimp -proj only
        rw [and_next p0]
        have lt : (p - 1) &&& M < p := Nat.lt_of_le_of_lt Nat.and_le_left (by omega)
        refine ⟨⟨_, rfl, rfl, sub1, by omega, fun q hqF h0 ne sq => ?_⟩, ?_⟩
        · have le := hq q hqF h0 ne sq
          have ne2 : q ≠ p := fun z => hin (decide_eq_true (by rw [← z]; exact hqF))
          exact next_part p p M q (Nat.le_refl _) p0 hp sq (by omega)
        · exact lt
    · have p0 : p = 0 := by
        refine Classical.not_not.mp fun z => h0 (decide_eq_true ?_)
        show ((p : Nat) : Int) > 0
        omega
      have e : hasPart F M = false := by
        cases e : hasPart F M with
        | false => rfl
        | true =>
          obtain ⟨q', h1, h2, h3, h4⟩ := hasPart_iff.mp e
          have := hq q' h1 h2 h3 h4
          omega
      rw [e] at q
      exact q
def spGateMasks : Sp := fun vs H Q _ => ∃ (la lb : Addr) (fs ss : List Nat) (k : Nat), vs = [.ref la, .ref lb, nV k] ∧ H la = some (.lst (fs.map nV)) ∧ H lb = some (.lst (ss.map nV)) ∧ (∀ f ∈ fs, 0 < f ∧ f < 2 ^ 23) ∧ (∀ f ∈ ss, f < 2 ^ 23) ∧ k ≤ 1000 ∧
  ∀ p H' (F : List Nat), Same H H' → H p = none → H' p = some (.lst ((F.filter fun M => !hasPart F M).map nV)) → F.Nodup → (∀ M ∈ F, M < 2 ^ 23) → Found k fs ss F → Q (.ref p) H'
theorem ok_gatemasks {f c : Addr} (D : Dfn K mg "gate_masks" s_gate_masks f c) (T : Txt mg) (c_fits : Cal P w K mg base 1 "fits" spFits []) (c_has_part : Cal P w K mg base 1 "has_part" spHasPart []) : Cal P w K mg base 2 "gate_masks" spGateMasks [] := by
  refine cal D (fun _ _ _ _ _ _ us hl => match us, hl with | [_, _, _], _ => rfl) sc_gate_masks (fun vs H Q E h => ?_) (fun A outer s H vs Q E hr h => ?_)
  · obtain ⟨la, lb, fs, ss, k, rfl, _⟩ := h
    rfl
  · obtain ⟨la, lb, fs, ss, k, rfl, hla, hlb, hfs, hss, hk, q⟩ := h
    refine ⟨_, (pss_cons (ps_set (i := 3) sc_gate_masks.nd rfl (by first | exact Or.inl rfl | exact Or.inr rfl) pe_dnewK)
      (pss_cons (ps_for PassesOwn.never rfl (pi_list (pv 0)) (pg_name (i := 4) sc_gate_masks.nd rfl (by first | exact Or.inl rfl | exact Or.inr rfl))
        (pss_one (ps_for PassesOwn.never rfl (pi_list (pv 1)) (pg_name (i := 5) sc_gate_masks.nd rfl (by first | exact Or.inl rfl | exact Or.inr rfl))
        (pss_one (ps_if (pt_val (pe_c c_fits hr (by decide) (by rfl) (pa_cons (pe_op op_or (pv 4) (pv 5)) (pa_cons (pv 2) pa_nil)))) (pss_one (ps_dput (Nat.lt_of_le_of_lt (Nat.add_le_add_left (by decide) _) hr.units) (pv 3) (pe_op op_or (pv 4) (pv 5)) pe_bl (by rfl))) pss_nil)))))
      (pss_one (ps_ret (pe_lock (pe_lc (own := [("mask", 6)]) (g := gName 6)  rfl sc_gate_masks.nd (pi_keys (pv 3)) (blkOk_by (own := [("mask", 6)]) (N := ["firsts", "seconds", "k", "found", "first", "second", "mask"]) (sc := defScope s_gate_masks) (by decide +kernel)) (fun _ _ _ _ _ => (pg_name (i := 6) sc_gate_masks.nd rfl (by first | exact Or.inl rfl | exact Or.inr rfl))) (fun _ _ _ _ _ => (pts_one (pt_not (pt_val (pe_c c_has_part hr (by decide) (by rfl) (pa_cons (pv 3) (pa_cons (pv 6) pa_nil))))))) (fun _ _ _ _ _ => (pv 6)))))))), ?_⟩
    refine fun d nd => ?_
    have s1 := Same.new (o := .dK []) nd
    have putA : ∀ {Hx : Hp} {u : HO}, Same H Hx → Same H (upd Hx d u) := fun {Hx u} x b o e => by rw [upd_ne (ne_of_none e nd)]; exact x b o e
    have hd1 : upd H d (.dK []) d = some (.dK (kvF [])) := upd_same
    generalize upd H d (.dK []) = H1 at s1 hd1 ⊢
    refine ⟨_, rfl, la, rfl, ⟨_, SqL.of (s1 _ _ hla)⟩, ?_⟩
    refine for_list (K := K) (a := la) (xs := fs.map nV) (fun i σ H' => ∃ (x4 x5 x6 : Option V) (F : List Nat), σ = [some (.ref la), some (.ref lb), some (nV k), some (.ref d), x4, x5, x6] ∧ Same H H' ∧ H' d = some (.dK (kvF F)) ∧ F.Nodup ∧ (∀ M ∈ F, 0 < M ∧ M < 2 ^ 23) ∧ FoundW k fs ss i 0 F) ⟨none, none, none, [], rfl, s1, hd1, List.nodup_nil, fun M hM => (by cases hM), FoundW.zero _ _ _⟩ ?_ ?_ ?_
    · rintro i σ H' _ ⟨_, _, _, _, _, s', _⟩
      exact SqL.of (s' _ _ hla)
    · rintro i x σ H2 hx ⟨x4, x5, x6, F, rfl, s2, hd2, nF, lF, fw⟩
      have hi : i < fs.length := by
        have := (List.getElem?_eq_some_iff.mp hx).1
        rwa [List.length_map] at this
      rw [natAt hi] at hx
      cases hx
      obtain ⟨f0, f23⟩ := hfs _ (getD_mem hi)
      refine ⟨_, rfl, lb, rfl, ⟨_, SqL.of (s2 _ _ hlb)⟩, ?_⟩
      refine for_list (K := K) (a := lb) (xs := ss.map nV) (fun j σ H' => ∃ (x5 x6 : Option V) (F : List Nat), σ = [some (.ref la), some (.ref lb), some (nV k), some (.ref d), some (nV (fs.getD i 0)), x5, x6] ∧ Same H H' ∧ H' d = some (.dK (kvF F)) ∧ F.Nodup ∧ (∀ M ∈ F, 0 < M ∧ M < 2 ^ 23) ∧ FoundW k fs ss i j F) ⟨_, _, F, rfl, s2, hd2, nF, lF, fw⟩ ?_ ?_ ?_
      · rintro j σ H' _ ⟨_, _, _, _, s', _⟩
        exact SqL.of (s' _ _ hlb)
      · rintro j x σ H3 hx ⟨x5, x6, F, rfl, s3, hd3, nF, lF, fw⟩
        have hj : j < ss.length := by
          have := (List.getElem?_eq_some_iff.mp hx).1
          rwa [List.length_map] at this
        rw [natAt hj] at hx
        cases hx
        have s23 := hss _ (getD_mem hj)
        have o23 := or_lt23 f23 s23
        have o0 : 0 < fs.getD i 0 ||| ss.getD j 0 := Nat.lt_of_lt_of_le f0 (sub_or_left _ _).le
        refine ⟨_, rfl, _, rfl, _, _, rfl, rfl, _, rfl, fs.getD i 0 ||| ss.getD j 0, k, (by show [V.int (Builtin.bitOr _ _), _] = _; rw [or_of]; rfl), hk, _, rfl, ite2 (fun hp => ?_) (fun hp => ?_)⟩
        · have hp' := of_decide_eq_true hp
          refine ⟨_, rfl, _, rfl, _, rfl, _, _, rfl, rfl, ?_⟩
          dsimp -proj only
          rw [or_of]
          generalize hM : fs.getD i 0 ||| ss.getD j 0 = M at o23 o0 hp' ⊢
          refine ⟨d, _, rfl, DPut.k (k := nK M) hd3 (by rw [kvF_len]; exact nodup_lt23 nF fun M h => (lF M h).2), ?_⟩
          by_cases e : M ∈ F
          · rw [kvF_again e]
            exact ⟨_, _, F, rfl, putA s3, upd_same, nF, lF, fw.yes hj (by rw [hM]; exact hp') fun M' => by
              rw [hM]
              exact ⟨.inl, fun z => z.elim id fun z => by rw [z]; exact e⟩⟩
          · rw [kvF_put e]
            refine ⟨_, _, F ++ [M], rfl, putA s3, upd_same, nodup_snoc nF e, fun M' h => ?_, fw.yes hj (by rw [hM]; exact hp') fun M' => by rw [hM, List.mem_append, List.mem_singleton]⟩
            rcases List.mem_append.mp h with h | h
            · exact lF M' h
            · rw [List.mem_singleton.mp h]
              exact ⟨o0, o23⟩
        · exact ⟨_, _, F, rfl, s3, hd3, nF, lF, fw.no hj fun z => hp (decide_eq_true z)⟩
      · rintro σ H3 ⟨x5, x6, F, rfl, s3, hd3, nF, lF, fw⟩
        rw [List.length_map] at fw
        exact ⟨_, _, _, F, rfl, s3, hd3, nF, lF, fw.row hi⟩
    · rintro σ H2 ⟨x4, x5, x6, F, rfl, s2, hd2, nF, lF, fw⟩
      rw [List.length_map] at fw
      have fl := nodup_lt23 nF fun M h => (lF M h).2
      refine ⟨d, .dK (kvF F), hd2, trivial, fun od => ⟨_, rfl, d, od, rfl, .inl ⟨kvF F, upd_same, fun S nS => ?_⟩⟩⟩
      have hdl : upd H2 d (.frz od (.dK (kvF F))) d = some (.frz od (.dK (kvF F))) := upd_same
      have sl : Same H (upd H2 d (.frz od (.dK (kvF F)))) := putA s2
      generalize upd H2 d (.frz od (.dK (kvF F))) = Hl at nS hdl sl ⊢
      refine lc_it (walk_keys (kvs := kvF F)) (fun i H' => Own Hl H' S (((F.take i).filter fun M => !hasPart F M).map nV)) ⟨Same.new nS, upd_same, nS⟩ (fun i H' _ o' => o'.sm _ _ hdl) ?_ ?_
      · rintro i x H3 H4 hi o3 ⟨rfl, kk, v, hkv, rfl⟩
        rw [kvF_len] at hi
        have ek : kk = nK (F.getD i 0) := by
          unfold kvF at hkv
          rw [List.getElem?_map, List.getElem?_eq_getElem hi] at hkv
          rw [List.getD_eq_getElem?_getD, List.getElem?_eq_getElem hi]
          have := Option.some.inj hkv
          exact (congrArg Prod.fst this).symm
        subst ek
        have hm := getD_mem hi
        have ef : (F.take (i + 1)).filter (fun M => !hasPart F M) = (F.take i).filter (fun M => !hasPart F M) ++ (if (!hasPart F (F.getD i 0)) = true then [F.getD i 0] else []) := by
          rw [List.take_add_one, List.filter_append, List.getD_eq_getElem?_getD, List.getElem?_eq_getElem hi, Option.toList_some, List.filter_cons]
          rfl
        generalize F.getD i 0 = z at hm ef ⊢
        refine ⟨rfl, _, rfl, _, rfl, d, F, z, rfl, .inr ⟨od, o3.sm _ _ hdl⟩, (lF z hm).1, _, rfl, ite2 (fun hg => ?_) (fun hg => ?_)⟩
        · refine ⟨_, rfl, _, o3.at_, ?_, ?_⟩
          · rw [List.length_map]
            exact Nat.lt_of_le_of_lt (List.length_filter_le _ _) (by rw [List.length_take]; omega)
          · rw [ef, if_pos hg, List.map_append]
            exact o3.app
        · show Own Hl H4 S _
          rw [ef, if_neg hg, List.append_nil]
          exact o3
      · rintro H3 o3
        rw [kvF_len, List.take_length] at o3
        refine ⟨o3.sm _ _ hdl, ?_⟩
        have Sd : S ≠ d := fun z => by rw [z, hdl] at nS; cases nS
        have s4 : Same H (upd H3 d (.dK (kvF F))) := putA (sl.trans o3.sm)
        have S0 : H S = none := Classical.not_not.mp fun z => by
          obtain ⟨u, hu⟩ := Option.ne_none_iff_exists'.mp z
          rw [sl _ _ hu] at nS
          cases nS
        exact q S _ F s4 S0 (by rw [upd_ne Sd]; exact o3.at_) nF (fun M h => (lF M h).2) fw.all
end
section
variable {P : Program} {w : World} {K : PySem.W.Frag} {mg : Str → Option Value} {base : Heap} {Ts : List Addr}
structure WsOk (n : Net) (ws : List Nat) : Prop where
  ris : ws.Pairwise (· < ·)
  lt : ∀ x ∈ ws, x < n.many + n.gates.length
  clo : ∀ x ∈ ws, ∀ k, n.many ≤ x → n.gates[x - n.many]? = some k → k.2.1 ∈ ws ∧ k.2.2 ∈ ws
def spCutMasks : Sp := fun vs H Q _ => ∃ (a wa : Addr) (n : Net) (g o : Addr) (ps : List Addr) (ws : List Nat) (k : Nat), vs = [.ref a, .ref wa, nV k] ∧ NetAt H a n g o ps ∧ n.Ok ∧ H wa = some (.lst (ws.map nV)) ∧ WsOk n ws ∧ 1 ≤ k ∧ k ≤ 1000 ∧
  ∀ d H' kvs, Same H H' → H' d = some (.dK kvs) → (∀ x ∈ ws, CutsIn n k H' kvs x) → Q (.ref d) H'
theorem ok_cutmasks {f c : Addr} (D : Dfn K mg "cut_masks" s_cut_masks f c) (T : Txt mg) (c_places : Cal P w K mg base 1 "places" spPlaces []) (c_gate_masks : Cal P w K mg base 2 "gate_masks" spGateMasks []) : Cal P w K mg base 3 "cut_masks" spCutMasks [] := by
  refine cal D (fun _ _ _ _ _ _ us hl => match us, hl with | [_, _, _], _ => rfl) sc_cut_masks (fun vs H Q E h => ?_) (fun A outer s H vs Q E hr h => ?_)
  · obtain ⟨a, wa, n, g, o, ps, ws, k, rfl, _⟩ := h
    rfl
  · obtain ⟨a, wa, n, g, o, ps, ws, k, rfl, N, ok, hwa, wok, hk1, hk, q⟩ := h
    have m8 := ok.m8
    have g16 := ok.g16
    refine ⟨_, (pss_cons (ps_set (i := 3) sc_cut_masks.nd rfl (by first | exact Or.inl rfl | exact Or.inr rfl) pe_dnewK)
      (pss_cons (ps_for PassesOwn.never rfl (pi_list (pv 1)) (pg_name (i := 4) sc_cut_masks.nd rfl (by first | exact Or.inl rfl | exact Or.inr rfl))
        (pss_cons (ps_dput (Nat.lt_of_le_of_lt (Nat.add_le_add_left (by decide) _) hr.units) (pv 3) (pv 4) (pe_lst pa_nil) (by rfl))
      (pss_one (ps_if (pt_cmpR op_ge (pv 4) (pe_ix ix_tup (pv 0) pe_int (fun _ _ => rfl)) (nomark _)) (pss_cons (ps_asg (pe_c c_places hr (by decide) (by rfl) (pa_cons (pv 0) (pa_cons (pv 4) pa_nil))) (pg_tup rfl (pgs_cons (pg_name (i := 5) sc_cut_masks.nd rfl (by first | exact Or.inl rfl | exact Or.inr rfl)) (pgs_cons (pg_name (i := 6) sc_cut_masks.nd rfl (by first | exact Or.inl rfl | exact Or.inr rfl)) pgs_nil))))
      (pss_one (ps_dput (Nat.lt_of_le_of_lt (Nat.add_le_add_left (by decide) _) hr.units) (pv 3) (pv 4) (pe_c c_gate_masks hr (by decide) (by rfl) (pa_cons (pe_op op_cat (pe_dget (Nat.lt_of_le_of_lt (Nat.add_le_add_left (by decide) _) hr.units) (pv 3) (pv 5) (fun _ _ => rfl)) (pe_lst (pa_cons (pe_op op_shl pe_int (pv 5)) pa_nil))) (pa_cons (pe_op op_cat (pe_dget (Nat.lt_of_le_of_lt (Nat.add_le_add_left (by decide) _) hr.units) (pv 3) (pv 6) (fun _ _ => rfl)) (pe_lst (pa_cons (pe_op op_shl pe_int (pv 6)) pa_nil))) (pa_cons (pv 2) pa_nil)))) (by rfl)))) pss_nil))))
      (pss_one (ps_ret (pv 3))))), ?_⟩
    refine fun d nd => ?_
    have s1 := Same.new (o := .dK []) nd
    have putA : ∀ {Hx : Hp} {u : HO}, Same H Hx → Same H (upd Hx d u) := fun {Hx u} x b o e => by rw [upd_ne (ne_of_none e nd)]; exact x b o e
    have putL : ∀ {Hx : Hp} {u : HO} {kvs : List (L2.Key × V)}, Hx d = some (.dK kvs) → ∀ b zs, Hx b = some (.lst zs) → upd Hx d u b = some (.lst zs) := fun {Hx u kvs} hd b zs e => by
      rw [upd_ne (fun z => by rw [z, hd] at e; cases e)]
      exact e
    have hd1 : upd H d (.dK []) d = some (.dK []) := upd_same
    generalize upd H d (.dK []) = H1 at s1 hd1 ⊢
    have wl : ws.length ≤ 24 := by
      have nd : ws.Nodup := wok.ris.imp fun h => Nat.ne_of_lt h
      have := nd.length_le_of_subset (l₂ := List.range (n.many + n.gates.length)) fun x hx => List.mem_range.mpr (wok.lt x hx)
      rw [List.length_range] at this
      omega
    refine ⟨_, rfl, wa, rfl, ⟨_, SqL.of (s1 _ _ hwa)⟩, ?_⟩
    refine for_list (K := K) (a := wa) (xs := ws.map nV) (fun i σ H' => ∃ (x4 x5 x6 : Option V) (kvs : List (L2.Key × V)), σ = [some (.ref a), some (.ref wa), some (nV k), some (.ref d), x4, x5, x6] ∧ Same H H' ∧ H' d = some (.dK kvs) ∧ kvs.length ≤ 2 * i ∧ ∀ x ∈ ws.take i, CutsIn n k H' kvs x) ⟨none, none, none, [], rfl, s1, hd1, Nat.le_refl _, fun x hx => (by cases hx)⟩ ?_ ?_ ?_
    · rintro i σ H' _ ⟨_, _, _, _, _, s', _⟩
      exact SqL.of (s' _ _ hwa)
    · rintro i x σ H2 hx ⟨x4, x5, x6, kvs, rfl, s2, hd2, kl, ci⟩
      have hi : i < ws.length := by
        have := (List.getElem?_eq_some_iff.mp hx).1
        rwa [List.length_map] at this
      rw [natAt hi] at hx
      cases hx
      have hx := getD_mem hi
      have xlt := wok.lt _ hx
      have tk := mem_take_succ hi
      have inT : ∀ y ∈ ws, y < ws.getD i 0 → y ∈ ws.take i := fun y hy h => mem_take_lt wok.ris hi hy h
      have ne : ∀ y ∈ ws.take i, y ≠ ws.getD i 0 := fun y hy => Nat.ne_of_lt (not_mem_take wok.ris hi hy)
      have clo := wok.clo _ hx
      generalize ws.getD i 0 = x at hx xlt tk inT ne clo ⊢
      refine ⟨small 0, fun L nL => ⟨_, rfl, _, rfl, d, _, rfl, DPut.k (k := nK x) (Same.new nL _ _ hd2) (small256 (by omega)), ?_⟩⟩
      have hdL : upd H2 L (.lst []) d = some (.dK kvs) := Same.new nL _ _ hd2
      have s3 : Same H (upd (upd H2 L (.lst [])) d (.dK (putK kvs (nK x) (.ref L)))) := putA (s2.trans (Same.new nL))
      have hd3 : upd (upd H2 L (.lst [])) d (.dK (putK kvs (nK x) (.ref L))) d = some (.dK (putK kvs (nK x) (.ref L))) := upd_same
      have hL3 : upd (upd H2 L (.lst [])) d (.dK (putK kvs (nK x) (.ref L))) L = some (.lst []) := putL hdL _ _ upd_same
      have ci3 : ∀ y ∈ ws.take i, CutsIn n k (upd (upd H2 L (.lst [])) d (.dK (putK kvs (nK x) (.ref L)))) (putK kvs (nK x) (.ref L)) y := fun y hy => ((ci y hy).mono fun b zs e => putL hdL _ _ (Same.new nL _ _ e)).put (ne y hy)
      generalize upd (upd H2 L (.lst [])) d (.dK (putK kvs (nK x) (.ref L))) = H3 at s3 hd3 hL3 ci3 ⊢
      have kl3 := putK_le kvs (nK x) (.ref L)
      have val3 : valV (putK kvs (nK x) (.ref L)) (nK x) = some (.ref L) := by rw [valV_put, if_pos rfl]
      generalize putK kvs (nK x) (.ref L) = kv3 at hd3 ci3 kl3 val3 ⊢
      have N3 := N.same s3
      refine ⟨_, rfl, _, rfl, a, _, 0, _, rfl, rfl, SqT.of N3.top, at0, _, _, rfl, rfl, _, rfl, ite2 (fun hg => ?_) (fun hg => ?_)⟩
      · have hg' : n.many ≤ x := by
          have := of_decide_eq_true hg
          omega
        obtain ⟨kk, hkk⟩ : ∃ kk, n.gates[x - n.many]? = some kk := ⟨_, List.getElem?_eq_getElem (by omega)⟩
        obtain ⟨c1, c2⟩ := clo kk hg' hkk
        have l1 := place_lt ok hg' hkk (.inl rfl)
        have l2 := place_lt ok hg' hkk (.inr rfl)
        obtain ⟨p1, ms1, v1, h1, ml1, nd1⟩ := ci3 _ (inT _ c1 l1)
        obtain ⟨p2, ms2, v2, h2, ml2, nd2⟩ := ci3 _ (inT _ c2 l2)
        have lt1 := wok.lt _ c1
        have lt2 := wok.lt _ c2
        have f1 := ml1.full ok lt1 hk1
        have f2 := ml2.full ok lt2 hk1
        have b1 : ∀ M ∈ ms1, 0 < M ∧ M < 2 ^ 23 := fun M h => ml1.lt23 ok lt1 h
        have b2 : ∀ M ∈ ms2, 0 < M ∧ M < 2 ^ 23 := fun M h => ml2.lt23 ok lt2 h
        have lm1 := nodup_lt23 nd1 fun M h => (b1 M h).2
        have lm2 := nodup_lt23 nd2 fun M h => (b2 M h).2
        have w1 := pow_lt23 (x := kk.2.1) (by omega)
        have w2 := pow_lt23 (x := kk.2.2) (by omega)
        refine ⟨_, rfl, _, rfl, a, n, g, o, ps, x, kk, rfl, N3, hg', hkk, fun t nt => ?_⟩
        have s4 := s3.trans (Same.new (o := .tup [nV kk.2.1, nV kk.2.2]) nt)
        have ht4 : upd H3 t (.tup [nV kk.2.1, nV kk.2.2]) t = some (.tup [nV kk.2.1, nV kk.2.2]) := upd_same
        have st := Same.new (o := .tup [nV kk.2.1, nV kk.2.2]) nt
        generalize upd H3 t (.tup [nV kk.2.1, nV kk.2.2]) = H4 at s4 ht4 st ⊢
        have hd4 := st _ _ hd3
        refine ⟨t, _, rfl, SqT.of ht4, rfl, _, _, rfl, _, _, rfl, rfl, ?_⟩
        have dg1 : DGet H4 d (nV kk.2.1) (some (.ref p1)) := .inl ⟨kv3, nK kk.2.1, .inl hd4, rfl, v1.symm⟩
        refine ⟨_, rfl, _, rfl, d, _, rfl, dg1, _, rfl, _, _, rfl, rfl, ⟨by omega, by omega, by decide⟩, ?_⟩
        dsimp -proj only
        rw [shl_of]
        refine ⟨small 1, fun L1 nL1 => ⟨p1, L1, _, _, rfl, rfl, Same.new nL1 _ _ (st _ _ h1), upd_same, by rw [List.length_map]; exact lm1, fun R1 nR1 => ?_⟩⟩
        have s5 := (Same.new (o := .lst [V.int ((2 ^ kk.2.1 : Nat) : Int)]) nL1).trans (Same.new (o := .lst (ms1.map nV ++ [V.int ((2 ^ kk.2.1 : Nat) : Int)])) nR1)
        have hR1 : upd (upd H4 L1 (.lst [V.int ((2 ^ kk.2.1 : Nat) : Int)])) R1 (.lst (ms1.map nV ++ [V.int ((2 ^ kk.2.1 : Nat) : Int)])) R1 = some (.lst ((ms1 ++ [2 ^ kk.2.1]).map nV)) := by
          rw [upd_same, List.map_append]
          rfl
        generalize upd (upd H4 L1 (.lst [V.int ((2 ^ kk.2.1 : Nat) : Int)])) R1 (.lst (ms1.map nV ++ [V.int ((2 ^ kk.2.1 : Nat) : Int)])) = H5 at s5 hR1 ⊢
        have hd5 := s5 _ _ hd4
        have dg2 : DGet H5 d (nV kk.2.2) (some (.ref p2)) := .inl ⟨kv3, nK kk.2.2, .inl hd5, rfl, v2.symm⟩
        refine ⟨_, rfl, _, rfl, d, _, rfl, dg2, _, rfl, _, _, rfl, rfl, ⟨by omega, by omega, by decide⟩, ?_⟩
        dsimp -proj only
        rw [shl_of]
        refine ⟨small 1, fun L2 nL2 => ⟨p2, L2, _, _, rfl, rfl, Same.new nL2 _ _ (s5 _ _ (st _ _ h2)), upd_same, by rw [List.length_map]; exact lm2, fun R2 nR2 => ?_⟩⟩
        have s6 := (Same.new (o := .lst [V.int ((2 ^ kk.2.2 : Nat) : Int)]) nL2).trans (Same.new (o := .lst (ms2.map nV ++ [V.int ((2 ^ kk.2.2 : Nat) : Int)])) nR2)
        have hR2 : upd (upd H5 L2 (.lst [V.int ((2 ^ kk.2.2 : Nat) : Int)])) R2 (.lst (ms2.map nV ++ [V.int ((2 ^ kk.2.2 : Nat) : Int)])) R2 = some (.lst ((ms2 ++ [2 ^ kk.2.2]).map nV)) := by
          rw [upd_same, List.map_append]
          rfl
        generalize upd (upd H5 L2 (.lst [V.int ((2 ^ kk.2.2 : Nat) : Int)])) R2 (.lst (ms2.map nV ++ [V.int ((2 ^ kk.2.2 : Nat) : Int)])) = H6 at s6 hR2 ⊢
        have hd6 := s6 _ _ hd5
        refine ⟨_, rfl, R1, R2, _, _, k, rfl, s6 _ _ hR1, hR2, fun M hM => ?_, fun M hM => ?_, hk, fun p H7 F s7 np hp nF lF fd => ?_⟩
        · rcases List.mem_append.mp hM with h | h
          · exact b1 M h
          · rw [List.mem_singleton.mp h]
            exact w1
        · rcases List.mem_append.mp hM with h | h
          · exact (b2 M h).2
          · rw [List.mem_singleton.mp h]
            exact w2.2
        have ml := gate_found ok hg' xlt hkk f1 f2 fd
        have hd7 := s7 _ _ hd6
        have s47 := (st.trans (s5.trans s6)).trans s7
        refine ⟨_, rfl, _, rfl, d, _, rfl, DPut.k (k := nK x) hd7 (small256 (by omega)), ?_⟩
        have kl7 := putK_le kv3 (nK x) (.ref p)
        refine ⟨_, _, _, putK kv3 (nK x) (.ref p), rfl, putA (s3.trans s47), upd_same, by omega, fun y hy => ?_⟩
        rcases (tk y).mp hy with hy | rfl
        · exact ((ci3 y hy).mono fun b zs e => putL hd7 _ _ (s47 _ _ e)).put (ne y hy)
        · exact ⟨p, _, by rw [valV_put, if_pos rfl], putL hd7 _ _ hp, ml, nF.filter _⟩
      · have hx0 : x < n.many := by
          refine Nat.lt_of_not_le fun z => hg (decide_eq_true ?_)
          show ((x : Nat) : Int) ≥ ((n.many : Nat) : Int)
          omega
        refine ⟨_, _, _, kv3, rfl, s3, hd3, by omega, fun y hy => ?_⟩
        rcases (tk y).mp hy with hy | rfl
        · exact ci3 y hy
        · exact ⟨L, [], val3, hL3, ML.input hx0, List.nodup_nil⟩
    · rintro σ H2 ⟨x4, x5, x6, kvs, rfl, s2, hd2, kl, ci⟩
      rw [List.length_map, List.take_length] at ci
      exact ⟨_, rfl, q d H2 kvs s2 hd2 ci⟩
end
section
variable {P : Program} {w : World} {K : PySem.W.Frag} {mg : Str → Option Value} {base : Heap} {Ts : List Addr}
def spTold (Ts : List Addr) : Sp := fun vs H Q _ => ∃ (la : Addr) (ms : List Nat), vs = [.ref la] ∧ H la = some (.lst (ms.map nV)) ∧ ms.length < sizeLine ∧ (∀ M ∈ ms, 0 < M ∧ M < 2 ^ 23) ∧ Tabs Ts H ∧
  ∀ p H' (rs : List Addr) (cs : List (List Nat)), Aft Ts H H' → H' p = some (.tup (rs.map V.ref)) → TupsAt H' rs cs → cs.Perm (ms.map bitsOf) → (cs.Pairwise fun a b => lexN b a = false) → Q (.ref p) H'
theorem ok_told {f c : Addr} (D : Dfn K mg "told_cuts" s_told_cuts f c) (T : Txt mg) (c_wires_of : Cal P w K mg base 1 "wires_of" (spWiresOf Ts) []) : Cal P w K mg base 2 "told_cuts" (spTold Ts) [] := by
  refine cal D (fun _ _ _ _ _ _ us hl => match us, hl with | [_], _ => rfl) sc_told_cuts (fun vs H Q E h => ?_) (fun A outer s H vs Q E hr h => ?_)
  · obtain ⟨la, ms, rfl, _⟩ := h
    rfl
  · obtain ⟨la, ms, rfl, hla, hl, hb, tb, q⟩ := h
    refine ⟨_, (pss_one (ps_ret (pe_callTy call_tuple_of (by rfl) T.b_tuple (by decide +kernel) (pa_cons (pe_callB cr_sortTup (by rfl) T.b_sorted (by decide +kernel) (pa_cons (pe_lc (own := [("mask", 1)]) (g := gName 1) (tt := tYes) rfl sc_told_cuts.nd (pi_list (pv 0)) (blkOk_by (own := [("mask", 1)]) (N := ["masks", "mask"]) (sc := defScope s_told_cuts) (by decide +kernel)) (fun _ _ _ _ _ => (pg_name (i := 1) sc_told_cuts.nd rfl (by first | exact Or.inl rfl | exact Or.inr rfl))) (fun _ _ _ _ _ => pts_nil) (fun _ _ _ _ _ => (pe_c c_wires_of hr (by decide) (by rfl) (pa_cons (pv 1) pa_nil)))) pa_nil)) pa_nil)))), ?_⟩
    refine ⟨_, rfl, la, rfl, ⟨_, SqL.of hla⟩, fun M nM => ?_⟩
    have laM : la ≠ M := fun z => by rw [z, nM] at hla; cases hla
    refine lc_list (K := K) (a := la) (xs := ms.map nV) (fun i H' => ∃ ts : List Addr, H' M = some (.lst (ts.map V.ref)) ∧ Aft Ts H H' ∧ RefsAt (fun x => (bitsOf x).map nV) H' ts (ms.take i)) ⟨[], upd_same, Aft.new tb nM, RefsAt.nil _ _⟩ (fun _ H' _ h => h.elim fun ts h => SqL.of (h.2.1.lst tb hla)) ?_ ?_
    · rintro i x H4 hx ⟨ts, hM4, a4, R4⟩
      have hi : i < ms.length := by
        have := (List.getElem?_eq_some_iff.mp hx).1
        rwa [List.length_map] at this
      rw [natAt hi] at hx
      cases hx
      refine ⟨rfl, ?_⟩
      unfold tYes
      refine iteT ?_
      refine ⟨_, rfl, ms.getD i 0, rfl, (hb _ (getD_mem hi)).2, a4.tb, fun cp H5 a5 hcp => ?_⟩
      have hM5 := a5.lst a4.tb hM4
      have R5 := (R4.mono fun b zs e => a5.tup a4.tb e).push (y := ms.getD i 0) hcp
      have tl : ts.length ≤ i := by
        rw [R4.1, List.length_take]
        omega
      refine ⟨_, hM5, by rw [List.length_map]; omega, ts ++ [cp], by rw [upd_same, List.map_append]; rfl, ?_, ?_⟩
      · exact ⟨fun b u e nb => by rw [upd_ne (ne_of_none e nM)]; exact (a4.trans a5).kp b u e nb, a5.tb.upd (tb.none nM)⟩
      · have ew : ms.getD i 0 = ms[i] := by rw [List.getD_eq_getElem?_getD, List.getElem?_eq_getElem hi]; rfl
        rw [List.take_add_one, List.getElem?_eq_getElem hi, Option.toList_some, ← ew]
        exact R5.mono fun b zs e => by
          rw [upd_ne (fun z => by rw [z, hM5] at e; cases e)]
          exact e
    · rintro H4 ⟨ts, hM4, a4, R4⟩
      rw [List.length_map, List.take_length] at R4
      have R4' : TupsAt H4 ts (ms.map bitsOf) := ⟨by rw [List.length_map]; exact R4.1, fun i p x e1 e2 => by
        rw [List.getElem?_map] at e2
        cases e : ms[i]? with
        | none => rw [e] at e2; cases e2
        | some y =>
          rw [e] at e2
          cases e2
          exact R4.2 i p y e1 e⟩
      refine ⟨M, ts.map V.ref, fun x => (tupN H4 x).map (fun n : Nat => (n : Int)), rfl, SqL.of hM4, fun x hx => ?_, fun ys p srt pm np => ?_⟩
      · obtain ⟨t, c', rfl, hc, ht⟩ := R4'.all hx
        dsimp only
        rw [tupN_at ht]
        refine ⟨⟨t, rfl, by rw [mapV]; exact ht⟩, fun z => ?_⟩
        obtain ⟨M', hM', rfl⟩ := List.mem_map.mp hc
        have z' := List.map_eq_nil_iff.mp z
        have : pop M' = 0 := by
          unfold pop
          rw [z']
          rfl
        have := pop_zero_iff.mp this
        have := (hb M' hM').1
        omega
      · obtain ⟨rs, ds, rfl, hr', pd, sd⟩ := tups_sorted R4' srt pm
        refine ⟨p, _, rfl, .inl ⟨SqL.of upd_same, fun r nr => ?_⟩⟩
        have a5 := Aft.new (o := .lst (rs.map V.ref)) a4.tb np
        have a6 := Aft.new (o := .tup (rs.map V.ref)) a5.tb nr
        exact q r _ rs ds ((a4.trans a5).trans a6) upd_same (hr'.mono fun b zs e => a6.tup a5.tb (a5.tup a4.tb e)) pd sd
end
section
variable {P : Program} {w : World} {K : PySem.W.Frag} {mg : Str → Option Value} {base : Heap} {Ts : List Addr}
/-- the cuts of a wire, told -/
def CutsTold (n : Net) (k : Nat) (H : Hp) (q : Addr) (x : Nat) : Prop := ∃ (rs : List Addr) (cs : List (List Nat)), H q = some (.tup (rs.map V.ref)) ∧ TupsAt H rs cs ∧ CutsAre n k x cs ∧ cs.length < sizeLine
theorem CutsTold.mono {n : Net} {k : Nat} {H H' : Hp} {q : Addr} {x : Nat} (h : CutsTold n k H q x) (m : ∀ b xs, H b = some (.tup xs) → H' b = some (.tup xs)) : CutsTold n k H' q x := by
  obtain ⟨rs, cs, h1, h2, h3⟩ := h
  exact ⟨rs, cs, m _ _ h1, h2.mono m, h3⟩
def spAllCuts (Ts : List Addr) : Sp := fun vs H Q _ => ∃ (a : Addr) (n : Net) (g o : Addr) (ps : List Addr) (k : Nat), vs = [.ref a, nV k] ∧ NetAt H a n g o ps ∧ n.Ok ∧ 2 ≤ k ∧ k ≤ 1000 ∧ Tabs Ts H ∧
  ∀ p H' (qs : List Addr), Aft Ts H H' → H' p = some (.tup (qs.map V.ref)) → PtsAt (CutsTold n k) H' qs (List.range (n.many + n.gates.length)) → Q (.ref p) H'
theorem ok_allcuts {f c PA' : Addr} (D : Dfn K mg "all_cuts" s_all_cuts f c) (T : Txt mg) (c_wires_in : Cal P w K mg base 1 "wires_in" spWires []) (c_cut_masks : Cal P w K mg base 3 "cut_masks" spCutMasks []) (c_places : Cal P w K mg base 1 "places" spPlaces []) (c_told_cuts : Cal P w K mg base 2 "told_cuts" (spTold Ts) []) (TB_all_cuts : GxR.TabB base mg c PA') (hP : PA' ∈ Ts) : Cal P w K mg base 4 "all_cuts" (spAllCuts Ts) [] := by
  refine cal D (fun _ _ _ _ _ _ us hl => match us, hl with | [_, _], _ => rfl) sc_all_cuts (fun vs H Q E h => ?_) (fun A outer s H vs Q E hr h => ?_)
  · obtain ⟨a, n, g, o, ps, k, rfl, _⟩ := h
    rfl
  · obtain ⟨a, n, g, o, ps, k, rfl, N, ok, hk2, hk, tb, q⟩ := h
    have m8 := ok.m8
    have g16 := ok.g16
    refine ⟨_, (pss_cons (ps_set (i := 2) sc_all_cuts.nd rfl (by first | exact Or.inl rfl | exact Or.inr rfl) (pe_listRg rfl (by rfl) T.b_list (prg_1 (by rfl) T.b_range (pe_c c_wires_in hr (by decide) (by rfl) (pa_cons (pv 0) pa_nil)))))
      (pss_cons (ps_set (i := 3) sc_all_cuts.nd rfl (by first | exact Or.inl rfl | exact Or.inr rfl) (pe_c c_cut_masks hr (by decide) (by rfl) (pa_cons (pv 0) (pa_cons (pv 2) (pa_cons (pv 1) pa_nil)))))
      (pss_cons (ps_for PassesOwn.never rfl (pi_list (pe_slice sl_list (pv 2) (po_some (pe_ix ix_tup (pv 0) pe_int (fun _ _ => rfl))) po_none)) (pg_name (i := 4) sc_all_cuts.nd rfl (by first | exact Or.inl rfl | exact Or.inr rfl))
        (pss_one (ps_if (pt_cmpR op_eq (pe_callB call_len_seq (by rfl) T.b_len (by decide +kernel) (pa_cons (pe_dget (Nat.lt_of_le_of_lt (Nat.add_le_add_left (by decide) _) hr.units) (pv 3) (pv 4) (fun _ _ => rfl)) pa_nil)) pe_int (nomark _)) (pss_cons (ps_asg (pe_c c_places hr (by decide) (by rfl) (pa_cons (pv 0) (pa_cons (pv 4) pa_nil))) (pg_tup rfl (pgs_cons (pg_name (i := 5) sc_all_cuts.nd rfl (by first | exact Or.inl rfl | exact Or.inr rfl)) (pgs_cons (pg_name (i := 6) sc_all_cuts.nd rfl (by first | exact Or.inl rfl | exact Or.inr rfl)) pgs_nil))))
      (pss_one (ps_dput (Nat.lt_of_le_of_lt (Nat.add_le_add_left (by decide) _) hr.units) (pv 3) (pv 4) (pe_lst (pa_cons (pe_op op_or (pe_op op_shl pe_int (pv 5)) (pe_op op_shl pe_int (pv 6))) pa_nil)) (by rfl)))) pss_nil)))
      (pss_one (ps_ret (pe_tupG (own := [("wire", 7)]) hr (by rfl) T.b_tuple TB_all_cuts rfl (gxOk_by (N := ["net", "k", "wires", "masks", "gate", "one", "other", "wire"]) (sc := defScope s_all_cuts) (own := [("wire", 7)]) (by decide +kernel)) sc_all_cuts.nd (pi_list (pv 2)) (fun _ _ _ _ => (pg_name (i := 7) sc_all_cuts.nd rfl (by first | exact Or.inl rfl | exact Or.inr rfl))) (fun _ _ _ _ => pts_nil) (fun _ _ _ _ => (pe_c c_told_cuts (GX.Room.gx4 hr) (by decide) (by rfl) (pa_cons (pe_dget (Nat.lt_of_le_of_lt (Nat.add_le_add_left (by decide) _) (GX.Room.gx4 hr).units) (pv 3) (pv 7) (fun _ _ => rfl)) pa_nil))))))))), ?_⟩
    refine ⟨_, rfl, a, n, g, o, ps, rfl, N, _, rfl, RgOk.of_le (by decide) (by show ((n.many + n.gates.length : Nat) : Int) ≤ 16777216; omega) (by decide) (by show (0 : Int) ≤ ((n.many + n.gates.length : Nat) : Int); omega), fun rp nrp => ?_⟩
    have et : rgV 0 ((n.many + n.gates.length : Nat) : Int) = (List.range (n.many + n.gates.length)).map nV := by
      unfold rgV
      rw [Int.sub_zero, Int.toNat_natCast]
      refine List.map_congr_left fun i _ => ?_
      rw [Int.zero_add]
      rfl
    have s1 := Same.new (o := .lst (rgV 0 ((n.many + n.gates.length : Nat) : Int))) nrp
    have hrp : upd H rp (.lst (rgV 0 ((n.many + n.gates.length : Nat) : Int))) rp = some (.lst ((List.range (n.many + n.gates.length)).map nV)) := by rw [upd_same, et]
    generalize upd H rp (.lst (rgV 0 ((n.many + n.gates.length : Nat) : Int))) = H1 at s1 hrp ⊢
    have wok : WsOk n (List.range (n.many + n.gates.length)) := ⟨List.pairwise_lt_range, fun x hx => List.mem_range.mp hx, fun x hx kk hm hkk => by
      have l1 := place_lt ok hm hkk (.inl rfl)
      have l2 := place_lt ok hm hkk (.inr rfl)
      have := List.mem_range.mp hx
      exact ⟨List.mem_range.mpr (by omega), List.mem_range.mpr (by omega)⟩⟩
    refine ⟨_, rfl, _, rfl, _, rfl, a, rp, n, g, o, ps, _, k, rfl, N.same s1, ok, hrp, wok, by omega, hk, fun d H2 kvs s2 hd ci => ?_⟩
    have N2 := (N.same s1).same s2
    have hrp2 := s2 _ _ hrp
    have tb2 := tb.same (s1.trans s2)
    refine ⟨_, rfl, _, rfl, a, _, 0, _, rfl, rfl, SqT.of N2.top, at0, _, rfl, ?_⟩
    unfold tNoPart
    refine ⟨rp, _, rfl, SqL.of hrp2, fun S nS => ?_⟩
    rw [cut_lo, ← List.map_drop]
    have s3 := Same.new (o := .lst (((List.range (n.many + n.gates.length)).drop n.many).map nV)) nS
    have hS3 : upd H2 S (.lst (((List.range (n.many + n.gates.length)).drop n.many).map nV)) S = some (.lst (((List.range (n.many + n.gates.length)).drop n.many).map nV)) := upd_same
    have hd3 := s3 _ _ hd
    have hrp3 := s3 _ _ hrp2
    have tb3 := tb2.same s3
    have ci3 : ∀ x ∈ List.range (n.many + n.gates.length), CutsIn n k (upd H2 S (.lst (((List.range (n.many + n.gates.length)).drop n.many).map nV))) kvs x := fun x hx => (ci x hx).mono fun b zs e => s3 _ _ e
    have a03 : Aft Ts H (upd H2 S (.lst (((List.range (n.many + n.gates.length)).drop n.many).map nV))) := Aft.ofSame tb ((s1.trans s2).trans s3)
    generalize upd H2 S (.lst (((List.range (n.many + n.gates.length)).drop n.many).map nV)) = H3 at s3 hS3 hd3 hrp3 tb3 ci3 a03 ⊢
    refine ⟨S, rfl, ⟨_, SqL.of hS3⟩, ?_⟩
    refine for_list (K := K) (a := S) (xs := ((List.range (n.many + n.gates.length)).drop n.many).map nV) (fun i σ H' => ∃ (x4 x5 x6 x7 : Option V), σ = [some (.ref a), some (nV k), some (.ref rp), some (.ref d), x4, x5, x6, x7] ∧ H' = H3) ⟨_, _, _, _, rfl, rfl⟩ ?_ ?_ ?_
    · rintro i σ H' _ ⟨_, _, _, _, _, rfl⟩
      exact SqL.of hS3
    · rintro i x σ H' hx ⟨x4, x5, x6, x7, rfl, rfl⟩
      have hi : i < ((List.range (n.many + n.gates.length)).drop n.many).length := by
        have := (List.getElem?_eq_some_iff.mp hx).1
        rwa [List.length_map] at this
      rw [natAt hi] at hx
      cases hx
      have hm := getD_mem hi
      have hxe : n.many ≤ ((List.range (n.many + n.gates.length)).drop n.many).getD i 0 ∧ ((List.range (n.many + n.gates.length)).drop n.many).getD i 0 < n.many + n.gates.length := by
        rw [List.length_drop, List.length_range] at hi
        rw [List.getD_eq_getElem?_getD, List.getElem?_drop, List.getElem?_range (by omega)]
        show n.many ≤ n.many + i ∧ n.many + i < _
        omega
      generalize ((List.range (n.many + n.gates.length)).drop n.many).getD i 0 = x at hm hxe ⊢
      obtain ⟨p, ms, v, hp, ml, nd⟩ := ci3 x (List.mem_range.mpr hxe.2)
      have ne := ml.some_ ok hk2 hxe.1 (List.getElem?_eq_getElem (show x - n.many < n.gates.length by omega))
      have dg : DGet H' d (nV x) (some (.ref p)) := .inl ⟨kvs, nK x, .inl hd3, rfl, v.symm⟩
      refine ⟨_, rfl, _, rfl, d, _, rfl, dg, p, _, rfl, .inl (SqL.of hp), rfl, _, rfl, ?_⟩
      rw [decide_eq_false (fun z => ne (List.length_eq_zero_iff.mp (by have := V.int.inj z; rw [List.length_map] at this; omega)))]
      refine iteF ?_
      exact ⟨_, _, _, _, rfl, rfl⟩
    · rintro σ H' ⟨x4, x5, x6, x7, rfl, rfl⟩
      refine ⟨_, rfl, rp, rfl, ⟨_, SqL.of hrp3⟩, tb3 PA' hP, fun H4 ht => ?_⟩
      have a4 : Aft Ts H' H4 := ⟨Keep.tabbed hP ht, tb3.tabbed ht⟩
      have a04 := a4
      refine turns_it (walk_list (xs := (List.range (n.many + n.gates.length)).map nV)) (fun i ys H5 => ∃ qs : List Addr, ys = qs.map V.ref ∧ Aft Ts H' H5 ∧ PtsAt (CutsTold n k) H5 qs ((List.range (n.many + n.gates.length)).take i)) ⟨[], rfl, a4, PtsAt.nil _ _⟩ (fun i ys H5 _ h => h.elim fun qs h => SqL.of (h.2.1.lst tb3 hrp3)) ?_ ?_
      · rintro i x ys H5 H6 hi ⟨qs, rfl, a5, P5⟩ ⟨rfl, hx⟩
        rw [List.length_map] at hi
        rw [natAt hi] at hx
        cases hx
        have hxm := getD_mem hi
        have ex : (List.range (n.many + n.gates.length)).getD i 0 = (List.range (n.many + n.gates.length))[i] := by rw [List.getD_eq_getElem?_getD, List.getElem?_eq_getElem hi]; rfl
        have ql : qs.length ≤ 24 := by
          rw [P5.1, List.length_take, List.length_range]
          omega
        obtain ⟨p, ms, v, hp, ml, nd⟩ := ci3 _ hxm
        have xlt := List.mem_range.mp hxm
        have bnd := fun M (h : M ∈ ms) => ml.lt23 ok xlt h
        have hd5 : Rd H6 d (.dK kvs) := .inl (a5.kp _ _ hd3 (tb3.nott hd3 fun _ z => by cases z))
        have dg : DGet H6 d (nV ((List.range (n.many + n.gates.length)).getD i 0)) (some (.ref p)) := .inl ⟨kvs, nK _, hd5, rfl, v.symm⟩
        refine ⟨rfl, ?_⟩
        unfold tYes
        refine iteT ?_
        refine ⟨_, rfl, _, rfl, d, _, rfl, dg, p, ms, rfl, a5.lst tb3 hp, nodup_lt23 nd fun M h => (bnd M h).2, bnd, a5.tb, fun r H7 rs cs a7 hr7 ht7 pm srt => ⟨?_, fun _ => ⟨qs ++ [r], by rw [List.map_append]; rfl, a5.trans a7, ?_⟩⟩⟩
        · show (List.map V.ref qs).length < sizeLine
          rw [List.length_map]
          exact small256 (by omega)
        · rw [List.take_add_one, List.getElem?_eq_getElem hi, Option.toList_some, ← ex]
          exact (P5.mono fun p x h => CutsTold.mono h fun b zs e => a7.tup a5.tb e).push ⟨rs, cs, hr7, ht7, cuts_of_masks ok ml nd pm srt, by rw [pm.length_eq, List.length_map]; exact nodup_lt23 nd fun M h => (bnd M h).2⟩
      · rintro ys H5 ⟨qs, rfl, a5, P5⟩
        rw [List.length_map, List.take_length] at P5
        refine ⟨?_, fun p np => ?_⟩
        · rw [List.length_map, P5.1, List.length_range]
          exact small _ (by omega)
        · have a6 := Aft.new (o := .tup (qs.map V.ref)) a5.tb np
          exact q p _ qs ((a03.trans a5).trans a6) upd_same (P5.mono fun p x h => CutsTold.mono h fun b zs e => a6.tup a5.tb e)
end
end K57
set_option Elab.async false
set_option linter.all false
set_option maxRecDepth 100000
set_option maxHeartbeats 4000000
namespace K57
open PySem PySem.Spec PyProof.Rows L2 GX
open C8 (Cal pe_c pe_gc Met Mak)
-- @alt one_deeper lst par=l[i],t[i]
-- @alt one_deeper tup par=t[i],t[i]
-- @alt one_deeper dk par=DK,t[i]
section
variable {P : Program} {w : World} {K : PySem.W.Frag} {mg : Str → Option Value} {base : Heap} {Ts : List Addr}
def spOneDeepL : Sp := fun vs H Q _ => ∃ (l ca : Addr) (ds ws : List Nat), vs = [.ref l, .ref ca] ∧ H l = some (.lst (ds.map nV)) ∧ H ca = some (.tup (ws.map nV)) ∧ 0 < ws.length ∧ ws.length ≤ 1000 ∧ (∀ x ∈ ws, x < ds.length) ∧ ∀ H', Same H H' → Q (nV (1 + maxL (ws.map fun x => ds.getD x 0))) H'
theorem ok_onedeepL {f c : Addr} (D : Dfn K mg "one_deeper" s_one_deeper f c) (T : Txt mg) : Cal P w K mg base 1 "one_deeper" spOneDeepL [] := by
  refine cal D (fun _ _ _ _ _ _ us hl => match us, hl with | [_, _], _ => rfl) sc_one_deeper (fun vs H Q E h => ?_) (fun A outer s H vs Q E hr h => ?_)
  · obtain ⟨l, ca, ds, ws, rfl, _⟩ := h
    rfl
  · obtain ⟨l, ca, ds, ws, rfl, hl, hca, w0, w24, hv, q⟩ := h
    refine ⟨_, (pss_one (ps_ret (pe_op op_add pe_int (pe_callB (cr_max rfl) (by rfl) T.b_max (by decide +kernel) (pa_cons (pe_lc (own := [("wire", 2)]) (g := gName 2) (tt := tYes) rfl sc_one_deeper.nd (pi_tup (pv 1)) (blkOk_by (own := [("wire", 2)]) (N := ["told", "wires", "wire"]) (sc := defScope s_one_deeper) (by decide +kernel)) (fun _ _ _ _ _ => (pg_name (i := 2) sc_one_deeper.nd rfl (by first | exact Or.inl rfl | exact Or.inr rfl))) (fun _ _ _ _ _ => pts_nil) (fun _ _ _ _ _ => (pe_ix (ix_listK (K := K)) (pv 0) (pv 2) (fun _ _ => rfl)))) pa_nil))))), ?_⟩
    refine ⟨_, rfl, ca, rfl, ⟨_, SqT.of hca⟩, fun M nM => ?_⟩
    refine lc_tup (K := K) (a := ca) (xs := ws.map nV) (fun i H' => Own H H' M (((ws.take i).map fun x => ds.getD x 0).map nV)) ⟨Same.new nM, upd_same, nM⟩ (fun k H' _ o' => SqT.of (o'.sm _ _ hca)) ?_ ?_
    · rintro i x H2 hx o2
      have hi : i < ws.length := by
        have := (List.getElem?_eq_some_iff.mp hx).1
        rwa [List.length_map] at this
      rw [natAt hi] at hx
      cases hx
      refine ⟨rfl, ?_⟩
      unfold tYes
      refine iteT ?_
      refine ⟨_, rfl, _, rfl, l, _, _, _, rfl, rfl, SqL.of (o2.sm _ _ hl), atI_nat (natAt (hv _ (getD_mem hi))), _, o2.at_, by rw [List.length_map, List.length_map, List.length_take]; exact small256 (by omega), ?_⟩
      have : ws.getD i 0 = ws[i] := by rw [List.getD_eq_getElem?_getD, List.getElem?_eq_getElem hi]; rfl
      rw [List.take_add_one, List.getElem?_eq_getElem hi, Option.toList_some, List.map_append, List.map_append, this]
      exact o2.app
    · rintro H2 o2
      rw [List.length_map, List.take_length] at o2
      refine ⟨M, (ws.map fun x => ds.getD x 0).map (fun n : Nat => (n : Int)), rfl, (by rw [mapV]; exact SqL.of o2.at_), by rw [List.length_map, List.length_map]; exact w0, fun m hm hb => ⟨_, _, rfl, rfl, ?_⟩⟩
      have e := max_eq hm hb
      have e2 : V.int (1 + m) = nV (1 + maxL (ws.map fun x => ds.getD x 0)) := by
        have := V.int.inj e
        rw [this]
        rfl
      dsimp -proj only
      rw [e2]
      exact q H2 o2.sm
/-- depths, so far -/
structure DepsTo (n : Net) (k : Nat) (ds : List Nat) : Prop where
  low : ∀ x, x < n.many → x < ds.length → ds.getD x 0 = 0
  at_ : ∀ g, n.many ≤ g → g < ds.length → (∃ c, LC n k g c ∧ ds.getD g 0 = 1 + maxL (c.map fun x => ds.getD x 0)) ∧ ∀ c, LC n k g c → ds.getD g 0 ≤ 1 + maxL (c.map fun x => ds.getD x 0)
theorem lc_any {n : Net} (ok : n.Ok) {k g : Nat} {kk : Nat × Nat × Nat} (hk : 2 ≤ k) (hg : n.many ≤ g) (hkk : n.gates[g - n.many]? = some kk) : ∃ c, LC n k g c := by
  have l1 := place_lt ok hg hkk (.inl rfl)
  have l2 := place_lt ok hg hkk (.inr rfl)
  have bit : ∀ j, (2 ^ kk.2.1 ||| 2 ^ kk.2.2).testBit j = true ↔ (j = kk.2.1 ∨ j = kk.2.2) := fun j => by
    rw [Nat.testBit_or, Nat.testBit_two_pow, Nat.testBit_two_pow, Bool.or_eq_true, decide_eq_true_iff, decide_eq_true_iff]
    omega
  have hp : (bitsOf (2 ^ kk.2.1 ||| 2 ^ kk.2.2)).length ≤ 2 := by
    have := (bits_nodup (2 ^ kk.2.1 ||| 2 ^ kk.2.2)).length_le_of_subset (l₂ := [kk.2.1, kk.2.2]) fun x hx => by
      rcases (bit x).mp (mem_bits.mp hx) with e | e
      · rw [e]; exact List.mem_cons_self
      · rw [e]; exact List.mem_cons_of_mem _ List.mem_cons_self
    exact this
  obtain ⟨c, h, _⟩ := lc_within ok (k := k) (g := g) (bits_rise (2 ^ kk.2.1 ||| 2 ^ kk.2.2)) (fun x hx => by rcases (bit x).mp (mem_bits.mp hx) with e | e <;> omega) (sep_first hg hkk fun z hz => mem_bits.mpr ((bit z).mpr hz)) (by omega)
  exact ⟨c, h⟩
def spDepthsBy : Sp := fun vs H Q _ => ∃ (a p : Addr) (n : Net) (g o : Addr) (ps qs : List Addr) (k : Nat), vs = [.ref a, .ref p] ∧ NetAt H a n g o ps ∧ n.Ok ∧ 2 ≤ k ∧ k ≤ 1000 ∧ H p = some (.tup (qs.map V.ref)) ∧ PtsAt (CutsTold n k) H qs (List.range (n.many + n.gates.length)) ∧
  ∀ r H' (ds : List Nat), Same H H' → H' r = some (.tup (ds.map nV)) → ds.length = n.many + n.gates.length → DepsTo n k ds → Q (.ref r) H'
theorem ok_depthsby {f c : Addr} (D : Dfn K mg "depths_by" s_depths_by f c) (T : Txt mg) (c_one_deeper : Cal P w K mg base 1 "one_deeper" spOneDeepL []) : Cal P w K mg base 2 "depths_by" spDepthsBy [] := by
  refine cal D (fun _ _ _ _ _ _ us hl => match us, hl with | [_, _], _ => rfl) sc_depths_by (fun vs H Q E h => ?_) (fun A outer s H vs Q E hr h => ?_)
  · obtain ⟨a, p, n, g, o, ps, qs, k, rfl, _⟩ := h
    rfl
  · obtain ⟨a, p, n, g, o, ps, qs, k, rfl, N, ok, hk2, hk, hp, PQ, q⟩ := h
    have m8 := ok.m8
    have g16 := ok.g16
    refine ⟨_, (pss_cons (ps_set (i := 2) sc_depths_by.nd rfl (by first | exact Or.inl rfl | exact Or.inr rfl) (pe_op op_rep (pe_lst (pa_cons pe_int pa_nil)) (pe_ix ix_tup (pv 0) pe_int (fun _ _ => rfl))))
      (pss_cons (ps_for PassesOwn.never rfl (pi_range2 (by rfl) T.b_range (pa_cons (pe_ix ix_tup (pv 0) pe_int (fun _ _ => rfl)) (pa_cons (pe_callB call_len_seq (by rfl) T.b_len (by decide +kernel) (pa_cons (pv 1) pa_nil)) pa_nil))) (pg_name (i := 3) sc_depths_by.nd rfl (by first | exact Or.inl rfl | exact Or.inr rfl))
        (pss_one (ps_expr (pe_bm PySem.F.plainAttrs_list PySem.F.slot_list_append PySem.F.type_list_append mt_append (pv 2) (pa_cons (pe_callB (cr_min rfl) (by rfl) T.b_min (by decide +kernel) (pa_cons (pe_lc (own := [("cut", 4)]) (g := gName 4) (tt := tYes) rfl sc_depths_by.nd (pi_tup (pe_ix ix_tup (pv 1) (pv 3) (fun _ _ => rfl))) (blkOk_by (own := [("cut", 4)]) (N := ["net", "cuts", "told", "gate", "cut"]) (sc := defScope s_depths_by) (by decide +kernel)) (fun _ _ _ _ _ => (pg_name (i := 4) sc_depths_by.nd rfl (by first | exact Or.inl rfl | exact Or.inr rfl))) (fun _ _ _ _ _ => pts_nil) (fun _ _ _ _ _ => (pe_c c_one_deeper hr (by decide) (by rfl) (pa_cons (pv 2) (pa_cons (pv 4) pa_nil))))) pa_nil)) pa_nil)))))
      (pss_one (ps_ret (pe_callTy call_tuple_of (by rfl) T.b_tuple (by decide +kernel) (pa_cons (pv 2) pa_nil)))))), ?_⟩
    refine ⟨small 1, fun z nz => ?_⟩
    have e1 := Same.new (o := .lst [.int 0]) nz
    refine ⟨_, rfl, a, _, 0, _, rfl, rfl, SqT.of (N.same e1).top, at0, z, _, _, rfl, rfl, upd_same, by omega, by omega, ?_, fun l nl => ?_⟩
    · show 1 * (((n.many : Nat)) : Int).toNat ≤ sizeLine
      rw [Int.toNat_natCast]
      exact small _ (by omega)
    have ef : (List.replicate (((n.many : Nat)) : Int).toNat [V.int 0]).flatten = (List.replicate n.many 0).map nV := by
      rw [Int.toNat_natCast, List.map_replicate, List.flatten_replicate_singleton]
      rfl
    rw [ef]
    have nlH : H l = none := by
      cases e : H l with
      | none => rfl
      | some u =>
        have := e1 _ _ e
        rw [nl] at this
        cases this
    have o1 : Own H (upd (upd H z (.lst [.int 0])) l (.lst ((List.replicate n.many 0).map nV))) l ((List.replicate n.many 0).map nV) := ⟨e1.trans (Same.new nl), upd_same, nlH⟩
    generalize upd (upd H z (.lst [.int 0])) l (.lst ((List.replicate n.many 0).map nV)) = H1 at o1 ⊢
    have N1 := N.same o1.sm
    have hp1 := o1.sm _ _ hp
    have ql : qs.length = n.many + n.gates.length := by rw [PQ.1, List.length_range]
    refine ⟨_, rfl, a, _, 0, _, rfl, rfl, SqT.of N1.top, at0, _, rfl, p, _, rfl, .inr (SqT.of hp1), _, _, rfl, ⟨by omega, by omega, by omega, by rw [List.length_map]; omega⟩, ?_⟩
    refine for_range (lo := ((n.many : Nat) : Int)) (n := ((((qs.map V.ref).length : Nat) : Int) - ((n.many : Nat) : Int)).toNat) (fun j σ H' => ∃ (x3 x4 : Option V) (ds : List Nat), σ = [some (.ref a), some (.ref p), some (.ref l), x3, x4] ∧ Own H H' l (ds.map nV) ∧ ds.length = n.many + j ∧ DepsTo n k ds) ⟨none, none, List.replicate n.many 0, rfl, o1, by rw [List.length_replicate]; rfl, ⟨fun x hx _ => by rw [List.getD_eq_getElem?_getD, List.getElem?_replicate, if_pos hx]; rfl, fun g' h1 h2 => by rw [List.length_replicate] at h2; omega⟩⟩ ?_ ?_
    · rintro j σ H2 hj ⟨x3, x4, ds, rfl, o2, dl, dt⟩
      rw [List.length_map, ql] at hj
      have hgl : n.many + j < (List.range (n.many + n.gates.length)).length := by rw [List.length_range]; omega
      obtain ⟨qg, eq, hq⟩ := PQ.get (i := n.many + j) (y := n.many + j) (by rw [List.getElem?_range (by omega)])
      obtain ⟨rs, cs, h1, h2, ca, cl⟩ := CutsTold.mono hq fun b xs e => o2.sm b _ e
      have hp2 := o2.sm _ _ hp
      have csne : 0 < cs.length := by
        obtain ⟨c0, h0⟩ := lc_any ok hk2 (Nat.le_add_right n.many j) (List.getElem?_eq_getElem (show n.many + j - n.many < n.gates.length by omega))
        exact List.length_pos_of_mem ((ca.mem c0).mpr h0)
      have cok : ∀ c ∈ cs, 0 < c.length ∧ c.length ≤ k ∧ ∀ x ∈ c, x < ds.length := fun c hc => by
        have h := (ca.mem c).mp hc
        refine ⟨Nat.pos_of_ne_zero fun z => ?_, h.len, fun x hx => by rw [dl]; exact h.lt x hx⟩
        have hs := h.sep
        rw [List.length_eq_zero_iff.mp z] at hs
        exact sep_none ok _ _ (Nat.le_refl _) (by omega) hs
      refine ⟨_, rfl, .inl ⟨rfl, _, SqL.of o2.at_⟩, _, rfl, _, rfl, p, _, ((n.many + j : Nat) : Int), _, rfl, rfl, SqT.of hp2, atI_nat eq, qg, rfl, ⟨_, SqT.of h1⟩, fun M nM => ?_⟩
      refine lc_tup (K := K) (a := qg) (xs := rs.map V.ref) (fun i H' => Own H2 H' M (((cs.take i).map fun c => 1 + maxL (c.map fun x => ds.getD x 0)).map nV)) ⟨Same.new nM, upd_same, nM⟩ (fun _ H' _ o' => SqT.of (o'.sm _ _ h1)) ?_ ?_
      · rintro i v H3 hv o3
        have hi : i < cs.length := by
          have := (List.getElem?_eq_some_iff.mp hv).1
          rwa [List.length_map, h2.1] at this
        obtain ⟨tq, c', rfl, hc, hat⟩ := h2.at_ hv
        obtain ⟨k1, k2, k3⟩ := cok c' (List.mem_of_getElem? hc)
        refine ⟨rfl, ?_⟩
        unfold tYes
        refine iteT ?_
        refine ⟨_, rfl, _, rfl, l, tq, ds, c', rfl, o3.sm _ _ o2.at_, o3.sm _ _ hat, k1, by omega, k3, fun H4 s4 => ?_⟩
        have o4 : Own H2 H4 M (((cs.take i).map fun c => 1 + maxL (c.map fun x => ds.getD x 0)).map nV) := ⟨o3.sm.trans s4, s4 _ _ o3.at_, o3.nw⟩
        refine ⟨_, o4.at_, by rw [List.length_map, List.length_map, List.length_take]; omega, ?_⟩
        rw [List.take_add_one, hc, Option.toList_some, List.map_append, List.map_append]
        exact o4.app
      · rintro H3 o3
        rw [List.length_map, h2.1, List.take_length] at o3
        refine ⟨M, (cs.map fun c => 1 + maxL (c.map fun x => ds.getD x 0)).map (fun n : Nat => (n : Int)), rfl, (by rw [mapV]; exact SqL.of o3.at_), by rw [List.length_map, List.length_map]; exact csne, fun m hm hb => ?_⟩
        obtain ⟨mn, hmn, rfl⟩ := List.mem_map.mp hm
        have hb' : ∀ y ∈ (cs.map fun c => 1 + maxL (c.map fun x => ds.getD x 0)), mn ≤ y := fun y hy => by
          have := hb _ (List.mem_map.mpr ⟨y, hy, rfl⟩)
          omega
        have oo : Own H H3 l (ds.map nV) := ⟨o2.sm.trans o3.sm, o3.sm _ _ o2.at_, o2.nw⟩
        refine ⟨l, _, _, rfl, rfl, oo.at_, by rw [List.length_map]; exact small256 (by omega), _, _, ds ++ [mn], rfl, by rw [List.map_append]; exact oo.app, by rw [List.length_append, dl]; rfl, ?_⟩
        have gs : ∀ x, x < ds.length → (ds ++ [mn]).getD x 0 = ds.getD x 0 := fun x hx => getSnoc hx
        have gl : (ds ++ [mn]).getD (n.many + j) 0 = mn := by
          rw [← dl]
          exact getLastN
        have cong : ∀ g' c, g' ≤ ds.length → LC n k g' c → maxL (c.map fun x => (ds ++ [mn]).getD x 0) = maxL (c.map fun x => ds.getD x 0) := fun g' c hg' lc => maxL_congr fun x hx => gs x (by have := lc.lt x hx; omega)
        refine ⟨fun x hx hx2 => ?_, fun g' hg1 hg2 => ?_⟩
        · rw [gs x (by omega)]
          exact dt.low x hx (by omega)
        · rw [List.length_append] at hg2
          have hg2' : g' < ds.length + 1 := hg2
          by_cases e : g' < ds.length
          · obtain ⟨⟨c, hc, e1⟩, e2⟩ := dt.at_ g' hg1 e
            rw [gs g' e]
            refine ⟨⟨c, hc, by rw [cong g' c (by omega) hc]; exact e1⟩, fun c hc => by rw [cong g' c (by omega) hc]; exact e2 c hc⟩
          · have eg : g' = n.many + j := by omega
            subst eg
            rw [gl]
            refine ⟨?_, fun c hc => by rw [cong _ c (by omega) hc]; exact hb' _ (List.mem_map.mpr ⟨c, (ca.mem c).mpr hc, rfl⟩)⟩
            obtain ⟨c, hc, e1⟩ := List.mem_map.mp hmn
            have lc := (ca.mem c).mp hc
            exact ⟨c, lc, by rw [cong _ c (by omega) lc]; exact e1.symm⟩
    · rintro σ H2 ⟨x3, x4, ds, rfl, o2, dl, dt⟩
      rw [List.length_map, ql, show (((n.many + n.gates.length : Nat) : Int) - ((n.many : Nat) : Int)).toNat = n.gates.length by omega] at dl
      refine ⟨_, rfl, l, _, rfl, .inl ⟨SqL.of o2.at_, fun r nr => ?_⟩⟩
      exact q r _ ds (o2.sm.trans (Same.new nr)) upd_same dl dt
end
section
variable {P : Program} {w : World} {K : PySem.W.Frag} {mg : Str → Option Value} {base : Heap} {Ts : List Addr}
def spOneDeepT : Sp := fun vs H Q _ => ∃ (l ca : Addr) (ds ws : List Nat), vs = [.ref l, .ref ca] ∧ H l = some (.tup (ds.map nV)) ∧ H ca = some (.tup (ws.map nV)) ∧ 0 < ws.length ∧ ws.length ≤ 1000 ∧ (∀ x ∈ ws, x < ds.length) ∧ ∀ H', Same H H' → Q (nV (1 + maxL (ws.map fun x => ds.getD x 0))) H'
theorem ok_onedeepT {f c : Addr} (D : Dfn K mg "one_deeper" s_one_deeper f c) (T : Txt mg) : Cal P w K mg base 1 "one_deeper" spOneDeepT [] := by
  refine cal D (fun _ _ _ _ _ _ us hl => match us, hl with | [_, _], _ => rfl) sc_one_deeper (fun vs H Q E h => ?_) (fun A outer s H vs Q E hr h => ?_)
  · obtain ⟨l, ca, ds, ws, rfl, _⟩ := h
    rfl
  · obtain ⟨l, ca, ds, ws, rfl, hl, hca, w0, w24, hv, q⟩ := h
    refine ⟨_, (pss_one (ps_ret (pe_op op_add pe_int (pe_callB (cr_max rfl) (by rfl) T.b_max (by decide +kernel) (pa_cons (pe_lc (own := [("wire", 2)]) (g := gName 2) (tt := tYes) rfl sc_one_deeper.nd (pi_tup (pv 1)) (blkOk_by (own := [("wire", 2)]) (N := ["told", "wires", "wire"]) (sc := defScope s_one_deeper) (by decide +kernel)) (fun _ _ _ _ _ => (pg_name (i := 2) sc_one_deeper.nd rfl (by first | exact Or.inl rfl | exact Or.inr rfl))) (fun _ _ _ _ _ => pts_nil) (fun _ _ _ _ _ => (pe_ix (ix_tupK (K := K)) (pv 0) (pv 2) (fun _ _ => rfl)))) pa_nil))))), ?_⟩
    refine ⟨_, rfl, ca, rfl, ⟨_, SqT.of hca⟩, fun M nM => ?_⟩
    refine lc_tup (K := K) (a := ca) (xs := ws.map nV) (fun i H' => Own H H' M (((ws.take i).map fun x => ds.getD x 0).map nV)) ⟨Same.new nM, upd_same, nM⟩ (fun k H' _ o' => SqT.of (o'.sm _ _ hca)) ?_ ?_
    · rintro i x H2 hx o2
      have hi : i < ws.length := by
        have := (List.getElem?_eq_some_iff.mp hx).1
        rwa [List.length_map] at this
      rw [natAt hi] at hx
      cases hx
      refine ⟨rfl, ?_⟩
      unfold tYes
      refine iteT ?_
      refine ⟨_, rfl, _, rfl, l, _, _, _, rfl, rfl, SqT.of (o2.sm _ _ hl), atI_nat (natAt (hv _ (getD_mem hi))), _, o2.at_, by rw [List.length_map, List.length_map, List.length_take]; exact small256 (by omega), ?_⟩
      have : ws.getD i 0 = ws[i] := by rw [List.getD_eq_getElem?_getD, List.getElem?_eq_getElem hi]; rfl
      rw [List.take_add_one, List.getElem?_eq_getElem hi, Option.toList_some, List.map_append, List.map_append, this]
      exact o2.app
    · rintro H2 o2
      rw [List.length_map, List.take_length] at o2
      refine ⟨M, (ws.map fun x => ds.getD x 0).map (fun n : Nat => (n : Int)), rfl, (by rw [mapV]; exact SqL.of o2.at_), by rw [List.length_map, List.length_map]; exact w0, fun m hm hb => ⟨_, _, rfl, rfl, ?_⟩⟩
      have e := max_eq hm hb
      have e2 : V.int (1 + m) = nV (1 + maxL (ws.map fun x => ds.getD x 0)) := by
        have := V.int.inj e
        rw [this]
        rfl
      dsimp -proj only
      rw [e2]
      exact q H2 o2.sm
end
section
variable {P : Program} {w : World} {K : PySem.W.Frag} {mg : Str → Option Value} {base : Heap} {Ts : List Addr}
abbrev lamQ : Str := "chosen.<locals>.<lambda>"
def spChosen (PL : Addr) : Sp := fun vs H Q _ => ∃ (p tp : Addr) (qs : List Addr) (cs : List (List Nat)) (ds : List Nat), vs = [.ref p, .ref tp] ∧ H p = some (.tup (qs.map V.ref)) ∧ TupsAt H qs cs ∧ 0 < cs.length ∧ H tp = some (.tup (ds.map nV)) ∧ (∀ c ∈ cs, 0 < c.length ∧ c.length ≤ 1000 ∧ ∀ x ∈ c, x < ds.length) ∧ LamX.TabS H PL lamQ ∧
  ∀ t c H', H' t = some (.tup (c.map nV)) → Best ds cs c → Keep [PL] H H' → LamX.TabS H' PL lamQ → Q (.ref t) H'
theorem ok_chosen {f c PL : Addr} (D : Dfn K mg "chosen" s_chosen f c) (T : Txt mg) (c_one_deeper : Cal P w K mg base 1 "one_deeper" spOneDeepT []) (TB_chosen : GxR.TabB base mg c PL) : Cal P w K mg base 3 "chosen" (spChosen PL) [] := by
  refine cal D (fun _ _ _ _ _ _ us hl => match us, hl with | [_, _], _ => rfl) sc_chosen (fun vs H Q E h => ?_) (fun A outer s H vs Q E hr h => ?_)
  · obtain ⟨p, tp, qs, cs, ds, rfl, _⟩ := h
    rfl
  · obtain ⟨p, tp, qs, cs, ds, rfl, hp, hqs, c0, htp, hc, tl, q⟩ := h
    refine ⟨_, (pss_one (ps_ret (pe_minKT (K := K) rfl hr (by rfl) T.b_min TB_chosen rfl (q := "chosen.<locals>.<lambda>") (by rfl) (lamOk_by (N := ["cuts", "told", "cut"]) (sc := defScope s_chosen) (p := "cut") (ix := 2) (by decide +kernel)) sc_chosen.nd (ltR_of (op_ltK3 (K := K) (GX.Room.u4 hr))) (pa_cons (pv 0) pa_nil) (fun _ _ _ _ => (pe_tup (pa_cons (pe_c c_one_deeper (GX.Room.lam hr) (by decide) (by rfl) (pa_cons (pv 1) (pa_cons (pv 2) pa_nil))) (pa_cons (pe_callB (len_seqK (K := K)) (by rfl) T.b_len (by decide +kernel) (pa_cons (pv 2) pa_nil)) (pa_cons (pv 2) pa_nil)))))))), ?_⟩
    have key : ∀ (H' : Hp) (i : Nat) (x : V) (Q' : VK), Keep [PL] H H' → LamX.TabS H' PL lamQ → (qs.map V.ref)[i]? = some x → (∀ k t c H'', cs[i]? = some c → x = .ref t → H'' t = some (.tup (c.map nV)) → KeyAt K H'' k ((keyN ds c).map fun n : Nat => (n : Int)) → Same H' H'' → Q' k H'') →
        tTup (tCons (tCall spOneDeepT [] C8.E0 (tCons (tVar 1) (tCons (tVar 2) tNil))) (tCons (tCB (fun xs H Q => ∃ p ys, xs = [V.ref p] ∧ (SqL K H p ys ∨ SqT K H p ys) ∧ Q (V.int ys.length) H) (tCons (tVar 2) tNil)) (tCons (tVar 2) tNil))) ((L2.start ["cuts", "told", "cut"] [V.ref p, V.ref tp]).set 2 (some x)) H' Q' := by
      intro H' i x Q' kp tl' hx hq
      have keep : ∀ {b xs}, H b = some (HO.tup xs) → H' b = some (.tup xs) := fun {b xs} e => kp b _ e fun z => by
        rw [List.mem_singleton.mp z] at e
        obtain ⟨ps, h, _⟩ := tl
        rw [h] at e
        cases e
      obtain ⟨t, c, rfl, hci, ht⟩ := hqs.at_ hx
      obtain ⟨l0, l1, lt⟩ := hc c (List.mem_of_getElem? hci)
      refine ⟨_, rfl, _, rfl, tp, t, ds, c, rfl, keep htp, keep ht, l0, l1, lt, fun H3 s3 => ?_⟩
      have ht3 := s3 _ _ (keep ht)
      refine ⟨_, rfl, t, _, rfl, .inr (SqT.of ht3), _, rfl, small 3, fun kp nkp => ?_⟩
      have s4 := Same.new (o := .tup [nV (1 + maxL (c.map fun x => ds.getD x 0)), .int ((c.map nV).length : Nat), .ref t]) nkp
      refine hq _ t c _ hci rfl (s4 _ _ ht3) ⟨kp, t, ((1 + maxL (c.map fun x => ds.getD x 0) : Nat) : Int), ((c.map nV).length : Nat), c.map fun n : Nat => (n : Int), rfl, ?_, SqT.of upd_same, SqT.of (by rw [mapV]; exact s4 _ _ ht3)⟩ (s3.trans s4)
      rw [List.length_map]
      rfl
    refine ⟨_, rfl, p, _, rfl, SqT.of hp, tl, fun c' H2 k2 t2 hc2 => ?_⟩
    have kp2 : Keep [PL] H H2 := fun b o e n => k2 b o (fun z => n (List.mem_singleton.mpr z)) e
    have q0l : 0 < qs.length := by rw [hqs.1]; exact c0
    have hx0 : (qs.map V.ref)[0]? = some (.ref qs[0]) := by rw [List.getElem?_map, List.getElem?_eq_getElem q0l]; rfl
    have kS : ∀ {H' H'' : Hp}, Keep [PL] H H' → Same H' H'' → Keep [PL] H H'' := fun k s b o e n => s _ _ (k b o e n)
    refine ⟨_, fun j b k H' => (Keep [PL] H H' ∧ LamX.TabS H' PL lamQ ∧ H' c' = some (LamX.CodeO c' lamQ)) ∧ ∃ t c, b = .ref t ∧ H' t = some (.tup (c.map nV)) ∧ Best ds (cs.take j) c ∧ KeyAt K H' k ((keyN ds c).map fun n : Nat => (n : Int)), hx0, ?_, ?_, ?_, ?_⟩
    · refine key H2 0 _ _ kp2 t2 hx0 fun k t c H3 hci e ht hk s3 => ?_
      refine ⟨⟨kS kp2 s3, t2.ext fun b o e => s3 _ _ e, s3 _ _ hc2⟩, t, c, e, ht, ?_, hk⟩
      have : cs.take 1 = [c] := by
        rw [List.take_add_one, hci]
        rfl
      rw [this]
      exact ⟨List.mem_singleton.mpr rfl, fun c' hc => by rw [List.mem_singleton.mp hc]; exact lexN_irr _⟩
    · rintro j b k H' ⟨⟨k', t', c'⟩, _⟩
      refine ⟨SqT.of (k' _ _ hp fun z => ?_), c'⟩
      rw [List.mem_singleton.mp z] at hp
      obtain ⟨ps, h, _⟩ := tl
      rw [h] at hp
      cases hp
    · rintro j b k H' x ⟨⟨k', t', c'⟩, tb, cb, rfl, hb, best, hk⟩ hx
      refine key H' j x _ k' t' hx fun k3 t c H3 hci e ht hk3 s3 => ?_
      have hkb : KeyAt K H3 k ((keyN ds cb).map fun n : Nat => (n : Int)) := hk.same s3
      refine ⟨_, _, hk3, hkb, _, rfl, ⟨kS k' s3, t'.ext fun b o e => s3 _ _ e, s3 _ _ c'⟩, ?_⟩
      have bs := best_step (x := c) best
      have et : cs.take (j + 1) = cs.take j ++ [c] := by rw [List.take_add_one, hci]; rfl
      rw [et]
      show ∃ t c_1, (if lexN (keyN ds c) (keyN ds cb) = true then x else V.ref tb) = _ ∧ _ ∧ _ ∧ KeyAt K H3 (if lexN (keyN ds c) (keyN ds cb) = true then k3 else k) _
      by_cases z : lexN (keyN ds c) (keyN ds cb) = true
      · rw [if_pos z] at bs
        rw [if_pos z, if_pos z]
        exact ⟨t, c, e, ht, bs, hk3⟩
      · rw [if_neg z] at bs
        rw [if_neg z, if_neg z]
        exact ⟨tb, cb, rfl, s3 _ _ hb, bs, hkb⟩
    · rintro b k H' ⟨⟨k', t', c'⟩, t, c, rfl, ht, best, _⟩
      rw [List.length_map, hqs.1, List.take_length] at best
      exact q t c H' ht best k' t'
end
section
variable {P : Program} {w : World} {K : PySem.W.Frag} {mg : Str → Option Value} {base : Heap} {Ts : List Addr}
/-- the cuts of a gate: some, none empty, short, of wires below -/
theorem cuts_ok {n : Net} (ok : n.Ok) {k gt : Nat} {cs : List (List Nat)} (hk2 : 2 ≤ k) (hgm : n.many ≤ gt) (hgw : gt < n.many + n.gates.length) (ca : CutsAre n k gt cs) : 0 < cs.length ∧ ∀ c ∈ cs, 0 < c.length ∧ c.length ≤ k ∧ ∀ x ∈ c, x < gt := by
  refine ⟨?_, fun c hc => ?_⟩
  · obtain ⟨c0, h0⟩ := lc_any ok hk2 hgm (List.getElem?_eq_getElem (show gt - n.many < n.gates.length by omega))
    exact List.length_pos_of_mem ((ca.mem c0).mpr h0)
  · have h := (ca.mem c).mp hc
    refine ⟨Nat.pos_of_ne_zero fun z => ?_, h.len, h.lt⟩
    have hs := h.sep
    rw [List.length_eq_zero_iff.mp z] at hs
    exact sep_none ok _ _ (Nat.le_refl _) (by omega) hs
end
section
variable {P : Program} {w : World} {K : PySem.W.Frag} {mg : Str → Option Value} {base : Heap} {Ts : List Addr}
/-- the choice of the gate g by the depths ds -/
structure IsChoice (n : Net) (k : Nat) (ds : List Nat) (g : Nat) (c : List Nat) : Prop where
  lc : LC n k g c
  low : ∀ c', LC n k g c' → lexN (keyN ds c') (keyN ds c) = false
theorem IsChoice.uniq {n : Net} {k g : Nat} {ds c c' : List Nat} (h : IsChoice n k ds g c) (h' : IsChoice n k ds g c') : c = c' := keyN_inj (lex_tri _ _ (h'.low _ h.lc) (h.low _ h'.lc))
end
end K57
set_option Elab.async false
set_option linter.all false
set_option maxRecDepth 100000
set_option maxHeartbeats 4000000
/-! A deck whose count is bounded. -/
namespace GX
open PySem PySem.Spec PyProof.Rows L2
structure Wt (H : Hp) (W C : Addr) (t : Nat) : Prop where
  ex : ∃ (ns : List Int) (a b : Int), H W = some (.lst [.ref C, .int a, .int b]) ∧ H C = some (.lst (ns.map V.int)) ∧ ns.length ≤ 64 ∧ 0 ≤ b ∧ b ≤ (t : Int)
  ne : W ≠ C
theorem Wt.wd {H : Hp} {W C : Addr} {t : Nat} (h : Wt H W C t) : Wd H W C := by
  obtain ⟨⟨ns, a, b, e1, e2, l, _⟩, ne⟩ := h
  exact ⟨⟨ns, a, b, e1, e2, l⟩, ne⟩
theorem Wt.le {H : Hp} {W C : Addr} {t u : Nat} (h : Wt H W C t) (l : t ≤ u) : Wt H W C u := by
  obtain ⟨⟨ns, a, b, e1, e2, l1, l2, l3⟩, ne⟩ := h
  exact ⟨⟨ns, a, b, e1, e2, l1, l2, by omega⟩, ne⟩
theorem Wt.same {H H' : Hp} {W C : Addr} {t : Nat} (h : Wt H W C t) (s : Same H H') : Wt H' W C t := by
  obtain ⟨⟨ns, a, c, e1, e2, l⟩, ne⟩ := h
  exact ⟨⟨ns, a, c, s _ _ e1, s _ _ e2, l⟩, ne⟩
theorem Wt.keep {X : List Addr} {H H' : Hp} {W C : Addr} {t : Nat} (h : Wt H W C t) (k : Keep X H H') (n : W ∉ X) (m : C ∉ X) : Wt H' W C t := by
  obtain ⟨⟨ns, a, c, e1, e2, l⟩, ne⟩ := h
  exact ⟨⟨ns, a, c, k _ _ e1 n, k _ _ e2 m, l⟩, ne⟩
theorem Wt.put {H : Hp} {W C l : Addr} {t : Nat} {o : HO} (h : Wt H W C t) (n : l ≠ W ∧ l ≠ C) : Wt (upd H l o) W C t := by
  obtain ⟨⟨ns, a, c, e1, e2, z⟩, ne⟩ := h
  exact ⟨⟨ns, a, c, by rw [upd_ne (Ne.symm n.1)]; exact e1, by rw [upd_ne (Ne.symm n.2)]; exact e2, z⟩, ne⟩
/-- the deck stands, all else is kept -/
structure Wkt (W C : Addr) (t : Nat) (H H' : Hp) : Prop where
  wl : Wt H' W C t
  kp : Keep [W, C] H H'
theorem Wkt.wk {W C : Addr} {t : Nat} {H H' : Hp} (s : Wkt W C t H H') : Wk2 W C H H' := ⟨s.wl.wd, s.kp⟩
theorem Wkt.le {W C : Addr} {t u : Nat} {H H' : Hp} (s : Wkt W C t H H') (l : t ≤ u) : Wkt W C u H H' := ⟨s.wl.le l, s.kp⟩
theorem Wkt.nxt {W C : Addr} {t u : Nat} {H H1 H2 : Hp} (s : Wkt W C t H H1) (r : Wkt W C u H1 H2) : Wkt W C u H H2 := ⟨r.wl, s.kp.trans r.kp⟩
theorem Wkt.same {W C : Addr} {t : Nat} {H H1 H2 : Hp} (s : Wkt W C t H H1) (e : Same H1 H2) : Wkt W C t H H2 := ⟨s.wl.same e, s.kp.trans (Same.keep e)⟩
theorem Wkt.new {W C : Addr} {t : Nat} {H H1 : Hp} {p : Addr} {o : HO} (s : Wkt W C t H H1) (n : H1 p = none) : Wkt W C t H (upd H1 p o) := s.same (Same.new n)
theorem Wkt.refl {W C : Addr} {t : Nat} {H : Hp} (h : Wt H W C t) : Wkt W C t H H := ⟨h, Keep.refl⟩
theorem Wkt.at_ {W C : Addr} {t : Nat} {H H' : Hp} {l : Addr} {o : HO} (k : Wkt W C t H H') (n : l ≠ W ∧ l ≠ C) (e : H l = some o) : H' l = some o := k.wk.at_ n e
theorem Wkt.was {W C : Addr} {t : Nat} {H H' : Hp} {l : Addr} (k : Wkt W C t H H') (n : H' l = none) : H l = none := k.wk.was n
theorem Wkt.put {W C : Addr} {t : Nat} {H H' : Hp} {l : Addr} {o : HO} (s : Wkt W C t H H') (nl : H l = none) (n : l ≠ W ∧ l ≠ C) : Wkt W C t H (upd H' l o) := ⟨s.wl.put n, (s.wk.put nl n).kp⟩
theorem Wt.new {H : Hp} {W C l : Addr} {t : Nat} (h : Wt H W C t) (n : H l = none) : l ≠ W ∧ l ≠ C := h.wd.new n
theorem Wt.tup {H H' : Hp} {W C : Addr} {t u : Nat} (h : Wt H W C t) (k : Wkt W C u H H') {b : Addr} {xs : List V} (e : H b = some (.tup xs)) : H' b = some (.tup xs) := h.wd.tup k.wk e
theorem Wt.gates {H H' : Hp} {W C : Addr} {t u : Nat} (h : Wt H W C t) (k : Wkt W C u H H') {ps : List Addr} {gs : List (Nat × Nat × Nat)} (x : GatesAt H ps gs) : GatesAt H' ps gs := x.mono fun b xs e => h.tup k e
/-- the deck, the tables stand; all else is kept -/
structure Dkt (W C : Addr) (t : Nat) (Ts : List Addr) (H H' : Hp) : Prop where
  wl : Wt H' W C t
  tb : Tabs Ts H'
  kp : Keep (W :: C :: Ts) H H'
theorem Dkt.dk {W C : Addr} {t : Nat} {Ts : List Addr} {H H1 : Hp} (d : Dkt W C t Ts H H1) : Dk2 W C Ts H H1 := ⟨d.wl.wd, d.tb, d.kp⟩
theorem Dkt.le {W C : Addr} {t u : Nat} {Ts : List Addr} {H H1 : Hp} (d : Dkt W C t Ts H H1) (l : t ≤ u) : Dkt W C u Ts H H1 := ⟨d.wl.le l, d.tb, d.kp⟩
theorem Dkt.refl {W C : Addr} {t : Nat} {Ts : List Addr} {H : Hp} (w : Wt H W C t) (tb : Tabs Ts H) : Dkt W C t Ts H H := ⟨w, tb, Keep.refl⟩
theorem Dkt.aft {W C : Addr} {t : Nat} {Ts : List Addr} {H H1 H2 : Hp} (d : Dkt W C t Ts H H1) (a : Aft Ts H1 H2) : Dkt W C t Ts H H2 := ⟨d.wl.keep a.kp (d.wl.wd.tabW d.tb) (d.wl.wd.tabC d.tb), a.tb, (d.dk.aft a).kp⟩
theorem Dkt.same {W C : Addr} {t : Nat} {Ts : List Addr} {H H1 H2 : Hp} (d : Dkt W C t Ts H H1) (s : Same H1 H2) : Dkt W C t Ts H H2 := d.aft (Aft.ofSame d.tb s)
theorem Dkt.draw {W C : Addr} {t u : Nat} {Ts : List Addr} {H H1 H2 : Hp} (d : Dkt W C t Ts H H1) (s : Wkt W C u H1 H2) : Dkt W C u Ts H H2 := ⟨s.wl, (d.dk.draw s.wk).tb, (d.dk.draw s.wk).kp⟩
theorem Dkt.put {W C : Addr} {t : Nat} {Ts : List Addr} {H H1 : Hp} {l : Addr} {o : HO} {xs : List V} (d : Dkt W C t Ts H H1) (nl : H l = none) (hl : H1 l = some (.lst xs)) (n : l ≠ W ∧ l ≠ C) : Dkt W C t Ts H (upd H1 l o) := ⟨d.wl.put n, (d.dk.put nl hl n).tb, (d.dk.put nl hl n).kp⟩
theorem Dkt.was {W C : Addr} {t : Nat} {Ts : List Addr} {H H1 : Hp} {l : Addr} (d : Dkt W C t Ts H H1) (n : H1 l = none) : H l = none := d.dk.was n
/-- what stood stands, but the deck -/
theorem Dkt.at_ {W C : Addr} {t : Nat} {Ts : List Addr} {H H1 : Hp} {l : Addr} {o : HO} (d : Dkt W C t Ts H H1) (n : l ≠ W ∧ l ≠ C) (m : l ∉ Ts) (e : H l = some o) : H1 l = some o := d.kp _ _ e fun z => by
  rcases List.mem_cons.mp z with z | z
  · exact n.1 z
  · rcases List.mem_cons.mp z with z | z
    · exact n.2 z
    · exact m z
end GX
set_option Elab.async false
set_option linter.all false
set_option maxRecDepth 100000
set_option maxHeartbeats 4000000
namespace K57
open PySem PySem.Spec PyProof.Rows L2 GX
open C8 (Cal pe_c pe_gc Met Mak)
-- @alt one_deeper lst par=l[i],t[i]
-- @alt one_deeper tup par=t[i],t[i]
-- @alt one_deeper dk par=DK,t[i]
section
variable {P : Program} {w : World} {K : PySem.W.Frag} {mg : Str → Option Value} {base : Heap}
/-! ### the deck -/
def spDraw : Sp := fun vs H Q _ => ∃ (W C : Addr) (m : Int) (t : Nat), vs = [.ref W, .int m] ∧ Wt H W C t ∧ t ≤ 1000000 ∧ 0 < m ∧ m < 1073741824 ∧ ∀ d H', 0 ≤ d → d < m → Wkt W C (t + 1) H H' → Q (.int d) H'
theorem ok_draw {f c : Addr} (D : Dfn K mg "_law_draw" s__law_draw f c) (T : Txt mg) : Cal P w K mg base 1 "_law_draw" spDraw [] := by
  refine cal D (fun _ _ _ _ _ _ us hl => match us, hl with | [_, _], _ => rfl) sc__law_draw (fun vs H Q E h => ?_) (fun A outer s H vs Q E hr h => ?_)
  · obtain ⟨W, C, m, t, rfl, _⟩ := h
    rfl
  · obtain ⟨W, C, m, t, rfl, ⟨⟨ns, a, b, hW, hC, hl, b0, bt⟩, ne⟩, ht, hm0, hm1, q⟩ := h
    refine ⟨_, (pss_cons (ps_asg (pe_op op_add (pe_ix ix_list (pv 0) pe_int (fun _ _ => rfl)) pe_int) (pg_sub (pv 0) pe_int set_list))
      (pss_cons (ps_set (i := 2) sc__law_draw.nd rfl (by first | exact Or.inl rfl | exact Or.inr rfl) (pe_ix ix_list (pv 0) pe_int (fun _ _ => rfl)))
      (pss_cons (ps_if (pt_cmpR (op_neD hr.units) (pe_ix ix_list (pv 0) pe_int (fun _ _ => rfl)) (pe_lst pa_nil) (nomark _)) (pss_cons (ps_set (i := 2) sc__law_draw.nd rfl (by first | exact Or.inl rfl | exact Or.inr rfl) (pe_bm0 PySem.F.plainAttrs_list PySem.F.slot_list_pop PySem.F.type_list_pop mt_pop (pe_ix ix_list (pv 0) pe_int (fun _ _ => rfl))))
      (pss_one (ps_if (pt_cmpR op_ge (pv 2) (pe_op op_pow pe_int pe_int) (nomark _)) (pss_cons (ps_expr (pe_bm PySem.F.plainAttrs_list PySem.F.slot_list_append PySem.F.type_list_append mt_append (pe_ix ix_list (pv 0) pe_int (fun _ _ => rfl)) (pa_cons (pe_op op_fdiv (pv 2) (pv 1)) pa_nil)))
      (pss_one (ps_ret (pe_op op_mod (pv 2) (pv 1))))) pss_nil))) pss_nil)
      (pss_cons (ps_set (i := 3) sc__law_draw.nd rfl (by first | exact Or.inl rfl | exact Or.inr rfl) (pe_op op_mod (pe_op op_mul (pe_op op_add (pe_op op_mod (pv 2) pe_int) pe_int) (pe_op op_add (pe_op op_mul (pe_ix ix_list (pv 0) pe_int (fun _ _ => rfl)) (pe_ix ix_list (pv 0) pe_int (fun _ _ => rfl))) pe_int)) pe_int))
      (pss_cons (ps_set (i := 3) sc__law_draw.nd rfl (by first | exact Or.inl rfl | exact Or.inr rfl) (pe_op op_mod (pe_op op_pow (pv 3) pe_int) pe_int))
      (pss_cons (ps_set (i := 3) sc__law_draw.nd rfl (by first | exact Or.inl rfl | exact Or.inr rfl) (pe_op op_mod (pe_op op_add (pe_op op_add (pe_op op_mul (pv 3) pe_int) (pe_op op_mul pe_int (pe_ix ix_list (pv 0) pe_int (fun _ _ => rfl)))) pe_int) pe_int))
      (pss_cons (ps_set (i := 3) sc__law_draw.nd rfl (by first | exact Or.inl rfl | exact Or.inr rfl) (pe_op op_mod (pe_op op_mul (pv 3) (pe_op op_add (pe_op op_fdiv (pv 3) pe_int) pe_int)) pe_int))
      (pss_one (ps_ret (pe_op op_mod (pe_op op_fdiv (pe_op op_mod (pe_op op_mul (pv 3) pe_int) pe_int) pe_int) (pv 1))))))))))), ?_⟩
    refine ⟨_, rfl, W, _, 2, _, rfl, rfl, SqL.of hW, at2, _, _, rfl, rfl, _, rfl, W, _, 2, 2, rfl, rfl, hW, rfl, ?_⟩
    have hW1 : (upd H W (.lst ([.ref C, .int a, .int b].set 2 (.int (b + 1))))) W = some (.lst [.ref C, .int a, .int (b + 1)]) := upd_same
    have hC1 : (upd H W (.lst ([.ref C, .int a, .int b].set 2 (.int (b + 1))))) C = some (.lst (ns.map V.int)) := by rw [upd_ne (Ne.symm ne)]; exact hC
    have k1 : Keep [W, C] H (upd H W (.lst ([.ref C, .int a, .int b].set 2 (.int (b + 1))))) := Keep.put List.mem_cons_self
    generalize (upd H W (.lst ([.ref C, .int a, .int b].set 2 (.int (b + 1))))) = H1 at hW1 hC1 k1 ⊢
    refine ⟨_, rfl, W, _, 1, _, rfl, rfl, SqL.of hW1, at1, ?_⟩
    refine ⟨_, rfl, W, _, 0, _, rfl, rfl, SqL.of hW1, at0, small 0, fun z nz => ?_⟩
    have e2 := Same.new (o := .lst []) nz
    refine ⟨.list (ns.map PyData.int), .list [], .lst (SqL.of (e2 _ _ hC1)) (dpInt K _ _), .lst (SqL.of upd_same) .nil, PySem.W.ke_shaped_ints ns, by decide, _, rfl, ?_⟩
    have hW2 := e2 _ _ hW1
    have hC2 := e2 _ _ hC1
    have k2 : Keep [W, C] H (upd H1 z (.lst [])) := k1.trans (Same.keep e2)
    generalize upd H1 z (.lst []) = H2 at e2 hW2 hC2 k2 ⊢
    refine ite2 (fun g => ?_) (fun g => ?_)
    · have g' : ns.length ≠ 0 := fun z => by
        have : PyData.eqv (.list (ns.map PyData.int)) (.list []) = true := by
          show PyData.eqvAll _ [] = true
          rw [eqvAllN, List.length_map]
          exact decide_eq_true z
        rw [this] at g
        cases g
      obtain ⟨ms, x, rfl⟩ : ∃ ms x, ns = ms ++ [x] := ⟨ns.dropLast, ns.getLast (fun z => g' (by rw [z]; rfl)), (List.dropLast_concat_getLast _).symm⟩
      have el : ((ms ++ [x]).map V.int)[((ms ++ [x]).map V.int).length - 1]? = some (.int x) := by
        rw [List.map_append, List.length_append, List.length_map]
        show (ms.map V.int ++ [V.int x])[ms.length + 1 - 1]? = _
        rw [List.getElem?_append_right (by rw [List.length_map]; omega), List.length_map, Nat.add_sub_cancel, Nat.sub_self]
        rfl
      have ed : ((ms ++ [x]).map V.int).dropLast = ms.map V.int := by
        rw [List.map_append]
        exact List.dropLast_concat
      refine ⟨_, rfl, W, _, 0, _, rfl, rfl, SqL.of hW2, at0, .inl ⟨rfl, _, SqL.of hC2⟩, C, _, _, rfl, rfl, hC2, el, ?_⟩
      rw [ed]
      have hW3 : (upd H2 C (.lst (ms.map V.int))) W = some (.lst [.ref C, .int a, .int (b + 1)]) := by rw [upd_ne ne]; exact hW2
      have hC3 : (upd H2 C (.lst (ms.map V.int))) C = some (.lst (ms.map V.int)) := upd_same
      have k3 : Keep [W, C] H (upd H2 C (.lst (ms.map V.int))) := k2.trans (Keep.put (List.mem_cons_of_mem _ List.mem_cons_self))
      have hl3 : ms.length + 1 ≤ 64 := by rw [List.length_append] at hl; exact hl
      generalize upd H2 C (.lst (ms.map V.int)) = H3 at hW3 hC3 k3 ⊢
      refine ⟨_, rfl, _, _, rfl, rfl, ⟨by decide, by decide, by decide⟩, _, _, rfl, rfl, _, rfl, ite2 (fun g2 => ?_) (fun g2 => ?_)⟩
      · refine ⟨_, rfl, W, _, 0, _, rfl, rfl, SqL.of hW3, at0, .inl ⟨rfl, _, SqL.of hC3⟩, _, rfl, _, rfl, _, _, rfl, rfl, ⟨hm0, hm1⟩, C, _, _, rfl, rfl, hC3, by rw [List.length_map]; exact len64 (by omega), ?_⟩
        refine ⟨_, rfl, _, rfl, _, _, rfl, rfl, hm0, ?_⟩
        refine q _ _ (Int.emod_nonneg _ (by omega)) (Int.emod_lt_of_pos _ hm0) ⟨⟨⟨ms ++ [x / m], _, _, by rw [upd_ne ne]; exact hW3, by rw [upd_same, List.map_append]; rfl, by rw [List.length_append]; exact hl3, by omega, by omega⟩, ne⟩, k3.trans (Keep.put (List.mem_cons_of_mem _ List.mem_cons_self))⟩
      · refine ⟨_, rfl, _, _, rfl, rfl, (by show (0 : Int) < 2147483587; decide), _, _, rfl, rfl, _, rfl, W, _, 2, _, rfl, rfl, SqL.of hW3, at2, _, rfl, W, _, 2, _, rfl, rfl, SqL.of hW3, at2, _, _, rfl, rfl, .inl (by omega), _, _, rfl, rfl, _, _, rfl, rfl, .inl (by omega), _, _, rfl, rfl, (by show (0 : Int) < 2147483647; decide), ?_⟩
        have b1 := Int.emod_nonneg ((x % 2147483587 + 1) * ((b + 1) * (b + 1) + 48271)) (show (2147483647 : Int) ≠ 0 by decide)
        have b2 := Int.emod_lt_of_pos ((x % 2147483587 + 1) * ((b + 1) * (b + 1) + 48271)) (show (0 : Int) < 2147483647 by decide)
        generalize ((x % 2147483587 + 1) * ((b + 1) * (b + 1) + 48271)) % 2147483647 = n1 at b1 b2 ⊢
        refine ⟨_, rfl, _, _, rfl, rfl, ⟨by decide, by decide, by omega⟩, _, _, rfl, rfl, (by show (0 : Int) < 2147483629; decide), ?_⟩
        have b3 := Int.emod_nonneg (n1 ^ (3 : Int).toNat) (show (2147483629 : Int) ≠ 0 by decide)
        have b4 := Int.emod_lt_of_pos (n1 ^ (3 : Int).toNat) (show (0 : Int) < 2147483629 by decide)
        generalize n1 ^ (3 : Int).toNat % 2147483629 = n2 at b3 b4 ⊢
        refine ⟨_, rfl, _, _, rfl, rfl, .inl (by omega), _, rfl, W, _, 2, _, rfl, rfl, SqL.of hW3, at2, _, _, rfl, rfl, .inl (by omega), _, _, rfl, rfl, _, _, rfl, rfl, _, _, rfl, rfl, (by show (0 : Int) < 2147483579; decide), ?_⟩
        have b5 := Int.emod_nonneg (n2 * 39373 + 69621 * (b + 1) + 7919) (show (2147483579 : Int) ≠ 0 by decide)
        have b6 := Int.emod_lt_of_pos (n2 * 39373 + 69621 * (b + 1) + 7919) (show (0 : Int) < 2147483579 by decide)
        generalize (n2 * 39373 + 69621 * (b + 1) + 7919) % 2147483579 = n3 at b5 b6 ⊢
        refine ⟨_, rfl, _, rfl, _, _, rfl, rfl, ⟨by decide, by decide⟩, _, _, rfl, rfl, _, _, rfl, rfl, .inl (by omega), _, _, rfl, rfl, (by show (0 : Int) < 2147483563; decide), ?_⟩
        have b7 := Int.emod_nonneg (n3 * (n3 / 5 + 11)) (show (2147483563 : Int) ≠ 0 by decide)
        have b8 := Int.emod_lt_of_pos (n3 * (n3 / 5 + 11)) (show (0 : Int) < 2147483563 by decide)
        generalize (n3 * (n3 / 5 + 11)) % 2147483563 = n4 at b7 b8 ⊢
        refine ⟨_, rfl, _, _, rfl, rfl, .inl (by omega), _, _, rfl, rfl, (by show (0 : Int) < 2305843009213693951; decide), _, _, rfl, rfl, ⟨by decide, by decide⟩, _, rfl, _, _, rfl, rfl, hm0, ?_⟩
        exact q _ _ (Int.emod_nonneg _ (by omega)) (Int.emod_lt_of_pos _ hm0) ⟨⟨⟨ms, _, _, hW3, hC3, by omega, by omega, by omega⟩, ne⟩, k3⟩
    · refine ⟨_, rfl, _, _, rfl, rfl, (by show (0 : Int) < 2147483587; decide), _, _, rfl, rfl, _, rfl, W, _, 2, _, rfl, rfl, SqL.of hW2, at2, _, rfl, W, _, 2, _, rfl, rfl, SqL.of hW2, at2, _, _, rfl, rfl, .inl (by omega), _, _, rfl, rfl, _, _, rfl, rfl, .inl (by omega), _, _, rfl, rfl, (by show (0 : Int) < 2147483647; decide), ?_⟩
      have b1 := Int.emod_nonneg ((a % 2147483587 + 1) * ((b + 1) * (b + 1) + 48271)) (show (2147483647 : Int) ≠ 0 by decide)
      have b2 := Int.emod_lt_of_pos ((a % 2147483587 + 1) * ((b + 1) * (b + 1) + 48271)) (show (0 : Int) < 2147483647 by decide)
      generalize ((a % 2147483587 + 1) * ((b + 1) * (b + 1) + 48271)) % 2147483647 = n1 at b1 b2 ⊢
      refine ⟨_, rfl, _, _, rfl, rfl, ⟨by decide, by decide, by omega⟩, _, _, rfl, rfl, (by show (0 : Int) < 2147483629; decide), ?_⟩
      have b3 := Int.emod_nonneg (n1 ^ (3 : Int).toNat) (show (2147483629 : Int) ≠ 0 by decide)
      have b4 := Int.emod_lt_of_pos (n1 ^ (3 : Int).toNat) (show (0 : Int) < 2147483629 by decide)
      generalize n1 ^ (3 : Int).toNat % 2147483629 = n2 at b3 b4 ⊢
      refine ⟨_, rfl, _, _, rfl, rfl, .inl (by omega), _, rfl, W, _, 2, _, rfl, rfl, SqL.of hW2, at2, _, _, rfl, rfl, .inl (by omega), _, _, rfl, rfl, _, _, rfl, rfl, _, _, rfl, rfl, (by show (0 : Int) < 2147483579; decide), ?_⟩
      have b5 := Int.emod_nonneg (n2 * 39373 + 69621 * (b + 1) + 7919) (show (2147483579 : Int) ≠ 0 by decide)
      have b6 := Int.emod_lt_of_pos (n2 * 39373 + 69621 * (b + 1) + 7919) (show (0 : Int) < 2147483579 by decide)
      generalize (n2 * 39373 + 69621 * (b + 1) + 7919) % 2147483579 = n3 at b5 b6 ⊢
      refine ⟨_, rfl, _, rfl, _, _, rfl, rfl, ⟨by decide, by decide⟩, _, _, rfl, rfl, _, _, rfl, rfl, .inl (by omega), _, _, rfl, rfl, (by show (0 : Int) < 2147483563; decide), ?_⟩
      have b7 := Int.emod_nonneg (n3 * (n3 / 5 + 11)) (show (2147483563 : Int) ≠ 0 by decide)
      have b8 := Int.emod_lt_of_pos (n3 * (n3 / 5 + 11)) (show (0 : Int) < 2147483563 by decide)
      generalize (n3 * (n3 / 5 + 11)) % 2147483563 = n4 at b7 b8 ⊢
      refine ⟨_, rfl, _, _, rfl, rfl, .inl (by omega), _, _, rfl, rfl, (by show (0 : Int) < 2305843009213693951; decide), _, _, rfl, rfl, ⟨by decide, by decide⟩, _, rfl, _, _, rfl, rfl, hm0, ?_⟩
      exact q _ _ (Int.emod_nonneg _ (by omega)) (Int.emod_lt_of_pos _ hm0) ⟨⟨⟨ns, _, _, hW2, hC2, hl, by omega, by omega⟩, ne⟩, k2⟩
def spDeck (K : PySem.W.Frag) : Sp := fun vs H Q _ => ∃ (a : Addr) (ns : List Int), vs = [.ref a] ∧ SqL K H a (ns.map V.int) ∧ ns.length ≤ 63 ∧ ∀ p C H', H p = none → H C = none → Wt H' p C 0 → Same H H' → Q (.ref p) H'
theorem ok_deck {f c : Addr} (D : Dfn K mg "_law_deck" s__law_deck f c) (T : Txt mg) : Cal P w K mg base 1 "_law_deck" (spDeck K) [] := by
  refine cal D (fun _ _ _ _ _ _ us hl => match us, hl with | [_], _ => rfl) sc__law_deck (fun vs H Q E h => ?_) (fun A outer s H vs Q E hr h => ?_)
  · obtain ⟨a, ns, rfl, _⟩ := h
    rfl
  · obtain ⟨a, ns, rfl, hS, hl, q⟩ := h
    refine ⟨_, (pss_cons (ps_set (i := 1) sc__law_deck.nd rfl (by first | exact Or.inl rfl | exact Or.inr rfl) (pe_callTy call_list_of (by rfl) T.b_list (by decide +kernel) (pa_cons (pe_slice sl_list (pv 0) po_none (po_some pe_int)) pa_nil)))
      (pss_one (ps_ret (pe_lst (pa_cons (pe_revL (pv 1)) (pa_cons (pe_op op_add (pe_op op_mod (pe_callB (cr_sum rfl) (by rfl) T.b_sum (by decide +kernel) (pa_cons (pv 1) pa_nil)) pe_int) (pe_op op_mul pe_int (pe_callB call_len_seq (by rfl) T.b_len (by decide +kernel) (pa_cons (pv 1) pa_nil)))) (pa_cons pe_int pa_nil))))))), ?_⟩
    refine ⟨_, rfl, 63, rfl, ?_⟩
    refine ⟨a, _, rfl, hS, fun p np => ?_⟩
    have e1 := Same.new (o := .lst (cutV (ns.map V.int) none (some 63))) np
    have ec : cutV (ns.map V.int) none (some 63) = ns.map V.int := by
      rw [show (some (63 : Int)) = some ((63 : Nat) : Int) from rfl, cut_hi, List.take_of_length_le (by rw [List.length_map]; exact hl)]
    rw [ec] at e1 ⊢
    refine ⟨p, _, rfl, .inl (SqL.of upd_same), fun L nL => ?_⟩
    have e2 := e1.trans (Same.new (o := .lst (ns.map V.int)) nL)
    have hL : (upd (upd H p (.lst (ns.map V.int))) L (.lst (ns.map V.int))) L = some (.lst (ns.map V.int)) := upd_same
    generalize upd (upd H p (.lst (ns.map V.int))) L (.lst (ns.map V.int)) = H1 at e2 hL ⊢
    refine ⟨_, rfl, L, _, rfl, SqL.of hL, fun C nC => ?_⟩
    have e3 := Same.new (o := .lst (ns.map V.int).reverse) nC
    have hC : upd H1 C (.lst (ns.map V.int).reverse) C = some (.lst (ns.reverse.map V.int)) := by rw [upd_same, List.map_reverse]
    have hL2 := e3 _ _ hL
    have sm := e2.trans e3
    have C0 : H C = none := by
      cases e : H C with
      | none => rfl
      | some u =>
        have := e2 _ _ e
        rw [nC] at this
        cases this
    generalize upd H1 C (.lst (ns.map V.int).reverse) = H2 at sm hC hL2 ⊢
    refine ⟨_, rfl, L, ns, rfl, SqL.of hL2, _, _, rfl, rfl, (by show (0 : Int) < 2147483629; decide), _, rfl, L, _, rfl, .inl (SqL.of hL2), _, _, rfl, rfl, .inl (by omega), _, _, rfl, rfl, small 3, fun W nW => ?_⟩
    have e4 := Same.new (o := .lst [.ref C, .int (ns.sum % 2147483629 + 31 * (((ns.map V.int).length : Nat) : Int)), .int 0]) nW
    have W0 : H W = none := by
      cases e : H W with
      | none => rfl
      | some u =>
        have := sm _ _ e
        rw [nW] at this
        cases this
    exact q W C _ W0 C0 ⟨⟨ns.reverse, _, _, upd_same, e4 _ _ hC, by rw [List.length_reverse]; omega, by omega, by omega⟩, fun z => by rw [z, hC] at nW; cases nW⟩ (sm.trans e4)
end
section
variable {P : Program} {w : World} {K : PySem.W.Frag} {mg : Str → Option Value} {base : Heap}
def spGate : Sp := fun vs H Q _ => ∃ (W C : Addr) (many wire : Nat) (way : Int) (t : Nat), vs = [.ref W, nV many, nV wire, .int way] ∧ Wt H W C t ∧ t ≤ 900000 ∧ 1 ≤ wire ∧ wire ≤ 1000 ∧ many ≤ 1000 ∧ 0 ≤ way ∧ way < 4 ∧
  ∀ p H' (g : Nat × Nat × Nat), g.1 < 16 → g.2.1 < wire → g.2.2 < wire → H' p = some (.tup (gV g)) → Wkt W C (t + 4) H H' → H p = none → Q (.ref p) H'
theorem ok_gate {f c : Addr} (D : Dfn K mg "_law_gate" s__law_gate f c) (T : Txt mg) (c__law_draw : Cal P w K mg base 1 "_law_draw" spDraw []) : Cal P w K mg base 2 "_law_gate" spGate [] := by
  refine cal D (fun _ _ _ _ _ _ us hl => match us, hl with | [_, _, _, _], _ => rfl) sc__law_gate (fun vs H Q E h => ?_) (fun A outer s H vs Q E hr h => ?_)
  · obtain ⟨W, C, many, wire, way, t, rfl, _⟩ := h
    rfl
  · obtain ⟨W, C, many, wire, way, t, rfl, wl, ht, hw1, hw2, hm, y0, y4, q⟩ := h
    refine ⟨_, (pss_cons (ps_set (i := 4) sc__law_gate.nd rfl (by first | exact Or.inl rfl | exact Or.inr rfl) (pe_ix ix_list (pe_lst (pa_cons (pv 2) (pa_cons (pe_callB (call_min2 rfl) (by rfl) T.b_min (by decide +kernel) (pa_cons (pv 2) (pa_cons pe_int pa_nil))) (pa_cons (pe_callB (call_min2 rfl) (by rfl) T.b_min (by decide +kernel) (pa_cons (pv 2) (pa_cons (pe_op op_add (pv 1) pe_int) pa_nil))) (pa_cons (pv 2) pa_nil))))) (pv 3) (fun _ _ => rfl)))
      (pss_cons (ps_set (i := 5) sc__law_gate.nd rfl (by first | exact Or.inl rfl | exact Or.inr rfl) (pe_cmpR op_eq (pe_c c__law_draw hr (by decide) (by rfl) (pa_cons (pv 0) (pa_cons pe_int pa_nil))) pe_int (nomark _)))
      (pss_cons (ps_set (i := 6) sc__law_gate.nd rfl (by first | exact Or.inl rfl | exact Or.inr rfl) (pe_op op_sub (pe_op op_sub (pv 2) pe_int) (pe_c c__law_draw hr (by decide) (by rfl) (pa_cons (pv 0) (pa_cons (pe_ix ix_list (pe_lst (pa_cons (pv 4) (pa_cons pe_int pa_nil))) (pe_callTy call_int1 (by rfl) T.b_int (by decide +kernel) (pa_cons (pe_cmpR op_eq (pv 3) pe_int (nomark _)) pa_nil)) (fun _ _ => rfl)) pa_nil)))))
      (pss_cons (ps_set (i := 7) sc__law_gate.nd rfl (by first | exact Or.inl rfl | exact Or.inr rfl) (pe_op op_sub (pe_op op_sub (pv 2) pe_int) (pe_c c__law_draw hr (by decide) (by rfl) (pa_cons (pv 0) (pa_cons (pv 4) pa_nil)))))
      (pss_one (ps_ret (pe_tup (pa_cons (pe_c c__law_draw hr (by decide) (by rfl) (pa_cons (pv 0) (pa_cons pe_int pa_nil))) (pa_cons (pv 6) (pa_cons (pe_ix ix_list (pe_lst (pa_cons (pv 7) (pa_cons (pv 6) pa_nil))) (pe_callTy call_int1 (by rfl) T.b_int (by decide +kernel) (pa_cons (pv 5) pa_nil)) (fun _ _ => rfl)) pa_nil)))))))))), ?_⟩
    refine ⟨_, rfl, _, rfl, _, _, rfl, _, rfl, _, rfl, _, _, rfl, rfl, _, _, rfl, _, rfl, small 4, fun l nl => ?_⟩
    obtain ⟨r, er, r1, r2⟩ : ∃ r : Int, atI [nV wire, V.int (if (3 : Int) < ((wire : Nat) : Int) then 3 else ((wire : Nat) : Int)), V.int (if ((many : Nat) : Int) + 1 < ((wire : Nat) : Int) then ((many : Nat) : Int) + 1 else ((wire : Nat) : Int)), nV wire] way = some (.int r) ∧ 1 ≤ r ∧ r ≤ ((wire : Nat) : Int) := by
      rcases (by omega : way = 0 ∨ way = 1 ∨ way = 2 ∨ way = 3) with e | e | e | e <;> subst e
      · exact ⟨_, at0, by omega, by omega⟩
      · exact ⟨_, at1, by split <;> omega, by split <;> omega⟩
      · exact ⟨_, at2, by split <;> omega, by split <;> omega⟩
      · exact ⟨_, atI_nat (j := 3) rfl, by omega, by omega⟩
    refine ⟨_, rfl, l, _, _, .int r, rfl, rfl, SqL.of upd_same, er, ?_⟩
    have s1 : Wkt W C t H (upd H l _) := (Wkt.refl wl).new (o := .lst [nV wire, V.int (if (3 : Int) < ((wire : Nat) : Int) then 3 else ((wire : Nat) : Int)), V.int (if ((many : Nat) : Int) + 1 < ((wire : Nat) : Int) then ((many : Nat) : Int) + 1 else ((wire : Nat) : Int)), nV wire]) nl
    refine ⟨_, rfl, W, C, 8, t, rfl, s1.wl, by omega, by decide, by decide, fun dt H2 _ _ k2 => ⟨rfl, ?_⟩⟩
    have s2 := s1.nxt k2
    refine ⟨_, rfl, _, _, rfl, rfl, _, rfl, _, rfl, small 2, fun l3 n3 => ?_⟩
    have s3 := s2.new (o := .lst [.int r, .int 1]) n3
    have h33 : upd H2 l3 (.lst [.int r, .int 1]) l3 = some (.lst [.int r, .int 1]) := upd_same
    generalize upd H2 l3 (.lst [.int r, .int 1]) = H3 at s3 h33 ⊢
    obtain ⟨m1, em1, m10, m11⟩ : ∃ m1 : Int, (if decide (V.int way = V.int 3) = true then V.int 1 else V.int r) = V.int m1 ∧ 1 ≤ m1 ∧ m1 ≤ ((wire : Nat) : Int) := by
      split
      · exact ⟨_, rfl, by omega, by omega⟩
      · exact ⟨_, rfl, r1, r2⟩
    refine ⟨_, rfl, rfl, .inr ⟨_, rfl, l3, _, _, .int m1, rfl, rfl, SqL.of h33, (by rw [atIf]; exact congrArg some em1), ?_⟩⟩
    refine ⟨W, C, m1, t + 1, rfl, s3.wl, by omega, by omega, by omega, fun d1 H4 d10 d11 k4 => ⟨_, _, rfl, rfl, ?_⟩⟩
    have s4 := s3.nxt k4
    refine ⟨_, rfl, _, _, rfl, rfl, _, rfl, _, rfl, W, C, r, t + 1 + 1, rfl, s4.wl, by omega, by omega, by omega, fun d2 H5 d20 d21 k5 => ⟨_, _, rfl, rfl, ?_⟩⟩
    have s5 := s4.nxt k5
    refine ⟨_, rfl, W, C, 16, t + 1 + 1 + 1, rfl, s5.wl, by omega, by decide, by decide, fun kd H6 k60 k61 k6 => ?_⟩
    have s6 := s5.nxt k6
    refine ⟨_, rfl, _, rfl, _, rfl, small 2, fun l7 n7 => ?_⟩
    have s7 := s6.new (o := .lst [.int (((wire : Nat) : Int) - 1 - d2), .int (((wire : Nat) : Int) - 1 - d1)]) n7
    have h77 : upd H6 l7 (.lst [.int (((wire : Nat) : Int) - 1 - d2), .int (((wire : Nat) : Int) - 1 - d1)]) l7 = some (.lst [.int (((wire : Nat) : Int) - 1 - d2), .int (((wire : Nat) : Int) - 1 - d1)]) := upd_same
    generalize upd H6 l7 (.lst [.int (((wire : Nat) : Int) - 1 - d2), .int (((wire : Nat) : Int) - 1 - d1)]) = H7 at s7 h77 ⊢
    obtain ⟨o2, eo, o20, o21⟩ : ∃ o2 : Int, (if decide (V.int dt = V.int 3) = true then V.int (((wire : Nat) : Int) - 1 - d1) else V.int (((wire : Nat) : Int) - 1 - d2)) = V.int o2 ∧ 0 ≤ o2 ∧ o2 < ((wire : Nat) : Int) := by
      split
      · exact ⟨_, rfl, by omega, by omega⟩
      · exact ⟨_, rfl, by omega, by omega⟩
    refine ⟨_, rfl, .inr ⟨_, rfl, l7, _, _, .int o2, rfl, rfl, SqL.of h77, (by rw [atIf]; exact congrArg some eo), small 3, fun p np => ?_⟩⟩
    have s8 := s7.new (o := .tup [.int kd, .int (((wire : Nat) : Int) - 1 - d1), .int o2]) np
    refine q p _ (kd.toNat, (((wire : Nat) : Int) - 1 - d1).toNat, o2.toNat) (by show kd.toNat < 16; omega) (by show (((wire : Nat) : Int) - 1 - d1).toNat < wire; omega) (by show o2.toNat < wire; omega) ?_ s8 (s7.was np)
    rw [upd_same]
    show some (HO.tup [V.int kd, V.int (((wire : Nat) : Int) - 1 - d1), V.int o2]) = some (HO.tup [V.int (kd.toNat : Int), V.int ((((wire : Nat) : Int) - 1 - d1).toNat : Int), V.int (o2.toNat : Int)])
    rw [Int.toNat_of_nonneg k60, Int.toNat_of_nonneg (by omega), Int.toNat_of_nonneg o20]
def spNet : Sp := fun vs H Q _ => ∃ (W C : Addr) (most gm t : Nat), vs = [.ref W, nV most, nV gm] ∧ Wt H W C t ∧ t ≤ 800000 ∧ 1 ≤ most ∧ most ≤ 8 ∧ gm ≤ 16 ∧ ∀ a n g o ps H', n.Ok → n.many ≤ most → n.gates.length ≤ gm → NetAt H' a n g o ps → Wkt W C (t + 200) H H' → Q (.ref a) H'
theorem ok_net {f c : Addr} (D : Dfn K mg "_law_net" s__law_net f c) (T : Txt mg) (c__law_draw : Cal P w K mg base 1 "_law_draw" spDraw []) (c__law_gate : Cal P w K mg base 2 "_law_gate" spGate []) : Cal P w K mg base 3 "_law_net" spNet [] := by
  refine cal D (fun _ _ _ _ _ _ us hl => match us, hl with | [_, _, _], _ => rfl) sc__law_net (fun vs H Q E h => ?_) (fun A outer s H vs Q E hr h => ?_)
  · obtain ⟨W, C, most, gm, t, rfl, _⟩ := h
    rfl
  · obtain ⟨W, C, most, gm, t, rfl, wl, ht, h1, h8, hg, q⟩ := h
    refine ⟨_, (pss_cons (ps_set (i := 3) sc__law_net.nd rfl (by first | exact Or.inl rfl | exact Or.inr rfl) (pe_c c__law_draw hr (by decide) (by rfl) (pa_cons (pv 0) (pa_cons pe_int pa_nil))))
      (pss_cons (ps_set (i := 4) sc__law_net.nd rfl (by first | exact Or.inl rfl | exact Or.inr rfl) (pe_op op_add pe_int (pe_c c__law_draw hr (by decide) (by rfl) (pa_cons (pv 0) (pa_cons (pv 1) pa_nil)))))
      (pss_cons (ps_set (i := 5) sc__law_net.nd rfl (by first | exact Or.inl rfl | exact Or.inr rfl) (pe_c c__law_draw hr (by decide) (by rfl) (pa_cons (pv 0) (pa_cons (pe_op op_add (pv 2) pe_int) pa_nil))))
      (pss_cons (ps_set (i := 6) sc__law_net.nd rfl (by first | exact Or.inl rfl | exact Or.inr rfl) (pe_lst pa_nil))
      (pss_cons (ps_for PassesOwn.never rfl (pi_range1 (by rfl) T.b_range (pa_cons (pv 5) pa_nil)) (pg_name (i := 7) sc__law_net.nd rfl (by first | exact Or.inl rfl | exact Or.inr rfl))
        (pss_one (ps_expr (pe_bm PySem.F.plainAttrs_list PySem.F.slot_list_append PySem.F.type_list_append mt_append (pv 6) (pa_cons (pe_c c__law_gate hr (by decide) (by rfl) (pa_cons (pv 0) (pa_cons (pv 4) (pa_cons (pe_op op_add (pv 4) (pv 7)) (pa_cons (pv 3) pa_nil))))) pa_nil)))))
      (pss_cons (ps_set (i := 8) sc__law_net.nd rfl (by first | exact Or.inl rfl | exact Or.inr rfl) (pe_lst pa_nil))
      (pss_cons (ps_for PassesOwn.never rfl (pi_range1 (by rfl) T.b_range (pa_cons (pe_op op_add pe_int (pe_c c__law_draw hr (by decide) (by rfl) (pa_cons (pv 0) (pa_cons (pe_ix ix_list (pe_lst (pa_cons pe_int (pa_cons pe_int pa_nil))) (pe_callTy call_int1 (by rfl) T.b_int (by decide +kernel) (pa_cons (pe_cmpR op_eq (pe_c c__law_draw hr (by decide) (by rfl) (pa_cons (pv 0) (pa_cons pe_int pa_nil))) pe_int (nomark _)) pa_nil)) (fun _ _ => rfl)) pa_nil)))) pa_nil)) (pg_name (i := 7) sc__law_net.nd rfl (by first | exact Or.inl rfl | exact Or.inr rfl))
        (pss_cons (ps_set (i := 9) sc__law_net.nd rfl (by first | exact Or.inl rfl | exact Or.inr rfl) (pe_c c__law_draw hr (by decide) (by rfl) (pa_cons (pv 0) (pa_cons (pe_ix ix_list (pe_lst (pa_cons (pe_callB (call_min2 rfl) (by rfl) T.b_min (by decide +kernel) (pa_cons pe_int (pa_cons (pe_op op_add (pv 4) (pv 5)) pa_nil))) (pa_cons (pe_op op_add (pv 4) (pv 5)) pa_nil))) (pe_c c__law_draw hr (by decide) (by rfl) (pa_cons (pv 0) (pa_cons pe_int pa_nil))) (fun _ _ => rfl)) pa_nil))))
      (pss_one (ps_expr (pe_bm PySem.F.plainAttrs_list PySem.F.slot_list_append PySem.F.type_list_append mt_append (pv 8) (pa_cons (pe_op op_sub (pe_op op_sub (pe_op op_add (pv 4) (pv 5)) pe_int) (pv 9)) pa_nil))))))
      (pss_one (ps_ret (pe_tup (pa_cons (pv 4) (pa_cons (pe_callTy call_tuple_of (by rfl) T.b_tuple (by decide +kernel) (pa_cons (pv 6) pa_nil)) (pa_cons (pe_callTy call_tuple_of (by rfl) T.b_tuple (by decide +kernel) (pa_cons (pv 8) pa_nil)) pa_nil))))))))))))), ?_⟩
    refine ⟨_, rfl, W, C, 4, t, rfl, wl, by omega, by decide, by decide, fun way H1 y0 y4 s1 => ?_⟩
    refine ⟨_, rfl, _, rfl, W, C, most, t + 1, rfl, s1.wl, by omega, by omega, by omega, fun m0 H2 m1 m2 k2 => ⟨_, _, rfl, rfl, ?_⟩⟩
    have s2 := s1.nxt k2
    refine ⟨_, rfl, _, rfl, _, _, rfl, rfl, W, C, gm + 1, t + 1 + 1, rfl, s2.wl, by omega, by omega, by omega, fun count H3 c0 c1 k3 => ?_⟩
    have s3 := s2.nxt k3
    refine ⟨small 0, fun l nl => ?_⟩
    have s4 := s3.new (o := .lst []) nl
    have nlW := s3.wl.new nl
    have nlH := s3.was nl
    obtain ⟨m, em⟩ : ∃ m : Nat, 1 + m0 = ((m : Nat) : Int) := ⟨(1 + m0).toNat, by omega⟩
    dsimp -proj only
    rw [em]
    refine ⟨_, rfl, _, rfl, by omega, by omega, ?_⟩
    refine for_range (lo := 0) (n := count.toNat) (fun i σ H' => ∃ (ps : List Addr) (gs : List (Nat × Nat × Nat)) (x7 : Option V), σ = [some (.ref W), some (nV most), some (nV gm), some (.int way), some (.int ((m : Nat) : Int)), some (.int count), some (.ref l), x7, none, none] ∧ Wkt W C (t + 3 + 4 * i) H H' ∧
      H' l = some (.lst (ps.map V.ref)) ∧ GatesAt H' ps gs ∧ gs.length = i ∧ ∀ (j : Nat) (g : Nat × Nat × Nat), gs[j]? = some g → gateOk m j g) ⟨[], [], none, rfl, s4, upd_same, GatesAt.nil _, rfl, fun j g e => by simp at e⟩ ?_ ?_
    · rintro i σ H5 hi ⟨ps, gs, x7, rfl, s5, hl, hgs, hlen, hok⟩
      have hi' : i < 16 := by omega
      refine ⟨_, rfl, .inl ⟨rfl, _, SqL.of hl⟩, _, rfl, _, rfl, _, rfl, _, rfl, _, _, rfl, rfl, _, rfl, W, C, m, m + i, way, t + 3 + 4 * i, (by rw [Int.zero_add]; rfl), s5.wl, by omega, by omega, by omega, by omega, y0, y4, fun p H6 g g1 g2 g3 hp k6 np => ?_⟩
      have s6 := s5.nxt k6
      have hl6 := k6.at_ nlW hl
      have hgs6 := s5.wl.gates k6 hgs
      refine ⟨l, _, _, rfl, rfl, hl6, by rw [List.length_map, hgs.1, hlen]; exact small1000 (by omega), ?_⟩
      refine ⟨ps ++ [p], gs ++ [g], _, rfl, (s6.put nlH nlW).le (by omega), by rw [upd_same, List.map_append]; rfl, (hgs6.mono (tupPut hl6)).push (tupPut hl6 _ _ hp), by rw [List.length_append, hlen]; rfl, fun j g' e => ?_⟩
      by_cases hj : j < gs.length
      · rw [List.getElem?_append_left hj] at e
        exact hok j g' e
      · rw [List.getElem?_append_right (by omega)] at e
        have hz : j - gs.length = 0 := by
          obtain ⟨h1, _⟩ := List.getElem?_eq_some_iff.mp e
          simp at h1
          omega
        rw [hz] at e
        cases e
        have ej : j = i := by omega
        rw [ej]
        exact ⟨g1, g2, g3⟩
    · rintro σ H5 ⟨ps, gs, x7, rfl, s5, hl, hgs, hlen, hok⟩
      -- outs
      refine ⟨small 0, fun lo nlo => ?_⟩
      have s6 := s5.new (o := .lst []) nlo
      have noW := s5.wl.new nlo
      have noH := s5.was nlo
      have nol : lo ≠ l := fun y => by
        rw [y, hl] at nlo
        cases nlo
      have e6 := Same.new (o := .lst []) nlo
      have hl6 := e6 _ _ hl
      have hgs6 := Same.gates e6 hgs
      have ho6 : upd H5 lo (.lst []) lo = some (.lst []) := upd_same
      generalize upd H5 lo (.lst []) = H6 at s6 hl6 hgs6 ho6 ⊢
      refine ⟨_, rfl, small 2, fun l2 n2 => ?_⟩
      have e7 := Same.new (o := .lst [.int 2, .int 8]) n2
      have s7 := s6.same e7
      have hl7 := e7 _ _ hl6
      have hgs7 := Same.gates e7 hgs6
      have ho7 := e7 _ _ ho6
      have h27 : upd H6 l2 (.lst [.int 2, .int 8]) l2 = some (.lst [.int 2, .int 8]) := upd_same
      have n2W := s6.wl.new n2
      generalize upd H6 l2 (.lst [.int 2, .int 8]) = H7 at s7 hl7 hgs7 ho7 h27 ⊢
      refine ⟨_, rfl, W, C, 4, _, rfl, s7.wl, by omega, by decide, by decide, fun cd H8 _ _ k8 => ⟨rfl, ?_⟩⟩
      have s8 := s7.nxt k8
      obtain ⟨m3, em3, m30, m31⟩ : ∃ m3 : Int, (if decide (V.int cd = V.int 1) = true then V.int 8 else V.int 2) = V.int m3 ∧ 1 ≤ m3 ∧ m3 ≤ 8 := by
        split
        · exact ⟨_, rfl, by decide, by decide⟩
        · exact ⟨_, rfl, by decide, by decide⟩
      refine .inr ⟨_, rfl, l2, _, _, .int m3, rfl, rfl, SqL.of (k8.at_ n2W h27), (by rw [atIf]; exact congrArg some em3), ?_⟩
      refine ⟨W, C, m3, _, rfl, s8.wl, by omega, by omega, by omega, fun more H9 r0 r1 k9 => ⟨_, _, rfl, rfl, _, rfl, by omega, by omega, ?_⟩⟩
      have s9 := s8.nxt k9
      refine for_range (lo := 0) (n := (1 + more).toNat) (fun i σ H' => ∃ (os : List Nat) (x7 x9 : Option V), σ = [some (.ref W), some (nV most), some (nV gm), some (.int way), some (.int ((m : Nat) : Int)), some (.int count), some (.ref l), x7, some (.ref lo), x9] ∧ Wkt W C (t + 100 + 2 * i) H H' ∧
        H' l = some (.lst (ps.map V.ref)) ∧ GatesAt H' ps gs ∧ H' lo = some (.lst (os.map nV)) ∧ os.length = i ∧ ∀ o ∈ os, o < m + gs.length) ⟨[], x7, none, rfl, s9.le (by omega), k9.at_ nlW (k8.at_ nlW hl7), s8.wl.gates k9 (s7.wl.gates k8 hgs7), k9.at_ noW (k8.at_ noW ho7), rfl, fun o ho => by cases ho⟩ ?_ ?_
      · rintro i σ H10 hi ⟨os, y7, y9, rfl, s10, hl10, hgs10, ho10, hol, hos⟩
        refine ⟨_, rfl, _, rfl, _, rfl, _, _, rfl, rfl, _, _, rfl, _, rfl, _, rfl, _, _, rfl, rfl, small 2, fun l11 n11 => ?_⟩
        have e11 := Same.new (o := .lst [.int (if ((m : Nat) : Int) + count < 3 then ((m : Nat) : Int) + count else 3), .int (((m : Nat) : Int) + count)]) n11
        have s11 := s10.same e11
        have n11W := s10.wl.new n11
        have hl11 := e11 _ _ hl10
        have hgs11 := Same.gates e11 hgs10
        have ho11 := e11 _ _ ho10
        have h11 : upd H10 l11 (.lst [.int (if ((m : Nat) : Int) + count < 3 then ((m : Nat) : Int) + count else 3), .int (((m : Nat) : Int) + count)]) l11 = some (.lst [.int (if ((m : Nat) : Int) + count < 3 then ((m : Nat) : Int) + count else 3), .int (((m : Nat) : Int) + count)]) := upd_same
        generalize upd H10 l11 (.lst [.int (if ((m : Nat) : Int) + count < 3 then ((m : Nat) : Int) + count else 3), .int (((m : Nat) : Int) + count)]) = H11 at s11 hl11 hgs11 ho11 h11 ⊢
        refine ⟨_, rfl, W, C, 2, _, rfl, s11.wl, by omega, by decide, by decide, fun d2 H12 d20 d21 k12 => ?_⟩
        have s12 := s11.nxt k12
        obtain ⟨m4, em4, m40, m41⟩ : ∃ m4 : Int, atI [V.int (if ((m : Nat) : Int) + count < 3 then ((m : Nat) : Int) + count else 3), V.int (((m : Nat) : Int) + count)] d2 = some (.int m4) ∧ 1 ≤ m4 ∧ m4 ≤ ((m : Nat) : Int) + count := by
          rcases (by omega : d2 = 0 ∨ d2 = 1) with e | e <;> subst e
          · exact ⟨_, at0, by split <;> omega, by split <;> omega⟩
          · exact ⟨_, at1, by omega, by omega⟩
        refine ⟨l11, _, _, .int m4, rfl, rfl, SqL.of (k12.at_ n11W h11), em4, ?_⟩
        refine ⟨W, C, m4, _, rfl, s12.wl, by omega, by omega, by omega, fun far H13 f0 f1 k13 => ?_⟩
        have s13 := s12.nxt k13
        have hl13 := k13.at_ nlW (k12.at_ nlW hl11)
        have ho13 := k13.at_ noW (k12.at_ noW ho11)
        have hgs13 := s12.wl.gates k13 (s11.wl.gates k12 hgs11)
        refine ⟨_, rfl, .inl ⟨rfl, _, SqL.of ho13⟩, _, rfl, _, rfl, _, _, rfl, rfl, _, _, rfl, rfl, _, rfl, _, _, rfl, rfl, lo, _, _, rfl, rfl, ho13, by rw [List.length_map, hol]; exact small1000 (by omega), ?_⟩
        obtain ⟨o, eo⟩ : ∃ o : Nat, ((m : Nat) : Int) + count - 1 - far = ((o : Nat) : Int) := ⟨(((m : Nat) : Int) + count - 1 - far).toNat, by omega⟩
        dsimp -proj only
        rw [eo]
        refine ⟨os ++ [o], _, _, rfl, (s13.put noH noW).le (by omega), ?_, hgs13.mono (tupPut ho13), ?_, by rw [List.length_append, hol]; rfl, fun o' ho' => ?_⟩
        · rw [upd_ne (Ne.symm nol)]
          exact hl13
        · rw [upd_same, List.map_append]
          rfl
        · rcases List.mem_append.mp ho' with ho' | ho'
          · exact hos o' ho'
          · rw [List.mem_singleton.mp ho']
            omega
      · rintro σ H10 ⟨os, y7, y9, rfl, s10, hl10, hgs10, ho10, hol, hos⟩
        refine ⟨_, rfl, _, rfl, l, _, rfl, .inl ⟨SqL.of hl10, fun g ng => ?_⟩⟩
        have e11 := Same.new (o := .tup (ps.map V.ref)) ng
        refine ⟨_, rfl, lo, _, rfl, .inl ⟨SqL.of (e11 _ _ ho10), fun o no => ?_⟩⟩
        have e12 := Same.new (o := .tup (os.map nV)) no
        refine ⟨small 3, fun a na => ?_⟩
        have e13 := Same.new (o := .tup [.int ((m : Nat) : Int), .ref g, .ref o]) na
        have hps : ps.length = gs.length := hgs10.1
        refine q a ⟨m, gs, os⟩ g o ps _ ⟨?_, ?_, ?_, ?_, ?_, ?_, ?_⟩ ?_ ?_ ⟨?_, ?_, ?_, ?_⟩ ((((s10.same e11).same e12).same e13).le (by omega))
        · show 1 ≤ m; omega
        · show m ≤ 8; omega
        · show gs.length ≤ 16; omega
        · exact hok
        · show 1 ≤ os.length; omega
        · show os.length ≤ 8; omega
        · exact hos
        · show m ≤ most; omega
        · show gs.length ≤ gm; omega
        · exact upd_same
        · exact e13 _ _ (e12 _ _ upd_same)
        · exact Same.gates e13 (Same.gates e12 (Same.gates e11 hgs10))
        · exact e13 _ _ upd_same
end
end K57
set_option Elab.async false
set_option linter.all false
set_option maxRecDepth 100000
set_option maxHeartbeats 4000000
/-! The least ones, out of pairs (how many, tuple) in their order. -/
namespace GX
open PySem PySem.Spec PyProof.Rows L2
/-- a pair: how many, the tuple -/
def PrAt (H : Hp) (p : Addr) (c : List Nat) : Prop := ∃ t, H p = some (.tup [.int (c.length : Int), .ref t]) ∧ H t = some (.tup (c.map nV))
theorem PrAt.mono {H H' : Hp} {p : Addr} {c : List Nat} (h : PrAt H p c) (m : ∀ b xs, H b = some (.tup xs) → H' b = some (.tup xs)) : PrAt H' p c := by
  obtain ⟨t, h1, h2⟩ := h
  exact ⟨t, m _ _ h1, m _ _ h2⟩
/-- the tuple of a pair -/
def prN (H : Hp) : V → List Nat
  | .ref p => match H p with
    | some (.tup [_, x]) => tupN H x
    | _ => []
  | _ => []
theorem prN_at {H : Hp} {p : Addr} {c : List Nat} (h : PrAt H p c) : prN H (.ref p) = c := by
  obtain ⟨t, h1, h2⟩ := h
  show (match H p with | some (HO.tup [_, x]) => tupN H x | _ => []) = c
  rw [h1]
  exact tupN_at h2
def prK (H : Hp) (x : V) : List Int := ((prN H x).length : Int) :: (prN H x).map fun n : Nat => (n : Int)
theorem prs_map {H : Hp} : ∀ {qs : List Addr} {cs : List (List Nat)}, PtsAt PrAt H qs cs → (qs.map V.ref).map (prN H) = cs
  | [], cs, h => (List.length_eq_zero_iff.mp h.1.symm).symm
  | q :: qs, [], h => by cases h.1
  | q :: qs, c :: cs, h => by
    have h1 := h.2 0 q c rfl rfl
    have h2 : PtsAt PrAt H qs cs := ⟨Nat.succ.inj h.1, fun i p x e1 e2 => h.2 (i + 1) p x e1 e2⟩
    show prN H (.ref q) :: _ = _
    rw [prN_at h1, prs_map h2]
theorem prs_all {H : Hp} {qs : List Addr} {cs : List (List Nat)} (h : PtsAt PrAt H qs cs) {x : V} (hx : x ∈ qs.map V.ref) : ∃ p c, x = .ref p ∧ c ∈ cs ∧ PrAt H p c := by
  obtain ⟨i, hi, e⟩ := List.mem_iff_getElem.mp hx
  obtain ⟨t, c, e1, e2, e3⟩ := h.at_ (i := i) (v := x) (by rw [List.getElem?_eq_getElem hi, e])
  exact ⟨t, c, e1, List.mem_of_getElem? e2, e3⟩
theorem prs_sorted {H : Hp} {qs : List Addr} {cs : List (List Nat)} (h : PtsAt PrAt H qs cs) {ys : List V} (srt : SrtO.Srtd (fun x y => HT.lexLt (prK H x) (prK H y)) ys) (pm : ys.Perm (qs.map V.ref)) :
    ∃ (rs : List Addr) (ds : List (List Nat)), ys = rs.map V.ref ∧ PtsAt PrAt H rs ds ∧ ds.Perm cs ∧ ds.Pairwise fun a b => a.length ≤ b.length := by
  have hall : ∀ y ∈ ys, ∃ p c, y = .ref p ∧ c ∈ cs ∧ PrAt H p c := fun y hy => prs_all h (pm.mem_iff.mp hy)
  have mk : ∀ zs : List V, (∀ y ∈ zs, ∃ p c, y = .ref p ∧ c ∈ cs ∧ PrAt H p c) → ∃ rs : List Addr, zs = rs.map V.ref ∧ PtsAt PrAt H rs (zs.map (prN H)) := by
    intro zs
    induction zs with
    | nil => exact fun _ => ⟨[], rfl, PtsAt.nil _ _⟩
    | cons y zs ih =>
      intro hz
      obtain ⟨t, c, rfl, _, ht⟩ := hz y List.mem_cons_self
      obtain ⟨rs, e, hr⟩ := ih fun y hy => hz y (List.mem_cons_of_mem _ hy)
      refine ⟨t :: rs, by rw [e]; rfl, ?_⟩
      have := hr.cons (q := t) (y := prN H (.ref t)) (by rw [prN_at ht]; exact ht)
      exact this
  obtain ⟨rs, e, hr⟩ := mk ys hall
  refine ⟨rs, ys.map (prN H), e, hr, ?_, ?_⟩
  · have := pm.map (prN H)
    rw [prs_map h] at this
    exact this
  · refine List.pairwise_map.mpr (List.Pairwise.imp (fun {x y} hxy => ?_) srt)
    have hxy' : HT.lexLt (prK H y) (prK H x) = false := hxy
    unfold prK at hxy'
    rw [HT.lexLt_cons] at hxy'
    by_cases e : ((prN H y).length : Int) = ((prN H x).length : Int)
    · omega
    · rw [if_neg e] at hxy'
      have := of_decide_eq_false hxy'
      omega
/-- what is kept of the first few, by size -/
structure KeptS (F cs : List (List Nat)) (j : Nat) (R : List (List Nat)) : Prop where
  nd : R.Nodup
  mem : ∀ c, c ∈ R ↔ (c ∈ cs.take j ∧ Minl F c)
theorem KeptS.zero (F cs : List (List Nat)) : KeptS F cs 0 [] := ⟨List.nodup_nil, fun c => ⟨fun z => (by cases z), fun z => by
  have := z.1
  rw [List.take_zero] at this
  cases this⟩⟩
theorem not_taken {cs : List (List Nat)} (nd : cs.Nodup) {j : Nat} {c : List Nat} (hc : cs[j]? = some c) : c ∉ cs.take j := fun z => by
  obtain ⟨i', hi', e'⟩ := List.mem_iff_getElem.mp z
  rw [List.getElem_take] at e'
  rw [List.length_take] at hi'
  obtain ⟨h3, h4⟩ := List.getElem?_eq_some_iff.mp hc
  have := (List.getElem_inj (xs := cs) (i := i') (j := j) (h₀ := by omega) (h₁ := h3) nd).mp (by rw [e', h4])
  omega
theorem KeptS.test {F cs : List (List Nat)} (rise : ∀ c ∈ F, c.Pairwise (· < ·)) (pm : ∀ c, c ∈ cs ↔ c ∈ F) (nd : cs.Nodup) (srt : cs.Pairwise fun a b => a.length ≤ b.length) {j : Nat} {R : List (List Nat)} (h : KeptS F cs j R) {c : List Nat} (hc : cs[j]? = some c) : (∀ m ∈ R, ¬ SubL m c) ↔ Minl F c := by
  have hcF : c ∈ F := (pm c).mp (List.mem_of_getElem? hc)
  constructor
  · intro a c' hc' hsub
    refine Classical.not_not.mp fun ne => ?_
    obtain ⟨m, m1, m2, m3⟩ := minl_ex rise _ c' (Nat.le_refl _) hc'
    have mc : SubL m c := fun x hx => hsub x (m2 x hx)
    have mne : m ≠ c := fun e => by
      have : SubL c c' := by rw [← e]; exact m2
      exact ne (rise_eq (rise c' hc') (rise c hcF) fun z => ⟨hsub z, this z⟩)
    have lt := subl_len (rise m m1) (rise c hcF) mc mne
    refine a m ((h.mem m).mpr ⟨?_, m3⟩) mc
    obtain ⟨i, hi, ei⟩ := List.mem_iff_getElem.mp ((pm m).mpr m1)
    obtain ⟨hj, ej⟩ := List.getElem?_eq_some_iff.mp hc
    have ij : i < j := by
      rcases Nat.lt_trichotomy i j with z | z | z
      · exact z
      · subst z
        rw [ei] at ej
        exact absurd ej mne
      · have := List.pairwise_iff_getElem.mp srt j i hj hi z
        rw [ei, ej] at this
        omega
    rw [← ei]
    exact List.mem_iff_getElem.mpr ⟨i, by rw [List.length_take]; omega, List.getElem_take⟩
  · intro hm m hmR hsub
    obtain ⟨h1, _⟩ := (h.mem m).mp hmR
    have e := hm m ((pm m).mp (List.mem_of_mem_take h1)) hsub
    rw [e] at h1
    exact not_taken nd hc h1
theorem KeptS.yes {F cs : List (List Nat)} (nd : cs.Nodup) {j : Nat} {R : List (List Nat)} (h : KeptS F cs j R) {c : List Nat} (hc : cs[j]? = some c) (hm : Minl F c) : KeptS F cs (j + 1) (R ++ [c]) := by
  have tk : cs.take (j + 1) = cs.take j ++ [c] := by rw [List.take_add_one, hc]; rfl
  refine ⟨?_, fun d => ?_⟩
  · refine List.nodup_append.mpr ⟨h.nd, List.nodup_cons.mpr ⟨fun z => (by cases z), List.nodup_nil⟩, fun a ha b hb e => ?_⟩
    rw [List.mem_singleton.mp hb] at e
    rw [e] at ha
    exact not_taken nd hc ((h.mem c).mp ha).1
  · rw [List.mem_append, h.mem, tk, List.mem_append, List.mem_singleton]
    constructor
    · rintro (⟨h1, h2⟩ | rfl)
      · exact ⟨.inl h1, h2⟩
      · exact ⟨.inr rfl, hm⟩
    · rintro ⟨h1 | rfl, h2⟩
      · exact .inl ⟨h1, h2⟩
      · exact .inr rfl
theorem KeptS.no {F cs : List (List Nat)} {j : Nat} {R : List (List Nat)} (h : KeptS F cs j R) {c : List Nat} (hc : cs[j]? = some c) (hm : ¬ Minl F c) : KeptS F cs (j + 1) R := by
  have tk : cs.take (j + 1) = cs.take j ++ [c] := by rw [List.take_add_one, hc]; rfl
  refine ⟨h.nd, fun d => ?_⟩
  rw [h.mem, tk, List.mem_append, List.mem_singleton]
  constructor
  · rintro ⟨h1, h2⟩
    exact ⟨.inl h1, h2⟩
  · rintro ⟨h1 | rfl, h2⟩
    · exact ⟨h1, h2⟩
    · exact absurd h2 hm
end GX
set_option Elab.async false
set_option linter.all false
/-! A gate of a net. -/
namespace GX
open PySem PySem.Spec PyProof.Rows L2
end GX
set_option Elab.async false
set_option linter.all false
set_option maxRecDepth 100000
set_option maxHeartbeats 4000000
namespace K57
open PySem PySem.Spec PyProof.Rows L2 GX
open C8 (Cal pe_c pe_gc Met Mak)
-- @alt one_deeper lst par=l[i],t[i]
-- @alt one_deeper tup par=t[i],t[i]
-- @alt one_deeper dk par=DK,t[i]
section
variable {P : Program} {w : World} {K : PySem.W.Frag} {mg : Str → Option Value} {base : Heap} {Ts : List Addr}
def spHeld : Sp := fun vs H Q _ => ∃ (ra oa : Addr) (row other : List Nat), vs = [.ref oa, .ref ra] ∧ H ra = some (.tup (row.map nV)) ∧ H oa = some (.tup (other.map nV)) ∧ other.length ≤ 100 ∧ ∀ b H', (b = true ↔ SubL other row) → Same H H' → Q (.bl b) H'
theorem ok_held {f c : Addr} (D : Dfn K mg "_law_held" s__law_held f c) (T : Txt mg) : Cal P w K mg base 1 "_law_held" spHeld [] := by
  refine cal D (fun _ _ _ _ _ _ us hl => match us, hl with | [_, _], _ => rfl) sc__law_held (fun vs H Q E h => ?_) (fun A outer s H vs Q E hr h => ?_)
  · obtain ⟨ra, oa, row, other, rfl, _⟩ := h
    rfl
  · obtain ⟨ra, oa, row, other, rfl, hra, hoa, ol, q⟩ := h
    refine ⟨_, (pss_one (ps_ret (pe_cmpR (op_eqD hr.units) (pe_lc (own := [("_law_wire", 2)]) (g := gName 2)  rfl sc__law_held.nd (pi_tup (pv 0)) (blkOk_by (own := [("_law_wire", 2)]) (N := ["_law_one", "_law_other", "_law_wire"]) (sc := defScope s__law_held) (by decide +kernel)) (fun _ _ _ _ _ => (pg_name (i := 2) sc__law_held.nd rfl (by first | exact Or.inl rfl | exact Or.inr rfl))) (fun _ _ _ _ _ => (pts_one (pt_cmpR (op_notIn_seqK (K := K)) (pv 2) (pv 1) (by rfl)))) (fun _ _ _ _ _ => (pv 2))) (pe_lst pa_nil) (nomark _)))), ?_⟩
    refine ⟨_, rfl, oa, rfl, ⟨_, SqT.of hoa⟩, fun M nM => ?_⟩
    refine lc_tup (K := K) (a := oa) (xs := other.map nV) (fun i H' => ∃ js : List Nat, Own H H' M (js.map nV) ∧ js.length ≤ i ∧ (js = [] ↔ ∀ x ∈ other.take i, x ∈ row)) ⟨[], ⟨Same.new nM, upd_same, nM⟩, Nat.le_refl _, fun _ x hx => (by cases hx), fun _ => rfl⟩ (fun _ H' _ h => h.elim fun us h => SqT.of (h.1.sm _ _ hoa)) ?_ ?_
    · rintro i x H2 hx ⟨js, o2, jl, jw⟩
      have hi : i < other.length := by
        have := (List.getElem?_eq_some_iff.mp hx).1
        rwa [List.length_map] at this
      rw [natAt hi] at hx
      cases hx
      have mt := fun x => mem_take_succ (l := other) hi x
      generalize other.getD i 0 = y at mt ⊢
      refine ⟨rfl, _, rfl, _, rfl, ra, _, rfl, .inr (SqT.of (o2.sm _ _ hra)), rfl, flat_ns row, _, rfl, ?_⟩
      have ev : (if true = true then !inV (nV y) (row.map nV) else inV (nV y) (row.map nV)) = !decide (y ∈ row) := by rw [if_pos rfl, inV_n]
      rw [ev]
      refine ite2 (fun h1 => ?_) (fun h1 => ?_)
      · have h1' : y ∉ row := fun z => by rw [decide_eq_true z] at h1; cases h1
        exact ⟨_, rfl, _, o2.at_, by rw [List.length_map]; exact small256 (by omega), js ++ [y], by rw [List.map_append]; exact o2.app, by rw [List.length_append]; show js.length + 1 ≤ _; omega, fun z => (by cases js <;> cases z), fun z => absurd (z y ((mt y).mpr (.inr rfl))) h1'⟩
      · have h1' : y ∈ row := Classical.not_not.mp fun z => h1 (by rw [decide_eq_false z]; rfl)
        refine ⟨js, o2, by omega, jw.trans ⟨fun z x hx => ?_, fun z x hx => z x ((mt x).mpr (.inl hx))⟩⟩
        rcases (mt x).mp hx with e | e
        · exact z x e
        · rw [e]; exact h1'
    · rintro H2 ⟨js, o2, jl, jw⟩
      rw [List.length_map, List.take_length] at jw
      refine ⟨small 0, fun z nz => ?_⟩
      have s3 := Same.new (o := .lst []) nz
      refine ⟨.list ((js.map fun n : Nat => (n : Int)).map PyData.int), .list [], .lst (SqL.of (s3 _ _ o2.at_)) (dpNat K _ _), .lst (SqL.of upd_same) .nil, PySem.W.ke_shaped_ints _, by decide, ?_⟩
      have ee : (PyData.eqv (.list ((js.map fun n : Nat => (n : Int)).map PyData.int)) (.list [])) = decide (js.length = 0) := by
        show (PyData.eqvAll _ []) = _
        rw [eqvAllN, List.length_map, List.length_map]
      rw [ee]
      refine q _ _ ?_ (o2.sm.trans s3)
      rw [decide_eq_true_iff, List.length_eq_zero_iff, jw]
      exact Iff.rfl
end
section
variable {P : Program} {w : World} {K : PySem.W.Frag} {mg : Str → Option Value} {base : Heap} {Ts : List Addr}
/-- the least ones of a dict's keys, sorted -/
def spLeastD : Sp := fun vs H Q _ => ∃ (d : Addr) (F : List (List Nat)), vs = [.ref d] ∧ H d = some (.dT (kvT F)) ∧ F.Nodup ∧ (∀ c ∈ F, c.Pairwise (· < ·) ∧ 0 < c.length ∧ c.length ≤ 100) ∧ F.length < sizeLine ∧
  ∀ r H' (rs : List Addr) (ls : List (List Nat)), Same H H' → H r = none → H' r = some (.lst (rs.map V.ref)) → TupsAt H' rs ls → ls.Nodup → (∀ c, c ∈ ls ↔ (c ∈ F ∧ Minl F c)) → (ls.Pairwise fun a b => lexN b a = false) → Q (.ref r) H'
theorem ok_leastD {f c : Addr} (D : Dfn K mg "_law_least" s__law_least f c) (T : Txt mg) (c__law_held : Cal P w K mg base 1 "_law_held" spHeld []) : Cal P w K mg base 2 "_law_least" spLeastD [] := by
  refine cal D (fun _ _ _ _ _ _ us hl => match us, hl with | [_], _ => rfl) sc__law_least (fun vs H Q E h => ?_) (fun A outer s H vs Q E hr h => ?_)
  · obtain ⟨d, F, rfl, _⟩ := h
    rfl
  · obtain ⟨d, F, rfl, hd, ndF, lF, lenF, q⟩ := h
    have rise : ∀ c ∈ F, c.Pairwise (· < ·) := fun c hc => (lF c hc).1
    refine ⟨_, (pss_cons (ps_set (i := 1) sc__law_least.nd rfl (by first | exact Or.inl rfl | exact Or.inr rfl) (pe_lst pa_nil))
      (pss_cons (ps_for PassesOwn.never rfl (pi_list (pe_callB (cr_sortPair (Nat.lt_of_le_of_lt (Nat.add_le_add_left (by decide) _) hr.units)) (by rfl) T.b_sorted (by decide +kernel) (pa_cons (pe_lock (pe_lc (own := [("_law_one", 4)]) (g := gName 4) (tt := tYes) rfl sc__law_least.nd (pi_keys (pv 0)) (blkOk_by (own := [("_law_one", 4)]) (N := ["_law_some", "_law_kept", "_law_many", "_law_cut", "_law_one"]) (sc := defScope s__law_least) (by decide +kernel)) (fun _ _ _ _ _ => (pg_name (i := 4) sc__law_least.nd rfl (by first | exact Or.inl rfl | exact Or.inr rfl))) (fun _ _ _ _ _ => pts_nil) (fun _ _ _ _ _ => (pe_tup (pa_cons (pe_callB (len_seqK (K := K)) (by rfl) T.b_len (by decide +kernel) (pa_cons (pv 4) pa_nil)) (pa_cons (pv 4) pa_nil)))))) pa_nil))) (pg_tup rfl (pgs_cons (pg_name (i := 2) sc__law_least.nd rfl (by first | exact Or.inl rfl | exact Or.inr rfl)) (pgs_cons (pg_name (i := 3) sc__law_least.nd rfl (by first | exact Or.inl rfl | exact Or.inr rfl)) pgs_nil)))
        (pss_one (ps_if (pt_cmpR (op_eqD hr.units) (pe_lc (own := [("_law_one", 4)]) (g := gName 4)  rfl sc__law_least.nd (pi_list (pv 1)) (blkOk_by (own := [("_law_one", 4)]) (N := ["_law_some", "_law_kept", "_law_many", "_law_cut", "_law_one"]) (sc := defScope s__law_least) (by decide +kernel)) (fun _ _ _ _ _ => (pg_name (i := 4) sc__law_least.nd rfl (by first | exact Or.inl rfl | exact Or.inr rfl))) (fun _ _ _ _ _ => (pts_one (pt_val (pe_c c__law_held hr (by decide) (by rfl) (pa_cons (pv 4) (pa_cons (pv 3) pa_nil)))))) (fun _ _ _ _ _ => (pv 4))) (pe_lst pa_nil) (nomark _)) (pss_one (ps_expr (pe_bm PySem.F.plainAttrs_list PySem.F.slot_list_append PySem.F.type_list_append mt_append (pv 1) (pa_cons (pv 3) pa_nil)))) pss_nil)))
      (pss_one (ps_ret (pe_callB cr_sortTup (by rfl) T.b_sorted (by decide +kernel) (pa_cons (pv 1) pa_nil)))))), ?_⟩
    refine ⟨small 0, fun S nS => ?_⟩
    have o1 : Own H (upd H S (.lst [])) S (([] : List Addr).map V.ref) := ⟨Same.new nS, upd_same, nS⟩
    generalize upd H S (.lst []) = H1 at o1 ⊢
    have hd1 := o1.sm _ _ hd
    refine ⟨d, .dT (kvT F), hd1, trivial, fun od => ⟨_, rfl, d, od, rfl, .inr ⟨kvT F, upd_same, fun M nM => ?_⟩⟩⟩
    have hdl : upd H1 d (.frz od (.dT (kvT F))) d = some (.frz od (.dT (kvT F))) := upd_same
    have kl1 : ∀ b v, b ≠ d → H1 b = some v → upd H1 d (.frz od (.dT (kvT F))) b = some v := fun b v hb e => by rw [upd_ne hb]; exact e
    generalize upd H1 d (.frz od (.dT (kvT F))) = Hl at nM hdl kl1 ⊢
    refine lc_it (walk_keysT (kvs := kvT F)) (fun j H' => ∃ us : List Addr, Own Hl H' M (us.map V.ref) ∧ PtsAt PrAt H' us (F.take j)) ⟨[], ⟨Same.new nM, upd_same, nM⟩, PtsAt.nil _ _⟩ (fun i H' _ h => h.elim fun _ h => h.1.sm _ _ hdl) ?_ ?_
    · rintro j x H2 H3 hj ⟨us, o2, P2⟩ ⟨rfl, kk', v, qk, hkv, rfl, hqk⟩
      rw [kvT_len] at hj
      have hc : F[j]? = some F[j] := List.getElem?_eq_getElem hj
      have ek' : kk' = F[j].map nK := by
        unfold kvT at hkv
        rw [List.getElem?_map, hc] at hkv
        exact (congrArg Prod.fst (Option.some.inj hkv)).symm
      generalize F[j] = c' at hc ek'
      subst ek'
      rw [mapKV] at hqk
      have tk : F.take (j + 1) = F.take j ++ [c'] := by rw [List.take_add_one, hc]; rfl
      have ul : us.length ≤ F.length := by rw [P2.1, List.length_take]; omega
      refine ⟨rfl, ?_⟩
      unfold tYes
      refine iteT ?_
      refine ⟨_, rfl, qk, _, rfl, .inr (SqT.of hqk), _, rfl, small 2, fun pr npr => ?_⟩
      have s3 := Same.new (o := .tup [.int (((c'.map nV).length : Nat) : Int), .ref qk]) npr
      rw [List.length_map] at s3 ⊢
      have hpr : upd H3 pr (.tup [.int ((c'.length : Nat) : Int), .ref qk]) pr = some (.tup [.int ((c'.length : Nat) : Int), .ref qk]) := upd_same
      generalize upd H3 pr (.tup [.int ((c'.length : Nat) : Int), .ref qk]) = H4 at s3 hpr ⊢
      have o4 : Own Hl H4 M (us.map V.ref) := ⟨o2.sm.trans s3, s3 _ _ o2.at_, o2.nw⟩
      refine ⟨_, o4.at_, by rw [List.length_map]; exact Nat.lt_of_le_of_lt ul lenF, us ++ [pr], by rw [List.map_append]; exact o4.app, ?_⟩
      have up : ∀ b xs, H4 b = some (.tup xs) → upd H4 M (.lst (us.map V.ref ++ [V.ref pr])) b = some (.tup xs) := fun b xs e => by
        rw [upd_ne (fun z => by rw [z, o4.at_] at e; cases e)]
        exact e
      rw [tk]
      exact (P2.mono fun p y h => (h.mono fun b xs e => s3 _ _ e).mono up).push (PrAt.mono ⟨qk, hpr, s3 _ _ hqk⟩ up)
    · rintro H2 ⟨us, o2, P2⟩
      rw [kvT_len, List.take_length] at P2
      refine ⟨o2.sm _ _ hdl, ?_⟩
      have s13 : Same H1 (upd H2 d (.dT (kvT F))) := fun b v e => by
        by_cases hb : b = d
        · rw [hb] at e ⊢
          rw [hd1] at e
          rw [upd_same, e]
        · rw [upd_ne hb]
          exact o2.sm _ _ (kl1 b v hb e)
      have Md : M ≠ d := fun z => by rw [z, hdl] at nM; cases nM
      have hM3 : upd H2 d (.dT (kvT F)) M = some (.lst (us.map V.ref)) := by rw [upd_ne Md]; exact o2.at_
      have P3 : PtsAt PrAt (upd H2 d (.dT (kvT F))) us F := P2.mono fun p y h => h.mono fun b zs e => by
        rw [upd_ne (fun z => by rw [z, o2.sm _ _ hdl] at e; cases e)]
        exact e
      generalize upd H2 d (.dT (kvT F)) = H3 at s13 hM3 P3 ⊢
      refine ⟨M, us.map V.ref, prK H3, rfl, SqL.of hM3, fun x hx => ?_, fun ys lp srt pm np => ?_⟩
      · obtain ⟨p, c', rfl, hc, hp⟩ := prs_all P3 hx
        have e := prN_at hp
        obtain ⟨t, h1, h2⟩ := hp
        refine ⟨p, t, (c'.length : Int), c'.map fun n : Nat => (n : Int), rfl, ?_, h1, by rw [mapV]; exact h2⟩
        unfold prK
        rw [e]
      obtain ⟨rs, cs, rfl, R3, pm', len'⟩ := prs_sorted P3 srt pm
      have s4 := Same.new (o := .lst (rs.map V.ref)) np
      have o4 : Own H (upd H3 lp (.lst (rs.map V.ref))) S (([] : List Addr).map V.ref) := ⟨o1.sm.trans (s13.trans s4), s4 _ _ (s13 _ _ o1.at_), nS⟩
      have hlp : upd H3 lp (.lst (rs.map V.ref)) lp = some (.lst (rs.map V.ref)) := upd_same
      have R4 := R3.mono fun p y h => h.mono fun b zs e => s4 _ _ e
      have lpS : lp ≠ S := fun z => by
        have := s13 _ _ o1.at_
        rw [← z, np] at this
        cases this
      generalize upd H3 lp (.lst (rs.map V.ref)) = H4 at o4 hlp R4 ⊢
      have ndc : cs.Nodup := pm'.nodup_iff.mpr ndF
      have mc : ∀ c, c ∈ cs ↔ c ∈ F := fun c => pm'.mem_iff
      refine ⟨lp, rfl, ⟨_, SqL.of hlp⟩, ?_⟩
      refine for_list (K := K) (a := lp) (xs := rs.map V.ref) (fun j σ H' => ∃ (x2 x3 x4 : Option V) (us : List Addr) (Rl : List (List Nat)), σ = [some (.ref d), some (.ref S), x2, x3, x4] ∧ (∀ b v, b ≠ S → H4 b = some v → H' b = some v) ∧ Own H H' S (us.map V.ref) ∧ TupsAt H' us Rl ∧ KeptS F cs j Rl) ⟨none, none, none, [], [], rfl, fun b v _ e => e, o4, RefsAt.nil _ _, KeptS.zero _ _⟩ ?_ ?_ ?_
      · rintro j σ H' _ ⟨_, _, _, _, _, _, kp, _⟩
        exact SqL.of (kp _ _ lpS hlp)
      · rintro j x σ H5 hx ⟨x2, x3, x4, us, Rl, rfl, kp5, o5, U5, kl⟩
        obtain ⟨pr, cr, rfl, hcr, tr, hpr0, htr0⟩ := R4.at_ hx
        have hpr : H4 pr = some (.tup [.int (cr.length : Int), .ref tr]) := hpr0
        have htr : H4 tr = some (.tup (cr.map nV)) := htr0
        have hpr5 := kp5 _ _ (fun z => by rw [z, o4.at_] at hpr; cases hpr) hpr
        have htr5 := kp5 _ _ (fun z => by rw [z, o4.at_] at htr; cases htr) htr
        have tst := kl.test rise mc ndc len' hcr
        have RF : ∀ c ∈ Rl, c ∈ F := fun c hc => (mc c).mp (List.mem_of_mem_take ((kl.mem c).mp hc).1)
        have RlF : Rl.length ≤ F.length := List.Nodup.length_le_of_subset kl.nd RF
        refine ⟨pr, _, rfl, SqT.of hpr5, rfl, _, _, rfl, _, _, rfl, rfl, ?_⟩
        refine ⟨_, rfl, S, rfl, ⟨_, SqL.of o5.at_⟩, fun L nL => ?_⟩
        refine lc_list (K := K) (a := S) (xs := us.map V.ref) (fun i H' => ∃ (ws : List Addr) (ms : List (List Nat)), Own H5 H' L (ws.map V.ref) ∧ TupsAt H' ws ms ∧ ms.length ≤ i ∧ (ms = [] ↔ ∀ m ∈ Rl.take i, ¬ SubL m cr)) ⟨[], [], ⟨Same.new nL, upd_same, nL⟩, RefsAt.nil _ _, Nat.le_refl _, fun _ x hx => (by cases hx), fun _ => rfl⟩ (fun _ H' _ h => by obtain ⟨ws, ms, o', _⟩ := h; exact SqL.of (o'.sm _ _ o5.at_)) ?_ ?_
        · rintro i' v H16 hv ⟨ws, ms, o16, W16, ml, mw⟩
          have hi' : i' < Rl.length := by
            have := (List.getElem?_eq_some_iff.mp hv).1
            rwa [List.length_map, U5.1] at this
          obtain ⟨tm, cm, rfl, hcm, hat⟩ := U5.at_ hv
          have hat16 := o16.sm _ _ hat
          have tkm : Rl.take (i' + 1) = Rl.take i' ++ [cm] := by rw [List.take_add_one, hcm]; rfl
          have cm4 := (lF cm (RF cm (List.mem_of_getElem? hcm))).2.2
          refine ⟨rfl, _, rfl, _, rfl, tr, tm, cr, cm, rfl, o16.sm _ _ htr5, hat16, cm4, fun b H17 hb s17 => ⟨_, rfl, ite2 (fun h1 => ?_) (fun h1 => ?_)⟩⟩
          · have o17 : Own H5 H17 L (ws.map V.ref) := ⟨o16.sm.trans s17, s17 _ _ o16.at_, o16.nw⟩
            refine ⟨_, rfl, _, o17.at_, by rw [List.length_map, W16.1]; omega, ws ++ [tm], ms ++ [cm], ?_, ?_, ?_, ?_⟩
            · rw [List.map_append]
              exact o17.app
            · exact ((W16.mono fun b zs e => s17 _ _ e).push (y := cm) (s17 _ _ hat16)).mono fun b zs e => by
                rw [upd_ne (fun z => by rw [z, o17.at_] at e; cases e)]
                exact e
            · rw [List.length_append]
              show ms.length + 1 ≤ _
              omega
            · rw [tkm]
              exact ⟨fun z => (by cases ms <;> cases z), fun z => absurd (hb.mp h1) (z cm (List.mem_append.mpr (.inr List.mem_cons_self)))⟩
          · refine ⟨ws, ms, ⟨o16.sm.trans s17, s17 _ _ o16.at_, o16.nw⟩, W16.mono fun b zs e => s17 _ _ e, by omega, mw.trans ?_⟩
            rw [tkm]
            refine ⟨fun z m hm => ?_, fun z m hm => z m (List.mem_append.mpr (.inl hm))⟩
            rcases List.mem_append.mp hm with e | e
            · exact z m e
            · rw [List.mem_singleton.mp e]
              exact fun y => h1 (hb.mpr y)
        · rintro H16 ⟨ws, ms, o16, W16, ml, mw⟩
          rw [List.length_map, U5.1, List.take_length] at mw
          refine ⟨small 0, fun z nz => ?_⟩
          have s17 := Same.new (o := .lst []) nz
          refine ⟨.list (tupsD ms), .list [], .lst (SqL.of (s17 _ _ o16.at_)) (dpTups (W16.mono fun b zs e => s17 _ _ e)), .lst (SqL.of upd_same) .nil, shaped_lst (tupsD_can ms).1 (tupsD_can ms).2 (by decide), by decide, _, rfl, ?_⟩
          have ee : (PyData.eqv (.list (tupsD ms)) (.list [])) = decide (ms.length = 0) := by
            show (PyData.eqvAll _ []) = _
            unfold tupsD
            rw [eqvAllN, List.length_map]
          rw [ee]
          have s57 : Same H5 (upd H16 z (.lst [])) := o16.sm.trans s17
          generalize upd H16 z (.lst []) = H17 at s57 ⊢
          have o17 : Own H H17 S (us.map V.ref) := ⟨o5.sm.trans s57, s57 _ _ o5.at_, nS⟩
          have U17 := U5.mono fun b zs e => s57 _ _ e
          have kp17 : ∀ b v, b ≠ S → H4 b = some v → H17 b = some v := fun b v hb e => s57 _ _ (kp5 b v hb e)
          refine ite2 (fun h1 => ?_) (fun h1 => ?_)
          · have hm : Minl F cr := tst.mp (mw.mp (List.length_eq_zero_iff.mp (of_decide_eq_true h1)))
            refine ⟨_, rfl, .inl ⟨rfl, _, SqL.of o17.at_⟩, _, rfl, S, _, _, rfl, rfl, o17.at_, by rw [List.length_map, U17.1]; omega, ?_⟩
            refine ⟨_, _, _, us ++ [tr], Rl ++ [cr], rfl, fun b v hb e => by rw [upd_ne hb]; exact kp17 b v hb e, by rw [List.map_append]; exact o17.app, ?_, kl.yes ndc hcr hm⟩
            exact (U17.push (y := cr) (s57 _ _ htr5)).mono fun b zs e => by
              rw [upd_ne (fun z => by rw [z, o17.at_] at e; cases e)]
              exact e
          · have hm : ¬ Minl F cr := fun z => h1 (decide_eq_true (List.length_eq_zero_iff.mpr (mw.mpr (tst.mpr z))))
            exact ⟨_, _, _, us, Rl, rfl, kp17, o17, U17, kl.no hcr hm⟩
      · rintro σ H5 ⟨x2, x3, x4, us, Rl, rfl, kp5, o5, U5, kl⟩
        rw [List.length_map, R4.1] at kl
        have hR : ∀ c, c ∈ Rl ↔ (c ∈ F ∧ Minl F c) := fun c => by
          rw [kl.mem, List.take_length, mc]
        refine ⟨_, rfl, S, us.map V.ref, fun x => (tupN H5 x).map (fun n : Nat => (n : Int)), rfl, SqL.of o5.at_, fun x hx => ?_, fun ys lp2 srt pm2 np => ?_⟩
        · obtain ⟨t, c', rfl, hc, ht⟩ := U5.all hx
          dsimp only
          rw [tupN_at ht]
          refine ⟨⟨t, rfl, by rw [mapV]; exact ht⟩, fun z => ?_⟩
          have z' := List.map_eq_nil_iff.mp z
          rw [z'] at hc
          have := (lF [] ((hR _).mp hc).1).2.1
          cases this
        · obtain ⟨rs', ls, rfl, hR9, pd, sd⟩ := tups_sorted U5 srt pm2
          have sP := Same.new (o := .lst (rs'.map V.ref)) np
          exact q lp2 _ rs' ls (o5.sm.trans sP) (Same.was o5.sm np) upd_same (hR9.mono fun b zs e => sP _ _ e) (pd.nodup_iff.mpr kl.nd) (fun c => by rw [pd.mem_iff, hR]) sd
end
end K57
set_option Elab.async false
set_option linter.all false
set_option maxRecDepth 100000
set_option maxHeartbeats 4000000
namespace K57
open PySem PySem.Spec PyProof.Rows L2 GX
open C8 (Cal pe_c pe_gc Met Mak)
-- @alt one_deeper lst par=l[i],t[i]
-- @alt one_deeper tup par=t[i],t[i]
-- @alt one_deeper dk par=DK,t[i]
section
variable {P : Program} {w : World} {K : PySem.W.Frag} {mg : Str → Option Value} {base : Heap} {Ts : List Addr}
/-- the cuts of a wire, as a list of tuples, no part of S -/
def KTolL (S : Addr) (n : Net) (k : Nat) (H : Hp) (q : Addr) (x : Nat) : Prop := q ≠ S ∧ ∃ (rs : List Addr) (cs : List (List Nat)), H q = some (.lst (rs.map V.ref)) ∧ TupsAt H rs cs ∧ CutsAre n k x cs ∧ cs.length < 2 ^ 23
theorem KTolL.mono {S : Addr} {n : Net} {k : Nat} {H H' : Hp} {q : Addr} {x : Nat} (h : KTolL S n k H q x) (m : ∀ b v, b ≠ S → H b = some v → (∀ kvs, v ≠ .dT kvs) → H' b = some v) (hS : ∀ xs, H S ≠ some (.tup xs)) : KTolL S n k H' q x := by
  obtain ⟨ne, rs, cs, h1, h2, h3⟩ := h
  exact ⟨ne, rs, cs, m _ _ ne h1 (fun _ z => by cases z), h2.mono fun b xs e => m _ _ (fun z => hS xs (by rw [← z]; exact e)) e (fun _ z => by cases z), h3⟩
/-- made behind H0 -/
def KTolN (H0 : Hp) (S : Addr) (n : Net) (k : Nat) (H : Hp) (q : Addr) (x : Nat) : Prop := H0 q = none ∧ KTolL S n k H q x
theorem KTolN.mono {H0 : Hp} {S : Addr} {n : Net} {k : Nat} {H H' : Hp} {q : Addr} {x : Nat} (h : KTolN H0 S n k H q x) (m : ∀ b v, b ≠ S → H b = some v → (∀ kvs, v ≠ .dT kvs) → H' b = some v) (hS : ∀ xs, H S ≠ some (.tup xs)) : KTolN H0 S n k H' q x := ⟨h.1, h.2.mono m hS⟩
def spCutsD : Sp := fun vs H Q _ => ∃ (a : Addr) (n : Net) (g o : Addr) (ps : List Addr) (k : Nat), vs = [.ref a, nV k] ∧ NetAt H a n g o ps ∧ n.Ok ∧ 2 ≤ k ∧ k ≤ 4 ∧
  ∀ r H' (qs : List Addr), Same H H' → H r = none → H' r = some (.lst (qs.map V.ref)) → PtsAt (KTolN H r n k) H' qs (List.range (n.many + n.gates.length)) → Q (.ref r) H'
theorem ok_cutsD {f c : Addr} (D : Dfn K mg "_law_cuts" s__law_cuts f c) (T : Txt mg) (c__law_least : Cal P w K mg base 2 "_law_least" spLeastD []) : Cal P w K mg base 3 "_law_cuts" spCutsD [] := by
  refine cal D (fun _ _ _ _ _ _ us hl => match us, hl with | [_, _], _ => rfl) sc__law_cuts (fun vs H Q E h => ?_) (fun A outer s H vs Q E hr h => ?_)
  · obtain ⟨a, n, g, o, ps, k, rfl, _⟩ := h
    rfl
  · obtain ⟨a, n, g, o, ps, k, rfl, N, ok, hk2, hk4, q⟩ := h
    have m8 := ok.m8
    have m1 := ok.m1
    have g16 := ok.g16
    refine ⟨_, (pss_cons (ps_setLc (i := 2) (own := [("_law_wire", 3)]) (g := gName 3) (tt := tYes) rfl sc__law_cuts.nd rfl rfl (sw_true rfl rfl rfl (by decide +kernel)) (pi_range1 (by rfl) T.b_range (pa_cons (pe_ix ix_tup (pv 0) pe_int (fun _ _ => rfl)) pa_nil)) (blkOk_by (own := [("_law_wire", 3)]) (N := ["_law_net_here", "_law_k", "_law_cuts_here", "_law_wire", "_law_kind", "_law_one", "_law_other", "_law_some", "_law_first", "_law_second", "_law_cut"]) (sc := defScope s__law_cuts) (by decide +kernel)) (fun _ _ _ _ _ => (pg_name (i := 3) sc__law_cuts.nd rfl (by first | exact Or.inl rfl | exact Or.inr rfl))) (fun _ _ _ _ _ => pts_nil) (fun _ _ _ _ _ => (pe_lst pa_nil)))
      (pss_cons (ps_for PassesOwn.never rfl (pi_tup (pe_ix ix_tup (pv 0) pe_int (fun _ _ => rfl))) (pg_tup rfl (pgs_cons (pg_name (i := 4) sc__law_cuts.nd rfl (by first | exact Or.inl rfl | exact Or.inr rfl)) (pgs_cons (pg_name (i := 5) sc__law_cuts.nd rfl (by first | exact Or.inl rfl | exact Or.inr rfl)) (pgs_cons (pg_name (i := 6) sc__law_cuts.nd rfl (by first | exact Or.inl rfl | exact Or.inr rfl)) pgs_nil))))
        (pss_cons (ps_set (i := 7) sc__law_cuts.nd rfl (by first | exact Or.inl rfl | exact Or.inr rfl) pe_dnewT)
      (pss_cons (ps_for PassesOwn.never rfl (pi_list (pe_op op_cat (pe_ix ix_list (pv 2) (pv 5) (fun _ _ => rfl)) (pe_lst (pa_cons (pe_tup (pa_cons (pv 5) pa_nil)) pa_nil)))) (pg_name (i := 8) sc__law_cuts.nd rfl (by first | exact Or.inl rfl | exact Or.inr rfl))
        (pss_one (ps_for PassesOwn.never rfl (pi_list (pe_op op_cat (pe_ix ix_list (pv 2) (pv 6) (fun _ _ => rfl)) (pe_lst (pa_cons (pe_tup (pa_cons (pv 6) pa_nil)) pa_nil)))) (pg_name (i := 9) sc__law_cuts.nd rfl (by first | exact Or.inl rfl | exact Or.inr rfl))
        (pss_cons (ps_set (i := 10) sc__law_cuts.nd rfl (by first | exact Or.inl rfl | exact Or.inr rfl) (pe_callTy call_tuple_of (by rfl) T.b_tuple (by decide +kernel) (pa_cons (pe_callB (cr_sortedSet rfl) (by rfl) T.b_sorted (by decide +kernel) (pa_cons (pe_callTy (cr_setN rfl) (by rfl) T.b_set (by decide +kernel) (pa_cons (pe_op op_catA (pv 8) (pv 9)) pa_nil)) pa_nil)) pa_nil)))
      (pss_one (ps_if (pt_cmpR op_le (pe_callB call_len_seq (by rfl) T.b_len (by decide +kernel) (pa_cons (pv 10) pa_nil)) (pv 1) (nomark _)) (pss_one (ps_dput (Nat.lt_of_le_of_lt (Nat.add_le_add_left (by decide) _) hr.units) (pv 7) (pv 10) pe_bl (by rfl))) pss_nil))))))
      (pss_one (ps_expr (pe_bm PySem.F.plainAttrs_list PySem.F.slot_list_append PySem.F.type_list_append mt_append (pv 2) (pa_cons (pe_c c__law_least hr (by decide) (by rfl) (pa_cons (pv 7) pa_nil)) pa_nil)))))))
      (pss_one (ps_ret (pv 2))))), ?_⟩
    refine ⟨_, rfl, a, _, 0, _, rfl, rfl, SqT.of N.top, at0, _, rfl, by omega, by omega, fun S nS => ?_⟩
    refine lc_range (lo := 0) (n := ((n.many : Nat) : Int).toNat) (fun i H' => ∃ qs : List Addr, Own H H' S (qs.map V.ref) ∧ i ≤ n.many ∧ PtsAt (KTolN H S n k) H' qs (List.range i)) ⟨[], ⟨Same.new nS, upd_same, nS⟩, Nat.zero_le _, PtsAt.nil _ _⟩ ?_ ?_
    · rintro i H1 hi ⟨qs, o1, im, K1⟩
      rw [Int.toNat_natCast] at hi
      refine ⟨rfl, ?_⟩
      unfold tYes
      refine iteT ?_
      refine ⟨small 0, fun e ne => ?_⟩
      have s2 := Same.new (o := .lst []) ne
      have he2 : upd H1 e (.lst []) e = some (.lst []) := upd_same
      have eS : e ≠ S := fun z => by rw [z, o1.at_] at ne; cases ne
      generalize upd H1 e (.lst []) = H2 at s2 he2 ⊢
      have o2 : Own H H2 S (qs.map V.ref) := ⟨o1.sm.trans s2, s2 _ _ o1.at_, nS⟩
      refine ⟨_, o2.at_, by rw [List.length_map, K1.1, List.length_range]; exact small256 (by omega), qs ++ [e], by rw [List.map_append]; exact o2.app, hi, ?_⟩
      rw [List.range_succ]
      have up : ∀ b v, b ≠ S → H2 b = some v → (∀ kvs, v ≠ .dT kvs) → upd H2 S (.lst (qs.map V.ref ++ [V.ref e])) b = some v := fun b v hb e _ => by rw [upd_ne hb]; exact e
      have nt : ∀ xs, H2 S ≠ some (.tup xs) := fun xs z => by rw [o2.at_] at z; cases z
      refine (K1.mono fun p y h => (h.mono (fun b v _ e _ => s2 _ _ e) fun xs z => by rw [o1.at_] at z; cases z).mono up nt).push ?_
      exact KTolN.mono (H := H2) ⟨Same.was o1.sm ne, eS, [], [], he2, RefsAt.nil _ _, cuts_input hi, by decide⟩ up nt
    rintro H1 ⟨qs, o1, _, K1⟩
    rw [Int.toNat_natCast] at K1
    have N1 := N.same o1.sm
    refine ⟨_, rfl, a, _, 1, _, rfl, rfl, SqT.of N1.top, at1, g, rfl, ⟨_, SqT.of N1.gt⟩, ?_⟩
    refine for_tup (K := K) (a := g) (xs := ps.map V.ref) (fun i σ H' => ∃ (x3 x4 x5 x6 x7 x8 x9 x10 : Option V) (qs : List Addr), σ = [some (.ref a), some (nV k), some (.ref S), x3, x4, x5, x6, x7, x8, x9, x10] ∧ Own H H' S (qs.map V.ref) ∧ PtsAt (KTolN H S n k) H' qs (List.range (n.many + i))) ⟨none, none, none, none, none, none, none, none, qs, rfl, o1, K1⟩ ?_ ?_ ?_
    · rintro i σ H' _ ⟨_, _, _, _, _, _, _, _, _, _, o', _⟩
      exact SqT.of (o'.sm _ _ N.gt)
    · rintro i x σ H2 hx ⟨x3, x4, x5, x6, x7, x8, x9, x10, qs, rfl, o2, K2⟩
      have N2 := N.same o2.sm
      have hi : i < n.gates.length := by
        have := (List.getElem?_eq_some_iff.mp hx).1
        rwa [List.length_map, N.gs.1] at this
      have hil : i < ps.length := by rw [N.gs.1]; exact hi
      rw [List.getElem?_map, List.getElem?_eq_getElem hil] at hx
      cases hx
      have hpg := N2.gs.2 i _ _ (List.getElem?_eq_getElem hil) (List.getElem?_eq_getElem hi)
      have hkk : n.gates[n.many + i - n.many]? = some n.gates[i] := by rw [Nat.add_sub_cancel_left]; exact List.getElem?_eq_getElem hi
      generalize n.gates[i] = kk at hpg hkk
      generalize ps[i] = pg at hpg
      have hm : n.many ≤ n.many + i := Nat.le_add_right _ _
      have hgt : n.many + i < n.many + n.gates.length := by omega
      have l1 := place_lt ok hm hkk (.inl rfl)
      have l2 := place_lt ok hm hkk (.inr rfl)
      refine ⟨pg, _, rfl, SqT.of hpg, rfl, _, _, rfl, _, _, rfl, _, _, rfl, rfl, ?_⟩
      refine fun d nd => ?_
      have s3 := Same.new (o := .dT []) nd
      have hd3 : upd H2 d (.dT []) d = some (.dT (kvT [])) := upd_same
      have d2 : H2 d = none := nd
      generalize upd H2 d (.dT []) = H3 at s3 hd3 ⊢
      have o3 : Own H H3 S (qs.map V.ref) := ⟨o2.sm.trans s3, s3 _ _ o2.at_, nS⟩
      have K3 : PtsAt (KTolN H S n k) H3 qs (List.range (n.many + i)) := K2.mono fun p y h => h.mono (fun b v _ e _ => s3 _ _ e) fun xs z => by rw [o2.at_] at z; cases z
      have ql : qs.length = n.many + i := by rw [K3.1, List.length_range]
      obtain ⟨q1, eq1, _, q1S, rs1, cs1, hq1, T1, C1, b1⟩ := K3.get (i := kk.2.1) (y := kk.2.1) (by rw [List.getElem?_range l1])
      obtain ⟨q2, eq2, _, q2S, rs2, cs2, hq2, T2, C2, b2⟩ := K3.get (i := kk.2.2) (y := kk.2.2) (by rw [List.getElem?_range l2])
      refine ⟨_, rfl, _, rfl, S, _, _, _, rfl, rfl, SqL.of o3.at_, atI_nat eq1, _, rfl, small 1, fun t7 nt7 => ⟨small 1, fun l7 nl7 => ?_⟩⟩
      have s7 := (Same.new (o := .tup [nV kk.2.1]) nt7).trans (Same.new (o := .lst [.ref t7]) nl7)
      have ht7 : upd (upd H3 t7 (.tup [nV kk.2.1])) l7 (.lst [.ref t7]) t7 = some (.tup ([kk.2.1].map nV)) := Same.new nl7 _ _ upd_same
      have hl7 : upd (upd H3 t7 (.tup [nV kk.2.1])) l7 (.lst [.ref t7]) l7 = some (.lst [.ref t7]) := upd_same
      generalize upd (upd H3 t7 (.tup [nV kk.2.1])) l7 (.lst [.ref t7]) = H7 at s7 ht7 hl7 ⊢
      refine ⟨q1, l7, _, _, rfl, rfl, s7 _ _ hq1, hl7, by rw [List.length_map, T1.1]; show cs1.length + 1 ≤ sizeLine; exact Nat.le_trans (by omega : cs1.length + 1 ≤ 2 ^ 23) (by decide), fun R2 nR2 => ?_⟩
      have s9 := s7.trans (Same.new (o := .lst (rs1.map V.ref ++ [V.ref t7])) nR2)
      have hR9 : upd H7 R2 (.lst (rs1.map V.ref ++ [V.ref t7])) R2 = some (.lst ((rs1 ++ [t7]).map V.ref)) := by rw [upd_same, List.map_append]; rfl
      have TF9 : TupsAt (upd H7 R2 (.lst (rs1.map V.ref ++ [V.ref t7]))) (rs1 ++ [t7]) (cs1 ++ [[kk.2.1]]) := (T1.mono fun b zs e => s9 _ _ e).push (Same.new nR2 _ _ ht7)
      generalize upd H7 R2 (.lst (rs1.map V.ref ++ [V.ref t7])) = H9 at hR9 s9 TF9 ⊢
      have hd9 := s9 _ _ hd3
      have hS9 := s9 _ _ o3.at_
      generalize hfs : cs1 ++ [[kk.2.1]] = fs at TF9
      have fsok : ∀ c ∈ fs, c.Pairwise (· < ·) ∧ (∀ x ∈ c, x < 23) ∧ c.length ≤ 4 ∧ 0 < c.length := fun c hc => by
        rw [← hfs] at hc
        rcases List.mem_append.mp hc with e | e
        · have lc := (C1.mem c).mp e
          refine ⟨lc.rise, fun x hx => by have := lc.lt x hx; omega, Nat.le_trans lc.len hk4, Nat.pos_of_ne_zero fun z => ?_⟩
          have hs := lc.sep
          rw [List.length_eq_zero_iff.mp z] at hs
          exact sep_none ok _ _ (Nat.le_refl _) (by omega) hs
        · rw [List.mem_singleton.mp e]
          exact ⟨List.pairwise_singleton _ _, fun x hx => by rw [List.mem_singleton.mp hx]; omega, by show 1 ≤ 4; decide, by show 0 < 1; decide⟩
      have full : ∀ {x : Nat} {cs : List (List Nat)}, x < n.many + i → CutsAre n k x cs → ∀ M, M ∈ (cs ++ [[x]]).map maskOf ↔ (MinT n x M ∧ pop M ≤ k) := fun {x cs} hx C M => by
        rw [← cuts_full ok (k := k) (by omega) (by omega) C M, List.map_append, List.mem_append]
        show (_ ∨ M ∈ [maskOf [x]]) ↔ M ∈ maskOf [x] :: cs.map maskOf
        rw [List.mem_singleton, List.mem_cons]
        exact or_comm
      have fm := full l1 C1
      rw [hfs] at fm
      have sm := full l2 C2
      -- all but the dict stays
      have keepd : ∀ {Hx Ha : Hp} {u : HO}, (∀ b v, b ≠ d → Hx b = some v → Ha b = some v) → ∀ b v, b ≠ d → Hx b = some v → upd Ha d u b = some v := fun hh b v hb e => by rw [upd_ne hb]; exact hh b v hb e
      have nod : ∀ {b : Addr} {o : HO}, H9 b = some o → (∀ kvs, o ≠ .dT kvs) → b ≠ d := fun {b o} e ho z => by
        rw [z, hd9] at e
        cases e
        exact ho _ rfl
      have dF : ∀ (F : List (List Nat)), (F.map maskOf).Nodup → (∀ c ∈ F, c.Pairwise (· < ·) ∧ (∀ x ∈ c, x < 23) ∧ 0 < c.length ∧ c.length ≤ k) → F.length < sizeLine := fun F nF hF => by
        have := nodup_lt23 nF fun M hM => by
          obtain ⟨c, hc, rfl⟩ := List.mem_map.mp hM
          exact mask_lt (hF c hc).2.1
        rwa [List.length_map] at this
      refine ⟨R2, rfl, ⟨_, SqL.of hR9⟩, ?_⟩
      refine for_list (K := K) (a := R2) (xs := (rs1 ++ [t7]).map V.ref) (fun i σ H' => ∃ (x8 x9 x10 : Option V) (F : List (List Nat)), σ = [some (.ref a), some (nV k), some (.ref S), x3, some (nV kk.1), some (nV kk.2.1), some (nV kk.2.2), some (.ref d), x8, x9, x10] ∧ (∀ b v, b ≠ d → H9 b = some v → H' b = some v) ∧ H' d = some (.dT (kvT F)) ∧ (F.map maskOf).Nodup ∧ (∀ c ∈ F, c.Pairwise (· < ·) ∧ (∀ x ∈ c, x < 23) ∧ 0 < c.length ∧ c.length ≤ k) ∧ FoundW k (fs.map maskOf) ((cs2 ++ [[kk.2.2]]).map maskOf) i 0 (F.map maskOf)) ⟨x8, x9, x10, [], rfl, fun b v _ e => e, hd9, List.nodup_nil, fun c hc => (by cases hc), FoundW.zero _ _ _⟩ ?_ ?_ ?_
      · rintro i σ H' _ ⟨_, _, _, _, _, kp, _⟩
        exact SqL.of (kp _ _ (nod hR9 fun _ z => (by cases z)) hR9)
      · rintro i x σ H10 hx ⟨x8, x9, x10, F, rfl, kp10, hd10, nF, lF, fw⟩
        obtain ⟨tf, cf, rfl, hcf, htf⟩ := TF9.at_ hx
        have hi : i < fs.length := (List.getElem?_eq_some_iff.mp hcf).1
        have ecf : (fs.map maskOf).getD i 0 = maskOf cf := by rw [List.getD_eq_getElem?_getD, List.getElem?_map, hcf]; rfl
        obtain ⟨cf1, cf2, cf3, cf4⟩ := fsok cf (List.mem_of_getElem? hcf)
        have htf10 := kp10 _ _ (nod htf fun _ z => (by cases z)) htf
        have hS10 := kp10 _ _ (nod hS9 fun _ z => (by cases z)) hS9
        have hq210 := kp10 _ _ (nod (s9 _ _ hq2) fun _ z => (by cases z)) (s9 _ _ hq2)
        have T210 := T2.mono fun b zs e => kp10 _ _ (nod (s9 _ _ e) fun _ z => (by cases z)) (s9 _ _ e)
        -- the cuts of the other place
        refine ⟨_, rfl, _, rfl, S, _, _, _, rfl, rfl, SqL.of hS10, atI_nat eq2, _, rfl, small 1, fun t8 nt8 => ⟨small 1, fun l8 nl8 => ?_⟩⟩
        have s11 := (Same.new (o := .tup [nV kk.2.2]) nt8).trans (Same.new (o := .lst [.ref t8]) nl8)
        have ht8 : upd (upd H10 t8 (.tup [nV kk.2.2])) l8 (.lst [.ref t8]) t8 = some (.tup ([kk.2.2].map nV)) := Same.new nl8 _ _ upd_same
        have hl8 : upd (upd H10 t8 (.tup [nV kk.2.2])) l8 (.lst [.ref t8]) l8 = some (.lst [.ref t8]) := upd_same
        generalize upd (upd H10 t8 (.tup [nV kk.2.2])) l8 (.lst [.ref t8]) = H11 at s11 ht8 hl8 ⊢
        refine ⟨q2, l8, _, _, rfl, rfl, s11 _ _ hq210, hl8, by rw [List.length_map, T2.1]; show cs2.length + 1 ≤ sizeLine; exact Nat.le_trans (by omega : cs2.length + 1 ≤ 2 ^ 23) (by decide), fun R nR => ?_⟩
        have s12 := s11.trans (Same.new (o := .lst (rs2.map V.ref ++ [V.ref t8])) nR)
        have hR12 : upd H11 R (.lst (rs2.map V.ref ++ [V.ref t8])) R = some (.lst ((rs2 ++ [t8]).map V.ref)) := by rw [upd_same, List.map_append]; rfl
        have TS12 : TupsAt (upd H11 R (.lst (rs2.map V.ref ++ [V.ref t8]))) (rs2 ++ [t8]) (cs2 ++ [[kk.2.2]]) := (T210.mono fun b zs e => s12 _ _ e).push (Same.new nR _ _ ht8)
        generalize upd H11 R (.lst (rs2.map V.ref ++ [V.ref t8])) = H12 at hR12 s12 TS12 ⊢
        have hd12 := s12 _ _ hd10
        have htf12 := s12 _ _ htf10
        have kp12 : ∀ b v, b ≠ d → H9 b = some v → H12 b = some v := fun b v hb e => s12 _ _ (kp10 b v hb e)
        have ssok : ∀ c ∈ cs2 ++ [[kk.2.2]], c.Pairwise (· < ·) ∧ (∀ x ∈ c, x < 23) ∧ c.length ≤ 4 := fun c hc => by
          rcases List.mem_append.mp hc with e | e
          · have lc := (C2.mem c).mp e
            exact ⟨lc.rise, fun x hx => by have := lc.lt x hx; omega, Nat.le_trans lc.len hk4⟩
          · rw [List.mem_singleton.mp e]
            exact ⟨List.pairwise_singleton _ _, fun x hx => by rw [List.mem_singleton.mp hx]; omega, by show 1 ≤ 4; decide⟩
        generalize cs2 ++ [[kk.2.2]] = ss at TS12 ssok fw ⊢
        have nod2 : ∀ {b : Addr} {o : HO}, H12 b = some o → (∀ kvs, o ≠ .dT kvs) → b ≠ d := fun {b o} e ho z => by
          rw [z, hd12] at e
          cases e
          exact ho _ rfl
        have hDK : ∀ {Ha Hb : Hp}, (∀ b v, b ≠ d → H12 b = some v → Ha b = some v) → Same Ha Hb → ∀ b v, b ≠ d → H12 b = some v → Hb b = some v := fun hh ss b v hb e => ss _ _ (hh b v hb e)
        refine ⟨R, rfl, ⟨_, SqL.of hR12⟩, ?_⟩
        refine for_list (K := K) (a := R) (xs := (rs2 ++ [t8]).map V.ref) (fun j σ H' => ∃ (x9 x10 : Option V) (F : List (List Nat)), σ = [some (.ref a), some (nV k), some (.ref S), x3, some (nV kk.1), some (nV kk.2.1), some (nV kk.2.2), some (.ref d), some (.ref tf), x9, x10] ∧ (∀ b v, b ≠ d → H12 b = some v → H' b = some v) ∧ H' d = some (.dT (kvT F)) ∧ (F.map maskOf).Nodup ∧ (∀ c ∈ F, c.Pairwise (· < ·) ∧ (∀ x ∈ c, x < 23) ∧ 0 < c.length ∧ c.length ≤ k) ∧ FoundW k (fs.map maskOf) (ss.map maskOf) i j (F.map maskOf)) ⟨_, _, F, rfl, fun b v _ e => e, hd12, nF, lF, fw⟩ ?_ ?_ ?_
        · rintro j σ H' _ ⟨_, _, _, _, kp, _⟩
          exact SqL.of (kp _ _ (nod2 hR12 fun _ z => (by cases z)) hR12)
        · rintro j x σ H11 hx ⟨x9, x10, F, rfl, kp11, hd11, nF, lF, fw⟩
          obtain ⟨ts, cs, rfl, hcs, hts⟩ := TS12.at_ hx
          have hj : j < (ss.map maskOf).length := by rw [List.length_map]; exact (List.getElem?_eq_some_iff.mp hcs).1
          have ecs : (ss.map maskOf).getD j 0 = maskOf cs := by rw [List.getD_eq_getElem?_getD, List.getElem?_map, hcs]; rfl
          obtain ⟨cs1', cs2', cs3'⟩ := ssok cs (List.mem_of_getElem? hcs)
          have htf11 := kp11 _ _ (nod2 htf12 fun _ z => (by cases z)) htf12
          have hts11 := kp11 _ _ (nod2 hts fun _ z => (by cases z)) hts
          refine ⟨_, rfl, _, rfl, ?_⟩
          refine catA_any rfl rfl htf11 hts11 (by rw [List.length_map, List.length_map]; exact Nat.le_of_lt (small256 (by omega))) fun p1 H12 s12 h12 => ?_
          rw [← List.map_append] at h12
          refine ⟨p1, cf ++ cs, rfl, .inr (SqT.of h12), by rw [List.length_append]; omega, fun sq c nsq hc => ?_⟩
          rw [List.length_append] at hc
          have s13 := Same.new (o := SetO w sq (fun j => decide (j ∈ (cf ++ cs).map fun n : Nat => (n : Int))) c) nsq
          refine ⟨sq, _, c, rfl, upd_same, by omega, fun out l pw hmm hll nl => ?_⟩
          obtain ⟨ys, rfl, yr, ym⟩ := sorted_set_nat pw hmm
          rw [mapV]
          have s14 := Same.new (o := .lst (ys.map nV)) nl
          refine ⟨l, _, rfl, .inl ⟨SqL.of upd_same, fun tp ntp => ?_⟩⟩
          have s15 := Same.new (o := .tup (ys.map nV)) ntp
          have s0 := ((s12.trans s13).trans s14).trans s15
          have hd15 := s0 _ _ hd11
          have kp15 := hDK kp11 s0
          have mu := mask_union ym
          have mp := mask_pop yr
          have y23 : ∀ x ∈ ys, x < 23 := fun x hx => (List.mem_append.mp ((ym x).mp hx)).elim (cf2 x) (cs2' x)
          have y0 : 0 < ys.length := by
            obtain ⟨x, hx⟩ := List.exists_mem_of_length_pos cf4
            exact List.length_pos_of_mem ((ym x).mpr (List.mem_append.mpr (.inl hx)))
          refine ⟨_, rfl, tp, _, rfl, .inr (SqT.of upd_same), _, rfl, _, _, rfl, rfl, _, rfl, ite2 (fun hp => ?_) (fun hp => ?_)⟩
          · have hp' : ys.length ≤ k := by
              have := of_decide_eq_true hp
              rw [List.length_map] at this
              omega
            have hpm : pop ((fs.map maskOf).getD i 0 ||| (ss.map maskOf).getD j 0) ≤ k := by rw [ecf, ecs, ← mu, mp]; exact hp'
            refine ⟨_, rfl, _, rfl, d, _, rfl, DPut.t (k := ys.map nK) hd15 (by rw [mapKV]; exact upd_same) (by rw [kvT_len]; exact dF F nF lF), ?_⟩
            by_cases e : ys ∈ F
            · rw [kvT_again e]
              exact ⟨_, _, F, rfl, keepd kp15, upd_same, nF, lF, fw.yes hj hpm fun M' => by
                rw [ecf, ecs, ← mu]
                exact ⟨.inl, fun z => z.elim id fun z => by rw [z]; exact List.mem_map.mpr ⟨ys, e, rfl⟩⟩⟩
            · rw [kvT_put e]
              refine ⟨_, _, F ++ [ys], rfl, keepd kp15, upd_same, ?_, fun c hc => ?_, fw.yes hj hpm fun M' => by rw [ecf, ecs, ← mu, List.map_append, List.mem_append]; exact or_congr_right List.mem_singleton⟩
              · rw [List.map_append]
                refine nodup_snoc nF fun z => ?_
                obtain ⟨c, hc, ec⟩ := List.mem_map.mp z
                exact e (by rw [← mask_inj (lF c hc).1 yr ec]; exact hc)
              · rcases List.mem_append.mp hc with h | h
                · exact lF c h
                · rw [List.mem_singleton.mp h]
                  exact ⟨yr, y23, y0, hp'⟩
          · refine ⟨_, _, F, rfl, kp15, hd15, nF, lF, fw.no hj fun z => hp (decide_eq_true ?_)⟩
            rw [ecf, ecs, ← mu, mp] at z
            rw [List.length_map]
            omega
        · rintro σ H13 ⟨x9, x10, F, rfl, kp13, hd13, nF, lF, fw⟩
          rw [List.length_map, TS12.1, ← List.length_map (f := maskOf)] at fw
          exact ⟨_, _, _, F, rfl, fun b v hb e => kp13 b v hb (kp12 b v hb e), hd13, nF, lF, fw.row (by rw [List.length_map]; exact hi)⟩
      · rintro σ H10 ⟨x8, x9, x10, F, rfl, kp10, hd10, nF, lF, fw⟩
        rw [List.length_map, TF9.1, ← List.length_map (f := maskOf)] at fw
        have mlF : ML n k (n.many + i) ((F.map maskOf).filter fun M => !hasPart (F.map maskOf) M) := gate_found ok hm hgt hkk fm sm fw.all
        have ndF : F.Nodup := by
          rw [List.nodup_iff_pairwise_ne] at nF ⊢
          rw [List.pairwise_map] at nF
          exact nF.imp fun h e => h (by rw [e])
        have s210 : Same H2 H10 := fun b v e => kp10 b v (fun z => by rw [z, d2] at e; cases e) (s9 _ _ (s3 _ _ e))
        have hS10 := s210 _ _ o2.at_
        refine ⟨_, rfl, .inl ⟨rfl, _, SqL.of hS10⟩, _, rfl, d, F, rfl, hd10, ndF, fun c hc => ⟨(lF c hc).1, (lF c hc).2.2.1, by have := (lF c hc).2.2.2; omega⟩, dF F nF lF, fun r H11 rs ls s11 r0 hr11 TR ndl meml srt => ?_⟩
        have s211 := s210.trans s11
        have hS11 := s11 _ _ hS10
        refine ⟨S, _, _, rfl, rfl, hS11, by rw [List.length_map, ql]; exact small256 (by omega), ?_⟩
        have o11 : Own H H11 S (qs.map V.ref) := ⟨o2.sm.trans s211, hS11, nS⟩
        refine ⟨_, _, _, _, _, _, _, _, qs ++ [r], rfl, by rw [List.map_append]; exact o11.app, ?_⟩
        have rH : H r = none := Same.was (o2.sm.trans s210) r0
        have rS : r ≠ S := fun z => by rw [z, hS10] at r0; cases r0
        have up : ∀ b v, b ≠ S → H11 b = some v → (∀ kvs, v ≠ .dT kvs) → upd H11 S (.lst (qs.map V.ref ++ [V.ref r])) b = some v := fun b v hb e _ => by rw [upd_ne hb]; exact e
        have nt : ∀ xs, H11 S ≠ some (.tup xs) := fun xs z => by rw [hS11] at z; cases z
        rw [← Nat.add_assoc, List.range_succ]
        refine (K2.mono fun p y h => (h.mono (fun b v _ e _ => s211 _ _ e) fun xs z => by rw [o2.at_] at z; cases z).mono up nt).push ?_
        have rise : ∀ c ∈ F, c.Pairwise (· < ·) := fun c hc => (lF c hc).1
        have ml : ML n k (n.many + i) (ls.map maskOf) := fun M => (kept_masks rise (fun c hc => (lF c hc).2.2.1) meml M).trans (mlF M)
        have ndm : (ls.map maskOf).Nodup := by
          rw [List.nodup_iff_pairwise_ne, List.pairwise_map]
          exact List.Pairwise.imp_of_mem (fun {x y} hx hy h e => h (mask_inj (rise x ((meml x).mp hx).1) (rise y ((meml y).mp hy).1) e)) (List.nodup_iff_pairwise_ne.mp ndl)
        have lsF : ls.length ≤ F.length := List.Nodup.length_le_of_subset ndl fun c hc => ((meml c).mp hc).1
        refine KTolN.mono (H := H11) ⟨rH, rS, rs, ls, hr11, TR, cuts_of_masks ok ml ndm ?_ srt, ?_⟩ up nt
        · rw [List.map_map]
          have : ls.map (bitsOf ∘ maskOf) = ls := by
            conv => rhs; rw [← List.map_id ls]
            exact List.map_congr_left fun c hc => bits_mask (rise c ((meml c).mp hc).1)
          rw [this]
        · refine Nat.lt_of_le_of_lt lsF ?_
          have nd0 : (0 :: F.map maskOf).Nodup := List.nodup_cons.mpr ⟨fun z => by
            obtain ⟨c, hc, e⟩ := List.mem_map.mp z
            have := mask_pos (lF c hc).2.2.1
            omega, nF⟩
          have := nd0.length_le_of_subset (l₂ := List.range (2 ^ 23)) fun x hx => List.mem_range.mpr (by
            rcases List.mem_cons.mp hx with e | e
            · rw [e]; decide
            · obtain ⟨c, hc, rfl⟩ := List.mem_map.mp e
              exact mask_lt (lF c hc).2.1)
          rw [List.length_range, List.length_cons, List.length_map] at this
          omega
    · rintro σ H2 ⟨x3, x4, x5, x6, x7, x8, x9, x10, qs, rfl, o2, K2⟩
      rw [List.length_map, N.gs.1] at K2
      exact ⟨_, rfl, q S H2 qs o2.sm nS o2.at_ K2⟩
end
end K57
set_option Elab.async false
set_option linter.all false
set_option maxRecDepth 100000
set_option maxHeartbeats 4000000
namespace K57
open PySem PySem.Spec PyProof.Rows L2 GX
open C8 (Cal pe_c pe_gc Met Mak)
-- @alt one_deeper lst par=l[i],t[i]
-- @alt one_deeper tup par=t[i],t[i]
-- @alt one_deeper dk par=DK,t[i]
section
/-! ### depths of chains -/
theorem deps_uniq {n : Net} (ok : n.Ok) {k : Nat} {ds es : List Nat} (d : DepsTo n k ds) (e : DepsTo n k es) (dl : ds.length = n.many + n.gates.length) (el : es.length = n.many + n.gates.length) : ds = es := by
  have key : ∀ b x, x ≤ b → x < n.many + n.gates.length → ds.getD x 0 = es.getD x 0 := fun b => by
    induction b with
    | zero =>
      intro x hx _
      have := ok.m1
      rw [d.low x (by omega) (by omega), e.low x (by omega) (by omega)]
    | succ b ih =>
      intro x hx hx2
      by_cases hm : x < n.many
      · rw [d.low x hm (by omega), e.low x hm (by omega)]
      · obtain ⟨⟨c, lc, e1⟩, e2⟩ := d.at_ x (by omega) (by omega)
        obtain ⟨⟨c', lc', f1⟩, f2⟩ := e.at_ x (by omega) (by omega)
        have h1 := e2 c' lc'
        have h2 := f2 c lc
        have g1 : maxL (c'.map fun x => ds.getD x 0) = maxL (c'.map fun x => es.getD x 0) := maxL_congr fun y hy => ih y (by have := lc'.lt y hy; omega) (by have := lc'.lt y hy; omega)
        have g2 : maxL (c.map fun x => ds.getD x 0) = maxL (c.map fun x => es.getD x 0) := maxL_congr fun y hy => ih y (by have := lc.lt y hy; omega) (by have := lc.lt y hy; omega)
        rw [g1, ← f1] at h1
        rw [← g2, ← e1] at h2
        omega
  refine List.ext_getElem (by rw [dl, el]) fun i h1 h2 => ?_
  have := key i i (Nat.le_refl _) (by omega)
  rwa [List.getD_eq_getElem?_getD, List.getElem?_eq_getElem h1, List.getD_eq_getElem?_getD, List.getElem?_eq_getElem h2] at this
/-- the same places, either way about -/
structure Like (n n' : Net) : Prop where
  m : n.many = n'.many
  l : n.gates.length = n'.gates.length
  g : ∀ (i : Nat) (k : Nat × Nat × Nat), n.gates[i]? = some k → ∃ k' : Nat × Nat × Nat, n'.gates[i]? = some k' ∧ ∀ z, (z = k.2.1 ∨ z = k.2.2) ↔ (z = k'.2.1 ∨ z = k'.2.2)
theorem Like.symm {n n' : Net} (h : Like n n') : Like n' n := ⟨h.m.symm, h.l.symm, fun i k hk => by
  have hi : i < n.gates.length := by rw [h.l]; exact (List.getElem?_eq_some_iff.mp hk).1
  obtain ⟨k', e, hz⟩ := h.g i _ (List.getElem?_eq_getElem hi)
  rw [hk] at e
  cases e
  exact ⟨_, List.getElem?_eq_getElem hi, fun z => (hz z).symm⟩⟩
theorem Like.rc {n n' : Net} (h : Like n n') {st : List Nat} {w y : Nat} (r : Rc n st w n.many y) : Rc n' st w n'.many y := by
  induction r with
  | here e => exact .here e
  | @step g p k _ hg _ hk hp hs ih =>
    obtain ⟨k', e, hz⟩ := h.g _ k hk
    rw [h.m] at e hg
    exact .step ih hg hg e ((hz p).mp hp) hs
theorem Like.sep {n n' : Net} (h : Like n n') {st : List Nat} {w : Nat} : Sep n w st ↔ Sep n' w st := ⟨fun s y r => by rw [← h.m]; exact s y (h.symm.rc r), fun s y r => by rw [h.m]; exact s y (h.rc r)⟩
theorem Like.lc {n n' : Net} (h : Like n n') {k g : Nat} {c : List Nat} (x : LC n k g c) : LC n' k g c := ⟨x.rise, x.lt, h.sep.mp x.sep, x.len, fun y hy z => x.least y hy (h.sep.mpr z)⟩
end
section
variable {P : Program} {w : World} {K : PySem.W.Frag} {mg : Str → Option Value} {base : Heap} {Ts : List Addr}
def spDepsD : Sp := fun vs H Q _ => ∃ (a : Addr) (n : Net) (g o : Addr) (ps : List Addr) (ca S : Addr) (qs : List Addr) (k : Nat), vs = [.ref a, .ref ca] ∧ NetAt H a n g o ps ∧ n.Ok ∧ 2 ≤ k ∧ k ≤ 4 ∧ H ca = some (.lst (qs.map V.ref)) ∧ PtsAt (KTolL S n k) H qs (List.range (n.many + n.gates.length)) ∧
  ∀ r H' (ds : List Nat), Same H H' → H r = none → H' r = some (.lst (ds.map nV)) → ds.length = n.many + n.gates.length → DepsTo n k ds → Q (.ref r) H'
theorem ok_depsD {f c : Addr} (D : Dfn K mg "_law_depths" s__law_depths f c) (T : Txt mg) : Cal P w K mg base 1 "_law_depths" spDepsD [] := by
  refine cal D (fun _ _ _ _ _ _ us hl => match us, hl with | [_, _], _ => rfl) sc__law_depths (fun vs H Q E h => ?_) (fun A outer s H vs Q E hr h => ?_)
  · obtain ⟨a, n, g, o, ps, ca, S, qs, k, rfl, _⟩ := h
    rfl
  · obtain ⟨a, n, g, o, ps, ca, S, qs, k, rfl, N, ok, hk2, hk, hca, KP, q⟩ := h
    have m8 := ok.m8
    have g16 := ok.g16
    have m1 := ok.m1
    refine ⟨_, (pss_cons (ps_set (i := 2) sc__law_depths.nd rfl (by first | exact Or.inl rfl | exact Or.inr rfl) (pe_op op_rep (pe_lst (pa_cons pe_int pa_nil)) (pe_ix ix_tup (pv 0) pe_int (fun _ _ => rfl))))
      (pss_cons (ps_for PassesOwn.never rfl (pi_range2 (by rfl) T.b_range (pa_cons (pe_ix ix_tup (pv 0) pe_int (fun _ _ => rfl)) (pa_cons (pe_op op_add (pe_ix ix_tup (pv 0) pe_int (fun _ _ => rfl)) (pe_callB call_len_seq (by rfl) T.b_len (by decide +kernel) (pa_cons (pe_ix ix_tup (pv 0) pe_int (fun _ _ => rfl)) pa_nil))) pa_nil))) (pg_name (i := 3) sc__law_depths.nd rfl (by first | exact Or.inl rfl | exact Or.inr rfl))
        (pss_one (ps_expr (pe_bm PySem.F.plainAttrs_list PySem.F.slot_list_append PySem.F.type_list_append mt_append (pv 2) (pa_cons (pe_callB (cr_min rfl) (by rfl) T.b_min (by decide +kernel) (pa_cons (pe_lc (own := [("_law_cut", 5)]) (g := gName 5) (tt := tYes) rfl sc__law_depths.nd (pi_list (pe_ix ix_list (pv 1) (pv 3) (fun _ _ => rfl))) (blkOk_by (own := [("_law_cut", 5)]) (N := ["_law_net_here", "_law_cuts_here", "_law_known", "_law_gate_here", "_law_wire", "_law_cut"]) (sc := defScope s__law_depths) (by decide +kernel)) (fun _ _ _ _ _ => (pg_name (i := 5) sc__law_depths.nd rfl (by first | exact Or.inl rfl | exact Or.inr rfl))) (fun _ _ _ _ _ => pts_nil) (fun _ _ _ _ _ => (pe_op op_add pe_int (pe_callB (cr_maxK (K := K) rfl) (by rfl) T.b_max (by decide +kernel) (pa_cons (pe_lc (own := [("_law_wire", 4)]) (g := gName 4) (tt := tYes) rfl sc__law_depths.nd (pi_tupK (K := K) (pv 5)) (blkOk_by (own := [("_law_wire", 4)]) (by rfl)) (fun _ _ _ _ _ => (pg_name (i := 4) sc__law_depths.nd rfl (by first | exact Or.inl rfl | exact Or.inr rfl))) (fun _ _ _ _ _ => pts_nil) (fun _ _ _ _ _ => (pe_ix (ix_listK (K := K)) (pv 2) (pv 4) (fun _ _ => rfl)))) pa_nil))))) pa_nil)) pa_nil)))))
      (pss_one (ps_ret (pv 2))))), ?_⟩
    refine ⟨small 1, fun z nz => ?_⟩
    have e1 := Same.new (o := .lst [.int 0]) nz
    refine ⟨_, rfl, a, _, 0, _, rfl, rfl, SqT.of (N.same e1).top, at0, z, _, _, rfl, rfl, upd_same, by omega, by omega, ?_, fun l nl => ?_⟩
    · show 1 * (((n.many : Nat)) : Int).toNat ≤ sizeLine
      rw [Int.toNat_natCast]
      exact small _ (by omega)
    have ef : (List.replicate (((n.many : Nat)) : Int).toNat [V.int 0]).flatten = (List.replicate n.many 0).map nV := by
      rw [Int.toNat_natCast, List.map_replicate, List.flatten_replicate_singleton]
      rfl
    rw [ef]
    have nlH : H l = none := Same.was e1 nl
    have o1 : Own H (upd (upd H z (.lst [.int 0])) l (.lst ((List.replicate n.many 0).map nV))) l ((List.replicate n.many 0).map nV) := ⟨e1.trans (Same.new nl), upd_same, nlH⟩
    generalize upd (upd H z (.lst [.int 0])) l (.lst ((List.replicate n.many 0).map nV)) = H1 at o1 ⊢
    have N1 := N.same o1.sm
    refine ⟨_, rfl, a, _, 0, _, rfl, rfl, SqT.of N1.top, at0, _, rfl, a, _, 0, _, rfl, rfl, SqT.of N1.top, at0, _, rfl, a, _, 1, _, rfl, rfl, SqT.of N1.top, at1, g, _, rfl, .inr (SqT.of N1.gt), _, _, rfl, rfl, _, _, rfl, ⟨by omega, by omega, by omega, by rw [List.length_map, N.gs.1]; omega⟩, ?_⟩
    refine for_range (lo := ((n.many : Nat) : Int)) (n := (((n.many : Nat) : Int) + (((ps.map V.ref).length : Nat) : Int) - ((n.many : Nat) : Int)).toNat) (fun j σ H' => ∃ (x3 x4 x5 : Option V) (ds : List Nat), σ = [some (.ref a), some (.ref ca), some (.ref l), x3, x4, x5] ∧ Own H H' l (ds.map nV) ∧ ds.length = n.many + j ∧ DepsTo n k ds) ⟨none, none, none, List.replicate n.many 0, rfl, o1, by rw [List.length_replicate]; rfl, ⟨fun x hx _ => by rw [List.getD_eq_getElem?_getD, List.getElem?_replicate, if_pos hx]; rfl, fun g' h1 h2 => by rw [List.length_replicate] at h2; omega⟩⟩ ?_ ?_
    · rintro j σ H2 hj ⟨x3, x4, x5, ds, rfl, o2, dl, dt⟩
      have hj' : j < n.gates.length := by
        rw [List.length_map, N.gs.1] at hj
        omega
      have hgt : n.many + j < n.many + n.gates.length := by omega
      obtain ⟨q1, eq1, q1S, rs, cs, hq1, TQ, CA, cl⟩ := KP.get (i := n.many + j) (y := n.many + j) (by rw [List.getElem?_range hgt])
      have hq12 := o2.sm _ _ hq1
      have TS := TQ.mono fun b zs e => o2.sm _ _ e
      refine ⟨_, rfl, .inl ⟨rfl, _, SqL.of o2.at_⟩, ?_⟩
      refine ⟨_, rfl, _, rfl, ca, _, _, _, rfl, rfl, SqL.of (o2.sm _ _ hca), atI_nat (j := n.many + j) eq1, q1, rfl, ⟨_, SqL.of hq12⟩, fun M nM => ?_⟩
      have c0 : cs.length ≠ 0 := fun z => by
        have := (cuts_ml ok CA).some_ ok hk2 (Nat.le_add_right n.many j) (List.getElem?_eq_getElem (show n.many + j - n.many < n.gates.length by omega))
        rw [List.length_eq_zero_iff.mp z] at this
        exact this rfl
      refine lc_list (K := K) (a := q1) (xs := rs.map V.ref) (fun i H' => Own H2 H' M (((cs.take i).map fun c => 1 + maxL (c.map fun x => ds.getD x 0)).map nV)) ⟨Same.new nM, upd_same, nM⟩ (fun _ H' _ h => SqL.of (h.sm _ _ hq12)) ?_ ?_
      · rintro i v H4 hv o4
        have hi : i < cs.length := by
          have := (List.getElem?_eq_some_iff.mp hv).1
          rwa [List.length_map, TS.1] at this
        obtain ⟨tq, c', rfl, hc, hat⟩ := TS.at_ hv
        have hat4 := o4.sm _ _ hat
        have lc := (CA.mem c').mp (List.mem_of_getElem? hc)
        have c2 := lc.lt
        have c4 := lc.len
        have c3 : 0 < c'.length := Nat.pos_of_ne_zero fun z => by
          have hs := lc.sep
          rw [List.length_eq_zero_iff.mp z] at hs
          exact sep_none ok _ _ (Nat.le_refl _) hgt hs
        have tk : cs.take (i + 1) = cs.take i ++ [c'] := by rw [List.take_add_one, hc]; rfl
        refine ⟨rfl, ?_⟩
        refine iteT (B := Own H2 H4 M (((cs.take (i + 1)).map fun c => 1 + maxL (c.map fun x => ds.getD x 0)).map nV)) ?_
        have hl5 := o4.sm _ _ o2.at_
        refine ⟨_, rfl, tq, rfl, ⟨_, SqT.of hat4⟩, fun M2 nM2 => ?_⟩
        refine lc_tup (K := K) (a := tq) (xs := c'.map nV) (fun i H' => Own H4 H' M2 (((c'.take i).map fun x => ds.getD x 0).map nV)) ⟨Same.new nM2, upd_same, nM2⟩ (fun k H' _ o' => SqT.of (o'.sm _ _ hat4)) ?_ ?_
        · rintro i2 x H6 hx o6
          have hi2 : i2 < c'.length := by
            have := (List.getElem?_eq_some_iff.mp hx).1
            rwa [List.length_map] at this
          rw [natAt hi2] at hx
          cases hx
          refine ⟨rfl, ?_⟩
          unfold tYes
          refine iteT ?_
          refine ⟨_, rfl, _, rfl, l, _, _, _, rfl, rfl, SqL.of (o6.sm _ _ hl5), atI_nat (natAt (by have := c2 _ (getD_mem hi2); omega)), _, o6.at_, by rw [List.length_map, List.length_map, List.length_take]; exact small256 (by omega), ?_⟩
          have : c'.getD i2 0 = c'[i2] := by rw [List.getD_eq_getElem?_getD, List.getElem?_eq_getElem hi2]; rfl
          rw [List.take_add_one, List.getElem?_eq_getElem hi2, Option.toList_some, List.map_append, List.map_append, this]
          exact o6.app
        · rintro H6 o6
          rw [List.length_map, List.take_length] at o6
          have o7 : Own H2 H6 M _ := ⟨o4.sm.trans o6.sm, o6.sm _ _ o4.at_, o4.nw⟩
          refine ⟨M2, (c'.map fun x => ds.getD x 0).map (fun n : Nat => (n : Int)), rfl, (by rw [mapV]; exact SqL.of o6.at_), by rw [List.length_map, List.length_map]; exact c3, fun m hm hb => ⟨_, _, rfl, rfl, ?_⟩⟩
          have e := max_eq hm hb
          have e2 : V.int (1 + m) = nV (1 + maxL (c'.map fun x => ds.getD x 0)) := by
            have := V.int.inj e
            rw [this]
            rfl
          dsimp -proj only
          rw [e2]
          refine ⟨_, o7.at_, by rw [List.length_map, List.length_map, List.length_take]; exact Nat.lt_of_le_of_lt (Nat.min_le_right _ _) (Nat.lt_of_lt_of_le cl (by decide)), ?_⟩
          rw [tk, List.map_append, List.map_append]
          exact o7.app
      · rintro H4 o4
        rw [List.length_map, TS.1, List.take_length] at o4
        have o5 : Own H H4 l (ds.map nV) := ⟨o2.sm.trans o4.sm, o4.sm _ _ o2.at_, o2.nw⟩
        refine ⟨M, (cs.map fun c => 1 + maxL (c.map fun x => ds.getD x 0)).map (fun n : Nat => (n : Int)), rfl, (by rw [mapV]; exact SqL.of o4.at_), by rw [List.length_map, List.length_map]; omega, fun m hm hb => ?_⟩
        obtain ⟨mn, hmn, rfl⟩ := List.mem_map.mp hm
        have hb' : ∀ y ∈ (cs.map fun c => 1 + maxL (c.map fun x => ds.getD x 0)), mn ≤ y := fun y hy => by
          have := hb _ (List.mem_map.mpr ⟨y, hy, rfl⟩)
          omega
        refine ⟨l, _, _, rfl, rfl, o5.at_, by rw [List.length_map]; exact small256 (by omega), _, _, _, ds ++ [mn], rfl, by rw [List.map_append]; exact o5.app, by rw [List.length_append, dl]; rfl, ?_⟩
        have gs : ∀ x, x < ds.length → (ds ++ [mn]).getD x 0 = ds.getD x 0 := fun x hx => getSnoc hx
        have gl : (ds ++ [mn]).getD (n.many + j) 0 = mn := by
          rw [← dl]
          exact getLastN
        have cong : ∀ g' c, g' ≤ ds.length → LC n k g' c → maxL (c.map fun x => (ds ++ [mn]).getD x 0) = maxL (c.map fun x => ds.getD x 0) := fun g' c hg' lc => maxL_congr fun x hx => gs x (by have := lc.lt x hx; omega)
        refine ⟨fun x hx hx2 => ?_, fun g' hg1 hg2 => ?_⟩
        · rw [gs x (by omega)]
          exact dt.low x hx (by omega)
        · rw [List.length_append] at hg2
          have hg2' : g' < ds.length + 1 := hg2
          by_cases e : g' < ds.length
          · obtain ⟨⟨c, hc, e1⟩, e2⟩ := dt.at_ g' hg1 e
            rw [gs g' e]
            refine ⟨⟨c, hc, by rw [cong g' c (by omega) hc]; exact e1⟩, fun c hc => by rw [cong g' c (by omega) hc]; exact e2 c hc⟩
          · have eg : g' = n.many + j := by omega
            subst eg
            rw [gl]
            refine ⟨?_, fun c hc => by rw [cong _ c (by omega) hc]; exact hb' _ (List.mem_map.mpr ⟨c, (CA.mem c).mpr hc, rfl⟩)⟩
            obtain ⟨c, hc, e1⟩ := List.mem_map.mp hmn
            have lc := (CA.mem c).mp hc
            exact ⟨c, lc, by rw [cong _ c (by omega) lc]; exact e1.symm⟩
    · rintro σ H2 ⟨x3, x4, x5, ds, rfl, o2, dl, dt⟩
      rw [List.length_map, N.gs.1, show (((n.many : Nat) : Int) + ((n.gates.length : Nat) : Int) - ((n.many : Nat) : Int)).toNat = n.gates.length by omega] at dl
      exact ⟨_, rfl, q l H2 ds o2.sm o2.nw o2.at_ dl dt⟩
end
end K57
set_option Elab.async false
set_option linter.all false
set_option maxRecDepth 100000
set_option maxHeartbeats 4000000
namespace K57
open PySem PySem.Spec PyProof.Rows L2 GX
open C8 (Cal pe_c pe_gc Met Mak)
-- @alt one_deeper lst par=l[i],t[i]
-- @alt one_deeper tup par=t[i],t[i]
-- @alt one_deeper dk par=DK,t[i]
section
variable {P : Program} {w : World} {K : PySem.W.Frag} {mg : Str → Option Value} {base : Heap} {Ts : List Addr}
theorem tupPutD {H : Hp} {d : Addr} {kvs : List (L2.Key × V)} {u : HO} (h : H d = some (.dK kvs)) : ∀ b zs, H b = some (.tup zs) → upd H d u b = some (.tup zs) := fun b zs e => by
  rw [upd_ne (fun z => by rw [z, h] at e; cases e)]
  exact e
end
section
variable {P : Program} {w : World} {K : PySem.W.Frag} {mg : Str → Option Value} {base : Heap} {Ts : List Addr}
/-- how far the lean cover is found, from behind -/
structure LeanTo (n : Net) (cv : List Tb) (i : Nat) (S : Nat → Prop) : Prop where
  ask : ∀ x, S x ↔ (x ∈ n.outs ∨ ∃ t ∈ cv.drop (cv.length - i), Need n cv t.1 ∧ x ∈ t.2)
theorem drop_step {α : Type} {cv : List α} {i : Nat} {t : α} (hi : i < cv.length) (ht : cv[cv.length - 1 - i]? = some t) : cv.drop (cv.length - (i + 1)) = t :: cv.drop (cv.length - i) := by
  have h1 : cv.length - (i + 1) < cv.length := by omega
  rw [List.drop_eq_getElem_cons h1]
  rw [show cv.length - 1 - i = cv.length - (i + 1) by omega, List.getElem?_eq_getElem h1] at ht
  rw [Option.some.inj ht, show cv.length - (i + 1) + 1 = cv.length - i by omega]
theorem LeanTo.here {n : Net} {k : Nat} {cv : List Tb} {i : Nat} {S : Nat → Prop} {t : Tb} (c : CovOk n k cv) (h : LeanTo n cv i S) (hi : i < cv.length) (ht : cv[cv.length - 1 - i]? = some t) : S t.1 ↔ Need n cv t.1 := by
  have htm := List.mem_of_getElem? ht
  have hg := (c.gt t htm).1
  rw [h.ask]
  refine ⟨fun z => ?_, fun z => ?_⟩
  · rcases z with z | ⟨u, hu, hn, hx⟩
    · exact .out z hg
    · exact .step (List.mem_of_mem_drop hu) hn hx hg
  · generalize hx : t.1 = x at z
    cases z with
    | out z _ => exact .inl z
    | @step u _ hu hn hx' _ =>
      refine .inr ⟨u, ?_, hn, hx'⟩
      have lt := (c.cut u hu).1.lt _ hx'
      obtain ⟨j, hj⟩ := List.getElem?_of_mem hu
      have hjl := (List.getElem?_eq_some_iff.mp hj).1
      have hji : ¬ (j < cv.length - i) := fun hlt => by
        by_cases e : j = cv.length - 1 - i
        · rw [e, ht] at hj
          cases hj
          omega
        · have h1 : cv.length - 1 - i < cv.length := by omega
          have := List.pairwise_iff_getElem.mp c.rise j (cv.length - 1 - i) hjl h1 (by omega)
          rw [List.getElem?_eq_getElem hjl] at hj
          rw [List.getElem?_eq_getElem h1] at ht
          rw [Option.some.inj hj, Option.some.inj ht] at this
          omega
      refine List.mem_of_getElem? (i := j - (cv.length - i)) ?_
      rw [List.getElem?_drop, show cv.length - i + (j - (cv.length - i)) = j by omega]
      exact hj
def spLeaned : Sp := fun vs H Q _ => ∃ (a ca : Addr) (n : Net) (g o : Addr) (ps : List Addr) (k : Nat) (cv : List Tb) (qs : List Addr), vs = [.ref a, .ref ca] ∧ NetAt H a n g o ps ∧ n.Ok ∧ CovAt H ca cv qs ∧ CovOk n k cv ∧ k ≤ 8 ∧ ∀ p rs H', Same H H' → CovAt H' p (leanOf n cv) rs → Q (.ref p) H'
theorem ok_leaned {f c : Addr} (D : Dfn K mg "leaned" s_leaned f c) (T : Txt mg) : Cal P w K mg base 1 "leaned" spLeaned [] := by
  refine cal D (fun _ _ _ _ _ _ us hl => match us, hl with | [_, _], _ => rfl) sc_leaned (fun vs H Q E h => ?_) (fun A outer s H vs Q E hr h => ?_)
  · obtain ⟨a, ca, n, g, o, ps, k, cv, qs, rfl, _⟩ := h
    rfl
  · obtain ⟨a, ca, n, g, o, ps, k, cv, qs, rfl, N, ok, hcv, cok, hk8, q⟩ := h
    have o8 := ok.o8
    have cl := cok.len ok
    refine ⟨_, (pss_cons (ps_setDc (i := 2) (own := [("out", 3)]) (g := gName 3) (tt := tYes) rfl sc_leaned.nd rfl rfl (sw_trueD rfl rfl rfl (by decide +kernel)) (pi_tup (pe_ix ix_tup (pv 0) pe_int (fun _ _ => rfl))) (blkOk_by (own := [("out", 3)]) (N := ["net", "cover", "needed", "out", "tables", "gate", "cut", "wire"]) (sc := defScope s_leaned) (by decide +kernel)) (fun _ _ _ _ _ => (pg_name (i := 3) sc_leaned.nd rfl (by first | exact Or.inl rfl | exact Or.inr rfl))) (fun _ _ _ _ _ => pts_nil) (fun _ _ _ _ _ => (pv 3)) (fun _ _ _ _ _ => pe_bl))
      (pss_cons (ps_set (i := 4) sc_leaned.nd rfl (by first | exact Or.inl rfl | exact Or.inr rfl) (pe_lst pa_nil))
      (pss_cons (ps_for PassesOwn.never rfl (RT.pi_revA (by rfl) T.b_reversed (pv 1)) (pg_tup rfl (pgs_cons (pg_name (i := 5) sc_leaned.nd rfl (by first | exact Or.inl rfl | exact Or.inr rfl)) (pgs_cons (pg_name (i := 6) sc_leaned.nd rfl (by first | exact Or.inl rfl | exact Or.inr rfl)) pgs_nil)))
        (pss_one (ps_if (pt_cmp (pc_din (Nat.lt_of_le_of_lt (Nat.add_le_add_left (by decide) _) hr.units) (pv 5) (pv 2))) (pss_cons (ps_expr (pe_bm PySem.F.plainAttrs_list PySem.F.slot_list_append PySem.F.type_list_append mt_append (pv 4) (pa_cons (pe_tup (pa_cons (pv 5) (pa_cons (pv 6) pa_nil))) pa_nil)))
      (pss_one (ps_for PassesOwn.never rfl (pi_tup (pv 6)) (pg_name (i := 7) sc_leaned.nd rfl (by first | exact Or.inl rfl | exact Or.inr rfl))
        (pss_one (ps_dput (Nat.lt_of_le_of_lt (Nat.add_le_add_left (by decide) _) hr.units) (pv 2) (pv 7) pe_bl (by rfl)))))) pss_nil)))
      (pss_one (ps_ret (pe_callTy call_tuple_of (by rfl) T.b_tuple (by decide +kernel) (pa_cons (pe_revL (pv 4)) pa_nil))))))), ?_⟩
    refine ⟨_, rfl, a, _, 2, _, rfl, rfl, SqT.of N.top, at2, o, rfl, ⟨_, SqT.of N.ot⟩, fun d nd => ?_⟩
    refine dc_tup (K := K) (a := o) (xs := n.outs.map nV) (fun i H' => ∃ kvs : List (L2.Key × V), (∀ b u, H b = some u → H' b = some u) ∧ H' d = some (.dK kvs) ∧ kvs.length ≤ i ∧ ∀ x : Nat, (valV kvs (nK x)).isSome = true ↔ x ∈ n.outs.take i) ⟨[], fun b u e => Same.new nd _ _ e, upd_same, Nat.le_refl _, fun x => ⟨fun z => (by cases z), fun z => by (cases z)⟩⟩ (fun i H' _ ⟨_, sm, _⟩ => SqT.of (sm _ _ N.ot)) ?_ ?_
    · rintro i x H1 hx ⟨kvs, sm, hd1, kl, km⟩
      have hi : i < n.outs.length := by
        have := (List.getElem?_eq_some_iff.mp hx).1
        rwa [List.length_map] at this
      rw [natAt hi] at hx
      cases hx
      refine ⟨rfl, ?_⟩
      unfold tYes
      refine iteT ?_
      refine ⟨_, rfl, kvs, nK (n.outs.getD i 0), rfl, hd1, small256 (by omega), _, fun b u e => ?_, upd_same, by have := length_putK kvs (nK (n.outs.getD i 0)) (.bl true); omega, fun x => ?_⟩
      · rw [upd_ne (ne_of_none e nd)]
        exact sm b u e
      · rw [put_isSome, km, List.take_add_one, List.mem_append, List.getElem?_eq_getElem hi, Option.toList_some, List.mem_singleton, List.getD_eq_getElem?_getD, List.getElem?_eq_getElem hi, or_comm]
        rfl
    · rintro H1 ⟨kvs, sm, hd1, kl, km⟩
      rw [List.length_map] at kl km
      rw [List.take_length] at km
      refine ⟨small 0, fun L nL => ?_⟩
      have s2 := Same.new (o := .lst []) nL
      have dL : d ≠ L := fun z => by rw [z, nL] at hd1; cases hd1
      have L0 : H L = none := Same.was (fun b u e => sm b u e) nL
      have sm2 : Same H (upd H1 L (.lst [])) := fun b u e => s2 _ _ (sm b u e)
      have hd2 := s2 _ _ hd1
      have hL2 : upd H1 L (.lst []) L = some (.lst (([] : List Addr).map V.ref)) := upd_same
      generalize upd H1 L (.lst []) = H2 at sm2 hd2 hL2 ⊢
      refine ⟨_, rfl, ca, _, rfl, .inr ⟨SqT.of (sm2 _ _ hcv.top), ?_⟩⟩
      refine RT.for_ItvT (K := K) (a := ca) (xs := qs.map V.ref) (fun i σ H' => ∃ (x4 x5 x6 : Option V) (kvs : List (L2.Key × V)) (S : Nat → Prop) (rs : List Addr), σ = [some (.ref a), some (.ref ca), some (.ref d), none, some (.ref L), x4, x5, x6] ∧ (∀ b u, H b = some u → H' b = some u) ∧ H' d = some (.dK kvs) ∧ kvs.length ≤ 8 + 8 * i ∧ (∀ x : Nat, (valV kvs (nK x)).isSome = true ↔ S x) ∧ H' L = some (.lst (rs.map V.ref)) ∧ PtsAt TbAt H' rs ((cv.drop (cv.length - i)).filter fun t => needB n cv t.1).reverse ∧ LeanTo n cv i S) ⟨none, none, none, kvs, fun x => x ∈ n.outs, [], rfl, sm2, hd2, by omega, km, hL2, ?_, ⟨fun x => ⟨fun z => .inl z, fun z => ?_⟩⟩⟩ ?_ ?_ ?_
      · rw [Nat.sub_zero, List.drop_length]
        exact PtsAt.nil _ _
      · rcases z with z | ⟨t, ht, _⟩
        · exact z
        · rw [Nat.sub_zero, List.drop_length] at ht
          cases ht
      · rintro i σ H3 ⟨_, _, _, _, _, _, _, sm3, _⟩
        exact SqT.of (sm3 _ _ hcv.top)
      · rintro i x σ H3 hil hx ⟨x4, x5, x6, kvs, S, rs, rfl, sm3, hd3, kl3, km3, hL3, rs3, lt3⟩
        rw [List.length_map, hcv.ts.1] at hx
        obtain ⟨q', t, rfl, ht, c', hq', hc'⟩ := (hcv.ts.mono (TbAt.mono fun b xs e => sm3 _ _ e)).at_ hx
        have hi : i < cv.length := by
          rw [List.length_map, hcv.ts.1] at hil
          exact hil
        have htm := List.mem_of_getElem? ht
        have hS := lt3.here cok hi ht
        have hck := (cok.cut t htm).2
        have ds := drop_step hi ht
        refine ⟨q', _, rfl, SqT.of hq', rfl, _, _, rfl, _, _, rfl, rfl, ?_⟩
        refine ⟨_, rfl, _, rfl, d, _, rfl, DGet.k (k := nK t.1) hd3, _, rfl, ite2 (fun hin => ?_) (fun hin => ?_)⟩
        · have hn : Need n cv t.1 := hS.mp ((km3 t.1).mp hin)
          refine ⟨_, rfl, .inl ⟨rfl, _, SqL.of hL3⟩, _, rfl, _, rfl, small 2, fun p4 np4 => ?_⟩
          have s4 := Same.new (o := .tup [nV t.1, .ref c']) np4
          have hL4 := s4 _ _ hL3
          have rl : rs.length ≤ 24 := by
            rw [rs3.1, List.length_reverse]
            exact Nat.le_trans (List.length_filter_le _ _) (by rw [List.length_drop]; omega)
          refine ⟨L, _, _, rfl, rfl, hL4, by rw [List.length_map]; exact small256 (by omega), ?_⟩
          have tp := tupPut (ys := rs.map V.ref ++ [.ref p4]) hL4
          have hc5 := tp _ _ (s4 _ _ hc')
          have sm5 : ∀ b u, H b = some u → upd (upd H3 p4 (.tup [nV t.1, .ref c'])) L (.lst (rs.map V.ref ++ [.ref p4])) b = some u := fun b u e => by
            rw [upd_ne (ne_of_none e L0)]
            exact s4 _ _ (sm3 b u e)
          have hd5 : upd (upd H3 p4 (.tup [nV t.1, .ref c'])) L (.lst (rs.map V.ref ++ [.ref p4])) d = some (.dK kvs) := by rw [upd_ne dL]; exact s4 _ _ hd3
          have hL5 : upd (upd H3 p4 (.tup [nV t.1, .ref c'])) L (.lst (rs.map V.ref ++ [.ref p4])) L = some (.lst ((rs ++ [p4]).map V.ref)) := by rw [upd_same, List.map_append]; rfl
          have rs5 : PtsAt TbAt (upd (upd H3 p4 (.tup [nV t.1, .ref c'])) L (.lst (rs.map V.ref ++ [.ref p4]))) (rs ++ [p4]) ((cv.drop (cv.length - (i + 1))).filter fun t => needB n cv t.1).reverse := by
            rw [ds, List.filter_cons, if_pos (needB_iff.mpr hn), List.reverse_cons]
            exact PtsAt.push (rs3.mono (TbAt.mono fun b xs e => tp _ _ (s4 _ _ e))) ⟨c', tp _ _ upd_same, hc5⟩
          generalize upd (upd H3 p4 (.tup [nV t.1, .ref c'])) L (.lst (rs.map V.ref ++ [.ref p4])) = H5 at hc5 sm5 hd5 hL5 rs5 ⊢
          refine ⟨_, rfl, c', rfl, ⟨_, SqT.of hc5⟩, ?_⟩
          refine for_tup (K := K) (a := c') (xs := t.2.map nV) (fun j σ H' => ∃ (x6 : Option V) (kvs' : List (L2.Key × V)), σ = [some (.ref a), some (.ref ca), some (.ref d), none, some (.ref L), some (nV t.1), some (.ref c'), x6] ∧ (∀ b u, H b = some u → H' b = some u) ∧ H' c' = some (.tup (t.2.map nV)) ∧ H' L = some (.lst ((rs ++ [p4]).map V.ref)) ∧ PtsAt TbAt H' (rs ++ [p4]) ((cv.drop (cv.length - (i + 1))).filter fun t => needB n cv t.1).reverse ∧ H' d = some (.dK kvs') ∧ kvs'.length ≤ kvs.length + j ∧ ∀ x : Nat, (valV kvs' (nK x)).isSome = true ↔ (S x ∨ x ∈ t.2.take j)) ⟨x6, kvs, rfl, sm5, hc5, hL5, rs5, hd5, Nat.le_refl _, fun x => by rw [km3]; exact ⟨fun z => .inl z, fun z => by rcases z with z | z; exact z; cases z⟩⟩ ?_ ?_ ?_
          · rintro j σ H6 _ ⟨_, _, _, _, h, _⟩
            exact SqT.of h
          · rintro j x σ H6 hx ⟨x6, kvs', rfl, sm6, hc6, hL6, rs6, hd6, kl6, km6⟩
            have hj : j < t.2.length := by
              have := (List.getElem?_eq_some_iff.mp hx).1
              rwa [List.length_map] at this
            rw [natAt hj] at hx
            cases hx
            refine ⟨_, rfl, _, rfl, d, _, rfl, DPut.k (k := nK (t.2.getD j 0)) hd6 (small256 (by omega)), ?_⟩
            refine ⟨_, _, rfl, fun b u e => ?_, tupPutD hd6 _ _ hc6, by rw [upd_ne (Ne.symm dL)]; exact hL6, rs6.mono (TbAt.mono (tupPutD hd6)), upd_same, by have := length_putK kvs' (nK (t.2.getD j 0)) (.bl true); omega, fun x => ?_⟩
            · rw [upd_ne (ne_of_none e nd)]
              exact sm6 b u e
            · rw [put_isSome, km6, List.take_add_one, List.mem_append, List.getElem?_eq_getElem hj, Option.toList_some, List.mem_singleton, List.getD_eq_getElem?_getD, List.getElem?_eq_getElem hj]
              show (x = t.2[j] ∨ S x ∨ x ∈ t.2.take j) ↔ (S x ∨ x ∈ t.2.take j ∨ x = t.2[j])
              constructor
              · rintro (h | h | h)
                · exact .inr (.inr h)
                · exact .inl h
                · exact .inr (.inl h)
              · rintro (h | h | h)
                · exact .inr (.inl h)
                · exact .inr (.inr h)
                · exact .inl h
          · rintro σ H6 ⟨x6, kvs', rfl, sm6, hc6, hL6, rs6, hd6, kl6, km6⟩
            rw [List.length_map] at kl6 km6
            rw [List.take_length] at km6
            refine ⟨_, _, _, kvs', fun x => S x ∨ x ∈ t.2, rs ++ [p4], rfl, sm6, hd6, by omega, km6, hL6, rs6, ⟨fun x => ?_⟩⟩
            rw [ds]
            show (S x ∨ x ∈ t.2) ↔ _
            rw [lt3.ask]
            constructor
            · rintro ((h | ⟨u, hu, h1, h2⟩) | h)
              · exact .inl h
              · exact .inr ⟨u, List.mem_cons_of_mem _ hu, h1, h2⟩
              · exact .inr ⟨t, List.mem_cons_self, hn, h⟩
            · rintro (h | ⟨u, hu, h1, h2⟩)
              · exact .inl (.inl h)
              · rcases List.mem_cons.mp hu with rfl | hu
                · exact .inr h2
                · exact .inl (.inr ⟨u, hu, h1, h2⟩)
        · have hn : ¬ Need n cv t.1 := fun z => hin ((km3 t.1).mpr (hS.mpr z))
          refine ⟨_, _, _, kvs, S, rs, rfl, sm3, hd3, by omega, km3, hL3, ?_, ⟨fun x => ?_⟩⟩
          · rw [ds, List.filter_cons, if_neg (fun z => hn (needB_iff.mp z))]
            exact rs3
          · rw [lt3.ask, ds]
            constructor
            · rintro (h | ⟨u, hu, h1, h2⟩)
              · exact .inl h
              · exact .inr ⟨u, List.mem_cons_of_mem _ hu, h1, h2⟩
            · rintro (h | ⟨u, hu, h1, h2⟩)
              · exact .inl h
              · rcases List.mem_cons.mp hu with rfl | hu
                · exact absurd h1 hn
                · exact .inr ⟨u, hu, h1, h2⟩
      · rintro σ H3 ⟨x4, x5, x6, kvs, S, rs, rfl, sm3, hd3, kl3, km3, hL3, rs3, lt3⟩
        rw [List.length_map, hcv.ts.1, Nat.sub_self, List.drop_zero] at rs3
        refine ⟨_, rfl, L, _, rfl, SqL.of hL3, fun p4 np4 => ?_⟩
        have s4 := Same.new (o := .lst (rs.map V.ref).reverse) np4
        refine ⟨p4, _, rfl, .inl ⟨SqL.of upd_same, fun p5 np5 => ?_⟩⟩
        have s5 := Same.new (o := .tup (rs.map V.ref).reverse) np5
        have s45 := s4.trans s5
        refine q p5 rs.reverse _ (fun b u e => s45 _ _ (sm3 b u e)) ⟨by rw [upd_same, List.map_reverse], ?_⟩
        have := rs3.mono (TbAt.mono fun b xs e => s45 _ _ e)
        refine ⟨by rw [List.length_reverse, this.1, List.length_reverse]; rfl, fun i p x e1 e2 => ?_⟩
        have hi : i < rs.length := by
          have := (List.getElem?_eq_some_iff.mp e1).1
          rwa [List.length_reverse] at this
        rw [List.getElem?_reverse hi] at e1
        refine this.2 (rs.length - 1 - i) p x e1 ?_
        have hll : rs.length = (leanOf n cv).length := by rw [this.1, List.length_reverse]; rfl
        rw [List.getElem?_reverse (by show _ < (leanOf n cv).length; omega)]
        show (leanOf n cv)[(leanOf n cv).length - 1 - (rs.length - 1 - i)]? = _
        rw [show (leanOf n cv).length - 1 - (rs.length - 1 - i) = i by omega]
        exact e2
end
section
variable {P : Program} {w : World} {K : PySem.W.Frag} {mg : Str → Option Value} {base : Heap} {Ts : List Addr}
/-- the choices of all gates -/
structure ChoicesOf (n : Net) (k : Nat) (ds : List Nat) (cv : List Tb) : Prop where
  len : cv.length = n.gates.length
  at_ : ∀ (i : Nat) (t : Tb), cv[i]? = some t → t.1 = n.many + i ∧ IsChoice n k ds (n.many + i) t.2
theorem ChoicesOf.mem {n : Net} {k : Nat} {ds : List Nat} {cv : List Tb} (h : ChoicesOf n k ds cv) {t : Tb} (ht : t ∈ cv) : n.many ≤ t.1 ∧ t.1 < n.many + n.gates.length ∧ IsChoice n k ds t.1 t.2 := by
  obtain ⟨i, hi⟩ := List.getElem?_of_mem ht
  have hl := (List.getElem?_eq_some_iff.mp hi).1
  have hl2 := h.len
  obtain ⟨e, c⟩ := h.at_ i t hi
  rw [e]
  exact ⟨by omega, by omega, c⟩
theorem ChoicesOf.get {n : Net} {k : Nat} {ds : List Nat} {cv : List Tb} (h : ChoicesOf n k ds cv) {x : Nat} (h1 : n.many ≤ x) (h2 : x < n.many + n.gates.length) : ∃ t ∈ cv, t.1 = x := by
  have hl2 := h.len
  have hi : x - n.many < cv.length := by omega
  refine ⟨cv[x - n.many], List.getElem_mem hi, ?_⟩
  have := (h.at_ (x - n.many) _ (List.getElem?_eq_getElem hi)).1
  omega
theorem ChoicesOf.ok {n : Net} (ok : n.Ok) {k : Nat} {ds : List Nat} {cv : List Tb} (h : ChoicesOf n k ds cv) : CovOk n k cv := by
  refine ⟨?_, fun t ht => ⟨(h.mem ht).1, (h.mem ht).2.1⟩, fun t ht => ?_, fun o ho hm => h.get hm (ok.os o ho), fun t ht x hx hm => ?_⟩
  · rw [List.pairwise_iff_getElem]
    intro i j hi hj hij
    have e1 := (h.at_ i _ (List.getElem?_eq_getElem hi)).1
    have e2 := (h.at_ j _ (List.getElem?_eq_getElem hj)).1
    omega
  · obtain ⟨h1, h2, c⟩ := h.mem ht
    refine ⟨⟨Nat.pos_of_ne_zero fun z => ?_, c.lc.lt, c.lc.sep, c.lc.rise⟩, c.lc.len⟩
    have hs := c.lc.sep
    rw [List.length_eq_zero_iff.mp z] at hs
    exact sep_none ok _ _ (Nat.le_refl _) (by omega) hs
  · obtain ⟨h1, h2, c⟩ := h.mem ht
    have := c.lc.lt x hx
    exact h.get hm (by omega)
theorem ChoicesOf.uniq {n : Net} {k : Nat} {ds : List Nat} {cv cv' : List Tb} (h : ChoicesOf n k ds cv) (h' : ChoicesOf n k ds cv') : cv = cv' := by
  refine List.ext_getElem (by rw [h.len, h'.len]) fun i h1 h2 => ?_
  obtain ⟨a1, a2⟩ := h.at_ i _ (List.getElem?_eq_getElem h1)
  obtain ⟨b1, b2⟩ := h'.at_ i _ (List.getElem?_eq_getElem h2)
  exact Prod.ext (by rw [a1, b1]) (a2.uniq b2)
def spAllCh (Ts : List Addr) (PL : Addr) : Sp := fun vs H Q _ => ∃ (a p : Addr) (n : Net) (g o : Addr) (ps qs : List Addr) (k : Nat), vs = [.ref a, .ref p] ∧ NetAt H a n g o ps ∧ n.Ok ∧ 2 ≤ k ∧ k ≤ 1000 ∧ H p = some (.tup (qs.map V.ref)) ∧ PtsAt (CutsTold n k) H qs (List.range (n.many + n.gates.length)) ∧ Tabs Ts H ∧ LamX.TabS H PL lamQ ∧
  ∀ r H' rs cv ds, CovAt H' r cv rs → ds.length = n.many + n.gates.length → DepsTo n k ds → ChoicesOf n k ds cv → AftL Ts PL lamQ H H' → Q (.ref r) H'
theorem ok_allch {f c PL PA : Addr} (D : Dfn K mg "all_choices" s_all_choices f c) (T : Txt mg) (c_depths_by : Cal P w K mg base 2 "depths_by" spDepthsBy []) (c_chosen : Cal P w K mg base 3 "chosen" (spChosen PL) []) (TB_all_choices : GxR.TabB base mg c PA) (hP : PA ∈ Ts) (hPL : PL ∉ Ts) : Cal P w K mg base 5 "all_choices" (spAllCh Ts PL) [] := by
  refine cal D (fun _ _ _ _ _ _ us hl => match us, hl with | [_, _], _ => rfl) sc_all_choices (fun vs H Q E h => ?_) (fun A outer s H vs Q E hr h => ?_)
  · obtain ⟨a, p, n, g, o, ps, qs, k, rfl, _⟩ := h
    rfl
  · obtain ⟨a, p, n, g, o, ps, qs, k, rfl, N, ok, hk2, hk, hp, PQ, tb, tl, q⟩ := h
    refine ⟨_, (pss_cons (ps_set (i := 2) sc_all_choices.nd rfl (by first | exact Or.inl rfl | exact Or.inr rfl) (pe_c c_depths_by hr (by decide) (by rfl) (pa_cons (pv 0) (pa_cons (pv 1) pa_nil))))
      (pss_one (ps_ret (pe_tupG (own := [("gate", 3)]) hr (by rfl) T.b_tuple TB_all_choices rfl (gxOk_by (N := ["net", "cuts", "told", "gate"]) (sc := defScope s_all_choices) (own := [("gate", 3)]) (by decide +kernel)) sc_all_choices.nd (pi_range2 (by rfl) T.b_range (pa_cons (pe_ix ix_tup (pv 0) pe_int (fun _ _ => rfl)) (pa_cons (pe_callB call_len_seq (by rfl) T.b_len (by decide +kernel) (pa_cons (pv 1) pa_nil)) pa_nil))) (fun _ _ _ _ => (pg_name (i := 3) sc_all_choices.nd rfl (by first | exact Or.inl rfl | exact Or.inr rfl))) (fun _ _ _ _ => pts_nil) (fun _ _ _ _ => (pe_tup (pa_cons (pv 3) (pa_cons (pe_c c_chosen (GX.Room.gx4 hr) (by decide) (by rfl) (pa_cons (pe_ix (ix_tupK (K := K)) (pv 1) (pv 3) (fun _ _ => rfl)) (pa_cons (pv 2) pa_nil))) pa_nil)))))))), ?_⟩
    have m8 := ok.m8
    have g16 := ok.g16
    have ql : qs.length = n.many + n.gates.length := by rw [PQ.1, List.length_range]
    refine ⟨_, rfl, _, rfl, a, p, n, g, o, ps, qs, k, rfl, N, ok, hk2, hk, hp, PQ, fun dr H1 ds s1 hds dl dt => ?_⟩
    have N1 := N.same s1
    have hp1 := s1 _ _ hp
    have PQ1 := PQ.mono fun q x h => h.mono fun b xs e => s1 b _ e
    have tb1 := tb.same s1
    have tl1 : LamX.TabS H1 PL lamQ := tl.ext fun b o e => s1 b o e
    refine ⟨_, rfl, a, _, 0, _, rfl, rfl, SqT.of N1.top, at0, _, rfl, p, _, rfl, .inr (SqT.of hp1), _, _, rfl, ⟨by omega, by omega, by omega, by rw [List.length_map]; omega⟩, tb1 PA hP, fun H2 ht => ?_⟩
    have a2 : Aft Ts H1 H2 := ⟨Keep.tabbed hP ht, tb1.tabbed ht⟩
    have b2 := AftL.of a2 tb1 tl1 hPL
    refine turns_it (walk_range (lo := ((n.many : Nat) : Int)) (n := ((((qs.map V.ref).length : Nat) : Int) - ((n.many : Nat) : Int)).toNat)) (fun i ys H' => ∃ (rs : List Addr) (cv : List Tb), ys = rs.map V.ref ∧ PtsAt TbAt H' rs cv ∧ cv.length = i ∧ (∀ (i : Nat) (t : Tb), cv[i]? = some t → t.1 = n.many + i ∧ IsChoice n k ds (n.many + i) t.2) ∧ AftL Ts PL lamQ H1 H') ⟨[], [], rfl, PtsAt.nil _ _, rfl, fun i t e => (by simp at e), b2⟩ (fun i ys H' _ _ => trivial) ?_ ?_
    · rintro i x ys H3 H4 hi ⟨rs, cv, rfl, PT, cl, ch, b3⟩ ⟨rfl, rfl⟩
      rw [List.length_map, ql, show (((n.many + n.gates.length : Nat) : Int) - ((n.many : Nat) : Int)).toNat = n.gates.length by omega] at hi
      have ei : V.int (((n.many : Nat) : Int) + ((i : Nat) : Int)) = nV (n.many + i) := congrArg V.int (by omega)
      show gName 3 (V.int (((n.many : Nat) : Int) + ((i : Nat) : Int))) _ _ _
      rw [ei]
      refine ⟨rfl, ?_⟩
      unfold tYes
      refine iteT ?_
      have hgi : n.many + i < n.many + n.gates.length := by omega
      have N3 : NetAt H4 a n g o ps := N1.mono fun b xs e => b3.tup tb1 tl1 e
      have hp3 := b3.tup tb1 tl1 hp1
      have hds3 := b3.tup tb1 tl1 hds
      obtain ⟨qg, eq, hq⟩ := (PQ1.mono fun q x h => CutsTold.mono h fun b xs e => b3.tup tb1 tl1 e).get (i := n.many + i) (y := n.many + i) (by rw [List.getElem?_range (by omega)])
      obtain ⟨rq, cs, h1, h2, ca, _⟩ := hq
      obtain ⟨cne, cok⟩ := cuts_ok ok hk2 (Nat.le_add_right _ _) hgi ca
      refine ⟨_, rfl, _, rfl, _, rfl, p, _, _, _, rfl, rfl, SqT.of hp3, atI_nat eq, _, rfl, qg, dr, rq, cs, ds, rfl, h1, h2, cne, hds3, fun c hc => ?_, b3.tl, fun tq c H5 htq best k5 t5 => ?_⟩
      · obtain ⟨x1, x2, x3⟩ := cok c hc
        exact ⟨x1, by omega, fun x hx => by have := x3 x hx; omega⟩
      have b5 := b3.trans (AftL.lam (fun b o nb e => k5 b o e fun z => nb (List.mem_singleton.mp z)) b3.tb t5 hPL)
      have PT5 := PT.mono (TbAt.mono fun b xs e => k5 b _ e fun z => by
        rw [List.mem_singleton.mp z] at e
        obtain ⟨ps', h, _⟩ := b3.tl
        rw [h] at e
        cases e)
      refine ⟨small 2, fun tp ntp => ?_⟩
      have s6 := Same.new (o := .tup [nV (n.many + i), .ref tq]) ntp
      refine ⟨?_, fun _ => ⟨rs ++ [tp], cv ++ [(n.many + i, c)], by rw [List.map_append]; rfl, PtsAt.push (PT5.mono (TbAt.mono fun b xs e => s6 _ _ e)) ⟨tq, upd_same, s6 _ _ htq⟩, by rw [List.length_append, cl]; rfl, fun j t e => ?_, b5.trans (AftL.same s6 b5.tb b5.tl)⟩⟩
      · show (List.map V.ref rs).length < sizeLine
        rw [List.length_map, PT.1, cl]
        exact small256 (by omega)
      · by_cases hj : j < cv.length
        · rw [List.getElem?_append_left hj] at e
          exact ch j t e
        · have : j = i := by
            have := (List.getElem?_eq_some_iff.mp e).1
            rw [List.length_append] at this
            have : j < cv.length + 1 := this
            omega
          subst this
          rw [List.getElem?_append_right (by omega), cl, Nat.sub_self] at e
          cases e
          exact ⟨rfl, (ca.mem c).mp best.mem, fun c' lc => best.low c' ((ca.mem c').mpr lc)⟩
    · rintro ys H3 ⟨rs, cv, rfl, PT, cl, ch, b3⟩
      rw [List.length_map, ql, show (((n.many + n.gates.length : Nat) : Int) - ((n.many : Nat) : Int)).toNat = n.gates.length by omega] at cl
      refine ⟨by rw [List.length_map, PT.1, cl]; exact small _ (by omega), fun tp ntp => ?_⟩
      have s6 := Same.new (o := .tup (rs.map V.ref)) ntp
      exact q tp _ rs cv ds ⟨upd_same, PT.mono (TbAt.mono fun b xs e => s6 _ _ e)⟩ dl dt ⟨cl, ch⟩ ((AftL.same s1 tb tl).trans (b3.trans (AftL.same s6 b3.tb b3.tl)))
end
end K57
set_option Elab.async false
set_option linter.all false
set_option maxRecDepth 100000
set_option maxHeartbeats 4000000
/-! A cover eased, turn by turn: what it is. -/
namespace GX
open PySem PySem.Spec PyProof.Rows L2
/-- every gate's table, by a function of the gates -/
def fullC (n : Net) (v : Nat → List Nat) : List Tb := (List.range n.gates.length).map fun i => (n.many + i, v (n.many + i))
def VOk (n : Net) (k : Nat) (v : Nat → List Nat) : Prop := ∀ x, n.many ≤ x → x < n.many + n.gates.length → CutOk n x (v x) ∧ (v x).length ≤ k
theorem full_mem {n : Net} {v : Nat → List Nat} {t : Tb} : t ∈ fullC n v ↔ n.many ≤ t.1 ∧ t.1 < n.many + n.gates.length ∧ t.2 = v t.1 := by
  unfold fullC
  rw [List.mem_map]
  constructor
  · rintro ⟨i, hi, rfl⟩
    have := List.mem_range.mp hi
    exact ⟨Nat.le_add_right _ _, Nat.add_lt_add_left this _, rfl⟩
  · rintro ⟨h1, h2, h3⟩
    refine ⟨t.1 - n.many, List.mem_range.mpr (by omega), ?_⟩
    rw [show n.many + (t.1 - n.many) = t.1 by omega, ← h3]
theorem full_len {n : Net} {v : Nat → List Nat} : (fullC n v).length = n.gates.length := by
  unfold fullC
  rw [List.length_map, List.length_range]
theorem full_rise {n : Net} {v : Nat → List Nat} : (fullC n v).Pairwise fun a b => a.1 < b.1 := by
  unfold fullC
  rw [List.pairwise_map]
  exact List.pairwise_lt_range.imp fun h => Nat.add_lt_add_left h _
theorem full_ok {n : Net} (ok : n.Ok) {k : Nat} {v : Nat → List Nat} (h : VOk n k v) : CovOk n k (fullC n v) := by
  refine ⟨full_rise, fun t ht => ?_, fun t ht => ?_, fun o ho hm => ?_, fun t ht x hx hm => ?_⟩
  · exact ⟨(full_mem.mp ht).1, (full_mem.mp ht).2.1⟩
  · obtain ⟨h1, h2, h3⟩ := full_mem.mp ht
    rw [h3]
    exact h _ h1 h2
  · exact ⟨(o, v o), full_mem.mpr ⟨hm, ok.os o ho, rfl⟩, rfl⟩
  · obtain ⟨h1, h2, h3⟩ := full_mem.mp ht
    rw [h3] at hx
    exact ⟨(x, v x), full_mem.mpr ⟨hm, by have := (h _ h1 h2).1.lt x hx; show x < _; omega, rfl⟩, rfl⟩
/-- what is laid, by a function -/
noncomputable def leanV (n : Net) (v : Nat → List Nat) : List Tb := leanOf n (fullC n v)
theorem leanV_ok {n : Net} (ok : n.Ok) {k : Nat} {v : Nat → List Nat} (h : VOk n k v) : CovOk n k (leanV n v) := lean_ok (full_ok ok h)
/-- the cut that a cover has of a gate -/
def lookC (cv : List Tb) (x : Nat) : Option (List Nat) := (cv.find? fun t => t.1 == x).map fun t => t.2
theorem look_mem {cv : List Tb} (r : cv.Pairwise fun a b => a.1 < b.1) {t : Tb} (ht : t ∈ cv) : lookC cv t.1 = some t.2 := by
  unfold lookC
  cases h : cv.find? fun u => u.1 == t.1 with
  | none => exact absurd (List.find?_eq_none.mp h t ht) (by simp)
  | some u =>
    have e : u.1 = t.1 := by have := List.find?_some h; simpa using this
    rw [rise_uniq r (List.mem_of_find?_eq_some h) ht e]
    rfl
theorem look_some {cv : List Tb} {x : Nat} {c : List Nat} (h : lookC cv x = some c) : (x, c) ∈ cv := by
  unfold lookC at h
  cases e : cv.find? fun u => u.1 == x with
  | none => rw [e] at h; cases h
  | some u =>
    rw [e] at h
    have e2 : u.2 = c := Option.some.inj h
    have e1 : u.1 = x := by have := List.find?_some e; simpa using this
    have := List.mem_of_find?_eq_some e
    rw [← e1, ← e2]
    exact this
/-- a cover's value with choices below it, and one turn -/
def coverV (ch : Nat → List Nat) (cv : List Tb) : Nat → List Nat := fun x => (lookC cv x).getD (ch x)
def turnV (ch : Nat → List Nat) (cv : List Tb) (t : Tb) : Nat → List Nat := fun x => if x = t.1 then t.2 else coverV ch cv x
theorem coverV_ok {n : Net} {k : Nat} {ch : Nat → List Nat} {cv : List Tb} (h : VOk n k ch) (c : CovOk n k cv) : VOk n k (coverV ch cv) := fun x h1 h2 => by
  unfold coverV
  cases e : lookC cv x with
  | none => exact h x h1 h2
  | some d => exact c.cut _ (look_some e)
theorem turnV_ok {n : Net} {k : Nat} {ch : Nat → List Nat} {cv : List Tb} {t : Tb} (h : VOk n k ch) (c : CovOk n k cv) (ht : CutOk n t.1 t.2 ∧ t.2.length ≤ k) : VOk n k (turnV ch cv t) := fun x h1 h2 => by
  unfold turnV
  by_cases e : x = t.1
  · rw [if_pos e, e]
    exact ht
  · rw [if_neg e]
    exact coverV_ok h c x h1 h2
/-- the turns that a cover has, in order -/
def turnsOf (cs : Nat → List (List Nat)) (cv : List Tb) : List Tb := cv.flatMap fun t => ((cs t.1).filter fun c => decide (c ≠ t.2)).map fun c => (t.1, c)
theorem turns_mem {cs : Nat → List (List Nat)} {cv : List Tb} {u : Tb} (h : u ∈ turnsOf cs cv) : (∃ t ∈ cv, t.1 = u.1 ∧ u.2 ≠ t.2) ∧ u.2 ∈ cs u.1 := by
  unfold turnsOf at h
  obtain ⟨t, ht, h⟩ := List.mem_flatMap.mp h
  obtain ⟨c, hc, rfl⟩ := List.mem_map.mp h
  obtain ⟨h1, h2⟩ := List.mem_filter.mp hc
  exact ⟨⟨t, ht, rfl, of_decide_eq_true h2⟩, h1⟩
def depC (n : Net) (cv : List Tb) : Nat := maxL (n.outs.map (dMap cv))
noncomputable def goodT (n : Net) (ch : Nat → List Nat) (d : Int) (cv : List Tb) (t : Tb) : Bool := decide ((leanV n (turnV ch cv t)).length < cv.length) && decide (((depC n (leanV n (turnV ch cv t)) : Nat) : Int) ≤ d)
noncomputable def fstG (n : Net) (cs : Nat → List (List Nat)) (ch : Nat → List Nat) (d : Int) (cv : List Tb) : Option Tb := (turnsOf cs cv).find? (goodT n ch d cv)
inductive Easd (n : Net) (cs : Nat → List (List Nat)) (ch : Nat → List Nat) (d : Int) : List Tb → List Tb → List Tb → Prop
  | stop {cv : List Tb} : fstG n cs ch d cv = none → Easd n cs ch d cv cv []
  | go {cv r ts : List Tb} {t : Tb} : fstG n cs ch d cv = some t → Easd n cs ch d (leanV n (turnV ch cv t)) r ts → Easd n cs ch d cv r (t :: ts)
theorem Easd.uniq {n : Net} {cs : Nat → List (List Nat)} {ch : Nat → List Nat} {d : Int} {cv r ts r' ts' : List Tb} (h : Easd n cs ch d cv r ts) (h' : Easd n cs ch d cv r' ts') : r = r' ∧ ts = ts' := by
  induction h generalizing r' ts' with
  | stop e =>
    cases h' with
    | stop _ => exact ⟨rfl, rfl⟩
    | go e' _ => rw [e] at e'; cases e'
  | go e _ ih =>
    cases h' with
    | stop e' => rw [e] at e'; cases e'
    | go e' h' =>
      rw [e] at e'
      cases e'
      obtain ⟨h1, h2⟩ := ih h'
      rw [h1, h2]
      exact ⟨rfl, rfl⟩
theorem Easd.last {n : Net} {cs : Nat → List (List Nat)} {ch : Nat → List Nat} {d : Int} {cv r ts : List Tb} (h : Easd n cs ch d cv r ts) : Easd n cs ch d r r [] := by
  induction h with
  | stop e => exact .stop e
  | go _ _ ih => exact ih
theorem fst_mem {n : Net} {cs : Nat → List (List Nat)} {ch : Nat → List Nat} {d : Int} {cv : List Tb} {t : Tb} (h : fstG n cs ch d cv = some t) : t ∈ turnsOf cs cv ∧ (leanV n (turnV ch cv t)).length < cv.length := by
  refine ⟨List.mem_of_find?_eq_some h, ?_⟩
  have := List.find?_some h
  unfold goodT at this
  rw [Bool.and_eq_true] at this
  exact of_decide_eq_true this.1
/-- the lean cover of a cover laid among choices -/
theorem Easd.grow {n : Net} {cs : Nat → List (List Nat)} {ch : Nat → List Nat} {d : Int} {cv0 cv ts : List Tb} {t : Tb} (h : ∀ r us, Easd n cs ch d cv r us → Easd n cs ch d cv0 r (ts ++ us)) (e : fstG n cs ch d cv = some t) : ∀ r us, Easd n cs ch d (leanV n (turnV ch cv t)) r us → Easd n cs ch d cv0 r (ts ++ [t] ++ us) := fun r us z => by
  rw [List.append_assoc]
  exact h r _ (.go e z)
end GX
set_option Elab.async false
set_option linter.all false
set_option maxRecDepth 100000
set_option maxHeartbeats 4000000
/-! Tables: gates and what stands for their cuts, as dicts. -/
namespace GX
open PySem PySem.Spec PyProof.Rows L2
abbrev Zd := List (Nat × Addr)
def kvY (ns : Zd) : List (L2.Key × V) := ns.map fun e => (nK e.1, V.ref e.2)
def zdGet : Zd → Nat → Option Addr
  | [], _ => none
  | e :: r, w => if e.1 = w then some e.2 else zdGet r w
def zdPut : Zd → Nat → Addr → Zd
  | [], w, d => [(w, d)]
  | e :: r, w, d => if e.1 = w then (e.1, d) :: r else e :: zdPut r w d
def ZdOk (ns : Zd) : Prop := (ns.map (·.1)).Nodup
theorem kvY_len (ns : Zd) : (kvY ns).length = ns.length := List.length_map _
theorem kvY_val : ∀ (ns : Zd) (w : Nat), valV (kvY ns) (nK w) = (zdGet ns w).map V.ref
  | [], _ => rfl
  | e :: r, w => by
    unfold zdGet
    by_cases h : e.1 = w
    · rw [if_pos h]
      exact valV_pos (p := (nK e.1, V.ref e.2)) (r := kvY r) (by rw [h])
    · rw [if_neg h, ← kvY_val r w]
      exact valV_neg (p := (nK e.1, V.ref e.2)) (r := kvY r) fun z => h (nK_inj z)
theorem zdPut_keys : ∀ (ns : Zd) (w : Nat) (d : Addr), (zdPut ns w d).map (·.1) = if w ∈ ns.map (·.1) then ns.map (·.1) else ns.map (·.1) ++ [w]
  | [], w, d => by rw [if_neg (by simp)]; rfl
  | e :: r, w, d => by
    unfold zdPut
    by_cases h : e.1 = w
    · rw [if_pos h, if_pos (by rw [← h]; exact List.mem_cons_self)]
      rfl
    · rw [if_neg h]
      show e.1 :: (zdPut r w d).map (·.1) = _
      rw [zdPut_keys r w d]
      show _ = if w ∈ e.1 :: r.map (·.1) then e.1 :: r.map (·.1) else e.1 :: r.map (·.1) ++ [w]
      by_cases h2 : w ∈ r.map (·.1)
      · rw [if_pos h2, if_pos (List.mem_cons_of_mem _ h2)]
      · rw [if_neg h2, if_neg fun z => by
          rcases List.mem_cons.mp z with z | z
          · exact h z.symm
          · exact h2 z]
        rfl
theorem ZdOk.put {ns : Zd} (h : ZdOk ns) (w : Nat) (d : Addr) : ZdOk (zdPut ns w d) := by
  unfold ZdOk
  rw [zdPut_keys]
  split
  · exact h
  · rename_i hw
    refine List.nodup_append.mpr ⟨h, List.nodup_cons.mpr ⟨by simp, List.nodup_nil⟩, fun a ha b hb e => ?_⟩
    rw [List.mem_singleton.mp hb] at e
    exact hw (e ▸ ha)
theorem zdGet_put : ∀ (ns : Zd) (w : Nat) (d : Addr) (x : Nat), zdGet (zdPut ns w d) x = if x = w then some d else zdGet ns x
  | [], w, d, x => by
    unfold zdPut
    show (if w = x then some d else none) = _
    by_cases h : x = w
    · rw [if_pos h, if_pos h.symm]
    · rw [if_neg h, if_neg fun z => h z.symm]
      rfl
  | e :: r, w, d, x => by
    unfold zdPut
    by_cases h : e.1 = w
    · rw [if_pos h]
      show (if e.1 = x then some d else zdGet r x) = if x = w then some d else if e.1 = x then some e.2 else zdGet r x
      by_cases hx : x = w
      · rw [if_pos hx, if_pos (h.trans hx.symm)]
      · rw [if_neg hx, if_neg (fun z => hx (z.symm.trans h)), if_neg (fun z => hx (z.symm.trans h))]
    · rw [if_neg h]
      show (if e.1 = x then some e.2 else zdGet (zdPut r w d) x) = if x = w then some d else if e.1 = x then some e.2 else zdGet r x
      rw [zdGet_put r w d x]
      by_cases hx : e.1 = x
      · rw [if_pos hx, if_pos hx, if_neg fun z => h (hx.trans z)]
      · rw [if_neg hx, if_neg hx]
theorem zdGet_none {ns : Zd} {w : Nat} : zdGet ns w = none ↔ w ∉ ns.map (·.1) := by
  induction ns with
  | nil => exact ⟨fun _ z => (by cases z), fun _ => rfl⟩
  | cons e r ih =>
    unfold zdGet
    by_cases h : e.1 = w
    · rw [if_pos h]
      exact ⟨fun z => (by cases z), fun z => absurd (show w ∈ (e :: r).map (·.1) from h ▸ List.mem_cons_self) z⟩
    · rw [if_neg h, ih]
      exact ⟨fun z y => by
        rcases List.mem_cons.mp y with y | y
        · exact h y.symm
        · exact z y, fun z y => z (List.mem_cons_of_mem _ y)⟩
theorem zdGet_mem {ns : Zd} {w : Nat} {d : Addr} (h : zdGet ns w = some d) : w ∈ ns.map (·.1) := Classical.not_not.mp fun z => by
  rw [zdGet_none.mpr z] at h
  cases h
theorem kvY_put {ns : Zd} (ok : ZdOk ns) (w : Nat) (d : Addr) : putK (kvY ns) (nK w) (.ref d) = kvY (zdPut ns w d) := by
  induction ns with
  | nil => rfl
  | cons e r ih =>
    have okr : ZdOk r := (List.nodup_cons.mp ok).2
    have hn : e.1 ∉ r.map (·.1) := (List.nodup_cons.mp ok).1
    have ih := ih okr
    unfold putK at ih ⊢
    unfold zdPut
    by_cases h : e.1 = w
    · rw [if_pos h, if_pos]
      · show (if nK e.1 = nK w then (nK e.1, V.ref d) else (nK e.1, V.ref e.2)) :: _ = (nK e.1, V.ref d) :: kvY r
        rw [if_pos (show nK e.1 = nK w by rw [h])]
        congr 1
        refine (List.map_congr_left fun kv hkv => ?_).trans (List.map_id _)
        rw [if_neg fun z => ?_]
        · rfl
        · obtain ⟨x, hx, rfl⟩ := List.mem_map.mp hkv
          rw [h, ← nK_inj (show nK x.1 = nK w from z)] at hn
          exact hn (List.mem_map.mpr ⟨x, hx, rfl⟩)
      · show (decide (nK e.1 = nK w) || _) = true
        rw [decide_eq_true (by rw [h])]
        rfl
    · rw [if_neg h]
      have hk : ¬ nK e.1 = nK w := fun z => h (nK_inj z)
      have ha : ((kvY (e :: r)).any fun kv => decide (kv.1 = nK w)) = (kvY r).any fun kv => decide (kv.1 = nK w) := by
        show (decide (nK e.1 = nK w) || _) = _
        rw [decide_eq_false hk]
        rfl
      rw [ha]
      show (if _ then (if nK e.1 = nK w then _ else (nK e.1, V.ref e.2)) :: List.map _ (kvY r) else (nK e.1, V.ref e.2) :: kvY r ++ _) = (nK e.1, V.ref e.2) :: kvY (zdPut r w d)
      rw [if_neg hk, ← ih]
      split <;> rfl
/-- merged one by one -/
theorem kvY_merge : ∀ {more ns : Zd}, ZdOk ns → mergeK (kvY ns) (kvY more) = kvY (more.foldl (fun acc e => zdPut acc e.1 e.2) ns)
  | [], _, _ => rfl
  | e :: r, ns, ok => by
    show mergeK (putK (kvY ns) (nK e.1) (V.ref e.2)) (kvY r) = _
    rw [kvY_put ok]
    exact kvY_merge (ok.put _ _)
theorem zdGet_at : ∀ {ns : Zd} {w : Nat} {d : Addr}, zdGet ns w = some d → (w, d) ∈ ns
  | [], _, _, h => by cases h
  | e :: r, w, d, h => by
    unfold zdGet at h
    by_cases g : e.1 = w
    · rw [if_pos g] at h
      rw [← g, ← Option.some.inj h]
      exact List.mem_cons_self
    · rw [if_neg g] at h
      exact List.mem_cons_of_mem _ (zdGet_at h)
theorem ZdOk.get {ns : Zd} (h : ZdOk ns) {z : Nat × Addr} (hz : z ∈ ns) : zdGet ns z.1 = some z.2 := by
  induction ns with
  | nil => cases hz
  | cons e r ih =>
    unfold zdGet
    obtain ⟨h1, h2⟩ := List.nodup_cons.mp h
    rcases List.mem_cons.mp hz with g | g
    · rw [g, if_pos rfl]
    · rw [if_neg fun w => h1 (List.mem_map.mpr ⟨z, g, w.symm⟩)]
      exact ih h2 g
def zdM (ns more : Zd) : Zd := more.foldl (fun acc e => zdPut acc e.1 e.2) ns
theorem zdM_ok : ∀ {more ns : Zd}, ZdOk ns → ZdOk (zdM ns more)
  | [], _, h => h
  | e :: r, ns, h => zdM_ok (more := r) (h.put _ _)
theorem zdM_app {ns a b : Zd} : zdM ns (a ++ b) = zdM (zdM ns a) b := List.foldl_append
theorem zdM_get : ∀ {more ns : Zd}, ZdOk more → ∀ x, zdGet (zdM ns more) x = (zdGet more x).or (zdGet ns x)
  | [], _, _, x => rfl
  | e :: r, ns, h, x => by
    obtain ⟨h1, h2⟩ := List.nodup_cons.mp h
    show zdGet (zdM (zdPut ns e.1 e.2) r) x = _
    rw [zdM_get h2, zdGet_put]
    show _ = Option.or (if e.1 = x then some e.2 else zdGet r x) _
    by_cases g : e.1 = x
    · rw [if_pos g, if_pos g.symm, zdGet_none.mpr (by rw [← g]; exact h1)]
      rfl
    · rw [if_neg g, if_neg fun z => g z.symm]
/-- a dict of gates and their cuts -/
structure TabZ (H : Hp) (d : Addr) (zs : Zd) (v : Nat → List Nat) : Prop where
  at_ : H d = some (.dK (kvY zs))
  ok : ZdOk zs
  cut : ∀ z ∈ zs, H z.2 = some (.tup ((v z.1).map nV))
theorem TabZ.mono {H H' : Hp} {d : Addr} {zs : Zd} {v : Nat → List Nat} (h : TabZ H d zs v) (m : ∀ b xs, H b = some (.tup xs) → H' b = some (.tup xs)) (hd : H' d = some (.dK (kvY zs))) : TabZ H' d zs v := ⟨hd, h.ok, fun z hz => m _ _ (h.cut z hz)⟩
theorem TabZ.same {H H' : Hp} {d : Addr} {zs : Zd} {v : Nat → List Nat} (h : TabZ H d zs v) (s : Same H H') : TabZ H' d zs v := h.mono (fun b xs e => s _ _ e) (s _ _ h.at_)
/-- sorted keys, and the tables that stand there -/
def tabsOf (xs : List Nat) (v : Nat → List Nat) : List Tb := xs.map fun x => (x, v x)
theorem tabs_full {n : Net} {v : Nat → List Nat} {xs : List Nat} (r : xs.Pairwise (· < ·)) (m : ∀ x, x ∈ xs ↔ n.many ≤ x ∧ x < n.many + n.gates.length) : tabsOf xs v = fullC n v := by
  have : xs = (List.range n.gates.length).map fun i => n.many + i := rise_eq r (by rw [List.pairwise_map]; exact List.pairwise_lt_range.imp fun h => Nat.add_lt_add_left h _) fun x => by
    rw [m, List.mem_map]
    constructor
    · rintro ⟨h1, h2⟩
      exact ⟨x - n.many, List.mem_range.mpr (by omega), by omega⟩
    · rintro ⟨i, hi, rfl⟩
      have := List.mem_range.mp hi
      omega
  unfold tabsOf fullC
  rw [this, List.map_map]
  rfl
/-- a rising cover told by its keys and its values -/
theorem tabs_cov {cv : List Tb} (c : cv.Pairwise fun a b => a.1 < b.1) {v : Nat → List Nat} (hv : ∀ t ∈ cv, v t.1 = t.2) {xs : List Nat} (r : xs.Pairwise (· < ·)) (m : ∀ x, x ∈ xs ↔ ∃ t ∈ cv, t.1 = x) : tabsOf xs v = cv := by
  have : xs = cv.map (·.1) := rise_eq r (by rw [List.pairwise_map]; exact c) fun x => by
    rw [m, List.mem_map]
  unfold tabsOf
  rw [this, List.map_map]
  conv => rhs; rw [← List.map_id cv]
  refine List.map_congr_left fun t ht => ?_
  show (t.1, v t.1) = t
  rw [hv t ht]
theorem lean_need {n : Net} (ok : n.Ok) {k : Nat} {v : Nat → List Nat} (h : VOk n k v) {x : Nat} : (∃ t ∈ leanV n v, t.1 = x) ↔ Need n (fullC n v) x := by
  constructor
  · rintro ⟨t, ht, rfl⟩
    exact (leanOf_mem.mp ht).2
  · intro hx
    obtain ⟨t, ht, rfl⟩ := hx.tab (full_ok ok h)
    exact ⟨t, leanOf_mem.mpr ⟨ht, hx⟩, rfl⟩
theorem lean_val {n : Net} {v : Nat → List Nat} {t : Tb} (ht : t ∈ leanV n v) : v t.1 = t.2 := (full_mem.mp (leanOf_mem.mp ht).1).2.2.symm
/-- what a cover's addresses hold, as a dict's entries -/
theorem cov_zs {K : PySem.W.Frag} {H : Hp} : ∀ {qs : List Addr} {cv : List Tb}, PtsAt TbAt H qs cv → ∃ zs : Zd, zs.map (·.1) = cv.map (·.1) ∧ Paired (fun p kv => SqT K H p [kV kv.1, kv.2]) qs (kvY zs) ∧ ∀ z ∈ zs, ∃ t ∈ cv, t.1 = z.1 ∧ H z.2 = some (.tup (t.2.map nV))
  | [], cv, x => by
    have : cv = [] := List.length_eq_zero_iff.mp x.1.symm
    subst this
    exact ⟨[], rfl, .nil, fun q hq => by (cases hq)⟩
  | q :: qs, [], x => by cases x.1
  | q :: qs, t :: cv, x => by
    have x2 : PtsAt TbAt H qs cv := ⟨by have := x.1; simpa using this, fun i p y h1 h2 => x.2 (i + 1) p y h1 h2⟩
    obtain ⟨c, h1, h2⟩ := x.2 0 q t rfl rfl
    obtain ⟨zs, g1, g2, g3⟩ := cov_zs (K := K) x2
    refine ⟨(t.1, c) :: zs, ?_, .cons (SqT.of h1) g2, fun z hz => ?_⟩
    · show t.1 :: zs.map (·.1) = t.1 :: cv.map (·.1)
      rw [g1]
    · rcases List.mem_cons.mp hz with e | e
      · rw [e]
        exact ⟨t, List.mem_cons_self, rfl, h2⟩
      · obtain ⟨u, hu, e1, e2⟩ := g3 z e
        exact ⟨u, List.mem_cons_of_mem _ hu, e1, e2⟩
theorem rise_nodup {cv : List Tb} (c : cv.Pairwise fun a b => a.1 < b.1) : (cv.map (·.1)).Nodup := by
  rw [List.nodup_iff_pairwise_ne, List.pairwise_map]
  exact c.imp fun h => Nat.ne_of_lt h
theorem paired_app {α β : Type} {R : α → β → Prop} : ∀ {xs : List α} {ys : List β} {xs' : List α} {ys' : List β}, Paired R xs ys → Paired R xs' ys' → Paired R (xs ++ xs') (ys ++ ys')
  | _, _, _, _, .nil, h => h
  | _, _, _, _, .cons h t, h' => .cons h (paired_app t h')
theorem kvY_app (a b : Zd) : kvY (a ++ b) = kvY a ++ kvY b := List.map_append
theorem look_zd {cv : List Tb} {zs : Zd} (e : zs.map (·.1) = cv.map (·.1)) (r : cv.Pairwise fun a b => a.1 < b.1) {x : Nat} : (zdGet zs x = none → lookC cv x = none) ∧ ∀ d, zdGet zs x = some d → ∃ c, lookC cv x = some c := by
  refine ⟨fun h => ?_, fun d h => ?_⟩
  · have := zdGet_none.mp h
    rw [e] at this
    cases g : lookC cv x with
    | none => rfl
    | some c => exact absurd (List.mem_map.mpr ⟨_, look_some g, rfl⟩) this
  · have := zdGet_mem h
    rw [e] at this
    obtain ⟨t, ht, rfl⟩ := List.mem_map.mp this
    exact ⟨_, look_mem r ht⟩
/-- choices, a cover and one turn, merged -/
theorem merge_tabs {H : Hp} {n : Net} {ch : Nat → List Nat} {cv : List Tb} {t : Tb} {c : Addr} {za zb : Zd} (r : cv.Pairwise fun a b => a.1 < b.1) (gt : ∀ u ∈ cv, n.many ≤ u.1 ∧ u.1 < n.many + n.gates.length) (t1 : n.many ≤ t.1 ∧ t.1 < n.many + n.gates.length)
    (ea : za.map (·.1) = (fullC n ch).map (·.1)) (fa : ∀ z ∈ za, ∃ u ∈ fullC n ch, u.1 = z.1 ∧ H z.2 = some (.tup (u.2.map nV))) (eb : zb.map (·.1) = cv.map (·.1)) (fb : ∀ z ∈ zb, ∃ u ∈ cv, u.1 = z.1 ∧ H z.2 = some (.tup (u.2.map nV))) (hc : H c = some (.tup (t.2.map nV))) :
    ∃ zs : Zd, mergeK [] (kvY (za ++ (zb ++ [(t.1, c)]))) = kvY zs ∧ ZdOk zs ∧ (∀ z ∈ zs, H z.2 = some (.tup ((turnV ch cv t z.1).map nV))) ∧ ∀ x, x ∈ zs.map (·.1) ↔ n.many ≤ x ∧ x < n.many + n.gates.length := by
  have oa : ZdOk za := by unfold ZdOk; rw [ea]; exact rise_nodup full_rise
  have ob : ZdOk zb := by unfold ZdOk; rw [eb]; exact rise_nodup r
  have oc : ZdOk [(t.1, c)] := List.nodup_cons.mpr ⟨by simp, List.nodup_nil⟩
  have on : ZdOk [] := List.nodup_nil
  have get : ∀ x, zdGet (zdM [] (za ++ (zb ++ [(t.1, c)]))) x = (if t.1 = x then some c else none).or ((zdGet zb x).or ((zdGet za x).or none)) := fun x => by
    rw [zdM_app, zdM_app, zdM_get oc, zdM_get ob, zdM_get oa]
    rfl
  have ok := zdM_ok (more := za ++ (zb ++ [(t.1, c)])) on
  refine ⟨zdM [] (za ++ (zb ++ [(t.1, c)])), kvY_merge (ns := []) on, ok, fun z hz => ?_, fun x => ?_⟩
  · have g := ok.get hz
    rw [get] at g
    unfold turnV coverV
    by_cases e : t.1 = z.1
    · rw [if_pos e] at g
      rw [if_pos e.symm, ← Option.some.inj g]
      exact hc
    · rw [if_neg e] at g
      rw [if_neg fun w => e w.symm]
      cases eb' : zdGet zb z.1 with
      | some d =>
        rw [eb'] at g
        obtain ⟨u, hu, u1, u2⟩ := fb _ (zdGet_at eb')
        rw [show lookC cv z.1 = some u.2 by rw [← u1]; exact look_mem r hu, ← Option.some.inj g]
        exact u2
      | none =>
        rw [eb'] at g
        rw [(look_zd eb r).1 eb']
        cases ea' : zdGet za z.1 with
        | none => rw [ea'] at g; cases g
        | some d =>
          rw [ea'] at g
          obtain ⟨u, hu, u1, u2⟩ := fa _ (zdGet_at ea')
          rw [← Option.some.inj g]
          rw [(full_mem.mp hu).2.2, u1] at u2
          exact u2
  · have ka : ∀ x, x ∈ za.map (·.1) ↔ n.many ≤ x ∧ x < n.many + n.gates.length := fun x => by
      rw [ea, List.mem_map]
      constructor
      · rintro ⟨u, hu, rfl⟩
        exact ⟨(full_mem.mp hu).1, (full_mem.mp hu).2.1⟩
      · rintro ⟨h1, h2⟩
        exact ⟨(x, ch x), full_mem.mpr ⟨h1, h2, rfl⟩, rfl⟩
    refine (fun (key : x ∉ (zdM [] (za ++ (zb ++ [(t.1, c)]))).map (·.1) ↔ ¬(n.many ≤ x ∧ x < n.many + n.gates.length)) => ⟨fun h => Classical.not_not.mp fun z => key.mpr z h, fun h => Classical.not_not.mp fun z => key.mp z h⟩) ?_
    rw [← zdGet_none, get]
    by_cases e : t.1 = x
    · rw [if_pos e]
      exact ⟨fun z => (by cases z), fun z => absurd (by rw [← e]; exact t1) z⟩
    · rw [if_neg e]
      show (zdGet zb x).or ((zdGet za x).or none) = none ↔ _
      cases eb' : zdGet zb x with
      | some d =>
        obtain ⟨u, hu, u1, _⟩ := fb _ (zdGet_at eb')
        exact ⟨fun z => (by cases z), fun z => absurd (by rw [← show u.1 = x from u1]; exact gt u hu) z⟩
      | none =>
        show (zdGet za x).or none = none ↔ _
        rw [Option.or_none, zdGet_none, ka]
/-- the pairs of a sorted dict are a cover's -/
theorem sort_pts {H : Hp} {v : Nat → List Nat} {zs : Zd} {ls : List (Addr × Nat × Addr)} (pm : (ls.map (·.2)).Perm zs) (h : ∀ z ∈ ls, H z.1 = some (.tup [nV z.2.1, .ref z.2.2])) (cut : ∀ z ∈ zs, H z.2 = some (.tup ((v z.1).map nV))) : PtsAt TbAt H (ls.map (·.1)) (tabsOf (ls.map fun z => z.2.1) v) := by
  refine ⟨by unfold tabsOf; rw [List.length_map, List.length_map, List.length_map], fun i p t hp ht => ?_⟩
  unfold tabsOf at ht
  rw [List.map_map, List.getElem?_map] at ht
  rw [List.getElem?_map] at hp
  cases e : ls[i]? with
  | none => rw [e] at hp; cases hp
  | some z =>
    rw [e] at hp ht
    cases hp
    cases ht
    have hz := List.mem_of_getElem? e
    exact ⟨z.2.2, h z hz, cut z.2 (pm.mem_iff.mp (List.mem_map.mpr ⟨z, hz, rfl⟩))⟩
theorem sort_keys {zs : Zd} {ls : List (Addr × Nat × Addr)} (pm : (ls.map (·.2)).Perm zs) (x : Nat) : x ∈ (ls.map fun z => z.2.1) ↔ x ∈ zs.map (·.1) := by
  have := (pm.map (·.1)).mem_iff (a := x)
  rw [List.map_map] at this
  exact this
theorem zdPut_new : ∀ {zs : Zd} {x : Nat} {r : Addr}, x ∉ zs.map (·.1) → zdPut zs x r = zs ++ [(x, r)]
  | [], x, r, _ => rfl
  | e :: zs, x, r, h => by
    unfold zdPut
    rw [if_neg (fun z => h (by rw [← z]; exact List.mem_cons_self)), zdPut_new (zs := zs) fun z => h (List.mem_cons_of_mem _ z)]
    rfl
theorem zdPut_mem {zs : Zd} (ok : ZdOk zs) {x : Nat} {r : Addr} {z : Nat × Addr} (h : z ∈ zdPut zs x r) : z = (x, r) ∨ (z ∈ zs ∧ z.1 ≠ x) := by
  have g := (ok.put x r).get h
  rw [zdGet_put] at g
  by_cases e : z.1 = x
  · rw [if_pos e] at g
    refine .inl ?_
    rw [← e, Option.some.inj g]
  · rw [if_neg e] at g
    exact .inr ⟨zdGet_at g, e⟩
theorem zdPut_iff {zs : Zd} {x y : Nat} {r : Addr} : y ∈ (zdPut zs x r).map (·.1) ↔ (y = x ∨ y ∈ zs.map (·.1)) := by
  rw [zdPut_keys]
  by_cases e : x ∈ zs.map (·.1)
  · rw [if_pos e]
    exact ⟨.inr, fun h => h.elim (fun h => h ▸ e) id⟩
  · rw [if_neg e, List.mem_append, List.mem_singleton]
    exact or_comm
/-- one more -/
theorem TabZ.put {H : Hp} {d c : Addr} {zs : Zd} {v : Nat → List Nat} {x : Nat} (h : TabZ H d zs v) (hc : H c = some (.tup ((v x).map nV))) : TabZ (upd H d (.dK (kvY (zdPut zs x c)))) d (zdPut zs x c) v := by
  have kt : ∀ b xs, H b = some (HO.tup xs) → upd H d (.dK (kvY (zdPut zs x c))) b = some (.tup xs) := fun b xs e => by
    rw [upd_ne (fun z => by rw [z, h.at_] at e; cases e)]
    exact e
  refine ⟨upd_same, h.ok.put _ _, fun z hz => ?_⟩
  rcases zdPut_mem h.ok hz with e | ⟨e, _⟩
  · rw [e]
    exact kt _ _ hc
  · exact kt _ _ (h.cut z e)
theorem kvY_get {zs : Zd} (ok : ZdOk zs) {z : Nat × Addr} (hz : z ∈ zs) : valV (kvY zs) (nK z.1) = some (.ref z.2) := by
  rw [kvY_val, ok.get hz]
  rfl
theorem kvY_some {zs : Zd} {x : Nat} : (valV (kvY zs) (nK x)).isSome = decide (x ∈ zs.map (·.1)) := by
  rw [kvY_val]
  cases e : zdGet zs x with
  | none =>
    exact (decide_eq_false (zdGet_none.mp e)).symm
  | some d =>
    exact (decide_eq_true (zdGet_mem e)).symm
end GX
set_option Elab.async false
set_option linter.all false
set_option maxRecDepth 100000
set_option maxHeartbeats 4000000
namespace K57
open PySem PySem.Spec PyProof.Rows L2 GX
open C8 (Cal pe_c pe_gc Met Mak)
-- @alt one_deeper lst par=l[i],t[i]
-- @alt one_deeper tup par=t[i],t[i]
-- @alt one_deeper dk par=DK,t[i]
section
variable {P : Program} {w : World} {K : PySem.W.Frag} {mg : Str → Option Value} {base : Heap} {Ts : List Addr}
def spTurned : Sp := fun vs H Q _ => ∃ (a ha ca ta : Addr) (n : Net) (g o : Addr) (ps hs qs : List Addr) (k : Nat) (ch : Nat → List Nat) (cv : List Tb) (t : Tb), vs = [.ref a, .ref ha, .ref ca, .ref ta] ∧ NetAt H a n g o ps ∧ n.Ok ∧ CovAt H ha (fullC n ch) hs ∧ VOk n k ch ∧ CovAt H ca cv qs ∧ CovOk n k cv ∧ TbAt H ta t ∧ n.many ≤ t.1 ∧ t.1 < n.many + n.gates.length ∧ CutOk n t.1 t.2 ∧ t.2.length ≤ k ∧ k ≤ 8 ∧ 0 < cv.length ∧
  ∀ p rs H', Same H H' → CovAt H' p (leanV n (turnV ch cv t)) rs → Q (.ref p) H'
theorem ok_turned {f c : Addr} (D : Dfn K mg "turned" s_turned f c) (T : Txt mg) (c_leaned : Cal P w K mg base 1 "leaned" spLeaned []) : Cal P w K mg base 2 "turned" spTurned [] := by
  refine cal D (fun _ _ _ _ _ _ us hl => match us, hl with | [_, _, _, _], _ => rfl) sc_turned (fun vs H Q E h => ?_) (fun A outer s H vs Q E hr h => ?_)
  · obtain ⟨a, ha, ca, ta, n, g, o, ps, hs, qs, k, ch, cv, t, rfl, _⟩ := h
    rfl
  · obtain ⟨a, ha, ca, ta, n, g, o, ps, hs, qs, k, ch, cv, t, rfl, N, ok, hh, vok, hc, cok, ht, t1, t2, t3, t4, k8, c0, q⟩ := h
    refine ⟨_, (pss_cons (ps_set (i := 4) sc_turned.nd rfl (by first | exact Or.inl rfl | exact Or.inr rfl) (pe_callTy (call_dictF rfl) (by rfl) T.b_dict (by decide +kernel) (pa_cons (pe_op op_catF (pe_op op_catA (pv 1) (pv 2)) (pe_tup (pa_cons (pv 3) pa_nil))) pa_nil)))
      (pss_one (ps_ret (pe_c c_leaned hr (by decide) (by rfl) (pa_cons (pv 0) (pa_cons (pe_callTy call_tuple_of (by rfl) T.b_tuple (by decide +kernel) (pa_cons (pe_callB (cr_sortItZ rfl (Nat.lt_of_le_of_lt (Nat.add_le_add_left (by decide) _) hr.units)) (by rfl) T.b_sorted (by decide +kernel) (pa_cons (pe_bm0 PySem.F.plainAttrs_dict PySem.F.slot_dict_items PySem.F.type_dict_items mt_itemsK (pv 4)) pa_nil)) pa_nil)) pa_nil)))))), ?_⟩
    have m8 := ok.m8
    have g16 := ok.g16
    have c24 := cok.len ok
    have hsl : hs.length ≤ 16 := by rw [hh.ts.1, full_len]; exact g16
    have qsl : qs.length ≤ 24 := by rw [hc.ts.1]; exact c24
    have gl : 0 < n.gates.length := by omega
    refine ⟨_, rfl, _, rfl, ?_⟩
    refine catA_any rfl rfl hh.top hc.top (by rw [List.length_map, List.length_map]; exact small _ (by omega)) fun p1 H1 s1 h1 => ?_
    refine ⟨_, rfl, small 1, fun p2 np2 => ?_⟩
    have s2 := s1.trans (Same.new (o := .tup [.ref ta]) np2)
    have h1' : upd H1 p2 (.tup [.ref ta]) p1 = some (.tup (hs.map V.ref ++ qs.map V.ref)) := Same.new np2 _ _ h1
    have h2' : upd H1 p2 (.tup [.ref ta]) p2 = some (.tup [.ref ta]) := upd_same
    generalize upd H1 p2 (.tup [.ref ta]) = H2 at s2 h1' h2' ⊢
    obtain ⟨c, tt, tc⟩ := ht
    refine ⟨p1, p2, _, _, rfl, rfl, SqT.of h1', SqT.of h2', fun z => ?_, ?_, fun z => (by cases z), fun _ p3 H3 np3 hr hf => ?_⟩
    · have : (hs.map V.ref ++ qs.map V.ref).length = 0 := by rw [z]; rfl
      rw [List.length_append, List.length_map, List.length_map, hc.ts.1] at this
      omega
    · rw [List.length_append, List.length_map, List.length_map]
      exact small _ (by show _ + 1 ≤ _; omega)
    have s3 : Same H H3 := fun b u e => by
      rw [hr b (ne_of_none (s2 _ _ e) np3)]
      exact s2 _ _ e
    obtain ⟨za, a1, a2, a3⟩ := cov_zs (K := K) (hh.same s3).ts
    obtain ⟨zb, b1, b2, b3⟩ := cov_zs (K := K) (hc.same s3).ts
    obtain ⟨zs, e1, e2, e3, e4⟩ := merge_tabs (c := c) cok.rise cok.gt ⟨t1, t2⟩ a1 a3 b1 b3 (s3 _ _ tc)
    refine ⟨p3, hs ++ (qs ++ [ta]), kvY (za ++ (zb ++ [(t.1, c)])), rfl, ?_, ?_, fun d nd => ?_⟩
    · rw [List.map_append, List.map_append, ← List.append_assoc]
      exact hf
    · rw [kvY_app, kvY_app]
      exact paired_app a2 (paired_app b2 (.cons (SqT.of (s3 _ _ tt)) .nil))
    · rw [e1]
      have s4 := s3.trans (Same.new (o := .dK (kvY zs)) nd)
      have hd4 : upd H3 d (.dK (kvY zs)) d = some (.dK (kvY zs)) := upd_same
      have e34 : ∀ z ∈ zs, upd H3 d (.dK (kvY zs)) z.2 = some (.tup ((turnV ch cv t z.1).map nV)) := fun z hz => Same.new nd _ _ (e3 z hz)
      generalize upd H3 d (.dK (kvY zs)) = H4 at s4 hd4 e34 ⊢
      refine ⟨_, rfl, _, rfl, .inr (.inr (.inl ⟨rfl, .inl ⟨_, hd4⟩⟩)), d, kvY zs, rfl, rfl, hd4, fun p5 np5 => ?_⟩
      have s5 := s4.trans (Same.new (o := (L2.DX.itemsO p5 d)) np5)
      have hp5 : upd H4 p5 (L2.DX.itemsO p5 d) p5 = some (L2.DX.itemsO p5 d) := upd_same
      have hd5 := Same.new (o := (L2.DX.itemsO p5 d)) np5 _ _ hd4
      have e35 : ∀ z ∈ zs, upd H4 p5 (L2.DX.itemsO p5 d) z.2 = some (.tup ((turnV ch cv t z.1).map nV)) := fun z hz => Same.new np5 _ _ (e34 z hz)
      generalize upd H4 p5 (L2.DX.itemsO p5 d) = H5 at s5 hp5 hd5 e35 ⊢
      have zl : zs.length ≤ 24 := by
        have := nodup_lt (m := n.many + n.gates.length) e2 fun y hy => ((e4 y).mp hy).2
        rw [List.length_map] at this
        omega
      refine ⟨p5, d, zs, rfl, hp5, hd5, by omega, e2, fun z hz => ⟨_, e35 z hz⟩, fun H6 l ls g6 pm srt hl6 hz6 => ?_⟩
      have np6 : ∀ b u, H5 b = some u → H6 b = some u := g6
      refine ⟨l, _, rfl, .inl ⟨SqL.of hl6, fun p7 np7 => ?_⟩⟩
      have s7 := (Same.trans s5 g6).trans (Same.new (o := .tup (ls.map fun z => V.ref z.1)) np7)
      have pts := sort_pts pm hz6 fun z hz => g6 _ _ (e35 z hz)
      rw [tabs_full (by rw [List.pairwise_map] at srt ⊢; exact srt) fun x => (sort_keys pm x).trans (e4 x)] at pts
      refine ⟨a, p7, n, g, o, ps, k, fullC n (turnV ch cv t), ls.map (·.1), rfl, N.mono fun b xs e => s7 _ _ e, ok, ⟨?_, pts.mono (TbAt.mono fun b xs e => Same.new np7 _ _ e)⟩, full_ok ok (turnV_ok vok cok ⟨t3, t4⟩), k8, fun p rs H8 s8 hc8 => q p rs H8 (s7.trans s8) hc8⟩
      rw [List.map_map]
      exact upd_same
end
end K57
set_option Elab.async false
set_option linter.all false
set_option maxRecDepth 100000
set_option maxHeartbeats 4000000
/-! A list comprehension's second clause. -/
namespace GX
open PySem PySem.Spec PyProof.Rows L2
/-- a walk along a tuple, whatever is done at each -/
theorem walk_tupG {K : PySem.W.Frag} {a : Addr} {xs : List V} {H1 : Hp} {Qd : Hp → Prop} {Step : V → Hp → (Hp → Prop) → Prop} (Pv : Nat → Hp → Prop) (h0 : Pv 0 H1) (hl : ∀ i H, i ≤ xs.length → Pv i H → SqT K H a xs)
    (hs : ∀ i x H, xs[i]? = some x → Pv i H → Step x H (Pv (i + 1))) (hd : ∀ H, Pv xs.length H → Qd H) :
    ∃ W : Nat → Nat → Hp → Prop, (∃ m, W 0 m H1) ∧ ∀ i m H, W i m H →
      ((Itt K a).stop i H ∧ Qd H) ∨ ((Itt K a).go i H ∧ ∃ Nx : Hp → Prop, (∀ H', Nx H' → ∃ m', m' < m ∧ W (i + 1) m' H') ∧ ∀ x H', (Itt K a).yld i H x H' → Step x H' Nx) := by
  refine ⟨fun i m H => m = xs.length - i ∧ i ≤ xs.length ∧ Pv i H, ⟨xs.length, by simp, Nat.zero_le _, h0⟩, ?_⟩
  rintro i m H ⟨rfl, hi, p⟩
  have q := hl i H hi p
  by_cases hlt : i < xs.length
  · refine .inr ⟨⟨xs, xs[i], q, by simp [hlt]⟩, Pv (i + 1), fun H' p' => ⟨xs.length - (i + 1), by omega, rfl, hlt, p'⟩, fun x H' y => ?_⟩
    obtain ⟨e, y⟩ := y
    subst e
    exact hs i x _ (y xs q) p
  · have e : i = xs.length := by omega
    subst e
    exact .inl ⟨⟨xs, q, Nat.le_refl _⟩, hd H p⟩
end GX
set_option Elab.async false
set_option linter.all false
/-! != of data within generator expressions. -/
namespace GX
open PySem PySem.Spec PyProof.Rows L2
theorem op_neDK {X : Cx} {K : PySem.W.Frag} (hu : X.A.units + 64 < cLine) (h : X.K = K := by rfl) : OpR X (compareOp .NotEq) (rNeD K) := by subst h; exact op_neD hu
end GX
set_option Elab.async false
set_option linter.all false
set_option maxRecDepth 100000
set_option maxHeartbeats 4000000
/-! How many turns there are. -/
namespace GX
open PySem PySem.Spec PyProof.Rows L2
theorem cofX_len {n : Net} (ok : n.Ok) (k g : Nat) : (cofX n k g).length ≤ 2 ^ g := by
  have h := cofX_ok ok k g
  have nd : ((cofX n k g).map maskOf).Nodup := by
    refine List.pairwise_map.mpr ?_
    refine h.nd.imp_of_mem ?_
    intro a b ha hb ne e
    exact ne (mask_inj ((h.mem a).mp ha).rise ((h.mem b).mp hb).rise e)
  have := nd.length_le_of_subset (l₂ := List.range (2 ^ g)) fun x hx => List.mem_range.mpr (by
    obtain ⟨c, hc, rfl⟩ := List.mem_map.mp hx
    exact mask_lt fun x hx => ((h.mem c).mp hc).lt x hx)
  rw [List.length_range, List.length_map] at this
  exact this
theorem turns_app {cs : Nat → List (List Nat)} {a b : List Tb} : turnsOf cs (a ++ b) = turnsOf cs a ++ turnsOf cs b := List.flatMap_append
theorem turns_len {cs : Nat → List (List Nat)} (h : ∀ g, (cs g).length ≤ 2 ^ g) : ∀ cv : List Tb, cv.Pairwise (fun a b => a.1 < b.1) → ∀ b, (∀ t ∈ cv, t.1 < b) → (turnsOf cs cv).length + 1 ≤ 2 ^ b := by
  refine rev_ind ?_ fun cv t ih => ?_
  · intro _ b _
    exact Nat.one_le_two_pow
  · intro r b hb
    obtain ⟨r1, _, r3⟩ := List.pairwise_append.mp r
    have i1 := ih r1 t.1 fun u hu => r3 u hu t List.mem_cons_self
    have tb : t.1 < b := hb t (List.mem_append.mpr (.inr List.mem_cons_self))
    have p2 : 2 ^ (t.1 + 1) ≤ 2 ^ b := Nat.pow_le_pow_right (by decide) tb
    have e2 : (turnsOf cs [t]).length ≤ 2 ^ t.1 := by
      unfold turnsOf
      rw [List.flatMap_cons, List.flatMap_nil, List.append_nil, List.length_map]
      exact Nat.le_trans (List.length_filter_le _ _) (h _)
    rw [turns_app, List.length_append]
    rw [Nat.pow_succ] at p2
    omega
theorem turns_small {n : Net} (ok : n.Ok) {k : Nat} {cv : List Tb} (c : CovOk n k cv) : (turnsOf (cofX n k) cv).length < sizeLine := by
  have m8 := ok.m8
  have g16 := ok.g16
  have := turns_len (cofX_len ok k) cv c.rise 24 fun t ht => by
    have := (c.gt t ht).2
    omega
  have e : (2 : Nat) ^ 24 = 16777216 := by decide
  rw [e] at this
  rw [sizeLine_eq]
  omega
/-- the turns up to one of a gate's cuts -/
def turnsTo (cs : Nat → List (List Nat)) (cv : List Tb) (i : Nat) (t : Tb) (j : Nat) : List Tb := turnsOf cs (cv.take i) ++ (((cs t.1).take j).filter fun c => decide (c ≠ t.2)).map fun c => (t.1, c)
theorem turnsTo_end {cs : Nat → List (List Nat)} {cv : List Tb} {i : Nat} {t : Tb} (h : cv[i]? = some t) : turnsTo cs cv i t (cs t.1).length = turnsOf cs (cv.take (i + 1)) := by
  unfold turnsTo
  rw [List.take_length, List.take_add_one, h, turns_app]
  congr 1
  unfold turnsOf
  rw [Option.toList_some, List.flatMap_cons, List.flatMap_nil, List.append_nil]
theorem turnsTo_len {cs : Nat → List (List Nat)} {cv : List Tb} {i : Nat} {t : Tb} (h : cv[i]? = some t) (j : Nat) : (turnsTo cs cv i t j).length ≤ (turnsOf cs cv).length := by
  have e1 : (turnsTo cs cv i t j).length ≤ (turnsOf cs (cv.take (i + 1))).length := by
    rw [← turnsTo_end h]
    unfold turnsTo
    rw [List.length_append, List.length_append, List.length_map, List.length_map, List.take_length]
    exact Nat.add_le_add_left ((List.Sublist.filter _ (List.take_sublist _ _)).length_le) _
  have e2 : turnsOf cs cv = turnsOf cs (cv.take (i + 1)) ++ turnsOf cs (cv.drop (i + 1)) := by rw [← turns_app, List.take_append_drop]
  rw [e2, List.length_append]
  omega
theorem turnsTo_step {cs : Nat → List (List Nat)} {cv : List Tb} {i : Nat} {t : Tb} {j : Nat} {c : List Nat} (h : (cs t.1)[j]? = some c) : turnsTo cs cv i t (j + 1) = if c = t.2 then turnsTo cs cv i t j else turnsTo cs cv i t j ++ [(t.1, c)] := by
  unfold turnsTo
  rw [List.take_add_one, h, Option.toList_some, List.filter_append, List.map_append, ← List.append_assoc]
  by_cases e : c = t.2
  · rw [if_pos e, List.filter_cons, if_neg (by simp [e])]
    simp
  · rw [if_neg e, List.filter_cons, if_pos (by simp [e])]
    rfl
theorem while_m {c : TT} {tb : TS} {D : Ends} {σ : L2.St} {H : Hp} (Pv : Nat → L2.St → Hp → Prop) (m0 : Nat) (h0 : Pv m0 σ H)
    (hs : ∀ m σ H, Pv m σ H → c σ H fun b H1 => if b = true then ∃ N : L2.St → Hp → Prop, (∀ σ' H', N σ' H' → ∃ m', m' < m ∧ Pv m' σ' H') ∧ tb { D with nx := N, ct := N, bk := D.nx } σ H1 else D.nx σ H1) : tWhile c tb D σ H := ⟨Pv, ⟨m0, h0⟩, hs⟩
theorem whM {Pv : Nat → L2.St → Hp → Prop} {m : Nat} : ∀ σ' H', (∃ m', m' < m ∧ Pv m' σ' H') → ∃ m', m' < m ∧ Pv m' σ' H' := fun _ _ h => h
theorem turns_split {cs : Nat → List (List Nat)} {cv : List Tb} {i : Nat} {t : Tb} (h : cv[i]? = some t) (j : Nat) : ∃ post, turnsOf cs cv = turnsTo cs cv i t j ++ post := by
  refine ⟨((((cs t.1).drop j).filter fun c => decide (c ≠ t.2)).map fun c => (t.1, c)) ++ turnsOf cs (cv.drop (i + 1)), ?_⟩
  have e2 : turnsOf cs cv = turnsOf cs (cv.take (i + 1)) ++ turnsOf cs (cv.drop (i + 1)) := by rw [← turns_app, List.take_append_drop]
  rw [e2, ← turnsTo_end h, ← List.append_assoc]
  congr 1
  unfold turnsTo
  rw [List.take_length, List.append_assoc, ← List.map_append, ← List.filter_append, List.take_append_drop]
theorem find_here {cs : Nat → List (List Nat)} {cv : List Tb} {i : Nat} {t : Tb} (h : cv[i]? = some t) {j : Nat} {c : List Nat} (hc : (cs t.1)[j]? = some c) (ne : c ≠ t.2) {p : Tb → Bool} (hb : ∀ u ∈ turnsTo cs cv i t j, p u = false) (hp : p (t.1, c) = true) : (turnsOf cs cv).find? p = some (t.1, c) := by
  obtain ⟨post, e⟩ := turns_split (cs := cs) h (j + 1)
  rw [e, turnsTo_step hc, if_neg ne, List.find?_append, List.find?_append]
  have : (turnsTo cs cv i t j).find? p = none := List.find?_eq_none.mpr fun u hu => by rw [hb u hu]; decide
  rw [this, List.find?_cons_of_pos hp]
  rfl
end GX
set_option Elab.async false
set_option linter.all false
set_option maxRecDepth 100000
set_option maxHeartbeats 4000000
namespace K57
open PySem PySem.Spec PyProof.Rows L2 GX
open C8 (Cal pe_c pe_gc Met Mak)
-- @alt one_deeper lst par=l[i],t[i]
-- @alt one_deeper tup par=t[i],t[i]
-- @alt one_deeper dk par=DK,t[i]
section
variable {P : Program} {w : World} {K : PySem.W.Frag} {mg : Str → Option Value} {base : Heap} {Ts : List Addr}
def spTurnsOf : Sp := fun vs H Q _ => ∃ (p ca : Addr) (n : Net) (qs us : List Addr) (k : Nat) (cv : List Tb), vs = [.ref p, .ref ca] ∧ n.Ok ∧ H p = some (.tup (qs.map V.ref)) ∧ PtsAt (CutsTold n k) H qs (List.range (n.many + n.gates.length)) ∧ CovAt H ca cv us ∧ CovOk n k cv ∧
  ∀ l H' ts, Same H H' → H l = none → H' l = some (.lst (ts.map V.ref)) → PtsAt TbAt H' ts (turnsOf (cofX n k) cv) → Q (.ref l) H'
theorem ok_turnsof {f c : Addr} (D : Dfn K mg "turns_of" s_turns_of f c) (T : Txt mg) : Cal P w K mg base 1 "turns_of" spTurnsOf [] := by
  refine cal D (fun _ _ _ _ _ _ us hl => match us, hl with | [_, _], _ => rfl) sc_turns_of (fun vs H Q E h => ?_) (fun A outer s H vs Q E hr h => ?_)
  · obtain ⟨p, ca, n, qs, us, k, cv, rfl, _⟩ := h
    rfl
  · obtain ⟨p, ca, n, qs, us, k, cv, rfl, ok, hp, pq, hc, cok, q⟩ := h
    refine ⟨_, (pss_one (ps_ret (pe_lc2 (own := [("gate", 2), ("held", 3), ("cut", 4)]) (vs1 := [4]) (tt := tYes) rfl sc_turns_of.nd (pi_tup (pv 1)) (blkOk_by (own := [("gate", 2), ("held", 3), ("cut", 4)]) (N := ["cuts", "cover", "gate", "held", "cut"]) (sc := defScope s_turns_of) (by decide +kernel)) (by decide) (fun _ _ _ _ _ => (pg_tupK (K := K) (n := 2) rfl rfl (pgs_cons (pg_name (i := 2) sc_turns_of.nd rfl (by first | exact Or.inl rfl | exact Or.inr rfl)) (pgs_cons (pg_name (i := 3) sc_turns_of.nd rfl (by first | exact Or.inl rfl | exact Or.inr rfl)) pgs_nil)))) (fun _ _ _ _ _ => pts_nil) (fun _ _ _ _ _ => (pi_tupK (K := K) (pe_ix (ix_tupK (K := K)) (pv 0) (pv 2) (fun _ _ => rfl)))) (fun _ _ _ _ _ => (pg_name (i := 4) sc_turns_of.nd rfl (by first | exact Or.inl rfl | exact Or.inr rfl))) (fun _ _ _ _ _ => (pts_one (pt_cmpR (op_neDK (K := K) hr.units) (pv 4) (pv 3) (nomark _)))) (fun _ _ _ _ _ => (pe_tup (pa_cons (pv 2) (pa_cons (pv 4) pa_nil))))))), ?_⟩
    have hsm := turns_small ok cok
    refine ⟨_, rfl, ca, rfl, ⟨_, SqT.of hc.top⟩, fun D nD => ?_⟩
    refine walk_tupG (K := K) (a := ca) (xs := us.map V.ref) (fun i H' => ∃ ts : List Addr, Own H H' D (ts.map V.ref) ∧ PtsAt TbAt H' ts (turnsOf (cofX n k) (cv.take i))) ⟨[], ⟨Same.new nD, upd_same, nD⟩, PtsAt.nil _ _⟩ (fun i H' _ h => h.elim fun ts h => SqT.of (h.1.sm _ _ hc.top)) ?_ ?_
    · rintro i x H1 hx ⟨ts, o1, t1⟩
      obtain ⟨q', t, rfl, ht, c', hq', hc'⟩ := (hc.ts.mono (TbAt.mono fun b xs e => o1.sm _ _ e)).at_ hx
      have htm := List.mem_of_getElem? ht
      have hgt := cok.gt t htm
      refine ⟨q', _, rfl, SqT.of hq', rfl, ?_⟩
      refine ⟨_, _, rfl, _, _, rfl, rfl, rfl, ?_⟩
      unfold tYes
      refine iteT ?_
      obtain ⟨qg, eq, rg, cs, hqg, tg, ca', csl⟩ := (pq.mono fun q x h => CutsTold.mono h fun b xs e => o1.sm _ _ e).get (i := t.1) (y := t.1) (by rw [List.getElem?_range hgt.2])
      obtain rfl := ca'.uniq (cofX_ok ok k t.1)
      refine ⟨_, rfl, _, rfl, p, _, _, _, rfl, rfl, SqT.of (o1.sm _ _ hp), atI_nat eq, qg, rfl, ⟨_, SqT.of hqg⟩, ?_⟩
      refine walk_tupG (K := K) (a := qg) (xs := rg.map V.ref) (fun j H' => (∃ ts : List Addr, Own H H' D (ts.map V.ref) ∧ PtsAt TbAt H' ts (turnsTo (cofX n k) cv i t j)) ∧ H' qg = some (.tup (rg.map V.ref)) ∧ TupsAt H' rg (cofX n k t.1) ∧ H' c' = some (.tup (t.2.map nV))) ⟨⟨ts, o1, ?_⟩, hqg, tg, hc'⟩ (fun j H' _ h => SqT.of h.2.1) ?_ ?_
      · unfold turnsTo
        rw [List.take_zero, List.filter_nil, List.map_nil, List.append_nil]
        exact t1
      · rintro j y H2 hy ⟨⟨ts2, o2, t2⟩, hqg2, tg2, hc2⟩
        rw [List.getElem?_map] at hy
        cases ery : rg[j]? with
        | none => rw [ery] at hy; cases hy
        | some r =>
          rw [ery] at hy
          cases hy
          have hjl : j < (cofX n k t.1).length := by
            rw [← tg2.1]
            exact (List.getElem?_eq_some_iff.mp ery).1
          obtain ⟨d, hd⟩ : ∃ d, (cofX n k t.1)[j]? = some d := ⟨_, List.getElem?_eq_getElem hjl⟩
          have hrd := tg2.2 j r d ery hd
          have tl := turnsTo_len (cs := cofX n k) ht j
          have stp := turnsTo_step (cs := cofX n k) (cv := cv) (i := i) hd
          refine ⟨rfl, ?_⟩
          refine ⟨_, rfl, _, rfl, .tuple (natsD d), .tuple (natsD t.2), dp_natT hrd, dp_natT hc2, natsD_tup _, natsD_tup _, ?_⟩
          rw [natsD_eqT]
          by_cases e : d = t.2
          · refine ⟨false, by rw [decide_eq_true e]; rfl, iteF ?_⟩
            rw [stp, if_pos e]
            exact ⟨⟨ts2, o2, t2⟩, hqg2, tg2, hc2⟩
          · refine ⟨true, by rw [decide_eq_false e]; rfl, iteT ?_⟩
            rw [stp, if_neg e]
            refine ⟨_, rfl, _, rfl, small 2, fun tp ntp => ?_⟩
            have s3 := Same.new (o := .tup [nV t.1, .ref r]) ntp
            have o3 : Own H (upd H2 tp (.tup [nV t.1, .ref r])) D (ts2.map V.ref) := ⟨o2.sm.trans s3, s3 _ _ o2.at_, o2.nw⟩
            have k3 : ∀ {b ys}, upd H2 tp (.tup [nV t.1, .ref r]) b = some (HO.tup ys) → ∀ o', upd (upd H2 tp (.tup [nV t.1, .ref r])) D (.lst o') b = some (.tup ys) := fun {b ys} e o' => by
              rw [upd_ne (fun z => by rw [z, o3.at_] at e; cases e)]
              exact e
            refine ⟨_, o3.at_, by rw [List.length_map, t2.1]; omega, ⟨ts2 ++ [tp], by rw [List.map_append]; exact o3.app, ?_⟩, k3 (s3 _ _ hqg2) _, tg2.mono fun b xs e => k3 (s3 _ _ e) _, k3 (s3 _ _ hc2) _⟩
            exact PtsAt.push (t2.mono (TbAt.mono fun b ys e => k3 (s3 _ _ e) _)) ⟨r, k3 upd_same _, k3 (s3 _ _ hrd) _⟩
      · rintro H2 ⟨⟨ts2, o2, t2⟩, _, _, _⟩
        rw [List.length_map, tg.1, turnsTo_end ht] at t2
        exact ⟨ts2, o2, t2⟩
    · rintro H1 ⟨ts, o1, t1⟩
      rw [List.length_map, hc.ts.1, List.take_length] at t1
      exact q D H1 ts o1.sm nD o1.at_ t1
end
end K57
set_option Elab.async false
set_option linter.all false
set_option maxRecDepth 100000
set_option maxHeartbeats 4000000
namespace K57
open PySem PySem.Spec PyProof.Rows L2 GX
open C8 (Cal pe_c pe_gc Met Mak)
-- @alt one_deeper lst par=l[i],t[i]
-- @alt one_deeper tup par=t[i],t[i]
-- @alt one_deeper dk par=DK,t[i]
section
variable {P : Program} {w : World} {K : PySem.W.Frag} {mg : Str → Option Value} {base : Heap} {Ts : List Addr}
def spOneDeeper : Sp := fun vs H Q _ => ∃ (d ca : Addr) (kvs : List (L2.Key × V)) (ws : List Nat) (f : Nat → Nat), vs = [.ref d, .ref ca] ∧ H d = some (.dK kvs) ∧ H ca = some (.tup (ws.map nV)) ∧ 0 < ws.length ∧ ws.length ≤ 24 ∧ (∀ x ∈ ws, valV kvs (nK x) = some (nV (f x))) ∧ ∀ H', Same H H' → Q (nV (1 + maxL (ws.map f))) H'
theorem ok_onedeeper {f c : Addr} (D : Dfn K mg "one_deeper" s_one_deeper f c) (T : Txt mg) : Cal P w K mg base 1 "one_deeper" spOneDeeper [] := by
  refine cal D (fun _ _ _ _ _ _ us hl => match us, hl with | [_, _], _ => rfl) sc_one_deeper (fun vs H Q E h => ?_) (fun A outer s H vs Q E hr h => ?_)
  · obtain ⟨d, ca, kvs, ws, f, rfl, _⟩ := h
    rfl
  · obtain ⟨d, ca, kvs, ws, f, rfl, hd, hca, w0, w24, hv, q⟩ := h
    refine ⟨_, (pss_one (ps_ret (pe_op op_add pe_int (pe_callB (cr_max rfl) (by rfl) T.b_max (by decide +kernel) (pa_cons (pe_lc (own := [("wire", 2)]) (g := gName 2) (tt := tYes) rfl sc_one_deeper.nd (pi_tup (pv 1)) (blkOk_by (own := [("wire", 2)]) (N := ["told", "wires", "wire"]) (sc := defScope s_one_deeper) (by decide +kernel)) (fun _ _ _ _ _ => (pg_name (i := 2) sc_one_deeper.nd rfl (by first | exact Or.inl rfl | exact Or.inr rfl))) (fun _ _ _ _ _ => pts_nil) (fun _ _ _ _ _ => (pe_dget (Nat.lt_of_le_of_lt (Nat.add_le_add_left (by decide) _) hr.units) (pv 0) (pv 2) (fun _ _ => rfl)))) pa_nil))))), ?_⟩
    refine ⟨_, rfl, ca, rfl, ⟨_, SqT.of hca⟩, fun M nM => ?_⟩
    refine lc_tup (K := K) (a := ca) (xs := ws.map nV) (fun i H' => Own H H' M (((ws.take i).map f).map nV)) ⟨Same.new nM, upd_same, nM⟩ (fun k H' _ o' => SqT.of (o'.sm _ _ hca)) ?_ ?_
    · rintro i x H2 hx o2
      have hi : i < ws.length := by
        have := (List.getElem?_eq_some_iff.mp hx).1
        rwa [List.length_map] at this
      rw [natAt hi] at hx
      cases hx
      refine ⟨rfl, ?_⟩
      unfold tYes
      refine iteT ?_
      have hg := DGet.k (k := nK (ws.getD i 0)) (o2.sm _ _ hd)
      rw [hv _ (getD_mem hi)] at hg
      refine ⟨_, rfl, _, rfl, d, _, rfl, hg, _, o2.at_, by rw [List.length_map, List.length_map, List.length_take]; exact small256 (by omega), ?_⟩
      have : ws.getD i 0 = ws[i] := by rw [List.getD_eq_getElem?_getD, List.getElem?_eq_getElem hi]; rfl
      rw [List.take_add_one, List.getElem?_eq_getElem hi, Option.toList_some, List.map_append, List.map_append, this]
      exact o2.app
    · rintro H2 o2
      rw [List.length_map, List.take_length] at o2
      refine ⟨M, (ws.map f).map (fun n : Nat => (n : Int)), rfl, (by rw [mapV]; exact SqL.of o2.at_), by rw [List.length_map, List.length_map]; exact w0, fun m hm hb => ⟨_, _, rfl, rfl, ?_⟩⟩
      have e := max_eq hm hb
      have e2 : V.int (1 + m) = nV (1 + maxL (ws.map f)) := by
        have := V.int.inj e
        rw [this]
        rfl
      dsimp -proj only
      rw [e2]
      exact q H2 o2.sm
/-- the told depths of a cover's wires so far -/
structure DepOk (n : Net) (cv : List Tb) (os : List Nat) : Prop where
  ris : Ris cv
  gt : ∀ t ∈ cv, n.many ≤ t.1 ∧ t.1 < n.many + n.gates.length
  ne : ∀ t ∈ cv, 0 < t.2.length ∧ t.2.length ≤ 24
  clo : ∀ t ∈ cv, ∀ x ∈ t.2, n.many ≤ x → ∃ u ∈ cv, u.1 = x
  os0 : 0 < os.length
  os8 : os.length ≤ 8
  os : ∀ o ∈ os, n.many ≤ o → ∃ u ∈ cv, u.1 = o
  len : cv.length ≤ 24
/-- wires of a table stand ahead of it -/
theorem DepOk.ahead {n : Net} {cv : List Tb} {os : List Nat} (h : DepOk n cv os) {i : Nat} {t : Tb} (ht : cv[i]? = some t) : ∀ x ∈ t.2, n.many ≤ x → ∃ u ∈ cv.take i, u.1 = x := fun x hx hm => by
  obtain ⟨u, hu, e⟩ := h.clo t (List.mem_of_getElem? ht) x hx hm
  refine ⟨u, ?_, e⟩
  have lt := h.ris.lt t (List.mem_of_getElem? ht) x hx
  obtain ⟨j, hj⟩ := List.getElem?_of_mem hu
  have hjl := (List.getElem?_eq_some_iff.mp hj).1
  have hil := (List.getElem?_eq_some_iff.mp ht).1
  have hji : j < i := by
    refine Classical.not_not.mp fun hge => ?_
    by_cases e2 : j = i
    · rw [e2, ht] at hj
      cases hj
      omega
    · have := List.pairwise_iff_getElem.mp h.ris.rise i j hil hjl (by omega)
      rw [List.getElem?_eq_getElem hjl] at hj
      rw [List.getElem?_eq_getElem hil] at ht
      rw [Option.some.inj hj, Option.some.inj ht] at this
      omega
  exact List.mem_of_getElem? (i := j) (by rw [List.getElem?_take_of_lt hji]; exact hj)
def spDepthBy : Sp := fun vs H Q _ => ∃ (a ca : Addr) (n : Net) (g o : Addr) (ps : List Addr) (cv : List Tb) (qs : List Addr), vs = [.ref a, .ref ca] ∧ NetAt H a n g o ps ∧ n.many ≤ 8 ∧ CovAt H ca cv qs ∧ DepOk n cv n.outs ∧ ∀ H', Same H H' → Q (nV (maxL (n.outs.map (dMap cv)))) H'
theorem ok_depthby {f c : Addr} (D : Dfn K mg "depth_by" s_depth_by f c) (T : Txt mg) (c_one_deeper : Cal P w K mg base 1 "one_deeper" spOneDeeper []) : Cal P w K mg base 2 "depth_by" spDepthBy [] := by
  refine cal D (fun _ _ _ _ _ _ us hl => match us, hl with | [_, _], _ => rfl) sc_depth_by (fun vs H Q E h => ?_) (fun A outer s H vs Q E hr h => ?_)
  · obtain ⟨a, ca, n, g, o, ps, cv, qs, rfl, _⟩ := h
    rfl
  · obtain ⟨a, ca, n, g, o, ps, cv, qs, rfl, N, m8, hcv, ok, q⟩ := h
    have os8 := ok.os8
    have c24 := ok.len
    refine ⟨_, (pss_cons (ps_set (i := 2) sc_depth_by.nd rfl (by first | exact Or.inl rfl | exact Or.inr rfl) (pe_dc (own := [("wire", 3)]) (g := gName 3) (tt := tYes) rfl sc_depth_by.nd (pi_range1 (by rfl) T.b_range (pa_cons (pe_ix ix_tup (pv 0) pe_int (fun _ _ => rfl)) pa_nil)) (blkOk_by (own := [("wire", 3)]) (N := ["net", "cover", "told", "wire", "gate", "cut", "out"]) (sc := defScope s_depth_by) (by decide +kernel)) (fun _ _ _ _ _ => (pg_name (i := 3) sc_depth_by.nd rfl (by first | exact Or.inl rfl | exact Or.inr rfl))) (fun _ _ _ _ _ => pts_nil) (fun _ _ _ _ _ => (pv 3)) (fun _ _ _ _ _ => pe_int)))
      (pss_cons (ps_for PassesOwn.never rfl (pi_tup (pv 1)) (pg_tup rfl (pgs_cons (pg_name (i := 4) sc_depth_by.nd rfl (by first | exact Or.inl rfl | exact Or.inr rfl)) (pgs_cons (pg_name (i := 5) sc_depth_by.nd rfl (by first | exact Or.inl rfl | exact Or.inr rfl)) pgs_nil)))
        (pss_one (ps_dput (Nat.lt_of_le_of_lt (Nat.add_le_add_left (by decide) _) hr.units) (pv 2) (pv 4) (pe_c c_one_deeper hr (by decide) (by rfl) (pa_cons (pv 2) (pa_cons (pv 5) pa_nil))) (by rfl))))
      (pss_one (ps_ret (pe_callB (cr_max rfl) (by rfl) T.b_max (by decide +kernel) (pa_cons (pe_lc (own := [("out", 6)]) (g := gName 6) (tt := tYes) rfl sc_depth_by.nd (pi_tup (pe_ix ix_tup (pv 0) pe_int (fun _ _ => rfl))) (blkOk_by (own := [("out", 6)]) (N := ["net", "cover", "told", "wire", "gate", "cut", "out"]) (sc := defScope s_depth_by) (by decide +kernel)) (fun _ _ _ _ _ => (pg_name (i := 6) sc_depth_by.nd rfl (by first | exact Or.inl rfl | exact Or.inr rfl))) (fun _ _ _ _ _ => pts_nil) (fun _ _ _ _ _ => (pe_dget (Nat.lt_of_le_of_lt (Nat.add_le_add_left (by decide) _) hr.units) (pv 2) (pv 6) (fun _ _ => rfl)))) pa_nil)))))), ?_⟩
    refine ⟨_, rfl, a, _, 0, _, rfl, rfl, SqT.of N.top, at0, _, rfl, by show -(2 ^ 62) ≤ ((n.many : Nat) : Int); omega, by show ((n.many : Nat) : Int) < 2 ^ 62; omega, fun d nd => ?_⟩
    refine dc_it (walk_range (lo := 0) (n := ((n.many : Nat) : Int).toNat)) (fun i H' => ∃ kvs : List (L2.Key × V), (∀ b u, H b = some u → H' b = some u) ∧ H' d = some (.dK kvs) ∧ kvs.length ≤ i ∧ ∀ x : Nat, x < i → valV kvs (nK x) = some (nV 0)) ⟨[], fun b u e => Same.new nd _ _ e, upd_same, Nat.le_refl _, fun x hx => absurd hx (Nat.not_lt_zero _)⟩ (fun i H' _ _ => trivial) ?_ ?_
    · rintro i x H1 H2 hi ⟨kvs, sm, hd1, kl, km⟩ ⟨rfl, rfl⟩
      rw [Int.toNat_natCast] at hi
      refine ⟨rfl, ?_⟩
      unfold tYes
      refine iteT ?_
      refine ⟨_, rfl, kvs, nK i, ?_, hd1, small256 (by omega), _, fun b u e => ?_, upd_same, by have := length_putK kvs (nK i) (.int 0); omega, fun x hx => ?_⟩
      · show V.int (0 + ((i : Nat) : Int)) = V.int ((i : Nat) : Int)
        rw [Int.zero_add]
      · rw [upd_ne (ne_of_none e nd)]
        exact sm b u e
      · rw [valV_put]
        by_cases e : nK x = nK i
        · rw [if_pos e]
          rfl
        · rw [if_neg e]
          exact km x (by
            have : x ≠ i := fun z => e (by rw [z])
            omega)
    · rintro H1 ⟨kvs, sm, hd1, kl, km⟩
      rw [Int.toNat_natCast] at kl km
      refine ⟨_, rfl, ca, rfl, ⟨_, SqT.of (sm _ _ hcv.top)⟩, ?_⟩
      refine for_tup (K := K) (a := ca) (xs := qs.map V.ref) (fun i σ H' => ∃ (x3 x4 x5 x6 : Option V) (kvs : List (L2.Key × V)), σ = [some (.ref a), some (.ref ca), some (.ref d), x3, x4, x5, x6] ∧ (∀ b u, H b = some u → H' b = some u) ∧ H' d = some (.dK kvs) ∧ kvs.length ≤ 8 + i ∧ (∀ x : Nat, (x < n.many ∨ ∃ u ∈ cv.take i, u.1 = x) → valV kvs (nK x) = some (nV (dMap (cv.take i) x)))) ⟨none, none, none, none, kvs, rfl, sm, hd1, by omega, fun x hx => ?_⟩ ?_ ?_ ?_
      · rcases hx with hx | ⟨u, hu, _⟩
        · exact km x hx
        · cases hu
      · rintro i σ H2 _ ⟨_, _, _, _, _, _, sm2, _⟩
        exact SqT.of (sm2 _ _ hcv.top)
      · rintro i x σ H2 hx ⟨x3, x4, x5, x6, kvs, rfl, sm2, hd2, kl2, km2⟩
        obtain ⟨q', t, rfl, ht, c', hq', hc'⟩ := (hcv.ts.mono (TbAt.mono fun b xs e => sm2 _ _ e)).at_ hx
        have htm := List.mem_of_getElem? ht
        have hil := (List.getElem?_eq_some_iff.mp ht).1
        obtain ⟨t0, t24⟩ := ok.ne t htm
        have hgt := ok.gt t htm
        refine ⟨q', _, rfl, SqT.of hq', rfl, _, _, rfl, _, _, rfl, rfl, ?_⟩
        refine ⟨_, rfl, _, rfl, d, c', kvs, t.2, dMap (cv.take i), rfl, hd2, hc', t0, t24, fun x hx => km2 x ?_, fun H3 s3 => ?_⟩
        · by_cases e : x < n.many
          · exact .inl e
          · exact .inr (ok.ahead ht x hx (by omega))
        · refine ⟨_, rfl, _, rfl, d, _, rfl, DPut.k (k := nK t.1) (s3 _ _ hd2) (small256 (by omega)), ?_⟩
          refine ⟨_, _, _, _, _, rfl, fun b u e => ?_, upd_same, by have := length_putK kvs (nK t.1) (nV (1 + maxL (t.2.map (dMap (cv.take i))))); omega, fun x hx => ?_⟩
          · rw [upd_ne (ne_of_none e nd)]
            exact s3 _ _ (sm2 b u e)
          · rw [dMap_take ht, valV_put]
            unfold dStep
            by_cases e : x = t.1
            · rw [if_pos (by rw [e]), if_pos e]
            · rw [if_neg (fun z => e (nK_inj z)), if_neg e]
              refine km2 x ?_
              rcases hx with hx | ⟨u, hu, hux⟩
              · exact .inl hx
              · rw [List.take_add_one, ht, Option.toList_some] at hu
                rcases List.mem_append.mp hu with hu | hu
                · exact .inr ⟨u, hu, hux⟩
                · rw [List.mem_singleton.mp hu] at hux
                  exact absurd hux.symm e
      · rintro σ H2 ⟨x3, x4, x5, x6, kvs, rfl, sm2, hd2, kl2, km2⟩
        rw [List.length_map, hcv.ts.1, List.take_length] at km2
        have N2 := N.mono fun b xs e => sm2 _ _ e
        refine ⟨_, rfl, a, _, 2, _, rfl, rfl, SqT.of N2.top, at2, o, rfl, ⟨_, SqT.of N2.ot⟩, fun M nM => ?_⟩
        refine lc_tup (K := K) (a := o) (xs := n.outs.map nV) (fun i H' => Own H2 H' M (((n.outs.take i).map (dMap cv)).map nV)) ⟨Same.new nM, upd_same, nM⟩ (fun k H' _ o' => SqT.of (o'.sm _ _ N2.ot)) ?_ ?_
        · rintro i x H3 hx o3
          have hi : i < n.outs.length := by
            have := (List.getElem?_eq_some_iff.mp hx).1
            rwa [List.length_map] at this
          rw [natAt hi] at hx
          cases hx
          refine ⟨rfl, ?_⟩
          unfold tYes
          refine iteT ?_
          have hg := DGet.k (k := nK (n.outs.getD i 0)) (o3.sm _ _ hd2)
          rw [km2 _ (by
            by_cases e : n.outs.getD i 0 < n.many
            · exact .inl e
            · exact .inr (ok.os _ (getD_mem hi) (by omega)))] at hg
          refine ⟨_, rfl, _, rfl, d, _, rfl, hg, _, o3.at_, by rw [List.length_map, List.length_map, List.length_take]; exact small256 (by omega), ?_⟩
          have : n.outs.getD i 0 = n.outs[i] := by rw [List.getD_eq_getElem?_getD, List.getElem?_eq_getElem hi]; rfl
          rw [List.take_add_one, List.getElem?_eq_getElem hi, Option.toList_some, List.map_append, List.map_append, this]
          exact o3.app
        · rintro H3 o3
          rw [List.length_map, List.take_length] at o3
          refine ⟨M, (n.outs.map (dMap cv)).map (fun n : Nat => (n : Int)), rfl, (by rw [mapV]; exact SqL.of o3.at_), by rw [List.length_map, List.length_map]; exact ok.os0, fun m hm hb => ?_⟩
          rw [max_eq hm hb]
          exact q H3 fun b u e => o3.sm _ _ (sm2 b u e)
end
section
variable {P : Program} {w : World} {K : PySem.W.Frag} {mg : Str → Option Value} {base : Heap} {Ts : List Addr}
theorem find_at {α : Type} {p : α → Bool} : ∀ {l : List α} {i : Nat} {t : α}, l[i]? = some t → p t = true → (∀ j u, j < i → l[j]? = some u → p u = false) → l.find? p = some t
  | [], i, t, h, _, _ => by simp at h
  | x :: l, 0, t, h, hp, _ => by
    cases h
    rw [List.find?_cons_of_pos hp]
  | x :: l, i + 1, t, h, hp, hb => by
    have := hb 0 x (Nat.succ_pos _) rfl
    rw [List.find?_cons_of_neg (by rw [this]; decide)]
    exact find_at (l := l) h hp fun j u hj hu => hb (j + 1) u (Nat.succ_lt_succ hj) hu
theorem turn_ok1 {n : Net} (ok : n.Ok) {k : Nat} (hk2 : 2 ≤ k) {cv : List Tb} (cok : CovOk n k cv) {t : Tb} (h : t ∈ turnsOf (cofX n k) cv) : n.many ≤ t.1 ∧ t.1 < n.many + n.gates.length ∧ CutOk n t.1 t.2 ∧ t.2.length ≤ k := by
  obtain ⟨⟨u, hu, e, _⟩, hc⟩ := turns_mem h
  have g := cok.gt u hu
  rw [e] at g
  have lc := ((cofX_ok ok k t.1).mem t.2).mp hc
  exact ⟨g.1, g.2, ⟨((cuts_ok ok hk2 g.1 g.2 (cofX_ok ok k t.1)).2 t.2 hc).1, lc.lt, lc.sep, lc.rise⟩, lc.len⟩
theorem dep_of {n : Net} (ok : n.Ok) {k : Nat} {cv : List Tb} (cok : CovOk n k cv) (k8 : k ≤ 8) : DepOk n cv n.outs :=
  ⟨⟨cok.rise, fun t ht x hx => (cok.cut t ht).1.lt x hx⟩, cok.gt, fun t ht => ⟨(cok.cut t ht).1.ne, by have := (cok.cut t ht).2; omega⟩, cok.clo, ok.o1, ok.o8, fun o ho hm => cok.outs o ho hm, cok.len ok⟩
/-- what is told of the first good turn -/
def FndAt (n : Net) (k : Nat) (ch : Nat → List Nat) (d : Int) (cv : List Tb) (H : Hp) (v : V) : Prop := (fstG n (cofX n k) ch d cv = none ∧ v = .non) ∨ ∃ (t : Tb) (r tp cp : Addr) (rs : List Addr), fstG n (cofX n k) ch d cv = some t ∧ v = .ref r ∧ H r = some (.tup [.ref tp, .ref cp]) ∧ TbAt H tp t ∧ CovAt H cp (leanV n (turnV ch cv t)) rs
def spFirst : Sp := fun vs H Q _ => ∃ (a p ha ca : Addr) (n : Net) (g o : Addr) (ps qs hs us : List Addr) (k : Nat) (ch : Nat → List Nat) (d : Int) (cv : List Tb), vs = [.ref a, .ref p, .ref ha, .int d, .ref ca] ∧ NetAt H a n g o ps ∧ n.Ok ∧ H p = some (.tup (qs.map V.ref)) ∧ PtsAt (CutsTold n k) H qs (List.range (n.many + n.gates.length)) ∧ CovAt H ha (fullC n ch) hs ∧ VOk n k ch ∧ CovAt H ca cv us ∧ CovOk n k cv ∧ 2 ≤ k ∧ k ≤ 8 ∧
  ∀ v H', Same H H' → FndAt n k ch d cv H' v → Q v H'
theorem ok_first {f c : Addr} (D : Dfn K mg "first_good" s_first_good f c) (T : Txt mg) (c_turns_of : Cal P w K mg base 1 "turns_of" spTurnsOf []) (c_turned : Cal P w K mg base 2 "turned" spTurned []) (c_depth_by : Cal P w K mg base 2 "depth_by" spDepthBy []) : Cal P w K mg base 3 "first_good" spFirst [] := by
  refine cal D (fun _ _ _ _ _ _ us hl => match us, hl with | [_, _, _, _, _], _ => rfl) sc_first_good (fun vs H Q E h => ?_) (fun A outer s H vs Q E hr h => ?_)
  · obtain ⟨a, p, ha, ca, n, g, o, ps, qs, hs, us, k, ch, d, cv, rfl, _⟩ := h
    rfl
  · obtain ⟨a, p, ha, ca, n, g, o, ps, qs, hs, us, k, ch, d, cv, rfl, N, ok, hp, pq, hh, vok, hc, cok, k2, k8, q⟩ := h
    have qn : fstG n (cofX n k) ch d cv = none → ∀ H', Same H H' → Q .non H' := fun e H' s => q .non H' s (.inl ⟨e, rfl⟩)
    have qs' : ∀ t, fstG n (cofX n k) ch d cv = some t → ∀ r tp cp rs H', Same H H' → H' r = some (.tup [.ref tp, .ref cp]) → TbAt H' tp t → CovAt H' cp (leanV n (turnV ch cv t)) rs → Q (.ref r) H' := fun t e r tp cp rs H' s h1 h2 h3 => q _ H' s (.inr ⟨t, r, tp, cp, rs, e, rfl, h1, h2, h3⟩)
    refine ⟨_, (pss_cons (ps_for PassesOwn.never rfl (pi_list (pe_c c_turns_of hr (by decide) (by rfl) (pa_cons (pv 1) (pa_cons (pv 4) pa_nil)))) (pg_name (i := 5) sc_first_good.nd rfl (by first | exact Or.inl rfl | exact Or.inr rfl))
        (pss_cons (ps_set (i := 6) sc_first_good.nd rfl (by first | exact Or.inl rfl | exact Or.inr rfl) (pe_c c_turned hr (by decide) (by rfl) (pa_cons (pv 0) (pa_cons (pv 2) (pa_cons (pv 4) (pa_cons (pv 5) pa_nil))))))
      (pss_one (ps_if (PW.pt (pw_and (pt_cmpR op_lt (pe_callB call_len_seq (by rfl) T.b_len (by decide +kernel) (pa_cons (pv 6) pa_nil)) (pe_callB call_len_seq (by rfl) T.b_len (by decide +kernel) (pa_cons (pv 4) pa_nil)) (nomark _)) (pw_and1 (pt_cmpR op_le (pe_c c_depth_by hr (by decide) (by rfl) (pa_cons (pv 0) (pa_cons (pv 6) pa_nil))) (pv 3) (nomark _))))) (pss_one (ps_ret (pe_tup (pa_cons (pv 5) (pa_cons (pv 6) pa_nil))))) pss_nil))))
      (pss_one (ps_ret pe_non))), ?_⟩
    refine ⟨_, rfl, _, rfl, p, ca, n, qs, us, k, cv, rfl, ok, hp, pq, hc, cok, fun l H1 ts s1 nl hl1 pt1 => ?_⟩
    refine ⟨l, rfl, ⟨_, SqL.of hl1⟩, ?_⟩
    refine for_list (K := K) (a := l) (xs := ts.map V.ref) (fun i σ H' => ∃ x5 x6 : Option V, σ = [some (.ref a), some (.ref p), some (.ref ha), some (.int d), some (.ref ca), x5, x6] ∧ (∀ b u, H1 b = some u → H' b = some u) ∧ ∀ j u, j < i → (turnsOf (cofX n k) cv)[j]? = some u → goodT n ch d cv u = false) ⟨none, none, rfl, fun b u e => e, fun j u hj _ => absurd hj (Nat.not_lt_zero _)⟩ ?_ ?_ ?_
    · rintro i σ H2 _ ⟨_, _, _, s2, _⟩
      exact SqL.of (s2 _ _ hl1)
    · rintro i x σ H2 hx ⟨x5, x6, rfl, s2, hb⟩
      rw [List.getElem?_map] at hx
      cases etp : ts[i]? with
      | none => rw [etp] at hx; cases hx
      | some tp =>
        rw [etp] at hx
        cases hx
        have hil : i < (turnsOf (cofX n k) cv).length := by
          rw [← pt1.1]
          exact (List.getElem?_eq_some_iff.mp etp).1
        obtain ⟨t, ht⟩ : ∃ t, (turnsOf (cofX n k) cv)[i]? = some t := ⟨_, List.getElem?_eq_getElem hil⟩
        have htm := List.mem_of_getElem? ht
        obtain ⟨g1, g2, g3, g4⟩ := turn_ok1 ok k2 cok htm
        have s12 : Same H H2 := Same.trans s1 s2
        have htp := TbAt.mono (fun b xs e => s2 _ _ e) _ _ (pt1.2 i tp t etp ht)
        have c0 : 0 < cv.length := by
          obtain ⟨⟨u, hu, _⟩, _⟩ := turns_mem htm
          exact List.length_pos_of_mem hu
        refine ⟨_, rfl, _, rfl, _, rfl, _, rfl, a, ha, ca, tp, n, g, o, ps, hs, us, k, ch, cv, t, rfl, N.same s12, ok, hh.same s12, vok, hc.same s12, cok, htp, g1, g2, g3, g4, k8, c0, fun cp rs H3 s3 hc3 => ?_⟩
        have s13 := s12.trans s3
        have s23 : Same H1 H3 := Same.trans s2 s3
        have lok := leanV_ok ok (turnV_ok vok cok ⟨g3, g4⟩)
        refine ⟨_, rfl, cp, _, rfl, .inr (SqT.of hc3.top), _, rfl, ca, _, rfl, .inr (SqT.of (hc.same s13).top), _, _, rfl, rfl, ?_⟩
        have rl : (rs.map V.ref).length = (leanV n (turnV ch cv t)).length := by rw [List.length_map, hc3.ts.1]
        have ul : (us.map V.ref).length = cv.length := by rw [List.length_map, hc.ts.1]
        have bad : goodT n ch d cv t = false → ∀ j u, j < i + 1 → (turnsOf (cofX n k) cv)[j]? = some u → goodT n ch d cv u = false := fun e j u hj hu => by
          by_cases z : j = i
          · rw [z, ht] at hu
            rw [← Option.some.inj hu]
            exact e
          · exact hb j u (by omega) hu
        refine ⟨_, rfl, ite2 (fun hlt => ?_) (fun hlt => iteF ?_)⟩
        · have hlt := of_decide_eq_true hlt
          rw [rl, ul] at hlt
          refine ⟨_, rfl, _, rfl, a, cp, n, g, o, ps, leanV n (turnV ch cv t), rs, rfl, N.same s13, ok.m8, hc3, dep_of ok lok k8, fun H4 s4 => ?_⟩
          have s14 := s13.trans s4
          refine ⟨_, rfl, _, _, rfl, rfl, _, rfl, ite2 (fun hd => ?_) (fun hd => ?_)⟩
          · have hg : goodT n ch d cv t = true := by
              unfold goodT
              rw [Bool.and_eq_true]
              exact ⟨decide_eq_true (by omega), hd⟩
            refine ⟨_, rfl, _, rfl, small 2, fun r nr => ?_⟩
            have s5 := Same.new (o := .tup [.ref tp, .ref cp]) nr
            exact qs' t (find_at ht hg hb) r tp cp rs _ (s14.trans s5) upd_same (TbAt.mono (fun b xs e => s5 _ _ (s4 _ _ (s3 _ _ e))) _ _ htp) ((hc3.same s4).same s5)
          · refine ⟨_, _, rfl, (Same.trans s23 s4), bad ?_⟩
            unfold goodT
            rw [Bool.and_eq_false_iff]
            exact .inr (Bool.eq_false_iff.mpr hd)
        · refine ⟨_, _, rfl, s23, bad ?_⟩
          unfold goodT
          rw [Bool.and_eq_false_iff]
          refine .inl (decide_eq_false fun z => hlt (decide_eq_true ?_))
          rw [rl, ul]
          omega
    · rintro σ H2 ⟨x5, x6, rfl, s2, hb⟩
      rw [List.length_map, pt1.1] at hb
      refine qn ?_ H2 (Same.trans s1 s2)
      unfold fstG
      rw [List.find?_eq_none]
      intro u hu
      obtain ⟨j, hj⟩ := List.getElem?_of_mem hu
      rw [hb j u (List.getElem?_eq_some_iff.mp hj).1 hj]
      decide
end
end K57
set_option Elab.async false
set_option linter.all false
set_option maxRecDepth 100000
set_option maxHeartbeats 4000000
namespace K57
open PySem PySem.Spec PyProof.Rows L2 GX
open C8 (Cal pe_c pe_gc Met Mak)
-- @alt one_deeper lst par=l[i],t[i]
-- @alt one_deeper tup par=t[i],t[i]
-- @alt one_deeper dk par=DK,t[i]
section
variable {P : Program} {w : World} {K : PySem.W.Frag} {mg : Str → Option Value} {base : Heap} {Ts : List Addr}
/-- the choices, by a function -/
def chF (chs : List Tb) (x : Nat) : List Nat := (lookC chs x).getD []
theorem chF_full {n : Net} (ok : n.Ok) {k : Nat} {ds : List Nat} {chs : List Tb} (h : ChoicesOf n k ds chs) : fullC n (chF chs) = chs ∧ VOk n k (chF chs) := by
  have cok := h.ok ok
  have hv : ∀ t ∈ chs, chF chs t.1 = t.2 := fun t ht => by
    unfold chF
    rw [look_mem cok.rise ht]
    rfl
  have r : (chs.map (·.1)).Pairwise (· < ·) := by rw [List.pairwise_map]; exact cok.rise
  refine ⟨?_, fun x h1 h2 => ?_⟩
  · rw [← tabs_full (v := chF chs) r fun x => ?_, tabs_cov cok.rise hv r fun x => by rw [List.mem_map]]
    rw [List.mem_map]
    constructor
    · rintro ⟨t, ht, rfl⟩
      exact cok.gt t ht
    · rintro ⟨h1, h2⟩
      exact h.get h1 h2
  · obtain ⟨t, ht, rfl⟩ := h.get h1 h2
    rw [hv t ht]
    exact cok.cut t ht
def spEased (Ts : List Addr) (PL : Addr) : Sp := fun vs H Q _ => ∃ (a ca : Addr) (n : Net) (g o : Addr) (ps us : List Addr) (k : Nat) (d : Int) (cv : List Tb), vs = [.ref a, nV k, .int d, .ref ca] ∧ NetAt H a n g o ps ∧ n.Ok ∧ 2 ≤ k ∧ k ≤ 8 ∧ CovAt H ca cv us ∧ CovOk n k cv ∧ Tabs Ts H ∧ LamX.TabS H PL lamQ ∧
  ∀ r H' cp tp rs ts ds chs cvE tsE, ds.length = n.many + n.gates.length → DepsTo n k ds → ChoicesOf n k ds chs → Easd n (cofX n k) (chF chs) d cv cvE tsE → H' r = some (.tup [.ref cp, .ref tp]) → CovAt H' cp cvE rs → CovAt H' tp tsE ts → AftL Ts PL lamQ H H' → Q (.ref r) H'
theorem ok_eased {f c PL : Addr} (D : Dfn K mg "eased" s_eased f c) (T : Txt mg) (c_all_cuts : Cal P w K mg base 4 "all_cuts" (spAllCuts Ts) []) (c_all_choices : Cal P w K mg base 5 "all_choices" (spAllCh Ts PL) []) (c_first_good : Cal P w K mg base 3 "first_good" spFirst []) (hPL : PL ∉ Ts) : Cal P w K mg base 6 "eased" (spEased Ts PL) [] := by
  refine cal D (fun _ _ _ _ _ _ us hl => match us, hl with | [_, _, _, _], _ => rfl) sc_eased (fun vs H Q E h => ?_) (fun A outer s H vs Q E hr h => ?_)
  · obtain ⟨a, ca, n, g, o, ps, us, k, d, cv, rfl, _⟩ := h
    rfl
  · obtain ⟨a, ca, n, g, o, ps, us, k, d, cv, rfl, N, ok, hk2, hk8, hc, cok, tb, tl, q⟩ := h
    refine ⟨_, (pss_cons (ps_set (i := 4) sc_eased.nd rfl (by first | exact Or.inl rfl | exact Or.inr rfl) (pe_c c_all_cuts hr (by decide) (by rfl) (pa_cons (pv 0) (pa_cons (pv 1) pa_nil))))
      (pss_cons (ps_set (i := 5) sc_eased.nd rfl (by first | exact Or.inl rfl | exact Or.inr rfl) (pe_c c_all_choices hr (by decide) (by rfl) (pa_cons (pv 0) (pa_cons (pv 4) pa_nil))))
      (pss_cons (ps_set (i := 6) sc_eased.nd rfl (by first | exact Or.inl rfl | exact Or.inr rfl) (pv 3))
      (pss_cons (ps_set (i := 7) sc_eased.nd rfl (by first | exact Or.inl rfl | exact Or.inr rfl) (pe_lst pa_nil))
      (pss_cons (ps_set (i := 8) sc_eased.nd rfl (by first | exact Or.inl rfl | exact Or.inr rfl) (pe_c c_first_good hr (by decide) (by rfl) (pa_cons (pv 0) (pa_cons (pv 4) (pa_cons (pv 5) (pa_cons (pv 2) (pa_cons (pv 3) pa_nil)))))))
      (pss_cons (ps_while PassesOwn.never (pt_cmpR op_notN (pv 8) pe_non (nomark _)) (pss_cons (ps_asg (pv 8) (pg_tup rfl (pgs_cons (pg_name (i := 9) sc_eased.nd rfl (by first | exact Or.inl rfl | exact Or.inr rfl)) (pgs_cons (pg_name (i := 6) sc_eased.nd rfl (by first | exact Or.inl rfl | exact Or.inr rfl)) pgs_nil))))
      (pss_cons (ps_expr (pe_bm PySem.F.plainAttrs_list PySem.F.slot_list_append PySem.F.type_list_append mt_append (pv 7) (pa_cons (pv 9) pa_nil)))
      (pss_one (ps_set (i := 8) sc_eased.nd rfl (by first | exact Or.inl rfl | exact Or.inr rfl) (pe_c c_first_good hr (by decide) (by rfl) (pa_cons (pv 0) (pa_cons (pv 4) (pa_cons (pv 5) (pa_cons (pv 2) (pa_cons (pv 6) pa_nil)))))))))))
      (pss_one (ps_ret (pe_tup (pa_cons (pv 6) (pa_cons (pe_callTy call_tuple_of (by rfl) T.b_tuple (by decide +kernel) (pa_cons (pv 7) pa_nil)) pa_nil))))))))))), ?_⟩
    refine ⟨_, rfl, _, rfl, a, n, g, o, ps, k, rfl, N, ok, hk2, by omega, tb, fun p H1 qs a1 hp pq => ?_⟩
    have b1 := AftL.of a1 tb tl hPL
    have tup1 : ∀ b xs, H b = some (.tup xs) → H1 b = some (.tup xs) := fun b xs e => b1.tup tb tl e
    refine ⟨_, rfl, _, rfl, a, p, n, g, o, ps, qs, k, rfl, N.mono tup1, ok, hk2, by omega, hp, pq, b1.tb, b1.tl, fun ha H2 hs chs ds hch dl dt cho b2 => ?_⟩
    have tup2 : ∀ b xs, H b = some (.tup xs) → H2 b = some (.tup xs) := fun b xs e => b2.tup b1.tb b1.tl (tup1 b xs e)
    have b12 := b1.trans b2
    have hp2 := b2.tup b1.tb b1.tl hp
    have pq2 := pq.mono fun q x h => CutsTold.mono h fun b xs e => b2.tup b1.tb b1.tl e
    have N2 := N.mono tup2
    have hc2 := hc.mono tup2
    obtain ⟨fu, vok⟩ := chF_full ok cho
    rw [← fu] at hch
    have clen := cok.len ok
    refine ⟨_, rfl, small 0, fun L nL => ?_⟩
    have s3 := Same.new (o := .lst []) nL
    have hL3 : upd H2 L (.lst []) L = some (.lst (([] : List Addr).map V.ref)) := upd_same
    generalize hH3 : upd H2 L (.lst []) = H3 at s3 hL3 ⊢
    have eL : ∀ b u, b ≠ L → H3 b = some u → H2 b = some u := fun b u nb e => by rw [← hH3, upd_ne nb] at e; exact e
    refine ⟨_, rfl, _, rfl, _, rfl, _, rfl, _, rfl, a, p, ha, ca, n, g, o, ps, qs, hs, us, k, chF chs, d, cv, rfl, N2.same s3, ok, s3 _ _ hp2, pq2.mono (fun q x h => CutsTold.mono h fun b xs e => s3 _ _ e), hch.same s3, vok, hc2.same s3, cok, hk2, hk8, fun v H4 s4 fnd => ?_⟩
    refine while_m (fun m σ H' => ∃ (x9 : Option V) (v : V) (ce : Addr) (rs ts : List Addr) (cvE tsE : List Tb), σ = [some (.ref a), some (nV k), some (.int d), some (.ref ca), some (.ref p), some (.ref ha), some (.ref ce), some (.ref L), some v, x9] ∧ (∀ b u, H2 b = some u → H' b = some u) ∧ H' L = some (.lst (ts.map V.ref)) ∧ PtsAt TbAt H' ts tsE ∧ CovAt H' ce cvE rs ∧ CovOk n k cvE ∧ (∀ r us, Easd n (cofX n k) (chF chs) d cvE r us → Easd n (cofX n k) (chF chs) d cv r (tsE ++ us)) ∧ cvE.length + tsE.length ≤ cv.length ∧ cvE.length = m ∧ FndAt n k (chF chs) d cvE H' v) cv.length ⟨none, v, ca, us, [], cv, [], rfl, fun b u e => s4 _ _ (s3 _ _ e), s4 _ _ hL3, PtsAt.nil _ _, (hc2.same s3).same s4, cok, fun r us e => e, Nat.le_refl _, rfl, fnd⟩ ?_
    clear hL3 hH3 eL s3 s4 fnd
    rintro m σ H5 ⟨x9, v, ce, rs, ts, cvE, tsE, rfl, s5, hL5, pt5, hc5, cok5, eas, bnd, rfl, fnd⟩
    refine ⟨_, rfl, rfl, _, rfl, ?_⟩
    rcases fnd with ⟨e, rfl⟩ | ⟨t, r, tp, cp, rs2, e, rfl, hr, htp, hcp⟩
    · rw [show (!decide (V.non = V.non)) = false by simp]
      refine iteF ?_
      refine ⟨_, rfl, _, rfl, L, _, rfl, .inl ⟨SqL.of hL5, fun q1 nq => ⟨small 2, fun q2 nq2 => ?_⟩⟩⟩
      have s6 := Same.new (o := .tup (ts.map V.ref)) nq
      have s7 := s6.trans (Same.new (o := .tup [.ref ce, .ref q1]) nq2)
      have fin := eas cvE [] (.stop e)
      rw [List.append_nil] at fin
      exact q q2 _ ce q1 rs ts ds chs cvE tsE dl dt cho fin upd_same (hc5.same s7) ⟨Same.new nq2 _ _ upd_same, pt5.mono (TbAt.mono fun b xs e => s7 _ _ e)⟩ (b12.trans (AftL.same (Same.trans s5 s7) b2.tb b2.tl))
    · rw [show (!decide (V.ref r = V.non)) = true by simp]
      refine iteT ?_
      refine ⟨_, whM, ?_⟩
      have lt5 := (fst_mem e).2
      have tok := turn_ok1 ok hk2 cok5 (fst_mem e).1
      refine ⟨_, rfl, r, _, rfl, SqT.of hr, rfl, _, _, rfl, _, _, rfl, rfl, ?_⟩
      refine ⟨_, rfl, .inl ⟨rfl, _, SqL.of hL5⟩, _, rfl, L, _, _, rfl, rfl, hL5, by rw [List.length_map, pt5.1]; exact small256 (by omega), ?_⟩
      have tp6 := tupPut (ys := ts.map V.ref ++ [.ref tp]) hL5
      have hL6 : upd H5 L (.lst (ts.map V.ref ++ [.ref tp])) L = some (.lst ((ts ++ [tp]).map V.ref)) := by rw [List.map_append]; exact upd_same
      have s6 : ∀ b u, H2 b = some u → upd H5 L (.lst (ts.map V.ref ++ [.ref tp])) b = some u := fun b u z => by
        rw [upd_ne (ne_of_none z nL)]
        exact s5 _ _ z
      generalize upd H5 L (.lst (ts.map V.ref ++ [.ref tp])) = H6 at tp6 hL6 s6 ⊢
      have hcp6 := hcp.mono tp6
      have pt6 : PtsAt TbAt H6 (ts ++ [tp]) (tsE ++ [t]) := PtsAt.push (pt5.mono (TbAt.mono tp6)) (TbAt.mono tp6 _ _ htp)
      have lok := leanV_ok ok (turnV_ok vok cok5 ⟨tok.2.2.1, tok.2.2.2⟩)
      refine ⟨_, rfl, _, rfl, _, rfl, _, rfl, _, rfl, a, p, ha, cp, n, g, o, ps, qs, hs, rs2, k, chF chs, d, leanV n (turnV (chF chs) cvE t), rfl, N2.same s6, ok, s6 _ _ hp2, pq2.mono (fun q x h => CutsTold.mono h fun b xs e => s6 _ _ e), hch.same s6, vok, hcp6, lok, hk2, hk8, fun v7 H7 s7 fnd7 => ?_⟩
      exact ⟨_, lt5, _, v7, cp, rs2, ts ++ [tp], _, tsE ++ [t], rfl, fun b u z => s7 _ _ (s6 _ _ z), s7 _ _ hL6, pt6.mono (TbAt.mono fun b xs e => s7 _ _ e), hcp6.same s7, lok, Easd.grow eas e, by rw [List.length_append]; show _ + (tsE.length + 1) ≤ _; omega, rfl, fnd7⟩
end
end K57
set_option Elab.async false
set_option linter.all false
set_option maxRecDepth 100000
set_option maxHeartbeats 4000000
/-! min(xs), xs a list of pairs (int, tuple of ints). -/
namespace GX
open PySem PySem.Spec PyProof.Rows L2 PySem.SeqAt
/-- a key: an int and a tuple of ints, told as one list -/
def KeyP (K : PySem.W.Frag) (H : Hp) (v : V) (ks : List Int) : Prop := ∃ (a c : Addr) (l : Int) (ns : List Int), v = .ref a ∧ ks = l :: ns ∧ SqT K H a [.int l, .ref c] ∧ SqT K H c (ns.map V.int)
def rLtKP (K : PySem.W.Frag) : R2 := fun x y H Q => ∃ k1 k2, KeyP K H x k1 ∧ KeyP K H y k2 ∧ Q (.bl (HT.lexLt k1 k2)) H
theorem op_ltKP {X : Cx} {K : PySem.W.Frag} (hu : X.A.units + 4 < cLine) (h : X.K = K := by rfl) : OpR X (compareOp .Lt) (rLtKP K) := by
  subst h
  intro pins s σ H x y v u Q I rx ry h
  obtain ⟨_, _, ⟨a, c, l, ns, rfl, rfl, ha, hc⟩, ⟨a2, c2, l2, ms, rfl, rfl, ha2, hc2⟩, q⟩ := h
  cases rx
  cases ry
  obtain ⟨ia, ra, pa, _⟩ := I.tuple ha
  obtain ⟨ia2, ra2, pa2, _⟩ := I.tuple ha2
  obtain ⟨ic, rc, pc, _⟩ := I.tuple hc
  obtain ⟨ic2, rc2, pc2, _⟩ := I.tuple hc2
  have jc : IntsAre ic ns := intsAre_of rc
  have jc2 : IntsAre ic2 ms := intsAre_of rc2
  obtain ⟨u2, u3, rfl, r2, r3⟩ := vals2 ra
  obtain ⟨v2, v3, rfl, q2, q3⟩ := vals2 ra2
  obtain ⟨t2, rfl⟩ := r2
  cases r3
  obtain ⟨t4, rfl⟩ := q2
  cases q3
  have hu1 : X.A.in1.units < cLine := by show X.A.units + 1 < _; omega
  have R : Ob.RcOp .Lt X.A s (.ref a) (.ref a2) (HT.lexLt (l :: ns) (l2 :: ms)) := by
    have h := Ob.RcOp.tuples_lt (A := X.A) (s := s) (e := fun j => match j with | 0 => decide (l = l2) | _ => decide (ns = ms)) (r := fun j => match j with | 0 => decide (l < l2) | _ => HT.lexLt ns ms) pa pa2 (by omega) (fun j h1 h2 => ?_) (fun j h1 h2 he => ?_)
    · have e : Ob.lexAt (fun j => match j with | 0 => decide (l = l2) | _ => decide (ns = ms)) (fun j => match j with | 0 => decide (l < l2) | _ => HT.lexLt ns ms) (decide ([Value.int l t2, .ref c].toArray.size < [Value.int l2 t4, .ref c2].toArray.size)) 0 (min [Value.int l t2, .ref c].toArray.size [Value.int l2 t4, .ref c2].toArray.size) = HT.lexLt (l :: ns) (l2 :: ms) := by
        show Ob.lexAt _ _ false 0 2 = _
        rw [Ob.lexAt_succ, Ob.lexAt_succ, Ob.lexAt_zero]
        rw [HT.lexLt_cons]
        simp only [decide_eq_true_eq]
        split
        · split
          · rename_i h3
            subst h3
            have lexSelf : ∀ xs : List Int, HT.lexLt xs xs = false := fun xs => by
              induction xs with
              | nil => rfl
              | cons x xs ih => rw [HT.lexLt_cons, if_pos rfl, ih]
            exact (lexSelf _).symm
          · rfl
        · rfl
      rw [e] at h
      exact h
    · match j, h1, h2 with
      | 0, _, _ => exact (show (l == l2) = decide (l = l2) by rw [Bool.eq_iff_iff]; simp) ▸ EqAt.int_int l t2 l2 t4
      | 1, _, _ => exact eqAt_ints pc pc2 jc jc2 hu1
    · match j, h1, h2 with
      | 0, _, _ => exact Ob.RcOp.lt_int l l2 t2 t4
      | 1, _, _ => exact fun prog w E Q h => HT.lt_tupInts pc pc2 (by simpa using jc) (by simpa using jc2) hu1 h
  exact R X.prog X.w _ _ ⟨.bl (HT.lexLt (l :: ns) (l2 :: ms)), H, I, rfl, q⟩
section
variable {X : Cx} {pins : List (Addr × Obj)} {σ : L2.St} {H : Hp} {s : Shared}
/-- min of a list of pairs -/
def rMinP (K : PySem.W.Frag) : List V → Hp → VK → Prop := fun vs H Q => ∃ (l : Addr) (xs : List V) (key : V → List Nat), vs = [.ref l] ∧ SqL K H l xs ∧ 0 < xs.length ∧ (∀ x ∈ xs, KeyP K H x ((key x).map fun n : Nat => (n : Int))) ∧ ∀ x ∈ xs, (∀ y ∈ xs, lexN (key y) (key x) = false) → Q x H
theorem cr_minP {K : PySem.W.Frag} (hh : X.A.handled = none) (hu : (in1X X).A.units + 4 < cLine) (h : X.K = K := by rfl) : CallR X (.builtin "min") (rMinP K) := by
  subst h
  intro pins s σ H vs us Q I r hq
  obtain ⟨l, xs, key, rfl, hs, h0, hk, q⟩ := hq
  obtain rfl := Vals.ref1 r
  have hx0 : xs[0]? = some xs[0] := List.getElem?_eq_getElem h0
  refine min_run0 (W := fun j b H' => H' = H ∧ b ∈ xs ∧ (∀ y ∈ xs.take j, lexN (key y) (key b) = false)) (seqL (l := l) (xs := xs)) hh (ltR_of (op_ltKP hu) σ) ⟨fun j b H' h => by rw [h.1]; exact hs, fun j b H' x hw hx => ?_, fun b H' h => ?_⟩ I hs hx0 ⟨rfl, List.getElem_mem h0, fun y hy => ?_⟩
  · obtain ⟨rfl, hb, low⟩ := hw
    have hxm := List.mem_of_getElem? hx
    refine ⟨_, _, hk x hxm, hk b hb, _, rfl, rfl, ?_⟩
    show (if lexN (key x) (key b) = true then x else b) ∈ xs ∧ _
    have et : xs.take (j + 1) = xs.take j ++ [x] := by rw [List.take_add_one, hx]; rfl
    show (if lexN (key x) (key b) = true then x else b) ∈ xs ∧ ∀ y ∈ xs.take (j + 1), lexN (key y) (key (if lexN (key x) (key b) = true then x else b)) = false
    rw [et]
    by_cases z : lexN (key x) (key b) = true
    · rw [if_pos z]
      refine ⟨hxm, fun y hy => ?_⟩
      rcases List.mem_append.mp hy with hy | hy
      · by_cases z2 : lexN (key y) (key x) = true
        · have := lexN_trans z2 z
          rw [low y hy] at this
          cases this
        · exact Bool.eq_false_iff.mpr z2
      · rw [List.mem_singleton.mp hy]
        exact lexN_irr _
    · rw [if_neg z]
      refine ⟨hb, fun y hy => ?_⟩
      rcases List.mem_append.mp hy with hy | hy
      · exact low y hy
      · rw [List.mem_singleton.mp hy]
        exact Bool.eq_false_iff.mpr z
  · obtain ⟨rfl, hb, low⟩ := h
    rw [List.take_length] at low
    exact q b hb low
  · have : xs.take 1 = [xs[0]] := by rw [List.take_add_one, hx0]; rfl
    rw [this] at hy
    rw [List.mem_singleton.mp hy]
    exact lexN_irr _
end
end GX
set_option Elab.async false
set_option linter.all false
set_option maxRecDepth 100000
set_option maxHeartbeats 4000000
namespace K57
open PySem PySem.Spec PyProof.Rows L2 GX
open C8 (Cal pe_c pe_gc Met Mak)
-- @alt one_deeper lst par=l[i],t[i]
-- @alt one_deeper tup par=t[i],t[i]
-- @alt one_deeper dk par=DK,t[i]
section
variable {P : Program} {w : World} {K : PySem.W.Frag} {mg : Str → Option Value} {base : Heap} {Ts : List Addr}
/-- the choice of a gate -/
noncomputable def chX (n : Net) (k : Nat) (ds : List Nat) (x : Nat) : List Nat := open Classical in if h : ∃ c, IsChoice n k ds x c then h.choose else []
theorem chX_is {n : Net} {k : Nat} {ds : List Nat} {x : Nat} {c : List Nat} (h : IsChoice n k ds x c) : chX n k ds x = c := by
  unfold chX
  rw [dif_pos ⟨c, h⟩]
  exact IsChoice.uniq (Exists.choose_spec (⟨c, h⟩ : ∃ c, IsChoice n k ds x c)) h
theorem chX_of {n : Net} {k : Nat} {ds : List Nat} (h : ∀ x, n.many ≤ x → x < n.many + n.gates.length → IsChoice n k ds x (chX n k ds x)) : ChoicesOf n k ds (fullC n (chX n k ds)) := by
  refine ⟨full_len, fun i t ht => ?_⟩
  have hi : i < n.gates.length := by
    have := (List.getElem?_eq_some_iff.mp ht).1
    rwa [full_len] at this
  unfold fullC at ht
  rw [List.getElem?_map, List.getElem?_range hi] at ht
  cases ht
  exact ⟨rfl, h _ (Nat.le_add_right _ _) (Nat.add_lt_add_left hi _)⟩
/-- among those no deeper than the gate, the least by its length and itself -/
theorem choice_min {n : Net} {k : Nat} {ds : List Nat} (dt : DepsTo n k ds) {g : Nat} (hg : n.many ≤ g) (hl : g < ds.length) {c : List Nat} (lc : LC n k g c) (hc : maxL (c.map fun x => ds.getD x 0) < ds.getD g 0) (low : ∀ c', LC n k g c' → maxL (c'.map fun x => ds.getD x 0) < ds.getD g 0 → lexN (c'.length :: c') (c.length :: c) = false) : IsChoice n k ds g c := by
  obtain ⟨_, h2⟩ := dt.at_ g hg hl
  refine ⟨lc, fun c' lc' => ?_⟩
  have e1 := h2 c lc
  have e2 := h2 c' lc'
  unfold keyN
  rw [lex_cons]
  by_cases e : maxL (c'.map fun x => ds.getD x 0) < ds.getD g 0
  · rw [if_pos (by omega)]
    exact low c' lc' e
  · rw [if_neg (by omega)]
    exact decide_eq_false (by omega)
/-- a row: how long a cut is, and the cut -/
def RwC (H : Hp) (p : Addr) (c : List Nat) : Prop := ∃ b, H p = some (.tup [nV c.length, .ref b]) ∧ H b = some (.tup (c.map nV))
theorem RwC.mono {H H' : Hp} (k : ∀ b xs, H b = some (.tup xs) → H' b = some (.tup xs)) (p : Addr) (c : List Nat) (x : RwC H p c) : RwC H' p c := by
  obtain ⟨b, h1, h2⟩ := x
  exact ⟨b, k _ _ h1, k _ _ h2⟩
def keyH (H : Hp) : V → List Nat
  | .ref t => match H t with
    | some (.tup [.int m, v]) => m.toNat :: tupN H v
    | _ => []
  | _ => []
theorem keyH_at {H : Hp} {p : Addr} {c : List Nat} (x : RwC H p c) : keyH H (.ref p) = c.length :: c := by
  obtain ⟨b, h1, h2⟩ := x
  show (match H p with | some (HO.tup [.int m, v]) => m.toNat :: tupN H v | _ => []) = _
  rw [h1]
  show ((c.length : Nat) : Int).toNat :: tupN H (.ref b) = _
  rw [tupN_at h2, Int.toNat_natCast]
def spChoicesE : Sp := fun vs H Q _ => ∃ (a : Addr) (n : Net) (g o : Addr) (ps : List Addr) (ca S : Addr) (qs : List Addr) (k : Nat) (kn : Addr) (ds : List Nat), vs = [.ref a, .ref ca, .ref kn] ∧ NetAt H a n g o ps ∧ n.Ok ∧ 2 ≤ k ∧ k ≤ 4 ∧ H ca = some (.lst (qs.map V.ref)) ∧ PtsAt (KTolL S n k) H qs (List.range (n.many + n.gates.length)) ∧ H kn = some (.lst (ds.map nV)) ∧ ds.length = n.many + n.gates.length ∧ DepsTo n k ds ∧
  ∀ r H' (zs : Zd), Same H H' → H r = none → TabZ H' r zs (chX n k ds) → zs.map (·.1) = (List.range n.gates.length).map (fun i => n.many + i) → ChoicesOf n k ds (fullC n (chX n k ds)) → Q (.ref r) H'
theorem ok_choicesE {f c : Addr} (D : Dfn K mg "_law_choices" s__law_choices f c) (T : Txt mg) : Cal P w K mg base 2 "_law_choices" spChoicesE [] := by
  refine cal D (fun _ _ _ _ _ _ us hl => match us, hl with | [_, _, _], _ => rfl) sc__law_choices (fun vs H Q E h => ?_) (fun A outer s H vs Q E hr h => ?_)
  · obtain ⟨a, n, g, o, ps, ca, S, qs, k, kn, ds, rfl, _⟩ := h
    rfl
  · obtain ⟨a, n, g, o, ps, ca, S, qs, k, kn, ds, rfl, N, ok, hk2, hk4, hca, PQ, hkn, dl, dt, q⟩ := h
    refine ⟨_, (pss_cons (ps_set (i := 3) sc__law_choices.nd rfl (by first | exact Or.inl rfl | exact Or.inr rfl) pe_dnewK)
      (pss_cons (ps_for PassesOwn.never rfl (pi_range2 (by rfl) T.b_range (pa_cons (pe_ix ix_tup (pv 0) pe_int (fun _ _ => rfl)) (pa_cons (pe_callB call_len_seq (by rfl) T.b_len (by decide +kernel) (pa_cons (pv 2) pa_nil)) pa_nil))) (pg_name (i := 4) sc__law_choices.nd rfl (by first | exact Or.inl rfl | exact Or.inr rfl))
        (pss_cons (ps_setLc (i := 5) (own := [("_law_cut", 6)]) (g := gName 6)  rfl sc__law_choices.nd rfl rfl (sw_true rfl rfl rfl (by decide +kernel)) (pi_list (pe_ix ix_list (pv 1) (pv 4) (fun _ _ => rfl))) (blkOk_by (own := [("_law_cut", 6)]) (N := ["_law_net_here", "_law_cuts_here", "_law_known", "_law_found", "_law_gate_here", "_law_some", "_law_cut", "_law_wire"]) (sc := defScope s__law_choices) (by decide +kernel)) (fun _ _ _ _ _ => (pg_name (i := 6) sc__law_choices.nd rfl (by first | exact Or.inl rfl | exact Or.inr rfl))) (fun _ _ _ _ _ => (pts_one (pt_cmpR op_lt (pe_callB (cr_maxK (K := K) rfl) (by rfl) T.b_max (by decide +kernel) (pa_cons (pe_lc (own := [("_law_wire", 7)]) (g := gName 7) (tt := tYes) rfl sc__law_choices.nd (pi_tupK (K := K) (pv 6)) (blkOk_by (own := [("_law_wire", 7)]) (by rfl)) (fun _ _ _ _ _ => (pg_name (i := 7) sc__law_choices.nd rfl (by first | exact Or.inl rfl | exact Or.inr rfl))) (fun _ _ _ _ _ => pts_nil) (fun _ _ _ _ _ => (pe_ix (ix_listK (K := K)) (pv 2) (pv 7) (fun _ _ => rfl)))) pa_nil)) (pe_ix (ix_listK (K := K)) (pv 2) (pv 4) (fun _ _ => rfl)) (nomark _)))) (fun _ _ _ _ _ => (pe_tup (pa_cons (pe_callB (len_seqK (K := K)) (by rfl) T.b_len (by decide +kernel) (pa_cons (pv 6) pa_nil)) (pa_cons (pv 6) pa_nil)))))
      (pss_one (ps_dput (Nat.lt_of_le_of_lt (Nat.add_le_add_left (by decide) _) hr.units) (pv 3) (pv 4) (pe_ix ix_seq (pe_callB (cr_minP hr.hd (GX.Room.u4 hr)) (by rfl) T.b_min (by decide +kernel) (pa_cons (pv 5) pa_nil)) pe_int (fun _ _ => rfl)) (by rfl)))))
      (pss_one (ps_ret (pv 3))))), ?_⟩
    have m8 := ok.m8
    have g16 := ok.g16
    have m1 := ok.m1
    refine fun r nr => ?_
    have e1 := Same.new (o := .dK []) nr
    have hr1 : upd H r (.dK []) r = some (.dK (kvY [])) := upd_same
    generalize upd H r (.dK []) = H1 at e1 hr1 ⊢
    have N1 := N.same e1
    refine ⟨_, rfl, a, _, 0, _, rfl, rfl, SqT.of N1.top, at0, _, rfl, kn, _, rfl, .inl (SqL.of (e1 _ _ hkn)), _, _, rfl, ⟨by omega, by omega, by omega, by rw [List.length_map]; omega⟩, ?_⟩
    refine for_range (lo := ((n.many : Nat) : Int)) (n := ((((ds.map nV).length : Nat) : Int) - ((n.many : Nat) : Int)).toNat) (fun j σ H' => ∃ (x4 x5 x6 x7 : Option V) (zs : Zd), σ = [some (.ref a), some (.ref ca), some (.ref kn), some (.ref r), x4, x5, x6, x7] ∧ Same H H' ∧ TabZ H' r zs (chX n k ds) ∧ zs.map (·.1) = (List.range j).map (fun i => n.many + i) ∧ ∀ i, i < j → IsChoice n k ds (n.many + i) (chX n k ds (n.many + i))) ⟨none, none, none, none, [], rfl, e1, ⟨hr1, List.nodup_nil, fun z hz => (by cases hz)⟩, rfl, fun i hi => absurd hi (Nat.not_lt_zero _)⟩ ?_ ?_
    · rintro j σ H2 hj ⟨x4, x5, x6, x7, zs, rfl, s2, tz, zk, ic⟩
      have hj' : j < n.gates.length := by
        rw [List.length_map, dl] at hj
        omega
      have hgt : n.many + j < n.many + n.gates.length := by omega
      obtain ⟨q1, eq1, q1S, rs, cs, hq1, TQ, CA, cl⟩ := PQ.get (i := n.many + j) (y := n.many + j) (by rw [List.getElem?_range hgt])
      have hq12 := s2 _ _ hq1
      have TS := TQ.mono fun b zs e => s2 _ _ e
      have ei : V.int (((n.many : Nat) : Int) + ((j : Nat) : Int)) = nV (n.many + j) := congrArg V.int (by omega)
      rw [ei]
      refine ⟨_, rfl, _, rfl, ca, _, _, _, rfl, rfl, SqL.of (s2 _ _ hca), atI_nat (j := n.many + j) eq1, q1, rfl, ⟨_, SqL.of hq12⟩, fun M nM => ?_⟩
      have fl : ∀ i, ((cs.take i).filter fun c => decide (maxL (c.map fun x => ds.getD x 0) < ds.getD (n.many + j) 0)).length ≤ cs.length := fun i => Nat.le_trans (List.length_filter_le _ _) (by rw [List.length_take]; omega)
      refine lc_list (K := K) (a := q1) (xs := rs.map V.ref) (fun i H' => ∃ us : List Addr, Own H2 H' M (us.map V.ref) ∧ PtsAt RwC H' us ((cs.take i).filter fun c => decide (maxL (c.map fun x => ds.getD x 0) < ds.getD (n.many + j) 0))) ⟨[], ⟨Same.new nM, upd_same, nM⟩, PtsAt.nil _ _⟩ (fun _ H' _ h => h.elim fun us h => SqL.of (h.1.sm _ _ hq12)) ?_ ?_
      · rintro i v H4 hv ⟨us, o4, U4⟩
        obtain ⟨tq, c', rfl, hc, hat⟩ := TS.at_ hv
        have hat4 := o4.sm _ _ hat
        have lc := (CA.mem c').mp (List.mem_of_getElem? hc)
        have c2 := lc.lt
        have c4 := lc.len
        have c3 : 0 < c'.length := Nat.pos_of_ne_zero fun z => by
          have hs := lc.sep
          rw [List.length_eq_zero_iff.mp z] at hs
          exact sep_none ok _ _ (Nat.le_refl _) hgt hs
        have tk : cs.take (i + 1) = cs.take i ++ [c'] := by rw [List.take_add_one, hc]; rfl
        refine ⟨rfl, ?_⟩
        have hkn4 := o4.sm _ _ (s2 _ _ hkn)
        refine ⟨_, rfl, tq, rfl, ⟨_, SqT.of hat4⟩, fun M2 nM2 => ?_⟩
        refine lc_tup (K := K) (a := tq) (xs := c'.map nV) (fun i H' => Own H4 H' M2 (((c'.take i).map fun x => ds.getD x 0).map nV)) ⟨Same.new nM2, upd_same, nM2⟩ (fun k H' _ o' => SqT.of (o'.sm _ _ hat4)) ?_ ?_
        · rintro i2 x H6 hx o6
          have hi2 : i2 < c'.length := by
            have := (List.getElem?_eq_some_iff.mp hx).1
            rwa [List.length_map] at this
          rw [natAt hi2] at hx
          cases hx
          refine ⟨rfl, ?_⟩
          unfold tYes
          refine iteT ?_
          refine ⟨_, rfl, _, rfl, kn, _, _, _, rfl, rfl, SqL.of (o6.sm _ _ hkn4), atI_nat (natAt (by have := c2 _ (getD_mem hi2); omega)), _, o6.at_, by rw [List.length_map, List.length_map, List.length_take]; exact small256 (by omega), ?_⟩
          have : c'.getD i2 0 = c'[i2] := by rw [List.getD_eq_getElem?_getD, List.getElem?_eq_getElem hi2]; rfl
          rw [List.take_add_one, List.getElem?_eq_getElem hi2, Option.toList_some, List.map_append, List.map_append, this]
          exact o6.app
        · rintro H6 o6
          rw [List.length_map, List.take_length] at o6
          have o7 : Own H2 H6 M (us.map V.ref) := ⟨o4.sm.trans o6.sm, o6.sm _ _ o4.at_, o4.nw⟩
          refine ⟨M2, (c'.map fun x => ds.getD x 0).map (fun n : Nat => (n : Int)), rfl, (by rw [mapV]; exact SqL.of o6.at_), by rw [List.length_map, List.length_map]; exact c3, fun m hm hb => ?_⟩
          have e := V.int.inj (max_eq hm hb)
          subst e
          refine ⟨_, rfl, _, rfl, kn, _, _, _, rfl, rfl, SqL.of (o6.sm _ _ hkn4), atI_nat (natAt (by omega)), _, _, rfl, rfl, ?_⟩
          have eq2 : (cs.take (i + 1)).filter (fun c => decide (maxL (c.map fun x => ds.getD x 0) < ds.getD (n.many + j) 0)) = (cs.take i).filter (fun c => decide (maxL (c.map fun x => ds.getD x 0) < ds.getD (n.many + j) 0)) ++ if maxL (c'.map fun x => ds.getD x 0) < ds.getD (n.many + j) 0 then [c'] else [] := by
            rw [tk, List.filter_append, List.filter_cons]
            by_cases z : maxL (c'.map fun x => ds.getD x 0) < ds.getD (n.many + j) 0
            · rw [if_pos (decide_eq_true z), if_pos z]; rfl
            · rw [if_neg (by rw [decide_eq_false z]; decide), if_neg z]; rfl
          refine ⟨_, rfl, ite2 (fun h => ?_) (fun h => ?_)⟩
          · have h := Int.ofNat_lt.mp (of_decide_eq_true h)
            rw [eq2, if_pos h]
            refine ⟨_, rfl, tq, _, rfl, .inr (SqT.of (o6.sm _ _ hat4)), _, rfl, small 2, fun tp ntp => ?_⟩
            rw [List.length_map]
            have s7 := Same.new (o := .tup [nV c'.length, .ref tq]) ntp
            have o8 : Own H2 (upd H6 tp (.tup [nV c'.length, .ref tq])) M (us.map V.ref) := ⟨o7.sm.trans s7, s7 _ _ o7.at_, o7.nw⟩
            have k8 : ∀ {b ys}, upd H6 tp (.tup [nV c'.length, .ref tq]) b = some (HO.tup ys) → ∀ o', upd (upd H6 tp (.tup [nV c'.length, .ref tq])) M (.lst o') b = some (.tup ys) := fun {b ys} e o' => by
              rw [upd_ne (fun z => by rw [z, o8.at_] at e; cases e)]
              exact e
            refine ⟨_, o8.at_, by rw [List.length_map, U4.1]; exact Nat.lt_of_le_of_lt (fl i) (Nat.lt_of_lt_of_le cl (by decide)), us ++ [tp], by rw [List.map_append]; exact o8.app, ?_⟩
            exact PtsAt.push (U4.mono (RwC.mono fun b ys e => k8 (s7 _ _ (o6.sm _ _ e)) _)) ⟨tq, k8 upd_same _, k8 (s7 _ _ (o6.sm _ _ hat4)) _⟩
          · rw [eq2, if_neg (fun z => h (decide_eq_true (Int.ofNat_lt.mpr z))), List.append_nil]
            exact ⟨us, o7, U4.mono (RwC.mono fun b ys e => o6.sm _ _ e)⟩
      · rintro H4 ⟨us, o4, U4⟩
        rw [List.length_map, TS.1, List.take_length] at U4
        obtain ⟨c0, lc0, e0⟩ := (dt.at_ (n.many + j) (Nat.le_add_right _ _) (by omega)).1
        have fpos : 0 < us.length := by
          rw [U4.1]
          exact List.length_pos_of_mem (List.mem_filter.mpr ⟨(CA.mem c0).mpr lc0, decide_eq_true (by omega)⟩)
        have rows : ∀ x ∈ us.map V.ref, ∃ p c, x = .ref p ∧ c ∈ cs ∧ maxL (c.map fun x => ds.getD x 0) < ds.getD (n.many + j) 0 ∧ RwC H4 p c := fun x hx => by
          obtain ⟨p, hp, rfl⟩ := List.mem_map.mp hx
          obtain ⟨i, hi⟩ := List.getElem?_of_mem hp
          have hil : i < (cs.filter fun c => decide (maxL (c.map fun x => ds.getD x 0) < ds.getD (n.many + j) 0)).length := by
            rw [← U4.1]
            exact (List.getElem?_eq_some_iff.mp hi).1
          have hc := List.getElem?_eq_getElem hil
          obtain ⟨m1, m2⟩ := List.mem_filter.mp (List.mem_of_getElem? hc)
          exact ⟨p, _, rfl, m1, of_decide_eq_true m2, U4.2 i p _ hi hc⟩
        refine ⟨_, rfl, M, us.map V.ref, keyH H4, rfl, SqL.of o4.at_, by rw [List.length_map]; exact fpos, fun x hx => ?_, fun x hx low => ?_⟩
        · obtain ⟨p, c, rfl, _, _, rw_⟩ := rows x hx
          rw [keyH_at rw_]
          obtain ⟨b, h1, h2⟩ := rw_
          exact ⟨p, b, _, c.map fun n : Nat => (n : Int), rfl, rfl, SqT.of h1, by rw [mapV]; exact SqT.of h2⟩
        · obtain ⟨p, c, rfl, hcm, hcl, rw_⟩ := rows x hx
          have ic2 : IsChoice n k ds (n.many + j) c := choice_min dt (Nat.le_add_right _ _) (by omega) ((CA.mem c).mp hcm) hcl fun c' lc' h' => by
            obtain ⟨i, hi⟩ := List.getElem?_of_mem (show c' ∈ cs.filter (fun c => decide (maxL (c.map fun x => ds.getD x 0) < ds.getD (n.many + j) 0)) from List.mem_filter.mpr ⟨(CA.mem c').mpr lc', decide_eq_true h'⟩)
            have hil : i < us.length := by
              rw [U4.1]
              exact (List.getElem?_eq_some_iff.mp hi).1
            have r' := U4.2 i _ c' (List.getElem?_eq_getElem hil) hi
            have := low _ (List.mem_map.mpr ⟨_, List.getElem_mem hil, rfl⟩)
            rw [keyH_at r', keyH_at rw_] at this
            exact this
          obtain ⟨b, h1, h2⟩ := rw_
          have ech := chX_is ic2
          have hr4 := o4.sm _ _ tz.at_
          have zn : n.many + j ∉ zs.map (·.1) := fun z => by
            rw [zk] at z
            obtain ⟨i, hi, e⟩ := List.mem_map.mp z
            have := List.mem_range.mp hi
            omega
          have zl : zs.length = j := by
            have := congrArg List.length zk
            rwa [List.length_map, List.length_map, List.length_range] at this
          refine .inr (.inl ⟨p, _, 1, _, rfl, rfl, SqT.of h1, at1, _, rfl, _, rfl, r, _, rfl, DPut.k (k := nK (n.many + j)) hr4 (small256 (by rw [kvY_len]; omega)), ?_⟩)
          rw [kvY_put tz.ok]
          refine ⟨_, _, _, _, zdPut zs (n.many + j) b, rfl, fun b u e => ?_, (tz.mono (fun b xs e => o4.sm _ _ e) hr4).put (by rw [ech]; exact h2), ?_, fun i hi => ?_⟩
          · rw [upd_ne (ne_of_none e nr)]
            exact o4.sm _ _ (s2 _ _ e)
          · rw [zdPut_new zn, List.map_append, zk, List.range_succ, List.map_append]
            rfl
          · by_cases e : i = j
            · rw [e, ech]
              exact ic2
            · exact ic i (by omega)
    · rintro σ H2 ⟨x4, x5, x6, x7, zs, rfl, s2, tz, zk, ic⟩
      rw [List.length_map, dl] at zk ic
      have el : (((n.many + n.gates.length : Nat) : Int) - ((n.many : Nat) : Int)).toNat = n.gates.length := by omega
      rw [el] at zk ic
      refine ⟨_, rfl, ?_⟩
      exact q r H2 zs s2 nr tz zk (chX_of fun x h1 h2 => by
        have := ic (x - n.many) (by omega)
        rwa [show n.many + (x - n.many) = x by omega] at this)
end
end K57
set_option Elab.async false
set_option linter.all false
set_option maxRecDepth 100000
set_option maxHeartbeats 4000000
namespace K57
open PySem PySem.Spec PyProof.Rows L2 GX
open C8 (Cal pe_c pe_gc Met Mak)
-- @alt one_deeper lst par=l[i],t[i]
-- @alt one_deeper tup par=t[i],t[i]
-- @alt one_deeper dk par=DK,t[i]
section
variable {P : Program} {w : World} {K : PySem.W.Frag} {mg : Str → Option Value} {base : Heap} {Ts : List Addr}
/-- a table's cut where it has one, else the choice -/
def overV (zt : Zd) (vt vc : Nat → List Nat) (x : Nat) : List Nat := if x ∈ zt.map (·.1) then vt x else vc x
def spNeeded : Sp := fun vs H Q _ => ∃ (a td cd : Addr) (n : Net) (g o : Addr) (ps : List Addr) (k : Nat) (zt zc : Zd) (vt vc : Nat → List Nat), vs = [.ref a, .ref td, .ref cd] ∧ NetAt H a n g o ps ∧ n.Ok ∧ k ≤ 8 ∧ TabZ H td zt vt ∧ TabZ H cd zc vc ∧ (∀ x, n.many ≤ x → x < n.many + n.gates.length → x ∈ zc.map (·.1)) ∧ VOk n k (overV zt vt vc) ∧
  ∀ r H' (zs : Zd), Same H H' → H r = none → TabZ H' r zs (overV zt vt vc) → (∀ x, x ∈ zs.map (·.1) ↔ Need n (fullC n (overV zt vt vc)) x) → Q (.ref r) H'
theorem ok_needed {f c : Addr} (D : Dfn K mg "_law_needed" s__law_needed f c) (T : Txt mg) : Cal P w K mg base 1 "_law_needed" spNeeded [] := by
  refine cal D (fun _ _ _ _ _ _ us hl => match us, hl with | [_, _, _], _ => rfl) sc__law_needed (fun vs H Q E h => ?_) (fun A outer s H vs Q E hr h => ?_)
  · obtain ⟨a, td, cd, n, g, o, ps, k, zt, zc, vt, vc, rfl, _⟩ := h
    rfl
  · obtain ⟨a, td, cd, n, g, o, ps, k, zt, zc, vt, vc, rfl, N, ok, hk, tt, tc, call, vok, q⟩ := h
    have m8 := ok.m8
    have g16 := ok.g16
    have o8 := ok.o8
    refine ⟨_, (pss_cons (ps_set (i := 3) sc__law_needed.nd rfl (by first | exact Or.inl rfl | exact Or.inr rfl) pe_dnewK)
      (pss_cons (ps_setLc (i := 4) (own := [("_law_wire", 5)]) (g := gName 5)  rfl sc__law_needed.nd rfl rfl (sw_true rfl rfl rfl (by decide +kernel)) (pi_tup (pe_ix ix_tup (pv 0) pe_int (fun _ _ => rfl))) (blkOk_by (own := [("_law_wire", 5)]) (N := ["_law_net_here", "_law_table", "_law_chosen", "_law_found", "_law_waiting", "_law_wire", "_law_gate_here"]) (sc := defScope s__law_needed) (by decide +kernel)) (fun _ _ _ _ _ => (pg_name (i := 5) sc__law_needed.nd rfl (by first | exact Or.inl rfl | exact Or.inr rfl))) (fun _ _ _ _ _ => (pts_one (pt_cmpR op_ge (pv 5) (pe_ix (ix_tupK (K := K)) (pv 0) pe_int (fun _ _ => rfl)) (nomark _)))) (fun _ _ _ _ _ => (pv 5)))
      (pss_cons (ps_while PassesOwn.never (pt_cmpR (op_neD hr.units) (pv 4) (pe_lst pa_nil) (nomark _)) (pss_cons (ps_set (i := 6) sc__law_needed.nd rfl (by first | exact Or.inl rfl | exact Or.inr rfl) (pe_bm0 PySem.F.plainAttrs_list PySem.F.slot_list_pop PySem.F.type_list_pop mt_pop (pv 4)))
      (pss_one (ps_if (pt_cmp (pc_dnotin (Nat.lt_of_le_of_lt (Nat.add_le_add_left (by decide) _) hr.units) (pv 6) (pv 3))) (pss_cons (ps_dput (Nat.lt_of_le_of_lt (Nat.add_le_add_left (by decide) _) hr.units) (pv 3) (pv 6) (pe_dget2 (Nat.lt_of_le_of_lt (Nat.add_le_add_left (by decide) _) hr.units) (pv 1) (pv 6) (pe_dget (Nat.lt_of_le_of_lt (Nat.add_le_add_left (by decide) _) hr.units) (pv 2) (pv 6) (fun _ _ => rfl)) ⟨rfl, rfl, rfl, rfl⟩) (by rfl))
      (pss_one (ps_expr (pe_bm PySem.F.plainAttrs_list PySem.F.slot_list_extend PySem.F.type_list_extend mt_extend (pv 4) (pa_cons (pe_lc (own := [("_law_wire", 5)]) (g := gName 5)  rfl sc__law_needed.nd (pi_tup (pe_dget (Nat.lt_of_le_of_lt (Nat.add_le_add_left (by decide) _) hr.units) (pv 3) (pv 6) (fun _ _ => rfl))) (blkOk_by (own := [("_law_wire", 5)]) (N := ["_law_net_here", "_law_table", "_law_chosen", "_law_found", "_law_waiting", "_law_wire", "_law_gate_here"]) (sc := defScope s__law_needed) (by decide +kernel)) (fun _ _ _ _ _ => (pg_name (i := 5) sc__law_needed.nd rfl (by first | exact Or.inl rfl | exact Or.inr rfl))) (fun _ _ _ _ _ => (pts_one (pt_cmpR op_ge (pv 5) (pe_ix (ix_tupK (K := K)) (pv 0) pe_int (fun _ _ => rfl)) (nomark _)))) (fun _ _ _ _ _ => (pv 5))) pa_nil))))) pss_nil))))
      (pss_one (ps_ret (pv 3)))))), ?_⟩
    refine fun d nd => ?_
    have s1 := Same.new (o := .dK []) nd
    have hd1 : upd H d (.dK []) d = some (.dK (kvY [])) := upd_same
    generalize upd H d (.dK []) = H1 at s1 hd1 ⊢
    have N1 := N.same s1
    refine ⟨_, rfl, a, _, 2, _, rfl, rfl, SqT.of N1.top, at2, o, rfl, ⟨_, SqT.of N1.ot⟩, fun L nL => ?_⟩
    refine lc_tup (K := K) (a := o) (xs := n.outs.map nV) (fun i H' => Own H1 H' L (((n.outs.take i).filter fun x => decide (n.many ≤ x)).map nV)) ⟨Same.new nL, upd_same, nL⟩ (fun i H' _ h => SqT.of (h.sm _ _ N1.ot)) ?_ ?_
    · rintro i x H2 hx o2
      have hi : i < n.outs.length := by
        have := (List.getElem?_eq_some_iff.mp hx).1
        rwa [List.length_map] at this
      rw [natAt hi] at hx
      cases hx
      refine ⟨rfl, ?_⟩
      have ew : n.outs[i]? = some (n.outs.getD i 0) := by rw [List.getD_eq_getElem?_getD, List.getElem?_eq_getElem hi]; rfl
      generalize n.outs.getD i 0 = x at ew ⊢
      refine ⟨_, rfl, _, rfl, a, _, 0, _, rfl, rfl, SqT.of (N1.same o2.sm).top, at0, _, _, rfl, rfl, _, rfl, ?_⟩
      rw [List.take_add_one, ew, Option.toList_some, List.filter_append, List.filter_cons]
      refine ite2 (fun h => ?_) (fun h => ?_)
      · rw [if_pos (decide_eq_true (Int.ofNat_le.mp (of_decide_eq_true h)))]
        refine ⟨_, rfl, _, o2.at_, by rw [List.length_map]; exact Nat.lt_of_le_of_lt (List.length_filter_le _ _) (small256 (by rw [List.length_take]; omega)), ?_⟩
        rw [List.map_append]
        exact o2.app
      · rw [if_neg (fun z => h (decide_eq_true (Int.ofNat_le.mpr (of_decide_eq_true z))))]
        rw [List.filter_nil, List.append_nil]
        exact o2
    rintro H2 o2
    rw [List.length_map, List.take_length] at o2
    have L0 : H L = none := Same.was s1 o2.nw
    have dL : d ≠ L := fun z => by rw [z, o2.nw] at hd1; cases hd1
    refine while_m (fun m σ H' => ∃ (x5 x6 : Option V) (zs : Zd) (ws : List Nat), σ = [some (.ref a), some (.ref td), some (.ref cd), some (.ref d), some (.ref L), x5, x6] ∧ (∀ b u, H b = some u → H' b = some u) ∧ TabZ H' d zs (overV zt vt vc) ∧ H' L = some (.lst (ws.map nV)) ∧ (∀ x ∈ zs.map (·.1), Need n (fullC n (overV zt vt vc)) x) ∧ (∀ x ∈ ws, Need n (fullC n (overV zt vt vc)) x) ∧ ws.length ≤ 8 + 8 * zs.length ∧ (∀ x ∈ n.outs, n.many ≤ x → x ∈ zs.map (·.1) ∨ x ∈ ws) ∧ (∀ y ∈ zs.map (·.1), ∀ x ∈ overV zt vt vc y, n.many ≤ x → x ∈ zs.map (·.1) ∨ x ∈ ws) ∧ m = ws.length + 9 * (24 - zs.length)) _ ⟨none, none, [], n.outs.filter fun x => decide (n.many ≤ x), rfl, fun b u e => o2.sm _ _ (s1 _ _ e), ⟨o2.sm _ _ hd1, List.nodup_nil, fun z hz => (by cases hz)⟩, o2.at_, fun x hx => (by cases hx), fun x hx => .out (List.mem_filter.mp hx).1 (of_decide_eq_true (List.mem_filter.mp hx).2), Nat.le_trans (List.length_filter_le _ _) (by omega), fun x hx hm => .inr (List.mem_filter.mpr ⟨hx, decide_eq_true hm⟩), fun y hy => (by cases hy), rfl⟩ ?_
    clear o2 hd1 N1 s1
    rintro m σ H3 ⟨x5, x6, zs, ws, rfl, s3, tz, hL3, zn, wn, wlen, outs, clo, rfl⟩
    have needlt : ∀ x, Need n (fullC n (overV zt vt vc)) x → n.many ≤ x ∧ x < n.many + n.gates.length := fun x hx => by
      obtain ⟨t, ht, rfl⟩ := hx.tab (full_ok ok vok)
      exact ⟨(full_mem.mp ht).1, (full_mem.mp ht).2.1⟩
    have fl : zs.length ≤ 24 := by
      have := nodup_lt (m := n.many + n.gates.length) tz.ok fun y hy => (needlt y (zn y hy)).2
      rw [List.length_map] at this
      omega
    refine ⟨_, rfl, small 0, fun zz nz => ?_⟩
    have s4 := Same.new (o := .lst []) nz
    refine ⟨.list (natsD ws), .list [], .lst (SqL.of (s4 _ _ hL3)) (dpNat K _ _), .lst (SqL.of upd_same) .nil, natsD_lst _, by decide, _, rfl, ?_⟩
    have ee : (!PyData.eqv (.list (natsD ws)) (.list [])) = !decide (ws = []) := by
      rw [show PyData.eqv (.list (natsD ws)) (.list []) = decide (ws = []) from natsD_eqL ws []]
    rw [ee]
    have hL4 := s4 _ _ hL3
    have tz4 := tz.same s4
    have s34 : ∀ b u, H b = some u → upd H3 zz (.lst []) b = some u := fun b u e => s4 _ _ (s3 _ _ e)
    generalize upd H3 zz (.lst []) = H4 at s34 hL4 tz4 ⊢
    by_cases gq : ws = []
    · rw [decide_eq_true gq]
      refine iteF ?_
      subst gq
      refine ⟨_, rfl, ?_⟩
      refine q d H4 zs s34 nd tz4 fun x => ⟨fun h => zn x h, fun h => ?_⟩
      induction h with
      | out h1 h2 => exact (outs _ h1 h2).resolve_right (fun z => by cases z)
      | step h1 _ h3 h4 ih =>
        rw [(full_mem.mp h1).2.2] at h3
        exact (clo _ ih _ h3 h4).resolve_right (fun z => by cases z)
    · rw [decide_eq_false gq]
      refine iteT ?_
      obtain ⟨ms, y, rfl⟩ : ∃ ms y, ws = ms ++ [y] := ⟨ws.dropLast, ws.getLast gq, (List.dropLast_concat_getLast _).symm⟩
      have ql : (ms ++ [y]).length = ms.length + 1 := by rw [List.length_append]; rfl
      have em : (ms ++ [y]).map nV = ms.map nV ++ [nV y] := by rw [List.map_append]; rfl
      refine ⟨_, whM, ?_⟩
      refine ⟨_, rfl, .inl ⟨rfl, _, SqL.of hL4⟩, L, _, nV y, rfl, rfl, hL4, ?_, ?_⟩
      · rw [em, List.length_append, List.getElem?_append_right (by show _ ≤ _; simp)]
        simp
      rw [em, List.dropLast_concat]
      have s5 : ∀ b u, H b = some u → upd H4 L (.lst (ms.map nV)) b = some u := fun b u e => by
        rw [upd_ne (ne_of_none e L0)]
        exact s34 b u e
      have tz5 : TabZ (upd H4 L (.lst (ms.map nV))) d zs (overV zt vt vc) := tz4.mono (fun b xs e => by
        rw [upd_ne fun z => by rw [z, hL4] at e; cases e]
        exact e) (by rw [upd_ne dL]; exact tz4.at_)
      have hL5 : upd H4 L (.lst (ms.map nV)) L = some (.lst (ms.map nV)) := upd_same
      generalize upd H4 L (.lst (ms.map nV)) = H5 at s5 tz5 hL5 ⊢
      have yn := wn y (List.mem_append_right _ (List.mem_singleton.mpr rfl))
      obtain ⟨ym, ylt⟩ := needlt y yn
      have cut : ∀ {x : Nat}, (x ∈ zs.map (·.1) ∨ x ∈ ms ++ [y]) → (x = y ∨ x ∈ zs.map (·.1) ∨ x ∈ ms) := fun {x} h => by
        rcases h with h | h
        · exact .inr (.inl h)
        · rcases List.mem_append.mp h with h | h
          · exact .inr (.inr h)
          · exact .inl (List.mem_singleton.mp h)
      refine ⟨_, rfl, _, rfl, d, _, rfl, DGet.k (k := nK y) tz5.at_, _, rfl, ?_⟩
      rw [kvY_some]
      by_cases yz : y ∈ zs.map (·.1)
      · rw [decide_eq_true yz]
        refine iteF ?_
        have c2 : ∀ {x : Nat}, (x ∈ zs.map (·.1) ∨ x ∈ ms ++ [y]) → (x ∈ zs.map (·.1) ∨ x ∈ ms) := fun {x} h => (cut h).elim (fun e => .inl (by rw [e]; exact yz)) id
        exact ⟨_, by rw [ql]; omega, _, _, zs, ms, rfl, s5, tz5, hL5, zn, fun x hx => wn x (List.mem_append_left _ hx), by rw [ql] at wlen; omega, fun x hx hm => c2 (outs x hx hm), fun u hu x hx hm => c2 (clo u hu x hx hm), rfl⟩
      · rw [decide_eq_false yz]
        refine iteT ?_
        obtain ⟨zy, hzy, ezy⟩ := List.mem_map.mp (call y ym ylt)
        have gc : valV (kvY zc) (nK y) = some (.ref zy.2) := by
          rw [← show zy.1 = y from ezy]
          exact kvY_get tc.ok hzy
        have hcc : H zy.2 = some (.tup ((vc y).map nV)) := by
          rw [← show zy.1 = y from ezy]
          exact tc.cut zy hzy
        obtain ⟨rr, e1, e2⟩ : ∃ rr : Addr, (valV (kvY zt) (nK y)).getD (V.ref zy.2) = V.ref rr ∧ H rr = some (.tup ((overV zt vt vc y).map nV)) := by
          unfold overV
          by_cases yt : y ∈ zt.map (·.1)
          · obtain ⟨zq, hzq, ezq⟩ := List.mem_map.mp yt
            rw [if_pos yt, ← show zq.1 = y from ezq, kvY_get tt.ok hzq]
            exact ⟨_, rfl, tt.cut zq hzq⟩
          · rw [if_neg yt]
            have : valV (kvY zt) (nK y) = none := by
              have := kvY_some (zs := zt) (x := y)
              rw [decide_eq_false yt] at this
              cases e : valV (kvY zt) (nK y) with
              | none => rfl
              | some v => rw [e] at this; cases this
            rw [this]
            exact ⟨_, rfl, hcc⟩
        have dgc := DGet.k (k := nK y) (s5 _ _ tc.at_)
        rw [gc] at dgc
        refine ⟨_, rfl, td, rfl, .inl ⟨_, .inl (s5 _ _ tt.at_)⟩, _, rfl, _, rfl, _, rfl, cd, _, rfl, dgc, _, DGet.k (k := nK y) (s5 _ _ tt.at_), ?_⟩
        rw [e1]
        refine ⟨_, rfl, _, rfl, d, _, rfl, DPut.k (k := nK y) tz5.at_ (small256 (by rw [kvY_len]; omega)), ?_⟩
        rw [kvY_put tz5.ok]
        have tz6 := tz5.put (x := y) (c := rr) (s5 _ _ e2)
        have s6 : ∀ b u, H b = some u → upd H5 d (.dK (kvY (zdPut zs y rr))) b = some u := fun b u e => by
          rw [upd_ne (ne_of_none e nd)]
          exact s5 b u e
        have hL6 : upd H5 d (.dK (kvY (zdPut zs y rr))) L = some (.lst (ms.map nV)) := by rw [upd_ne (Ne.symm dL)]; exact hL5
        have e26 := s6 _ _ e2
        generalize upd H5 d (.dK (kvY (zdPut zs y rr))) = H6 at tz6 s6 hL6 e26 ⊢
        have pl : (zdPut zs y rr).length = zs.length + 1 := by rw [zdPut_new yz, List.length_append]; rfl
        have dg6 := DGet.k (k := nK y) tz6.at_
        rw [kvY_val, zdGet_put, if_pos rfl] at dg6
        have clen : (overV zt vt vc y).length ≤ 8 := by have := (vok y ym ylt).2; omega
        have zn6 : ∀ x ∈ (zdPut zs y rr).map (·.1), Need n (fullC n (overV zt vt vc)) x := fun x hx => by
          rcases zdPut_iff.mp hx with e | e
          · rw [e]; exact yn
          · exact zn x e
        have fl6 : (zdPut zs y rr).length ≤ 24 := by
          have := nodup_lt (m := n.many + n.gates.length) tz6.ok fun y hy => (needlt y (zn6 y hy)).2
          rw [List.length_map] at this
          omega
        have N6 : NetAt H6 a n g o ps := N.mono fun b xs e => s6 _ _ e
        refine ⟨_, rfl, .inl ⟨rfl, _, SqL.of hL6⟩, _, rfl, _, rfl, d, _, rfl, dg6, rr, rfl, ⟨_, SqT.of e26⟩, fun M nM => ?_⟩
        refine lc_tup (K := K) (a := rr) (xs := (overV zt vt vc y).map nV) (fun i H' => Own H6 H' M ((((overV zt vt vc y).take i).filter fun x => decide (n.many ≤ x)).map nV)) ⟨Same.new nM, upd_same, nM⟩ (fun i H' _ h => SqT.of (h.sm _ _ e26)) ?_ ?_
        · rintro i x H7 hx o7
          have hi : i < (overV zt vt vc y).length := by
            have := (List.getElem?_eq_some_iff.mp hx).1
            rwa [List.length_map] at this
          rw [natAt hi] at hx
          cases hx
          refine ⟨rfl, ?_⟩
          have ew : (overV zt vt vc y)[i]? = some ((overV zt vt vc y).getD i 0) := by rw [List.getD_eq_getElem?_getD, List.getElem?_eq_getElem hi]; rfl
          generalize (overV zt vt vc y).getD i 0 = x at ew ⊢
          refine ⟨_, rfl, _, rfl, a, _, 0, _, rfl, rfl, SqT.of (N6.same o7.sm).top, at0, _, _, rfl, rfl, _, rfl, ?_⟩
          rw [List.take_add_one, ew, Option.toList_some, List.filter_append, List.filter_cons]
          refine ite2 (fun h => ?_) (fun h => ?_)
          · rw [if_pos (decide_eq_true (Int.ofNat_le.mp (of_decide_eq_true h)))]
            refine ⟨_, rfl, _, o7.at_, by rw [List.length_map]; exact Nat.lt_of_le_of_lt (List.length_filter_le _ _) (small256 (by rw [List.length_take]; omega)), ?_⟩
            rw [List.map_append]
            exact o7.app
          · rw [if_neg (fun z => h (decide_eq_true (Int.ofNat_le.mpr (of_decide_eq_true z))))]
            rw [List.filter_nil, List.append_nil]
            exact o7
        · rintro H7 o7
          rw [List.length_map, List.take_length] at o7
          have fle : ((overV zt vt vc y).filter fun x => decide (n.many ≤ x)).length ≤ 8 := Nat.le_trans (List.length_filter_le _ _) clen
          have hL7 := o7.sm _ _ hL6
          refine ⟨L, M, _, _, rfl, rfl, hL7, o7.at_, by rw [List.length_map, List.length_map]; rw [ql] at wlen; exact Nat.le_of_lt (small256 (by omega)), ?_⟩
          rw [← List.map_append]
          have tz8 : TabZ (upd H7 L (.lst ((ms ++ (overV zt vt vc y).filter fun x => decide (n.many ≤ x)).map nV))) d (zdPut zs y rr) (overV zt vt vc) := (tz6.same o7.sm).mono (fun b xs e => by
            rw [upd_ne fun z => by rw [z, hL7] at e; cases e]
            exact e) (by rw [upd_ne dL]; exact o7.sm _ _ tz6.at_)
          refine ⟨_, ?_, _, _, zdPut zs y rr, ms ++ (overV zt vt vc y).filter fun x => decide (n.many ≤ x), rfl, fun b u e => ?_, tz8, upd_same, zn6, fun x hx => ?_, ?_, fun x hx hm => ?_, fun u hu x hx hm => ?_, rfl⟩
          · rw [ql, pl, List.length_append]
            rw [pl] at fl6
            omega
          · rw [upd_ne (ne_of_none e L0)]
            exact o7.sm _ _ (s6 _ _ e)
          · rcases List.mem_append.mp hx with h | h
            · exact wn x (List.mem_append_left _ h)
            · obtain ⟨h1, h2⟩ := List.mem_filter.mp h
              exact .step (t := (y, overV zt vt vc y)) (full_mem.mpr ⟨ym, ylt, rfl⟩) yn h1 (of_decide_eq_true h2)
          · rw [pl, List.length_append]
            rw [ql] at wlen
            omega
          · rcases cut (outs x hx hm) with h | h | h
            · exact .inl (zdPut_iff.mpr (.inl h))
            · exact .inl (zdPut_iff.mpr (.inr h))
            · exact .inr (List.mem_append_left _ h)
          · rcases zdPut_iff.mp hu with e | e
            · rw [e] at hx
              exact .inr (List.mem_append_right _ (List.mem_filter.mpr ⟨hx, decide_eq_true hm⟩))
            · rcases cut (clo u e x hx hm) with h | h | h
              · exact .inl (zdPut_iff.mpr (.inl h))
              · exact .inl (zdPut_iff.mpr (.inr h))
              · exact .inr (List.mem_append_left _ h)
end
end K57
set_option Elab.async false
set_option linter.all false
set_option maxRecDepth 100000
set_option maxHeartbeats 4000000
namespace K57
open PySem PySem.Spec PyProof.Rows L2 GX
open C8 (Cal pe_c pe_gc Met Mak)
-- @alt one_deeper lst par=l[i],t[i]
-- @alt one_deeper tup par=t[i],t[i]
-- @alt one_deeper dk par=DK,t[i]
theorem nd_fold {α : Type} {p : Nd → Prop} {f : Nd → α → Nd} : ∀ {l : List α} {ns : Nd}, (∀ acc x, x ∈ l → p acc → p (f acc x)) → p ns → p (l.foldl f ns)
  | [], _, _, h => h
  | x :: l, ns, hf, h => nd_fold (l := l) (fun acc y hy => hf acc y (List.mem_cons_of_mem _ hy)) (hf ns x List.mem_cons_self h)
theorem fold_hit {α : Type} {p : Nd → Prop} {f : Nd → α → Nd} {x : α} (hk : ∀ acc y, p acc → p (f acc y)) (hx : ∀ acc, p (f acc x)) : ∀ {l : List α} {ns : Nd}, x ∈ l → p (l.foldl f ns)
  | [], _, h => (by cases h)
  | y :: l, ns, h => by
    show p (l.foldl f (f ns y))
    rcases List.mem_cons.mp h with e | e
    · rw [← e]
      exact nd_fold (p := p) (fun acc z _ h => hk acc z h) (hx ns)
    · exact fold_hit hk hx e
theorem getD_some {ns : Nd} {g : Nat} {d : Int} (h : ndGet ns g = some d) : some (V.int d) = valV (kvI ns) (nK g) := by rw [kvI_val, h]; rfl
section
variable {P : Program} {w : World} {K : PySem.W.Frag} {mg : Str → Option Value} {base : Heap} {Ts : List Addr}
theorem pairs_kv {K : PySem.W.Frag} {H1 : Hp} {f : Nat → Int} : ∀ (us : List Addr) (ws : List Nat), RefsAt (fun w : Nat => [nV w, V.int (f w)]) H1 us ws → Paired (fun p kv => SqT K H1 p [kV kv.1, kv.2]) us (kvI (ws.map fun o => (o, f o))) := by
  intro us
  induction us with
  | nil =>
    intro ws R
    have : ws = [] := List.length_eq_zero_iff.mp R.1.symm
    subst this
    exact .nil
  | cons u r ih =>
    intro ws R
    match ws, R with
    | [], R => cases R.1
    | y :: ws, R =>
      exact .cons (SqT.of (R.2 0 u y rfl rfl)) (ih ws ⟨Nat.succ.inj R.1, fun i p x e1 e2 => R.2 (i + 1) p x e1 e2⟩)
/-- depths as a dict -/
structure DpD (n : Net) (cv : List Tb) (i : Nat) (ms : Nd) : Prop where
  ok : NdOk ms
  ln : ms.length ≤ 8 + i
  low : ∀ x, x < n.many → ndGet ms x = some 0
  at_ : ∀ t ∈ cv.take i, ndGet ms t.1 = some ((dMap cv t.1 : Nat) : Int)
theorem DpD.get {n : Net} {k : Nat} {cv : List Tb} {i : Nat} {ms : Nd} (h : DpD n cv i ms) (cok : CovOk n k cv) {x : Nat} (hx : x < n.many ∨ ∃ t ∈ cv.take i, t.1 = x) : ndGet ms x = some ((dMap cv x : Nat) : Int) := by
  rcases hx with hx | ⟨t, ht, rfl⟩
  · rw [h.low x hx, dMap_out x fun t ht => by have := (cok.gt t ht).1; omega]
    rfl
  · exact h.at_ t ht
theorem put_ln (ms : Nd) (w : Nat) (d : Int) : (ndPut ms w d).length ≤ ms.length + 1 := by
  have : (ndPut ms w d).length = ((ndPut ms w d).map (·.1)).length := (List.length_map _).symm
  rw [this, ndPut_keys]
  split
  · rw [List.length_map]; omega
  · rw [List.length_append, List.length_map]; exact Nat.le_refl _
theorem fold_ln : ∀ (l ns : Nd), (l.foldl (fun acc e => ndPut acc e.1 e.2) ns).length ≤ ns.length + l.length
  | [], _ => Nat.le_refl _
  | e :: r, ns => by
    have h1 := fold_ln r (ndPut ns e.1 e.2)
    have h2 := put_ln ns e.1 e.2
    show (r.foldl (fun acc e => ndPut acc e.1 e.2) (ndPut ns e.1 e.2)).length ≤ _
    rw [List.length_cons]
    omega
end
section
variable {P : Program} {w : World} {K : PySem.W.Frag} {mg : Str → Option Value} {base : Heap} {Ts : List Addr}
/-- a dict of tables, and the cover that it tells -/
structure TbOf (H : Hp) (d : Addr) (zs : Zd) (v : Nat → List Nat) (cv : List Tb) : Prop where
  tz : TabZ H d zs v
  ks : ∀ x, x ∈ zs.map (·.1) ↔ ∃ t ∈ cv, t.1 = x
  vs : ∀ t ∈ cv, v t.1 = t.2
theorem TbOf.same {H H' : Hp} {d : Addr} {zs : Zd} {v : Nat → List Nat} {cv : List Tb} (h : TbOf H d zs v cv) (s : Same H H') : TbOf H' d zs v cv := ⟨h.tz.same s, h.ks, h.vs⟩
theorem TbOf.mono {H H' : Hp} {d : Addr} {zs : Zd} {v : Nat → List Nat} {cv : List Tb} (h : TbOf H d zs v cv) (m : ∀ b xs, H b = some (.tup xs) → H' b = some (.tup xs)) (hd : H' d = some (.dK (kvY zs))) : TbOf H' d zs v cv := ⟨h.tz.mono m hd, h.ks, h.vs⟩
theorem kvY_keys (zs : Zd) : (kvY zs).map (·.1) = ((zs.map (·.1)).map fun x : Nat => (x : Int)).map Sum.inl := by
  unfold kvY
  rw [List.map_map, List.map_map, List.map_map]
  rfl
/-- the gates of a cover, sorted -/
theorem TbOf.keys {H : Hp} {d : Addr} {zs : Zd} {v : Nat → List Nat} {cv : List Tb} (h : TbOf H d zs v cv) (r : cv.Pairwise fun a b => a.1 < b.1) {ys : List Int} (pm : ys.Perm ((zs.map (·.1)).map fun x : Nat => (x : Int))) (srt : ys.Pairwise (· ≤ ·)) : ys = (cv.map (·.1)).map fun x : Nat => (x : Int) := by
  obtain ⟨xs, rfl, xpm⟩ : ∃ xs : List Nat, ys = xs.map (fun x : Nat => (x : Int)) ∧ xs.Perm (zs.map (·.1)) := by
    refine ⟨ys.map Int.toNat, ?_, ?_⟩
    · rw [List.map_map]
      conv => lhs; rw [← List.map_id ys]
      refine List.map_congr_left fun y hy => ?_
      obtain ⟨z, _, rfl⟩ := List.mem_map.mp (pm.mem_iff.mp hy)
      rfl
    · have := pm.map Int.toNat
      rw [List.map_map (l := zs.map (·.1))] at this
      have ei : (Int.toNat ∘ fun x : Nat => (x : Int)) = id := by funext x; simp
      rw [ei, List.map_id] at this
      exact this
  have xr : xs.Pairwise (· < ·) := by
    have h1 : xs.Pairwise (· ≤ ·) := (List.pairwise_map.mp srt).imp fun h => by omega
    have h2 : xs.Pairwise (· ≠ ·) := List.nodup_iff_pairwise_ne.mp (xpm.nodup_iff.mpr h.tz.ok)
    exact h1.imp₂ (fun a b h h' => by omega) h2
  rw [rise_eq xr (by rw [List.pairwise_map]; exact r : (cv.map (·.1)).Pairwise (· < ·)) fun x => by rw [xpm.mem_iff, h.ks, List.mem_map]]
theorem TbOf.len {H : Hp} {d : Addr} {zs : Zd} {v : Nat → List Nat} {cv : List Tb} (h : TbOf H d zs v cv) (r : cv.Pairwise fun a b => a.1 < b.1) : zs.length = cv.length := by
  have h1 := h.tz.ok.length_le_of_subset (l₂ := cv.map (·.1)) fun x hx => List.mem_map.mpr ((h.ks x).mp hx)
  have h2 := (rise_nodup r).length_le_of_subset (l₂ := zs.map (·.1)) fun x hx => (h.ks x).mpr (List.mem_map.mp hx)
  rw [List.length_map, List.length_map] at h1 h2
  omega
theorem TbOf.get {H : Hp} {d : Addr} {zs : Zd} {v : Nat → List Nat} {cv : List Tb} (h : TbOf H d zs v cv) {t : Tb} (ht : t ∈ cv) : ∃ r, valV (kvY zs) (nK t.1) = some (.ref r) ∧ H r = some (.tup (t.2.map nV)) := by
  obtain ⟨z, hz, e⟩ := List.mem_map.mp ((h.ks t.1).mpr ⟨t, ht, rfl⟩)
  refine ⟨z.2, ?_, ?_⟩
  · rw [← show z.1 = t.1 from e]
    exact kvY_get h.tz.ok hz
  · have := h.tz.cut z hz
    rw [show z.1 = t.1 from e, h.vs t ht] at this
    exact this
def spLDepE : Sp := fun vs H Q _ => ∃ (a td : Addr) (n : Net) (g o : Addr) (ps : List Addr) (k : Nat) (zs : Zd) (v : Nat → List Nat) (cv : List Tb), vs = [.ref a, .ref td] ∧ NetAt H a n g o ps ∧ n.Ok ∧ k ≤ 8 ∧ TbOf H td zs v cv ∧ CovOk n k cv ∧ ∀ H', Same H H' → Q (nV (depC n cv)) H'
theorem ok_ldepE {f c : Addr} (D : Dfn K mg "_law_depth" s__law_depth f c) (T : Txt mg) : Cal P w K mg base 1 "_law_depth" spLDepE [] := by
  refine cal D (fun _ _ _ _ _ _ us hl => match us, hl with | [_, _], _ => rfl) sc__law_depth (fun vs H Q E h => ?_) (fun A outer s H vs Q E hr h => ?_)
  · obtain ⟨a, td, n, g, o, ps, k, zs, v, cv, rfl, _⟩ := h
    rfl
  · obtain ⟨a, td, n, g, o, ps, k, zs, v, cv, rfl, N, ok, hk, tt, cok, q⟩ := h
    have m8 := ok.m8
    have g16 := ok.g16
    have o8 := ok.o8
    have ok' := dep_of ok cok hk
    refine ⟨_, (pss_cons (ps_set (i := 2) sc__law_depth.nd rfl (by first | exact Or.inl rfl | exact Or.inr rfl) (pe_callTy (call_dictP rfl) (by rfl) T.b_dict (by decide +kernel) (pa_cons (pe_lc (own := [("_law_wire", 3)]) (g := gName 3) (tt := tYes) rfl sc__law_depth.nd (pi_range1 (by rfl) T.b_range (pa_cons (pe_ix ix_tup (pv 0) pe_int (fun _ _ => rfl)) pa_nil)) (blkOk_by (own := [("_law_wire", 3)]) (N := ["_law_net_here", "_law_table", "_law_deep", "_law_wire", "_law_gate_here"]) (sc := defScope s__law_depth) (by decide +kernel)) (fun _ _ _ _ _ => (pg_name (i := 3) sc__law_depth.nd rfl (by first | exact Or.inl rfl | exact Or.inr rfl))) (fun _ _ _ _ _ => pts_nil) (fun _ _ _ _ _ => (pe_tup (pa_cons (pv 3) (pa_cons pe_int pa_nil))))) pa_nil)))
      (pss_cons (ps_for PassesOwn.never rfl (pi_list (pe_callB (call_sortedDI rfl) (by rfl) T.b_sorted (by decide +kernel) (pa_cons (pv 1) pa_nil))) (pg_name (i := 4) sc__law_depth.nd rfl (by first | exact Or.inl rfl | exact Or.inr rfl))
        (pss_one (ps_dput (Nat.lt_of_le_of_lt (Nat.add_le_add_left (by decide) _) hr.units) (pv 2) (pv 4) (pe_op op_add pe_int (pe_callB (cr_max rfl) (by rfl) T.b_max (by decide +kernel) (pa_cons (pe_lc (own := [("_law_wire", 3)]) (g := gName 3) (tt := tYes) rfl sc__law_depth.nd (pi_tup (pe_dget (Nat.lt_of_le_of_lt (Nat.add_le_add_left (by decide) _) hr.units) (pv 1) (pv 4) (fun _ _ => rfl))) (blkOk_by (own := [("_law_wire", 3)]) (N := ["_law_net_here", "_law_table", "_law_deep", "_law_wire", "_law_gate_here"]) (sc := defScope s__law_depth) (by decide +kernel)) (fun _ _ _ _ _ => (pg_name (i := 3) sc__law_depth.nd rfl (by first | exact Or.inl rfl | exact Or.inr rfl))) (fun _ _ _ _ _ => pts_nil) (fun _ _ _ _ _ => (pe_dget (Nat.lt_of_le_of_lt (Nat.add_le_add_left (by decide) _) hr.units) (pv 2) (pv 3) (fun _ _ => rfl)))) pa_nil))) (by rfl))))
      (pss_one (ps_ret (pe_callB (cr_max rfl) (by rfl) T.b_max (by decide +kernel) (pa_cons (pe_lc (own := [("_law_wire", 3)]) (g := gName 3) (tt := tYes) rfl sc__law_depth.nd (pi_tup (pe_ix ix_tup (pv 0) pe_int (fun _ _ => rfl))) (blkOk_by (own := [("_law_wire", 3)]) (N := ["_law_net_here", "_law_table", "_law_deep", "_law_wire", "_law_gate_here"]) (sc := defScope s__law_depth) (by decide +kernel)) (fun _ _ _ _ _ => (pg_name (i := 3) sc__law_depth.nd rfl (by first | exact Or.inl rfl | exact Or.inr rfl))) (fun _ _ _ _ _ => pts_nil) (fun _ _ _ _ _ => (pe_dget (Nat.lt_of_le_of_lt (Nat.add_le_add_left (by decide) _) hr.units) (pv 2) (pv 3) (fun _ _ => rfl)))) pa_nil)))))), ?_⟩
    have ris : Ris cv := ok'.ris
    have c24 := cok.len ok
    have zl := tt.len cok.rise
    refine ⟨_, rfl, a, _, 0, _, rfl, rfl, SqT.of N.top, at0, _, rfl, by omega, by omega, fun M nM => ?_⟩
    refine lc_range (lo := 0) (fun i H' => ∃ us : List Addr, Own H H' M (us.map V.ref) ∧ us.length ≤ i ∧ RefsAt (fun w : Nat => [nV w, V.int 0]) H' us (List.range i)) ⟨[], ⟨Same.new nM, upd_same, nM⟩, Nat.le_refl _, RefsAt.nil _ _⟩ ?_ ?_
    · rintro i H1 hi ⟨us, o1, ul, R1⟩
      rw [Int.toNat_natCast] at hi
      refine ⟨rfl, ?_⟩
      unfold tYes
      refine iteT ?_
      refine ⟨_, rfl, small 2, fun p np => ?_⟩
      have s2 := Same.new (o := .tup [V.int (0 + ((i : Nat) : Int)), V.int 0]) np
      have hL2 := s2 _ _ o1.at_
      have e0 : V.int (0 + ((i : Nat) : Int)) = nV i := congrArg V.int (Int.zero_add _)
      rw [e0] at s2 hL2 ⊢
      refine ⟨_, hL2, by rw [List.length_map]; exact small256 (by omega), us ++ [p], ?_, by rw [List.length_append]; exact Nat.succ_le_succ ul, ?_⟩
      · rw [List.map_append]
        exact Own.app ⟨o1.sm.trans s2, hL2, nM⟩
      · have up : ∀ b xs, upd H1 p (.tup [nV i, V.int 0]) b = some (.tup xs) → upd (upd H1 p (.tup [nV i, V.int 0])) M (.lst (us.map V.ref ++ [V.ref p])) b = some (.tup xs) := fun b xs e => by
          rw [upd_ne (fun z => by rw [z, hL2] at e; cases e)]
          exact e
        rw [List.range_succ]
        exact (R1.mono fun b xs e => up _ _ (s2 _ _ e)).push (y := i) (up _ _ upd_same)
    rintro H7 ⟨us, o7, ul, R7⟩
    rw [Int.toNat_natCast] at ul R7
    refine ⟨M, us, kvI ((List.range n.many).map fun o => (o, (0 : Int))), rfl, SqL.of o7.at_, pairs_kv (f := fun _ => 0) us _ R7, fun p np => ?_⟩
    have e := kvI_merge (more := (List.range n.many).map fun o => (o, (0 : Int))) (ns := []) List.nodup_nil
    rw [show mergeK [] _ = kvI (((List.range n.many).map fun o => (o, (0 : Int))).foldl (fun acc e => ndPut acc e.1 e.2) []) from e]
    have D0 : DpD n cv 0 (((List.range n.many).map fun o => (o, (0 : Int))).foldl (fun acc e => ndPut acc e.1 e.2) []) := by
      refine ⟨nd_fold (p := NdOk) (fun acc x _ h => h.put _ _) List.nodup_nil, ?_, fun x hx => ?_, fun t ht => (by cases ht)⟩
      · have := fold_ln ((List.range n.many).map fun o => (o, (0 : Int))) []
        rw [List.length_map, List.length_range] at this
        have e0 : ([] : Nd).length = 0 := rfl
        omega
      · rw [List.foldl_map]
        refine fold_hit (p := fun m => ndGet m x = some 0) (x := x) (fun acc y h => ?_) (fun acc => by rw [ndGet_put, if_pos rfl]) (List.mem_range.mpr hx)
        rw [ndGet_put]
        split
        · rfl
        · exact h
    generalize (((List.range n.many).map fun o => (o, (0 : Int))).foldl (fun acc e => ndPut acc e.1 e.2) []) = ms0 at D0 ⊢
    have s8 := o7.sm.trans (Same.new (o := .dK (kvI ms0)) np)
    have nP : H p = none := Same.was o7.sm np
    have hp8 : upd H7 p (.dK (kvI ms0)) p = some (.dK (kvI ms0)) := upd_same
    generalize upd H7 p (.dK (kvI ms0)) = H8 at s8 hp8 ⊢
    refine ⟨_, rfl, td, kvY zs, (zs.map (·.1)).map (fun x : Nat => (x : Int)), rfl, .inl (s8 _ _ tt.tz.at_), kvY_keys zs, by rw [List.length_map, List.length_map]; omega, fun ys sp pm srt nsp => ?_⟩
    obtain rfl := tt.keys cok.rise pm srt
    have s9 := s8.trans (Same.new (o := .lst (((cv.map (·.1)).map fun x : Nat => (x : Int)).map V.int)) nsp)
    have hp9 := (Same.new (o := .lst (((cv.map (·.1)).map fun x : Nat => (x : Int)).map V.int)) nsp) _ _ hp8
    have hsp : upd H8 sp (.lst (((cv.map (·.1)).map fun x : Nat => (x : Int)).map V.int)) sp = some (.lst ((cv.map (·.1)).map nV)) := by rw [upd_same, mapV]
    generalize upd H8 sp (.lst (((cv.map (·.1)).map fun x : Nat => (x : Int)).map V.int)) = H9 at s9 hp9 hsp ⊢
    have spp : p ≠ sp := fun z => by rw [z, hsp] at hp9; cases hp9
    refine ⟨sp, rfl, ⟨_, SqL.of hsp⟩, ?_⟩
    refine for_list (K := K) (a := sp) (xs := (cv.map (·.1)).map nV) (fun i σ H' => ∃ (x3 x4 : Option V) (ms : Nd), σ = [some (.ref a), some (.ref td), some (.ref p), x3, x4] ∧ Same H H' ∧ H' sp = some (.lst ((cv.map (·.1)).map nV)) ∧ H' p = some (.dK (kvI ms)) ∧ DpD n cv i ms) ⟨_, _, ms0, rfl, s9, hsp, hp9, D0⟩ ?_ ?_ ?_
    · rintro i σ H' _ ⟨_, _, _, _, _, h, _⟩
      exact SqL.of h
    · rintro i x σ H10 hx ⟨x3, x4, ms, rfl, sm, hs10, hp10, DD⟩
      have hil : i < cv.length := by
        have := (List.getElem?_eq_some_iff.mp hx).1
        rwa [List.length_map, List.length_map] at this
      obtain ⟨t, ht⟩ : ∃ t, cv[i]? = some t := ⟨_, List.getElem?_eq_getElem hil⟩
      have ex : x = nV t.1 := by
        rw [List.getElem?_map, List.getElem?_map, ht] at hx
        cases hx
        rfl
      subst ex
      have htm := List.mem_of_getElem? ht
      obtain ⟨gm, gl⟩ := cok.gt t htm
      obtain ⟨cut, ck⟩ := cok.cut t htm
      obtain ⟨rt, hgz, hzc⟩ := tt.get htm
      have hzc10 := sm _ _ hzc
      refine ⟨_, rfl, _, rfl, td, _, rfl, .inl ⟨kvY zs, nK t.1, .inl (sm _ _ tt.tz.at_), rfl, hgz.symm⟩, rt, rfl, ⟨_, SqT.of hzc10⟩, fun M2 nM2 => ?_⟩
      refine lc_tup (K := K) (a := rt) (xs := t.2.map nV) (fun j H' => Own H10 H' M2 (((t.2.take j).map fun x => dMap cv x).map nV)) ⟨Same.new nM2, upd_same, nM2⟩ (fun _ H' _ o' => SqT.of (o'.sm _ _ hzc10)) ?_ ?_
      · rintro j x H3 hx o3
        have hj : j < t.2.length := by
          have := (List.getElem?_eq_some_iff.mp hx).1
          rwa [List.length_map] at this
        rw [natAt hj] at hx
        cases hx
        have hxm := getD_mem hj
        have hg : ndGet ms (t.2.getD j 0) = some ((dMap cv (t.2.getD j 0) : Nat) : Int) := DD.get cok (by
          by_cases hm : n.many ≤ t.2.getD j 0
          · exact .inr (ok'.ahead ht _ hxm hm)
          · exact .inl (by omega))
        refine ⟨rfl, ?_⟩
        unfold tYes
        refine iteT ?_
        refine ⟨_, rfl, _, rfl, p, _, rfl, .inl ⟨kvI ms, nK (t.2.getD j 0), .inl (o3.sm _ _ hp10), rfl, getD_some hg⟩, _, o3.at_, by rw [List.length_map, List.length_map, List.length_take]; exact small256 (by omega), ?_⟩
        have : t.2.getD j 0 = t.2[j] := by rw [List.getD_eq_getElem?_getD, List.getElem?_eq_getElem hj]; rfl
        rw [List.take_add_one, List.getElem?_eq_getElem hj, Option.toList_some, List.map_append, List.map_append, ← this]
        exact o3.app
      rintro H3 o3
      rw [List.length_map, List.take_length] at o3
      refine ⟨M2, (t.2.map fun x => dMap cv x).map (fun n : Nat => (n : Int)), rfl, (by rw [mapV]; exact SqL.of o3.at_), by rw [List.length_map, List.length_map]; exact cut.ne, fun m hm hb => ?_⟩
      have e : V.int m = nV (maxL (t.2.map fun x => dMap cv x)) := max_eq hm hb
      have em : m = ((maxL (t.2.map fun x => dMap cv x) : Nat) : Int) := V.int.inj e
      have ed : (1 : Int) + m = ((dMap cv t.1 : Nat) : Int) := by
        rw [dMap_in ris t htm, em]
        show 1 + ((maxL (t.2.map (dMap cv)) : Nat) : Int) = _
        omega
      refine ⟨_, _, rfl, rfl, ?_⟩
      dsimp -proj only
      rw [ed]
      have hp3 := o3.sm _ _ hp10
      refine ⟨_, rfl, _, rfl, p, _, rfl, .inl ⟨kvI ms, nK t.1, hp3, rfl, by rw [kvI_len]; have := DD.ln; exact small256 (by omega), rfl⟩, ?_⟩
      refine ⟨_, _, ndPut ms t.1 ((dMap cv t.1 : Nat) : Int), rfl, fun b u e => ?_, by rw [upd_ne spp.symm]; exact o3.sm _ _ hs10, ?_, DD.ok.put _ _, ?_, fun x hx => ?_, fun u hu => ?_⟩
      · rw [upd_ne (ne_of_none e nP)]
        exact o3.sm _ _ (sm b u e)
      · rw [upd_same, kvI_put DD.ok]
      · have := DD.ln
        have := put_ln ms t.1 ((dMap cv t.1 : Nat) : Int)
        omega
      · rw [ndGet_put, if_neg (by omega)]
        exact DD.low x hx
      · rw [ndGet_put]
        split
        · rename_i z
          rw [z]
        · rename_i z
          rw [List.take_add_one, ht, Option.toList_some] at hu
          rcases List.mem_append.mp hu with h | h
          · exact DD.at_ u h
          · rw [List.mem_singleton.mp h] at z
            exact absurd rfl z
    · rintro σ H10 ⟨x3, x4, ms, rfl, sm, hs10, hp10, DD⟩
      have N10 := N.same sm
      rw [List.length_map, List.length_map] at DD
      refine ⟨_, rfl, a, _, 2, _, rfl, rfl, SqT.of N10.top, at2, o, rfl, ⟨_, SqT.of N10.ot⟩, fun M2 nM2 => ?_⟩
      refine lc_tup (K := K) (a := o) (xs := n.outs.map nV) (fun j H' => Own H10 H' M2 (((n.outs.take j).map fun x => dMap cv x).map nV)) ⟨Same.new nM2, upd_same, nM2⟩ (fun _ H' _ o' => SqT.of (o'.sm _ _ N10.ot)) ?_ ?_
      · rintro j x H3 hx o3
        have hj : j < n.outs.length := by
          have := (List.getElem?_eq_some_iff.mp hx).1
          rwa [List.length_map] at this
        rw [natAt hj] at hx
        cases hx
        have hg : ndGet ms (n.outs.getD j 0) = some ((dMap cv (n.outs.getD j 0) : Nat) : Int) := DD.get cok (by
          by_cases hm : n.many ≤ n.outs.getD j 0
          · obtain ⟨u, hu, e⟩ := cok.outs _ (getD_mem hj) hm
            exact .inr ⟨u, by rw [List.take_length]; exact hu, e⟩
          · exact .inl (by omega))
        refine ⟨rfl, ?_⟩
        unfold tYes
        refine iteT ?_
        refine ⟨_, rfl, _, rfl, p, _, rfl, .inl ⟨kvI ms, nK (n.outs.getD j 0), .inl (o3.sm _ _ hp10), rfl, getD_some hg⟩, _, o3.at_, by rw [List.length_map, List.length_map, List.length_take]; exact small256 (by omega), ?_⟩
        have : n.outs.getD j 0 = n.outs[j] := by rw [List.getD_eq_getElem?_getD, List.getElem?_eq_getElem hj]; rfl
        rw [List.take_add_one, List.getElem?_eq_getElem hj, Option.toList_some, List.map_append, List.map_append, ← this]
        exact o3.app
      rintro H3 o3
      rw [List.length_map, List.take_length] at o3
      refine ⟨M2, (n.outs.map fun x => dMap cv x).map (fun n : Nat => (n : Int)), rfl, (by rw [mapV]; exact SqL.of o3.at_), by rw [List.length_map, List.length_map]; exact ok.o1, fun m hm hb => ?_⟩
      have e : V.int m = nV (depC n cv) := max_eq hm hb
      have em := V.int.inj e
      subst em
      exact q H3 (sm.trans o3.sm)
end
end K57
set_option Elab.async false
set_option linter.all false
set_option maxRecDepth 100000
set_option maxHeartbeats 4000000
namespace K57
open PySem PySem.Spec PyProof.Rows L2 GX
open C8 (Cal pe_c pe_gc Met Mak)
-- @alt one_deeper lst par=l[i],t[i]
-- @alt one_deeper tup par=t[i],t[i]
-- @alt one_deeper dk par=DK,t[i]
section
variable {P : Program} {w : World} {K : PySem.W.Frag} {mg : Str → Option Value} {base : Heap} {Ts : List Addr}
def spLCovE : Sp := fun vs H Q _ => ∃ (td : Addr) (zs : Zd) (v : Nat → List Nat) (cv : List Tb), vs = [.ref td] ∧ TbOf H td zs v cv ∧ (cv.Pairwise fun a b => a.1 < b.1) ∧ cv.length ≤ 24 ∧ ∀ p H' rs, Same H H' → CovAt H' p cv rs → Q (.ref p) H'
theorem ok_lcovE {f c : Addr} (D : Dfn K mg "_law_cover" s__law_cover f c) (T : Txt mg) : Cal P w K mg base 1 "_law_cover" spLCovE [] := by
  refine cal D (fun _ _ _ _ _ _ us hl => match us, hl with | [_], _ => rfl) sc__law_cover (fun vs H Q E h => ?_) (fun A outer s H vs Q E hr h => ?_)
  · obtain ⟨td, zs, v, cv, rfl, _⟩ := h
    rfl
  · obtain ⟨td, zs, v, cv, rfl, tt, rise, c24, q⟩ := h
    have zl := tt.len rise
    refine ⟨_, (pss_one (ps_ret (pe_callTy call_tuple_of (by rfl) T.b_tuple (by decide +kernel) (pa_cons (pe_lc (own := [("_law_gate_here", 1)]) (g := gName 1) (tt := tYes) rfl sc__law_cover.nd (pi_list (pe_callB (call_sortedDI rfl) (by rfl) T.b_sorted (by decide +kernel) (pa_cons (pv 0) pa_nil))) (blkOk_by (own := [("_law_gate_here", 1)]) (N := ["_law_table", "_law_gate_here"]) (sc := defScope s__law_cover) (by decide +kernel)) (fun _ _ _ _ _ => (pg_name (i := 1) sc__law_cover.nd rfl (by first | exact Or.inl rfl | exact Or.inr rfl))) (fun _ _ _ _ _ => pts_nil) (fun _ _ _ _ _ => (pe_tup (pa_cons (pv 1) (pa_cons (pe_dget (Nat.lt_of_le_of_lt (Nat.add_le_add_left (by decide) _) hr.units) (pv 0) (pv 1) (fun _ _ => rfl)) pa_nil))))) pa_nil)))), ?_⟩
    refine ⟨_, rfl, td, kvY zs, (zs.map (·.1)).map (fun x : Nat => (x : Int)), rfl, .inl tt.tz.at_, kvY_keys zs, by rw [List.length_map, List.length_map]; omega, fun ys sp pm srt nsp => ?_⟩
    obtain rfl := tt.keys rise pm srt
    have s1 := Same.new (o := .lst (((cv.map (·.1)).map fun x : Nat => (x : Int)).map V.int)) nsp
    have hsp : upd H sp (.lst (((cv.map (·.1)).map fun x : Nat => (x : Int)).map V.int)) sp = some (.lst ((cv.map (·.1)).map nV)) := by rw [upd_same, mapV]
    generalize upd H sp (.lst (((cv.map (·.1)).map fun x : Nat => (x : Int)).map V.int)) = H1 at s1 hsp ⊢
    refine ⟨sp, rfl, ⟨_, SqL.of hsp⟩, fun M nM => ?_⟩
    refine lc_list (K := K) (a := sp) (xs := (cv.map (·.1)).map nV) (fun i H' => ∃ us : List Addr, Own H1 H' M (us.map V.ref) ∧ PtsAt TbAt H' us (cv.take i)) ⟨[], ⟨Same.new nM, upd_same, nM⟩, PtsAt.nil _ _⟩ (fun _ H' _ h => h.elim fun us h => SqL.of (h.1.sm _ _ hsp)) ?_ ?_
    · rintro i x H2 hx ⟨us, o2, U2⟩
      have hil : i < cv.length := by
        have := (List.getElem?_eq_some_iff.mp hx).1
        rwa [List.length_map, List.length_map] at this
      obtain ⟨t, ht⟩ : ∃ t, cv[i]? = some t := ⟨_, List.getElem?_eq_getElem hil⟩
      have ex : x = nV t.1 := by
        rw [List.getElem?_map, List.getElem?_map, ht] at hx
        cases hx
        rfl
      subst ex
      obtain ⟨rt, hgz, hzc⟩ := tt.get (List.mem_of_getElem? ht)
      refine ⟨rfl, ?_⟩
      unfold tYes
      refine iteT ?_
      refine ⟨_, rfl, _, rfl, _, rfl, td, _, rfl, .inl ⟨kvY zs, nK t.1, .inl (o2.sm _ _ (s1 _ _ tt.tz.at_)), rfl, hgz.symm⟩, small 2, fun tp ntp => ?_⟩
      have s7 := Same.new (o := .tup [nV t.1, .ref rt]) ntp
      have o7 : Own H1 (upd H2 tp (.tup [nV t.1, .ref rt])) M (us.map V.ref) := ⟨o2.sm.trans s7, s7 _ _ o2.at_, o2.nw⟩
      have k7 : ∀ {b ys}, upd H2 tp (.tup [nV t.1, .ref rt]) b = some (HO.tup ys) → ∀ o', upd (upd H2 tp (.tup [nV t.1, .ref rt])) M (.lst o') b = some (.tup ys) := fun {b ys} e o' => by
        rw [upd_ne (fun z => by rw [z, o7.at_] at e; cases e)]
        exact e
      refine ⟨_, o7.at_, by rw [List.length_map, U2.1, List.length_take]; exact small256 (by omega), us ++ [tp], by rw [List.map_append]; exact o7.app, ?_⟩
      rw [List.take_add_one, ht, Option.toList_some]
      exact PtsAt.push (U2.mono (TbAt.mono fun b ys e => k7 (s7 _ _ e) _)) ⟨rt, k7 upd_same _, k7 (s7 _ _ (o2.sm _ _ (s1 _ _ hzc))) _⟩
    · rintro H2 ⟨us, o2, U2⟩
      rw [List.length_map, List.length_map, List.take_length] at U2
      refine ⟨M, _, rfl, .inl ⟨SqL.of o2.at_, fun p np => ?_⟩⟩
      have s3 := Same.new (o := .tup (us.map V.ref)) np
      exact q p _ us ((s1.trans o2.sm).trans s3) ⟨upd_same, U2.mono (TbAt.mono fun b ys e => s3 _ _ e)⟩
theorem over_turn {H : Hp} {td : Addr} {zt : Zd} {vt ch : Nat → List Nat} {cv : List Tb} (tt : TbOf H td zt vt cv) (r : cv.Pairwise fun a b => a.1 < b.1) {t : Tb} {c : Addr} : overV (zdPut zt t.1 c) (fun x => if x = t.1 then t.2 else vt x) ch = turnV ch cv t := by
  funext x
  unfold overV turnV coverV
  by_cases e : x = t.1
  · rw [if_pos (zdPut_iff.mpr (.inl e))]
    show (if x = t.1 then t.2 else vt x) = _
    rw [if_pos e, if_pos e]
  · rw [if_neg e]
    by_cases h : x ∈ zt.map (·.1)
    · rw [if_pos (zdPut_iff.mpr (.inr h))]
      show (if x = t.1 then t.2 else vt x) = _
      rw [if_neg e]
      obtain ⟨u, hu, rfl⟩ := (tt.ks x).mp h
      rw [look_mem r hu, tt.vs u hu]
      rfl
    · rw [if_neg (fun z => (zdPut_iff.mp z).elim e h)]
      cases g : lookC cv x with
      | none => rfl
      | some d => exact absurd ((tt.ks x).mpr ⟨_, look_some g, rfl⟩) h
theorem lean_tab {H : Hp} {r : Addr} {zs : Zd} {n : Net} (ok : n.Ok) {k : Nat} {v : Nat → List Nat} (vok : VOk n k v) (tz : TabZ H r zs v) (kn : ∀ x, x ∈ zs.map (·.1) ↔ Need n (fullC n v) x) : TbOf H r zs v (leanV n v) := ⟨tz, fun x => (kn x).trans (lean_need ok vok).symm, fun t ht => lean_val ht⟩
def spLTurned : Sp := fun vs H Q _ => ∃ (a td cd c : Addr) (n : Net) (g o : Addr) (ps : List Addr) (k : Nat) (zt zc : Zd) (vt ch : Nat → List Nat) (cv : List Tb) (t : Tb), vs = [.ref a, .ref td, .ref cd, nV t.1, .ref c] ∧ NetAt H a n g o ps ∧ n.Ok ∧ k ≤ 8 ∧ TbOf H td zt vt cv ∧ CovOk n k cv ∧ TabZ H cd zc ch ∧ (∀ x, n.many ≤ x → x < n.many + n.gates.length → x ∈ zc.map (·.1)) ∧ VOk n k ch ∧ H c = some (.tup (t.2.map nV)) ∧ CutOk n t.1 t.2 ∧ t.2.length ≤ k ∧
  ∀ r H' (zs : Zd), Same H H' → H r = none → TbOf H' r zs (turnV ch cv t) (leanV n (turnV ch cv t)) → Q (.ref r) H'
theorem ok_lturned {f c : Addr} (D : Dfn K mg "_law_turned" s__law_turned f c) (T : Txt mg) (c__law_needed : Cal P w K mg base 1 "_law_needed" spNeeded []) : Cal P w K mg base 2 "_law_turned" spLTurned [] := by
  refine cal D (fun _ _ _ _ _ _ us hl => match us, hl with | [_, _, _, _, _], _ => rfl) sc__law_turned (fun vs H Q E h => ?_) (fun A outer s H vs Q E hr h => ?_)
  · obtain ⟨a, td, cd, c, n, g, o, ps, k, zt, zc, vt, ch, cv, t, rfl, _⟩ := h
    rfl
  · obtain ⟨a, td, cd, c, n, g, o, ps, k, zt, zc, vt, ch, cv, t, rfl, N, ok, hk, tt, cok, tc, call, vok, hc, t1, t2, q⟩ := h
    have zl := tt.len cok.rise
    have c24 := cok.len ok
    refine ⟨_, (pss_cons (ps_set (i := 5) sc__law_turned.nd rfl (by first | exact Or.inl rfl | exact Or.inr rfl) (pe_callTy call_dictD (by rfl) T.b_dict (by decide +kernel) (pa_cons (pv 1) pa_nil)))
      (pss_cons (ps_dput (Nat.lt_of_le_of_lt (Nat.add_le_add_left (by decide) _) hr.units) (pv 5) (pv 3) (pv 4) (by rfl))
      (pss_one (ps_ret (pe_c c__law_needed hr (by decide) (by rfl) (pa_cons (pv 0) (pa_cons (pv 5) (pa_cons (pv 2) pa_nil)))))))), ?_⟩
    refine ⟨_, rfl, td, _, rfl, .inl tt.tz.at_, fun m nm => ?_⟩
    have s1 := Same.new (o := .dK (kvY zt)) nm
    have hm1 : upd H m (.dK (kvY zt)) m = some (.dK (kvY zt)) := upd_same
    generalize upd H m (.dK (kvY zt)) = H1 at s1 hm1 ⊢
    refine ⟨_, rfl, _, rfl, _, rfl, m, _, rfl, DPut.k (k := nK t.1) hm1 (small256 (by rw [kvY_len]; omega)), ?_⟩
    rw [kvY_put tt.tz.ok]
    have s2 : Same H (upd H1 m (.dK (kvY (zdPut zt t.1 c)))) := fun b u e => by
      rw [upd_ne (ne_of_none e nm)]
      exact s1 _ _ e
    have tz2 : TabZ (upd H1 m (.dK (kvY (zdPut zt t.1 c)))) m (zdPut zt t.1 c) (fun x => if x = t.1 then t.2 else vt x) := by
      refine ⟨upd_same, tt.tz.ok.put _ _, fun z hz => ?_⟩
      rcases zdPut_mem tt.tz.ok hz with e | ⟨e, ne⟩
      · rw [e]
        show _ = some (HO.tup ((if t.1 = t.1 then t.2 else vt t.1).map nV))
        rw [if_pos rfl]
        exact s2 _ _ hc
      · rw [if_neg ne]
        exact s2 _ _ (tt.tz.cut z e)
    generalize upd H1 m (.dK (kvY (zdPut zt t.1 c))) = H2 at s2 tz2 ⊢
    have ov := over_turn tt cok.rise (ch := ch) (t := t) (c := c)
    have vok2 := turnV_ok vok cok ⟨t1, t2⟩
    refine ⟨_, rfl, _, rfl, _, rfl, a, m, cd, n, g, o, ps, k, zdPut zt t.1 c, zc, _, ch, rfl, N.same s2, ok, hk, tz2, tc.same s2, call, by rw [ov]; exact vok2, fun r H3 zs s3 nr tz3 kn => ?_⟩
    rw [ov] at tz3 kn
    exact q r H3 zs (s2.trans s3) (Same.was s2 nr) (lean_tab ok vok2 tz3 kn)
end
end K57
set_option Elab.async false
set_option linter.all false
set_option maxRecDepth 100000
set_option maxHeartbeats 4000000
namespace K57
open PySem PySem.Spec PyProof.Rows L2 GX
open C8 (Cal pe_c pe_gc Met Mak)
-- @alt one_deeper lst par=l[i],t[i]
-- @alt one_deeper tup par=t[i],t[i]
-- @alt one_deeper dk par=DK,t[i]
section
variable {P : Program} {w : World} {K : PySem.W.Frag} {mg : Str → Option Value} {base : Heap} {Ts : List Addr}
/-- what is told of the first good turn, a dict with it -/
def FndL (n : Net) (k : Nat) (ch : Nat → List Nat) (d : Int) (cv : List Tb) (H : Hp) (v : V) : Prop := (fstG n (cofX n k) ch d cv = none ∧ v = .non) ∨ ∃ (t : Tb) (r tc td : Addr) (zs : Zd), fstG n (cofX n k) ch d cv = some t ∧ v = .ref r ∧ H r = some (.tup [nV t.1, .ref tc, .ref td]) ∧ H tc = some (.tup (t.2.map nV)) ∧ TbOf H td zs (turnV ch cv t) (leanV n (turnV ch cv t))
def spLGood : Sp := fun vs H Q _ => ∃ (a ca td cd : Addr) (n : Net) (g o : Addr) (ps : List Addr) (S : Addr) (qs : List Addr) (k : Nat) (zt zc : Zd) (vt ch : Nat → List Nat) (cv : List Tb) (d : Int), vs = [.ref a, .ref ca, .ref td, .ref cd, .int d] ∧ NetAt H a n g o ps ∧ n.Ok ∧ 2 ≤ k ∧ k ≤ 8 ∧ H ca = some (.lst (qs.map V.ref)) ∧ PtsAt (KTolL S n k) H qs (List.range (n.many + n.gates.length)) ∧ TbOf H td zt vt cv ∧ CovOk n k cv ∧ TabZ H cd zc ch ∧ (∀ x, n.many ≤ x → x < n.many + n.gates.length → x ∈ zc.map (·.1)) ∧ VOk n k ch ∧
  ∀ v H', Same H H' → FndL n k ch d cv H' v → Q v H'
theorem ok_lgood {f c : Addr} (D : Dfn K mg "_law_good_turn" s__law_good_turn f c) (T : Txt mg) (c__law_turned : Cal P w K mg base 2 "_law_turned" spLTurned []) (c__law_depth : Cal P w K mg base 1 "_law_depth" spLDepE []) : Cal P w K mg base 3 "_law_good_turn" spLGood [] := by
  refine cal D (fun _ _ _ _ _ _ us hl => match us, hl with | [_, _, _, _, _], _ => rfl) sc__law_good_turn (fun vs H Q E h => ?_) (fun A outer s H vs Q E hr h => ?_)
  · obtain ⟨a, ca, td, cd, n, g, o, ps, S, qs, k, zt, zc, vt, ch, cv, d, rfl, _⟩ := h
    rfl
  · obtain ⟨a, ca, td, cd, n, g, o, ps, S, qs, k, zt, zc, vt, ch, cv, d, rfl, N, ok, hk2, hk, hca, PQ, tt, cok, tc, call, vok, q⟩ := h
    have qn : fstG n (cofX n k) ch d cv = none → ∀ H', Same H H' → Q .non H' := fun e H' s => q .non H' s (.inl ⟨e, rfl⟩)
    have qs' : ∀ t, fstG n (cofX n k) ch d cv = some t → ∀ r tc td' zs H', Same H H' → H' r = some (.tup [nV t.1, .ref tc, .ref td']) → H' tc = some (.tup (t.2.map nV)) → TbOf H' td' zs (turnV ch cv t) (leanV n (turnV ch cv t)) → Q (.ref r) H' := fun t e r tc td' zs H' s h1 h2 h3 => q _ H' s (.inr ⟨t, r, tc, td', zs, e, rfl, h1, h2, h3⟩)
    have zl := tt.len cok.rise
    have c24 := cok.len ok
    refine ⟨_, (pss_cons (ps_for PassesOwn.never rfl (pi_list (pe_callB (call_sortedDI rfl) (by rfl) T.b_sorted (by decide +kernel) (pa_cons (pv 2) pa_nil))) (pg_name (i := 5) sc__law_good_turn.nd rfl (by first | exact Or.inl rfl | exact Or.inr rfl))
        (pss_one (ps_for PassesOwn.never rfl (pi_list (pe_ix ix_list (pv 1) (pv 5) (fun _ _ => rfl))) (pg_name (i := 6) sc__law_good_turn.nd rfl (by first | exact Or.inl rfl | exact Or.inr rfl))
        (pss_one (ps_if (pt_cmpR (op_neD hr.units) (pv 6) (pe_dget (Nat.lt_of_le_of_lt (Nat.add_le_add_left (by decide) _) hr.units) (pv 2) (pv 5) (fun _ _ => rfl)) (nomark _)) (pss_cons (ps_set (i := 7) sc__law_good_turn.nd rfl (by first | exact Or.inl rfl | exact Or.inr rfl) (pe_c c__law_turned hr (by decide) (by rfl) (pa_cons (pv 0) (pa_cons (pv 2) (pa_cons (pv 3) (pa_cons (pv 5) (pa_cons (pv 6) pa_nil)))))))
      (pss_one (ps_if (PW.pt (pw_and (pt_cmpR op_lt (pe_callB call_lenD (by rfl) T.b_len (by decide +kernel) (pa_cons (pv 7) pa_nil)) (pe_callB call_lenD (by rfl) T.b_len (by decide +kernel) (pa_cons (pv 2) pa_nil)) (nomark _)) (pw_and1 (pt_cmpR op_le (pe_c c__law_depth hr (by decide) (by rfl) (pa_cons (pv 0) (pa_cons (pv 7) pa_nil))) (pv 4) (nomark _))))) (pss_one (ps_ret (pe_tup (pa_cons (pv 5) (pa_cons (pv 6) (pa_cons (pv 7) pa_nil)))))) pss_nil))) pss_nil)))))
      (pss_one (ps_ret pe_non))), ?_⟩
    refine ⟨_, rfl, td, kvY zt, (zt.map (·.1)).map (fun x : Nat => (x : Int)), rfl, .inl tt.tz.at_, kvY_keys zt, by rw [List.length_map, List.length_map]; omega, fun ys sp pm srt nsp => ?_⟩
    obtain rfl := tt.keys cok.rise pm srt
    have s1 := Same.new (o := .lst (((cv.map (·.1)).map fun x : Nat => (x : Int)).map V.int)) nsp
    have hsp : upd H sp (.lst (((cv.map (·.1)).map fun x : Nat => (x : Int)).map V.int)) sp = some (.lst ((cv.map (·.1)).map nV)) := by rw [upd_same, mapV]
    generalize upd H sp (.lst (((cv.map (·.1)).map fun x : Nat => (x : Int)).map V.int)) = H1 at s1 hsp ⊢
    refine ⟨sp, rfl, ⟨_, SqL.of hsp⟩, ?_⟩
    refine for_list (K := K) (a := sp) (xs := (cv.map (·.1)).map nV) (fun i σ H' => ∃ x5 x6 x7 : Option V, σ = [some (.ref a), some (.ref ca), some (.ref td), some (.ref cd), some (.int d), x5, x6, x7] ∧ (∀ b u, H1 b = some u → H' b = some u) ∧ ∀ u ∈ turnsOf (cofX n k) (cv.take i), goodT n ch d cv u = false) ⟨none, none, none, rfl, fun b u e => e, fun u hu => (by cases hu)⟩ ?_ ?_ ?_
    · rintro i σ H2 _ ⟨_, _, _, _, s2, _⟩
      exact SqL.of (s2 _ _ hsp)
    · rintro i x σ H2 hx ⟨x5, x6, x7, rfl, s2, hb⟩
      have hil : i < cv.length := by
        have := (List.getElem?_eq_some_iff.mp hx).1
        rwa [List.length_map, List.length_map] at this
      obtain ⟨t, ht⟩ : ∃ t, cv[i]? = some t := ⟨_, List.getElem?_eq_getElem hil⟩
      have ex : x = nV t.1 := by
        rw [List.getElem?_map, List.getElem?_map, ht] at hx
        cases hx
        rfl
      subst ex
      have htm := List.mem_of_getElem? ht
      obtain ⟨gm, gl⟩ := cok.gt t htm
      obtain ⟨qg, eq, qS, rg, cs, hqg, tg, ca', csl⟩ := PQ.get (i := t.1) (y := t.1) (by rw [List.getElem?_range gl])
      obtain rfl := ca'.uniq (cofX_ok ok k t.1)
      have s12 : Same H H2 := Same.trans s1 s2
      refine ⟨_, rfl, _, rfl, ca, _, _, _, rfl, rfl, SqL.of (s12 _ _ hca), atI_nat eq, qg, rfl, ⟨_, SqL.of (s12 _ _ hqg)⟩, ?_⟩
      refine for_list (K := K) (a := qg) (xs := rg.map V.ref) (fun j σ H' => ∃ x6 x7 : Option V, σ = [some (.ref a), some (.ref ca), some (.ref td), some (.ref cd), some (.int d), some (nV t.1), x6, x7] ∧ (∀ b u, H1 b = some u → H' b = some u) ∧ ∀ u ∈ turnsTo (cofX n k) cv i t j, goodT n ch d cv u = false) ⟨x6, x7, rfl, s2, fun u hu => ?_⟩ ?_ ?_ ?_
      · unfold turnsTo at hu
        rw [List.take_zero, List.filter_nil, List.map_nil, List.append_nil] at hu
        exact hb u hu
      · rintro j σ H3 _ ⟨_, _, _, s3, _⟩
        exact SqL.of (s3 _ _ (s1 _ _ hqg))
      · rintro j x σ H3 hx ⟨x6, x7, rfl, s3, hb3⟩
        have s13 : Same H H3 := Same.trans s1 s3
        have tg3 := tg.mono fun b xs e => s13 _ _ e
        obtain ⟨rc, c', rfl, hcj, hrc⟩ := tg3.at_ hx
        obtain ⟨rt, hgz, hzc⟩ := tt.get htm
        have stp := turnsTo_step (cs := cofX n k) (cv := cv) (i := i) hcj
        refine ⟨_, rfl, _, rfl, _, rfl, td, _, rfl, .inl ⟨kvY zt, nK t.1, .inl (s13 _ _ tt.tz.at_), rfl, hgz.symm⟩, .tuple (natsD c'), .tuple (natsD t.2), dp_natT hrc, dp_natT (s13 _ _ hzc), natsD_tup _, natsD_tup _, ?_⟩
        rw [natsD_eqT]
        by_cases e : c' = t.2
        · refine ⟨false, by rw [decide_eq_true e]; rfl, iteF ?_⟩
          refine ⟨_, _, rfl, s3, ?_⟩
          rw [stp, if_pos e]
          exact hb3
        · refine ⟨true, by rw [decide_eq_false e]; rfl, iteT ?_⟩
          have lc := (ca'.mem c').mp (List.mem_of_getElem? hcj)
          have g3 : CutOk n t.1 c' := ⟨((cuts_ok ok hk2 gm gl ca').2 c' (List.mem_of_getElem? hcj)).1, lc.lt, lc.sep, lc.rise⟩
          refine ⟨_, rfl, _, rfl, _, rfl, _, rfl, _, rfl, a, td, cd, rc, n, g, o, ps, k, zt, zc, vt, ch, cv, (t.1, c'), rfl, N.same s13, ok, hk, tt.same s13, cok, tc.same s13, call, vok, hrc, g3, lc.len, fun r H4 zs s4 nr tt4 => ?_⟩
          have s14 := s13.trans s4
          have lok := leanV_ok ok (turnV_ok vok cok (t := (t.1, c')) ⟨g3, lc.len⟩)
          have bad : goodT n ch d cv (t.1, c') = false → ∀ u ∈ turnsTo (cofX n k) cv i t (j + 1), goodT n ch d cv u = false := fun z u hu => by
            rw [stp, if_neg e] at hu
            rcases List.mem_append.mp hu with h | h
            · exact hb3 u h
            · rw [List.mem_singleton.mp h]; exact z
          have rl := tt4.len lok.rise
          have s34 : Same H1 H4 := Same.trans s3 s4
          refine ⟨_, rfl, r, _, rfl, tt4.tz.at_, _, rfl, td, _, rfl, s14 _ _ tt.tz.at_, _, _, rfl, rfl, _, rfl, ?_⟩
          rw [kvY_len, kvY_len, rl, zl]
          refine ite2 (fun hlt => ?_) (fun hlt => iteF ?_)
          · have hlt := of_decide_eq_true hlt
            refine ⟨_, rfl, _, rfl, a, r, n, g, o, ps, k, zs, _, _, rfl, N.same s14, ok, hk, tt4, lok, fun H5 s5 => ?_⟩
            have s15 := s14.trans s5
            refine ⟨_, rfl, _, _, rfl, rfl, _, rfl, ite2 (fun hd => ?_) (fun hd => ?_)⟩
            · have hg : goodT n ch d cv (t.1, c') = true := by
                unfold goodT
                rw [Bool.and_eq_true]
                exact ⟨decide_eq_true (by omega), hd⟩
              refine ⟨_, rfl, _, rfl, _, rfl, small 3, fun r3 nr3 => ?_⟩
              have s6 := Same.new (o := .tup [nV t.1, .ref rc, .ref r]) nr3
              exact qs' (t.1, c') (find_here ht hcj e hb3 hg) r3 rc r zs _ (s15.trans s6) upd_same (s6 _ _ (s5 _ _ (s4 _ _ hrc))) ((tt4.same s5).same s6)
            · refine ⟨_, _, rfl, (Same.trans s34 s5), bad ?_⟩
              unfold goodT
              rw [Bool.and_eq_false_iff]
              exact .inr (Bool.eq_false_iff.mpr hd)
          · refine ⟨_, _, rfl, s34, bad ?_⟩
            unfold goodT
            rw [Bool.and_eq_false_iff]
            exact .inl (decide_eq_false fun z => hlt (decide_eq_true (by omega)))
      · rintro σ H3 ⟨x6, x7, rfl, s3, hb3⟩
        rw [List.length_map, tg.1, turnsTo_end ht] at hb3
        exact ⟨_, _, _, rfl, s3, hb3⟩
    · rintro σ H2 ⟨x5, x6, x7, rfl, s2, hb⟩
      rw [List.length_map, List.length_map, List.take_length] at hb
      refine qn ?_ H2 (Same.trans s1 s2)
      unfold fstG
      rw [List.find?_eq_none]
      intro u hu
      rw [hb u hu]
      decide
end
end K57
set_option Elab.async false
set_option linter.all false
set_option maxRecDepth 100000
set_option maxHeartbeats 4000000
namespace K57
open PySem PySem.Spec PyProof.Rows L2 GX
open C8 (Cal pe_c pe_gc Met Mak)
-- @alt one_deeper lst par=l[i],t[i]
-- @alt one_deeper tup par=t[i],t[i]
-- @alt one_deeper dk par=DK,t[i]
section
variable {P : Program} {w : World} {K : PySem.W.Frag} {mg : Str → Option Value} {base : Heap} {Ts : List Addr}
def spLEased : Sp := fun vs H Q _ => ∃ (a ca td cd : Addr) (n : Net) (g o : Addr) (ps : List Addr) (S : Addr) (qs : List Addr) (k : Nat) (zt zc : Zd) (vt ch : Nat → List Nat) (cv : List Tb) (d : Int), vs = [.ref a, .ref ca, .ref td, .ref cd, .int d] ∧ NetAt H a n g o ps ∧ n.Ok ∧ 2 ≤ k ∧ k ≤ 8 ∧ H ca = some (.lst (qs.map V.ref)) ∧ PtsAt (KTolL S n k) H qs (List.range (n.many + n.gates.length)) ∧ TbOf H td zt vt cv ∧ CovOk n k cv ∧ TabZ H cd zc ch ∧ (∀ x, n.many ≤ x → x < n.many + n.gates.length → x ∈ zc.map (·.1)) ∧ VOk n k ch ∧ (∃ ys, H S = some (.lst ys)) ∧
  ∀ r H' cp tp rs ts cvE tsE, Same H H' → Easd n (cofX n k) ch d cv cvE tsE → CovOk n k cvE → tsE.length ≤ 24 → H' r = some (.tup [.ref cp, .ref tp]) → CovAt H' cp cvE rs → CovAt H' tp tsE ts → Q (.ref r) H'
theorem ok_leased {f c : Addr} (D : Dfn K mg "_law_eased" s__law_eased f c) (T : Txt mg) (c__law_good_turn : Cal P w K mg base 3 "_law_good_turn" spLGood []) (c__law_cover : Cal P w K mg base 1 "_law_cover" spLCovE []) : Cal P w K mg base 4 "_law_eased" spLEased [] := by
  refine cal D (fun _ _ _ _ _ _ us hl => match us, hl with | [_, _, _, _, _], _ => rfl) sc__law_eased (fun vs H Q E h => ?_) (fun A outer s H vs Q E hr h => ?_)
  · obtain ⟨a, ca, td, cd, n, g, o, ps, S, qs, k, zt, zc, vt, ch, cv, d, rfl, _⟩ := h
    rfl
  · obtain ⟨a, ca, td, cd, n, g, o, ps, S, qs, k, zt, zc, vt, ch, cv, d, rfl, N, ok, hk2, hk, hca, PQ, tt, cok, tc, call, vok, ⟨Sy, hSl⟩, q⟩ := h
    have hS : ∀ xs, H S ≠ some (.tup xs) := fun xs e => by rw [hSl] at e; cases e
    have c24 := cok.len ok
    refine ⟨_, (pss_cons (ps_set (i := 5) sc__law_eased.nd rfl (by first | exact Or.inl rfl | exact Or.inr rfl) (pe_lst pa_nil))
      (pss_cons (ps_set (i := 6) sc__law_eased.nd rfl (by first | exact Or.inl rfl | exact Or.inr rfl) (pe_c c__law_good_turn hr (by decide) (by rfl) (pa_cons (pv 0) (pa_cons (pv 1) (pa_cons (pv 2) (pa_cons (pv 3) (pa_cons (pv 4) pa_nil)))))))
      (pss_cons (ps_while PassesOwn.never (pt_cmpR op_notN (pv 6) pe_non (nomark _)) (pss_cons (ps_expr (pe_bm PySem.F.plainAttrs_list PySem.F.slot_list_append PySem.F.type_list_append mt_append (pv 5) (pa_cons (pe_slice sl_tupA (pv 6) po_none (po_some pe_int)) pa_nil)))
      (pss_cons (ps_set (i := 2) sc__law_eased.nd rfl (by first | exact Or.inl rfl | exact Or.inr rfl) (pe_ix ix_tup (pv 6) pe_int (fun _ _ => rfl)))
      (pss_one (ps_set (i := 6) sc__law_eased.nd rfl (by first | exact Or.inl rfl | exact Or.inr rfl) (pe_c c__law_good_turn hr (by decide) (by rfl) (pa_cons (pv 0) (pa_cons (pv 1) (pa_cons (pv 2) (pa_cons (pv 3) (pa_cons (pv 4) pa_nil)))))))))))
      (pss_one (ps_ret (pe_tup (pa_cons (pe_c c__law_cover hr (by decide) (by rfl) (pa_cons (pv 2) pa_nil)) (pa_cons (pe_callTy call_tuple_of (by rfl) T.b_tuple (by decide +kernel) (pa_cons (pv 5) pa_nil)) pa_nil)))))))), ?_⟩
    refine ⟨small 0, fun L nL => ?_⟩
    have s3 := Same.new (o := .lst []) nL
    have hL3 : upd H L (.lst []) L = some (.lst (([] : List Addr).map V.ref)) := upd_same
    generalize hH3 : upd H L (.lst []) = H3 at s3 hL3 ⊢
    have km : ∀ {H' : Hp}, (∀ b u, H b = some u → H' b = some u) → PtsAt (KTolL S n k) H' qs (List.range (n.many + n.gates.length)) := fun {H'} s => PQ.mono fun q x h => h.mono (fun b v _ e _ => s _ _ e) hS
    refine ⟨_, rfl, _, rfl, _, rfl, _, rfl, _, rfl, a, ca, td, cd, n, g, o, ps, S, qs, k, zt, zc, vt, ch, cv, d, rfl, N.same s3, ok, hk2, hk, s3 _ _ hca, km s3, tt.same s3, cok, tc.same s3, call, vok, fun v H4 s4 fnd => ?_⟩
    refine while_m (fun m σ H' => ∃ (v : V) (td : Addr) (zt : Zd) (vt : Nat → List Nat) (ts : List Addr) (cvE tsE : List Tb), σ = [some (.ref a), some (.ref ca), some (.ref td), some (.ref cd), some (.int d), some (.ref L), some v] ∧ (∀ b u, H b = some u → H' b = some u) ∧ H' L = some (.lst (ts.map V.ref)) ∧ PtsAt TbAt H' ts tsE ∧ TbOf H' td zt vt cvE ∧ CovOk n k cvE ∧ (∀ r us, Easd n (cofX n k) ch d cvE r us → Easd n (cofX n k) ch d cv r (tsE ++ us)) ∧ cvE.length + tsE.length ≤ cv.length ∧ cvE.length = m ∧ FndL n k ch d cvE H' v) cv.length ⟨v, td, zt, vt, [], cv, [], rfl, fun b u e => s4 _ _ (s3 _ _ e), s4 _ _ hL3, PtsAt.nil _ _, (tt.same s3).same s4, cok, fun r us e => e, Nat.le_refl _, rfl, fnd⟩ ?_
    clear hL3 hH3 s3 s4 fnd tt
    rintro m σ H5 ⟨v, td, zt, vt, ts, cvE, tsE, rfl, s5, hL5, pt5, tt5, cok5, eas, bnd, rfl, fnd⟩
    refine ⟨_, rfl, rfl, _, rfl, ?_⟩
    rcases fnd with ⟨e, rfl⟩ | ⟨t, r, tcc, td2, zs2, e, rfl, hr, htc, tt2⟩
    · rw [show (!decide (V.non = V.non)) = false by simp]
      refine iteF ?_
      refine ⟨_, rfl, td, zt, vt, cvE, rfl, tt5, cok5.rise, cok5.len ok, fun cp H6 rs s6 hc6 => ?_⟩
      refine ⟨_, rfl, L, _, rfl, .inl ⟨SqL.of (s6 _ _ hL5), fun q1 nq => ⟨small 2, fun q2 nq2 => ?_⟩⟩⟩
      have s7 := Same.new (o := .tup (ts.map V.ref)) nq
      have s8 := s7.trans (Same.new (o := .tup [.ref cp, .ref q1]) nq2)
      have fin := eas cvE [] (.stop e)
      rw [List.append_nil] at fin
      exact q q2 _ cp q1 rs ts cvE tsE (Same.trans s5 (s6.trans s8)) fin cok5 (by omega) upd_same (hc6.same s8) ⟨Same.new nq2 _ _ upd_same, pt5.mono (TbAt.mono fun b xs e => s8 _ _ (s6 _ _ e))⟩
    · rw [show (!decide (V.ref r = V.non)) = true by simp]
      refine iteT ?_
      refine ⟨_, whM, ?_⟩
      have lt5 := (fst_mem e).2
      have tok := turn_ok1 ok hk2 cok5 (fst_mem e).1
      refine ⟨_, rfl, .inl ⟨rfl, _, SqL.of hL5⟩, _, rfl, ?_⟩
      unfold tNoPart
      refine ⟨_, rfl, ?_⟩
      refine slA (lo := none) (hi := some ((2 : Nat) : Int)) hr fun r1 H6 s6 e1 => ?_
      rw [cut_hi] at e1
      have e1 : H6 r1 = some (.tup [nV t.1, .ref tcc]) := e1
      have hL6 := s6 _ _ hL5
      have hr6 := s6 _ _ hr
      refine ⟨L, _, _, rfl, rfl, hL6, by rw [List.length_map, pt5.1]; exact small256 (by omega), ?_⟩
      have tp7 := tupPut (ys := ts.map V.ref ++ [.ref r1]) hL6
      have hL7 : upd H6 L (.lst (ts.map V.ref ++ [.ref r1])) L = some (.lst ((ts ++ [r1]).map V.ref)) := by rw [List.map_append]; exact upd_same
      have s7 : ∀ b u, H b = some u → upd H6 L (.lst (ts.map V.ref ++ [.ref r1])) b = some u := fun b u z => by
        rw [upd_ne (ne_of_none z nL)]
        exact s6 _ _ (s5 _ _ z)
      have d7 : upd H6 L (.lst (ts.map V.ref ++ [.ref r1])) td2 = some (.dK (kvY zs2)) := by
        have := s6 _ _ tt2.tz.at_
        rw [upd_ne fun z => by rw [z, hL6] at this; cases this]
        exact this
      generalize upd H6 L (.lst (ts.map V.ref ++ [.ref r1])) = H7 at tp7 hL7 s7 d7 ⊢
      have pt7 : PtsAt TbAt H7 (ts ++ [r1]) (tsE ++ [t]) := PtsAt.push (pt5.mono (TbAt.mono fun b xs e => tp7 _ _ (s6 _ _ e))) ⟨tcc, tp7 _ _ e1, tp7 _ _ (s6 _ _ htc)⟩
      have tt7 : TbOf H7 td2 zs2 (turnV ch cvE t) (leanV n (turnV ch cvE t)) := tt2.mono (fun b xs e => tp7 _ _ (s6 _ _ e)) d7
      have lok := leanV_ok ok (turnV_ok vok cok5 ⟨tok.2.2.1, tok.2.2.2⟩)
      refine ⟨_, rfl, r, _, 2, _, rfl, rfl, SqT.of (tp7 _ _ hr6), at2, ?_⟩
      refine ⟨_, rfl, _, rfl, _, rfl, _, rfl, _, rfl, a, ca, td2, cd, n, g, o, ps, S, qs, k, zs2, zc, _, ch, _, d, rfl, N.same s7, ok, hk2, hk, s7 _ _ hca, km s7, tt7, lok, tc.same s7, call, vok, fun v8 H8 s8 fnd8 => ?_⟩
      exact ⟨_, lt5, v8, td2, zs2, _, ts ++ [r1], _, tsE ++ [t], rfl, fun b u z => s8 _ _ (s7 _ _ z), s8 _ _ hL7, pt7.mono (TbAt.mono fun b xs e => s8 _ _ e), tt7.same s8, lok, Easd.grow eas e, by rw [List.length_append]; show _ + (tsE.length + 1) ≤ _; omega, rfl, fnd8⟩
end
end K57
set_option Elab.async false
set_option linter.all false
set_option maxRecDepth 100000
set_option maxHeartbeats 4000000
/-! Things, and likenesses among them. -/
namespace GX
open PySem PySem.Spec PyProof.Rows L2
/-- tuples stand; lists stay lists, dicts dicts -/
def KeepR (H H' : Hp) : Prop := ∀ b, (∀ vs, H b = some (.tup vs) → H' b = some (.tup vs)) ∧ (∀ xs, H b = some (.lst xs) → ∃ ys, H' b = some (.lst ys)) ∧ (∀ k, H b = some (.dK k) → ∃ k', H' b = some (.dK k'))
mutual
theorem Rep.keepR {H H' : Hp} (k : KeepR H H') : ∀ {v : V} {t : Th}, Rep H v t → Rep H' v t
  | _, _, .non => .non
  | _, _, .bl b => .bl b
  | _, _, .int i => .int i
  | _, _, .str x => .str x
  | _, _, .lst (a := a) e => .lst ((k a).2.1 _ e).choose_spec
  | _, _, .dic (a := a) e => .dic ((k a).2.2 _ e).choose_spec
  | _, _, .tup (a := a) e r => .tup ((k a).1 _ e) (r.keepR k)
theorem RepAll.keepR {H H' : Hp} (k : KeepR H H') : ∀ {vs : List V} {ts : List Th}, RepAll H vs ts → RepAll H' vs ts
  | _, _, .nil => .nil
  | _, _, .cons a b => .cons (a.keepR k) (b.keepR k)
end
theorem KeepR.refl (H : Hp) : KeepR H H := fun b => ⟨fun _ e => e, fun _ e => ⟨_, e⟩, fun _ e => ⟨_, e⟩⟩
theorem KeepR.trans {H1 H2 H3 : Hp} (a : KeepR H1 H2) (c : KeepR H2 H3) : KeepR H1 H3 := fun b => ⟨fun _ e => (c b).1 _ ((a b).1 _ e), fun _ e => by
  obtain ⟨_, e'⟩ := (a b).2.1 _ e
  exact (c b).2.1 _ e', fun _ e => by
  obtain ⟨_, e'⟩ := (a b).2.2 _ e
  exact (c b).2.2 _ e'⟩
theorem KeepR.same {H H' : Hp} (s : Same H H') : KeepR H H' := fun b => ⟨fun _ e => s _ _ e, fun _ e => ⟨_, s _ _ e⟩, fun _ e => ⟨_, s _ _ e⟩⟩
theorem KeepR.aft {Ts : List Addr} {H H' : Hp} (t : Tabs Ts H) (a : Aft Ts H H') : KeepR H H' := fun b => ⟨fun _ e => a.kp b _ e (t.nott e fun _ z => by cases z), fun _ e => ⟨_, a.kp b _ e (t.nott e fun _ z => by cases z)⟩, fun _ e => ⟨_, a.kp b _ e (t.nott e fun _ z => by cases z)⟩⟩
theorem KeepR.put {H : Hp} {l : Addr} {xs ys : List V} (h : H l = some (.lst xs)) : KeepR H (upd H l (.lst ys)) := fun b => by
  by_cases e : b = l
  · subst e
    exact ⟨fun _ z => (by rw [h] at z; cases z), fun _ _ => ⟨_, upd_same⟩, fun _ z => (by rw [h] at z; cases z)⟩
  · exact ⟨fun _ z => (by rw [upd_ne e]; exact z), fun _ z => ⟨_, by rw [upd_ne e]; exact z⟩, fun _ z => ⟨_, by rw [upd_ne e]; exact z⟩⟩
theorem KeepR.wk {W C : Addr} {H H' : Hp} (w : Wd H W C) (k : Wk2 W C H H') : KeepR H H' := fun b => by
  obtain ⟨ns, x, y, h1, h2, _⟩ := w.ex
  obtain ⟨ns', x', y', g1, g2, _⟩ := k.wl.ex
  by_cases e1 : b = W
  · subst e1
    exact ⟨fun _ z => (by rw [h1] at z; cases z), fun _ _ => ⟨_, g1⟩, fun _ z => (by rw [h1] at z; cases z)⟩
  · by_cases e2 : b = C
    · subst e2
      exact ⟨fun _ z => (by rw [h2] at z; cases z), fun _ _ => ⟨_, g2⟩, fun _ z => (by rw [h2] at z; cases z)⟩
    · exact ⟨fun _ z => k.at_ ⟨e1, e2⟩ z, fun _ z => ⟨_, k.at_ ⟨e1, e2⟩ z⟩, fun _ z => ⟨_, k.at_ ⟨e1, e2⟩ z⟩⟩
/-! ### pairs, steps -/
end GX
set_option Elab.async false
set_option linter.all false
set_option maxRecDepth 100000
set_option maxHeartbeats 4000000
/-! The way past some wires, step by step up what is free. -/
namespace GX
open PySem PySem.Spec PyProof.Rows L2
/-- None, or a tuple of whole numbers -/
def VRep (H : Hp) (v : V) : Option (List Nat) → Prop
  | none => v = .non
  | some ys => ∃ p, v = .ref p ∧ H p = some (.tup (ys.map nV))
theorem VRep.mono {H H' : Hp} {v : V} {r : Option (List Nat)} (h : VRep H v r) (k : ∀ b xs, H b = some (.tup xs) → H' b = some (.tup xs)) : VRep H' v r := by
  cases r with
  | none => exact h
  | some ys =>
    obtain ⟨p, e, hp⟩ := h
    exact ⟨p, e, k _ _ hp⟩
theorem dpNs (K : PySem.W.Frag) (H : Hp) : ∀ xs : List Nat, DpAll K H (xs.map nV) ((xs.map fun n : Nat => (n : Int)).map PyData.int)
  | [] => .nil
  | x :: r => .cons (.int _) (dpNs K H r)
/-- the same, compared -/
theorem VRep.dp {K : PySem.W.Frag} {H : Hp} {v : V} {r : Option (List Nat)} (h : VRep H v r) : ∃ d, (∀ v' : V, VRep H v' r → Dp K H v' d) ∧ SeqAt.shaped d = true ∧ PyData.eqv d d = true := by
  cases r with
  | none => exact ⟨.none, fun v' e => by cases e; exact .non, rfl, rfl⟩
  | some ys =>
    have sh : SeqAt.shaped (.tuple ((ys.map fun n : Nat => (n : Int)).map PyData.int)) = true := PySem.W.ke_shaped_ints (ys.map fun n : Nat => (n : Int))
    exact ⟨.tuple ((ys.map fun n : Nat => (n : Int)).map PyData.int), fun v' ⟨p, e, hp⟩ => by subst e; exact .tup (SqT.of hp) (dpNs K H ys), sh, SeqAt.eqv_refl _ (SeqAt.canLay_of_shaped sh)⟩
end GX
set_option Elab.async false
set_option linter.all false
set_option maxRecDepth 100000
set_option maxHeartbeats 4000000
/-! Covers among things. -/
namespace GX
open PySem PySem.Spec PyProof.Rows L2
theorem pts_rep {α : Type} {R : Hp → Addr → α → Prop} {f : α → Th} {H : Hp} (h : ∀ p x, R H p x → Rep H (.ref p) (f x)) : ∀ {qs : List Addr} {xs : List α}, PtsAt R H qs xs → RepAll H (qs.map V.ref) (xs.map f)
  | [], xs, p => by
    have : xs = [] := List.length_eq_zero_iff.mp p.1.symm
    subst this
    exact .nil
  | q :: qs, xs, p => by
    cases xs with
    | nil => cases p.1
    | cons y r => exact .cons (h q y (p.2 0 q y rfl rfl)) (pts_rep h ⟨Nat.succ.inj p.1, fun i p' z e1 e2 => p.2 (i + 1) p' z e1 e2⟩)
def thW (x : Nat) : Th := .int ((x : Nat) : Int)
def thWs (xs : List Nat) : Th := .tup (xs.map thW)
theorem rep_nats {H : Hp} : ∀ xs : List Nat, RepAll H (xs.map nV) (xs.map thW)
  | [] => .nil
  | x :: xs => .cons (.int _) (rep_nats xs)
theorem rep_wsT {H : Hp} {p : Addr} {xs : List Nat} (h : H p = some (.tup (xs.map nV))) : Rep H (.ref p) (thWs xs) := .tup h (rep_nats xs)
def thTb (t : Tb) : Th := .tup [thW t.1, thWs t.2]
def thCv (cv : List Tb) : Th := .tup (cv.map thTb)
theorem rep_tb {H : Hp} (p : Addr) (t : Tb) (h : TbAt H p t) : Rep H (.ref p) (thTb t) := by
  obtain ⟨c, h1, h2⟩ := h
  exact .tup h1 (.cons (.int _) (.cons (rep_wsT h2) .nil))
theorem rep_cv {H : Hp} {a : Addr} {cv : List Tb} {qs : List Addr} (h : CovAt H a cv qs) : Rep H (.ref a) (thCv cv) := .tup h.top (pts_rep rep_tb h.ts)
end GX
set_option Elab.async false
set_option linter.all false
set_option maxRecDepth 100000
set_option maxHeartbeats 4000000
namespace K57
open PySem PySem.Spec PyProof.Rows L2 GX
open C8 (Cal pe_c pe_gc Met Mak)
-- @alt one_deeper lst par=l[i],t[i]
-- @alt one_deeper tup par=t[i],t[i]
-- @alt one_deeper dk par=DK,t[i]
section
variable {P : Program} {w : World} {K : PySem.W.Frag} {mg : Str → Option Value} {base : Heap} {Ts : List Addr}
/-- numbers, and tuples of such, less deep than d -/
def Dpt : Nat → Th → Prop
  | 0 => fun _ => False
  | d + 1 => fun t => (∃ i, t = .int i) ∨ ∃ ts, t = .tup ts ∧ ts.length < 2 ^ 23 ∧ ∀ u ∈ ts, Dpt d u
def spSameH (d : Nat) : Sp := fun vs H Q _ => ∃ (v1 v2 : V) (t : Th), vs = [v1, v2] ∧ Rep H v1 t ∧ Rep H v2 t ∧ Dpt d t ∧ ∀ H', Same H H' → Q (.bl true) H'
theorem ok_sameH0 {f c : Addr} (D : Dfn K mg "_law_same" s__law_same f c) : Cal P w K mg base 1 "_law_same" (spSameH 0) [] := by
  refine cal D (fun _ _ _ _ _ _ us hl => match us, hl with | [_, _], _ => rfl) sc__law_same (fun vs H Q E h => ?_) (fun A outer s H vs Q E hr h => ?_)
  · obtain ⟨v1, v2, t, rfl, _⟩ := h
    rfl
  · obtain ⟨v1, v2, t, rfl, _, _, d, _⟩ := h
    exact d.elim
theorem ok_sameH {f c : Addr} {d k : Nat} (D : Dfn K mg "_law_same" s__law_same f c) (T : Txt mg) (hk : 1 ≤ k) (c__law_same : Cal P w K mg base k "_law_same" (spSameH d) []) : Cal P w K mg base (k + 1) "_law_same" (spSameH (d + 1)) [] := by
  refine cal D (fun _ _ _ _ _ _ us hl => match us, hl with | [_, _], _ => rfl) sc__law_same (fun vs H Q E h => ?_) (fun A outer s H vs Q E hr h => ?_)
  · obtain ⟨v1, v2, t, rfl, _⟩ := h
    rfl
  · refine ⟨_, (pss_cons (ps_if (pt_val (pe_callB call_isi (by rfl) T.b_isinstance (by decide +kernel) (pa_cons (pv 1) (pa_cons (pe_bltn (v := .ty "tuple") (by rfl) T.b_tuple (by decide +kernel) rfl) pa_nil)))) (pss_cons (ps_if (PW.pt (pw_or (pt_not (pt_val (pe_callB call_isi (by rfl) T.b_isinstance (by decide +kernel) (pa_cons (pv 0) (pa_cons (pe_bltn (v := .ty "tuple") (by rfl) T.b_tuple (by decide +kernel) rfl) pa_nil))))) (pw_or1 (pt_cmpR op_ne (pe_callB call_len_seq (by rfl) T.b_len (by decide +kernel) (pa_cons (pv 0) pa_nil)) (pe_callB call_len_seq (by rfl) T.b_len (by decide +kernel) (pa_cons (pv 1) pa_nil)) (nomark _))))) (pss_one (ps_ret pe_bl)) pss_nil)
      (pss_one (ps_ret (pe_cmpR (op_eqD hr.units) (pe_lc (own := [("_law_k", 2)]) (g := gName 2)  rfl sc__law_same.nd (pi_range1 (by rfl) T.b_range (pa_cons (pe_callB call_len_seq (by rfl) T.b_len (by decide +kernel) (pa_cons (pv 1) pa_nil)) pa_nil)) (blkOk_by (own := [("_law_k", 2)]) (N := ["_law_found", "_law_due", "_law_k"]) (sc := defScope s__law_same) (by decide +kernel)) (fun _ _ _ _ _ => (pg_name (i := 2) sc__law_same.nd rfl (by first | exact Or.inl rfl | exact Or.inr rfl))) (fun _ _ _ _ _ => (pts_one (pt_not (pt_val (pe_c c__law_same hr (by omega) (by rfl) (pa_cons (pe_ix (ix_tupK (K := K)) (pv 0) (pv 2) (fun _ _ => rfl)) (pa_cons (pe_ix (ix_tupK (K := K)) (pv 1) (pv 2) (fun _ _ => rfl)) pa_nil))))))) (fun _ _ _ _ _ => (pv 2))) (pe_lst pa_nil) (nomark _))))) pss_nil)
      (pss_cons (ps_if (pt_cmpR op_isN (pv 1) pe_non (nomark _)) (pss_one (ps_ret (pe_cmpR op_isN (pv 0) pe_non (nomark _)))) pss_nil)
      (pss_cons (ps_if (pt_val (pe_callB call_isi (by rfl) T.b_isinstance (by decide +kernel) (pa_cons (pv 1) (pa_cons (pe_bltn (v := .ty "bool") (by rfl) T.b_bool (by decide +kernel) rfl) pa_nil)))) (pss_one (ps_ret (pe_and (pe_callB call_isi (by rfl) T.b_isinstance (by decide +kernel) (pa_cons (pv 0) (pa_cons (pe_bltn (v := .ty "bool") (by rfl) T.b_bool (by decide +kernel) rfl) pa_nil))) (pe_one (pe_cmpR (op_eqD hr.units) (pv 0) (pv 1) (nomark _)))))) pss_nil)
      (pss_cons (ps_if (pt_val (pe_callB call_isi (by rfl) T.b_isinstance (by decide +kernel) (pa_cons (pv 1) (pa_cons (pe_bltn (v := .ty "str") (by rfl) T.b_str (by decide +kernel) rfl) pa_nil)))) (pss_one (ps_ret (pe_and (pe_callB call_isi (by rfl) T.b_isinstance (by decide +kernel) (pa_cons (pv 0) (pa_cons (pe_bltn (v := .ty "str") (by rfl) T.b_str (by decide +kernel) rfl) pa_nil))) (pe_one (pe_cmpR (op_eqD hr.units) (pv 0) (pv 1) (nomark _)))))) pss_nil)
      (pss_one (ps_ret (pe_and (pe_callB call_isi (by rfl) T.b_isinstance (by decide +kernel) (pa_cons (pv 0) (pa_cons (pe_bltn (v := .ty "int") (by rfl) T.b_int (by decide +kernel) rfl) pa_nil))) (pe_and (pe_not (pe_callB call_isi (by rfl) T.b_isinstance (by decide +kernel) (pa_cons (pv 0) (pa_cons (pe_bltn (v := .ty "bool") (by rfl) T.b_bool (by decide +kernel) rfl) pa_nil)))) (pe_one (pe_cmpR (op_eqD hr.units) (pv 0) (pv 1) (nomark _))))))))))), ?_⟩
    obtain ⟨v1, v2, t, rfl, r1, r2, dp, q⟩ := h
    rcases dp with ⟨x, rfl⟩ | ⟨ts, rfl, tl, td⟩
    · cases r1
      cases r2
      refine ⟨_, rfl, _, _, _, _, false, rfl, .ty "tuple", .base (.int _), kit_ty (by decide +kernel), _, rfl, ?_⟩
      refine iteF ?_
      refine ⟨_, rfl, rfl, _, rfl, ?_⟩
      rw [decide_eq_false (fun z => by cases z)]
      refine iteF ?_
      refine ⟨_, rfl, _, _, _, _, false, rfl, .ty "bool", .base (.int _), kit_ty (by decide +kernel), _, rfl, ?_⟩
      refine iteF ?_
      refine ⟨_, rfl, _, _, _, _, false, rfl, .ty "str", .base (.int _), kit_ty (by decide +kernel), _, rfl, ?_⟩
      refine iteF ?_
      refine ⟨_, rfl, _, _, _, _, true, rfl, .ty "int", .base (.int _), kit_ty (by decide +kernel), true, rfl, iteT ?_⟩
      refine ⟨_, rfl, _, _, _, _, false, rfl, .ty "bool", .base (.int _), kit_ty (by decide +kernel), false, rfl, true, rfl, iteT ?_⟩
      refine ⟨_, rfl, _, rfl, .int x, .int x, .int _, .int _, rfl, rfl, ?_⟩
      have e : PyData.eqv (.int x) (.int x) = true := by
        show (x == x) = true
        exact beq_self_eq_true _
      show Q (.bl (PyData.eqv (.int x) (.int x))) H
      rw [e]
      exact q H (Same.refl _)
    · cases r1 with
      | @tup a vs1 _ ha ra =>
      cases r2 with
      | @tup b vs2 _ hb rb =>
      have la := ra.length
      have lb := rb.length
      refine ⟨_, rfl, _, _, _, _, true, rfl, .ty "tuple", .base (.tup hb), kit_ty (by decide +kernel), _, rfl, ?_⟩
      refine iteT ?_
      refine ⟨_, rfl, _, _, _, _, true, rfl, .ty "tuple", .base (.tup ha), kit_ty (by decide +kernel), _, rfl, ?_⟩
      refine iteF ?_
      refine ⟨_, rfl, a, _, rfl, .inr (SqT.of ha), _, rfl, b, _, rfl, .inr (SqT.of hb), rfl, _, rfl, ?_⟩
      rw [decide_eq_true (show V.int ((vs1.length : Nat) : Int) = V.int ((vs2.length : Nat) : Int) by rw [la, lb])]
      refine iteF ?_
      refine ⟨_, rfl, b, _, rfl, .inr (SqT.of hb), _, rfl, by omega, by omega, fun L nL => ?_⟩
      refine lc_range (lo := 0) (n := ((vs2.length : Nat) : Int).toNat) (fun i H' => Own H H' L []) ⟨Same.new nL, upd_same, nL⟩ ?_ ?_
      · rintro i H2 hi o2
        rw [Int.toNat_natCast] at hi
        have e1 : vs1[i]? = some vs1[i] := List.getElem?_eq_getElem (by omega)
        have e2 : vs2[i]? = some vs2[i] := List.getElem?_eq_getElem hi
        obtain ⟨t1, ht1, rt1⟩ := ra.get e1
        obtain ⟨t2, ht2, rt2⟩ := rb.get e2
        obtain rfl : t1 = t2 := Option.some.inj (ht1.symm.trans ht2)
        have at1 : atI vs1 (0 + (i : Int)) = some vs1[i] := by rw [Int.zero_add]; exact atI_nat e1
        have at2 : atI vs2 (0 + (i : Int)) = some vs2[i] := by rw [Int.zero_add]; exact atI_nat e2
        refine ⟨rfl, _, rfl, _, rfl, a, _, _, _, rfl, rfl, SqT.of (o2.sm _ _ ha), at1, _, rfl, _, rfl, b, _, _, _, rfl, rfl, SqT.of (o2.sm _ _ hb), at2, _, _, t1, rfl, rt1.keepR (KeepR.same o2.sm), rt2.keepR (KeepR.same o2.sm), td _ (List.mem_of_getElem? ht1), fun H3 s3 => ⟨_, rfl, ?_⟩⟩
        exact iteF ⟨o2.sm.trans s3, s3 _ _ o2.at_, o2.nw⟩
      · rintro H2 o2
        refine ⟨small 0, fun z nz => ?_⟩
        have e3 := Same.new (o := .lst []) nz
        exact ⟨.list [], .list [], .lst (SqL.of (e3 _ _ o2.at_)) .nil, .lst (SqL.of upd_same) .nil, rfl, rfl, q _ (o2.sm.trans e3)⟩
theorem Dpt.num (d x : Nat) : Dpt (d + 1) (thW x) := .inl ⟨_, rfl⟩
theorem Dpt.ws {d : Nat} {xs : List Nat} (h : xs.length < 2 ^ 23) : Dpt (d + 2) (thWs xs) := .inr ⟨_, rfl, by rw [List.length_map]; exact h, fun u hu => by
  obtain ⟨x, _, rfl⟩ := List.mem_map.mp hu
  exact Dpt.num d x⟩
theorem Dpt.cv {d : Nat} {cv : List Tb} (h : cv.length < 2 ^ 23) (hc : ∀ t ∈ cv, t.2.length < 2 ^ 23) : Dpt (d + 4) (thCv cv) := .inr ⟨_, rfl, by rw [List.length_map]; exact h, fun u hu => by
  obtain ⟨t, ht, rfl⟩ := List.mem_map.mp hu
  refine .inr ⟨_, rfl, (by show 2 < 2 ^ 23; decide), fun v hv => ?_⟩
  rcases List.mem_cons.mp hv with rfl | hv
  · exact Dpt.num _ _
  · rw [List.mem_singleton.mp hv]
    exact Dpt.ws (hc t ht)⟩
end
end K57
set_option Elab.async false
set_option linter.all false
set_option maxRecDepth 100000
set_option maxHeartbeats 4000000
namespace K57
open PySem PySem.Spec PyProof.Rows L2 GX
open C8 (Cal pe_c pe_gc Met Mak)
-- @alt one_deeper lst par=l[i],t[i]
-- @alt one_deeper tup par=t[i],t[i]
-- @alt one_deeper dk par=DK,t[i]
section
variable {P : Program} {w : World} {K : PySem.W.Frag} {mg : Str → Option Value} {base : Heap} {Ts : List Addr}
def spWider : Sp := fun vs H Q _ => ∃ (W C a ca : Addr) (n : Net) (gt k t : Nat) (cut : List Nat), vs = [.ref W, .ref a, nV gt, .ref ca, nV k] ∧ Wt H W C t ∧ t ≤ 900000 ∧ H ca = some (.tup (cut.map nV)) ∧ CutOk n gt cut ∧ cut.length ≤ k ∧ k ≤ 8 ∧ 1 ≤ gt ∧ gt ≤ 24 ∧
  ∀ r H' ys, Wkt W C (t + 2) H H' → H' r = some (.tup (ys.map nV)) → CutOk n gt ys → ys.length ≤ k → Q (.ref r) H'
theorem ok_wider {f c : Addr} (D : Dfn K mg "_law_wider" s__law_wider f c) (T : Txt mg) (c__law_draw : Cal P w K mg base 1 "_law_draw" spDraw []) : Cal P w K mg base 2 "_law_wider" spWider [] := by
  refine cal D (fun _ _ _ _ _ _ us hl => match us, hl with | [_, _, _, _, _], _ => rfl) sc__law_wider (fun vs H Q E h => ?_) (fun A outer s H vs Q E hr h => ?_)
  · obtain ⟨W, C, a, ca, n, gt, k, t, cut, rfl, _⟩ := h
    rfl
  · obtain ⟨W, C, a, ca, n, gt, k, t, cut, rfl, wt, ht, hc, cok, hl, hk, g1, g24, q⟩ := h
    refine ⟨_, (pss_cons (ps_if (PW.pt (pw_and (pt_cmpR op_lt (pe_callB call_len_seq (by rfl) T.b_len (by decide +kernel) (pa_cons (pv 3) pa_nil)) (pv 4) (nomark _)) (pw_and1 (pt_cmpR op_eq (pe_c c__law_draw hr (by decide) (by rfl) (pa_cons (pv 0) (pa_cons pe_int pa_nil))) pe_int (nomark _))))) (pss_one (ps_set (i := 3) sc__law_wider.nd rfl (by first | exact Or.inl rfl | exact Or.inr rfl) (pe_callTy call_tuple_of (by rfl) T.b_tuple (by decide +kernel) (pa_cons (pe_callB (cr_sortedSet rfl) (by rfl) T.b_sorted (by decide +kernel) (pa_cons (pe_callTy (cr_setN rfl) (by rfl) T.b_set (by decide +kernel) (pa_cons (pe_op op_catA (pv 3) (pe_tup (pa_cons (pe_c c__law_draw hr (by decide) (by rfl) (pa_cons (pv 0) (pa_cons (pv 2) pa_nil))) pa_nil))) pa_nil)) pa_nil)) pa_nil)))) pss_nil)
      (pss_one (ps_ret (pv 3)))), ?_⟩
    refine ⟨_, rfl, ca, _, rfl, .inr (SqT.of hc), _, rfl, _, _, rfl, rfl, _, rfl, ?_⟩
    refine ite2 (fun h1 => ?_) (fun h1 => iteF ?_)
    · have h1 := of_decide_eq_true h1
      rw [List.length_map] at h1
      refine ⟨_, rfl, W, C, 6, t, rfl, wt, by omega, by decide, by decide, fun d1 H1 _ _ k1 => ?_⟩
      refine ⟨rfl, _, rfl, ite2 (fun h2 => ?_) (fun h2 => ?_)⟩
      · have hc1 := wt.tup k1 hc
        refine ⟨_, rfl, _, rfl, _, rfl, W, C, ((gt : Nat) : Int), t + 1, rfl, k1.wl, by omega, by omega, by omega, fun d2 H2 d20 d2g k2 => ?_⟩
        have hc2 := k1.wl.tup k2 hc1
        have k12 := k1.nxt k2
        obtain ⟨x, rfl⟩ : ∃ x : Nat, d2 = ((x : Nat) : Int) := ⟨d2.toNat, by omega⟩
        have xg : x < gt := by omega
        refine ⟨small 1, fun t1 nt1 => ?_⟩
        have s3 := Same.new (o := .tup [.int ((x : Nat) : Int)]) nt1
        have ht3 : upd H2 t1 (.tup [.int ((x : Nat) : Int)]) t1 = some (.tup ([x].map nV)) := upd_same
        have hc3 := s3 _ _ hc2
        have k13 := k12.same s3
        generalize upd H2 t1 (.tup [.int ((x : Nat) : Int)]) = H3 at s3 ht3 hc3 k13 ⊢
        refine catA_any rfl rfl hc3 ht3 (by rw [List.length_map, List.length_map]; exact Nat.le_of_lt (small256 (by show cut.length + 1 ≤ _; omega))) fun p1 H4 s4 h4 => ?_
        rw [← List.map_append] at h4
        refine ⟨p1, cut ++ [x], rfl, .inr (SqT.of h4), by rw [List.length_append]; show cut.length + 1 ≤ _; omega, fun sq c nsq hcq => ?_⟩
        rw [List.length_append] at hcq
        have s5 := Same.new (o := SetO w sq (fun j => decide (j ∈ (cut ++ [x]).map fun n : Nat => (n : Int))) c) nsq
        refine ⟨sq, _, c, rfl, upd_same, by have : [x].length = 1 := rfl; omega, fun out l pw hmm hll nl => ?_⟩
        obtain ⟨ys, rfl, yr, ym⟩ := sorted_set_nat pw hmm
        rw [mapV]
        have s6 := Same.new (o := .lst (ys.map nV)) nl
        refine ⟨l, _, rfl, .inl ⟨SqL.of upd_same, fun tp ntp => ?_⟩⟩
        have s7 := Same.new (o := .tup (ys.map nV)) ntp
        have k17 := k13.same (((s4.trans s5).trans s6).trans s7)
        refine ⟨_, rfl, ?_⟩
        refine q tp _ ys k17 upd_same ⟨?_, fun y hy => ?_, cok.sep.more fun z hz => (ym z).mpr (List.mem_append_left _ hz), yr⟩ ?_
        · obtain ⟨z, hz⟩ := List.exists_mem_of_length_pos cok.ne
          exact List.length_pos_of_mem ((ym z).mpr (List.mem_append.mpr (.inl hz)))
        · rcases List.mem_append.mp ((ym y).mp hy) with h | h
          · exact cok.lt y h
          · rw [List.mem_singleton.mp h]; exact xg
        · have := (List.nodup_iff_pairwise_ne.mpr (yr.imp fun h => Nat.ne_of_lt h)).length_le_of_subset (l₂ := cut ++ [x]) fun y hy => (ym y).mp hy
          rw [List.length_append] at this
          have e1 : [x].length = 1 := rfl
          omega
      · refine ⟨_, rfl, ?_⟩
        exact q ca _ cut (k1.le (by omega)) (wt.tup k1 hc) cok hl
    · refine ⟨_, rfl, ?_⟩
      exact q ca _ cut ((Wkt.refl wt).le (by omega)) hc cok hl
end
end K57
set_option Elab.async false
set_option linter.all false
set_option maxRecDepth 100000
set_option maxHeartbeats 4000000
namespace K57
open PySem PySem.Spec PyProof.Rows L2 GX
open C8 (Cal pe_c pe_gc Met Mak)
-- @alt one_deeper lst par=l[i],t[i]
-- @alt one_deeper tup par=t[i],t[i]
-- @alt one_deeper dk par=DK,t[i]
section
variable {P : Program} {w : World} {K : PySem.W.Frag} {mg : Str → Option Value} {base : Heap} {Ts : List Addr}
def spLLean : Sp := fun vs H Q _ => ∃ (W C a ca : Addr) (n : Net) (g o : Addr) (ps : List Addr) (S : Addr) (qs : List Addr) (k t : Nat), vs = [.ref W, .ref a, .ref ca, nV k] ∧ Wt H W C t ∧ t ≤ 800000 ∧ NetAt H a n g o ps ∧ n.Ok ∧ 2 ≤ k ∧ k ≤ 4 ∧ H ca = some (.lst (qs.map V.ref)) ∧ ca ≠ W ∧ ca ≠ C ∧ PtsAt (fun H q x => (q ≠ W ∧ q ≠ C) ∧ KTolL S n k H q x) H qs (List.range (n.many + n.gates.length)) ∧
  ∀ r H' (zs : Zd) (v : Nat → List Nat), Wkt W C (t + 100) H H' → H r = none → VOk n k v → TbOf H' r zs v (leanV n v) → Q (.ref r) H'
theorem ok_llean {f c : Addr} (D : Dfn K mg "_law_lean" s__law_lean f c) (T : Txt mg) (c__law_draw : Cal P w K mg base 1 "_law_draw" spDraw []) (c__law_wider : Cal P w K mg base 2 "_law_wider" spWider []) (c__law_needed : Cal P w K mg base 1 "_law_needed" spNeeded []) : Cal P w K mg base 3 "_law_lean" spLLean [] := by
  refine cal D (fun _ _ _ _ _ _ us hl => match us, hl with | [_, _, _, _], _ => rfl) sc__law_lean (fun vs H Q E h => ?_) (fun A outer s H vs Q E hr h => ?_)
  · obtain ⟨W, C, a, ca, n, g, o, ps, S, qs, k, t, rfl, _⟩ := h
    rfl
  · obtain ⟨W, C, a, ca, n, g, o, ps, S, qs, k, t, rfl, wt, ht, N, ok, hk2, hk, hca, caW, caC, PQ, q⟩ := h
    have m8 := ok.m8
    have m1 := ok.m1
    have g16 := ok.g16
    have ql : qs.length = n.many + n.gates.length := by rw [PQ.1, List.length_range]
    refine ⟨_, (pss_cons (ps_set (i := 4) sc__law_lean.nd rfl (by first | exact Or.inl rfl | exact Or.inr rfl) pe_dnewK)
      (pss_cons (ps_set (i := 5) sc__law_lean.nd rfl (by first | exact Or.inl rfl | exact Or.inr rfl) (pe_c c__law_draw hr (by decide) (by rfl) (pa_cons (pv 0) (pa_cons pe_int pa_nil))))
      (pss_cons (ps_for PassesOwn.never rfl (pi_range2 (by rfl) T.b_range (pa_cons (pe_ix ix_tup (pv 1) pe_int (fun _ _ => rfl)) (pa_cons (pe_callB call_len_seq (by rfl) T.b_len (by decide +kernel) (pa_cons (pv 2) pa_nil)) pa_nil))) (pg_name (i := 6) sc__law_lean.nd rfl (by first | exact Or.inl rfl | exact Or.inr rfl))
        (pss_cons (ps_set (i := 7) sc__law_lean.nd rfl (by first | exact Or.inl rfl | exact Or.inr rfl) (pe_ix ix_list (pv 2) (pv 6) (fun _ _ => rfl)))
      (pss_cons (ps_set (i := 8) sc__law_lean.nd rfl (by first | exact Or.inl rfl | exact Or.inr rfl) (pe_callTy call_tuple_of (by rfl) T.b_tuple (by decide +kernel) (pa_cons (pe_callB (cr_sortedSet rfl) (by rfl) T.b_sorted (by decide +kernel) (pa_cons (pe_callTy (cr_setN rfl) (by rfl) T.b_set (by decide +kernel) (pa_cons (pe_slice sl_tupA (pe_ix ix_tup (pe_ix ix_tup (pv 1) pe_int (fun _ _ => rfl)) (pe_op op_sub (pv 6) (pe_ix ix_tup (pv 1) pe_int (fun _ _ => rfl))) (fun _ _ => rfl)) (po_some pe_int) po_none) pa_nil)) pa_nil)) pa_nil)))
      (pss_cons (ps_set (i := 9) sc__law_lean.nd rfl (by first | exact Or.inl rfl | exact Or.inr rfl) (pe_ix ix_list (pv 7) (pe_c c__law_draw hr (by decide) (by rfl) (pa_cons (pv 0) (pa_cons (pe_callB call_len_seq (by rfl) T.b_len (by decide +kernel) (pa_cons (pv 7) pa_nil)) pa_nil))) (fun _ _ => rfl)))
      (pss_one (ps_dput (Nat.lt_of_le_of_lt (Nat.add_le_add_left (by decide) _) hr.units) (pv 4) (pv 6) (pe_ix ix_list (pe_lst (pa_cons (pe_c c__law_wider hr (by decide) (by rfl) (pa_cons (pv 0) (pa_cons (pv 1) (pa_cons (pv 6) (pa_cons (pv 9) (pa_cons (pv 3) pa_nil)))))) (pa_cons (pv 8) (pa_cons (pv 9) pa_nil)))) (pv 5) (fun _ _ => rfl)) (by rfl)))))))
      (pss_one (ps_ret (pe_c c__law_needed hr (by decide) (by rfl) (pa_cons (pv 1) (pa_cons pe_dnewK (pa_cons (pv 4) pa_nil))))))))), ?_⟩
    refine fun r nr => ?_
    have rW := wt.new nr
    have s1 := Same.new (o := .dK []) nr
    have hr1 : upd H r (.dK []) r = some (.dK (kvY [])) := upd_same
    generalize upd H r (.dK []) = H1 at s1 hr1 ⊢
    refine ⟨_, rfl, W, C, 3, t, rfl, wt.same s1, by omega, by decide, by decide, fun way H2 w0 w3 k2 => ?_⟩
    have kk2 : Wkt W C (t + 1) H H2 := ⟨k2.wl, (Same.keep s1).trans k2.kp⟩
    have N2 : NetAt H2 a n g o ps := N.mono fun b xs e => wt.tup kk2 e
    have hca2 : H2 ca = some (.lst (qs.map V.ref)) := kk2.at_ ⟨caW, caC⟩ hca
    have hr2 := k2.at_ rW hr1
    refine ⟨_, rfl, a, _, 0, _, rfl, rfl, SqT.of N2.top, at0, _, rfl, ca, _, rfl, .inl (SqL.of hca2), _, _, rfl, ⟨by omega, by omega, by omega, by rw [List.length_map]; omega⟩, ?_⟩
    refine for_range (lo := ((n.many : Nat) : Int)) (n := ((((qs.map V.ref).length : Nat) : Int) - ((n.many : Nat) : Int)).toNat) (fun j σ H' => ∃ (x6 x7 x8 x9 : Option V) (zs : Zd) (v : Nat → List Nat), σ = [some (.ref W), some (.ref a), some (.ref ca), some (nV k), some (.ref r), some (.int way), x6, x7, x8, x9] ∧ Wkt W C (t + 1 + 3 * j) H H' ∧ TabZ H' r zs v ∧ zs.map (·.1) = (List.range j).map (fun i => n.many + i) ∧ ∀ i, i < j → CutOk n (n.many + i) (v (n.many + i)) ∧ (v (n.many + i)).length ≤ k) ⟨none, none, none, none, [], fun _ => [], rfl, kk2, ⟨hr2, List.nodup_nil, fun z hz => (by cases hz)⟩, rfl, fun i hi => absurd hi (Nat.not_lt_zero _)⟩ ?_ ?_
    · rintro j σ H3 hj ⟨x6, x7, x8, x9, zs, v, rfl, k3, tz, zk, ic⟩
      have hj' : j < n.gates.length := by
        rw [List.length_map, ql] at hj
        omega
      have hgt : n.many + j < n.many + n.gates.length := by omega
      obtain ⟨q1, eq1, ⟨q1W, q1S, rs, cs, hq1, TQ, CA, cl⟩⟩ := PQ.get (i := n.many + j) (y := n.many + j) (by rw [List.getElem?_range hgt])
      obtain ⟨c0, cok0⟩ := cuts_ok ok hk2 (Nat.le_add_right n.many j) hgt CA
      have hq13 := k3.at_ q1W hq1
      have TQ3 := TQ.mono fun b xs e => wt.tup k3 e
      have N3 : NetAt H3 a n g o ps := N.mono fun b xs e => wt.tup k3 e
      have ei : V.int (((n.many : Nat) : Int) + ((j : Nat) : Int)) = nV (n.many + j) := congrArg V.int (by omega)
      rw [ei]
      obtain ⟨gk, hgk⟩ : ∃ gk, n.gates[j]? = some gk := ⟨_, List.getElem?_eq_getElem hj'⟩
      have hpl : j < ps.length := by rw [N.gs.1]; exact hj'
      have hpj : ps[j]? = some ps[j] := List.getElem?_eq_getElem hpl
      have hp3 := N3.gs.2 j _ gk hpj hgk
      have gok := ok.gs j gk hgk
      refine ⟨_, rfl, _, rfl, ca, _, _, _, rfl, rfl, SqL.of (k3.at_ ⟨caW, caC⟩ hca), atI_nat (j := n.many + j) eq1, ?_⟩
      have e1 : (ps.map V.ref)[j]? = some (.ref ps[j]) := by rw [List.getElem?_map, hpj]; rfl
      refine ⟨_, rfl, a, _, 1, _, rfl, rfl, SqT.of N3.top, at1, _, rfl, _, rfl, a, _, 0, _, rfl, rfl, SqT.of N3.top, at0, _, _, rfl, rfl, g, _, _, _, rfl, rfl, SqT.of N3.gt, (by rw [show (((n.many + j : Nat) : Int) - ((n.many : Nat) : Int)) = ((j : Nat) : Int) by omega]; exact atI_nat e1), ?_⟩
      unfold tNoPart
      refine ⟨_, rfl, ?_⟩
      refine slA (lo := some ((1 : Nat) : Int)) (hi := none) hp3 fun r1 H4 s4 e4 => ?_
      rw [cut_lo] at e4
      have e4 : H4 r1 = some (.tup ([gk.2.1, gk.2.2].map nV)) := e4
      refine ⟨r1, [gk.2.1, gk.2.2], rfl, .inr (SqT.of e4), by show 2 ≤ 60; decide, fun sq c nsq hcq => ?_⟩
      have s5 := Same.new (o := SetO w sq (fun j => decide (j ∈ [gk.2.1, gk.2.2].map fun n : Nat => (n : Int))) c) nsq
      refine ⟨sq, _, c, rfl, upd_same, by have : [gk.2.1, gk.2.2].length = 2 := rfl; omega, fun out l pw hmm hll nl => ?_⟩
      obtain ⟨pl, rfl, plr, plm⟩ := sorted_set_nat pw hmm
      rw [mapV]
      have s6 := Same.new (o := .lst (pl.map nV)) nl
      refine ⟨l, _, rfl, .inl ⟨SqL.of upd_same, fun tp ntp => ?_⟩⟩
      have s7 := Same.new (o := .tup (pl.map nV)) ntp
      have s37 := ((s4.trans s5).trans s6).trans s7
      have k7 := k3.same s37
      have htp : (upd (upd (upd H4 sq (SetO w sq (fun j => decide (j ∈ [gk.2.1, gk.2.2].map fun n : Nat => (n : Int))) c)) l (.lst (pl.map nV))) tp (.tup (pl.map nV))) tp = some (.tup (pl.map nV)) := upd_same
      have pl2 : pl.length ≤ 2 := by
        have := (List.nodup_iff_pairwise_ne.mpr (plr.imp fun h => Nat.ne_of_lt h)).length_le_of_subset (l₂ := [gk.2.1, gk.2.2]) fun y hy => (plm y).mp hy
        exact this
      have plok : CutOk n (n.many + j) pl := by
        refine ⟨List.length_pos_of_mem ((plm gk.2.1).mpr List.mem_cons_self), fun y hy => ?_, sep_first (Nat.le_add_right _ _) (k := gk) (by rw [show n.many + j - n.many = j by omega]; exact hgk) (fun z hz => (plm z).mpr (by rcases hz with e | e <;> rw [e] <;> simp)), plr⟩
        have := (plm y).mp hy
        rcases List.mem_cons.mp this with e | e
        · rw [e]; exact gok.2.1
        · rw [List.mem_singleton.mp e]; exact gok.2.2
      refine (fun (rest : ∀ H7, Same H3 H7 → Wkt W C (t + 1 + 3 * j) H H7 → H7 tp = some (HO.tup (pl.map nV)) → _) => rest _ s37 k7 htp) ?_
      clear htp k7 s37 s7 s6 s5
      intro H7 s37 k7 htp
      have hq17 := s37 _ _ hq13
      have TQ7 := TQ3.mono fun b xs e => s37 _ _ e
      have tz7 := tz.same s37
      refine ⟨_, rfl, _, rfl, _, rfl, q1, _, rfl, .inl (SqL.of hq17), W, C, ((rs.map V.ref).length : Int), t + 1 + 3 * j, rfl, k7.wl, by omega, by rw [List.length_map, TQ.1]; omega, by rw [List.length_map, TQ.1]; omega, fun dr H8 d0 dl k8 => ?_⟩
      rw [List.length_map] at dl
      obtain ⟨dn, rfl⟩ : ∃ dn : Nat, dr = ((dn : Nat) : Int) := ⟨dr.toNat, by omega⟩
      have dnl : dn < rs.length := by omega
      have erd : rs[dn]? = some rs[dn] := List.getElem?_eq_getElem dnl
      obtain ⟨cd, hcd⟩ : ∃ cd, cs[dn]? = some cd := ⟨_, List.getElem?_eq_getElem (by rw [← TQ.1]; exact dnl)⟩
      have hrd7 := TQ7.2 dn _ cd erd hcd
      have cdm := List.mem_of_getElem? hcd
      have lcd := (CA.mem cd).mp cdm
      have cdok : CutOk n (n.many + j) cd := ⟨(cok0 cd cdm).1, lcd.lt, lcd.sep, lcd.rise⟩
      have w7 := k7.wl
      have hq18 := k8.at_ q1W hq17
      have kk8 := k7.nxt k8
      refine ⟨q1, _, _, _, rfl, rfl, SqL.of hq18, atI_nat (j := dn) (by rw [List.getElem?_map, erd]; rfl), ?_⟩
      generalize rs[dn] = dp at hrd7 ⊢
      have hrd8 := w7.tup k8 hrd7
      refine ⟨_, rfl, _, rfl, _, rfl, _, rfl, _, rfl, W, C, a, dp, n, n.many + j, k, t + 1 + 3 * j + 1, cd, rfl, k8.wl, by omega, hrd8, cdok, lcd.len, by omega, by omega, by omega, fun rw_ H9 ys k9 hrw yok yl => ?_⟩
      have kk9 := kk8.nxt k9
      have htp9 := k8.wl.tup k9 (w7.tup k8 htp)
      have hrd9 := k8.wl.tup k9 hrd8
      refine ⟨_, rfl, _, rfl, small 3, fun L nL => ?_⟩
      have s10 := Same.new (o := .lst [.ref rw_, .ref tp, .ref dp]) nL
      have hL10 : upd H9 L (.lst [.ref rw_, .ref tp, .ref dp]) L = some (.lst [.ref rw_, .ref tp, .ref dp]) := upd_same
      have k10 := kk9.same s10
      have hr10 := s10 _ _ (k9.at_ rW (k8.at_ rW tz7.at_))
      have cut10 : ∀ z ∈ zs, upd H9 L (.lst [.ref rw_, .ref tp, .ref dp]) z.2 = some (.tup ((v z.1).map nV)) := fun z hz => s10 _ _ (k8.wl.tup k9 (w7.tup k8 (tz7.cut z hz)))
      have a1 := s10 _ _ hrw
      have a2 := s10 _ _ htp9
      have a3 := s10 _ _ hrd9
      generalize upd H9 L (.lst [.ref rw_, .ref tp, .ref dp]) = H10 at hL10 k10 hr10 cut10 a1 a2 a3 ⊢
      obtain ⟨rv, yv, hv, hvt, vok, vl⟩ : ∃ (rv : Addr) (yv : List Nat), atI [V.ref rw_, .ref tp, .ref dp] way = some (.ref rv) ∧ H10 rv = some (.tup (yv.map nV)) ∧ CutOk n (n.many + j) yv ∧ yv.length ≤ k := by
        rcases (by omega : way = 0 ∨ way = 1 ∨ way = 2) with e | e | e <;> subst e
        · exact ⟨_, ys, at0, a1, yok, yl⟩
        · exact ⟨_, pl, at1, a2, plok, by omega⟩
        · exact ⟨_, cd, at2, a3, cdok, lcd.len⟩
      have zn : n.many + j ∉ zs.map (·.1) := fun z => by
        rw [zk] at z
        obtain ⟨i, hi, e⟩ := List.mem_map.mp z
        have := List.mem_range.mp hi
        omega
      have zl : zs.length = j := by
        have := congrArg List.length zk
        rwa [List.length_map, List.length_map, List.length_range] at this
      refine ⟨_, rfl, L, _, _, _, rfl, rfl, SqL.of hL10, hv, _, rfl, _, rfl, r, _, rfl, DPut.k (k := nK (n.many + j)) hr10 (small256 (by rw [kvY_len]; omega)), ?_⟩
      rw [kvY_put tz.ok]
      refine ⟨_, _, _, _, zdPut zs (n.many + j) rv, fun x => if x = n.many + j then yv else v x, rfl, (k10.put nr rW).le (by omega), ⟨upd_same, tz.ok.put _ _, fun z hz => ?_⟩, ?_, fun i hi => ?_⟩
      · have kt : ∀ b xs, H10 b = some (HO.tup xs) → upd H10 r (.dK (kvY (zdPut zs (n.many + j) rv))) b = some (.tup xs) := fun b xs e => by
          rw [upd_ne (fun z => by rw [z, hr10] at e; cases e)]
          exact e
        rcases zdPut_mem tz.ok hz with e | ⟨e, ne⟩
        · rw [e]
          show _ = some (HO.tup ((if n.many + j = n.many + j then yv else v (n.many + j)).map nV))
          rw [if_pos rfl]
          exact kt _ _ hvt
        · rw [if_neg ne]
          exact kt _ _ (cut10 z e)
      · rw [zdPut_new zn, List.map_append, zk, List.range_succ, List.map_append]
        rfl
      · by_cases e : i = j
        · rw [e]
          show CutOk n (n.many + j) (if n.many + j = n.many + j then yv else v (n.many + j)) ∧ (if n.many + j = n.many + j then yv else v (n.many + j)).length ≤ k
          rw [if_pos rfl]
          exact ⟨vok, vl⟩
        · show CutOk n (n.many + i) (if n.many + i = n.many + j then yv else v (n.many + i)) ∧ (if n.many + i = n.many + j then yv else v (n.many + i)).length ≤ k
          rw [if_neg (by omega)]
          exact ic i (by omega)
    · rintro σ H3 ⟨x6, x7, x8, x9, zs, v, rfl, k3, tz, zk, ic⟩
      rw [List.length_map, ql] at zk ic k3
      have el : (((n.many + n.gates.length : Nat) : Int) - ((n.many : Nat) : Int)).toNat = n.gates.length := by omega
      rw [el] at zk ic k3
      have vok : VOk n k v := fun x h1 h2 => by
        have := ic (x - n.many) (by omega)
        rwa [show n.many + (x - n.many) = x by omega] at this
      have N3 : NetAt H3 a n g o ps := N.mono fun b xs e => wt.tup k3 e
      refine ⟨_, rfl, fun e nd => ?_⟩
      have s4 := Same.new (o := .dK []) nd
      have he : upd H3 e (.dK []) e = some (.dK (kvY [])) := upd_same
      generalize upd H3 e (.dK []) = H4 at s4 he ⊢
      have ov : overV [] (fun _ => []) v = v := by
        funext x
        unfold overV
        rw [if_neg (by simp)]
      refine ⟨_, rfl, a, e, r, n, g, o, ps, k, [], zs, fun _ => [], v, rfl, N3.same s4, ok, by omega, ⟨he, List.nodup_nil, fun z hz => (by cases hz)⟩, tz.same s4, fun x h1 h2 => ?_, by rw [ov]; exact vok, fun r5 H5 zs5 s5 nr5 tz5 kn => ?_⟩
      · rw [zk, List.mem_map]
        exact ⟨x - n.many, List.mem_range.mpr (by omega), by omega⟩
      · rw [ov] at tz5 kn
        have k5 := (k3.same s4).same s5
        exact q r5 H5 zs5 v (k5.le (by omega)) (k3.was (Same.was s4 nr5)) vok (lean_tab ok vok tz5 kn)
end
end K57
set_option Elab.async false
set_option linter.all false
set_option maxRecDepth 100000
set_option maxHeartbeats 4000000
namespace K57
open PySem PySem.Spec PyProof.Rows L2 GX
open C8 (Cal pe_c pe_gc Met Mak)
-- @alt one_deeper lst par=l[i],t[i]
-- @alt one_deeper tup par=t[i],t[i]
-- @alt one_deeper dk par=DK,t[i]
section
variable {P : Program} {w : World} {K : PySem.W.Frag} {mg : Str → Option Value} {base : Heap} {Ts : List Addr}
theorem chF_at {n : Net} {v : Nat → List Nat} {x : Nat} (h1 : n.many ≤ x) (h2 : x < n.many + n.gates.length) : chF (fullC n v) x = v x := by
  unfold chF
  rw [look_mem full_rise (t := (x, v x)) (full_mem.mpr ⟨h1, h2, rfl⟩)]
  rfl
theorem due_dpt {cv ts : List Tb} (hc : cv.length ≤ 24) (ht : ts.length ≤ 24) (c8 : ∀ t ∈ cv, t.2.length ≤ 8) (t8 : ∀ t ∈ ts, t.2.length ≤ 8) : Dpt 5 (.tup [thCv cv, thCv ts]) := .inr ⟨_, rfl, by show 2 < 2 ^ 23; decide, fun u hu => by
  rcases List.mem_cons.mp hu with e | e
  · rw [e]
    exact Dpt.cv (d := 0) (Nat.lt_of_le_of_lt hc (by decide)) fun t h => Nat.lt_of_le_of_lt (c8 t h) (by decide)
  · rw [List.mem_singleton.mp e]
    exact Dpt.cv (d := 0) (Nat.lt_of_le_of_lt ht (by decide)) fun t h => Nat.lt_of_le_of_lt (t8 t h) (by decide)⟩
theorem due_rep {H : Hp} {r cp tp : Addr} {cv ts : List Tb} {rs us : List Addr} (h : H r = some (.tup [.ref cp, .ref tp])) (hc : CovAt H cp cv rs) (ht : CovAt H tp ts us) : Rep H (.ref r) (.tup [thCv cv, thCv ts]) := .tup h (.cons (rep_cv hc) (.cons (rep_cv ht) .nil))
/-- turns are short -/
theorem Easd.short {n : Net} (ok : n.Ok) {k : Nat} (hk2 : 2 ≤ k) {ch : Nat → List Nat} (vok : VOk n k ch) {d : Int} {cv r ts : List Tb} (h : Easd n (cofX n k) ch d cv r ts) : CovOk n k cv → ∀ t ∈ ts, t.2.length ≤ k := by
  induction h with
  | stop _ => exact fun _ t ht => (by cases ht)
  | go e _ ih =>
    intro cok t ht
    have tok := turn_ok1 ok hk2 cok (fst_mem e).1
    rcases List.mem_cons.mp ht with e2 | e2
    · rw [e2]; exact tok.2.2.2
    · exact ih (leanV_ok ok (turnV_ok vok cok ⟨tok.2.2.1, tok.2.2.2⟩)) t e2
theorem Easd.cnt {n : Net} {cs : Nat → List (List Nat)} {ch : Nat → List Nat} {d : Int} {cv r ts : List Tb} (h : Easd n cs ch d cv r ts) : r.length + ts.length ≤ cv.length := by
  induction h with
  | stop _ => exact Nat.le_refl _
  | go e _ ih =>
    have := (fst_mem e).2
    rw [List.length_cons]
    omega
def spRight57 (Ts : List Addr) (PL : Addr) : Sp := fun vs H Q _ => ∃ (a td : Addr) (n : Net) (g o : Addr) (ps : List Addr) (k : Nat) (zt : Zd) (vt : Nat → List Nat) (cv : List Tb) (more : Int), vs = [.ref a, nV k, .ref td, .int more] ∧ NetAt H a n g o ps ∧ n.Ok ∧ 2 ≤ k ∧ k ≤ 4 ∧ TbOf H td zt vt cv ∧ CovOk n k cv ∧ Tabs Ts H ∧ LamX.TabS H PL lamQ ∧ ∀ H', AftL Ts PL lamQ H H' → Q (.bl true) H'
theorem ok_right57 {f c PL : Addr} (D : Dfn K mg "_law_right" s__law_right f c) (T : Txt mg) (c__law_cuts : Cal P w K mg base 3 "_law_cuts" spCutsD []) (c__law_depths : Cal P w K mg base 1 "_law_depths" spDepsD []) (c__law_choices : Cal P w K mg base 2 "_law_choices" spChoicesE []) (c__law_depth : Cal P w K mg base 1 "_law_depth" spLDepE []) (c__law_eased : Cal P w K mg base 4 "_law_eased" spLEased []) (c_eased : Cal P w K mg base 6 "eased" (spEased Ts PL) []) (c__law_cover : Cal P w K mg base 1 "_law_cover" spLCovE []) (c__law_same : Cal P w K mg base 6 "_law_same" (spSameH 5) []) : Cal P w K mg base 7 "_law_right" (spRight57 Ts PL) [] := by
  refine cal D (fun _ _ _ _ _ _ us hl => match us, hl with | [_, _, _, _], _ => rfl) sc__law_right (fun vs H Q E h => ?_) (fun A outer s H vs Q E hr h => ?_)
  · obtain ⟨a, td, n, g, o, ps, k, zt, vt, cv, more, rfl, _⟩ := h
    rfl
  · obtain ⟨a, td, n, g, o, ps, k, zt, vt, cv, more, rfl, N, ok, hk2, hk4, tt, cok, tb, tl, q⟩ := h
    have c24 := cok.len ok
    have zl := tt.len cok.rise
    refine ⟨_, (pss_cons (ps_set (i := 4) sc__law_right.nd rfl (by first | exact Or.inl rfl | exact Or.inr rfl) (pe_c c__law_cuts hr (by decide) (by rfl) (pa_cons (pv 0) (pa_cons (pv 1) pa_nil))))
      (pss_cons (ps_set (i := 5) sc__law_right.nd rfl (by first | exact Or.inl rfl | exact Or.inr rfl) (pe_c c__law_choices hr (by decide) (by rfl) (pa_cons (pv 0) (pa_cons (pv 4) (pa_cons (pe_c c__law_depths hr (by decide) (by rfl) (pa_cons (pv 0) (pa_cons (pv 4) pa_nil))) pa_nil)))))
      (pss_cons (ps_set (i := 6) sc__law_right.nd rfl (by first | exact Or.inl rfl | exact Or.inr rfl) (pe_op op_add (pe_c c__law_depth hr (by decide) (by rfl) (pa_cons (pv 0) (pa_cons (pv 2) pa_nil))) (pv 3)))
      (pss_cons (ps_set (i := 7) sc__law_right.nd rfl (by first | exact Or.inl rfl | exact Or.inr rfl) (pe_c c__law_eased hr (by decide) (by rfl) (pa_cons (pv 0) (pa_cons (pv 4) (pa_cons (pv 2) (pa_cons (pv 5) (pa_cons (pv 6) pa_nil)))))))
      (pss_cons (ps_set (i := 8) sc__law_right.nd rfl (by first | exact Or.inl rfl | exact Or.inr rfl) (pe_c c_eased hr (by decide) (by rfl) (pa_cons (pv 0) (pa_cons (pv 1) (pa_cons (pv 6) (pa_cons (pe_c c__law_cover hr (by decide) (by rfl) (pa_cons (pv 2) pa_nil)) pa_nil))))))
      (pss_one (ps_ret (pe_and (pe_c c__law_same hr (by decide) (by rfl) (pa_cons (pv 8) (pa_cons (pv 7) pa_nil))) (pe_one (pe_cmpR op_le (pe_op op_add (pe_callB call_len_seq (by rfl) T.b_len (by decide +kernel) (pa_cons (pe_ix ix_tup (pv 8) pe_int (fun _ _ => rfl)) pa_nil)) (pe_callB call_len_seq (by rfl) T.b_len (by decide +kernel) (pa_cons (pe_ix ix_tup (pv 8) pe_int (fun _ _ => rfl)) pa_nil))) (pe_callB call_lenD (by rfl) T.b_len (by decide +kernel) (pa_cons (pv 2) pa_nil)) (nomark _))))))))))), ?_⟩
    refine ⟨_, rfl, _, rfl, a, n, g, o, ps, k, rfl, N, ok, hk2, hk4, fun ca H0 qs s0 nca hca KT => ?_⟩
    have PQ : PtsAt (KTolL ca n k) H0 qs (List.range (n.many + n.gates.length)) := ⟨KT.1, fun i p x h1 h2 => (KT.2 i p x h1 h2).2⟩
    have hS : ∀ xs, H0 ca ≠ some (.tup xs) := fun xs e => by rw [hca] at e; cases e
    refine ⟨_, rfl, _, rfl, _, rfl, _, rfl, a, n, g, o, ps, ca, ca, qs, k, rfl, N.same s0, ok, hk2, hk4, hca, PQ, fun kn H1 ds s1 nkn hkn dl dt => ?_⟩
    have km : ∀ {H' : Hp}, (∀ b u, H0 b = some u → H' b = some u) → PtsAt (KTolL ca n k) H' qs (List.range (n.many + n.gates.length)) := fun {H'} s => PQ.mono fun q x h => h.mono (fun b v _ e _ => s _ _ e) hS
    refine ⟨a, n, g, o, ps, ca, ca, qs, k, kn, ds, rfl, (N.same s0).same s1, ok, hk2, hk4, s1 _ _ hca, km s1, hkn, dl, dt, fun cd H2 zc s2 ncd tc zck cho => ?_⟩
    have s12 := s1.trans s2
    obtain ⟨fu, vok⟩ := chF_full ok cho
    have gk : ∀ x, x ∈ zc.map (·.1) ↔ n.many ≤ x ∧ x < n.many + n.gates.length := fun x => by
      rw [zck, List.mem_map]
      constructor
      · rintro ⟨i, hi, rfl⟩
        have := List.mem_range.mp hi
        omega
      · rintro ⟨h1, h2⟩
        exact ⟨x - n.many, List.mem_range.mpr (by omega), by omega⟩
    have tcF : TabZ H2 cd zc (chF (fullC n (chX n k ds))) := ⟨tc.at_, tc.ok, fun z hz => by
      obtain ⟨h1, h2⟩ := (gk z.1).mp (List.mem_map.mpr ⟨z, hz, rfl⟩)
      rw [chF_at h1 h2]
      exact tc.cut z hz⟩
    generalize hchs : fullC n (chX n k ds) = chs at cho fu vok tcF
    have t12 := s0.trans s12
    refine ⟨_, rfl, _, rfl, a, td, n, g, o, ps, k, zt, vt, cv, rfl, N.same t12, ok, by omega, tt.same t12, cok, fun H3 s3 => ?_⟩
    have s13 := s12.trans s3
    have t13 := s0.trans s13
    refine ⟨_, rfl, _, _, rfl, rfl, ?_⟩
    dsimp -proj only
    generalize ((depC n cv : Nat) : Int) + more = d
    refine ⟨_, rfl, _, rfl, _, rfl, _, rfl, _, rfl, a, ca, td, cd, n, g, o, ps, ca, qs, k, zt, zc, vt, chF chs, cv, d, rfl, N.same t13, ok, hk2, by omega, s13 _ _ hca, km s13, tt.same t13, cok, tcF.same s3, fun x h1 h2 => (gk x).mpr ⟨h1, h2⟩, vok, ⟨_, s13 _ _ hca⟩, fun r H4 cp tp rs ts cvE tsE s4 eas cokE tl24 hr4 hcp htp => ?_⟩
    have t14 := t13.trans s4
    have dueR := due_rep hr4 hcp htp
    have sh := Easd.short ok hk2 vok eas cok
    have dueD : Dpt 5 (.tup [thCv cvE, thCv tsE]) := due_dpt (cokE.len ok) tl24 (fun t h => by have := (cokE.cut t h).2; omega) fun t h => by have := sh t h; omega
    have sameE : ∀ {cw cw' tw' : List Tb} {ds' : List Nat} {chs' : List Tb}, ds'.length = n.many + n.gates.length → DepsTo n k ds' → ChoicesOf n k ds' chs' → Easd n (cofX n k) (chF chs') d cw cw' tw' → Easd n (cofX n k) (chF chs) d cw cw' tw' := fun {cw cw' tw' ds' chs'} l1 l2 l3 l4 => by
      obtain rfl := deps_uniq ok l2 dt l1 dl
      obtain rfl := l3.uniq cho
      exact l4
    have b4 : AftL Ts PL lamQ H H4 := AftL.same t14 tb tl
    refine ⟨_, rfl, _, rfl, _, rfl, _, rfl, td, zt, vt, cv, rfl, tt.same t14, cok.rise, c24, fun p H6 us s6 hp6 => ?_⟩
    have t16 := t14.trans s6
    have b6 := AftL.same t16 tb tl
    refine ⟨a, p, n, g, o, ps, us, k, d, cv, rfl, N.same t16, ok, hk2, by omega, hp6, cok, b6.tb, b6.tl, fun r7 H7 cp7 tp7 rs7 ts7 ds7 chs7 cv7 ts7' l1 l2 l3 l4 hr7 hc7 ht7 b7 => ?_⟩
    obtain ⟨rfl, rfl⟩ := Easd.uniq (sameE l1 l2 l3 l4) eas
    have b67 := b6.trans b7
    have up47 : ∀ b xs, H4 b = some (.tup xs) → H7 b = some (.tup xs) := fun b xs e => b7.tup b6.tb b6.tl (s6 _ _ e)
    have htd7 : H7 td = some (.dK (kvY zt)) := b7.at_ b6.tb b6.tl (t16 _ _ tt.tz.at_) fun _ z => by cases z
    have cnt := Easd.cnt eas
    have cl : cv7.length = rs7.length := hc7.2.1.symm
    have tl7 : ts7'.length = ts7.length := ht7.2.1.symm
    refine ⟨_, rfl, _, rfl, _, _, _, rfl, due_rep hr7 hc7 ht7, due_rep (up47 _ _ hr4) (hcp.mono up47) (htp.mono up47), dueD, fun H8 s8 => ?_⟩
    refine ⟨true, rfl, ?_⟩
    rw [if_pos rfl]
    refine ⟨_, rfl, r7, _, 0, _, rfl, rfl, SqT.of (s8 _ _ hr7), at0, cp7, _, rfl, .inr (SqT.of (s8 _ _ hc7.1)), _, rfl, r7, _, 1, _, rfl, rfl, SqT.of (s8 _ _ hr7), at1, tp7, _, rfl, .inr (SqT.of (s8 _ _ ht7.1)), _, _, rfl, rfl, _, rfl, td, _, rfl, s8 _ _ htd7, _, _, rfl, rfl, ?_⟩
    rw [List.length_map, List.length_map, kvY_len, zl]
    dsimp -proj only
    rw [decide_eq_true (by omega)]
    exact q H8 (b67.trans (AftL.same s8 b67.tb b67.tl))
end
end K57
set_option Elab.async false
set_option linter.all false
set_option maxRecDepth 100000
set_option maxHeartbeats 4000000
namespace K57
open PySem PySem.Spec PyProof.Rows L2 GX
open C8 (Cal pe_c pe_gc Met Mak)
-- @alt one_deeper lst par=l[i],t[i]
-- @alt one_deeper tup par=t[i],t[i]
-- @alt one_deeper dk par=DK,t[i]
section
variable {P : Program} {w : World} {K : PySem.W.Frag} {mg : Str → Option Value} {base : Heap} {Ts : List Addr} {PL : Addr}
/-- the deck, the tables, the lambda's table through a turn -/
structure Fw (Ts : List Addr) (PL W C : Addr) (t : Nat) (H H' : Hp) : Prop where
  wl : Wt H' W C t
  tb : Tabs Ts H'
  tl : LamX.TabS H' PL lamQ
  kp : Keep (W :: C :: PL :: Ts) H H'
theorem wt_lists {H : Hp} {W C : Addr} {t : Nat} (h : Wt H W C t) : (∃ xs, H W = some (.lst xs)) ∧ ∃ xs, H C = some (.lst xs) := by
  obtain ⟨⟨ns, a, b, e1, e2, _⟩, _⟩ := h
  exact ⟨⟨_, e1⟩, ⟨_, e2⟩⟩
theorem Fw.draw {W C : Addr} {t u : Nat} {H H1 H2 : Hp} (r : Fw Ts PL W C t H H1) (k : Wkt W C u H1 H2) : Fw Ts PL W C u H H2 := by
  obtain ⟨⟨xs, e⟩, ⟨ys, e2⟩⟩ := wt_lists r.wl
  have kk : Keep [W, C] H1 H2 := k.kp
  refine ⟨k.wl, fun b hb => ?_, tabS_keep r.tl kk (fun z => ?_) (fun b hb => ?_), r.kp.trans (kk.mono fun b hb => ?_)⟩
  · obtain ⟨ps, h, t⟩ := r.tb b hb
    refine ⟨ps, kk _ _ h fun z => ?_, t⟩
    rcases List.mem_cons.mp z with z | z
    · rw [z, e] at h; cases h
    · rw [List.mem_singleton.mp z, e2] at h; cases h
  · obtain ⟨ps, h, _⟩ := r.tl
    rcases List.mem_cons.mp z with z | z
    · rw [z, e] at h; cases h
    · rw [List.mem_singleton.mp z, e2] at h; cases h
  · rcases List.mem_cons.mp hb with z | z
    · rw [z]; exact .inr (.inr ⟨xs, e⟩)
    · rw [List.mem_singleton.mp z]; exact .inr (.inr ⟨ys, e2⟩)
  · rcases List.mem_cons.mp hb with z | z
    · rw [z]; exact List.mem_cons_self
    · rw [List.mem_singleton.mp z]; exact List.mem_cons_of_mem _ List.mem_cons_self
theorem Fw.same {W C : Addr} {t : Nat} {H H1 H2 : Hp} (r : Fw Ts PL W C t H H1) (s : Same H1 H2) : Fw Ts PL W C t H H2 :=
  ⟨r.wl.same s, fun b hb => let ⟨ps, h, t⟩ := r.tb b hb; ⟨ps, s _ _ h, t⟩, r.tl.ext fun b o e => s b o e, r.kp.trans fun b o e _ => s b o e⟩
theorem Fw.le {W C : Addr} {t u : Nat} {H H1 : Hp} (r : Fw Ts PL W C t H H1) (l : t ≤ u) : Fw Ts PL W C u H H1 := ⟨r.wl.le l, r.tb, r.tl, r.kp⟩
theorem Fw.aft {W C : Addr} {t : Nat} {H H1 H2 : Hp} (r : Fw Ts PL W C t H H1) (a : AftL Ts PL lamQ H1 H2) : Fw Ts PL W C t H H2 := by
  obtain ⟨⟨ns, x, y, e1, e2, l⟩, ne⟩ := r.wl
  exact ⟨⟨⟨ns, x, y, a.lst r.tb r.tl e1, a.lst r.tb r.tl e2, l⟩, ne⟩, a.tb, a.tl, r.kp.trans (a.kp.mono fun b hb => List.mem_cons_of_mem _ (List.mem_cons_of_mem _ hb))⟩
theorem Fw.tup {W C : Addr} {t u : Nat} {H H1 : Hp} (w0 : Wt H W C u) (tb : Tabs Ts H) (tl : LamX.TabS H PL lamQ) (r : Fw Ts PL W C t H H1) {b : Addr} {xs : List V} (e : H b = some (.tup xs)) : H1 b = some (.tup xs) := by
  obtain ⟨⟨ys, e1⟩, ⟨zs, e2⟩⟩ := wt_lists w0
  refine r.kp b _ e fun z => ?_
  rcases List.mem_cons.mp z with z | z
  · rw [z, e1] at e; cases e
  · rcases List.mem_cons.mp z with z | z
    · rw [z, e2] at e; cases e
    · rcases List.mem_cons.mp z with z | z
      · obtain ⟨ps, h, _⟩ := tl
        rw [z, h] at e; cases e
      · exact tb.nott e (fun _ z => by cases z) z
theorem kt_of {W C r : Addr} {t k : Nat} {n : Net} {H0 H : Hp} (w0 : Wt H0 W C t) {qs : List Addr} {m : Nat} (h : PtsAt (KTolN H0 r n k) H qs (List.range m)) : PtsAt (fun H q x => (q ≠ W ∧ q ≠ C) ∧ KTolL r n k H q x) H qs (List.range m) :=
  ⟨h.1, fun i p x h1 h2 => ⟨w0.new (h.2 i p x h1 h2).1, (h.2 i p x h1 h2).2⟩⟩
def spLaw (K : PySem.W.Frag) (Ts : List Addr) (PL : Addr) : Sp := fun vs H Q _ => ∃ (a : Addr) (ns : List Int), vs = [.ref a] ∧ SqL K H a (ns.map V.int) ∧ ns.length ≤ 63 ∧ Tabs Ts H ∧ LamX.TabS H PL lamQ ∧ ∀ H', Q (.bl true) H'
end
end K57
set_option Elab.async false
set_option linter.all false
set_option maxRecDepth 100000
set_option maxHeartbeats 4000000
namespace K57
open PySem PySem.Spec PyProof.Rows L2 GX
open C8 (Cal pe_c pe_gc Met Mak)
-- @alt one_deeper lst par=l[i],t[i]
-- @alt one_deeper tup par=t[i],t[i]
-- @alt one_deeper dk par=DK,t[i]
section
variable {P : Program} {w : World} {K : PySem.W.Frag} {mg : Str → Option Value} {base : Heap} {Ts : List Addr}
def spGreat : Sp := fun vs H Q _ => ∃ (W C : Addr) (gm t : Nat), vs = [.ref W, nV gm] ∧ Wt H W C t ∧ t ≤ 700000 ∧ gm ≤ 16 ∧ ∀ a n g o ps H', n.Ok → NetAt H' a n g o ps → Wkt W C (t + 300) H H' → Q (.ref a) H'
theorem ok_great {f c : Addr} (D : Dfn K mg "_law_great" s__law_great f c) (T : Txt mg) (c__law_draw : Cal P w K mg base 1 "_law_draw" spDraw []) (c__law_gate : Cal P w K mg base 2 "_law_gate" spGate []) (c__law_net : Cal P w K mg base 3 "_law_net" spNet []) : Cal P w K mg base 4 "_law_great" spGreat [] := by
  refine cal D (fun _ _ _ _ _ _ us hl => match us, hl with | [_, _], _ => rfl) sc__law_great (fun vs H Q E h => ?_) (fun A outer s H vs Q E hr h => ?_)
  · obtain ⟨W, C, gm, t, rfl, _⟩ := h
    rfl
  · obtain ⟨W, C, gm, t, rfl, wt, ht, hgm, q⟩ := h
    refine ⟨_, (pss_cons (ps_asg (pe_c c__law_net hr (by decide) (by rfl) (pa_cons (pv 0) (pa_cons pe_int (pa_cons (pv 1) pa_nil)))) (pg_tup rfl (pgs_cons (pg_name (i := 2) sc__law_great.nd rfl (by first | exact Or.inl rfl | exact Or.inr rfl)) (pgs_cons (pg_name (i := 3) sc__law_great.nd rfl (by first | exact Or.inl rfl | exact Or.inr rfl)) (pgs_cons (pg_name (i := 4) sc__law_great.nd rfl (by first | exact Or.inl rfl | exact Or.inr rfl)) pgs_nil)))))
      (pss_cons (ps_set (i := 5) sc__law_great.nd rfl (by first | exact Or.inl rfl | exact Or.inr rfl) (pe_c c__law_draw hr (by decide) (by rfl) (pa_cons (pv 0) (pa_cons pe_int pa_nil))))
      (pss_cons (ps_for PassesOwn.never rfl (pi_range2 (by rfl) T.b_range (pa_cons (pe_callB call_len_seq (by rfl) T.b_len (by decide +kernel) (pa_cons (pv 3) pa_nil)) (pa_cons pe_int pa_nil))) (pg_name (i := 6) sc__law_great.nd rfl (by first | exact Or.inl rfl | exact Or.inr rfl))
        (pss_one (ps_set (i := 3) sc__law_great.nd rfl (by first | exact Or.inl rfl | exact Or.inr rfl) (pe_op op_catA (pv 3) (pe_tup (pa_cons (pe_c c__law_gate hr (by decide) (by rfl) (pa_cons (pv 0) (pa_cons (pv 2) (pa_cons (pe_op op_add (pv 2) (pv 6)) (pa_cons (pv 5) pa_nil))))) pa_nil))))))
      (pss_one (ps_ret (pe_tup (pa_cons (pv 2) (pa_cons (pv 3) (pa_cons (pe_op op_catA (pe_slice sl_tupA (pv 4) po_none (po_some pe_int)) (pe_tup (pa_cons (pe_op op_sub (pe_op op_add (pv 2) (pe_callB call_len_seq (by rfl) T.b_len (by decide +kernel) (pa_cons (pv 3) pa_nil))) pe_int) pa_nil))) pa_nil))))))))), ?_⟩
    refine ⟨_, rfl, _, rfl, W, C, 8, gm, t, rfl, wt, by omega, by decide, by decide, by omega, fun an n g o ps H1 ok m8 gl N k1 => ?_⟩
    refine ⟨an, _, rfl, SqT.of N.top, rfl, _, _, rfl, _, _, rfl, _, _, rfl, rfl, ?_⟩
    have g16 := ok.g16
    have o8 := ok.o8
    have m1 := ok.m1
    refine ⟨_, rfl, W, C, 4, t + 200, rfl, k1.wl, by omega, by decide, by decide, fun way H2 y0 y4 k2 => ?_⟩
    have N2 := N.mono fun b xs e => k1.wl.tup k2 e
    have k12 := k1.nxt k2
    have pl : ps.length = n.gates.length := N.gs.1
    refine ⟨_, rfl, g, _, rfl, .inr (SqT.of N2.gt), _, _, rfl, ⟨by rw [List.length_map]; omega, by rw [List.length_map]; omega, by omega, by omega⟩, ?_⟩
    refine for_range (lo := (((ps.map V.ref).length : Nat) : Int)) (n := ((10 : Int) - (((ps.map V.ref).length : Nat) : Int)).toNat) (fun i σ H' => ∃ (gp : Addr) (qs : List Addr) (gs : List (Nat × Nat × Nat)) (x6 : Option V), σ = [some (.ref W), some (nV gm), some (nV n.many), some (.ref gp), some (.ref o), some (.int way), x6] ∧ Wkt W C (t + 201 + 4 * i) H H' ∧ H' gp = some (.tup (qs.map V.ref)) ∧ GatesAt H' qs gs ∧ gs.length = n.gates.length + i ∧ (∀ (j : Nat) (g : Nat × Nat × Nat), gs[j]? = some g → gateOk n.many j g) ∧ H' o = some (.tup (n.outs.map nV))) ⟨g, ps, n.gates, none, rfl, k12, N2.gt, N2.gs, rfl, ok.gs, N2.ot⟩ ?_ ?_
    · rintro i σ H3 hi ⟨gp, qs, gs, x6, rfl, k3, hgp, G3, gsl, gok, ho3⟩
      rw [List.length_map, pl] at hi ⊢
      have ei : V.int (((n.gates.length : Nat) : Int) + ((i : Nat) : Int)) = nV (n.gates.length + i) := congrArg V.int (by omega)
      have ew : V.int (((n.many : Nat) : Int) + (((n.gates.length : Nat) : Int) + ((i : Nat) : Int))) = nV (n.many + (n.gates.length + i)) := congrArg V.int (by omega)
      refine ⟨_, rfl, _, rfl, _, rfl, _, rfl, _, rfl, _, _, rfl, rfl, _, rfl, W, C, n.many, n.many + (n.gates.length + i), way, t + 201 + 4 * i, (by show [_, _, V.int _, _] = _; rw [ew]), k3.wl, by omega, by omega, by omega, by omega, y0, y4, fun p H6 g g1 g2 g3 hp k6 np => ⟨small 1, fun tp ntp => ?_⟩⟩
      have s7 := Same.new (o := .tup [.ref p]) ntp
      have k7 := (k3.nxt k6).same s7
      have hgp7 := s7 _ _ (k3.wl.tup k6 hgp)
      have G7 := (k3.wl.gates k6 G3).mono fun b xs e => s7 _ _ e
      have ho7 := s7 _ _ (k3.wl.tup k6 ho3)
      have hp7 := s7 _ _ hp
      have htp : upd H6 tp (.tup [.ref p]) tp = some (.tup [.ref p]) := upd_same
      generalize upd H6 tp (.tup [.ref p]) = H7 at k7 hgp7 G7 ho7 hp7 htp ⊢
      refine catA hgp7 htp (by rw [List.length_map, G7.1, gsl]; exact small _ (by show _ + 1 ≤ _; omega)) fun r H8 s8 hr => ?_
      refine ⟨r, qs ++ [p], gs ++ [g], _, rfl, (k7.same s8).le (by omega), by rw [hr, List.map_append]; rfl, (G7.mono fun b xs e => s8 _ _ e).push (s8 _ _ hp7), by rw [List.length_append, gsl]; rfl, fun j g' e => ?_, s8 _ _ ho7⟩
      by_cases hj : j < gs.length
      · rw [List.getElem?_append_left hj] at e
        exact gok j g' e
      · rw [List.getElem?_append_right (by omega)] at e
        have hz : j - gs.length = 0 := by
          obtain ⟨h1, _⟩ := List.getElem?_eq_some_iff.mp e
          simp at h1
          omega
        rw [hz] at e
        cases e
        have ej : j = n.gates.length + i := by omega
        rw [ej]
        exact ⟨g1, g2, g3⟩
    · rintro σ H3 ⟨gp, qs, gs, x6, rfl, k3, hgp, G3, gsl, gok, ho3⟩
      rw [List.length_map, pl] at k3 gsl
      have gsl16 : gs.length ≤ 16 := by omega
      have ql : qs.length = gs.length := G3.1
      refine ⟨_, rfl, _, rfl, ?_⟩
      refine ⟨_, rfl, ?_⟩
      unfold tNoPart
      refine ⟨_, rfl, ?_⟩
      refine slA (lo := none) (hi := some ((7 : Nat) : Int)) ho3 fun r1 H4 s4 e4 => ?_
      rw [cut_hi, ← List.map_take] at e4
      refine ⟨_, rfl, _, rfl, gp, _, rfl, .inr (SqT.of (s4 _ _ hgp)), _, _, rfl, rfl, _, _, rfl, rfl, small 1, fun tp ntp => ?_⟩
      have s5 := Same.new (o := .tup [V.int (((n.many : Nat) : Int) + (((qs.map V.ref).length : Nat) : Int) - 1)]) ntp
      have htp : upd H4 tp (.tup [V.int (((n.many : Nat) : Int) + (((qs.map V.ref).length : Nat) : Int) - 1)]) tp = some (.tup ([n.many + gs.length - 1].map nV)) := by
        rw [upd_same, List.length_map, ql]
        show some (HO.tup [V.int _]) = some (.tup [V.int _])
        rw [show ((n.many : Nat) : Int) + ((gs.length : Nat) : Int) - 1 = ((n.many + gs.length - 1 : Nat) : Int) by omega]
      generalize upd H4 tp (.tup [V.int (((n.many : Nat) : Int) + (((qs.map V.ref).length : Nat) : Int) - 1)]) = H5 at s5 htp ⊢
      have ol : (n.outs.take 7).length ≤ 7 := by rw [List.length_take]; omega
      refine catA (s5 _ _ e4) htp (by rw [List.length_map]; exact small _ (by show _ + 1 ≤ _; omega)) fun r6 H6 s6 e6 => ?_
      rw [← List.map_append] at e6
      refine ⟨small 3, fun r nr => ?_⟩
      have s7 := Same.new (o := .tup [nV n.many, .ref gp, .ref r6]) nr
      have s47 := s4.trans (s5.trans (s6.trans s7))
      refine q r ⟨n.many, gs, n.outs.take 7 ++ [n.many + gs.length - 1]⟩ gp r6 qs _ ⟨m1, ok.m8, gsl16, gok, by show 1 ≤ (n.outs.take 7 ++ [n.many + gs.length - 1]).length; rw [List.length_append]; exact Nat.le_add_left _ _, by show (n.outs.take 7 ++ [n.many + gs.length - 1]).length ≤ 8; rw [List.length_append]; show _ + 1 ≤ 8; omega, fun x hx => ?_⟩ ⟨upd_same, s47 _ _ hgp, G3.mono fun b xs e => s47 _ _ e, s7 _ _ e6⟩ ((k3.same s47).le (by omega))
      rcases List.mem_append.mp hx with h | h
      · have := ok.os x (List.mem_of_mem_take h)
        show x < n.many + gs.length
        omega
      · rw [List.mem_singleton.mp h]
        show n.many + gs.length - 1 < n.many + gs.length
        omega
end
end K57
set_option Elab.async false
set_option linter.all false
set_option maxRecDepth 100000
set_option maxHeartbeats 4000000
namespace K57
open PySem PySem.Spec PyProof.Rows L2 GX
open C8 (Cal pe_c pe_gc Met Mak)
-- @alt one_deeper lst par=l[i],t[i]
-- @alt one_deeper tup par=t[i],t[i]
-- @alt one_deeper dk par=DK,t[i]
section
variable {P : Program} {w : World} {K : PySem.W.Frag} {mg : Str → Option Value} {base : Heap} {Ts : List Addr}
def spChainE : Sp := fun vs H Q _ => ∃ (W C : Addr) (gm t : Nat), vs = [.ref W, nV gm] ∧ Wt H W C t ∧ t ≤ 700000 ∧ 1 ≤ gm ∧ gm ≤ 16 ∧ ∀ a n g o ps H', n.Ok → n.gates.length = gm → NetAt H' a n g o ps → Wkt W C (t + 100) H H' → Q (.ref a) H'
theorem ok_chainE {f c : Addr} (D : Dfn K mg "_law_chain" s__law_chain f c) (T : Txt mg) (c__law_draw : Cal P w K mg base 1 "_law_draw" spDraw []) : Cal P w K mg base 2 "_law_chain" spChainE [] := by
  refine cal D (fun _ _ _ _ _ _ us hl => match us, hl with | [_, _], _ => rfl) sc__law_chain (fun vs H Q E h => ?_) (fun A outer s H vs Q E hr h => ?_)
  · obtain ⟨W, C, gm, t, rfl, _⟩ := h
    rfl
  · obtain ⟨W, C, gm, t, rfl, wt, ht, h1, hgm, q⟩ := h
    refine ⟨_, (pss_cons (ps_set (i := 2) sc__law_chain.nd rfl (by first | exact Or.inl rfl | exact Or.inr rfl) (pe_op op_add pe_int (pe_c c__law_draw hr (by decide) (by rfl) (pa_cons (pv 0) (pa_cons pe_int pa_nil)))))
      (pss_cons (ps_set (i := 3) sc__law_chain.nd rfl (by first | exact Or.inl rfl | exact Or.inr rfl) (pe_lst (pa_cons (pe_tup (pa_cons (pe_c c__law_draw hr (by decide) (by rfl) (pa_cons (pv 0) (pa_cons pe_int pa_nil))) (pa_cons pe_int (pa_cons pe_int pa_nil)))) pa_nil)))
      (pss_cons (ps_for PassesOwn.never rfl (pi_range2 (by rfl) T.b_range (pa_cons pe_int (pa_cons (pv 1) pa_nil))) (pg_name (i := 4) sc__law_chain.nd rfl (by first | exact Or.inl rfl | exact Or.inr rfl))
        (pss_one (ps_expr (pe_bm PySem.F.plainAttrs_list PySem.F.slot_list_append PySem.F.type_list_append mt_append (pv 3) (pa_cons (pe_tup (pa_cons (pe_c c__law_draw hr (by decide) (by rfl) (pa_cons (pv 0) (pa_cons pe_int pa_nil))) (pa_cons (pe_op op_sub (pe_op op_add (pv 2) (pv 4)) pe_int) (pa_cons (pe_op op_mod (pe_op op_add (pv 4) pe_int) (pv 2)) pa_nil)))) pa_nil)))))
      (pss_one (ps_ret (pe_tup (pa_cons (pv 2) (pa_cons (pe_callTy call_tuple_of (by rfl) T.b_tuple (by decide +kernel) (pa_cons (pv 3) pa_nil)) (pa_cons (pe_tup (pa_cons (pe_op op_sub (pe_op op_add (pv 2) (pv 1)) pe_int) pa_nil)) pa_nil))))))))), ?_⟩
    refine ⟨_, rfl, W, C, 7, t, rfl, wt, by omega, by decide, by decide, fun d0 H1 z0 z1 k1 => ?_⟩
    obtain ⟨m, em⟩ : ∃ m : Nat, (2 : Int) + d0 = ((m : Nat) : Int) := ⟨(2 + d0).toNat, by omega⟩
    refine ⟨_, _, rfl, rfl, ?_⟩
    dsimp -proj only
    rw [em]
    refine ⟨_, rfl, W, C, 16, t + 1, rfl, k1.wl, by omega, by decide, by decide, fun kd H2 e0 e1 k2 => ⟨small 3, fun p0 np0 => ?_⟩⟩
    obtain ⟨kn, rfl⟩ : ∃ kn : Nat, kd = ((kn : Nat) : Int) := ⟨kd.toNat, by omega⟩
    have s3 := Same.new (o := .tup [.int ((kn : Nat) : Int), .int 0, .int 1]) np0
    have k3 := (k1.nxt k2).same s3
    have hp0 : upd H2 p0 (.tup [.int ((kn : Nat) : Int), .int 0, .int 1]) p0 = some (.tup (gV (kn, 0, 1))) := upd_same
    generalize upd H2 p0 (.tup [.int ((kn : Nat) : Int), .int 0, .int 1]) = H3 at k3 hp0 ⊢
    refine ⟨small 1, fun L nL => ?_⟩
    have LW := k3.wl.new nL
    have L0 := k3.was nL
    have s4 := Same.new (o := .lst [.ref p0]) nL
    have k4 := k3.same s4
    have hL4 : upd H3 L (.lst [.ref p0]) L = some (.lst ([p0].map V.ref)) := upd_same
    have G4 : GatesAt (upd H3 L (.lst [.ref p0])) ([] ++ [p0]) ([] ++ [(kn, 0, 1)]) := (GatesAt.nil _).push (s4 _ _ hp0)
    generalize upd H3 L (.lst [.ref p0]) = H4 at k4 hL4 G4 ⊢
    refine ⟨_, rfl, _, _, rfl, ⟨by omega, by omega, by omega, by omega⟩, ?_⟩
    refine for_range (lo := 1) (n := (((gm : Nat) : Int) - 1).toNat) (fun i σ H' => ∃ (qs : List Addr) (gs : List (Nat × Nat × Nat)) (x4 : Option V), σ = [some (.ref W), some (nV gm), some (nV m), some (.ref L), x4] ∧ Wkt W C (t + 2 + i) H H' ∧ H' L = some (.lst (qs.map V.ref)) ∧ GatesAt H' qs gs ∧ gs.length = 1 + i ∧ (∀ (j : Nat) (g : Nat × Nat × Nat), gs[j]? = some g → gateOk m j g)) ⟨[p0], [(kn, 0, 1)], none, rfl, k4, hL4, G4, rfl, fun j g e => ?_⟩ ?_ ?_
    · have hj : j = 0 := by
        obtain ⟨h1, _⟩ := List.getElem?_eq_some_iff.mp e
        simp at h1
        omega
      rw [hj] at e ⊢
      cases e
      exact ⟨by show kn < 16; omega, by show 0 < m + 0; omega, by show 1 < m + 0; omega⟩
    · rintro i σ H5 hi ⟨qs, gs, x4, rfl, k5, hL5, G5, gsl, gok⟩
      have hm : (((1 : Int) + ((i : Nat) : Int) + 1) % ((m : Nat) : Int)) = (((1 + i + 1) % m : Nat) : Int) := by
        rw [show ((1 : Int) + ((i : Nat) : Int) + 1) = ((1 + i + 1 : Nat) : Int) by omega]
        exact (Int.natCast_emod _ _).symm
      have hml : (1 + i + 1) % m < m := Nat.mod_lt _ (by omega)
      refine ⟨_, rfl, .inl ⟨rfl, _, SqL.of hL5⟩, _, rfl, W, C, 16, t + 2 + i, rfl, k5.wl, by omega, by decide, by decide, fun kd H6 e0 e1 k6 => ?_⟩
      refine ⟨_, rfl, _, rfl, _, _, rfl, rfl, _, _, rfl, rfl, _, rfl, _, _, rfl, rfl, _, rfl, _, _, rfl, rfl, by omega, small 3, fun p np => ?_⟩
      obtain ⟨kk, rfl⟩ : ∃ kk : Nat, kd = ((kk : Nat) : Int) := ⟨kd.toNat, by omega⟩
      have ep : [V.int ((kk : Nat) : Int), V.int (((m : Nat) : Int) + ((1 : Int) + ((i : Nat) : Int)) - 1), V.int (((1 : Int) + ((i : Nat) : Int) + 1) % ((m : Nat) : Int))] = gV (kk, m + i, (1 + i + 1) % m) := by
        rw [hm, show ((m : Nat) : Int) + ((1 : Int) + ((i : Nat) : Int)) - 1 = ((m + i : Nat) : Int) by omega]
        rfl
      have s7 := Same.new (o := .tup [V.int ((kk : Nat) : Int), V.int (((m : Nat) : Int) + ((1 : Int) + ((i : Nat) : Int)) - 1), V.int (((1 : Int) + ((i : Nat) : Int) + 1) % ((m : Nat) : Int))]) np
      have hp : upd H6 p (.tup [V.int ((kk : Nat) : Int), V.int (((m : Nat) : Int) + ((1 : Int) + ((i : Nat) : Int)) - 1), V.int (((1 : Int) + ((i : Nat) : Int) + 1) % ((m : Nat) : Int))]) p = some (.tup (gV (kk, m + i, (1 + i + 1) % m))) := by rw [upd_same, ep]
      have k7 := (k5.nxt k6).same s7
      have hL7 := s7 _ _ (k6.at_ LW hL5)
      have G7 := (k5.wl.gates k6 G5).mono fun b xs e => s7 _ _ e
      generalize upd H6 p (.tup [V.int ((kk : Nat) : Int), V.int (((m : Nat) : Int) + ((1 : Int) + ((i : Nat) : Int)) - 1), V.int (((1 : Int) + ((i : Nat) : Int) + 1) % ((m : Nat) : Int))]) = H7 at k7 hL7 G7 hp ⊢
      refine ⟨L, _, _, rfl, rfl, hL7, by rw [List.length_map, G7.1, gsl]; exact small256 (by omega), ?_⟩
      have tp := tupPut (ys := qs.map V.ref ++ [.ref p]) hL7
      refine ⟨qs ++ [p], gs ++ [(kk, m + i, (1 + i + 1) % m)], _, rfl, (k7.put L0 LW).le (by omega), by rw [upd_same, List.map_append]; rfl, (G7.mono tp).push (tp _ _ hp), by rw [List.length_append, gsl]; rfl, fun j g' e => ?_⟩
      by_cases hj : j < gs.length
      · rw [List.getElem?_append_left hj] at e
        exact gok j g' e
      · rw [List.getElem?_append_right (by omega)] at e
        have hz : j - gs.length = 0 := by
          obtain ⟨h1, _⟩ := List.getElem?_eq_some_iff.mp e
          simp at h1
          omega
        rw [hz] at e
        cases e
        have ej : j = 1 + i := by omega
        rw [ej]
        exact ⟨by show kk < 16; omega, by show m + i < m + (1 + i); omega, by show (1 + i + 1) % m < m + (1 + i); omega⟩
    · rintro σ H5 ⟨qs, gs, x4, rfl, k5, hL5, G5, gsl, gok⟩
      have gl : gs.length = gm := by omega
      refine ⟨_, rfl, _, rfl, L, _, rfl, .inl ⟨SqL.of hL5, fun gt ngt => ?_⟩⟩
      have s6 := Same.new (o := .tup (qs.map V.ref)) ngt
      refine ⟨_, rfl, _, rfl, _, _, rfl, rfl, _, _, rfl, rfl, small 1, fun o no => ⟨small 3, fun r nr => ?_⟩⟩
      have ho : upd (upd H5 gt (.tup (qs.map V.ref))) o (.tup [V.int (((m : Nat) : Int) + ((gm : Nat) : Int) - 1)]) o = some (.tup ([m + gm - 1].map nV)) := by
        rw [upd_same]
        show some (HO.tup [V.int _]) = some (.tup [V.int _])
        rw [show ((m : Nat) : Int) + ((gm : Nat) : Int) - 1 = ((m + gm - 1 : Nat) : Int) by omega]
      have s7 := Same.new (o := .tup [V.int (((m : Nat) : Int) + ((gm : Nat) : Int) - 1)]) no
      have s8 := Same.new (o := .tup [nV m, .ref gt, .ref o]) nr
      have s68 := s6.trans (s7.trans s8)
      refine q r ⟨m, gs, [m + gm - 1]⟩ gt o qs _ ⟨by show 1 ≤ m; omega, by show m ≤ 8; omega, by show gs.length ≤ 16; omega, gok, Nat.le_refl _, by show 1 ≤ 8; decide, fun x hx => ?_⟩ gl ⟨upd_same, s8 _ _ (s7 _ _ upd_same), G5.mono fun b xs e => s68 _ _ e, s8 _ _ ho⟩ ((k5.same s68).le (by omega))
      rw [List.mem_singleton.mp hx]
      show m + gm - 1 < m + gs.length
      omega
end
end K57
set_option Elab.async false
set_option linter.all false
set_option maxRecDepth 100000
set_option maxHeartbeats 4000000
namespace K57
open PySem PySem.Spec PyProof.Rows L2 GX
open C8 (Cal pe_c pe_gc Met Mak)
-- @alt one_deeper lst par=l[i],t[i]
-- @alt one_deeper tup par=t[i],t[i]
-- @alt one_deeper dk par=DK,t[i]
section
variable {P : Program} {w : World} {K : PySem.W.Frag} {mg : Str → Option Value} {base : Heap} {Ts : List Addr} {PL : Addr}
theorem AftL.put57 {Ts : List Addr} {P : Addr} {q : Str} {H H' : Hp} {l : Addr} {o : HO} (a : AftL Ts P q H H') (t : Tabs Ts H) (tl : LamX.TabS H P q) (n : H l = none) (nl : ∀ u, H' l = some u → (∃ xs, u = .lst xs) ∨ ∃ kvs, u = .dK kvs) : AftL Ts P q H (L2.upd H' l o) := by
  refine ⟨fun b u e nb => by rw [upd_ne (ne_of_none e n)]; exact a.kp b u e nb, a.tb.upd (t.none n), ?_⟩
  obtain ⟨ps, h1, h2, h3⟩ := a.tl
  have lP : P ≠ l := fun z => by
    obtain ⟨ps', h, _⟩ := tl
    rw [z, n] at h
    cases h
  refine ⟨ps, by rw [upd_ne lP]; exact h1, h2, fun pos cv hc => ?_⟩
  obtain ⟨c, e1, e2⟩ := h3 pos cv hc
  refine ⟨c, e1, ?_⟩
  rw [upd_ne (fun z => ?_)]
  · exact e2
  · rcases nl _ (by rw [← z]; exact e2) with ⟨xs, h⟩ | ⟨xs, h⟩ <;> (unfold LamX.CodeO at h; cases h)
theorem Fw.lst57 {W C b : Addr} {t : Nat} {H H1 : Hp} (tb : Tabs Ts H) (tl : LamX.TabS H PL lamQ) (r : Fw Ts PL W C t H H1) {xs : List V} (ne : b ≠ W ∧ b ≠ C) (e : H b = some (.lst xs)) : H1 b = some (.lst xs) := r.kp b _ e fun z => by
  rcases List.mem_cons.mp z with z | z
  · exact ne.1 z
  · rcases List.mem_cons.mp z with z | z
    · exact ne.2 z
    · rcases List.mem_cons.mp z with z | z
      · obtain ⟨ps, h, _⟩ := tl
        rw [z, h] at e; cases e
      · exact tb.lst e z
theorem kt_fw {W C S : Addr} {t u k : Nat} {n : Net} {H H' : Hp} (w0 : Wt H W C t) (tb : Tabs Ts H) (tl : LamX.TabS H PL lamQ) (r : Fw Ts PL W C u H H') {qs : List Addr} {m : Nat} (h : PtsAt (fun H q x => (q ≠ W ∧ q ≠ C) ∧ KTolL S n k H q x) H qs (List.range m)) : PtsAt (fun H q x => (q ≠ W ∧ q ≠ C) ∧ KTolL S n k H q x) H' qs (List.range m) :=
  ⟨h.1, fun i p x h1 h2 => by
    obtain ⟨ne, qS, rs, cs, e, T, ca, l⟩ := h.2 i p x h1 h2
    exact ⟨ne, qS, rs, cs, r.lst57 tb tl ne e, T.mono fun b xs z => Fw.tup w0 tb tl r z, ca, l⟩⟩
theorem sq_same {K : PySem.W.Frag} {H H' : Hp} {a : Addr} {xs : List V} (h : SqL K H a xs) (s : Same H H') : SqL K H' a xs := by
  rcases h with (h | ⟨o, h⟩) | h
  · exact .inl (.inl (s _ _ h))
  · exact .inl (.inr ⟨o, s _ _ h⟩)
  · exact .inr h
theorem ok_law {f c : Addr} {oc kV doc pm ct : Value} {od an : Option Addr} {osl : Array (Option Value)}
    (lk : K.lookup f = some ⟨oc, od, .func (PySem.W.fnOf "law" "law" (defArgs s_law) (defBody s_law) (defScope s_law) .none kV doc pm an (.ref c) ct), osl⟩) (hcd : PySem.W.codeIn K (.ref c) "law" = true) (T : Txt mg)
    (c__law_deck : Cal P w K mg base 1 "_law_deck" (spDeck K) []) (c__law_draw : Cal P w K mg base 1 "_law_draw" spDraw []) (c__law_great : Cal P w K mg base 4 "_law_great" spGreat []) (c__law_chain : Cal P w K mg base 2 "_law_chain" spChainE []) (c__law_cuts : Cal P w K mg base 3 "_law_cuts" spCutsD []) (c__law_lean : Cal P w K mg base 3 "_law_lean" spLLean []) (c__law_right : Cal P w K mg base 7 "_law_right" (spRight57 Ts PL) []) :
    FnOk P w K mg base L2.CX0 8 f (PySem.W.fnOf "law" "law" (defArgs s_law) (defBody s_law) (defScope s_law) .none kV doc pm an (.ref c) ct) ["_law_script"] (spLaw K Ts PL) := by
  refine fnok lk hcd sc_law (fun vs H Q E h => ?_) (fun A outer s H vs Q E hr h => ?_)
  · obtain ⟨a, ns, rfl, _⟩ := h
    rfl
  · obtain ⟨a, ns, rfl, hS, hlen, tb, tl, q⟩ := h
    refine ⟨_, (pss_cons (ps_set (i := 1) sc_law.nd rfl (by first | exact Or.inl rfl | exact Or.inr rfl) (pe_c c__law_deck hr (by decide) (by rfl) (pa_cons (pv 0) pa_nil)))
      (pss_cons (ps_set (i := 2) sc_law.nd rfl (by first | exact Or.inl rfl | exact Or.inr rfl) (pe_op op_add pe_int (pe_c c__law_draw hr (by decide) (by rfl) (pa_cons (pv 1) (pa_cons pe_int pa_nil)))))
      (pss_cons (ps_set (i := 3) sc_law.nd rfl (by first | exact Or.inl rfl | exact Or.inr rfl) (pe_ix ix_list (pe_lst (pa_cons pe_int (pa_cons pe_int pa_nil))) (pe_callTy call_int1 (by rfl) T.b_int (by decide +kernel) (pa_cons (pe_cmpR op_eq (pv 2) pe_int (nomark _)) pa_nil)) (fun _ _ => rfl)))
      (pss_cons (ps_set (i := 4) sc_law.nd rfl (by first | exact Or.inl rfl | exact Or.inr rfl) (pe_c c__law_great hr (by decide) (by rfl) (pa_cons (pv 1) (pa_cons (pv 3) pa_nil))))
      (pss_cons (ps_set (i := 5) sc_law.nd rfl (by first | exact Or.inl rfl | exact Or.inr rfl) (pe_c c__law_cuts hr (by decide) (by rfl) (pa_cons (pv 4) (pa_cons (pv 2) pa_nil))))
      (pss_cons (ps_for PassesOwn.never rfl (pi_range1 (by rfl) T.b_range (pa_cons pe_int pa_nil)) (pg_name (i := 6) sc_law.nd rfl (by first | exact Or.inl rfl | exact Or.inr rfl))
        (pss_one (ps_if (pt_not (pt_val (pe_c c__law_right hr (by decide) (by rfl) (pa_cons (pv 4) (pa_cons (pv 2) (pa_cons (pe_c c__law_lean hr (by decide) (by rfl) (pa_cons (pv 1) (pa_cons (pv 4) (pa_cons (pv 5) (pa_cons (pv 2) pa_nil))))) (pa_cons (pe_c c__law_draw hr (by decide) (by rfl) (pa_cons (pv 1) (pa_cons pe_int pa_nil))) pa_nil))))))) (pss_one (ps_ret pe_bl)) pss_nil)))
      (pss_cons (ps_set (i := 4) sc_law.nd rfl (by first | exact Or.inl rfl | exact Or.inr rfl) (pe_c c__law_chain hr (by decide) (by rfl) (pa_cons (pv 1) (pa_cons (pv 3) pa_nil))))
      (pss_cons (ps_set (i := 7) sc_law.nd rfl (by first | exact Or.inl rfl | exact Or.inr rfl) pe_dnewK)
      (pss_cons (ps_for PassesOwn.never rfl (pi_range1 (by rfl) T.b_range (pa_cons (pv 3) pa_nil)) (pg_name (i := 8) sc_law.nd rfl (by first | exact Or.inl rfl | exact Or.inr rfl))
        (pss_one (ps_dput (Nat.lt_of_le_of_lt (Nat.add_le_add_left (by decide) _) hr.units) (pv 7) (pe_op op_add (pe_ix ix_tup (pv 4) pe_int (fun _ _ => rfl)) (pv 8)) (pe_callTy call_tuple_of (by rfl) T.b_tuple (by decide +kernel) (pa_cons (pe_callB (cr_sortedSet rfl) (by rfl) T.b_sorted (by decide +kernel) (pa_cons (pe_callTy (cr_setN rfl) (by rfl) T.b_set (by decide +kernel) (pa_cons (pe_slice sl_tupA (pe_ix ix_tup (pe_ix ix_tup (pv 4) pe_int (fun _ _ => rfl)) (pv 8) (fun _ _ => rfl)) (po_some pe_int) po_none) pa_nil)) pa_nil)) pa_nil)) (by rfl))))
      (pss_one (ps_ret (pe_c c__law_right hr (by decide) (by rfl) (pa_cons (pv 4) (pa_cons (pv 2) (pa_cons (pv 7) (pa_cons pe_int pa_nil)))))))))))))))), ?_⟩
    refine ⟨_, rfl, a, ns, rfl, hS, hlen, fun W C H1 nW nC w1 s1 => ?_⟩
    have tb1 := tb.same s1
    have tl1 : LamX.TabS H1 PL lamQ := tl.ext fun b o e => s1 b o e
    have hS1 : SqL K H1 a (ns.map V.int) := sq_same hS s1
    refine ⟨_, rfl, W, C, 3, 0, rfl, w1, by omega, by decide, by decide, fun d0 H2 e0 e1 k2 => ?_⟩
    obtain ⟨kw, ek⟩ : ∃ kw : Nat, (2 : Int) + d0 = ((kw : Nat) : Int) := ⟨(2 + d0).toNat, by omega⟩
    refine ⟨_, _, rfl, rfl, ?_⟩
    dsimp -proj only
    rw [ek]
    have kw2 : 2 ≤ kw := by omega
    have kw4 : kw ≤ 4 := by omega
    have r1 : Fw Ts PL W C 0 H1 H1 := ⟨w1, tb1, tl1, Keep.refl⟩
    have r2 := r1.draw k2
    refine ⟨small 2, fun l2 n2 => ?_⟩
    have sL := Same.new (o := .lst [.int 16, .int 12]) n2
    have r3 := r2.same sL
    have h2 : upd H2 l2 (.lst [.int 16, .int 12]) l2 = some (.lst [.int 16, .int 12]) := upd_same
    generalize upd H2 l2 (.lst [.int 16, .int 12]) = H3 at r3 h2 ⊢
    obtain ⟨gm, egm, gm1, gm16⟩ : ∃ gm : Nat, (if decide (nV kw = V.int 4) = true then V.int 12 else V.int 16) = nV gm ∧ 1 ≤ gm ∧ gm ≤ 16 := by
      split
      · exact ⟨12, rfl, by decide, by decide⟩
      · exact ⟨16, rfl, by decide, by decide⟩
    refine ⟨_, rfl, rfl, .inr ⟨_, rfl, l2, _, _, nV gm, rfl, rfl, SqL.of h2, (by rw [atIf]; exact congrArg some egm), ?_⟩⟩
    refine ⟨_, rfl, _, rfl, W, C, gm, 1, rfl, r3.wl, by omega, gm16, fun an n g o ps H4 ok N k4 => ?_⟩
    have r4 := r3.draw k4
    refine ⟨_, rfl, _, rfl, an, n, g, o, ps, kw, rfl, N, ok, kw2, kw4, fun ca H5 qs s5 nca hca KT => ?_⟩
    have r5 := r4.same s5
    have N5 := N.same s5
    have caW := r4.wl.new nca
    have KT5 := kt_of r4.wl KT
    have w5 := r5.wl
    have tb5 := r5.tb
    have tl5 := r5.tl
    refine ⟨_, rfl, by decide, by decide, ?_⟩
    refine for_range (lo := 0) (n := 2) (fun i σ H' => ∃ x6 : Option V, σ = [some (.ref a), some (.ref W), some (nV kw), some (nV gm), some (.ref an), some (.ref ca), x6, none, none] ∧ ∃ t', t' ≤ 301 + 200 * i ∧ Fw Ts PL W C t' H5 H') ⟨none, rfl, 301, by omega, w5, tb5, tl5, Keep.refl⟩ ?_ ?_
    · rintro i σ H6 hi ⟨x6, rfl, t', ht', d6⟩
      have N6 : NetAt H6 an n g o ps := N5.mono fun b xs e => Fw.tup w5 tb5 tl5 d6 e
      have hca6 := d6.lst57 tb5 tl5 caW hca
      have KT6 := kt_fw w5 tb5 tl5 d6 KT5
      refine ⟨_, rfl, _, rfl, _, rfl, _, rfl, _, rfl, _, rfl, W, C, an, ca, n, g, o, ps, ca, qs, kw, t', rfl, d6.wl, by omega, N6, ok, kw2, kw4, hca6, caW.1, caW.2, KT6, fun td H11 zs v k11 ntd vok tt => ?_⟩
      have d11 := d6.draw k11
      have tdW := d6.wl.new ntd
      refine ⟨_, rfl, W, C, 3, t' + 100, rfl, d11.wl, by omega, by decide, by decide, fun dr H12 e0 e1 k12 => ?_⟩
      have d12 := d11.draw k12
      have tt12 : TbOf H12 td zs v (leanV n v) := tt.mono (fun b xs e => d11.wl.tup k12 e) (k12.at_ tdW tt.tz.at_)
      refine ⟨an, td, n, g, o, ps, kw, zs, v, leanV n v, dr, rfl, (N6.mono fun b xs e => d6.wl.tup k11 e).mono fun b xs e => d11.wl.tup k12 e, ok, kw2, kw4, tt12, leanV_ok ok vok, d12.tb, d12.tl, fun H14 a14 => ?_⟩
      exact ⟨_, rfl, iteF ⟨_, rfl, t' + 100 + 1, by omega, d12.aft a14⟩⟩
    · rintro σ H6 ⟨x6, rfl, t', ht', d6⟩
      refine ⟨_, rfl, _, rfl, W, C, gm, t', rfl, d6.wl, by omega, gm1, gm16, fun an' n' g' o' ps' H7 ok' gl' N' k7 => ?_⟩
      have d7 := d6.draw k7
      have tb7 := d7.tb
      have tl7 := d7.tl
      have m8' := ok'.m8
      have m1' := ok'.m1
      refine fun td ntd => ?_
      have b8 : AftL Ts PL lamQ H7 (upd H7 td (.dK [])) := AftL.same (Same.new ntd) tb7 tl7
      have hd8 : upd H7 td (.dK []) td = some (.dK (kvY [])) := upd_same
      generalize upd H7 td (.dK []) = H8 at b8 hd8 ⊢
      refine ⟨_, rfl, _, rfl, by omega, by omega, ?_⟩
      refine for_range (lo := 0) (n := ((gm : Nat) : Int).toNat) (fun j σ H' => ∃ (x8 : Option V) (zs : Zd) (v : Nat → List Nat), σ = [some (.ref a), some (.ref W), some (nV kw), some (nV gm), some (.ref an'), some (.ref ca), x6, some (.ref td), x8] ∧ AftL Ts PL lamQ H7 H' ∧ TabZ H' td zs v ∧ zs.map (·.1) = (List.range j).map (fun i => n'.many + i) ∧ ∀ i, i < j → CutOk n' (n'.many + i) (v (n'.many + i)) ∧ (v (n'.many + i)).length ≤ kw) ⟨none, [], fun _ => [], rfl, b8, ⟨hd8, List.nodup_nil, fun z hz => (by cases hz)⟩, rfl, fun i hi => absurd hi (Nat.not_lt_zero _)⟩ ?_ ?_
      · rintro j σ H9 hj ⟨x8, zs, v, rfl, b9, tz, zk, ic⟩
        have hj' : j < n'.gates.length := by omega
        have N9 : NetAt H9 an' n' g' o' ps' := N'.mono fun b xs e => b9.tup tb7 tl7 e
        obtain ⟨gk, hgk⟩ : ∃ gk, n'.gates[j]? = some gk := ⟨_, List.getElem?_eq_getElem hj'⟩
        have hpl : j < ps'.length := by rw [N'.gs.1]; exact hj'
        have hpj : ps'[j]? = some ps'[j] := List.getElem?_eq_getElem hpl
        have hp9 := N9.gs.2 j _ gk hpj hgk
        have gok := ok'.gs j gk hgk
        have e1 : (ps'.map V.ref)[j]? = some (.ref ps'[j]) := by rw [List.getElem?_map, hpj]; rfl
        refine ⟨_, rfl, an', _, 1, _, rfl, rfl, SqT.of N9.top, at1, _, rfl, g', _, _, _, rfl, rfl, SqT.of N9.gt, (by rw [Int.zero_add]; exact atI_nat e1), ?_⟩
        unfold tNoPart
        refine ⟨_, rfl, ?_⟩
        refine slA (lo := some ((1 : Nat) : Int)) (hi := none) hp9 fun r1 H10 s10 e4 => ?_
        rw [cut_lo] at e4
        have e4 : H10 r1 = some (.tup ([gk.2.1, gk.2.2].map nV)) := e4
        refine ⟨r1, [gk.2.1, gk.2.2], rfl, .inr (SqT.of e4), by show 2 ≤ 60; decide, fun sq c nsq hcq => ?_⟩
        have s5 := Same.new (o := SetO w sq (fun j => decide (j ∈ [gk.2.1, gk.2.2].map fun n : Nat => (n : Int))) c) nsq
        refine ⟨sq, _, c, rfl, upd_same, by have : [gk.2.1, gk.2.2].length = 2 := rfl; omega, fun out l pw hmm hll nl => ?_⟩
        obtain ⟨pl, rfl, plr, plm⟩ := sorted_set_nat pw hmm
        rw [mapV]
        have s6 := Same.new (o := .lst (pl.map nV)) nl
        refine ⟨l, _, rfl, .inl ⟨SqL.of upd_same, fun tp ntp => ?_⟩⟩
        have s7 := Same.new (o := .tup (pl.map nV)) ntp
        have s37 := ((s10.trans s5).trans s6).trans s7
        have htp : (upd (upd (upd H10 sq (SetO w sq (fun j => decide (j ∈ [gk.2.1, gk.2.2].map fun n : Nat => (n : Int))) c)) l (.lst (pl.map nV))) tp (.tup (pl.map nV))) tp = some (.tup (pl.map nV)) := upd_same
        have pl2 : pl.length ≤ 2 := by
          have := (List.nodup_iff_pairwise_ne.mpr (plr.imp fun h => Nat.ne_of_lt h)).length_le_of_subset (l₂ := [gk.2.1, gk.2.2]) fun y hy => (plm y).mp hy
          exact this
        have plok : CutOk n' (n'.many + j) pl := by
          refine ⟨List.length_pos_of_mem ((plm gk.2.1).mpr List.mem_cons_self), fun y hy => ?_, sep_first (Nat.le_add_right _ _) (k := gk) (by rw [show n'.many + j - n'.many = j by omega]; exact hgk) (fun z hz => (plm z).mpr (by rcases hz with e | e <;> rw [e] <;> simp)), plr⟩
          have := (plm y).mp hy
          rcases List.mem_cons.mp this with e | e
          · rw [e]; exact gok.2.1
          · rw [List.mem_singleton.mp e]; exact gok.2.2
        refine (fun (rest : ∀ H11, Same H9 H11 → H11 tp = some (HO.tup (pl.map nV)) → _) => rest _ s37 htp) ?_
        clear htp s37 s7 s6 s5
        intro H11 s37 htp
        have tz11 := tz.same s37
        have N11 := N9.same s37
        have zn : n'.many + j ∉ zs.map (·.1) := fun z => by
          rw [zk] at z
          obtain ⟨i, hi, e⟩ := List.mem_map.mp z
          have := List.mem_range.mp hi
          omega
        have zl : zs.length = j := by
          have := congrArg List.length zk
          rwa [List.length_map, List.length_map, List.length_range] at this
        have ek : V.int (((n'.many : Nat) : Int) + (0 + ((j : Nat) : Int))) = nV (n'.many + j) := congrArg V.int (by omega)
        refine ⟨_, rfl, _, rfl, an', _, 0, _, rfl, rfl, SqT.of N11.top, at0, _, rfl, _, _, rfl, rfl, ?_⟩
        dsimp -proj only
        rw [ek]
        refine ⟨td, _, rfl, DPut.k (k := nK (n'.many + j)) tz11.at_ (small256 (by rw [kvY_len]; omega)), ?_⟩
        rw [kvY_put tz.ok]
        have b11 : AftL Ts PL lamQ H7 H11 := b9.trans (AftL.same s37 b9.tb b9.tl)
        refine ⟨_, zdPut zs (n'.many + j) tp, fun x => if x = n'.many + j then pl else v x, rfl, AftL.put57 b11 tb7 tl7 ntd (fun u e => .inr ⟨_, Option.some.inj (e.symm.trans tz11.at_)⟩), ⟨upd_same, tz.ok.put _ _, fun z hz => ?_⟩, ?_, fun i hi => ?_⟩
        · have kt : ∀ b xs, H11 b = some (HO.tup xs) → upd H11 td (.dK (kvY (zdPut zs (n'.many + j) tp))) b = some (.tup xs) := fun b xs e => by
            rw [upd_ne (fun z => by rw [z, tz11.at_] at e; cases e)]
            exact e
          rcases zdPut_mem tz.ok hz with e | ⟨e, ne⟩
          · rw [e]
            show _ = some (HO.tup ((if n'.many + j = n'.many + j then pl else v (n'.many + j)).map nV))
            rw [if_pos rfl]
            exact kt _ _ htp
          · rw [if_neg ne]
            exact kt _ _ (tz11.cut z e)
        · rw [zdPut_new zn, List.map_append, zk, List.range_succ, List.map_append]
          rfl
        · by_cases e : i = j
          · rw [e]
            show CutOk n' (n'.many + j) (if n'.many + j = n'.many + j then pl else v (n'.many + j)) ∧ (if n'.many + j = n'.many + j then pl else v (n'.many + j)).length ≤ kw
            rw [if_pos rfl]
            exact ⟨plok, by omega⟩
          · show CutOk n' (n'.many + i) (if n'.many + i = n'.many + j then pl else v (n'.many + i)) ∧ (if n'.many + i = n'.many + j then pl else v (n'.many + i)).length ≤ kw
            rw [if_neg (by omega)]
            exact ic i (by omega)
      · rintro σ H9 ⟨x8, zs, v, rfl, b9, tz, zk, ic⟩
        rw [Int.toNat_natCast, ← gl'] at zk ic
        have N9 : NetAt H9 an' n' g' o' ps' := N'.mono fun b xs e => b9.tup tb7 tl7 e
        have vok : VOk n' kw v := fun x h1 h2 => by
          have := ic (x - n'.many) (by omega)
          rwa [show n'.many + (x - n'.many) = x by omega] at this
        have gk : ∀ x, x ∈ zs.map (·.1) ↔ n'.many ≤ x ∧ x < n'.many + n'.gates.length := fun x => by
          rw [zk, List.mem_map]
          constructor
          · rintro ⟨i, hi, rfl⟩
            have := List.mem_range.mp hi
            omega
          · rintro ⟨h1, h2⟩
            exact ⟨x - n'.many, List.mem_range.mpr (by omega), by omega⟩
        refine ⟨_, rfl, _, rfl, _, rfl, an', td, n', g', o', ps', kw, zs, v, fullC n' v, 0, rfl, N9, ok', kw2, kw4, ⟨tz, fun x => ?_, fun t ht => (full_mem.mp ht).2.2.symm⟩, full_ok ok' vok, b9.tb, b9.tl, fun H10 _ => q H10⟩
        rw [gk]
        constructor
        · rintro ⟨h1, h2⟩
          exact ⟨(x, v x), full_mem.mpr ⟨h1, h2, rfl⟩, rfl⟩
        · rintro ⟨t, ht, rfl⟩
          have := full_mem.mp ht
          exact ⟨this.1, this.2.1⟩
end
end K57
set_option Elab.async false
set_option linter.all false
set_option maxRecDepth 100000
set_option maxHeartbeats 4000000
namespace K57
open PySem PySem.Spec PyProof.Rows L2 GX
open C8 (Cal pe_c pe_gc)
-- @alt one_deeper lst par=l[i],t[i]
-- @alt one_deeper tup par=t[i],t[i]
-- @alt one_deeper dk par=DK,t[i]
/-! ### what the top has written -/
theorem all_mk {l : PySem.W.OpenLaw} {w : World} {K : PySem.W.Frag} {h : Heap} {mg : Str → Option Value} {fa : Addr} (X : K.In h) (G : h.Ns mainGlobals mg) (hfa : mg "law" = some (.ref fa))
    {f0 c0 : Addr} {od0 an0 : Option Addr} {sl0 : Array (Option Value)} {oc0 kV0 dc0 pm0 ct0 : Value}
    (a0 : PySem.W.nsIn K mainGlobals "wires_of" = some (some (.ref f0))) (l0 : K.lookup f0 = some ⟨oc0, od0, .func (PySem.W.fnOf "wires_of" "wires_of" (defArgs s_wires_of) (defBody s_wires_of) (defScope s_wires_of) .none kV0 dc0 pm0 an0 (.ref c0) ct0), sl0⟩) (e0 : PySem.W.codeIn K (.ref c0) "wires_of" = true) (k0 : PySem.W.keepIn K (.ref f0) = true)
    {P0 : Addr} {dd0 : Option Addr} {vs0 : Array Value} {ls0 : Array (Option Value)} {fl0 : Str} {tf0 tg0 tt0 : Tok} {fg0 tx0 : Int} {iF0 : Bool}
    (o0 : K.lookup c0 = some ⟨.type "code", dd0, .fields vs0, ls0⟩) (h0 : vs0[11]? = some (.ref P0) ∧ vs0.getD 11 .none = .ref P0 ∧ vs0.getD 18 .none = .str fl0 tf0 ∧ vs0.getD 7 .none = .int fg0 tg0 ∧ vs0.getD 9 .none = .bool iF0 ∧ vs0.getD 10 .none = .int tx0 tt0 ∧ c0 ≠ P0) (n0 : K.lookup P0 = none) (y0 : TabOf K mg h "wires_of")
    {f1 c1 : Addr} {od1 an1 : Option Addr} {sl1 : Array (Option Value)} {oc1 kV1 dc1 pm1 ct1 : Value}
    (a1 : PySem.W.nsIn K mainGlobals "fits" = some (some (.ref f1))) (l1 : K.lookup f1 = some ⟨oc1, od1, .func (PySem.W.fnOf "fits" "fits" (defArgs s_fits) (defBody s_fits) (defScope s_fits) .none kV1 dc1 pm1 an1 (.ref c1) ct1), sl1⟩) (e1 : PySem.W.codeIn K (.ref c1) "fits" = true) (k1 : PySem.W.keepIn K (.ref f1) = true)
    {f2 c2 : Addr} {od2 an2 : Option Addr} {sl2 : Array (Option Value)} {oc2 kV2 dc2 pm2 ct2 : Value}
    (a2 : PySem.W.nsIn K mainGlobals "has_part" = some (some (.ref f2))) (l2 : K.lookup f2 = some ⟨oc2, od2, .func (PySem.W.fnOf "has_part" "has_part" (defArgs s_has_part) (defBody s_has_part) (defScope s_has_part) .none kV2 dc2 pm2 an2 (.ref c2) ct2), sl2⟩) (e2 : PySem.W.codeIn K (.ref c2) "has_part" = true) (k2 : PySem.W.keepIn K (.ref f2) = true)
    {f3 c3 : Addr} {od3 an3 : Option Addr} {sl3 : Array (Option Value)} {oc3 kV3 dc3 pm3 ct3 : Value}
    (a3 : PySem.W.nsIn K mainGlobals "wires_in" = some (some (.ref f3))) (l3 : K.lookup f3 = some ⟨oc3, od3, .func (PySem.W.fnOf "wires_in" "wires_in" (defArgs s_wires_in) (defBody s_wires_in) (defScope s_wires_in) .none kV3 dc3 pm3 an3 (.ref c3) ct3), sl3⟩) (e3 : PySem.W.codeIn K (.ref c3) "wires_in" = true) (k3 : PySem.W.keepIn K (.ref f3) = true)
    {f4 c4 : Addr} {od4 an4 : Option Addr} {sl4 : Array (Option Value)} {oc4 kV4 dc4 pm4 ct4 : Value}
    (a4 : PySem.W.nsIn K mainGlobals "places" = some (some (.ref f4))) (l4 : K.lookup f4 = some ⟨oc4, od4, .func (PySem.W.fnOf "places" "places" (defArgs s_places) (defBody s_places) (defScope s_places) .none kV4 dc4 pm4 an4 (.ref c4) ct4), sl4⟩) (e4 : PySem.W.codeIn K (.ref c4) "places" = true) (k4 : PySem.W.keepIn K (.ref f4) = true)
    {f5 c5 : Addr} {od5 an5 : Option Addr} {sl5 : Array (Option Value)} {oc5 kV5 dc5 pm5 ct5 : Value}
    (a5 : PySem.W.nsIn K mainGlobals "gate_masks" = some (some (.ref f5))) (l5 : K.lookup f5 = some ⟨oc5, od5, .func (PySem.W.fnOf "gate_masks" "gate_masks" (defArgs s_gate_masks) (defBody s_gate_masks) (defScope s_gate_masks) .none kV5 dc5 pm5 an5 (.ref c5) ct5), sl5⟩) (e5 : PySem.W.codeIn K (.ref c5) "gate_masks" = true) (k5 : PySem.W.keepIn K (.ref f5) = true)
    {f6 c6 : Addr} {od6 an6 : Option Addr} {sl6 : Array (Option Value)} {oc6 kV6 dc6 pm6 ct6 : Value}
    (a6 : PySem.W.nsIn K mainGlobals "cut_masks" = some (some (.ref f6))) (l6 : K.lookup f6 = some ⟨oc6, od6, .func (PySem.W.fnOf "cut_masks" "cut_masks" (defArgs s_cut_masks) (defBody s_cut_masks) (defScope s_cut_masks) .none kV6 dc6 pm6 an6 (.ref c6) ct6), sl6⟩) (e6 : PySem.W.codeIn K (.ref c6) "cut_masks" = true) (k6 : PySem.W.keepIn K (.ref f6) = true)
    {f7 c7 : Addr} {od7 an7 : Option Addr} {sl7 : Array (Option Value)} {oc7 kV7 dc7 pm7 ct7 : Value}
    (a7 : PySem.W.nsIn K mainGlobals "told_cuts" = some (some (.ref f7))) (l7 : K.lookup f7 = some ⟨oc7, od7, .func (PySem.W.fnOf "told_cuts" "told_cuts" (defArgs s_told_cuts) (defBody s_told_cuts) (defScope s_told_cuts) .none kV7 dc7 pm7 an7 (.ref c7) ct7), sl7⟩) (e7 : PySem.W.codeIn K (.ref c7) "told_cuts" = true) (k7 : PySem.W.keepIn K (.ref f7) = true)
    {f8 c8 : Addr} {od8 an8 : Option Addr} {sl8 : Array (Option Value)} {oc8 kV8 dc8 pm8 ct8 : Value}
    (a8 : PySem.W.nsIn K mainGlobals "all_cuts" = some (some (.ref f8))) (l8 : K.lookup f8 = some ⟨oc8, od8, .func (PySem.W.fnOf "all_cuts" "all_cuts" (defArgs s_all_cuts) (defBody s_all_cuts) (defScope s_all_cuts) .none kV8 dc8 pm8 an8 (.ref c8) ct8), sl8⟩) (e8 : PySem.W.codeIn K (.ref c8) "all_cuts" = true) (k8 : PySem.W.keepIn K (.ref f8) = true)
    {P8 : Addr} {dd8 : Option Addr} {vs8 : Array Value} {ls8 : Array (Option Value)} {fl8 : Str} {tf8 tg8 tt8 : Tok} {fg8 tx8 : Int} {iF8 : Bool}
    (o8 : K.lookup c8 = some ⟨.type "code", dd8, .fields vs8, ls8⟩) (h8 : vs8[11]? = some (.ref P8) ∧ vs8.getD 11 .none = .ref P8 ∧ vs8.getD 18 .none = .str fl8 tf8 ∧ vs8.getD 7 .none = .int fg8 tg8 ∧ vs8.getD 9 .none = .bool iF8 ∧ vs8.getD 10 .none = .int tx8 tt8 ∧ c8 ≠ P8) (n8 : K.lookup P8 = none) (y8 : TabOf K mg h "all_cuts")
    {f9 c9 : Addr} {od9 an9 : Option Addr} {sl9 : Array (Option Value)} {oc9 kV9 dc9 pm9 ct9 : Value}
    (a9 : PySem.W.nsIn K mainGlobals "one_deeper" = some (some (.ref f9))) (l9 : K.lookup f9 = some ⟨oc9, od9, .func (PySem.W.fnOf "one_deeper" "one_deeper" (defArgs s_one_deeper) (defBody s_one_deeper) (defScope s_one_deeper) .none kV9 dc9 pm9 an9 (.ref c9) ct9), sl9⟩) (e9 : PySem.W.codeIn K (.ref c9) "one_deeper" = true) (k9 : PySem.W.keepIn K (.ref f9) = true)
    {f10 c10 : Addr} {od10 an10 : Option Addr} {sl10 : Array (Option Value)} {oc10 kV10 dc10 pm10 ct10 : Value}
    (a10 : PySem.W.nsIn K mainGlobals "depths_by" = some (some (.ref f10))) (l10 : K.lookup f10 = some ⟨oc10, od10, .func (PySem.W.fnOf "depths_by" "depths_by" (defArgs s_depths_by) (defBody s_depths_by) (defScope s_depths_by) .none kV10 dc10 pm10 an10 (.ref c10) ct10), sl10⟩) (e10 : PySem.W.codeIn K (.ref c10) "depths_by" = true) (k10 : PySem.W.keepIn K (.ref f10) = true)
    {f11 c11 : Addr} {od11 an11 : Option Addr} {sl11 : Array (Option Value)} {oc11 kV11 dc11 pm11 ct11 : Value}
    (a11 : PySem.W.nsIn K mainGlobals "leaned" = some (some (.ref f11))) (l11 : K.lookup f11 = some ⟨oc11, od11, .func (PySem.W.fnOf "leaned" "leaned" (defArgs s_leaned) (defBody s_leaned) (defScope s_leaned) .none kV11 dc11 pm11 an11 (.ref c11) ct11), sl11⟩) (e11 : PySem.W.codeIn K (.ref c11) "leaned" = true) (k11 : PySem.W.keepIn K (.ref f11) = true)
    {f12 c12 : Addr} {od12 an12 : Option Addr} {sl12 : Array (Option Value)} {oc12 kV12 dc12 pm12 ct12 : Value}
    (a12 : PySem.W.nsIn K mainGlobals "depth_by" = some (some (.ref f12))) (l12 : K.lookup f12 = some ⟨oc12, od12, .func (PySem.W.fnOf "depth_by" "depth_by" (defArgs s_depth_by) (defBody s_depth_by) (defScope s_depth_by) .none kV12 dc12 pm12 an12 (.ref c12) ct12), sl12⟩) (e12 : PySem.W.codeIn K (.ref c12) "depth_by" = true) (k12 : PySem.W.keepIn K (.ref f12) = true)
    {f13 c13 : Addr} {od13 an13 : Option Addr} {sl13 : Array (Option Value)} {oc13 kV13 dc13 pm13 ct13 : Value}
    (a13 : PySem.W.nsIn K mainGlobals "chosen" = some (some (.ref f13))) (l13 : K.lookup f13 = some ⟨oc13, od13, .func (PySem.W.fnOf "chosen" "chosen" (defArgs s_chosen) (defBody s_chosen) (defScope s_chosen) .none kV13 dc13 pm13 an13 (.ref c13) ct13), sl13⟩) (e13 : PySem.W.codeIn K (.ref c13) "chosen" = true) (k13 : PySem.W.keepIn K (.ref f13) = true)
    {P13 : Addr} {dd13 : Option Addr} {vs13 : Array Value} {ls13 : Array (Option Value)} {fl13 : Str} {tf13 tg13 tt13 : Tok} {fg13 tx13 : Int} {iF13 : Bool}
    (o13 : K.lookup c13 = some ⟨.type "code", dd13, .fields vs13, ls13⟩) (h13 : vs13[11]? = some (.ref P13) ∧ vs13.getD 11 .none = .ref P13 ∧ vs13.getD 18 .none = .str fl13 tf13 ∧ vs13.getD 7 .none = .int fg13 tg13 ∧ vs13.getD 9 .none = .bool iF13 ∧ vs13.getD 10 .none = .int tx13 tt13 ∧ c13 ≠ P13) (n13 : K.lookup P13 = none) (y13 : TabOf K mg h "chosen")
    {f14 c14 : Addr} {od14 an14 : Option Addr} {sl14 : Array (Option Value)} {oc14 kV14 dc14 pm14 ct14 : Value}
    (a14 : PySem.W.nsIn K mainGlobals "all_choices" = some (some (.ref f14))) (l14 : K.lookup f14 = some ⟨oc14, od14, .func (PySem.W.fnOf "all_choices" "all_choices" (defArgs s_all_choices) (defBody s_all_choices) (defScope s_all_choices) .none kV14 dc14 pm14 an14 (.ref c14) ct14), sl14⟩) (e14 : PySem.W.codeIn K (.ref c14) "all_choices" = true) (k14 : PySem.W.keepIn K (.ref f14) = true)
    {P14 : Addr} {dd14 : Option Addr} {vs14 : Array Value} {ls14 : Array (Option Value)} {fl14 : Str} {tf14 tg14 tt14 : Tok} {fg14 tx14 : Int} {iF14 : Bool}
    (o14 : K.lookup c14 = some ⟨.type "code", dd14, .fields vs14, ls14⟩) (h14 : vs14[11]? = some (.ref P14) ∧ vs14.getD 11 .none = .ref P14 ∧ vs14.getD 18 .none = .str fl14 tf14 ∧ vs14.getD 7 .none = .int fg14 tg14 ∧ vs14.getD 9 .none = .bool iF14 ∧ vs14.getD 10 .none = .int tx14 tt14 ∧ c14 ≠ P14) (n14 : K.lookup P14 = none) (y14 : TabOf K mg h "all_choices")
    {f15 c15 : Addr} {od15 an15 : Option Addr} {sl15 : Array (Option Value)} {oc15 kV15 dc15 pm15 ct15 : Value}
    (a15 : PySem.W.nsIn K mainGlobals "_law_deck" = some (some (.ref f15))) (l15 : K.lookup f15 = some ⟨oc15, od15, .func (PySem.W.fnOf "_law_deck" "_law_deck" (defArgs s__law_deck) (defBody s__law_deck) (defScope s__law_deck) .none kV15 dc15 pm15 an15 (.ref c15) ct15), sl15⟩) (e15 : PySem.W.codeIn K (.ref c15) "_law_deck" = true) (k15 : PySem.W.keepIn K (.ref f15) = true)
    {f16 c16 : Addr} {od16 an16 : Option Addr} {sl16 : Array (Option Value)} {oc16 kV16 dc16 pm16 ct16 : Value}
    (a16 : PySem.W.nsIn K mainGlobals "_law_draw" = some (some (.ref f16))) (l16 : K.lookup f16 = some ⟨oc16, od16, .func (PySem.W.fnOf "_law_draw" "_law_draw" (defArgs s__law_draw) (defBody s__law_draw) (defScope s__law_draw) .none kV16 dc16 pm16 an16 (.ref c16) ct16), sl16⟩) (e16 : PySem.W.codeIn K (.ref c16) "_law_draw" = true) (k16 : PySem.W.keepIn K (.ref f16) = true)
    {f17 c17 : Addr} {od17 an17 : Option Addr} {sl17 : Array (Option Value)} {oc17 kV17 dc17 pm17 ct17 : Value}
    (a17 : PySem.W.nsIn K mainGlobals "_law_gate" = some (some (.ref f17))) (l17 : K.lookup f17 = some ⟨oc17, od17, .func (PySem.W.fnOf "_law_gate" "_law_gate" (defArgs s__law_gate) (defBody s__law_gate) (defScope s__law_gate) .none kV17 dc17 pm17 an17 (.ref c17) ct17), sl17⟩) (e17 : PySem.W.codeIn K (.ref c17) "_law_gate" = true) (k17 : PySem.W.keepIn K (.ref f17) = true)
    {f18 c18 : Addr} {od18 an18 : Option Addr} {sl18 : Array (Option Value)} {oc18 kV18 dc18 pm18 ct18 : Value}
    (a18 : PySem.W.nsIn K mainGlobals "_law_net" = some (some (.ref f18))) (l18 : K.lookup f18 = some ⟨oc18, od18, .func (PySem.W.fnOf "_law_net" "_law_net" (defArgs s__law_net) (defBody s__law_net) (defScope s__law_net) .none kV18 dc18 pm18 an18 (.ref c18) ct18), sl18⟩) (e18 : PySem.W.codeIn K (.ref c18) "_law_net" = true) (k18 : PySem.W.keepIn K (.ref f18) = true)
    {f19 c19 : Addr} {od19 an19 : Option Addr} {sl19 : Array (Option Value)} {oc19 kV19 dc19 pm19 ct19 : Value}
    (a19 : PySem.W.nsIn K mainGlobals "_law_held" = some (some (.ref f19))) (l19 : K.lookup f19 = some ⟨oc19, od19, .func (PySem.W.fnOf "_law_held" "_law_held" (defArgs s__law_held) (defBody s__law_held) (defScope s__law_held) .none kV19 dc19 pm19 an19 (.ref c19) ct19), sl19⟩) (e19 : PySem.W.codeIn K (.ref c19) "_law_held" = true) (k19 : PySem.W.keepIn K (.ref f19) = true)
    {f20 c20 : Addr} {od20 an20 : Option Addr} {sl20 : Array (Option Value)} {oc20 kV20 dc20 pm20 ct20 : Value}
    (a20 : PySem.W.nsIn K mainGlobals "_law_least" = some (some (.ref f20))) (l20 : K.lookup f20 = some ⟨oc20, od20, .func (PySem.W.fnOf "_law_least" "_law_least" (defArgs s__law_least) (defBody s__law_least) (defScope s__law_least) .none kV20 dc20 pm20 an20 (.ref c20) ct20), sl20⟩) (e20 : PySem.W.codeIn K (.ref c20) "_law_least" = true) (k20 : PySem.W.keepIn K (.ref f20) = true)
    {f21 c21 : Addr} {od21 an21 : Option Addr} {sl21 : Array (Option Value)} {oc21 kV21 dc21 pm21 ct21 : Value}
    (a21 : PySem.W.nsIn K mainGlobals "_law_cuts" = some (some (.ref f21))) (l21 : K.lookup f21 = some ⟨oc21, od21, .func (PySem.W.fnOf "_law_cuts" "_law_cuts" (defArgs s__law_cuts) (defBody s__law_cuts) (defScope s__law_cuts) .none kV21 dc21 pm21 an21 (.ref c21) ct21), sl21⟩) (e21 : PySem.W.codeIn K (.ref c21) "_law_cuts" = true) (k21 : PySem.W.keepIn K (.ref f21) = true)
    {f22 c22 : Addr} {od22 an22 : Option Addr} {sl22 : Array (Option Value)} {oc22 kV22 dc22 pm22 ct22 : Value}
    (a22 : PySem.W.nsIn K mainGlobals "_law_depths" = some (some (.ref f22))) (l22 : K.lookup f22 = some ⟨oc22, od22, .func (PySem.W.fnOf "_law_depths" "_law_depths" (defArgs s__law_depths) (defBody s__law_depths) (defScope s__law_depths) .none kV22 dc22 pm22 an22 (.ref c22) ct22), sl22⟩) (e22 : PySem.W.codeIn K (.ref c22) "_law_depths" = true) (k22 : PySem.W.keepIn K (.ref f22) = true)
    {f23 c23 : Addr} {od23 an23 : Option Addr} {sl23 : Array (Option Value)} {oc23 kV23 dc23 pm23 ct23 : Value}
    (a23 : PySem.W.nsIn K mainGlobals "_law_same" = some (some (.ref f23))) (l23 : K.lookup f23 = some ⟨oc23, od23, .func (PySem.W.fnOf "_law_same" "_law_same" (defArgs s__law_same) (defBody s__law_same) (defScope s__law_same) .none kV23 dc23 pm23 an23 (.ref c23) ct23), sl23⟩) (e23 : PySem.W.codeIn K (.ref c23) "_law_same" = true) (k23 : PySem.W.keepIn K (.ref f23) = true)
    {f24 c24 : Addr} {od24 an24 : Option Addr} {sl24 : Array (Option Value)} {oc24 kV24 dc24 pm24 ct24 : Value}
    (a24 : PySem.W.nsIn K mainGlobals "turned" = some (some (.ref f24))) (l24 : K.lookup f24 = some ⟨oc24, od24, .func (PySem.W.fnOf "turned" "turned" (defArgs s_turned) (defBody s_turned) (defScope s_turned) .none kV24 dc24 pm24 an24 (.ref c24) ct24), sl24⟩) (e24 : PySem.W.codeIn K (.ref c24) "turned" = true) (k24 : PySem.W.keepIn K (.ref f24) = true)
    {f25 c25 : Addr} {od25 an25 : Option Addr} {sl25 : Array (Option Value)} {oc25 kV25 dc25 pm25 ct25 : Value}
    (a25 : PySem.W.nsIn K mainGlobals "turns_of" = some (some (.ref f25))) (l25 : K.lookup f25 = some ⟨oc25, od25, .func (PySem.W.fnOf "turns_of" "turns_of" (defArgs s_turns_of) (defBody s_turns_of) (defScope s_turns_of) .none kV25 dc25 pm25 an25 (.ref c25) ct25), sl25⟩) (e25 : PySem.W.codeIn K (.ref c25) "turns_of" = true) (k25 : PySem.W.keepIn K (.ref f25) = true)
    {f26 c26 : Addr} {od26 an26 : Option Addr} {sl26 : Array (Option Value)} {oc26 kV26 dc26 pm26 ct26 : Value}
    (a26 : PySem.W.nsIn K mainGlobals "first_good" = some (some (.ref f26))) (l26 : K.lookup f26 = some ⟨oc26, od26, .func (PySem.W.fnOf "first_good" "first_good" (defArgs s_first_good) (defBody s_first_good) (defScope s_first_good) .none kV26 dc26 pm26 an26 (.ref c26) ct26), sl26⟩) (e26 : PySem.W.codeIn K (.ref c26) "first_good" = true) (k26 : PySem.W.keepIn K (.ref f26) = true)
    {f27 c27 : Addr} {od27 an27 : Option Addr} {sl27 : Array (Option Value)} {oc27 kV27 dc27 pm27 ct27 : Value}
    (a27 : PySem.W.nsIn K mainGlobals "eased" = some (some (.ref f27))) (l27 : K.lookup f27 = some ⟨oc27, od27, .func (PySem.W.fnOf "eased" "eased" (defArgs s_eased) (defBody s_eased) (defScope s_eased) .none kV27 dc27 pm27 an27 (.ref c27) ct27), sl27⟩) (e27 : PySem.W.codeIn K (.ref c27) "eased" = true) (k27 : PySem.W.keepIn K (.ref f27) = true)
    {f28 c28 : Addr} {od28 an28 : Option Addr} {sl28 : Array (Option Value)} {oc28 kV28 dc28 pm28 ct28 : Value}
    (a28 : PySem.W.nsIn K mainGlobals "_law_choices" = some (some (.ref f28))) (l28 : K.lookup f28 = some ⟨oc28, od28, .func (PySem.W.fnOf "_law_choices" "_law_choices" (defArgs s__law_choices) (defBody s__law_choices) (defScope s__law_choices) .none kV28 dc28 pm28 an28 (.ref c28) ct28), sl28⟩) (e28 : PySem.W.codeIn K (.ref c28) "_law_choices" = true) (k28 : PySem.W.keepIn K (.ref f28) = true)
    {f29 c29 : Addr} {od29 an29 : Option Addr} {sl29 : Array (Option Value)} {oc29 kV29 dc29 pm29 ct29 : Value}
    (a29 : PySem.W.nsIn K mainGlobals "_law_needed" = some (some (.ref f29))) (l29 : K.lookup f29 = some ⟨oc29, od29, .func (PySem.W.fnOf "_law_needed" "_law_needed" (defArgs s__law_needed) (defBody s__law_needed) (defScope s__law_needed) .none kV29 dc29 pm29 an29 (.ref c29) ct29), sl29⟩) (e29 : PySem.W.codeIn K (.ref c29) "_law_needed" = true) (k29 : PySem.W.keepIn K (.ref f29) = true)
    {f30 c30 : Addr} {od30 an30 : Option Addr} {sl30 : Array (Option Value)} {oc30 kV30 dc30 pm30 ct30 : Value}
    (a30 : PySem.W.nsIn K mainGlobals "_law_depth" = some (some (.ref f30))) (l30 : K.lookup f30 = some ⟨oc30, od30, .func (PySem.W.fnOf "_law_depth" "_law_depth" (defArgs s__law_depth) (defBody s__law_depth) (defScope s__law_depth) .none kV30 dc30 pm30 an30 (.ref c30) ct30), sl30⟩) (e30 : PySem.W.codeIn K (.ref c30) "_law_depth" = true) (k30 : PySem.W.keepIn K (.ref f30) = true)
    {f31 c31 : Addr} {od31 an31 : Option Addr} {sl31 : Array (Option Value)} {oc31 kV31 dc31 pm31 ct31 : Value}
    (a31 : PySem.W.nsIn K mainGlobals "_law_wider" = some (some (.ref f31))) (l31 : K.lookup f31 = some ⟨oc31, od31, .func (PySem.W.fnOf "_law_wider" "_law_wider" (defArgs s__law_wider) (defBody s__law_wider) (defScope s__law_wider) .none kV31 dc31 pm31 an31 (.ref c31) ct31), sl31⟩) (e31 : PySem.W.codeIn K (.ref c31) "_law_wider" = true) (k31 : PySem.W.keepIn K (.ref f31) = true)
    {f32 c32 : Addr} {od32 an32 : Option Addr} {sl32 : Array (Option Value)} {oc32 kV32 dc32 pm32 ct32 : Value}
    (a32 : PySem.W.nsIn K mainGlobals "_law_lean" = some (some (.ref f32))) (l32 : K.lookup f32 = some ⟨oc32, od32, .func (PySem.W.fnOf "_law_lean" "_law_lean" (defArgs s__law_lean) (defBody s__law_lean) (defScope s__law_lean) .none kV32 dc32 pm32 an32 (.ref c32) ct32), sl32⟩) (e32 : PySem.W.codeIn K (.ref c32) "_law_lean" = true) (k32 : PySem.W.keepIn K (.ref f32) = true)
    {f33 c33 : Addr} {od33 an33 : Option Addr} {sl33 : Array (Option Value)} {oc33 kV33 dc33 pm33 ct33 : Value}
    (a33 : PySem.W.nsIn K mainGlobals "_law_cover" = some (some (.ref f33))) (l33 : K.lookup f33 = some ⟨oc33, od33, .func (PySem.W.fnOf "_law_cover" "_law_cover" (defArgs s__law_cover) (defBody s__law_cover) (defScope s__law_cover) .none kV33 dc33 pm33 an33 (.ref c33) ct33), sl33⟩) (e33 : PySem.W.codeIn K (.ref c33) "_law_cover" = true) (k33 : PySem.W.keepIn K (.ref f33) = true)
    {f34 c34 : Addr} {od34 an34 : Option Addr} {sl34 : Array (Option Value)} {oc34 kV34 dc34 pm34 ct34 : Value}
    (a34 : PySem.W.nsIn K mainGlobals "_law_turned" = some (some (.ref f34))) (l34 : K.lookup f34 = some ⟨oc34, od34, .func (PySem.W.fnOf "_law_turned" "_law_turned" (defArgs s__law_turned) (defBody s__law_turned) (defScope s__law_turned) .none kV34 dc34 pm34 an34 (.ref c34) ct34), sl34⟩) (e34 : PySem.W.codeIn K (.ref c34) "_law_turned" = true) (k34 : PySem.W.keepIn K (.ref f34) = true)
    {f35 c35 : Addr} {od35 an35 : Option Addr} {sl35 : Array (Option Value)} {oc35 kV35 dc35 pm35 ct35 : Value}
    (a35 : PySem.W.nsIn K mainGlobals "_law_good_turn" = some (some (.ref f35))) (l35 : K.lookup f35 = some ⟨oc35, od35, .func (PySem.W.fnOf "_law_good_turn" "_law_good_turn" (defArgs s__law_good_turn) (defBody s__law_good_turn) (defScope s__law_good_turn) .none kV35 dc35 pm35 an35 (.ref c35) ct35), sl35⟩) (e35 : PySem.W.codeIn K (.ref c35) "_law_good_turn" = true) (k35 : PySem.W.keepIn K (.ref f35) = true)
    {f36 c36 : Addr} {od36 an36 : Option Addr} {sl36 : Array (Option Value)} {oc36 kV36 dc36 pm36 ct36 : Value}
    (a36 : PySem.W.nsIn K mainGlobals "_law_eased" = some (some (.ref f36))) (l36 : K.lookup f36 = some ⟨oc36, od36, .func (PySem.W.fnOf "_law_eased" "_law_eased" (defArgs s__law_eased) (defBody s__law_eased) (defScope s__law_eased) .none kV36 dc36 pm36 an36 (.ref c36) ct36), sl36⟩) (e36 : PySem.W.codeIn K (.ref c36) "_law_eased" = true) (k36 : PySem.W.keepIn K (.ref f36) = true)
    {f37 c37 : Addr} {od37 an37 : Option Addr} {sl37 : Array (Option Value)} {oc37 kV37 dc37 pm37 ct37 : Value}
    (a37 : PySem.W.nsIn K mainGlobals "_law_great" = some (some (.ref f37))) (l37 : K.lookup f37 = some ⟨oc37, od37, .func (PySem.W.fnOf "_law_great" "_law_great" (defArgs s__law_great) (defBody s__law_great) (defScope s__law_great) .none kV37 dc37 pm37 an37 (.ref c37) ct37), sl37⟩) (e37 : PySem.W.codeIn K (.ref c37) "_law_great" = true) (k37 : PySem.W.keepIn K (.ref f37) = true)
    {f38 c38 : Addr} {od38 an38 : Option Addr} {sl38 : Array (Option Value)} {oc38 kV38 dc38 pm38 ct38 : Value}
    (a38 : PySem.W.nsIn K mainGlobals "_law_chain" = some (some (.ref f38))) (l38 : K.lookup f38 = some ⟨oc38, od38, .func (PySem.W.fnOf "_law_chain" "_law_chain" (defArgs s__law_chain) (defBody s__law_chain) (defScope s__law_chain) .none kV38 dc38 pm38 an38 (.ref c38) ct38), sl38⟩) (e38 : PySem.W.codeIn K (.ref c38) "_law_chain" = true) (k38 : PySem.W.keepIn K (.ref f38) = true)
    {f39 c39 : Addr} {od39 an39 : Option Addr} {sl39 : Array (Option Value)} {oc39 kV39 dc39 pm39 ct39 : Value}
    (a39 : PySem.W.nsIn K mainGlobals "_law_right" = some (some (.ref f39))) (l39 : K.lookup f39 = some ⟨oc39, od39, .func (PySem.W.fnOf "_law_right" "_law_right" (defArgs s__law_right) (defBody s__law_right) (defScope s__law_right) .none kV39 dc39 pm39 an39 (.ref c39) ct39), sl39⟩) (e39 : PySem.W.codeIn K (.ref c39) "_law_right" = true) (k39 : PySem.W.keepIn K (.ref f39) = true)
    {f40 c40 : Addr} {od40 an40 : Option Addr} {sl40 : Array (Option Value)} {oc40 kV40 dc40 pm40 ct40 : Value}
    (a40 : PySem.W.nsIn K mainGlobals "law" = some (some (.ref f40))) (l40 : K.lookup f40 = some ⟨oc40, od40, .func (PySem.W.fnOf "law" "law" (defArgs s_law) (defBody s_law) (defScope s_law) .none kV40 dc40 pm40 an40 (.ref c40) ct40), sl40⟩) (e40 : PySem.W.codeIn K (.ref c40) "law" = true) (k40 : PySem.W.keepIn K (.ref f40) = true)
    (z_bool : PySem.W.nsIn K mainGlobals "bool" = some none) (z_dict : PySem.W.nsIn K mainGlobals "dict" = some none) (z_int : PySem.W.nsIn K mainGlobals "int" = some none) (z_isinstance : PySem.W.nsIn K mainGlobals "isinstance" = some none) (z_len : PySem.W.nsIn K mainGlobals "len" = some none) (z_list : PySem.W.nsIn K mainGlobals "list" = some none) (z_max : PySem.W.nsIn K mainGlobals "max" = some none) (z_min : PySem.W.nsIn K mainGlobals "min" = some none) (z_range : PySem.W.nsIn K mainGlobals "range" = some none) (z_reversed : PySem.W.nsIn K mainGlobals "reversed" = some none) (z_set : PySem.W.nsIn K mainGlobals "set" = some none) (z_sorted : PySem.W.nsIn K mainGlobals "sorted" = some none) (z_str : PySem.W.nsIn K mainGlobals "str" = some none) (z_sum : PySem.W.nsIn K mainGlobals "sum" = some none) (z_tuple : PySem.W.nsIn K mainGlobals "tuple" = some none)
    (x13 : P13 ∉ [P0, P8, P14]) : LamX.LawAtS l w K L2.CX0 8 63 "_law_script" mg fa h := by
  have e := hfa.symm.trans (PySem.W.mg_of X G a40)
  cases e
  have D_wires_of : Dfn K mg "wires_of" s_wires_of f0 c0 := ⟨⟨_, _, _, _, _, _, _, _, l0⟩, e0, k0, PySem.W.mg_of X G a0⟩
  have D_fits : Dfn K mg "fits" s_fits f1 c1 := ⟨⟨_, _, _, _, _, _, _, _, l1⟩, e1, k1, PySem.W.mg_of X G a1⟩
  have D_has_part : Dfn K mg "has_part" s_has_part f2 c2 := ⟨⟨_, _, _, _, _, _, _, _, l2⟩, e2, k2, PySem.W.mg_of X G a2⟩
  have D_wires_in : Dfn K mg "wires_in" s_wires_in f3 c3 := ⟨⟨_, _, _, _, _, _, _, _, l3⟩, e3, k3, PySem.W.mg_of X G a3⟩
  have D_places : Dfn K mg "places" s_places f4 c4 := ⟨⟨_, _, _, _, _, _, _, _, l4⟩, e4, k4, PySem.W.mg_of X G a4⟩
  have D_gate_masks : Dfn K mg "gate_masks" s_gate_masks f5 c5 := ⟨⟨_, _, _, _, _, _, _, _, l5⟩, e5, k5, PySem.W.mg_of X G a5⟩
  have D_cut_masks : Dfn K mg "cut_masks" s_cut_masks f6 c6 := ⟨⟨_, _, _, _, _, _, _, _, l6⟩, e6, k6, PySem.W.mg_of X G a6⟩
  have D_told_cuts : Dfn K mg "told_cuts" s_told_cuts f7 c7 := ⟨⟨_, _, _, _, _, _, _, _, l7⟩, e7, k7, PySem.W.mg_of X G a7⟩
  have D_all_cuts : Dfn K mg "all_cuts" s_all_cuts f8 c8 := ⟨⟨_, _, _, _, _, _, _, _, l8⟩, e8, k8, PySem.W.mg_of X G a8⟩
  have D_one_deeper : Dfn K mg "one_deeper" s_one_deeper f9 c9 := ⟨⟨_, _, _, _, _, _, _, _, l9⟩, e9, k9, PySem.W.mg_of X G a9⟩
  have D_depths_by : Dfn K mg "depths_by" s_depths_by f10 c10 := ⟨⟨_, _, _, _, _, _, _, _, l10⟩, e10, k10, PySem.W.mg_of X G a10⟩
  have D_leaned : Dfn K mg "leaned" s_leaned f11 c11 := ⟨⟨_, _, _, _, _, _, _, _, l11⟩, e11, k11, PySem.W.mg_of X G a11⟩
  have D_depth_by : Dfn K mg "depth_by" s_depth_by f12 c12 := ⟨⟨_, _, _, _, _, _, _, _, l12⟩, e12, k12, PySem.W.mg_of X G a12⟩
  have D_chosen : Dfn K mg "chosen" s_chosen f13 c13 := ⟨⟨_, _, _, _, _, _, _, _, l13⟩, e13, k13, PySem.W.mg_of X G a13⟩
  have D_all_choices : Dfn K mg "all_choices" s_all_choices f14 c14 := ⟨⟨_, _, _, _, _, _, _, _, l14⟩, e14, k14, PySem.W.mg_of X G a14⟩
  have D__law_deck : Dfn K mg "_law_deck" s__law_deck f15 c15 := ⟨⟨_, _, _, _, _, _, _, _, l15⟩, e15, k15, PySem.W.mg_of X G a15⟩
  have D__law_draw : Dfn K mg "_law_draw" s__law_draw f16 c16 := ⟨⟨_, _, _, _, _, _, _, _, l16⟩, e16, k16, PySem.W.mg_of X G a16⟩
  have D__law_gate : Dfn K mg "_law_gate" s__law_gate f17 c17 := ⟨⟨_, _, _, _, _, _, _, _, l17⟩, e17, k17, PySem.W.mg_of X G a17⟩
  have D__law_net : Dfn K mg "_law_net" s__law_net f18 c18 := ⟨⟨_, _, _, _, _, _, _, _, l18⟩, e18, k18, PySem.W.mg_of X G a18⟩
  have D__law_held : Dfn K mg "_law_held" s__law_held f19 c19 := ⟨⟨_, _, _, _, _, _, _, _, l19⟩, e19, k19, PySem.W.mg_of X G a19⟩
  have D__law_least : Dfn K mg "_law_least" s__law_least f20 c20 := ⟨⟨_, _, _, _, _, _, _, _, l20⟩, e20, k20, PySem.W.mg_of X G a20⟩
  have D__law_cuts : Dfn K mg "_law_cuts" s__law_cuts f21 c21 := ⟨⟨_, _, _, _, _, _, _, _, l21⟩, e21, k21, PySem.W.mg_of X G a21⟩
  have D__law_depths : Dfn K mg "_law_depths" s__law_depths f22 c22 := ⟨⟨_, _, _, _, _, _, _, _, l22⟩, e22, k22, PySem.W.mg_of X G a22⟩
  have D__law_same : Dfn K mg "_law_same" s__law_same f23 c23 := ⟨⟨_, _, _, _, _, _, _, _, l23⟩, e23, k23, PySem.W.mg_of X G a23⟩
  have D_turned : Dfn K mg "turned" s_turned f24 c24 := ⟨⟨_, _, _, _, _, _, _, _, l24⟩, e24, k24, PySem.W.mg_of X G a24⟩
  have D_turns_of : Dfn K mg "turns_of" s_turns_of f25 c25 := ⟨⟨_, _, _, _, _, _, _, _, l25⟩, e25, k25, PySem.W.mg_of X G a25⟩
  have D_first_good : Dfn K mg "first_good" s_first_good f26 c26 := ⟨⟨_, _, _, _, _, _, _, _, l26⟩, e26, k26, PySem.W.mg_of X G a26⟩
  have D_eased : Dfn K mg "eased" s_eased f27 c27 := ⟨⟨_, _, _, _, _, _, _, _, l27⟩, e27, k27, PySem.W.mg_of X G a27⟩
  have D__law_choices : Dfn K mg "_law_choices" s__law_choices f28 c28 := ⟨⟨_, _, _, _, _, _, _, _, l28⟩, e28, k28, PySem.W.mg_of X G a28⟩
  have D__law_needed : Dfn K mg "_law_needed" s__law_needed f29 c29 := ⟨⟨_, _, _, _, _, _, _, _, l29⟩, e29, k29, PySem.W.mg_of X G a29⟩
  have D__law_depth : Dfn K mg "_law_depth" s__law_depth f30 c30 := ⟨⟨_, _, _, _, _, _, _, _, l30⟩, e30, k30, PySem.W.mg_of X G a30⟩
  have D__law_wider : Dfn K mg "_law_wider" s__law_wider f31 c31 := ⟨⟨_, _, _, _, _, _, _, _, l31⟩, e31, k31, PySem.W.mg_of X G a31⟩
  have D__law_lean : Dfn K mg "_law_lean" s__law_lean f32 c32 := ⟨⟨_, _, _, _, _, _, _, _, l32⟩, e32, k32, PySem.W.mg_of X G a32⟩
  have D__law_cover : Dfn K mg "_law_cover" s__law_cover f33 c33 := ⟨⟨_, _, _, _, _, _, _, _, l33⟩, e33, k33, PySem.W.mg_of X G a33⟩
  have D__law_turned : Dfn K mg "_law_turned" s__law_turned f34 c34 := ⟨⟨_, _, _, _, _, _, _, _, l34⟩, e34, k34, PySem.W.mg_of X G a34⟩
  have D__law_good_turn : Dfn K mg "_law_good_turn" s__law_good_turn f35 c35 := ⟨⟨_, _, _, _, _, _, _, _, l35⟩, e35, k35, PySem.W.mg_of X G a35⟩
  have D__law_eased : Dfn K mg "_law_eased" s__law_eased f36 c36 := ⟨⟨_, _, _, _, _, _, _, _, l36⟩, e36, k36, PySem.W.mg_of X G a36⟩
  have D__law_great : Dfn K mg "_law_great" s__law_great f37 c37 := ⟨⟨_, _, _, _, _, _, _, _, l37⟩, e37, k37, PySem.W.mg_of X G a37⟩
  have D__law_chain : Dfn K mg "_law_chain" s__law_chain f38 c38 := ⟨⟨_, _, _, _, _, _, _, _, l38⟩, e38, k38, PySem.W.mg_of X G a38⟩
  have D__law_right : Dfn K mg "_law_right" s__law_right f39 c39 := ⟨⟨_, _, _, _, _, _, _, _, l39⟩, e39, k39, PySem.W.mg_of X G a39⟩
  have T : Txt mg := ⟨PySem.W.mg_none_of X G z_bool, PySem.W.mg_none_of X G z_dict, PySem.W.mg_none_of X G z_int, PySem.W.mg_none_of X G z_isinstance, PySem.W.mg_none_of X G z_len, PySem.W.mg_none_of X G z_list, PySem.W.mg_none_of X G z_max, PySem.W.mg_none_of X G z_min, PySem.W.mg_none_of X G z_range, PySem.W.mg_none_of X G z_reversed, PySem.W.mg_none_of X G z_set, PySem.W.mg_none_of X G z_sorted, PySem.W.mg_none_of X G z_str, PySem.W.mg_none_of X G z_sum, PySem.W.mg_none_of X G z_tuple⟩
  refine ⟨(PySem.W.fnOf "law" "law" (defArgs s_law) (defBody s_law) (defScope s_law) .none kV40 dc40 pm40 an40 (.ref c40) ct40), [(c0, P0), (c8, P8), (c13, P13), (c14, P14)], spLaw K [P0, P8, P14] P13, ?t0, ?t1, ?t2, fun s v => .of_eq rfl, fun H a ns hl _ hH hS => ⟨a, ns, rfl, hS, hl, fun p hp => ?t3, LamX.TabS.nil (hH (c13, P13) (by simp)), fun _ => rfl⟩, fun base _ _ TB => ?t4⟩
  case t0 => 
    intro p hp
    simp only [List.mem_cons, List.not_mem_nil, or_false] at hp
    rcases hp with rfl | rfl | rfl | rfl
    · exact y0 f0 c0 P0 _ _ _ _ _ _ (PySem.W.mg_of X G a0) l0 rfl rfl o0 h0.1
    · exact y8 f8 c8 P8 _ _ _ _ _ _ (PySem.W.mg_of X G a8) l8 rfl rfl o8 h8.1
    · exact y13 f13 c13 P13 _ _ _ _ _ _ (PySem.W.mg_of X G a13) l13 rfl rfl o13 h13.1
    · exact y14 f14 c14 P14 _ _ _ _ _ _ (PySem.W.mg_of X G a14) l14 rfl rfl o14 h14.1
  case t1 => 
    intro p hp
    simp only [List.mem_cons, List.not_mem_nil, or_false] at hp
    rcases hp with rfl | rfl | rfl | rfl
    · exact n0
    · exact n8
    · exact n13
    · exact n14
  case t2 => 
    intro p hp
    simp only [List.mem_cons, List.not_mem_nil, or_false] at hp
    rcases hp with rfl | rfl | rfl | rfl
    · exact codeHd_of X o0 h0
    · exact codeHd_of X o8 h8
    · exact codeHd_of X o13 h13
    · exact codeHd_of X o14 h14
  case t3 => 
    simp only [List.mem_cons, List.not_mem_nil, or_false] at hp
    rcases hp with z | z | z
    · rw [z]; exact ⟨#[], hH (c0, P0) (by simp), trivial⟩
    · rw [z]; exact ⟨#[], hH (c8, P8) (by simp), trivial⟩
    · rw [z]; exact ⟨#[], hH (c14, P14) (by simp), trivial⟩
  case t4 =>
    have c__law_deck := ok_deck (P := l.prog) (w := w) (base := base) D__law_deck T
    have c__law_draw := ok_draw (P := l.prog) (w := w) (base := base) D__law_draw T
    have c__law_gate := ok_gate (P := l.prog) (w := w) (base := base) D__law_gate T c__law_draw
    have c__law_net := ok_net (P := l.prog) (w := w) (base := base) D__law_net T c__law_draw c__law_gate
    have c__law_great := ok_great (P := l.prog) (w := w) (base := base) D__law_great T c__law_draw c__law_gate c__law_net
    have c__law_chain := ok_chainE (P := l.prog) (w := w) (base := base) D__law_chain T c__law_draw
    have c__law_held := ok_held (P := l.prog) (w := w) (base := base) D__law_held T
    have c__law_least := ok_leastD (P := l.prog) (w := w) (base := base) D__law_least T c__law_held
    have c__law_cuts := ok_cutsD (P := l.prog) (w := w) (base := base) D__law_cuts T c__law_least
    have c__law_wider := ok_wider (P := l.prog) (w := w) (base := base) D__law_wider T c__law_draw
    have c__law_needed := ok_needed (P := l.prog) (w := w) (base := base) D__law_needed T
    have c__law_lean := ok_llean (P := l.prog) (w := w) (base := base) D__law_lean T c__law_draw c__law_wider c__law_needed
    have c__law_depths := ok_depsD (P := l.prog) (w := w) (base := base) D__law_depths T
    have c__law_choices := ok_choicesE (P := l.prog) (w := w) (base := base) D__law_choices T
    have c__law_depth := ok_ldepE (P := l.prog) (w := w) (base := base) D__law_depth T
    have c__law_turned := ok_lturned (P := l.prog) (w := w) (base := base) D__law_turned T c__law_needed
    have c__law_good_turn := ok_lgood (P := l.prog) (w := w) (base := base) D__law_good_turn T c__law_turned c__law_depth
    have c__law_cover := ok_lcovE (P := l.prog) (w := w) (base := base) D__law_cover T
    have c__law_eased := ok_leased (P := l.prog) (w := w) (base := base) D__law_eased T c__law_good_turn c__law_cover
    have c_wires_in := ok_wires (P := l.prog) (w := w) (base := base) D_wires_in T
    have c_places := ok_places (P := l.prog) (w := w) (base := base) D_places
    have c_fits := ok_fits (P := l.prog) (w := w) (base := base) D_fits T
    have c_has_part := ok_haspart (P := l.prog) (w := w) (base := base) D_has_part T
    have c_gate_masks := ok_gatemasks (P := l.prog) (w := w) (base := base) D_gate_masks T c_fits c_has_part
    have c_cut_masks := ok_cutmasks (P := l.prog) (w := w) (base := base) D_cut_masks T c_places c_gate_masks
    have c_wires_of := ok_wiresof (P := l.prog) (w := w) (base := base) (Ts := [P0, P8, P14]) D_wires_of T (tabB_of (TB (c0, P0) (by simp))) (by simp)
    have c_told_cuts := ok_told (P := l.prog) (w := w) (base := base) (Ts := [P0, P8, P14]) D_told_cuts T c_wires_of
    have c_all_cuts := ok_allcuts (P := l.prog) (w := w) (base := base) (Ts := [P0, P8, P14]) D_all_cuts T c_wires_in c_cut_masks c_places c_told_cuts (tabB_of (TB (c8, P8) (by simp))) (by simp)
    have c_one_deeper_onedeepL := ok_onedeepL (P := l.prog) (w := w) (base := base) D_one_deeper T
    have c_depths_by := ok_depthsby (P := l.prog) (w := w) (base := base) D_depths_by T c_one_deeper_onedeepL
    have c_one_deeper_onedeepT := ok_onedeepT (P := l.prog) (w := w) (base := base) D_one_deeper T
    have c_chosen := ok_chosen (P := l.prog) (w := w) (base := base) D_chosen T c_one_deeper_onedeepT (tabB_of (TB (c13, P13) (by simp)))
    have c_all_choices := ok_allch (P := l.prog) (w := w) (base := base) (Ts := [P0, P8, P14]) D_all_choices T c_depths_by c_chosen (tabB_of (TB (c14, P14) (by simp))) (by simp) x13
    have c_turns_of := ok_turnsof (P := l.prog) (w := w) (base := base) D_turns_of T
    have c_leaned := ok_leaned (P := l.prog) (w := w) (base := base) D_leaned T
    have c_turned := ok_turned (P := l.prog) (w := w) (base := base) D_turned T c_leaned
    have c_one_deeper_onedeeper := ok_onedeeper (P := l.prog) (w := w) (base := base) D_one_deeper T
    have c_depth_by := ok_depthby (P := l.prog) (w := w) (base := base) D_depth_by T c_one_deeper_onedeeper
    have c_first_good := ok_first (P := l.prog) (w := w) (base := base) D_first_good T c_turns_of c_turned c_depth_by
    have c_eased := ok_eased (P := l.prog) (w := w) (base := base) (Ts := [P0, P8, P14]) D_eased T c_all_cuts c_all_choices c_first_good x13
    have c__same0 := ok_sameH0 (P := l.prog) (w := w) (base := base) D__law_same
    have c__same1 := ok_sameH (P := l.prog) (w := w) (base := base) D__law_same T (by decide) c__same0
    have c__same2 := ok_sameH (P := l.prog) (w := w) (base := base) D__law_same T (by decide) c__same1
    have c__same3 := ok_sameH (P := l.prog) (w := w) (base := base) D__law_same T (by decide) c__same2
    have c__same4 := ok_sameH (P := l.prog) (w := w) (base := base) D__law_same T (by decide) c__same3
    have c__law_same_sameH := ok_sameH (P := l.prog) (w := w) (base := base) D__law_same T (by decide) c__same4
    have c__law_right := ok_right57 (P := l.prog) (w := w) (base := base) (Ts := [P0, P8, P14]) D__law_right T c__law_cuts c__law_depths c__law_choices c__law_depth c__law_eased c_eased c__law_cover c__law_same_sameH
    exact ok_law l40 e40 T c__law_deck c__law_draw c__law_great c__law_chain c__law_cuts c__law_lean c__law_right
end K57
open PySem PySem.W PyProof.Rows
set_option maxRecDepth 100000 in
set_option maxHeartbeats 0 in
theorem PySem.Challenge.cw_tablecover_k57_great_nets_eased_holds : PySem.Challenge.rw_tablecover_k57_great_nets_eased.Holds := by
  w_on; o_law; k_head; (case hw => w_witness2)
  k_fill
  refine GX.walk_defs (l := PySem.Challenge.rw_tablecover_k57_great_nets_eased) (n := 63) (k := 8) (x := "_law_script") (CX := fun _ => L2.CX0) rfl (by decide) rfl ⟨rfl, by decide, by decide⟩ (fun w h Y => PySem.W.km_in_of Y) ?F (fun _ _ _ _ _ h => h)
  case F =>
    intro w mg fa h Y KX G hmg TF
    refine' K57.all_mk KX G hmg ?a0 ?l0 ?e0 ?k0 ?o0 ?h0 ?n0 ?y0 ?a1 ?l1 ?e1 ?k1 ?a2 ?l2 ?e2 ?k2 ?a3 ?l3 ?e3 ?k3 ?a4 ?l4 ?e4 ?k4 ?a5 ?l5 ?e5 ?k5 ?a6 ?l6 ?e6 ?k6 ?a7 ?l7 ?e7 ?k7 ?a8 ?l8 ?e8 ?k8 ?o8 ?h8 ?n8 ?y8 ?a9 ?l9 ?e9 ?k9 ?a10 ?l10 ?e10 ?k10 ?a11 ?l11 ?e11 ?k11 ?a12 ?l12 ?e12 ?k12 ?a13 ?l13 ?e13 ?k13 ?o13 ?h13 ?n13 ?y13 ?a14 ?l14 ?e14 ?k14 ?o14 ?h14 ?n14 ?y14 ?a15 ?l15 ?e15 ?k15 ?a16 ?l16 ?e16 ?k16 ?a17 ?l17 ?e17 ?k17 ?a18 ?l18 ?e18 ?k18 ?a19 ?l19 ?e19 ?k19 ?a20 ?l20 ?e20 ?k20 ?a21 ?l21 ?e21 ?k21 ?a22 ?l22 ?e22 ?k22 ?a23 ?l23 ?e23 ?k23 ?a24 ?l24 ?e24 ?k24 ?a25 ?l25 ?e25 ?k25 ?a26 ?l26 ?e26 ?k26 ?a27 ?l27 ?e27 ?k27 ?a28 ?l28 ?e28 ?k28 ?a29 ?l29 ?e29 ?k29 ?a30 ?l30 ?e30 ?k30 ?a31 ?l31 ?e31 ?k31 ?a32 ?l32 ?e32 ?k32 ?a33 ?l33 ?e33 ?k33 ?a34 ?l34 ?e34 ?k34 ?a35 ?l35 ?e35 ?k35 ?a36 ?l36 ?e36 ?k36 ?a37 ?l37 ?e37 ?k37 ?a38 ?l38 ?e38 ?k38 ?a39 ?l39 ?e39 ?k39 ?a40 ?l40 ?e40 ?k40 ?z_bool ?z_dict ?z_int ?z_isinstance ?z_len ?z_list ?z_max ?z_min ?z_range ?z_reversed ?z_set ?z_sorted ?z_str ?z_sum ?z_tuple ?x13
    (case a0 => k_is)
    (case l0 => k_is)
    (case e0 => k_is)
    (case k0 => k_is)
    (case o0 => k_is)
    (case h0 => exact ⟨rfl, rfl, rfl, rfl, rfl, rfl, by decide⟩)
    (case n0 => rfl)
    (case y0 => exact TF _ (by decide +kernel))
    (case a1 => k_is)
    (case l1 => k_is)
    (case e1 => k_is)
    (case k1 => k_is)
    (case a2 => k_is)
    (case l2 => k_is)
    (case e2 => k_is)
    (case k2 => k_is)
    (case a3 => k_is)
    (case l3 => k_is)
    (case e3 => k_is)
    (case k3 => k_is)
    (case a4 => k_is)
    (case l4 => k_is)
    (case e4 => k_is)
    (case k4 => k_is)
    (case a5 => k_is)
    (case l5 => k_is)
    (case e5 => k_is)
    (case k5 => k_is)
    (case a6 => k_is)
    (case l6 => k_is)
    (case e6 => k_is)
    (case k6 => k_is)
    (case a7 => k_is)
    (case l7 => k_is)
    (case e7 => k_is)
    (case k7 => k_is)
    (case a8 => k_is)
    (case l8 => k_is)
    (case e8 => k_is)
    (case k8 => k_is)
    (case o8 => k_is)
    (case h8 => exact ⟨rfl, rfl, rfl, rfl, rfl, rfl, by decide⟩)
    (case n8 => rfl)
    (case y8 => exact TF _ (by decide +kernel))
    (case a9 => k_is)
    (case l9 => k_is)
    (case e9 => k_is)
    (case k9 => k_is)
    (case a10 => k_is)
    (case l10 => k_is)
    (case e10 => k_is)
    (case k10 => k_is)
    (case a11 => k_is)
    (case l11 => k_is)
    (case e11 => k_is)
    (case k11 => k_is)
    (case a12 => k_is)
    (case l12 => k_is)
    (case e12 => k_is)
    (case k12 => k_is)
    (case a13 => k_is)
    (case l13 => k_is)
    (case e13 => k_is)
    (case k13 => k_is)
    (case o13 => k_is)
    (case h13 => exact ⟨rfl, rfl, rfl, rfl, rfl, rfl, by decide⟩)
    (case n13 => rfl)
    (case y13 => exact TF _ (by decide +kernel))
    (case a14 => k_is)
    (case l14 => k_is)
    (case e14 => k_is)
    (case k14 => k_is)
    (case o14 => k_is)
    (case h14 => exact ⟨rfl, rfl, rfl, rfl, rfl, rfl, by decide⟩)
    (case n14 => rfl)
    (case y14 => exact TF _ (by decide +kernel))
    (case a15 => k_is)
    (case l15 => k_is)
    (case e15 => k_is)
    (case k15 => k_is)
    (case a16 => k_is)
    (case l16 => k_is)
    (case e16 => k_is)
    (case k16 => k_is)
    (case a17 => k_is)
    (case l17 => k_is)
    (case e17 => k_is)
    (case k17 => k_is)
    (case a18 => k_is)
    (case l18 => k_is)
    (case e18 => k_is)
    (case k18 => k_is)
    (case a19 => k_is)
    (case l19 => k_is)
    (case e19 => k_is)
    (case k19 => k_is)
    (case a20 => k_is)
    (case l20 => k_is)
    (case e20 => k_is)
    (case k20 => k_is)
    (case a21 => k_is)
    (case l21 => k_is)
    (case e21 => k_is)
    (case k21 => k_is)
    (case a22 => k_is)
    (case l22 => k_is)
    (case e22 => k_is)
    (case k22 => k_is)
    (case a23 => k_is)
    (case l23 => k_is)
    (case e23 => k_is)
    (case k23 => k_is)
    (case a24 => k_is)
    (case l24 => k_is)
    (case e24 => k_is)
    (case k24 => k_is)
    (case a25 => k_is)
    (case l25 => k_is)
    (case e25 => k_is)
    (case k25 => k_is)
    (case a26 => k_is)
    (case l26 => k_is)
    (case e26 => k_is)
    (case k26 => k_is)
    (case a27 => k_is)
    (case l27 => k_is)
    (case e27 => k_is)
    (case k27 => k_is)
    (case a28 => k_is)
    (case l28 => k_is)
    (case e28 => k_is)
    (case k28 => k_is)
    (case a29 => k_is)
    (case l29 => k_is)
    (case e29 => k_is)
    (case k29 => k_is)
    (case a30 => k_is)
    (case l30 => k_is)
    (case e30 => k_is)
    (case k30 => k_is)
    (case a31 => k_is)
    (case l31 => k_is)
    (case e31 => k_is)
    (case k31 => k_is)
    (case a32 => k_is)
    (case l32 => k_is)
    (case e32 => k_is)
    (case k32 => k_is)
    (case a33 => k_is)
    (case l33 => k_is)
    (case e33 => k_is)
    (case k33 => k_is)
    (case a34 => k_is)
    (case l34 => k_is)
    (case e34 => k_is)
    (case k34 => k_is)
    (case a35 => k_is)
    (case l35 => k_is)
    (case e35 => k_is)
    (case k35 => k_is)
    (case a36 => k_is)
    (case l36 => k_is)
    (case e36 => k_is)
    (case k36 => k_is)
    (case a37 => k_is)
    (case l37 => k_is)
    (case e37 => k_is)
    (case k37 => k_is)
    (case a38 => k_is)
    (case l38 => k_is)
    (case e38 => k_is)
    (case k38 => k_is)
    (case a39 => k_is)
    (case l39 => k_is)
    (case e39 => k_is)
    (case k39 => k_is)
    (case a40 => k_is)
    (case l40 => k_is)
    (case e40 => k_is)
    (case k40 => k_is)
    (case z_bool => k_is)
    (case z_dict => k_is)
    (case z_int => k_is)
    (case z_isinstance => k_is)
    (case z_len => k_is)
    (case z_list => k_is)
    (case z_max => k_is)
    (case z_min => k_is)
    (case z_range => k_is)
    (case z_reversed => k_is)
    (case z_set => k_is)
    (case z_sorted => k_is)
    (case z_str => k_is)
    (case z_sum => k_is)
    (case z_tuple => k_is)
    (case x13 => decide)
