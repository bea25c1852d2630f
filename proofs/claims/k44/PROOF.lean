import PyProof.Rows.All
import Wide.All
import OpenK.AllK
import Wide.FinOn
import HandS.ForMost
import HandS.AnyAll
import HandS.GenList
import PyProof.TupleOfGen
import HandS.Walk
import HandS.Codes
import HandS.TupAny
import HandS.IsInst
import HandS.EndTab
import HandS.Wide
import HandS.Conv
import HandS.Zip
import KE.BitLaws
import KE.IntBitsLaws
import HandS.WideBits
import HandS.Rev
import HandS.RevRange
import HandS.Dict
import KE.GoesMore
import PyProof.EnumMake
import HandS.Style
import HandS.SetFor
import HandS.Strs
import HandS.Iter
import HandS.DictComp
import HandS.More
import KE.KIndexOf
import KE.KDictPairs
import HandS.Comp
import HandS.SortInts
import PySem.Challenge.RW_tablecover_k44_gates_doubled
set_option Elab.async false
set_option linter.all false
set_option maxRecDepth 100000
set_option maxHeartbeats 4000000
/-! Generator expressions as arguments of all, any, tuple, over the hand layer: the element may call, make objects, hold further generator expressions. -/
namespace GX
open PySem PySem.Spec PyProof.Rows L2 GenW

/-- the frame of a generator expression made in the state s; A0: what runs around it while it runs -/
abbrev gcx (X : Cx) (A0 : Around) (s : Shared) (H : Hp) (scope : Scope) (code : Value) (fp : List Addr) : Cx :=
  { X with
    A := A0.deeper (genEnv scope (cloFrom X.env.cells scope.names []) s.heap.objs.size code builtinsNs X.env)
    s_0 := s
    H_0 := H
    env := genEnv scope (cloFrom X.env.cells scope.names []) s.heap.objs.size code builtinsNs X.env
    outer := X.stack
    stack := genEnv scope (cloFrom X.env.cells scope.names []) s.heap.objs.size code builtinsNs X.env :: X.stack
    ex := fp
    fn := fun _ => false
    calm := true
    pn := []
    xe := fun _ _ => False }

/-- the names of the generator expression's scope -/
structure GxOk (N : List Str) (sc scope : Scope) (own : List (Str × Nat)) : Prop where
  blk : BlkOk N sc scope own
  co : scope.isCoroutine = false
  cell : ∀ y ∈ scope.names, y.2 ≠ .cell
  dot : scope.names.lookup (".0" : Str) = some NameKind.local

section
variable {X : Cx} {pins : List (Addr × Obj)} {σ : L2.St} {H : Hp} {s : Shared}
theorem gen_start {A0 : Around} {scope : Scope} {own : List (Str × Nat)} {fp : List Addr} {code : Value} {h5 : Heap} {g5 : Array GenState} {t5 : Nat} {m : Str → Option Value}
    (I : Inv X pins σ H s) (ok : GxOk X.N X.env.scope scope own) (hN : X.N.Nodup) (hfp : ∀ b ∈ fp, FpOk X pins H b ∧ b < s.heap.objs.size)
    (hh : A0.handled = none) (hfr : A0.frames = some X.stack)
    (hn : h5.Ns s.heap.objs.size m) (kp : ∀ b o, s.heap.get? b = some o → h5.get? b = some o) (hg : AllBare g5) :
    Inv (gcx X A0 s H scope code fp) [] (wipe σ (own.map (·.2))) H { s with heap := h5, gens := g5, toks := t5 } := by
  have hfree : ∀ y ∈ scope.names, y.2 = .free → ∃ c, X.env.cells.lookup y.1 = some c := fun y hy e => by
    rcases ok.blk.free y hy e with k | k
    · exact I.ok.has _ (.inl k)
    · exact I.ok.has _ (.inr k)
  have cm : ∀ {y c}, (cloFrom X.env.cells scope.names []).lookup y = some c → X.env.cells.lookup y = some c ∧ c < s.heap.objs.size ∧ scope.names.lookup y = some .free := fun {y c} hl => by
    rcases cloFrom_mem (PySem.mem_of_lookup hl) with hm | ⟨h1, rfl⟩
    · cases hm
    · obtain ⟨c, hc⟩ := hfree _ h1 rfl
      rw [hc]
      obtain ⟨w, z⟩ := I.cell _ _ hc
      exact ⟨rfl, z.lt, ok.blk.uniq _ h1⟩
  have look : ∀ {y}, scope.names.lookup y = some .free → ∃ c, (cloFrom X.env.cells scope.names []).lookup y = some c ∧ X.env.cells.lookup y = some c := fun {y} hl => by
    have hy : (y, NameKind.free) ∈ scope.names := PySem.mem_of_lookup hl
    obtain ⟨c', e'⟩ := mem_lookup (cloFrom_has (cells := X.env.cells) (acc := []) hy)
    exact ⟨c', e', (cm e').1⟩
  have okB : (gcx X A0 s H scope code fp).Ok := by
    refine ⟨I.ok.mod, ok.blk.kind, I.ok.glob, rfl, Nat.le_refl _, fun y z c e1 e2 => ?_, fun y hy => ?_, fun y c z e => (by cases z), fun _ => hh, Around.frames_deeper hfr, .inr ⟨rfl, rfl⟩,
      fun b hb => ⟨Nat.ne_of_lt (hfp b hb).2, fun y c e z => ?_⟩, I.bs, Nat.le_trans I.ok.bsz I.sz, fun b o e hb => ?_, fun b hb z => ?_, I.stack, I.stkFree⟩
    · exact I.ok.inj y z c (cm e1).1 (cm e2).1
    · rcases hy with hy | hy
      · exact absurd rfl (ok.cell _ (PySem.mem_of_lookup hy))
      · obtain ⟨c, h1, _⟩ := look hy
        exact ⟨c, h1⟩
    · exact (hfp b hb).1.2.2.2.2.1 y c (cm e).1 z
    · rcases (hfp b hb).1.2.2.2.1 with z | z
      · exact I.ok.noex b o e z
      · exact absurd (Nat.lt_of_lt_of_le (Heap.lt_size e) (Nat.le_trans I.ok.bsz z)) (Nat.lt_irrefl _)
    · rcases List.mem_cons.mp (I.stkSub b z) with z | z
      · exact (hfp b hb).1.2.1 z
      · exact (hfp b hb).1.2.2.1 z
  refine ⟨okB, rfl, hg, Un.kept kp, ⟨m, hn, fun i y av e1 e2 e3 => ?_⟩, fun y c e => ?_, I.hok.fresh (Nat.le_refl _), fun y c e => I.freeC y c (cm e).1, fun p hp => absurd (show p ∈ ([] : List (Addr × Obj)) ++ [] from hp) (by simp), I.hok.kept kp, by rw [wipe_length]; exact I.len⟩
  · obtain ⟨e2, hne⟩ := wipe_some e2
    have no : ∀ k, scope.names.lookup y = some k → ¬ (k = .local ∨ k = .cell) := fun k e hh => by
      rcases ok.blk.own _ (PySem.mem_of_lookup e) hh with e' | e'
      · obtain ⟨p, hp, hpy⟩ := List.mem_map.mp e'
        have e3 := ok.blk.ix p hp
        have : p.1 = y := hpy
        rw [this] at e3
        exact hne (List.mem_map.mpr ⟨p, hp, nodup_ix hN e3 e1⟩)
      · exact e' (List.mem_of_getElem? e1)
    have hfr : scope.names.lookup y = some .free := by
      rcases e3 with e3 | e3 | e3
      · exact absurd (.inl rfl) (no _ e3)
      · exact absurd (.inr rfl) (no _ e3)
      · exact e3
    obtain ⟨m', hn', hl⟩ := I.loc
    have hvis : Vis X.env.scope y := (ok.blk.free _ (PySem.mem_of_lookup hfr) rfl).elim (fun k => .inr (.inl k)) (fun k => .inr (.inr k))
    obtain ⟨w, r, q⟩ := hl i y av e1 e2 hvis
    refine ⟨w, r, .inr ⟨.inr hfr, ?_⟩⟩
    obtain ⟨c, h1, h2⟩ := look hfr
    rcases q with ⟨k, _⟩ | ⟨_, c', e', z⟩
    · have k : X.env.scope.names.lookup y = some .local := k
      rcases ok.blk.free _ (PySem.mem_of_lookup hfr) rfl with k' | k' <;> rw [show X.env.scope.names.lookup y = _ from k'] at k <;> cases k
    · rw [h2] at e'; cases e'
      exact ⟨c, h1, z.keeps kp⟩
  · obtain ⟨w, z⟩ := I.cell y c (cm e).1
    exact ⟨w, z.keeps kp⟩
end

/-! ### asleep -/
/-- while the generator sleeps its consumer changes what stands at B alone -/
structure Slp (B : List Addr) (s s' : Shared) : Prop where
  os : s'.os = s.os
  bare : AllBare s'.gens
  keep : ∀ b o, b ∉ B → s.heap.get? b = some o → s'.heap.get? b = some o
/-- the consumer's own objects -/
structure Aprt (Y : Cx) (B fp : List Addr) (a : Addr) : Prop where
  hi : ∀ b ∈ B, Y.s_0.heap.objs.size ≤ b
  lo : ∀ b ∈ B, b ≠ Y.env.locals
  ce : ∀ b ∈ B, ∀ x c, Y.env.cells.lookup x = some c → c ≠ b
  sf : ∀ b ∈ B, b ∉ Y.fs
  bf : ∀ b ∈ B, b ∉ fp
  na : a ∉ B
  af : a ∉ fp
theorem woken {Y : Cx} {B fp : List Addr} {a : Addr} {go : Obj} {pins pins' : List (Addr × Obj)} {σ : L2.St} {H : Hp} {s s' : Shared} (hpn : Y.pn = []) (hB : Aprt Y B fp a) (I : Inv Y ((a, go) :: pins) σ H s)
    (hHB : ∀ b ∈ B, H b = none) (z : Slp B s s') (hp : ∀ p ∈ pins', p.1 ∈ B ∧ s'.heap.get? p.1 = some p.2 ∧ ∀ v, p.2.data ≠ .cell v) : Inv Y ((a, go) :: pins') σ H s' := by
  have I1 : Inv Y [(a, go)] σ H s := I.pins_of fun p hp => by
    have e : p = (a, go) := List.mem_singleton.mp hp
    rw [e]
    exact I.pin (a, go) (List.mem_append_right _ List.mem_cons_self)
  have nt : ∀ b u, H b = some u → b ∉ B := fun b u q hb => by rw [hHB b hb] at q; cases q
  obtain ⟨z1, z2, z3⟩ := z
  obtain ⟨hh, g, d, t, o⟩ := s'
  have ho : o = s.os := z1
  subst ho
  have J : Inv Y [(a, go)] σ H { s with heap := hh, gens := g, drawn := d, toks := t } := by
    refine I1.step (g' := g) (t' := t) (d' := d) (ch := B) (fun b hb => ?_)
      (fun b ob _ _ hc q _ => z3 b ob hc q) (fun b ob _ _ hc q _ => ⟨ob.slots, z3 b ob hc q⟩) (fun _ _ _ _ n => n) (fun b ob hc q => ⟨ob, z3 b ob hc q⟩)
      (fun _ _ q => q) (fun _ _ _ q => q) (fun b ps q => ⟨#[], by rw [q]; simp⟩) (fun m hm => ?_) (fun b u q => ?_) z2
    · refine ⟨.inr (hB.hi b hb), hB.lo b hb, hB.ce b hb, fun p hp => ?_⟩
      rw [hpn] at hp
      have e : p = (a, go) := by simpa using hp
      rw [e]
      intro e2
      have e3 : a = b := e2
      exact hB.na (by rw [e3]; exact hb)
    · obtain ⟨ob, es, ep, ho, r⟩ := hm
      exact ⟨ob, es, ep, z3 _ ob (fun hb => hB.lo _ hb rfl) ho, r⟩
    · refine (I1.hok b u q).stay (fun c v hc y => z3 c v ?_ y) (fun _ y => y) fun _ _ y => y
      rcases hc with y | y
      · rw [y]; exact nt b u q
      · exact nt c _ y
  refine J.pins_of fun p hp' => ?_
  rcases List.mem_cons.mp hp' with e | hp'
  · rw [e]
    exact J.pin (a, go) (List.mem_append_right _ List.mem_cons_self)
  · obtain ⟨h1, h2, h3⟩ := hp p hp'
    exact ⟨h2, hHB _ h1, hB.lo _ h1, hB.sf _ h1, h3⟩

/-! ### the turns -/
/-- what the consumer holds behind ys: Pn; what is wanted at a yield: Kx; where it goes on: Cn; at the end: Fi -/
structure Con where
  B : List Addr
  Pn : List V → List (Addr × Obj) → Prop
  Kx : List V → V → Hp → Prop
  Cn : List V → V → Prop
  Fi : List V → Hp → Prop
structure Con.Ok (C : Con) : Prop where
  pn : ∀ ys pins, C.Pn ys pins → ∀ p ∈ pins, p.1 ∈ C.B ∧ ∀ v, p.2.data ≠ .cell v
  all : ∀ ys pins, C.Pn ys pins → ∀ b ∈ C.B, ∃ o, (b, o) ∈ pins
def YG (Y : Cx) (C : Con) (a : Addr) (go : Obj) (σ0 : L2.St) : Protocol := fun n s₀ v s kap =>
  ∃ ys x pins H, RelV x v ∧ C.Pn ys pins ∧ Inv Y ((a, go) :: pins) σ0 H s ∧ C.Kx ys x H ∧
    (C.Cn ys x → ∀ s', Slp C.B s s' → (∃ pins', C.Pn (ys ++ [x]) pins' ∧ ∀ p ∈ pins', s'.heap.get? p.1 = some p.2) → kap (.send .none) s')
def RG (Y : Cx) (C : Con) (a : Addr) (go : Obj) (σ0 : L2.St) : Nat → Shared → Shared → Prop := fun n s₀ s => ∃ ys pins H, C.Pn ys pins ∧ Inv Y ((a, go) :: pins) σ0 H s ∧ C.Fi ys H
def GSt (Y : Cx) (C : Con) (fp : List Addr) (tn : Nat → Heap → Prop) (a : Addr) (go : Obj) (σ0 : L2.St) (W : Nat → Nat → List V → Hp → Prop) (i m : Nat) (ys : List V) (s : Shared) : Prop :=
  ∃ pins H, C.Pn ys pins ∧ Inv Y ((a, go) :: pins) σ0 H s ∧ tn i s.heap ∧ (∀ b ∈ fp, H b = none) ∧ W i m ys H
/-- the turns' reading -/
def Turns (J : It) (g : TG) (tt : TT) (te : TE) (vs : List Nat) (σ0 : L2.St) (C : Con) (W : Nat → Nat → List V → Hp → Prop) : Prop := ∀ i m ys H, W i m ys H →
  (J.stop i H ∧ C.Fi ys H) ∨ (J.go i H ∧ ∃ Nx : List V → Hp → Prop, (∀ ys' H', Nx ys' H' → ∃ m', m' < m ∧ W (i + 1) m' ys' H') ∧ ∀ x H', J.yld i H x H' → g x σ0 H' fun σ2 H2 => wipe σ2 vs = σ0 ∧ tt σ2 H2 fun b H3 =>
    if b = true then te σ2 H3 fun y H4 => C.Kx ys y H4 ∧ (C.Cn ys y → Nx (ys ++ [y]) H4) else Nx ys H3)

section
variable {Y : Cx} {C : Con} {A0 : Around} {elt tg iter : Expr} {ifs : List Expr} {scope : Scope} {pos : Pos} {it a : Addr} {fp : List Addr} {tn : Nat → Heap → Prop} {go : Obj} {J : It} {g : TG} {tt : TT} {te : TE} {vs : List Nat} {σ0 : L2.St} {W : Nat → Nat → List V → Hp → Prop}
theorem seg_loop (hA : A0.over (.compLoop (.GeneratorExp elt [⟨tg, iter, ifs, 0⟩] scope pos) 0 (.ref it) .none Y.env) [] = Y.A) (hc : Y.calm = true) (hx : ∀ e s, Y.xe e s → False) (hpn : Y.pn = []) (hco : Y.env.scope.isCoroutine = false)
    (CO : C.Ok) (hB : Aprt Y C.B fp a) (hst : ∀ b ∈ fp, b ≠ Y.env.locals ∧ b ∉ Y.fs ∧ (b ∈ Y.ex ∨ Y.s_0.heap.objs.size ≤ b) ∧ ∀ x c, Y.env.cells.lookup x = some c → c ≠ b)
    (T : Turn Y.prog Y.w Y.K tg J fp it tn) (hg : PG Y tg g) (ht : PTs Y ifs tt) (he : PE Y elt te) (turns : Turns J g tt te vs σ0 C W) :
    ∀ (m i n : Nat) (ys : List V) (s₀ s : Shared), m < n → GSt Y C fp tn a go σ0 W i m ys s →
      Seg (model Y.prog Y.w) A0 (fun n s₀ r s₁ => r = .ok .next ∧ RG Y C a go σ0 n s₀ s₁) (YG Y C a go σ0) n s₀
        (.compLoop (.GeneratorExp elt [⟨tg, iter, ifs, 0⟩] scope pos) 0 (.ref it) .none Y.env)
        ((model Y.prog Y.w).den (.compLoop (.GeneratorExp elt [⟨tg, iter, ifs, 0⟩] scope pos) 0 (.ref it) .none Y.env)) [] s := by
  intro m
  induction m using Nat.strongRecOn with
  | ind m ih =>
    intro i n ys s₀ s hmn ⟨pins, H, hP, I, st, fr, w⟩
    have stat : ∀ {H' : Hp}, (∀ b ∈ fp, H' b = none) → ∀ b ∈ fp, FpOk Y ((a, go) :: pins) H' b := fun hn b hb => by
      obtain ⟨h1, h2, h3, h4⟩ := hst b hb
      refine ⟨hn b hb, h1, h2, h3, h4, fun p hp => ?_⟩
      rw [hpn] at hp
      rcases List.mem_cons.mp (show p ∈ (a, go) :: pins from hp) with e | hp
      · rw [e]; intro e2; have e3 : a = b := e2; exact hB.af (by rw [e3]; exact hb)
      · intro e2; exact hB.bf _ (CO.pn _ _ hP p hp).1 (by rw [e2]; exact hb)
    obtain ⟨k, rfl⟩ : ∃ k, n = k + 1 := ⟨n - 1, by omega⟩
    show Seg _ A0 _ _ _ s₀ _ ((compTurn (.GeneratorExp elt [⟨tg, iter, ifs, 0⟩] scope pos) 0 (.ref it) .none Y.env).onRaise (leaving Y.env)) [] s
    rw [compTurn_gen, Sem.onRaise_eq_wrap]
    refine seg_bind_wrap (wpAny_standAt ?_)
    rcases turns i m ys H w with ⟨stop, q⟩ | ⟨go1, Nx, hN, step⟩
    · refine seg_bind_wrap ?_
      rw [hA]
      refine thn (T.done Y rfl rfl rfl hc i _ s σ0 H _ I (stat fr) st stop) fun r s1 ⟨hr, I1⟩ => ?_
      subst hr
      exact seg_end (.ok .next) ⟨rfl, ys, pins, H, hP, I1, q⟩
    · refine seg_bind_wrap ?_
      rw [hA]
      refine thn (T.item Y rfl rfl rfl hc i _ s σ0 H _ I (stat fr) st go1) fun r s1 ⟨u, hr, h1⟩ => ?_
      subst hr
      refine seg_bind_wrap ?_
      rw [hA]
      refine thn h1 fun _ s2 ⟨x, H2, I2, rx, y2, st2, fr2⟩ => ?_
      have I2' := I2.pinned (stat fr2) (T.obj _ _ st2)
      refine seg_bind_wrap ?_
      rw [hA]
      refine wpAny_mono (hg.run _ s2 σ0 H2 x u _ I2' rx (step x H2 y2)) (fun _ s3 ⟨σ3, H3, I3, hw, q3⟩ => ?_) (fun e s' z => (hx e s' z).elim)
      refine seg_bind_wrap ?_
      rw [hA]
      refine wpAny_mono (ht.run _ s3 σ3 H3 _ I3 q3) (fun b s4 ⟨H4, I4, q4⟩ => ?_) (fun e s' z => (hx e s' z).elim)
      have weak : ∀ {H' : Hp} {s' : Shared}, Inv Y ((a, go) :: pins ++ pinsAt fp s2.heap) σ3 H' s' → Inv Y ((a, go) :: pins ++ pinsAt fp s2.heap) σ0 H' s' := fun I' => by
        refine I'.weak (by rw [← hw, wipe_length]) fun j v e => ?_
        rw [← hw] at e
        exact (wipe_some e).1
      have tnk : ∀ {H' : Hp} {s' : Shared}, Inv Y ((a, go) :: pins ++ pinsAt fp s2.heap) σ3 H' s' → tn (i + 1) s'.heap ∧ ∀ b ∈ fp, H' b = none := fun I' => by
        refine ⟨T.keep _ _ _ st2 fun b hb o e => (I'.pin (b, o) (List.mem_append_right _ (List.mem_append_right _ (mem_pinsAt hb e)))).1, fun b hb => ?_⟩
        obtain ⟨o, e, d⟩ := T.obj _ _ st2 b hb
        exact (I'.pin (b, o) (List.mem_append_right _ (List.mem_append_right _ (mem_pinsAt hb e)))).2.1
      cases b with
      | false =>
        rw [if_neg Bool.false_ne_true] at q4
        obtain ⟨m', hm, w'⟩ := hN _ _ q4
        obtain ⟨t4, f4⟩ := tnk I4
        simp only [Bool.false_eq_true, if_false]
        exact seg_again rfl (ih m' hm (i + 1) (k + 1) ys s₀ s4 (by omega) ⟨pins, H4, hP, (weak I4).unpinned, t4, f4, w'⟩)
      | true =>
        rw [if_pos rfl] at q4
        simp only [if_true]
        have hy : ∀ v, yieldOut Y.env v = yieldValue v := fun v => by simp only [yieldOut, hco, Bool.false_eq_true, if_false]
        simp only [hy]
        rw [Sem.bind_eq_wrap', Sem.bind_eq_wrap', Sem.wrap_wrap, Sem.wrap_wrap]
        refine seg_wrap ?_
        rw [hA]
        refine wpAny_mono (he.run _ s4 σ3 H4 _ I4 q4) (fun v s5 ⟨y, H5, I5, ry, kx, nx⟩ => ?_) (fun e s' z => (hx e s' z).elim)
        obtain ⟨t5, f5⟩ := tnk I5
        have I5' := (weak I5).unpinned
        refine seg_at (seg_yield rfl rfl rfl ⟨ys, y, pins, H5, ry, hP, I5', kx, fun cn s6 z ⟨pins', hP', hp'⟩ => ?_⟩)
        obtain ⟨m', hm, w'⟩ := hN _ _ (nx cn)
        have hHB : ∀ b ∈ C.B, H5 b = none := fun b hb => by
          obtain ⟨o, ho⟩ := CO.all _ _ hP b hb
          exact (I5'.pin (b, o) (List.mem_append_right _ (List.mem_cons_of_mem _ ho))).2.1
        have I6 : Inv Y ((a, go) :: pins') σ0 H5 s6 := woken hpn hB I5' hHB z fun p hp => ⟨(CO.pn _ _ hP' p hp).1, hp' p hp, (CO.pn _ _ hP' p hp).2⟩
        refine seg_again rfl (ih m' hm (i + 1) k (ys ++ [y]) s6 s6 (by omega) ⟨pins', H5, hP', I6, T.keep _ _ _ t5 fun b hb o e => z.keep b o (fun hm => hB.bf b hm hb) e, f5, w'⟩)
end
end GX
set_option Elab.async false
set_option linter.all false
set_option maxRecDepth 100000
set_option maxHeartbeats 4000000
namespace GX
open PySem PySem.Spec PyProof.Rows L2 GenW

section
variable {Y : Cx} {C : Con} {A0 : Around} {elt tg iter : Expr} {ifs : List Expr} {scope : Scope} {pos : Pos} {it a : Addr} {fp : List Addr} {tn : Nat → Heap → Prop} {go : Obj} {J : It} {g : TG} {tt : TT} {te : TE} {vs : List Nat} {σ0 : L2.St} {W : Nat → Nat → List V → Hp → Prop}
theorem seg_start (hA : A0.over (.compLoop (.GeneratorExp elt [⟨tg, iter, ifs, 0⟩] scope pos) 0 (.ref it) .none Y.env) [] = Y.A) (hc : Y.calm = true) (hx : ∀ e s, Y.xe e s → False) (hpn : Y.pn = []) (hco : Y.env.scope.isCoroutine = false)
    (CO : C.Ok) (hB : Aprt Y C.B fp a) (hst : ∀ b ∈ fp, b ≠ Y.env.locals ∧ b ∉ Y.fs ∧ (b ∈ Y.ex ∨ Y.s_0.heap.objs.size ≤ b) ∧ ∀ x c, Y.env.cells.lookup x = some c → c ≠ b)
    (T : Turn Y.prog Y.w Y.K tg J fp it tn) (hg : PG Y tg g) (ht : PTs Y ifs tt) (he : PE Y elt te) (turns : Turns J g tt te vs σ0 C W)
    (m i n : Nat) (ys : List V) (s₀ s : Shared) (hmn : m < n) (h : GSt Y C fp tn a go σ0 W i m ys s) :
      Seg (model Y.prog Y.w) A0 (fun n s₀ r s₁ => r = .ok .next ∧ RG Y C a go σ0 n s₀ s₁) (YG Y C a go σ0) n s₀
        (.compStart (.GeneratorExp elt [⟨tg, iter, ifs, 0⟩] scope pos) 0 (.ref it) .none Y.env)
        ((model Y.prog Y.w).den (.compStart (.GeneratorExp elt [⟨tg, iter, ifs, 0⟩] scope pos) 0 (.ref it) .none Y.env)) [] s := by
  have loop := seg_loop (iter := iter) (scope := scope) (pos := pos) hA hc hx hpn hco CO hB hst T hg ht he turns m i n ys s₀ s hmn h
  obtain ⟨pins, H, hP, I, st, fr, w⟩ := h
  show Seg _ A0 _ _ _ s₀ _ ((compStart (.GeneratorExp elt [⟨tg, iter, ifs, 0⟩] scope pos) 0 (.ref it) .none Y.env).onRaise (leaving Y.env)) [] s
  unfold compStart
  rw [Sem.onRaise_eq_wrap]
  show Seg _ A0 _ _ _ s₀ _ ((ask >>= _).wrap _ _ _ _) [] s
  refine seg_bind_wrap (wpAny_askSetting ?_)
  split
  · exact seg_again rfl loop
  · first
      | exact seg_bind_wrap (wpAny_rule (seg_bind_wrap (wpAny_standAt (seg_bind_wrap (T.self _ i s _ _ st (seg_again rfl loop))))))
      | (refine seg_bind_wrap (wpAny_rule ?_); show Seg _ A0 _ _ _ s₀ _ ((standAt iter.pos >>= _).wrap _ _ _ _) [] s; exact seg_bind_wrap (wpAny_standAt (seg_bind_wrap (T.self _ i s _ _ st (seg_again rfl loop)))))
end

/-! ### the generator, as its consumer sees it -/
def Live (Y : Cx) (C : Con) (A0 : Around) (a : Addr) (go : Obj) (σ0 : L2.St) (g n : Nat) (s : Shared) : Prop :=
  s.heap.IsGen a g ∧ s.heap.NoLimit ∧ ∃ gs, s.gens[g]? = some gs ∧ gs.Goes (model Y.prog Y.w) A0 (fun n s₀ r s₁ => r = .ok .next ∧ RG Y C a go σ0 n s₀ s₁) (YG Y C a go σ0) n (.send .none) (s.setGen g .running)
theorem inv_setGen {Y : Cx} {pins : List (Addr × Obj)} {σ : L2.St} {H : Hp} {s : Shared} {g : Nat} {gs : GenState} (I : Inv Y pins σ H s) (hb : gs.bare = true) : Inv Y pins σ H (s.setGen g gs) :=
  ⟨I.ok, I.os, allBare_setGen I.bare hb, I.base, I.loc, I.cell, I.free, I.freeC, I.pin, I.hok, I.len⟩
/-- one next -/
theorem gx_next {Y : Cx} {C : Con} {A : Around} {a : Addr} {go : Obj} {σ0 : L2.St} {g n : Nat} {s : Shared} {Q : Option Value → Shared → Prop} {E : Value → Shared → Prop} (hh : A.handled = none) (hroom : A.depth < recursionLimit)
    (L : Live Y C A.in1 a go σ0 g n s) (hgo : ∀ h : Heap, h.get? a = some go → h.IsGen a g)
    (hY : ∀ ys x v pins H s₁, RelV x v → C.Pn ys pins → Inv Y ((a, go) :: pins) σ0 H s₁ → C.Kx ys x H →
      (C.Cn ys x → ∀ s', Slp C.B s₁ s' → (∃ pins', C.Pn (ys ++ [x]) pins' ∧ ∀ p ∈ pins', s'.heap.get? p.1 = some p.2) → s'.heap.get? a = some go → s'.heap.NoLimit → s'.gens = s₁.gens → ∃ k, n = k + 1 ∧ Live Y C A.in1 a go σ0 g k s') → Q (some v) s₁)
    (hF : ∀ ys pins H s₁, C.Pn ys pins → Inv Y ((a, go) :: pins) σ0 H s₁ → C.Fi ys H → Q none s₁) :
    wpAny (model Y.prog Y.w) A (pyNext (.ref a)) Q E s := by
  obtain ⟨hg, hl, gs, hgs, hgoes⟩ := L
  have hgl : g < s.gens.size := (Array.getElem?_eq_some_iff.mp hgs).1
  refine wpAny_gsz (n := g + 1) hgl (wpAny_pyNext_genexpQ hh hl hroom hg hgs hgoes (fun v s₁ gs' hb hv => ?_) (fun s₁ hp h' hk => ?_))
  · intro hsz
    obtain ⟨ys, x, pins, H, rv, hP, I, kx, kap⟩ := hv
    have hsz1 : g < s₁.gens.size := by
      have q : (s₁.setGen g gs').gens.size = s₁.gens.size := setGen_size _ _ _
      have hsz' : g + 1 ≤ (s₁.setGen g gs').gens.size := hsz
      omega
    refine hY ys x v pins H _ rv hP (inv_setGen I hb) kx fun cn s' z hp ha hl' hgens => ?_
    have z' : Slp C.B s₁ (s'.setGen g .running) := ⟨z.os, allBare_setGen z.bare rfl, fun b o hb e => z.keep b o hb e⟩
    have q := kap cn _ z' hp
    cases n with
    | zero => exact False.elim q
    | succ k => exact ⟨k, rfl, hgo _ ha, hl', gs', by rw [hgens]; exact setGen_at hsz1, q⟩
  · intro _
    obtain ⟨ys, pins, H, hP, I, fi⟩ := hp
    refine hF ys pins H _ hP ?_ fi
    exact (inv_setGen (gs := .finished) (g := g) I rfl).kept (t' := s₁.toks) hk
end GX
set_option Elab.async false
set_option linter.all false
set_option maxRecDepth 100000
set_option maxHeartbeats 4000000
namespace GX
open PySem PySem.Spec PyProof.Rows L2 GenW

/-- a generator expression has been made -/
structure Made (X : Cx) (pins : List (Addr × Obj)) (σ : L2.St) (A0 : Around) (elt tg iter : Expr) (ifs : List Expr) (scope : Scope) (gpos : Pos) (own : List (Str × Nat)) (it a : Addr) (fp : List Addr) (tn : Nat → Heap → Prop) (J : It) (H4 : Hp) (s4 s5 : Shared) (code : Value) (g : Nat) (go : Obj) : Prop where
  outer : Inv X pins σ H4 s4
  inner : Inv (gcx X A0 s4 H4 scope code fp) [(a, go)] (wipe σ (own.map (·.2))) H4 s5
  turn : Turn X.prog X.w X.K tg J fp it tn
  tn0 : tn 0 s5.heap
  fpk : ∀ b ∈ fp, FpOk X pins H4 b ∧ b < s4.heap.objs.size
  alo : s4.heap.objs.size < a
  asz : s5.heap.objs.size = a + 1
  gen : ∀ h : Heap, h.get? a = some go → h.IsGen a g
  gs : s5.gens[g]? = some (.fresh (.compStart (.GeneratorExp elt [⟨tg, iter, ifs, 0⟩] scope gpos) 0 (.ref it) .none (gcx X A0 s4 H4 scope code fp).env))
  ga : s5.heap.get? a = some go

section
variable {X : Cx} {pins : List (Addr × Obj)} {σ : L2.St} {H : Hp} {s : Shared}
theorem gx_make {A0 : Around} {c P : Addr} {elt tg iter : Expr} {ifs : List Expr} {gpos : Pos} {scope : Scope} {own : List (Str × Nat)} {wi : TI} {k : Nat} {R : It → Hp → Prop} {Q' : Value → Shared → Prop}
    (hA0h : A0.handled = none) (hA0f : A0.frames = X.A.frames) (hr : Room k X.A) (TB : GxR.TabB X.base X.mg c P) (hcode : X.env.code = .ref c) (ok : GxOk X.N X.env.scope scope own) (hN : X.N.Nodup) (hi : PI X tg iter wi)
    (hs : ∀ v, genFold iter X.env v = pure v) (I : Inv X pins σ H s) (h : wi σ H fun J H1 => GxR.TabG H1 P ∧ ∀ H2, GxR.Tabbed P H1 H2 → R J H2)
    (hQ : ∀ it a fp tn J H4 s4 s5 code g go, Made X pins σ A0 elt tg iter ifs scope gpos own it a fp tn J H4 s4 s5 code g go → R J H4 → Q' (.ref a) s5) :
    wpAny (model X.prog X.w) X.A (eval (.GeneratorExp elt [⟨tg, iter, ifs, 0⟩] scope gpos) X.env) Q' X.xe s := by
  have hfree : ∀ y ∈ scope.names, y.2 = .free → ∃ c, X.env.cells.lookup y.1 = some c := fun y hy e => by
    rcases ok.blk.free y hy e with k | k
    · exact I.ok.has _ (.inl k)
    · exact I.ok.has _ (.inr k)
  refine wpAny_GeneratorExp_make ok.co (closure_ok hfree) ok.cell ok.dot ok.blk.kind (by have := hr.dp; omega) ?_ hs
  refine thn (hi.run pins s σ H _ I h) fun xv s1 hx => thn hx fun itv s2 h2 => ?_
  obtain ⟨it, fp, tn, J, H2, e, I2, T, st2, f2, ⟨ps, hP, ht⟩, q⟩ := h2
  subst e
  have hPs : s2.heap.get? P = some { cls := .none, data := .fields ps } := I2.hok P _ hP
  have cd : PySem.W.CodeHd s2.heap c P := TB.code.keeps fun b u e => I2.bk b u e
  have sz : ∀ b ∈ fp, b < s2.heap.objs.size := fun b hb => by
    obtain ⟨o, e, _⟩ := T.obj _ _ st2 b hb
    exact Heap.lt_size e
  have fnP : ∀ b ∈ fp, b ≠ P := fun b hb e => by
    have q := (f2 b hb).1
    rw [e, hP] at q
    cases q
  have cont : ∀ (code : Value) (h3 : Heap) (tk : Nat) (ps' : Array Value), Heap.ExtBut P s2.heap h3 → s2.heap.objs.size ≤ h3.objs.size → h3.get? P = some { cls := .none, data := .fields ps' } → (∃ more, ps' = ps ++ more) → TriplesOk ps'.toList →
      wpAny (model X.prog X.w) X.A (builtinsFor X.env.globals X.env.builtins) (fun bi s₄ =>
        ∀ h', h'.Ns s₄.heap.objs.size (fun y => if y = ".0" then some (Value.ref it) else none) → Heap.SameBut s₄.heap.objs.size (s₄.heap.push { cls := .type "frame", data := .dict #[] }) h' →
          Q' (.ref h'.objs.size) { s₄ with
            gens := s₄.gens.push (.fresh (.compStart (.GeneratorExp elt [⟨tg, iter, ifs, 0⟩] scope gpos) 0 (.ref it) .none (genEnv scope (cloFrom X.env.cells scope.names []) s₄.heap.objs.size code bi X.env))),
            toks := s₄.toks + 1 + 1 + 1,
            heap := h'.push { cls := .type "generator", data := .fields #[.int s₄.gens.size 0, .str "<genexpr>" (s₄.toks + 1), .str (X.env.qual ++ "<genexpr>") (s₄.toks + 1 + 1)] } }) X.xe { s2 with heap := h3, toks := tk } := by
    intro code h3 tk ps' hx hsz hP3 hmore ht3
    obtain ⟨more, em⟩ := hmore
    obtain ⟨bm, ob, e1, e2, e3, e4, e5, e6, e7, e8⟩ := TB.bm
    have keep3 : ∀ b u, b ≠ P → s2.heap.get? b = some u → h3.get? b = some u := fun b u hb e => hx b u hb e
    refine wpAny_builtinsFor (m := X.mg) (by rw [I2.ok.glob]; exact (I2.mod.glob.keeps I2.bk).extBut hx TB.gP) e1 e2 (keep3 _ _ e4 (I2.bk _ _ e5)) e6 e7 e8 ?_
    have I4 : Inv X pins σ (upd H2 P (.tbl (ps ++ more))) { s2 with heap := h3, toks := tk } :=
      GxR.inv_tab (more := more) (h' := h3) (g' := s2.gens) (d' := s2.drawn) (t' := tk) I2 hP (fun b u hb e => keep3 b u hb e) (by rw [← em]; exact hP3) I2.bare
    have hT4 : GxR.Tabbed P H2 (upd H2 P (.tbl (ps ++ more))) := ⟨⟨ps ++ more, upd_same, by rw [← em]; exact ht3⟩, fun b hb => upd_ne hb⟩
    have fk : ∀ b ∈ fp, FpOk X pins (upd H2 P (.tbl (ps ++ more))) b ∧ b < h3.objs.size := fun b hb => by
      refine ⟨⟨?_, (f2 b hb).2⟩, Nat.lt_of_lt_of_le (sz b hb) hsz⟩
      rw [upd_ne (fnP b hb)]
      exact (f2 b hb).1
    intro h' hn' hs'
    have hszh : h'.objs.size = h3.objs.size + 1 := by rw [hs'.1, Heap.size_push]
    have keep' : ∀ b o, h3.get? b = some o → h'.get? b = some o := fun b o e => hs'.extBut b o (Nat.ne_of_lt (Heap.lt_size e)) (Heap.get?_push_of_some _ e)
    have keep5 : ∀ b o, h3.get? b = some o → (h'.push { cls := .type "generator", data := .fields #[.int s2.gens.size 0, .str "<genexpr>" (tk + 1), .str (X.env.qual ++ "<genexpr>") (tk + 1 + 1)] }).get? b = some o := fun b o e => Heap.get?_push_of_some _ (keep' b o e)
    have hat : (h'.push { cls := .type "generator", data := .fields #[.int s2.gens.size 0, .str "<genexpr>" (tk + 1), .str (X.env.qual ++ "<genexpr>") (tk + 1 + 1)] }).get? h'.objs.size = some { cls := .type "generator", data := .fields #[.int s2.gens.size 0, .str "<genexpr>" (tk + 1), .str (X.env.qual ++ "<genexpr>") (tk + 1 + 1)] } := Heap.get?_push_size _ rfl
    have IY : Inv (gcx X A0 { s2 with heap := h3, toks := tk } (upd H2 P (.tbl (ps ++ more))) scope code fp) [] (wipe σ (own.map (·.2))) (upd H2 P (.tbl (ps ++ more)))
        { s2 with heap := h'.push { cls := .type "generator", data := .fields #[.int s2.gens.size 0, .str "<genexpr>" (tk + 1), .str (X.env.qual ++ "<genexpr>") (tk + 1 + 1)] }, gens := s2.gens.push (.fresh (.compStart (.GeneratorExp elt [⟨tg, iter, ifs, 0⟩] scope gpos) 0 (.ref it) .none (genEnv scope (cloFrom X.env.cells scope.names []) h3.objs.size code builtinsNs X.env))), toks := tk + 1 + 1 + 1 } :=
      gen_start (s := { s2 with heap := h3, toks := tk }) I4 ok hN fk hA0h (hA0f.trans I2.ok.frames) (hn'.push _) keep5 (I2.bare.push rfl)
    have ano : ∀ b, b < h3.objs.size → h'.objs.size ≠ b := fun b hb => by rw [hszh]; omega
    refine hQ it h'.objs.size fp tn J _ { s2 with heap := h3, toks := tk } _ code s2.gens.size _ ⟨I4, IY.pins_of fun p hp => ?_, T, ?_, fk, ?_, ?_, ?_, Array.getElem?_push_size .., hat⟩ (q _ hT4)
    · rw [List.mem_singleton.mp hp]
      refine ⟨hat, I4.hok.fresh (by show h3.objs.size ≤ h'.objs.size; omega), ?_, fun hb => ?_, fun v z => by cases z⟩
      · show h'.objs.size ≠ h3.objs.size
        omega
      · obtain ⟨_, o, ho, _⟩ := (I4.stack).mem hb
        exact ano _ (Heap.lt_size ho) rfl
    · exact T.keep _ _ _ st2 fun b hb o e => keep5 b o (keep3 b o (fnP b hb) e)
    · show h3.objs.size < h'.objs.size
      omega
    · show (h'.push _).objs.size = h'.objs.size + 1
      rw [Heap.size_push]
    · intro h hh
      exact ⟨_, _, _, hh, rfl, rfl, rfl⟩
  refine ⟨I2.nolimit, ?_⟩
  cases hf : codeAmong gpos ps.toList with
  | none =>
    refine wpAny_genexprCodeX hcode (cd.code hPs ht) (cd.tab hPs) hf fun c' h' tk hx hge hlt hco' _ htab' _ => ?_
    obtain ⟨o1, vs, f1, tf, fl, tg', inF, tx, tt, op, _, _, _, _, _, _, _, _, _, htr, _⟩ := hco'
    exact cont _ h' tk _ hx (Nat.le_trans hge (Nat.le_of_lt hlt)) htab'.2 ⟨_, rfl⟩ htr
  | some cv =>
    refine wpAny_genexprCode_hit hcode (cd.code hPs ht) hf ?_
    exact cont cv s2.heap s2.toks ps (Heap.ExtBut.refl _ _) (Nat.le_refl _) hPs ⟨#[], by simp⟩ ht
end
end GX
set_option Elab.async false
set_option linter.all false
set_option maxRecDepth 100000
set_option maxHeartbeats 4000000
namespace GX
open PySem PySem.Spec PyProof.Rows L2 GenW

theorem over_comp {A : Around} {elt : Expr} {gs : List Comprehension} {scope : Scope} {pos : Pos} {it acc : Value} {env : Env} : A.over (.compLoop (.GeneratorExp elt gs scope pos) 0 it acc env) [] = A.deeper env := by
  first
    | rfl
    | (obtain ⟨hd, d, fr, gs, u⟩ := A; simp [Around.over, Around.deeper, marksOver, frameCount, unitsOf, envsOf, guardsOf, pushEnvs, pushGuards, Code.envs, Code.env?, Code.isFrame, Code.guards, Code.isGuard, Code.weight, Code.frames, Code.isCreation, Code.isCaller, Code.cUnits])

section
variable {X : Cx} {pins : List (Addr × Obj)} {σ : L2.St} {A0 : Around} {elt tg iter : Expr} {ifs : List Expr} {scope : Scope} {gpos : Pos} {own : List (Str × Nat)} {it a : Addr} {fp : List Addr} {tn : Nat → Heap → Prop} {J : It} {H4 : Hp} {s4 s5 : Shared} {code : Value} {g : Nat} {go : Obj}
/-- behind it: the outer frame again -/
theorem Made.back (M : Made X pins σ A0 elt tg iter ifs scope gpos own it a fp tn J H4 s4 s5 code g go) {pl : List (Addr × Obj)} {σ' : L2.St} {H' : Hp} {s' : Shared} (I : Inv (gcx X A0 s4 H4 scope code fp) pl σ' H' s') : Inv X pins σ H' s' := by
  have os : s'.os = s4.os := I.os
  have un : Un (frs X.stack) fp H4 H' s4.heap s'.heap := I.base
  have hok : HOk X.prog X.w H' s'.heap := I.hok
  have bare := I.bare
  obtain ⟨h', g', d', t', o'⟩ := s'
  obtain rfl : o' = s4.os := os
  exact M.outer.call (h' := h') (g' := g') (d' := d') (t' := t') (ch := fp) un hok bare fun b hb => ⟨(M.fpk b hb).1.2.2.2.1, (M.fpk b hb).1.2.1, (M.fpk b hb).1.2.2.2.2.1, (M.fpk b hb).1.2.2.2.2.2⟩
theorem Made.stat (M : Made X pins σ A0 elt tg iter ifs scope gpos own it a fp tn J H4 s4 s5 code g go) : ∀ b ∈ fp, b ≠ (gcx X A0 s4 H4 scope code fp).env.locals ∧ b ∉ (gcx X A0 s4 H4 scope code fp).fs ∧ (b ∈ (gcx X A0 s4 H4 scope code fp).ex ∨ (gcx X A0 s4 H4 scope code fp).s_0.heap.objs.size ≤ b) ∧ ∀ x c, (gcx X A0 s4 H4 scope code fp).env.cells.lookup x = some c → c ≠ b := fun b hb =>
  ⟨(M.inner.ok.exf b hb).1, M.inner.ok.exfs b hb, .inl hb, fun x c e => (M.inner.ok.exf b hb).2 x c e⟩
/-- the consumer's objects: none, or one that is new -/
theorem Made.apart0 (M : Made X pins σ A0 elt tg iter ifs scope gpos own it a fp tn J H4 s4 s5 code g go) : Aprt (gcx X A0 s4 H4 scope code fp) [] fp a :=
  ⟨fun b hb => (by cases hb), fun b hb => (by cases hb), fun b hb => (by cases hb), fun b hb => (by cases hb), fun b hb => (by cases hb), fun hb => (by cases hb), fun hb =>
    absurd (Nat.lt_trans (M.fpk a hb).2 M.alo) (Nat.lt_irrefl _)⟩
theorem Made.apart1 (M : Made X pins σ A0 elt tg iter ifs scope gpos own it a fp tn J H4 s4 s5 code g go) {S : Addr} (hS : a < S) : Aprt (gcx X A0 s4 H4 scope code fp) [S] fp a := by
  have h1 := M.alo
  have big : ∀ b ∈ [S], s5.heap.objs.size ≤ b := fun b hb => by
    rw [List.mem_singleton.mp hb, M.asz]
    exact hS
  have sz5 : s4.heap.objs.size ≤ s5.heap.objs.size := by rw [M.asz]; omega
  refine ⟨fun b hb => Nat.le_trans sz5 (big b hb), fun b hb => ?_, fun b hb x c e z => ?_, fun b hb => M.inner.nofs (big b hb), fun b hb hb2 => ?_, fun hb => ?_, M.apart0.af⟩
  · exact Nat.ne_of_gt (Nat.lt_of_lt_of_le M.inner.lt (big b hb))
  · obtain ⟨v, q⟩ := M.inner.cell x c e
    have q1 := q.lt
    have q2 := big b hb
    rw [z] at q1
    exact absurd (Nat.lt_of_lt_of_le q1 q2) (Nat.lt_irrefl _)
  · exact absurd (Nat.lt_of_lt_of_le (M.fpk b hb2).2 (Nat.le_trans sz5 (big b hb))) (Nat.lt_irrefl _)
  · exact Nat.ne_of_lt hS (List.mem_singleton.mp hb)
/-- the fresh generator, for a consumer whose objects stand in a later state -/
theorem Made.live (M : Made X pins σ A0 elt tg iter ifs scope gpos own it a fp tn J H4 s4 s5 code g go) {C : Con} {g1 : TG} {tt : TT} {te : TE} {W : Nat → Nat → List V → Hp → Prop} {m : Nat} {s6 : Shared} {pins' : List (Addr × Obj)} (CO : C.Ok) (hB : Aprt (gcx X A0 s4 H4 scope code fp) C.B fp a)
    (co : scope.isCoroutine = false)
    (hg : PG (gcx X A0 s4 H4 scope code fp) tg g1) (ht : PTs (gcx X A0 s4 H4 scope code fp) ifs tt) (he : PE (gcx X A0 s4 H4 scope code fp) elt te) (turns : Turns J g1 tt te (own.map (·.2)) (wipe σ (own.map (·.2))) C W) (w0 : W 0 m [] H4)
    (hHB : ∀ b ∈ C.B, H4 b = none) (z : Slp C.B s5 s6) (hP : C.Pn [] pins') (hp : ∀ p ∈ pins', s6.heap.get? p.1 = some p.2) (hgens : s6.gens = s5.gens) (hl : s6.heap.NoLimit) :
    Live (gcx X A0 s4 H4 scope code fp) C A0 a go (wipe σ (own.map (·.2))) g (m + 1) s6 := by
  have ga6 : s6.heap.get? a = some go := z.keep a go hB.na M.ga
  have z' : Slp C.B s5 (s6.setGen g .running) := ⟨z.os, allBare_setGen z.bare rfl, z.keep⟩
  have I6 : Inv (gcx X A0 s4 H4 scope code fp) ((a, go) :: pins') (wipe σ (own.map (·.2))) H4 (s6.setGen g .running) := woken rfl hB M.inner hHB z' fun p hp' => ⟨(CO.pn _ _ hP p hp').1, hp p hp', (CO.pn _ _ hP p hp').2⟩
  refine ⟨M.gen _ ga6, hl, _, (by rw [hgens]; exact M.gs), ?_⟩
  refine ⟨rfl, ?_⟩
  exact seg_start over_comp rfl (fun _ _ z => z) rfl co CO hB M.stat M.turn hg ht he turns m 0 (m + 1) [] _ _ (Nat.lt_succ_self _)
    ⟨pins', H4, hP, I6, M.turn.keep _ _ _ M.tn0 fun b hb o e => z.keep b o (fun hm => hB.bf b hm hb) e, fun b hb => (M.fpk b hb).1.1, w0⟩
end

/-! ### all, any -/
def conAll (Q : VK) : Con := ⟨[], fun _ pins => pins = [], fun _ y H => ∃ c, y = .bl c ∧ (c = false → Q (.bl false) H), fun _ y => y = .bl true, fun _ H => Q (.bl true) H⟩
def conAny (Q : VK) : Con := ⟨[], fun _ pins => pins = [], fun _ y H => ∃ c, y = .bl c ∧ (c = true → Q (.bl true) H), fun _ y => y = .bl false, fun _ H => Q (.bl false) H⟩
theorem ok_all (Q : VK) : (conAll Q).Ok := ⟨fun _ _ h p hp => (by rw [show _ = [] from h] at hp; cases hp), fun _ _ _ b hb => (by cases hb)⟩
theorem ok_any (Q : VK) : (conAny Q).Ok := ⟨fun _ _ h p hp => (by rw [show _ = [] from h] at hp; cases hp), fun _ _ _ b hb => (by cases hb)⟩
theorem all_loop {Y : Cx} {A : Around} {a : Addr} {go : Obj} {σ0 : L2.St} {g : Nat} {Q : VK} {R : Result → Shared → Prop} (hh : A.handled = none) (hd : A.depth < recursionLimit) (hgo : ∀ h : Heap, h.get? a = some go → h.IsGen a g)
    (hR : ∀ b s' H, Inv Y [(a, go)] σ0 H s' → Q (.bl b) H → R (.ok (.ret (.bool b))) s') : ∀ (n : Nat) (s : Shared), Live Y (conAll Q) A.in1.in1 a go σ0 g n s → codeAny (model Y.prog Y.w) A (.builtin "all.loop" ⟨[.ref a], []⟩) R s := by
  intro n
  induction n with
  | zero =>
    intro s L
    refine codeAny_builtin F.entry_all_loop ?_
    rw [Around.under_plainId F.plain_all_loop _]
    show wpAny _ A.in1 (pyNext (.ref a) >>= _) _ _ s
    refine wpAny_bind (gx_next (A := A.in1) hh hd L hgo (fun ys x v pins H s₁ rv hP I kx kap => ?_) fun ys pins H s₁ hP I fi => ?_)
    · obtain ⟨c, rfl, hc⟩ := kx
      obtain rfl : v = .bool c := rv
      obtain rfl : pins = [] := hP
      refine wpAny_bind (wpAny_holding (wpAny_truthy_bool ?_))
      refine wpAny_bind (wpAny_letGo ?_)
      cases c with
      | true =>
        obtain ⟨k, hk, _⟩ := kap rfl s₁ ⟨rfl, I.bare, fun _ _ _ e => e⟩ ⟨[], rfl, fun p hp => (by cases hp)⟩ (I.pin (a, go) (List.mem_append_right _ List.mem_cons_self)).1 I.nolimit rfl
        cases hk
      | false =>
        simp only [Bool.false_eq_true, if_false]
        exact wpAny_bind (wpAny_rule (wpAny_pure (hR false s₁ H I (hc rfl))))
    · obtain rfl : pins = [] := hP
      exact wpAny_bind (wpAny_rule (wpAny_pure (hR true s₁ H I fi)))
  | succ n ih =>
    intro s L
    refine codeAny_builtin F.entry_all_loop ?_
    rw [Around.under_plainId F.plain_all_loop _]
    show wpAny _ A.in1 (pyNext (.ref a) >>= _) _ _ s
    refine wpAny_bind (gx_next (A := A.in1) hh hd L hgo (fun ys x v pins H s₁ rv hP I kx kap => ?_) fun ys pins H s₁ hP I fi => ?_)
    · obtain ⟨c, rfl, hc⟩ := kx
      obtain rfl : v = .bool c := rv
      obtain rfl : pins = [] := hP
      refine wpAny_bind (wpAny_holding (wpAny_truthy_bool ?_))
      refine wpAny_bind (wpAny_letGo ?_)
      cases c with
      | true =>
        obtain ⟨k, hk, L'⟩ := kap rfl s₁ ⟨rfl, I.bare, fun _ _ _ e => e⟩ ⟨[], rfl, fun p hp => (by cases hp)⟩ (I.pin (a, go) (List.mem_append_right _ List.mem_cons_self)).1 I.nolimit rfl
        cases hk
        simp only [if_true]
        exact wpAny_pure ⟨plainId_quiet F.plain_all_loop _, ih s₁ L'⟩
      | false =>
        simp only [Bool.false_eq_true, if_false]
        exact wpAny_bind (wpAny_rule (wpAny_pure (hR false s₁ H I (hc rfl))))
    · obtain rfl : pins = [] := hP
      exact wpAny_bind (wpAny_rule (wpAny_pure (hR true s₁ H I fi)))
theorem any_loop {Y : Cx} {A : Around} {a : Addr} {go : Obj} {σ0 : L2.St} {g : Nat} {Q : VK} {R : Result → Shared → Prop} (hh : A.handled = none) (hd : A.depth < recursionLimit) (hgo : ∀ h : Heap, h.get? a = some go → h.IsGen a g)
    (hR : ∀ b s' H, Inv Y [(a, go)] σ0 H s' → Q (.bl b) H → R (.ok (.ret (.bool b))) s') : ∀ (n : Nat) (s : Shared), Live Y (conAny Q) A.in1.in1 a go σ0 g n s → codeAny (model Y.prog Y.w) A (.builtin "any.loop" ⟨[.ref a], []⟩) R s := by
  intro n
  induction n with
  | zero =>
    intro s L
    refine codeAny_builtin F.entry_any_loop ?_
    rw [Around.under_plainId F.plain_any_loop _]
    show wpAny _ A.in1 (pyNext (.ref a) >>= _) _ _ s
    refine wpAny_bind (gx_next (A := A.in1) hh hd L hgo (fun ys x v pins H s₁ rv hP I kx kap => ?_) fun ys pins H s₁ hP I fi => ?_)
    · obtain ⟨c, rfl, hc⟩ := kx
      obtain rfl : v = .bool c := rv
      obtain rfl : pins = [] := hP
      refine wpAny_bind (wpAny_holding (wpAny_truthy_bool ?_))
      refine wpAny_bind (wpAny_letGo ?_)
      cases c with
      | false =>
        obtain ⟨k, hk, _⟩ := kap rfl s₁ ⟨rfl, I.bare, fun _ _ _ e => e⟩ ⟨[], rfl, fun p hp => (by cases hp)⟩ (I.pin (a, go) (List.mem_append_right _ List.mem_cons_self)).1 I.nolimit rfl
        cases hk
      | true =>
        simp only [if_true]
        exact wpAny_bind (wpAny_rule (wpAny_pure (hR true s₁ H I (hc rfl))))
    · obtain rfl : pins = [] := hP
      exact wpAny_bind (wpAny_rule (wpAny_pure (hR false s₁ H I fi)))
  | succ n ih =>
    intro s L
    refine codeAny_builtin F.entry_any_loop ?_
    rw [Around.under_plainId F.plain_any_loop _]
    show wpAny _ A.in1 (pyNext (.ref a) >>= _) _ _ s
    refine wpAny_bind (gx_next (A := A.in1) hh hd L hgo (fun ys x v pins H s₁ rv hP I kx kap => ?_) fun ys pins H s₁ hP I fi => ?_)
    · obtain ⟨c, rfl, hc⟩ := kx
      obtain rfl : v = .bool c := rv
      obtain rfl : pins = [] := hP
      refine wpAny_bind (wpAny_holding (wpAny_truthy_bool ?_))
      refine wpAny_bind (wpAny_letGo ?_)
      cases c with
      | false =>
        obtain ⟨k, hk, L'⟩ := kap rfl s₁ ⟨rfl, I.bare, fun _ _ _ e => e⟩ ⟨[], rfl, fun p hp => (by cases hp)⟩ (I.pin (a, go) (List.mem_append_right _ List.mem_cons_self)).1 I.nolimit rfl
        cases hk
        simp only [Bool.false_eq_true, if_false]
        exact wpAny_pure ⟨plainId_quiet F.plain_any_loop _, ih s₁ L'⟩
      | true =>
        simp only [if_true]
        exact wpAny_bind (wpAny_rule (wpAny_pure (hR true s₁ H I (hc rfl))))
    · obtain rfl : pins = [] := hP
      exact wpAny_bind (wpAny_rule (wpAny_pure (hR false s₁ H I fi)))

/-- all(elt for tg in iter if ..) -/
def tAllG (P : Addr) (wi : TI) (g : TG) (tt : TT) (te : TE) (vs : List Nat) : TE := fun σ H Q => wi σ H fun J H1 => GxR.TabG H1 P ∧ ∀ H2, GxR.Tabbed P H1 H2 → ∃ W : Nat → Nat → List V → Hp → Prop, (∃ m, W 0 m [] H2) ∧ Turns J g tt te vs (wipe σ vs) (conAll Q) W
def tAnyG (P : Addr) (wi : TI) (g : TG) (tt : TT) (te : TE) (vs : List Nat) : TE := fun σ H Q => wi σ H fun J H1 => GxR.TabG H1 P ∧ ∀ H2, GxR.Tabbed P H1 H2 → ∃ W : Nat → Nat → List V → Hp → Prop, (∃ m, W 0 m [] H2) ∧ Turns J g tt te vs (wipe σ vs) (conAny Q) W
section
variable {X : Cx} {c P : Addr} {elt tg iter : Expr} {ifs : List Expr} {p pos gpos : Pos} {scope : Scope} {own : List (Str × Nat)} {wi : TI} {g : TG} {tt : TT} {te : TE} {k : Nat}
theorem pe_allG (hr : Room k X.A) (hgl : Gl X "all") (hm : X.mg "all" = none) (TB : GxR.TabB X.base X.mg c P) (hcode : X.env.code = .ref c) (ok : GxOk X.N X.env.scope scope own) (hN : X.N.Nodup) (hi : PI X tg iter wi)
    (hg : ∀ (s : Shared) (H : Hp) (code : Value) (fp : List Addr), PG (gcx X X.A.in1.in1 s H scope code fp) tg g) (ht : ∀ (s : Shared) (H : Hp) (code : Value) (fp : List Addr), PTs (gcx X X.A.in1.in1 s H scope code fp) ifs tt)
    (hel : ∀ (s : Shared) (H : Hp) (code : Value) (fp : List Addr), PE (gcx X X.A.in1.in1 s H scope code fp) elt te) (hs : ∀ v, genFold iter X.env v = pure v := by intro _; rfl)
    (he : starEach [.GeneratorExp elt [⟨tg, iter, ifs, 0⟩] scope gpos] X.env = (false, eval (.GeneratorExp elt [⟨tg, iter, ifs, 0⟩] scope gpos) X.env) :: starEach [] X.env := by rfl) :
    PE X (.Call (.Name "all" p) [.GeneratorExp elt [⟨tg, iter, ifs, 0⟩] scope gpos] [] pos) (tAllG P wi g tt te (own.map (·.2))) := by
  refine ⟨fun pins s σ H Q I h => ?_⟩
  refine wpAny_Call_Name_kw (ld_blt I hgl hm (show bootBuiltins "all" = some (.builtin "all") by decide +kernel) ?_)
  refine PyProof.Rows.callWith_builtin1 ?_ he (by rfl)
  rw [he]
  show wpAny _ _ (spliced ((false, eval (.GeneratorExp elt [⟨tg, iter, ifs, 0⟩] scope gpos) X.env) :: backTo pos (starEach [] X.env))) _ _ s
  refine Calls.spliced_cons (gx_make (A0 := X.A.in1.in1) (own := own) (R := fun J H2 => ∃ W : Nat → Nat → List V → Hp → Prop, (∃ m, W 0 m [] H2) ∧ Turns J g tt te (own.map (fun q : Str × Nat => q.2)) (wipe σ (own.map (fun q : Str × Nat => q.2))) (conAll Q) W) hr.hd rfl hr TB hcode ok hN hi hs I h fun it a fp tn J H4 s4 s5 code gn go M q => ?_)
  obtain ⟨W, ⟨m, w0⟩, turns⟩ := q
  refine Calls.spliced_nil ?_
  have L : Live (gcx X X.A.in1.in1 s4 H4 scope code fp) (conAll Q) X.A.in1.in1 a go (wipe σ (own.map (·.2))) gn (m + 1) s5 :=
    M.live (s6 := s5) (pins' := []) (ok_all Q) M.apart0 ok.co (hg s4 H4 code fp) (ht s4 H4 code fp) (hel s4 H4 code fp) turns w0 (fun b hb => (by cases hb)) ⟨rfl, M.inner.bare, fun _ _ _ e => e⟩ rfl (fun p hp => (by cases hp)) rfl M.inner.nolimit
  refine call_function_tree F.kind_all F.plain_all F.entry_all (F.args_all1 _) ?_
  unfold Builtin.«all»
  refine wpAny_bind (m := oneArg "all" _) (wpAny_pure ?_)
  refine wpAny_bind (wpAny_pyIter_gen (M.gen _ M.ga) ?_)
  refine wpAny_pure ⟨plainId_quiet F.plain_all_loop _, all_loop (Y := gcx X X.A.in1.in1 s4 H4 scope code fp) hr.hd hr.depth M.gen (fun b s' H' I' q' => ?_) (m + 1) s5 L⟩
  exact ⟨.bl b, H', M.back I', rfl, q'⟩
theorem pe_anyG (hr : Room k X.A) (hgl : Gl X "any") (hm : X.mg "any" = none) (TB : GxR.TabB X.base X.mg c P) (hcode : X.env.code = .ref c) (ok : GxOk X.N X.env.scope scope own) (hN : X.N.Nodup) (hi : PI X tg iter wi)
    (hg : ∀ (s : Shared) (H : Hp) (code : Value) (fp : List Addr), PG (gcx X X.A.in1.in1 s H scope code fp) tg g) (ht : ∀ (s : Shared) (H : Hp) (code : Value) (fp : List Addr), PTs (gcx X X.A.in1.in1 s H scope code fp) ifs tt)
    (hel : ∀ (s : Shared) (H : Hp) (code : Value) (fp : List Addr), PE (gcx X X.A.in1.in1 s H scope code fp) elt te) (hs : ∀ v, genFold iter X.env v = pure v := by intro _; rfl)
    (he : starEach [.GeneratorExp elt [⟨tg, iter, ifs, 0⟩] scope gpos] X.env = (false, eval (.GeneratorExp elt [⟨tg, iter, ifs, 0⟩] scope gpos) X.env) :: starEach [] X.env := by rfl) :
    PE X (.Call (.Name "any" p) [.GeneratorExp elt [⟨tg, iter, ifs, 0⟩] scope gpos] [] pos) (tAnyG P wi g tt te (own.map (·.2))) := by
  refine ⟨fun pins s σ H Q I h => ?_⟩
  refine wpAny_Call_Name_kw (ld_blt I hgl hm boot_any ?_)
  refine PyProof.Rows.callWith_builtin1 ?_ he (by rfl)
  rw [he]
  show wpAny _ _ (spliced ((false, eval (.GeneratorExp elt [⟨tg, iter, ifs, 0⟩] scope gpos) X.env) :: backTo pos (starEach [] X.env))) _ _ s
  refine Calls.spliced_cons (gx_make (A0 := X.A.in1.in1) (own := own) (R := fun J H2 => ∃ W : Nat → Nat → List V → Hp → Prop, (∃ m, W 0 m [] H2) ∧ Turns J g tt te (own.map (fun q : Str × Nat => q.2)) (wipe σ (own.map (fun q : Str × Nat => q.2))) (conAny Q) W) hr.hd rfl hr TB hcode ok hN hi hs I h fun it a fp tn J H4 s4 s5 code gn go M q => ?_)
  obtain ⟨W, ⟨m, w0⟩, turns⟩ := q
  refine Calls.spliced_nil ?_
  have L : Live (gcx X X.A.in1.in1 s4 H4 scope code fp) (conAny Q) X.A.in1.in1 a go (wipe σ (own.map (·.2))) gn (m + 1) s5 :=
    M.live (s6 := s5) (pins' := []) (ok_any Q) M.apart0 ok.co (hg s4 H4 code fp) (ht s4 H4 code fp) (hel s4 H4 code fp) turns w0 (fun b hb => (by cases hb)) ⟨rfl, M.inner.bare, fun _ _ _ e => e⟩ rfl (fun p hp => (by cases hp)) rfl M.inner.nolimit
  refine call_function_tree F.kind_any F.plain_any F.entry_any (F.args_any1 _) ?_
  unfold Builtin.«any»
  refine wpAny_bind (m := oneArg "any" _) (wpAny_pure ?_)
  refine wpAny_bind (wpAny_pyIter_gen (M.gen _ M.ga) ?_)
  refine wpAny_pure ⟨plainId_quiet F.plain_any_loop _, any_loop (Y := gcx X X.A.in1.in1 s4 H4 scope code fp) hr.hd hr.depth M.gen (fun b s' H' I' q' => ?_) (m + 1) s5 L⟩
  exact ⟨.bl b, H', M.back I', rfl, q'⟩
end
end GX
set_option Elab.async false
set_option linter.all false
set_option maxRecDepth 100000
set_option maxHeartbeats 4000000
namespace GX
open PySem PySem.Spec PyProof.Rows L2 GenW

/-! ### tuple -/
def conTup0 (Q : VK) : Con := ⟨[], fun _ pins => pins = [], fun ys _ _ => ys.length < sizeLine, fun _ _ => True, fun ys H => ys.length ≤ sizeLine ∧ ∀ p, H p = none → Q (.ref p) (upd H p (.tup ys))⟩
def conTup (Q : VK) (S : Addr) : Con := ⟨[S], fun ys pins => ∃ acc c, Vals ys acc.toList ∧ pins = [(S, lstObj acc c)], fun ys _ _ => ys.length < sizeLine, fun _ _ => True, fun ys H => ys.length ≤ sizeLine ∧ ∀ p, H p = none → Q (.ref p) (upd H p (.tup ys))⟩
theorem ok_tup (Q : VK) (S : Addr) : (conTup Q S).Ok := by
  refine ⟨fun ys pins ⟨acc, c, _, e⟩ p hp => ?_, fun ys pins ⟨acc, c, _, e⟩ b hb => ?_⟩
  · subst e
    rw [List.mem_singleton.mp hp]
    exact ⟨List.mem_singleton.mpr rfl, fun v z => by cases z⟩
  · subst e
    rw [List.mem_singleton.mp hb]
    exact ⟨_, List.mem_singleton.mpr rfl⟩
theorem tup_loop {Y : Cx} {A : Around} {a S : Addr} {go : Obj} {σ0 : L2.St} {g : Nat} {Q : VK} {R : Result → Shared → Prop} {res : Value} (hh : A.handled = none) (hd : A.depth < recursionLimit) (hgo : ∀ h : Heap, h.get? a = some go → h.IsGen a g) (hSa : S ≠ a) (hSc : S ≠ cStatics)
    (hR : ∀ ys acc c s' H, Vals ys acc.toList → Inv Y [(a, go), (S, lstObj acc c)] σ0 H s' → ys.length ≤ sizeLine → (∀ p, H p = none → Q (.ref p) (upd H p (.tup ys))) → R (.ok (.ret res)) s') :
    ∀ (n : Nat) (s : Shared), Live Y (conTup Q S) A.in1.in1 a go σ0 g n s → codeAny (model Y.prog Y.w) A (.builtin "list.extend.loop" ⟨[.ref S, .ref a, res], []⟩) R s := by
  intro n
  induction n with
  | zero =>
    intro s L
    refine codeAny_builtin F.entry_extend_loop ?_
    rw [Around.under_plainId F.plain_extend_loop _]
    show wpAny _ A.in1 (pyNext (.ref a) >>= _) _ _ s
    refine wpAny_bind (gx_next (A := A.in1) hh hd L hgo (fun ys x v pins H s₁ rv hP I kx kap => ?_) fun ys pins H s₁ hP I fi => ?_)
    · obtain ⟨acc, c, hv, rfl⟩ := hP
      have hS1 : s₁.heap.get? S = some (lstObj acc c) := (I.pin (S, lstObj acc c) (List.mem_append_right _ (List.mem_cons_of_mem _ List.mem_cons_self))).1
      have ga : s₁.heap.get? a = some go := (I.pin (a, go) (List.mem_append_right _ List.mem_cons_self)).1
      have keep3 : ∀ b o, b ≠ S → s₁.heap.get? b = some o → (s₁.heap.update S (Obj.mapSeq (·.push v))).get? b = some o := fun b o hbS e => (Heap.get?_update_other _ _ (Ne.symm hbS)).trans e
      obtain ⟨k, hk, _⟩ := kap trivial { s₁ with heap := s₁.heap.update S (Obj.mapSeq (·.push v)) } ⟨rfl, I.bare, fun b o hb e => keep3 b o (fun z => hb (by rw [z]; exact List.mem_singleton.mpr rfl)) e⟩
        ⟨_, ⟨acc.push v, _, by rw [Array.toList_push]; exact hv.append (.cons rv .nil), rfl⟩, fun p hp => by rw [List.mem_singleton.mp hp]; exact Heap.get?_update_self _ hS1 rfl⟩ (keep3 a go (Ne.symm hSa) ga)
        (let ⟨mc, hns, hnn⟩ := I.nolimit; ⟨mc, hns.at' fun o e => keep3 _ o (Ne.symm hSc) e, hnn⟩) rfl
      cases hk
    · obtain ⟨acc, c, hv, rfl⟩ := hP
      exact wpAny_pure (hR ys acc c s₁ H hv I fi.1 fi.2)
  | succ n ih =>
    intro s L
    refine codeAny_builtin F.entry_extend_loop ?_
    rw [Around.under_plainId F.plain_extend_loop _]
    show wpAny _ A.in1 (pyNext (.ref a) >>= _) _ _ s
    refine wpAny_bind (gx_next (A := A.in1) hh hd L hgo (fun ys x v pins H s₁ rv hP I kx kap => ?_) fun ys pins H s₁ hP I fi => ?_)
    · obtain ⟨acc, c, hv, rfl⟩ := hP
      have hS1 : s₁.heap.get? S = some (lstObj acc c) := (I.pin (S, lstObj acc c) (List.mem_append_right _ (List.mem_cons_of_mem _ List.mem_cons_self))).1
      have ga : s₁.heap.get? a = some go := (I.pin (a, go) (List.mem_append_right _ List.mem_cons_self)).1
      have keep3 : ∀ b o, b ≠ S → s₁.heap.get? b = some o → (s₁.heap.update S (Obj.mapSeq (·.push v))).get? b = some o := fun b o hbS e => (Heap.get?_update_other _ _ (Ne.symm hbS)).trans e
      have hl : acc.size < sizeLine := by
        have q1 : ys.length = acc.toList.length := hv.length
        have q2 : ys.length < sizeLine := kx
        have q3 : acc.toList.length = acc.size := Array.length_toList ..
        exact Nat.lt_of_le_of_lt (Nat.le_of_eq (q3.symm.trans q1.symm)) q2
      obtain ⟨k, hk, L'⟩ := kap trivial { s₁ with heap := s₁.heap.update S (Obj.mapSeq (·.push v)) } ⟨rfl, I.bare, fun b o hb e => keep3 b o (fun z => hb (by rw [z]; exact List.mem_singleton.mpr rfl)) e⟩
        ⟨_, ⟨acc.push v, _, by rw [Array.toList_push]; exact hv.append (.cons rv .nil), rfl⟩, fun p hp => by rw [List.mem_singleton.mp hp]; exact Heap.get?_update_self _ hS1 rfl⟩ (keep3 a go (Ne.symm hSa) ga)
        (let ⟨mc, hns, hnn⟩ := I.nolimit; ⟨mc, hns.at' fun o e => keep3 _ o (Ne.symm hSc) e, hnn⟩) rfl
      cases hk
      show wpAny _ A.in1 (updateSeq S (·.push v) >>= _) _ _ _
      refine wpAny_bind ?_
      exact wpAny_updateSeq hS1 rfl (wpAny_pure ⟨plainId_quiet F.plain_extend_loop _, ih _ L'⟩) (Nat.le_of_lt hl) (by show (acc.push v).size ≤ sizeLine + 1; rw [Array.size_push]; omega)
    · obtain ⟨acc, c, hv, rfl⟩ := hP
      exact wpAny_pure (hR ys acc c s₁ H hv I fi.1 fi.2)

section
variable {X : Cx} {pins : List (Addr × Obj)} {σ : L2.St} {A : Around} {elt tg iter : Expr} {ifs : List Expr} {scope : Scope} {gpos : Pos} {own : List (Str × Nat)} {it a : Addr} {fp : List Addr} {tn : Nat → Heap → Prop} {J : It} {H4 : Hp} {s4 s5 : Shared} {code : Value} {g : Nat} {go : Obj}
theorem collect_gx {g1 : TG} {tt : TT} {te : TE} {W : Nat → Nat → List V → Hp → Prop} {m : Nat} {Q : VK} {Q' : List Value → Shared → Prop} {E : Value → Shared → Prop} (hh : A.handled = none) (hd : A.depth < recursionLimit)
    (M : Made X pins σ A.in1.in1 elt tg iter ifs scope gpos own it a fp tn J H4 s4 s5 code g go) (co : scope.isCoroutine = false)
    (hg : PG (gcx X A.in1.in1 s4 H4 scope code fp) tg g1) (ht : PTs (gcx X A.in1.in1 s4 H4 scope code fp) ifs tt) (he : PE (gcx X A.in1.in1 s4 H4 scope code fp) elt te) (turns : Turns J g1 tt te (own.map (·.2)) (wipe σ (own.map (·.2))) (conTup0 Q) W) (w0 : W 0 m [] H4)
    (hQ : ∀ (ys : List V) (acc : Array Value) (s' : Shared) (H' : Hp), Vals ys acc.toList → Inv X pins σ H' s' → ys.length ≤ sizeLine → (∀ p, H' p = none → Q (.ref p) (upd H' p (.tup ys))) → Q' acc.toList s') :
    wpAny (model X.prog X.w) A (collect (.ref a)) Q' E s5 := by
  have hSa : s5.heap.objs.size ≠ a := by rw [M.asz]; exact Nat.succ_ne_self _
  have haS : a < s5.heap.objs.size := by rw [M.asz]; exact Nat.lt_succ_self _
  have hl5 : s5.heap.NoLimit := M.inner.nolimit
  have hcl : cStatics < s5.heap.objs.size := let ⟨_, hn, _⟩ := hl5; hn.lt
  unfold collect
  refine wpAny_bind (wpAny_runValue (codeAny_builtin F.entry_proto_collect ?_))
  rw [Around.under_plainId F.plain_proto_collect _]
  show wpAny _ A.in1 (newList [] >>= fun l => again (.builtin "list.__iadd__" ⟨[l, .ref a], []⟩)) _ _ s5
  refine wpAny_bind (wpAny_newObj_type ?_)
  refine wpAny_pure ⟨plainId_quiet F.plain_list_iadd _, codeAny_builtin F.entry_list_iadd ?_⟩
  rw [Around.under_plainId F.plain_list_iadd _]
  have k1 : ∀ b o, s5.heap.get? b = some o → (s5.heap.push { cls := .type "list", data := .seq ([] : List Value).toArray }).get? b = some o := fun b o e => Heap.get?_push_of_some _ e
  have gen1 := M.gen _ (k1 _ _ M.ga)
  show wpAny _ A.in1 (Builtin.List.listExtendWith (.ref s5.heap.objs.size) (.ref a) (.ref s5.heap.objs.size)) _ _ _
  unfold Builtin.List.listExtendWith
  refine wpAny_bind (wpAny_typeOf (Heap.IsGen.typeIs (s := { s5 with heap := _ }) gen1) ?_)
  have h1 : Builtin.List.listSameRef (.ref s5.heap.objs.size) (.ref a) = false := by simp [Builtin.List.listSameRef, hSa]
  have h2 : (Value.type "generator" == Value.type "list") = false := by decide
  have h3 : (Value.type "generator" == Value.type "tuple") = false := by decide
  simp only [h1, h2, h3, Bool.or_false, Bool.false_eq_true, if_false]
  refine wpAny_bind (wpAny_pyIter_gen (s := { s5 with heap := _ }) gen1 ?_)
  refine wpAny_bind (wpAny_holding ?_)
  unfold Builtin.List.listLengthHint
  refine wpAny_bind (wpAny_specialOf (Heap.IsGen.typeIs (s := { s5 with heap := _ }) gen1) F.gen_no_len ?_)
  show wpAny _ A.in1 (specialOf (Value.ref a) (Str.ofString "__length_hint__") >>= _) _ _ _
  refine wpAny_bind (wpAny_specialOf (Heap.IsGen.typeIs (s := { s5 with heap := _ }) gen1) F.gen_no_hint ?_)
  refine wpAny_pure ?_
  show wpAny _ A.in1 (rule "list.extend.makes-room" >>= fun _ => Builtin.List.listTouch (.ref s5.heap.objs.size) >>= fun _ =>
    again (.builtin "list.extend.loop" ⟨[.ref s5.heap.objs.size, .ref a, .ref s5.heap.objs.size], []⟩)) _ _ _
  refine wpAny_bind (wpAny_rule ?_)
  have hS1 : (s5.heap.push { cls := .type "list", data := .seq ([] : List Value).toArray }).get? s5.heap.objs.size = some { cls := .type "list", data := .seq ([] : List Value).toArray } := Heap.get?_push_size _ rfl
  refine wpAny_bind ?_
  show wpAny _ A.in1 (updateSeq s5.heap.objs.size (·.push .none) >>= fun _ => updateSeq s5.heap.objs.size (·.pop)) _ _ _
  refine wpAny_bind (wpAny_updateSeq hS1 rfl ?_)
  have hS2 := Heap.get?_update_self (Obj.mapSeq (·.push Value.none)) hS1 rfl
  refine wpAny_updateSeq hS2 rfl ?_
  have hS3 := Heap.get?_update_self (Obj.mapSeq (·.pop)) hS2 rfl
  have oth : ∀ b o, b ≠ s5.heap.objs.size → s5.heap.get? b = some o →
      (((s5.heap.push { cls := .type "list", data := .seq ([] : List Value).toArray }).update s5.heap.objs.size (Obj.mapSeq (·.push Value.none))).update s5.heap.objs.size (Obj.mapSeq (·.pop))).get? b = some o :=
    fun b o hb e => (Heap.get?_update_other _ _ (Ne.symm hb)).trans ((Heap.get?_update_other _ _ (Ne.symm hb)).trans (k1 b o e))
  have z : Slp (conTup Q s5.heap.objs.size).B s5 { s5 with heap := ((s5.heap.push { cls := .type "list", data := .seq ([] : List Value).toArray }).update s5.heap.objs.size (Obj.mapSeq (·.push Value.none))).update s5.heap.objs.size (Obj.mapSeq (·.pop)) } :=
    ⟨rfl, M.inner.bare, fun b o hb e => oth b o (fun q => hb (by rw [q]; exact List.mem_singleton.mpr rfl)) e⟩
  have L := M.live (C := conTup Q s5.heap.objs.size) (ok_tup Q _) (M.apart1 haS) co hg ht he turns w0 (fun b hb => by rw [List.mem_singleton.mp hb]; exact M.inner.hok.fresh (Nat.le_refl _)) z
    (pins' := [(s5.heap.objs.size, lstObj #[] _)]) ⟨#[], _, .nil, rfl⟩ (fun p hp => by rw [List.mem_singleton.mp hp]; exact hS3) rfl
    (let ⟨mc, hns, hnn⟩ := hl5; ⟨mc, hns.at' fun o e => oth _ o (Nat.ne_of_lt hcl) e, hnn⟩)
  refine wpAny_pure ⟨plainId_quiet F.plain_extend_loop _, tup_loop (Y := gcx X A.in1.in1 s4 H4 scope code fp) hh hd M.gen hSa (Nat.ne_of_gt hcl) (fun ys acc c s' H' hv I' hle q => ?_) (m + 1) _ L⟩
  have hS' : s'.heap.get? s5.heap.objs.size = some (lstObj acc c) := (I'.pin (s5.heap.objs.size, lstObj acc c) (List.mem_append_right _ (List.mem_cons_of_mem _ List.mem_cons_self))).1
  show wpAny _ A (load s5.heap.objs.size >>= _) _ _ s'
  refine wpAny_bind (wpAny_load hS' ?_)
  exact wpAny_pure (hQ ys acc s' H' hv (M.back I') hle q)
theorem call_tuple_gx {g1 : TG} {tt : TT} {te : TE} {W : Nat → Nat → List V → Hp → Prop} {m : Nat} {Q : VK} {E : Value → Shared → Prop} (hh : A.handled = none) (hd : A.depth < recursionLimit)
    (M : Made X pins σ A.in4 elt tg iter ifs scope gpos own it a fp tn J H4 s4 s5 code g go) (co : scope.isCoroutine = false)
    (hg : PG (gcx X A.in4 s4 H4 scope code fp) tg g1) (ht : PTs (gcx X A.in4 s4 H4 scope code fp) ifs tt) (he : PE (gcx X A.in4 s4 H4 scope code fp) elt te) (turns : Turns J g1 tt te (own.map (·.2)) (wipe σ (own.map (·.2))) (conTup0 Q) W) (w0 : W 0 m [] H4) :
    wpAny (model X.prog X.w) A (call (.type "tuple") [.ref a]) (EP X pins σ Q) E s5 := by
  have new : codeAny (model X.prog X.w) A.in1 (.call (.builtin "tuple.__new__") ⟨[.type "tuple", .ref a], []⟩) (wants (fun obj s₁ => s₁.TypeIs obj "tuple" ∧ EP X pins σ Q obj s₁) E) s5 := by
    refine codeAny_of_tree ?_
    show wpAny _ A.in1.in1 (do checkBuiltinCall "tuple.__new__" ⟨[.type "tuple", .ref a], []⟩; again (.builtin "tuple.__new__" ⟨[.type "tuple", .ref a], []⟩)) _ _ s5
    refine wpAny_bind (wpAny_of_eq (F.newCall_tuple_1 _) (wpAny_pure ⟨plainId_quiet F.plain_tuple_new _, codeAny_builtin F.entry_tuple_new ?_⟩))
    rw [Around.under_plainId F.plain_tuple_new _]
    have hsub := sub_tuple_self
    have hinit := init_tuple_lookup
    have hmh := madeHere_tuple
    have hTI : s5.TypeIs (.ref a) "generator" := Heap.IsGen.typeIs (M.gen _ M.ga)
    wp_walk using wpAny_typeOf hTI, collect_gx (A := A.in1.in1) hh hd M co hg ht he turns w0
    intro ys acc s' H' hv I' hle q
    show wpAny _ _ (Builtin.Tuple.tupleExact acc.toList.toArray >>= fun v => ret v) _ _ _
    unfold Builtin.Tuple.tupleExact
    have hlen := hv.length
    refine wpAny_bind (wpAny_newObj_type ?_ (by show acc.toList.toArray.size ≤ sizeLine; rw [List.size_toArray]; omega))
    refine wpAny_pure ?_
    have hf : H' s'.heap.objs.size = none := I'.hok.fresh (Nat.le_refl _)
    refine ⟨⟨_, Heap.get?_push_size _ rfl, rfl⟩, .ref s'.heap.objs.size, upd H' s'.heap.objs.size (.tup ys), I'.laid (t' := s'.toks) (fun b u e => Heap.get?_push_of_some _ e) (Nat.le_refl _) ?_, rfl, q _ hf⟩
    exact ⟨hle, acc.toList, hv, ⟨_, Heap.get?_push_size _ rfl, rfl, _, rfl⟩⟩
  refine callType_codes (Q₁ := fun obj s₁ => s₁.TypeIs obj "tuple" ∧ EP X pins σ Q obj s₁) F.called_tuple (F.typeCall_tuple_1 _) F.entry_object_init new fun obj s₁ h₁ => ?_
  exact ⟨h₁.1, F.args_object_init_2 obj _, object_init_meets F.called_tuple.init.lookup F.called_tuple.made (by decide) X.prog X.w A.in1 _ s₁ ⟨h₁.1, rfl, h₁.2⟩⟩
end

/-- tuple(elt for tg in iter if ..) -/
def tTupG (P : Addr) (wi : TI) (g : TG) (tt : TT) (te : TE) (vs : List Nat) : TE := fun σ H Q => wi σ H fun J H1 => GxR.TabG H1 P ∧ ∀ H2, GxR.Tabbed P H1 H2 → ∃ W : Nat → Nat → List V → Hp → Prop, (∃ m, W 0 m [] H2) ∧ Turns J g tt te vs (wipe σ vs) (conTup0 Q) W
section
variable {X : Cx} {c P : Addr} {elt tg iter : Expr} {ifs : List Expr} {p pos gpos : Pos} {scope : Scope} {own : List (Str × Nat)} {wi : TI} {g : TG} {tt : TT} {te : TE} {k : Nat}
theorem pe_tupG (hr : Room k X.A) (hgl : Gl X "tuple") (hm : X.mg "tuple" = none) (TB : GxR.TabB X.base X.mg c P) (hcode : X.env.code = .ref c) (ok : GxOk X.N X.env.scope scope own) (hN : X.N.Nodup) (hi : PI X tg iter wi)
    (hg : ∀ (s : Shared) (H : Hp) (code : Value) (fp : List Addr), PG (gcx X X.A.in4 s H scope code fp) tg g) (ht : ∀ (s : Shared) (H : Hp) (code : Value) (fp : List Addr), PTs (gcx X X.A.in4 s H scope code fp) ifs tt)
    (hel : ∀ (s : Shared) (H : Hp) (code : Value) (fp : List Addr), PE (gcx X X.A.in4 s H scope code fp) elt te) (hs : ∀ v, genFold iter X.env v = pure v := by intro _; rfl)
    (he : starEach [.GeneratorExp elt [⟨tg, iter, ifs, 0⟩] scope gpos] X.env = (false, eval (.GeneratorExp elt [⟨tg, iter, ifs, 0⟩] scope gpos) X.env) :: starEach [] X.env := by rfl) :
    PE X (.Call (.Name "tuple" p) [.GeneratorExp elt [⟨tg, iter, ifs, 0⟩] scope gpos] [] pos) (tTupG P wi g tt te (own.map (·.2))) := by
  refine ⟨fun pins s σ H Q I h => ?_⟩
  refine wpAny_Call_Name_kw (ld_blt I hgl hm (show bootBuiltins "tuple" = some (.type "tuple") by decide +kernel) ?_)
  refine PyProof.Rows.callWith_type1 ?_ he (by rfl)
  rw [he]
  show wpAny _ _ (spliced ((false, eval (.GeneratorExp elt [⟨tg, iter, ifs, 0⟩] scope gpos) X.env) :: backTo pos (starEach [] X.env))) _ _ s
  refine Calls.spliced_cons (gx_make (A0 := X.A.in4) (own := own) (R := fun J H2 => ∃ W : Nat → Nat → List V → Hp → Prop, (∃ m, W 0 m [] H2) ∧ Turns J g tt te (own.map (fun q : Str × Nat => q.2)) (wipe σ (own.map (fun q : Str × Nat => q.2))) (conTup0 Q) W) hr.hd rfl hr TB hcode ok hN hi hs I h fun it a fp tn J H4 s4 s5 code gn go M q => ?_)
  obtain ⟨W, ⟨m, w0⟩, turns⟩ := q
  refine Calls.spliced_nil ?_
  exact call_tuple_gx hr.hd hr.depth M ok.co (hg s4 H4 code fp) (ht s4 H4 code fp) (hel s4 H4 code fp) turns w0
end

/-! ### room, scopes, turns -/
theorem Room.gx2 {k : Nat} {X : Cx} (r : Room (k + 1) X.A) {s : Shared} {H : Hp} {scope : Scope} {code : Value} {fp : List Addr} : Room k (gcx X X.A.in1.in1 s H scope code fp).A :=
  ⟨r.hd, by have := r.dp; show X.A.depth + 1 + 3 * k + 5 < _; omega, by have := r.un; show X.A.units + 1 + 1 + 3 + 16 * k + 200 < _; omega⟩
theorem Room.gx4 {k : Nat} {X : Cx} (r : Room (k + 1) X.A) {s : Shared} {H : Hp} {scope : Scope} {code : Value} {fp : List Addr} : Room k (gcx X X.A.in4 s H scope code fp).A :=
  ⟨r.hd, by have := r.dp; show X.A.depth + 1 + 3 * k + 5 < _; omega, by have := r.un; show X.A.units + 1 + 1 + 1 + 1 + 3 + 16 * k + 200 < _; omega⟩
def gxC (N : List Str) (sc scope : Scope) (own : List (Str × Nat)) : Bool :=
  blkC N sc scope own && !scope.isCoroutine && scope.names.all (fun y => match y.2 with | .cell => false | _ => true) && (match scope.names.lookup (".0" : Str) with | some .local => true | _ => false)
theorem gxOk_by {N : List Str} {sc scope : Scope} {own : List (Str × Nat)} (h : gxC N sc scope own = true) : GxOk N sc scope own := by
  unfold gxC at h
  simp only [Bool.and_eq_true] at h
  obtain ⟨⟨⟨h1, h2⟩, h3⟩, h4⟩ := h
  refine ⟨blkOk_by h1, by simpa using h2, fun y hy e => ?_, ?_⟩
  · have q := List.all_eq_true.mp h3 y hy
    rw [e] at q
    cases q
  · split at h4
    · assumption
    · cases h4
/-- the turns over a walk of n: Pv by the turn, what is out, the heap -/
theorem turns_it {J : It} {n : Nat} {G : Hp → Prop} {Yd : Nat → Hp → V → Hp → Prop} (w : Walk J n G Yd) {g : TG} {tt : TT} {te : TE} {vs : List Nat} {σ0 : L2.St} {C : Con} {H : Hp} (Pv : Nat → List V → Hp → Prop) (h0 : Pv 0 [] H) (hG : ∀ i ys H, i ≤ n → Pv i ys H → G H)
    (hs : ∀ i x ys H H', i < n → Pv i ys H → Yd i H x H' → g x σ0 H' fun σ2 H2 => wipe σ2 vs = σ0 ∧ tt σ2 H2 fun b H3 =>
      if b = true then te σ2 H3 fun y H4 => C.Kx ys y H4 ∧ (C.Cn ys y → Pv (i + 1) (ys ++ [y]) H4) else Pv (i + 1) ys H3) (hd : ∀ ys H, Pv n ys H → C.Fi ys H) :
    ∃ W : Nat → Nat → List V → Hp → Prop, (∃ m, W 0 m [] H) ∧ Turns J g tt te vs σ0 C W := by
  refine ⟨fun i m ys H => m = n - i ∧ i ≤ n ∧ Pv i ys H, ⟨n, by simp, Nat.zero_le _, h0⟩, ?_⟩
  rintro i m ys H ⟨rfl, hi, p⟩
  have q := hG i ys H hi p
  by_cases hlt : i < n
  · exact .inr ⟨w.goes i H hlt q, Pv (i + 1), fun ys' H' p' => ⟨n - (i + 1), by omega, rfl, hlt, p'⟩, fun x H' y => hs i x ys H H' hlt p (w.yields i H x H' hlt q y)⟩
  · have e : i = n := by omega
    subst e
    exact .inl ⟨w.stops H q, hd ys H p⟩
end GX
set_option Elab.async false
set_option linter.all false
set_option maxRecDepth 100000
set_option maxHeartbeats 4000000
namespace GX
open PySem PySem.Spec PyProof.Rows L2
open C8 (Cal pe_c)

/-! ### a def of the text with its code object -/
structure Dfn (K : PySem.W.Frag) (mg : Str → Option Value) (x : Str) (st : Stmt) (f c : Addr) : Prop where
  ex : ∃ (oc : Value) (od : Option Addr) (kV doc pm : Value) (an : Option Addr) (ct : Value) (osl : Array (Option Value)),
    K.lookup f = some ⟨oc, od, .func (PySem.W.fnOf x x (defArgs st) (defBody st) (defScope st) .none kV doc pm an (.ref c) ct), osl⟩
  hcd : PySem.W.codeIn K (.ref c) x = true
  kp : PySem.W.keepIn K (.ref f) = true
  mgf : mg x = some (.ref f)
section
variable {P : Program} {w : World} {K : PySem.W.Frag} {mg : Str → Option Value} {base : Heap}
theorem cal {x : Str} {st : Stmt} {f c : Addr} {N ps : List Str} {k : Nat} {sp : Sp} (D : Dfn K mg x st f c)
    (hb : ∀ (kV doc pm : Value) (an : Option Addr) (cdv ct : Value) (us : List Value), us.length = ps.length → bindArgs (PySem.W.fnOf x x (defArgs st) (defBody st) (defScope st) .none kV doc pm an cdv ct) ⟨us, []⟩ = pure (ps.zip us))
    (S : FnScope N ps (defScope st)) (len : ∀ vs H Q E, sp vs H Q E → vs.length = ps.length)
    (hbody : ∀ (A : Around) (outer : List Env) (s : Shared) (H : Hp) (vs : List V) (Q : VK) (E : XK), Room k (A.deeper (envOfC x (defScope st) s.heap.objs.size f (.ref c))) → sp vs H Q E →
      ∃ t, PSs (cxOf CX0 P w K mg base N x (defScope st) f (.ref c) A outer s H E).nox (defBody st) t ∧ t { nx := fun _ H' => Q .non H', rt := Q } (start N vs) H) : Cal P w K mg base (k + 1) x sp [] := by
  obtain ⟨oc, od, kV, doc, pm, an, ct, osl, lk⟩ := D.ex
  refine ⟨f, _, ps, [], fn_of lk D.hcd S len (fun A outer s H vs Q E hr hsp => ?_), D.mgf, D.kp, .all (hb kV doc pm an (.ref c) ct), .nil⟩
  obtain ⟨t, h, q⟩ := hbody A outer s H vs Q E hr hsp
  exact ⟨t, h.nox, q⟩
end

section
variable {P : Program} {w : World} {K : PySem.W.Frag} {mg : Str → Option Value} {base : Heap}
/-- .. for the law itself -/
theorem fnok {x : Str} {st : Stmt} {f c : Addr} {N ps : List Str} {k : Nat} {sp : Sp} {oc kV doc pm ct : Value} {od an : Option Addr} {osl : Array (Option Value)}
    (lk : K.lookup f = some ⟨oc, od, .func (PySem.W.fnOf x x (defArgs st) (defBody st) (defScope st) .none kV doc pm an (.ref c) ct), osl⟩) (hcd : PySem.W.codeIn K (.ref c) x = true)
    (S : FnScope N ps (defScope st)) (len : ∀ vs H Q E, sp vs H Q E → vs.length = ps.length)
    (hbody : ∀ (A : Around) (outer : List Env) (s : Shared) (H : Hp) (vs : List V) (Q : VK) (E : XK), Room k (A.deeper (envOfC x (defScope st) s.heap.objs.size f (.ref c))) → sp vs H Q E →
      ∃ t, PSs (cxOf CX0 P w K mg base N x (defScope st) f (.ref c) A outer s H E).nox (defBody st) t ∧ t { nx := fun _ H' => Q .non H', rt := Q } (start N vs) H) :
    FnOk P w K mg base CX0 (k + 1) f (PySem.W.fnOf x x (defArgs st) (defBody st) (defScope st) .none kV doc pm an (.ref c) ct) ps sp := by
  refine fn_of lk hcd S len (fun A outer s H vs Q E hr hsp => ?_)
  obtain ⟨t, h, q⟩ := hbody A outer s H vs Q E hr hsp
  exact ⟨t, h.nox, q⟩
end

/-! ### heaps: all but X stands -/
def Keep (X : List Addr) (H H' : Hp) : Prop := ∀ b o, H b = some o → b ∉ X → H' b = some o
theorem Keep.refl {X : List Addr} {H : Hp} : Keep X H H := fun _ _ e _ => e
theorem Keep.trans {X : List Addr} {H H1 H2 : Hp} (a : Keep X H H1) (b : Keep X H1 H2) : Keep X H H2 := fun c o e n => b c o (a c o e n) n
theorem Keep.mono {X Y : List Addr} {H H' : Hp} (a : Keep X H H') (h : ∀ b ∈ X, b ∈ Y) : Keep Y H H' := fun c o e n => a c o e fun z => n (h c z)
theorem Keep.new {X : List Addr} {H : Hp} {p : Addr} {o : HO} (n : H p = none) : Keep X H (upd H p o) := fun b u e _ => by rw [upd_ne (ne_of_none e n)]; exact e
theorem Keep.put {X : List Addr} {H : Hp} {p : Addr} {o : HO} (h : p ∈ X) : Keep X H (upd H p o) := fun b u e n => by rw [upd_ne (fun z => n (by rw [z]; exact h))]; exact e
/-- the tables of the defs that hold generator expressions -/
def Tabs (Ts : List Addr) (H : Hp) : Prop := ∀ P ∈ Ts, GxR.TabG H P
theorem Tabs.nott {Ts : List Addr} {H : Hp} (t : Tabs Ts H) {b : Addr} {o : HO} (e : H b = some o) (h : ∀ ps, o ≠ .tbl ps) : b ∉ Ts := fun z => by
  obtain ⟨ps, q, _⟩ := t b z
  rw [e] at q
  exact h ps (Option.some.inj q)
theorem Tabs.none {Ts : List Addr} {H : Hp} (t : Tabs Ts H) {b : Addr} (e : H b = none) : b ∉ Ts := fun z => by
  obtain ⟨ps, q, _⟩ := t b z
  rw [e] at q
  cases q
theorem Tabs.tup {Ts : List Addr} {H : Hp} (t : Tabs Ts H) {b : Addr} {xs : List V} (e : H b = some (.tup xs)) : b ∉ Ts := t.nott e fun _ z => by cases z
theorem Tabs.lst {Ts : List Addr} {H : Hp} (t : Tabs Ts H) {b : Addr} {xs : List V} (e : H b = some (.lst xs)) : b ∉ Ts := t.nott e fun _ z => by cases z
theorem Tabs.upd {Ts : List Addr} {H : Hp} (t : Tabs Ts H) {p : Addr} {o : HO} (h : p ∉ Ts) : Tabs Ts (L2.upd H p o) := fun b hb => by
  obtain ⟨ps, q, r⟩ := t b hb
  exact ⟨ps, by rw [upd_ne (fun z => h (by rw [← z]; exact hb))]; exact q, r⟩
/-- behind a generator expression: its table may have grown -/
theorem Tabs.tabbed {Ts : List Addr} {H H' : Hp} {P : Addr} (t : Tabs Ts H) (h : GxR.Tabbed P H H') : Tabs Ts H' := fun b hb => by
  by_cases e : b = P
  · rw [e]; exact h.1
  · obtain ⟨ps, q, r⟩ := t b hb
    exact ⟨ps, by rw [h.2 b e]; exact q, r⟩
theorem Keep.tabbed {X : List Addr} {H H' : Hp} {P : Addr} (hP : P ∈ X) (h : GxR.Tabbed P H H') : Keep X H H' := fun b o e n => by rw [h.2 b (fun z => n (by rw [z]; exact hP))]; exact e
/-- what a def that reads and makes leaves: the tables may have grown -/
structure Aft (Ts : List Addr) (H H' : Hp) : Prop where
  kp : Keep Ts H H'
  tb : Tabs Ts H'
theorem Aft.trans {Ts : List Addr} {H H1 H2 : Hp} (a : Aft Ts H H1) (b : Aft Ts H1 H2) : Aft Ts H H2 := ⟨a.kp.trans b.kp, b.tb⟩
theorem Aft.refl {Ts : List Addr} {H : Hp} (t : Tabs Ts H) : Aft Ts H H := ⟨Keep.refl, t⟩
theorem Aft.new {Ts : List Addr} {H : Hp} {p : Addr} {o : HO} (t : Tabs Ts H) (n : H p = Option.none) : Aft Ts H (L2.upd H p o) := ⟨Keep.new n, t.upd (t.none n)⟩
theorem Aft.tup {Ts : List Addr} {H H' : Hp} (a : Aft Ts H H') (t : Tabs Ts H) {b : Addr} {xs : List V} (e : H b = some (.tup xs)) : H' b = some (.tup xs) := a.kp b _ e (t.tup e)
theorem Aft.lst {Ts : List Addr} {H H' : Hp} (a : Aft Ts H H') (t : Tabs Ts H) {b : Addr} {xs : List V} (e : H b = some (.lst xs)) : H' b = some (.lst xs) := a.kp b _ e (t.lst e)

/-! ### the law's end with the tables of its defs -/
def TabOf (K : PySem.W.Frag) (mg : Str → Option Value) (h : Heap) (x : Str) : Prop := ∀ (fa c P : Addr) (o : Obj) (fd : FuncData) (e : Value) (dd : Option Addr) (vs : Array Value) (sl : Array (Option Value)),
  mg x = some (.ref fa) → K.lookup fa = some o → o.data = .func fd → fd.code = .ref c → K.lookup c = some ⟨e, dd, .fields vs, sl⟩ → vs[11]? = some (.ref P) → h.get? P = some { cls := .none, data := .fields #[] }
theorem walk_defs {l : PySem.W.OpenLaw} {n k : Nat} {q : Program} {loose : List Str} {XP : (Str → Option Value) → Heap → Prop} {YP : World → Heap → Prop} {d : DefRec} {K : Params → PySem.W.Frag} {CX : World → CXT} {x : Str}
    (hn : l.most = some n) (hn2 : n ≤ sizeLine) (hdf : d.params.defaults = []) (hr : Room k callerA) (hY : ∀ (w : World) (h : Heap), YP w h → (K w.params).In h)
    (F : ∀ (w : World) (mg : Str → Option Value) (fa : Addr) (h : Heap), YP w h → (K w.params).In h → h.Ns mainGlobals mg → mg d.name = some (.ref fa) → (∀ y : Str, ((recsOf q).any fun e => e.name == y) = true → TabOf (K w.params) mg h y) → LamX.LawAtS l w (K w.params) (CX w) k n x mg fa h)
    (hCX : ∀ (w : World) (H : Hp) (s : Shared) (e : Value) (s' : Shared), CX w [] H s (fun _ _ _ => False) e s' → False) :
    PySem.W.WalkO q loose XP YP l.row.toRowW d [] (fun f vs => PySem.call f vs) := by
  refine Att.attach_callB hn hdf fun w s₀ s₁ mg mb fa o pm cd doc a vs ns G Y ho hd hcd hmg hobj hints hlen hbits hg => ?_
  have KX := hY w _ Y
  have own : ∀ y : Str, ((recsOf q).any fun e => e.name == y) = true → TabOf (K w.params) mg s₁.heap y := fun y hrec fa c P o1 fd1 e dd vs1 sl k0 k1 k2 k3 k4 k5 => by
    obtain ⟨dL, hm, hn1⟩ := List.any_eq_true.mp hrec
    have hn2 : dL.name = y := beq_iff_eq.mp hn1
    obtain ⟨a', o', fd', c', P', h1, h2, h3, h4, h5, h6⟩ := G.T.tab dL hm
    rw [hn2, k0] at h1
    cases h1
    have g1 := KX _ _ k1
    rw [g1] at h2
    cases h2
    rw [k2] at h3
    cases h3
    rw [k3] at h4
    cases h4
    obtain ⟨⟨oc, vc, e1, _, e3, e4⟩, hP⟩ := h6
    have g2 := KX _ _ k4
    rw [g2] at e1
    cases e1
    cases e3
    rw [k5] at e4
    cases e4
    exact hP
  obtain ⟨fd, cs, sp, hT, nT, C, hb, hsp, hF⟩ := F w mg fa _ Y KX G.T.g hmg own
  exact LamX.law_callTs KX G.T.g G.T.b G.T.builtins G.T.nolimit hg hT nT C G.T.bmain hobj hints (Nat.le_trans hlen hn2) hr hF hb (fun H hH hS => hsp H a ns hlen hbits hH hS) fun H e s' => hCX w H s₁ e s'
theorem codeHd_of {K : PySem.W.Frag} {h : Heap} (X : K.In h) {c P : Addr} {dd : Option Addr} {vs : Array Value} {sl : Array (Option Value)} {file : Str} {tf tg tt : Tok} {flags text : Int} {inF : Bool} (lc : K.lookup c = some ⟨.type "code", dd, .fields vs, sl⟩)
    (e : vs[11]? = some (.ref P) ∧ vs.getD 11 .none = .ref P ∧ vs.getD 18 .none = .str file tf ∧ vs.getD 7 .none = .int flags tg ∧ vs.getD 9 .none = .bool inF ∧ vs.getD 10 .none = .int text tt ∧ c ≠ P) : PySem.W.CodeHd h c P :=
  ⟨_, vs, file, tf, flags, tg, inF, text, tt, X c _ lc, rfl, rfl, e.1, e.2.1, e.2.2.1, e.2.2.2.1, e.2.2.2.2.1, e.2.2.2.2.2.1, e.2.2.2.2.2.2⟩
theorem tabB_of {base : Heap} {mg : Str → Option Value} {c P : Addr} (t : LamX.TabB base mg c P) : GxR.TabB base mg c P := ⟨t.code, t.bm, t.gP⟩

/-! ### small things -/
theorem small (n : Nat) (h : n ≤ 100000 := by decide) : n ≤ sizeLine := Nat.le_trans h (by decide)
theorem at0 {a : V} {r : List V} : atI (a :: r) 0 = some a := atI_nat (j := 0) rfl
theorem at1 {a b : V} {r : List V} : atI (a :: b :: r) 1 = some b := atI_nat (j := 1) rfl
theorem at2 {a b c : V} {r : List V} : atI (a :: b :: c :: r) 2 = some c := atI_nat (j := 2) rfl
theorem sq_keep {K : PySem.W.Frag} {H H' : Hp} {a W : Addr} {xs : List V} {Ts : List Addr} (h : SqL K H a xs) (t : Tabs Ts H) (k : Keep (W :: Ts) H H') (nW : H W = none) : SqL K H' a xs := by
  have nn : ∀ o, H a = some o → (∀ ps, o ≠ .tbl ps) → a ∉ W :: Ts := fun o e hn z => by
    rcases List.mem_cons.mp z with z | z
    · rw [z, nW] at e
      cases e
    · exact t.nott e hn z
  rcases h with (h | ⟨o, h⟩) | h
  · exact .inl (.inl (k _ _ h (nn _ h fun _ z => by cases z)))
  · exact .inl (.inr ⟨o, k _ _ h (nn _ h fun _ z => by cases z)⟩)
  · exact .inr h
end GX
set_option Elab.async false
set_option linter.all false
set_option maxRecDepth 100000
set_option maxHeartbeats 4000000
/-! Nets as data, and how they stand in the heap. -/
namespace GX
open PySem PySem.Spec PyProof.Rows L2
structure Net where
  many : Nat
  gates : List (Nat × Nat × Nat)
  outs : List Nat
def gateOk (many i : Nat) (g : Nat × Nat × Nat) : Prop := g.1 < 16 ∧ g.2.1 < many + i ∧ g.2.2 < many + i
structure Net.Ok (n : Net) : Prop where
  m1 : 1 ≤ n.many
  m8 : n.many ≤ 8
  g16 : n.gates.length ≤ 16
  gs : ∀ (i : Nat) (g : Nat × Nat × Nat), n.gates[i]? = some g → gateOk n.many i g
  o1 : 1 ≤ n.outs.length
  o8 : n.outs.length ≤ 8
  os : ∀ o ∈ n.outs, o < n.many + n.gates.length
def nV (n : Nat) : V := .int (n : Int)
def gV (g : Nat × Nat × Nat) : List V := [nV g.1, nV g.2.1, nV g.2.2]
/-- the gates at these addresses -/
def GatesAt (H : Hp) (ps : List Addr) (gs : List (Nat × Nat × Nat)) : Prop := ps.length = gs.length ∧ ∀ (i : Nat) (p : Addr) (g : Nat × Nat × Nat), ps[i]? = some p → gs[i]? = some g → H p = some (.tup (gV g))
structure NetAt (H : Hp) (a : Addr) (n : Net) (g o : Addr) (ps : List Addr) : Prop where
  top : H a = some (.tup [nV n.many, .ref g, .ref o])
  gt : H g = some (.tup (ps.map V.ref))
  gs : GatesAt H ps n.gates
  ot : H o = some (.tup (n.outs.map nV))
theorem GatesAt.nil (H : Hp) : GatesAt H [] [] := ⟨rfl, fun i p g e _ => by simp at e⟩
theorem GatesAt.mono {H H' : Hp} {ps : List Addr} {gs : List (Nat × Nat × Nat)} (x : GatesAt H ps gs) (k : ∀ b xs, H b = some (.tup xs) → H' b = some (.tup xs)) : GatesAt H' ps gs := ⟨x.1, fun i p g e1 e2 => k _ _ (x.2 i p g e1 e2)⟩
theorem NetAt.mono {H H' : Hp} {a g o : Addr} {n : Net} {ps : List Addr} (x : NetAt H a n g o ps) (k : ∀ b xs, H b = some (.tup xs) → H' b = some (.tup xs)) : NetAt H' a n g o ps := ⟨k _ _ x.top, k _ _ x.gt, x.gs.mono k, k _ _ x.ot⟩
theorem GatesAt.push {H : Hp} {ps : List Addr} {gs : List (Nat × Nat × Nat)} {p : Addr} {g : Nat × Nat × Nat} (x : GatesAt H ps gs) (h : H p = some (.tup (gV g))) : GatesAt H (ps ++ [p]) (gs ++ [g]) := by
  refine ⟨by rw [List.length_append, List.length_append, x.1]; rfl, fun i q g' e1 e2 => ?_⟩
  by_cases hi : i < ps.length
  · rw [List.getElem?_append_left hi] at e1
    rw [List.getElem?_append_left (by rw [← x.1]; exact hi)] at e2
    exact x.2 i q g' e1 e2
  · rw [List.getElem?_append_right (by omega)] at e1
    rw [List.getElem?_append_right (by rw [← x.1]; omega)] at e2
    have hz : i - ps.length = 0 := by
      obtain ⟨h1, _⟩ := List.getElem?_eq_some_iff.mp e1
      simp at h1
      omega
    rw [hz] at e1
    rw [← x.1, hz] at e2
    cases e1
    cases e2
    exact h
theorem gateOk.at {H : Hp} {ps : List Addr} {gs : List (Nat × Nat × Nat)} (x : GatesAt H ps gs) {i : Nat} {p : Addr} (e : ps[i]? = some p) : ∃ g, gs[i]? = some g ∧ H p = some (.tup (gV g)) := by
  obtain ⟨h1, _⟩ := List.getElem?_eq_some_iff.mp e
  have h2 : i < gs.length := by rw [← x.1]; exact h1
  exact ⟨gs[i], List.getElem?_eq_getElem h2, x.2 i p _ e (List.getElem?_eq_getElem h2)⟩
/-- what a tuple holds it keeps, where but X is kept and X holds none -/
theorem Keep.tups {X : List Addr} {H H' : Hp} (k : Keep X H H') (n : ∀ b ∈ X, ∀ xs, H b ≠ some (.tup xs)) : ∀ b xs, H b = some (.tup xs) → H' b = some (.tup xs) := fun b xs e => k b _ e fun z => n b z xs e
/-! ### the well -/
def Wl (H : Hp) (W : Addr) : Prop := ∃ a b c : Int, H W = some (.lst [.int a, .int b, .int c])
theorem Wl.nt {H : Hp} {W : Addr} (h : Wl H W) : ∀ b ∈ [W], ∀ xs, H b ≠ some (.tup xs) := fun b hb xs e => by
  rw [List.mem_singleton.mp hb] at e
  obtain ⟨_, _, _, q⟩ := h
  rw [e] at q
  cases q
theorem Wl.keep {X : List Addr} {H H' : Hp} {W : Addr} (h : Wl H W) (k : Keep X H H') (n : W ∉ X) : Wl H' W := by
  obtain ⟨a, b, c, e⟩ := h
  exact ⟨a, b, c, k _ _ e n⟩
theorem Wl.tab {Ts : List Addr} {H : Hp} {W : Addr} (h : Wl H W) (t : Tabs Ts H) : W ∉ Ts := by
  obtain ⟨a, b, c, e⟩ := h
  exact t.lst e
theorem Tabs.keep {Ts X : List Addr} {H H' : Hp} (t : Tabs Ts H) (k : Keep X H H') (n : ∀ b ∈ X, b ∉ Ts) : Tabs Ts H' := fun b hb => by
  obtain ⟨ps, q, r⟩ := t b hb
  exact ⟨ps, k b _ q fun z => n b z hb, r⟩
/-! ### words for the readings -/
theorem Same.keep {X : List Addr} {H H' : Hp} (s : Same H H') : Keep X H H' := fun b o e _ => s b o e
theorem Same.new {H : Hp} {p : Addr} {o : HO} (n : H p = none) : Same H (upd H p o) := fun b u e => by rw [upd_ne (ne_of_none e n)]; exact e
theorem catA {K : PySem.W.Frag} {H : Hp} {a b : Addr} {xs ys : List V} {Q : VK} (h1 : H a = some (.tup xs)) (h2 : H b = some (.tup ys)) (hz : xs.length + ys.length ≤ sizeLine) (q : ∀ r H', Same H H' → H' r = some (.tup (xs ++ ys)) → Q (.ref r) H') : rCatA K (.ref a) (.ref b) H Q := by
  refine ⟨a, b, xs, ys, rfl, rfl, SqT.of h1, SqT.of h2, hz, fun e => ?_, fun e1 e2 => ?_, fun e1 e2 p hp => ?_⟩
  · exact q b H (Same.refl _) (by rw [e]; exact h2)
  · exact q a H (Same.refl _) (by rw [e2, List.append_nil]; exact h1)
  · exact q p _ (Same.new hp) upd_same
theorem slA {K : PySem.W.Frag} {H : Hp} {a : Addr} {xs : List V} {lo hi : Option Int} {Q : VK} (h1 : H a = some (.tup xs)) (q : ∀ r H', Same H H' → H' r = some (.tup (cutV xs lo hi)) → Q (.ref r) H') : rSlA K (.ref a) lo hi H Q := by
  refine ⟨a, xs, rfl, SqT.of h1, fun e => ?_, fun e p hp => ?_⟩
  · refine q a H (Same.refl _) ?_
    unfold cutV
    rw [e.1, e.2, List.drop_zero, Nat.sub_zero, List.take_length]
    exact h1
  · exact q p _ (Same.new hp) upd_same
theorem atIf {a b : V} {k : Bool} : atI [a, b] (if k = true then 1 else 0) = some (if k = true then b else a) := by cases k <;> rfl
theorem cut_lo (xs : List V) (n : Nat) : cutV xs (some (n : Int)) none = xs.drop n := by
  unfold cutV
  rw [show HT.sIx xs.length 0 (some (n : Int)) = min n xs.length from HT.sIx_nat xs.length 0 n, HT.sIx_none]
  by_cases h : n ≤ xs.length
  · rw [Nat.min_eq_left h, List.take_of_length_le]
    rw [List.length_drop]
    exact Nat.le_refl _
  · rw [Nat.min_eq_right (by omega), List.drop_of_length_le (Nat.le_refl _), List.drop_of_length_le (by omega), List.take_nil]
theorem cut_hi (xs : List V) (n : Nat) : cutV xs none (some (n : Int)) = xs.take n := by
  unfold cutV
  rw [show HT.sIx xs.length xs.length (some (n : Int)) = min n xs.length from HT.sIx_nat xs.length xs.length n, HT.sIx_none, List.drop_zero, Nat.sub_zero]
  by_cases h : n ≤ xs.length
  · rw [Nat.min_eq_left h]
  · rw [Nat.min_eq_right (by omega), List.take_of_length_le (by omega : xs.length ≤ n), List.take_length]
/-- the well stands, all else is kept -/
structure Wk (W : Addr) (H H' : Hp) : Prop where
  wl : Wl H' W
  kp : Keep [W] H H'
theorem Wk.nxt {W : Addr} {H H1 H2 : Hp} (s : Wk W H H1) (wl : Wl H2 W) (k : Keep [W] H1 H2) : Wk W H H2 := ⟨wl, s.kp.trans k⟩
theorem Wl.same {H H' : Hp} {W : Addr} (h : Wl H W) (s : Same H H') : Wl H' W := by
  obtain ⟨a, b, c, e⟩ := h
  exact ⟨a, b, c, s _ _ e⟩
theorem Wk.same {W : Addr} {H H1 H2 : Hp} (s : Wk W H H1) (e : Same H1 H2) : Wk W H H2 := ⟨s.wl.same e, s.kp.trans (Same.keep e)⟩
theorem Wk.new {W : Addr} {H H1 : Hp} {p : Addr} {o : HO} (s : Wk W H H1) (n : H1 p = none) : Wk W H (upd H1 p o) := s.same (Same.new n)
/-- a tuple stands behind a draw -/
theorem Wl.tup {H H' : Hp} {W : Addr} (h : Wl H W) (k : Keep [W] H H') {b : Addr} {xs : List V} (e : H b = some (.tup xs)) : H' b = some (.tup xs) := k.tups h.nt b xs e
theorem Wl.gates {H H' : Hp} {W : Addr} (h : Wl H W) (k : Keep [W] H H') {ps : List Addr} {gs : List (Nat × Nat × Nat)} (x : GatesAt H ps gs) : GatesAt H' ps gs := x.mono (k.tups h.nt)
theorem Same.gates {H H' : Hp} (s : Same H H') {ps : List Addr} {gs : List (Nat × Nat × Nat)} (x : GatesAt H ps gs) : GatesAt H' ps gs := x.mono fun b xs e => s b _ e
/-- a list of our own, filled behind H: all that was stands -/
structure Own (H H' : Hp) (l : Addr) (xs : List V) : Prop where
  sm : Same H H'
  at_ : H' l = some (.lst xs)
  nw : H l = none
theorem Own.app {H H' : Hp} {l : Addr} {xs : List V} {y : V} (o : Own H H' l xs) : Own H (upd H' l (.lst (xs ++ [y]))) l (xs ++ [y]) :=
  ⟨fun b u e => by rw [upd_ne (ne_of_none e o.nw)]; exact o.sm b u e, upd_same, o.nw⟩
theorem NetAt.same {H H' : Hp} {a g o : Addr} {n : Net} {ps : List Addr} (x : NetAt H a n g o ps) (s : Same H H') : NetAt H' a n g o ps := x.mono fun b xs e => s b _ e
theorem Tabs.same {Ts : List Addr} {H H' : Hp} (t : Tabs Ts H) (s : Same H H') : Tabs Ts H' := fun b hb => by
  obtain ⟨ps, q, r⟩ := t b hb
  exact ⟨ps, s _ _ q, r⟩
theorem Aft.ofSame {Ts : List Addr} {H H' : Hp} (t : Tabs Ts H) (s : Same H H') : Aft Ts H H' := ⟨Same.keep s, Tabs.same t s⟩
theorem NetAt.aft {Ts : List Addr} {H H' : Hp} {a g o : Addr} {n : Net} {ps : List Addr} (x : NetAt H a n g o ps) (t : Tabs Ts H) (s : Aft Ts H H') : NetAt H' a n g o ps := x.mono fun b xs e => s.tup t e
/-! ### rules with the written part named (for generator expressions) -/
section
variable {X : Cx} {K : PySem.W.Frag}
theorem ix_tupK (h : X.K = K := by rfl) : IxR X (rIxT K) := by subst h; exact ix_tup
theorem ix_listK (h : X.K = K := by rfl) : IxR X (rIxL K) := by subst h; exact ix_list
theorem op_in_seqK (h : X.K = K := by rfl) : OpR X (compareOp .In) (rIn K false) := by subst h; exact op_in_seq
theorem op_notIn_seqK (h : X.K = K := by rfl) : OpR X (compareOp .NotIn) (rIn K true) := by subst h; exact op_notIn_seq
theorem len_seqK (h : X.K = K := by rfl) : CallR X (.builtin "len") (fun xs H Q => ∃ p ys, xs = [.ref p] ∧ (SqL K H p ys ∨ SqT K H p ys) ∧ Q (.int ys.length) H) := by subst h; exact call_len_seq
theorem isiK (h : X.K = K := by rfl) : CallR X (.builtin "isinstance") (rIsi K) := by subst h; exact call_isi
theorem op_catAK (h : X.K = K := by rfl) : OpR X (binaryOp .Add) (rCatA K) := by subst h; exact op_catA
theorem sl_tupAK (h : X.K = K := by rfl) : SlR X (rSlA K) := by subst h; exact sl_tupA
end
end GX
set_option Elab.async false
set_option linter.all false
set_option maxRecDepth 100000
set_option maxHeartbeats 4000000
/-! What leads from a wire down, past no stop. -/
namespace GX
open PySem PySem.Spec PyProof.Rows L2
inductive Rc (n : Net) (st : List Nat) (w j : Nat) : Nat → Prop
  | here : w ∉ st → Rc n st w j w
  | step {g p : Nat} {k : Nat × Nat × Nat} : Rc n st w j g → n.many ≤ g → j ≤ g → n.gates[g - n.many]? = some k → (p = k.2.1 ∨ p = k.2.2) → p ∉ st → Rc n st w j p
theorem place_lt {n : Net} (ok : n.Ok) {g p : Nat} {k : Nat × Nat × Nat} (hg : n.many ≤ g) (hk : n.gates[g - n.many]? = some k) (hp : p = k.2.1 ∨ p = k.2.2) : p < g := by
  obtain ⟨_, h1, h2⟩ := ok.gs _ _ hk
  rcases hp with rfl | rfl <;> omega
theorem Rc.le {n : Net} (ok : n.Ok) {st : List Nat} {w j y : Nat} (h : Rc n st w j y) : y ≤ w := by
  induction h with
  | here _ => exact Nat.le_refl _
  | step _ hg _ hk hp _ ih => exact Nat.le_trans (Nat.le_of_lt (place_lt ok hg hk hp)) ih
theorem Rc.free {n : Net} {st : List Nat} {w j y : Nat} (h : Rc n st w j y) : y ∉ st := by cases h <;> assumption
theorem Rc.mono {n : Net} {st : List Nat} {w j i y : Nat} (h : Rc n st w j y) (l : i ≤ j) : Rc n st w i y := by
  induction h with
  | here e => exact .here e
  | step _ hg hj hk hp hs ih => exact .step ih hg (Nat.le_trans l hj) hk hp hs
theorem Rc.low {n : Net} {st : List Nat} {w j y : Nat} (h : Rc n st w j y) : Rc n st w n.many y := by
  induction h with
  | here e => exact .here e
  | step _ hg hj hk hp hs ih => exact .step ih hg hg hk hp hs
theorem Rc.low_iff {n : Net} {st : List Nat} {w j y : Nat} (l : j ≤ n.many) : Rc n st w j y ↔ Rc n st w n.many y := ⟨Rc.low, fun h => h.mono l⟩
theorem Rc.down {n : Net} (ok : n.Ok) {st : List Nat} {w g y : Nat} {k : Nat × Nat × Nat} (hg : n.many ≤ g) (hk : n.gates[g - n.many]? = some k) :
    Rc n st w g y ↔ Rc n st w (g + 1) y ∨ (Rc n st w (g + 1) g ∧ (y = k.2.1 ∨ y = k.2.2) ∧ y ∉ st) := by
  refine ⟨fun h => ?_, fun h => ?_⟩
  · induction h with
    | here e => exact .inl (.here e)
    | @step g' p k' h1 hg' hj hk' hp hs ih =>
      by_cases e : g' = g
      · subst e
        have ek : k' = k := by
          rw [hk] at hk'
          exact (Option.some.inj hk').symm
        subst ek
        rcases ih with ih | ⟨_, ih, _⟩
        · exact .inr ⟨ih, hp, hs⟩
        · exact absurd (place_lt ok hg hk ih) (Nat.lt_irrefl _)
      · rcases ih with ih | ⟨_, ih, _⟩
        · exact .inl (.step ih hg' (by omega) hk' hp hs)
        · have := place_lt ok hg hk ih
          omega
  · rcases h with h | ⟨h, hp, hs⟩
    · exact h.mono (Nat.le_succ g)
    · exact .step (h.mono (Nat.le_succ g)) hg (Nat.le_refl _) hk hp hs
/-- an input, or below the last gate: nothing goes on above -/
theorem Rc.high {n : Net} (ok : n.Ok) {st : List Nat} {w y : Nat} : Rc n st w (w + 1) y ↔ y = w ∧ w ∉ st := by
  refine ⟨fun h => ?_, fun h => by rw [h.1]; exact .here h.2⟩
  cases h with
  | here e => exact ⟨rfl, e⟩
  | step h1 hg hj hk hp hs =>
    have := h1.le ok
    omega
theorem inV_n (x : Nat) (st : List Nat) : inV (nV x) (st.map nV) = decide (x ∈ st) := by
  unfold inV
  rw [List.any_map]
  induction st with
  | nil => rfl
  | cons y r ih =>
    rw [List.any_cons, ih]
    have e : ((fun y => eqV y (nV x)) ∘ nV) y = decide (x = y) := by
      show eqV (nV y) (nV x) = decide (x = y)
      unfold eqV
      by_cases h : x = y
      · subst h
        rw [decide_eq_true (rfl : x = x)]
        exact decide_eq_true rfl
      · rw [decide_eq_false h]
        refine decide_eq_false fun z => h ?_
        have z' : ((y : Nat) : Int) = (x : Int) := z
        omega
    rw [e, ← Bool.decide_or]
    congr 1
    exact propext List.mem_cons.symm
theorem flat_ns (st : List Nat) : (st.map nV).all flatV = true := by
  rw [List.all_map, List.all_eq_true]
  intro x _
  rfl
theorem ix_n {len x : Nat} (h : x < len) : ixN len (x : Int) = some x := by
  have e := atI_nat (xs := List.range len) (j := x) (v := x) (by rw [List.getElem?_range h])
  unfold atI at e
  rw [List.length_range] at e
  cases q : ixN len (x : Int) with
  | none => rw [q] at e; cases e
  | some j =>
    rw [q] at e
    have e' : (List.range len)[j]? = some x := e
    obtain ⟨h1, h2⟩ := List.getElem?_eq_some_iff.mp e'
    rw [List.getElem_range] at h2
    rw [h2]
/-- rising, unlike: told by its members -/
theorem rise_eq : ∀ {xs ys : List Nat}, xs.Pairwise (· < ·) → ys.Pairwise (· < ·) → (∀ z, z ∈ xs ↔ z ∈ ys) → xs = ys
  | [], [], _, _, _ => rfl
  | [], y :: ys, _, _, h => by cases (h y).mpr List.mem_cons_self
  | x :: xs, [], _, _, h => by cases (h x).mp List.mem_cons_self
  | x :: xs, y :: ys, hx, hy, h => by
    have hx1 := List.pairwise_cons.mp hx
    have hy1 := List.pairwise_cons.mp hy
    have e : x = y := by
      rcases List.mem_cons.mp ((h x).mp List.mem_cons_self) with e | e
      · exact e
      · rcases List.mem_cons.mp ((h y).mpr List.mem_cons_self) with e' | e'
        · exact e'.symm
        · have := hy1.1 _ e
          have := hx1.1 _ e'
          omega
    subst e
    refine congrArg _ (rise_eq hx1.2 hy1.2 fun z => ⟨fun hz => ?_, fun hz => ?_⟩)
    · rcases List.mem_cons.mp ((h z).mp (List.mem_cons_of_mem _ hz)) with e | e
      · have := hx1.1 _ hz
        omega
      · exact e
    · rcases List.mem_cons.mp ((h z).mpr (List.mem_cons_of_mem _ hz)) with e | e
      · have := hy1.1 _ hz
        omega
      · exact e
/-- the wires reached, rising -/
def Rset (n : Net) (st : List Nat) (w : Nat) (xs : List Nat) : Prop := xs.Pairwise (· < ·) ∧ ∀ y, y ∈ xs ↔ Rc n st w n.many y
theorem Rset.eq {n : Net} {st : List Nat} {w : Nat} {xs ys : List Nat} (a : Rset n st w xs) (b : Rset n st w ys) : xs = ys := rise_eq a.1 b.1 fun z => (a.2 z).trans (b.2 z).symm
/-- marks -/
def MarkOk (n : Net) (st : List Nat) (w j : Nat) (ms : List Bool) : Prop := ms.length = n.many + n.gates.length ∧ ∀ y, y < ms.length → (ms.getD y false = true ↔ Rc n st w j y)
theorem getD_set {ms : List Bool} {i y : Nat} {b : Bool} (h : i < ms.length) : (ms.set i b).getD y false = if y = i then b else ms.getD y false := by
  rw [List.getD_eq_getElem?_getD, List.getD_eq_getElem?_getD]
  by_cases e : y = i
  · subst e
    rw [if_pos rfl, List.getElem?_set_self h]
    rfl
  · rw [if_neg e, List.getElem?_set_ne (fun z => e z.symm)]
theorem mark_at {ms : List Bool} {i : Nat} (h : i < ms.length) : (ms.map V.bl)[i]? = some (.bl (ms.getD i false)) := by
  rw [List.getElem?_map, List.getD_eq_getElem?_getD, List.getElem?_eq_getElem h]
  rfl
def picked (ms : List Bool) : List Nat := (List.range ms.length).filter fun i => ms.getD i false
theorem picked_rise (ms : List Bool) : (picked ms).Pairwise (· < ·) := List.Pairwise.filter _ List.pairwise_lt_range
theorem picked_take (ms : List Bool) (i : Nat) : ((List.range (i + 1)).filter fun i => ms.getD i false) = ((List.range i).filter fun i => ms.getD i false) ++ (if ms.getD i false = true then [i] else []) := by
  rw [List.range_succ, List.filter_append]
  congr 1
  rw [List.filter_cons]
  rfl
theorem mark_set {n : Net} (ok : n.Ok) {st : List Nat} {w : Nat} {ms : List Bool} (hw : w < n.many + n.gates.length) (h : MarkOk n st w n.many ms) : Rset n st w (picked ms) := by
  refine ⟨picked_rise ms, fun y => ?_⟩
  unfold picked
  rw [List.mem_filter, List.mem_range]
  refine ⟨fun ⟨h1, h2⟩ => (h.2 y h1).mp h2, fun r => ?_⟩
  have := r.le ok
  have hl : y < ms.length := by rw [h.1]; omega
  exact ⟨hl, (h.2 y hl).mpr r⟩
theorem mark_down {n : Net} (ok : n.Ok) {st : List Nat} {w g : Nat} {k : Nat × Nat × Nat} {ms : List Bool} (hg : n.many ≤ g) (hk : n.gates[g - n.many]? = some k) (h : MarkOk n st w (g + 1) ms) (hm : ms.getD g false = true) :
    MarkOk n st w g ((ms.set k.2.1 (!decide (k.2.1 ∈ st))).set k.2.2 (!decide (k.2.2 ∈ st))) := by
  have hgl : g < ms.length := by
    rw [h.1]
    have := (List.getElem?_eq_some_iff.mp hk).1
    omega
  have p1 := place_lt ok hg hk (.inl rfl)
  have p2 := place_lt ok hg hk (.inr rfl)
  have rg := (h.2 g hgl).mp hm
  have flip : ∀ y, (y = k.2.1 ∨ y = k.2.2) → ((!decide (y ∈ st)) = true ↔ Rc n st w g y) := fun y hy => by
    rw [Rc.down ok hg hk]
    by_cases e : y ∈ st
    · rw [decide_eq_true e]
      refine ⟨fun z => (by cases z), fun z => ?_⟩
      rcases z with z | ⟨_, _, z⟩
      · exact absurd e z.free
      · exact absurd e z
    · rw [decide_eq_false e]
      exact ⟨fun _ => .inr ⟨rg, hy, e⟩, fun _ => rfl⟩
  refine ⟨by rw [List.length_set, List.length_set]; exact h.1, fun y hy => ?_⟩
  rw [List.length_set, List.length_set] at hy
  rw [getD_set (by rw [List.length_set]; omega)]
  by_cases e2 : y = k.2.2
  · rw [if_pos e2, e2]
    exact flip _ (.inr rfl)
  · rw [if_neg e2, getD_set (by omega)]
    by_cases e1 : y = k.2.1
    · rw [if_pos e1, e1]
      exact flip _ (.inl rfl)
    · rw [if_neg e1, h.2 y hy, Rc.down ok hg hk]
      refine ⟨.inl, fun z => ?_⟩
      rcases z with z | ⟨_, z, _⟩
      · exact z
      · rcases z with z | z
        · exact absurd z e1
        · exact absurd z e2
theorem mark_skip {n : Net} (ok : n.Ok) {st : List Nat} {w g : Nat} {k : Nat × Nat × Nat} {ms : List Bool} (hg : n.many ≤ g) (hk : n.gates[g - n.many]? = some k) (h : MarkOk n st w (g + 1) ms) (hm : ¬ ms.getD g false = true) :
    MarkOk n st w g ms := by
  have hgl : g < ms.length := by
    rw [h.1]
    have := (List.getElem?_eq_some_iff.mp hk).1
    omega
  refine ⟨h.1, fun y hy => ?_⟩
  rw [h.2 y hy, Rc.down ok hg hk]
  refine ⟨.inl, fun z => ?_⟩
  rcases z with z | ⟨z, _, _⟩
  · exact z
  · exact absurd ((h.2 g hgl).mpr z) hm
theorem mark_first {n : Net} (ok : n.Ok) {st : List Nat} {w : Nat} (hw : w < n.many + n.gates.length) : MarkOk n st w (w + 1) ((List.replicate (n.many + n.gates.length) false).set w (!decide (w ∈ st))) := by
  refine ⟨by rw [List.length_set, List.length_replicate], fun y hy => ?_⟩
  rw [getD_set (by rw [List.length_replicate]; exact hw), Rc.high ok]
  by_cases e : y = w
  · subst e
    rw [if_pos rfl]
    by_cases h : y ∈ st
    · rw [decide_eq_true h]
      exact ⟨fun z => (by cases z), fun z => absurd h z.2⟩
    · rw [decide_eq_false h]
      exact ⟨fun _ => ⟨rfl, h⟩, fun _ => rfl⟩
  · rw [if_neg e, List.getD_eq_getElem?_getD, List.getElem?_replicate]
    refine ⟨fun z => ?_, fun z => absurd z.1 e⟩
    split at z <;> cases z
/-- ways -/
structure Way (n : Net) (w : Nat) (xs : List Nat) : Prop where
  ne : 0 < xs.length
  lt : ∀ x ∈ xs, x < n.many + n.gates.length
  first : xs.getD 0 0 < n.many
  last : xs.getD (xs.length - 1) 0 = w
  steps : ∀ i, i + 1 < xs.length → n.many ≤ xs.getD (i + 1) 0 ∧ ∃ k, n.gates[xs.getD (i + 1) 0 - n.many]? = some k ∧ (xs.getD i 0 = k.2.1 ∨ xs.getD i 0 = k.2.2)
theorem walk_zipT {K : PySem.W.Frag} {a b : Addr} {xs ys : List V} {n : Nat} (hn : n = min xs.length ys.length) : Walk (RZ.ItzT K a b) n (fun H => SqT K H a xs ∧ SqT K H b ys) (YPair (fun i => xs[i]?) (fun i => ys[i]?)) := by
  subst hn
  refine ⟨fun i _ hi q => ?_, fun _ q => ⟨xs, ys, q.1, q.2, by omega⟩, fun i H v H' _ q y => ?_⟩
  · exact ⟨xs, ys, xs[i]'(by omega), ys[i]'(by omega), q.1, q.2, List.getElem?_eq_getElem _, List.getElem?_eq_getElem _⟩
  · obtain ⟨T, x, z, g1, g2, g3, g4, g5⟩ := y
    exact ⟨T, x, z, g1, g2, g3, g4 xs q.1, g5 ys q.2⟩
end GX
set_option Elab.async false
set_option linter.all false
set_option maxRecDepth 100000
set_option maxHeartbeats 4000000
/-! Lists of the wires reached; ways put together. -/
namespace GX
open PySem PySem.Spec PyProof.Rows L2
theorem nodup_len : ∀ {xs ys : List Nat}, xs.Nodup → (∀ x ∈ xs, x ∈ ys) → xs.length ≤ ys.length
  | [], _, _, _ => Nat.zero_le _
  | x :: xs, ys, h, s => by
    have h1 := List.nodup_cons.mp h
    have hx := s x List.mem_cons_self
    have ih := nodup_len (ys := ys.erase x) h1.2 fun z hz => (List.mem_erase_of_ne (fun e => h1.1 (by rw [← e]; exact hz))).mpr (s z (List.mem_cons_of_mem _ hz))
    rw [List.length_erase_of_mem hx] at ih
    have : 0 < ys.length := List.length_pos_of_mem hx
    rw [List.length_cons]
    omega
theorem nodup_lt {xs : List Nat} {m : Nat} (h : xs.Nodup) (s : ∀ x ∈ xs, x < m) : xs.length ≤ m := by
  have := nodup_len (ys := List.range m) h fun x hx => List.mem_range.mpr (s x hx)
  rwa [List.length_range] at this
theorem nodup_snoc {xs : List Nat} {x : Nat} (h : xs.Nodup) (n : x ∉ xs) : (xs ++ [x]).Nodup := by
  rw [List.nodup_append]
  refine ⟨h, by simp, fun a ha b hb => ?_⟩
  rw [List.mem_singleton.mp hb]
  exact fun e => n (by rw [← e]; exact ha)
theorem getD_pre {xs t : List Nat} {i : Nat} (h : i < xs.length) : (xs ++ t).getD i 0 = xs.getD i 0 := by
  rw [List.getD_eq_getElem?_getD, List.getD_eq_getElem?_getD, List.getElem?_append_left h]
theorem getD_mem {xs : List Nat} {i : Nat} (h : i < xs.length) : xs.getD i 0 ∈ xs := by
  rw [List.getD_eq_getElem?_getD, List.getElem?_eq_getElem h]
  exact List.getElem_mem h
theorem mem_getD {xs : List Nat} {x : Nat} (h : x ∈ xs) : ∃ i, i < xs.length ∧ xs.getD i 0 = x := by
  obtain ⟨i, hi, e⟩ := List.getElem_of_mem h
  exact ⟨i, hi, by rw [List.getD_eq_getElem?_getD, List.getElem?_eq_getElem hi]; exact e⟩
/-- found so far; the first k have been gone on from -/
structure LedOk (n : Net) (st : List Nat) (w : Nat) (xs : List Nat) (k : Nat) : Prop where
  nd : xs.Nodup
  rc : ∀ y ∈ xs, Rc n st w n.many y
  self : w ∉ st → w ∈ xs
  le : k ≤ xs.length
  done : ∀ j, j < k → n.many ≤ xs.getD j 0 → ∀ g, n.gates[xs.getD j 0 - n.many]? = some g → ∀ p, (p = g.2.1 ∨ p = g.2.2) → p ∉ st → p ∈ xs
theorem LedOk.all {n : Net} {st : List Nat} {w : Nat} {xs : List Nat} (h : LedOk n st w xs xs.length) (y : Nat) : y ∈ xs ↔ Rc n st w n.many y := by
  refine ⟨h.rc y, fun r => ?_⟩
  induction r with
  | here e => exact h.self e
  | step _ hg _ hk hp hs ih =>
    obtain ⟨i, hi, e⟩ := mem_getD ih
    exact h.done i hi (by rw [e]; exact hg) _ (by rw [e]; exact hk) _ hp hs
theorem LedOk.short {n : Net} (ok : n.Ok) {st : List Nat} {w : Nat} {xs : List Nat} {k : Nat} (hw : w < n.many + n.gates.length) (h : LedOk n st w xs k) : xs.length ≤ 24 := by
  have := nodup_lt (m := n.many + n.gates.length) h.nd fun x hx => by have := (h.rc x hx).le ok; omega
  have := ok.m8
  have := ok.g16
  omega
def isSt (n : Net) (x y : Nat) : Prop := n.many ≤ y ∧ ∃ k, n.gates[y - n.many]? = some k ∧ (x = k.2.1 ∨ x = k.2.2)
/-- from x (left out) up to w -/
structure Up (n : Net) (x w : Nat) (zs : List Nat) : Prop where
  lt : ∀ z ∈ zs, z < n.many + n.gates.length
  last : (x :: zs).getD zs.length 0 = w
  ch : ∀ i, i + 1 < (x :: zs).length → isSt n ((x :: zs).getD i 0) ((x :: zs).getD (i + 1) 0)
theorem Up.nil (n : Net) (w : Nat) : Up n w w [] := ⟨fun z hz => (by cases hz), rfl, fun i hi => (by simp at hi)⟩
theorem Up.cons {n : Net} {p x w : Nat} {zs : List Nat} (s : isSt n p x) (hx : x < n.many + n.gates.length) (u : Up n x w zs) : Up n p w (x :: zs) := by
  refine ⟨fun z hz => ?_, ?_, fun i hi => ?_⟩
  · rcases List.mem_cons.mp hz with rfl | hz
    · exact hx
    · exact u.lt z hz
  · exact u.last
  · cases i with
    | zero => exact s
    | succ i => exact u.ch i (by simpa using hi)
/-- from some wire down to w, upward -/
structure Down (n : Net) (w : Nat) (xs : List Nat) : Prop where
  ne : 0 < xs.length
  lt : ∀ x ∈ xs, x < n.many + n.gates.length
  last : xs.getD (xs.length - 1) 0 = w
  steps : ∀ i, i + 1 < xs.length → isSt n (xs.getD i 0) (xs.getD (i + 1) 0)
theorem Down.one {n : Net} {w : Nat} (h : w < n.many + n.gates.length) : Down n w [w] := ⟨Nat.zero_lt_one, fun x hx => (by rw [List.mem_singleton.mp hx]; exact h), rfl, fun i hi => (by simp at hi)⟩
theorem Down.cons {n : Net} {w p : Nat} {xs : List Nat} (d : Down n w xs) (hp : p < n.many + n.gates.length) (s : isSt n p (xs.getD 0 0)) : Down n w (p :: xs) := by
  have h0 := d.ne
  refine ⟨by rw [List.length_cons]; omega, fun x hx => ?_, ?_, fun i hi => ?_⟩
  · rcases List.mem_cons.mp hx with rfl | hx
    · exact hp
    · exact d.lt x hx
  · rw [List.length_cons, show xs.length + 1 - 1 = (xs.length - 1) + 1 by omega]
    exact d.last
  · cases i with
    | zero => exact s
    | succ i => exact d.steps i (by simpa using hi)
theorem Down.way {n : Net} {w : Nat} {xs : List Nat} (d : Down n w xs) (h : xs.getD 0 0 < n.many) : Way n w xs := ⟨d.ne, d.lt, h, d.last, d.steps⟩
theorem getD_post {xs t : List Nat} {i : Nat} (h : xs.length ≤ i) : (xs ++ t).getD i 0 = t.getD (i - xs.length) 0 := by
  rw [List.getD_eq_getElem?_getD, List.getD_eq_getElem?_getD, List.getElem?_append_right h]
theorem Way.join {n : Net} {x w : Nat} {ys zs : List Nat} (a : Way n x ys) (u : Up n x w zs) : Way n w (ys ++ zs) := by
  have h0 := a.ne
  refine ⟨by rw [List.length_append]; omega, fun z hz => ?_, ?_, ?_, fun i hi => ?_⟩
  · rcases List.mem_append.mp hz with hz | hz
    · exact a.lt z hz
    · exact u.lt z hz
  · rw [getD_pre h0]
    exact a.first
  · have ul := u.last
    rw [List.length_append]
    cases zs with
    | nil =>
      rw [List.append_nil, List.length_nil, Nat.add_zero]
      have : x = w := ul
      rw [← this]
      exact a.last
    | cons z r =>
      rw [getD_post (by rw [List.length_cons]; omega), List.length_cons]
      rw [show ys.length + (r.length + 1) - 1 - ys.length = r.length by omega]
      exact ul
  · rw [List.length_append] at hi
    by_cases h1 : i + 1 < ys.length
    · rw [getD_pre h1, getD_pre (by omega)]
      exact a.steps i h1
    · by_cases h2 : i + 1 = ys.length
      · have e : ys.getD i 0 = x := by
          rw [show i = ys.length - 1 by omega]
          exact a.last
        have e1 : (ys ++ zs).getD i 0 = x := by rw [getD_pre (by omega), e]
        have e2 : (ys ++ zs).getD (i + 1) 0 = zs.getD 0 0 := by rw [getD_post (by omega), h2, Nat.sub_self]
        rw [e1, e2]
        cases zs with
        | nil => simp at hi; omega
        | cons z r => exact u.ch 0 (by simp)
      · have e1 : (ys ++ zs).getD i 0 = zs.getD (i - ys.length) 0 := getD_post (by omega)
        have e2 : (ys ++ zs).getD (i + 1) 0 = zs.getD (i + 1 - ys.length) 0 := getD_post (by omega)
        rw [e1, e2]
        have := u.ch (i - ys.length + 1) (by rw [List.length_cons]; omega)
        rw [show i + 1 - ys.length = i - ys.length + 1 by omega]
        exact this
end GX
set_option Elab.async false
set_option linter.all false
set_option maxRecDepth 100000
set_option maxHeartbeats 4000000
/-! Wires that tell a gate: going back from a cut. -/
namespace GX
open PySem PySem.Spec PyProof.Rows L2
theorem Rc.sub {n : Net} {st st' : List Nat} {w j y : Nat} (h : Rc n st' w j y) (s : ∀ z ∈ st, z ∈ st') : Rc n st w j y := by
  induction h with
  | here e => exact .here fun z => e (s _ z)
  | step _ hg hj hk hp hs ih => exact .step ih hg hj hk hp fun z => hs (s _ z)
/-- no input leads past them -/
def Sep (n : Net) (w : Nat) (st : List Nat) : Prop := ∀ y, Rc n st w n.many y → n.many ≤ y
theorem Sep.more {n : Net} {w : Nat} {st st' : List Nat} (h : Sep n w st) (s : ∀ z ∈ st, z ∈ st') : Sep n w st' := fun y r => h y (r.sub s)
theorem sep_first {n : Net} {w : Nat} {st : List Nat} {k : Nat × Nat × Nat} (hw : n.many ≤ w) (hk : n.gates[w - n.many]? = some k) (h : ∀ z, (z = k.2.1 ∨ z = k.2.2) → z ∈ st) : Sep n w st := by
  have all : ∀ y, Rc n st w n.many y → y = w := fun y r => by
    induction r with
    | here _ => rfl
    | step _ _ _ hk' hp hs ih =>
      subst ih
      rw [hk] at hk'
      cases hk'
      exact absurd (h _ hp) hs
  exact fun y r => by rw [all y r]; exact hw
theorem sep_step {n : Net} {w h : Nat} {st st' : List Nat} {k : Nat × Nat × Nat} (sep : Sep n w st) (hws : w ∉ st) (hh : n.many ≤ h) (hk : n.gates[h - n.many]? = some k) (keep : ∀ z ∈ st, z ≠ h → z ∈ st') (pl : ∀ z, (z = k.2.1 ∨ z = k.2.2) → z ∈ st') : Sep n w st' := by
  have all : ∀ y, Rc n st' w n.many y → Rc n st w n.many y ∨ y = h := fun y r => by
    induction r with
    | here _ => exact .inl (.here hws)
    | @step g p k' _ hg hj hk' hp hs ih =>
      rcases ih with ih | ih
      · by_cases e : p ∈ st
        · refine .inr (Classical.not_not.mp fun z => hs (keep p e z))
        · exact .inl (.step ih hg hj hk' hp e)
      · subst ih
        rw [hk] at hk'
        cases hk'
        exact absurd (pl _ hp) hs
  intro y r
  rcases all y r with a | a
  · exact sep y a
  · rw [a]
    exact hh
structure CutOk (n : Net) (gt : Nat) (ys : List Nat) : Prop where
  ne : 0 < ys.length
  lt : ∀ y ∈ ys, y < gt
  sep : Sep n gt ys
  rise : ys.Pairwise (· < ·)
theorem CutOk.short {n : Net} (ok : n.Ok) {gt : Nat} {ys : List Nat} (hg : gt < n.many + n.gates.length) (c : CutOk n gt ys) : ys.length ≤ 24 := by
  have := nodup_lt (m := n.many + n.gates.length) (c.rise.imp fun h => Nat.ne_of_lt h) fun y hy => by have := c.lt y hy; omega
  have := ok.m8
  have := ok.g16
  omega
theorem pos_of_mem {ys : List Nat} {y : Nat} (h : y ∈ ys) : 0 < ys.length := List.length_pos_of_mem h
end GX
set_option Elab.async false
set_option linter.all false
set_option maxRecDepth 100000
set_option maxHeartbeats 4000000
/-! Bits of numbers, as the texts write them. -/
namespace GX
open PySem PySem.Spec PyProof.Rows L2
theorem pt_truthK {X : Cx} {K : PySem.W.Frag} {a : Expr} {ta : TE} (ha : PE X a ta) (he : ∀ whole, isTrue a X.env whole = (do let v ← whole; standAt a.pos; holding [v] (truthy v))) (h : X.K = K := by rfl) : PT X a (fun σ H Q => ta σ H fun x H' => ∃ k, TruV K x H' k ∧ Q k H') := by subst h; exact pt_truth ha he
theorem natAt {l : List Nat} {i : Nat} (h : i < l.length) : (l.map nV)[i]? = some (nV (l.getD i 0)) := by
  rw [List.getElem?_map, List.getD_eq_getElem?_getD, List.getElem?_eq_getElem h]
  rfl
theorem mapV (xs : List Nat) : (xs.map fun n : Nat => (n : Int)).map V.int = xs.map nV := by
  rw [List.map_map]
  rfl
theorem dpNat (K : PySem.W.Frag) (H : Hp) : ∀ xs : List Nat, DpAll K H (xs.map nV) ((xs.map fun n : Nat => (n : Int)).map PyData.int)
  | [] => .nil
  | x :: r => .cons (.int _) (dpNat K H r)
theorem getSnoc {xs : List Nat} {x i : Nat} (h : i < xs.length) : (xs ++ [x]).getD i 0 = xs.getD i 0 := getD_pre h
theorem getLastN {xs : List Nat} {x : Nat} : (xs ++ [x]).getD xs.length 0 = x := by
  rw [List.getD_eq_getElem?_getD, List.getElem?_append_right (Nat.le_refl _), Nat.sub_self]
  rfl
theorem eqNats {xs ys : List Nat} (hl : xs.length = ys.length) (h : ∀ i, i < xs.length → xs.getD i 0 = ys.getD i 0) : xs = ys := by
  apply List.ext_getElem hl
  intro i h1 h2
  have := h i h1
  rw [List.getD_eq_getElem?_getD, List.getD_eq_getElem?_getD, List.getElem?_eq_getElem h1, List.getElem?_eq_getElem h2] at this
  exact this
/-- number >> place & 1 -/
theorem bit_of (r p : Nat) : Builtin.bitAnd (((r : Nat) : Int) / 2 ^ ((p : Nat) : Int).toNat) 1 = ((r / 2 ^ p % 2 : Nat) : Int) := by
  rw [bitAnd_m1, Int.toNat_natCast]
  norm_cast
theorem shl_of (p : Nat) : (1 : Int) * 2 ^ ((p : Nat) : Int).toNat = ((2 ^ p : Nat) : Int) := by
  rw [Int.toNat_natCast, Int.one_mul]
  norm_cast
theorem shl_of' (x p : Nat) : ((x : Nat) : Int) * 2 ^ ((p : Nat) : Int).toNat = ((x * 2 ^ p : Nat) : Int) := by
  rw [Int.toNat_natCast]
  norm_cast
theorem xor_of (x y : Nat) : Builtin.bitXor ((x : Nat) : Int) ((y : Nat) : Int) = ((x ^^^ y : Nat) : Int) := by
  have e : Builtin.bitAnd ((x : Nat) : Int) ((y : Nat) : Int) = ((x &&& y : Nat) : Int) := bitAnd_pp (by omega) (by omega)
  rw [bitXor_and, e]
  have h : x + y = (x ^^^ y) + 2 * (x &&& y) := by
    exact (Bits.nat_xor_add_and x y).symm
  omega
theorem bits_pow (m : Nat) : Builtin.Int.intBits (((2 ^ m : Nat)) : Int) = m + 1 := by
  apply Nat.le_antisymm
  · rw [intBits_le_iff, Int.natAbs_natCast]
    exact Nat.pow_lt_pow_right (by decide) (by omega)
  · refine Nat.lt_of_not_le fun h => ?_
    rw [intBits_le_iff, Int.natAbs_natCast] at h
    exact Nat.lt_irrefl _ h
/-- a number by its bit p: below, itself, above -/
theorem xor_pow (r p : Nat) : r ^^^ 2 ^ p = if r / 2 ^ p % 2 = 0 then r + 2 ^ p else r - 2 ^ p := by
  have hp : 0 < 2 ^ p := Nat.pow_pos (by decide)
  have hr : r % 2 ^ p < 2 ^ p := Nat.mod_lt _ hp
  have er : 2 ^ p * (r / 2 ^ p) + r % 2 ^ p = r := Nat.div_add_mod r (2 ^ p)
  generalize ha : r / 2 ^ p = a at er ⊢
  generalize hb : r % 2 ^ p = b at er hr
  have e2 : (if a % 2 = 0 then r + 2 ^ p else r - 2 ^ p) = 2 ^ p * (if a % 2 = 0 then a + 1 else a - 1) + b := by
    split
    · rw [Nat.mul_add, Nat.mul_one]
      omega
    · rename_i h
      obtain ⟨c, rfl⟩ : ∃ c, a = c + 1 := ⟨a - 1, by omega⟩
      rw [Nat.add_sub_cancel]
      rw [Nat.mul_add, Nat.mul_one] at er
      omega
  rw [e2]
  apply Nat.eq_of_testBit_eq
  intro j
  rw [Nat.testBit_xor, Nat.testBit_two_pow, Nat.testBit_two_pow_mul_add _ hr]
  conv => lhs; rw [← er, Nat.testBit_two_pow_mul_add _ hr]
  by_cases hj : j < p
  · rw [if_pos hj, if_pos hj, decide_eq_false (by omega), Bool.xor_false]
  · rw [if_neg hj, if_neg hj]
    by_cases hj2 : p = j
    · subst hj2
      rw [decide_eq_true rfl, Nat.sub_self, Nat.testBit_zero, Nat.testBit_zero]
      by_cases h0 : a % 2 = 0
      · rw [if_pos h0, decide_eq_false (by omega), decide_eq_true (by omega)]
        rfl
      · rw [if_neg h0, decide_eq_true (by omega), decide_eq_false (by omega)]
        rfl
    · rw [decide_eq_false hj2, Bool.xor_false]
      obtain ⟨k, hk⟩ : ∃ k, j - p = k + 1 := ⟨j - p - 1, by omega⟩
      rw [hk, Nat.testBit_add_one, Nat.testBit_add_one]
      congr 1
      split <;> omega
/-- a number with its bit p out -/
def clr (b p : Nat) : Nat := b - b / 2 ^ p % 2 * 2 ^ p
theorem clr_bit (b p j : Nat) : (clr b p).testBit j = (b.testBit j && decide (j ≠ p)) := by
  unfold clr
  have e := xor_pow b p
  by_cases h : b / 2 ^ p % 2 = 0
  · rw [h, Nat.zero_mul, Nat.sub_zero]
    by_cases hj : j = p
    · subst hj
      rw [Nat.testBit_eq_decide_div_mod_eq, decide_eq_false (by omega), Bool.false_and]
    · rw [decide_eq_true hj, Bool.and_true]
  · rw [if_neg h] at e
    rw [show b / 2 ^ p % 2 = 1 by omega, Nat.one_mul, ← e, Nat.testBit_xor, Nat.testBit_two_pow]
    by_cases hj : j = p
    · subst hj
      rw [decide_eq_true rfl, Nat.testBit_eq_decide_div_mod_eq, decide_eq_true (by omega), decide_eq_false (fun z => z rfl)]
      rfl
    · rw [decide_eq_false (fun z => hj z.symm), decide_eq_true hj, Bool.xor_false, Bool.and_true]
def clrs (st : List Nat) (b : Nat) : Nat := st.foldl clr b
theorem clrs_bit (st : List Nat) : ∀ b j : Nat, (clrs st b).testBit j = (b.testBit j && decide (j ∉ st)) := by
  induction st with
  | nil =>
    intro b j
    rw [decide_eq_true (List.not_mem_nil), Bool.and_true]
    rfl
  | cons p r ih =>
    intro b j
    show (clrs r (clr b p)).testBit j = _
    rw [ih, clr_bit, Bool.and_assoc]
    congr 1
    by_cases h1 : j = p
    · subst h1
      rw [decide_eq_false (fun z => z rfl), decide_eq_false (p := j ∉ j :: r) (fun z => z List.mem_cons_self), Bool.false_and]
    · rw [decide_eq_true h1, Bool.true_and]
      by_cases h2 : j ∈ r
      · rw [decide_eq_false (p := j ∉ r) (fun z => z h2), decide_eq_false (p := j ∉ p :: r) (fun z => z (List.mem_cons_of_mem _ h2))]
      · rw [decide_eq_true h2, decide_eq_true (p := j ∉ p :: r) (fun z => by rcases List.mem_cons.mp z with z | z <;> contradiction)]
theorem clr_le (b p : Nat) : clr b p ≤ b := Nat.sub_le _ _
theorem clrs_le (st : List Nat) : ∀ b, clrs st b ≤ b := by
  induction st with
  | nil => exact fun b => Nat.le_refl _
  | cons p r ih => exact fun b => Nat.le_trans (ih (clr b p)) (clr_le b p)
theorem clrs_idem (st : List Nat) (b : Nat) : clrs st (clrs st b) = clrs st b := by
  apply Nat.eq_of_testBit_eq
  intro j
  rw [clrs_bit, clrs_bit, Bool.and_assoc, Bool.and_self]
theorem clrs_xor {st : List Nat} {p : Nat} (h : p ∈ st) (b : Nat) : clrs st (b ^^^ 2 ^ p) = clrs st b := by
  apply Nat.eq_of_testBit_eq
  intro j
  rw [clrs_bit, clrs_bit, Nat.testBit_xor, Nat.testBit_two_pow]
  by_cases e : p = j
  · subst e
    rw [decide_eq_false (p := p ∉ st) (fun z => z h), Bool.and_false, Bool.and_false]
  · rw [decide_eq_false e, Bool.xor_false]
/-! ### idle places -/
def idleAt (xs : List Nat) (p : Nat) : Bool := (List.range xs.length).all fun r => decide (xs.getD r 0 = xs.getD (r ^^^ 2 ^ p) 0)
theorem idleAt_iff {xs : List Nat} {p : Nat} : idleAt xs p = true ↔ ∀ r, r < xs.length → xs.getD r 0 = xs.getD (r ^^^ 2 ^ p) 0 := by
  unfold idleAt
  rw [List.all_eq_true]
  exact ⟨fun h r hr => of_decide_eq_true (h r (List.mem_range.mpr hr)), fun h r hr => decide_eq_true (h r (List.mem_range.mp hr))⟩
def idles (xs : List Nat) (m : Nat) : List Nat := (List.range m).filter fun p => idleAt xs p
/-- .. by the lower ones alone -/
theorem idleAt_low {xs : List Nat} {m p : Nat} (hl : xs.length = 2 ^ m) (hp : p < m) : idleAt xs p = true ↔ ∀ r, r < xs.length → r / 2 ^ p % 2 = 0 → xs.getD r 0 = xs.getD (r + 2 ^ p) 0 := by
  rw [idleAt_iff]
  refine ⟨fun h r hr h0 => ?_, fun h r hr => ?_⟩
  · have := h r hr
    rw [xor_pow, if_pos h0] at this
    exact this
  · by_cases h0 : r / 2 ^ p % 2 = 0
    · rw [xor_pow, if_pos h0]
      exact h r hr h0
    · have e := xor_pow r p
      rw [if_neg h0] at e
      have lt : r ^^^ 2 ^ p < xs.length := by
        rw [hl] at hr ⊢
        exact Nat.xor_lt_two_pow hr (Nat.pow_lt_pow_right (by decide) hp)
      have hb : (r ^^^ 2 ^ p) / 2 ^ p % 2 = 0 := by
        have t : (r ^^^ 2 ^ p).testBit p = false := by
          rw [Nat.testBit_xor, Nat.testBit_two_pow, decide_eq_true rfl, Nat.testBit_eq_decide_div_mod_eq, decide_eq_true (by omega)]
          rfl
        rw [Nat.testBit_eq_decide_div_mod_eq] at t
        have := of_decide_eq_false t
        omega
      have q := h _ lt hb
      have back : (r ^^^ 2 ^ p) + 2 ^ p = r := by
        have h1 := xor_pow (r ^^^ 2 ^ p) p
        rw [if_pos hb, Nat.xor_assoc, Nat.xor_self, Nat.xor_zero] at h1
        exact h1.symm
      rw [back] at q
      exact q.symm
theorem add_pow_lt {r m p : Nat} (hr : r < 2 ^ m) (hp : p < m) (h0 : r / 2 ^ p % 2 = 0) : r + 2 ^ p < 2 ^ m := by
  have e := xor_pow r p
  rw [if_pos h0] at e
  rw [← e]
  exact Nat.xor_lt_two_pow hr (Nat.pow_lt_pow_right (by decide) hp)
theorem pow8 {m : Nat} (h : m ≤ 8) : 2 ^ m ≤ 256 := Nat.pow_le_pow_right (by decide) h
theorem small256 {n : Nat} (h : n ≤ 10000) : n < sizeLine := Nat.lt_of_le_of_lt h (by decide)
end GX
set_option Elab.async false
set_option linter.all false
set_option maxRecDepth 100000
set_option maxHeartbeats 4000000
/-! Tuples at a list of addresses. -/
namespace GX
open PySem PySem.Spec PyProof.Rows L2
def RefsAt {α : Type} (f : α → List V) (H : Hp) (ps : List Addr) (xs : List α) : Prop := ps.length = xs.length ∧ ∀ (i : Nat) (p : Addr) (x : α), ps[i]? = some p → xs[i]? = some x → H p = some (.tup (f x))
theorem atLast {xs : List V} {v : V} (h : xs[xs.length - 1]? = some v) : atI xs (-1) = some v := by
  have hl := (List.getElem?_eq_some_iff.mp h).1
  unfold atI
  have e : ixN xs.length (-1) = some (xs.length - 1) := by
    unfold ixN
    rw [if_neg (by decide)]
    first
      | rw [if_pos (by omega)]; congr 1; omega
      | simp; omega
  rw [e]
  exact h
section
variable {α : Type} {f : α → List V} {H H' : Hp} {ps : List Addr} {xs : List α}
theorem RefsAt.nil (f : α → List V) (H : Hp) : RefsAt f H [] [] := ⟨rfl, fun i p g e _ => by simp at e⟩
theorem RefsAt.mono (x : RefsAt f H ps xs) (k : ∀ b zs, H b = some (.tup zs) → H' b = some (.tup zs)) : RefsAt f H' ps xs := ⟨x.1, fun i p g e1 e2 => k _ _ (x.2 i p g e1 e2)⟩
theorem RefsAt.push {q : Addr} {y : α} (x : RefsAt f H ps xs) (h : H q = some (.tup (f y))) : RefsAt f H (ps ++ [q]) (xs ++ [y]) := by
  refine ⟨by rw [List.length_append, List.length_append, x.1]; rfl, fun i r g e1 e2 => ?_⟩
  by_cases hi : i < ps.length
  · rw [List.getElem?_append_left hi] at e1
    rw [List.getElem?_append_left (by rw [← x.1]; exact hi)] at e2
    exact x.2 i r g e1 e2
  · rw [List.getElem?_append_right (by omega)] at e1
    rw [List.getElem?_append_right (by rw [← x.1]; omega)] at e2
    have hz : i - ps.length = 0 := by
      obtain ⟨h1, _⟩ := List.getElem?_eq_some_iff.mp e1
      simp at h1
      omega
    rw [hz] at e1
    rw [← x.1, hz] at e2
    cases e1
    cases e2
    exact h
theorem RefsAt.at_ (x : RefsAt f H ps xs) {i : Nat} {v : V} (e : (ps.map V.ref)[i]? = some v) : ∃ q y, v = .ref q ∧ xs[i]? = some y ∧ H q = some (.tup (f y)) := by
  rw [List.getElem?_map] at e
  cases h : ps[i]? with
  | none => rw [h] at e; cases e
  | some q =>
    rw [h] at e
    cases e
    have h2 : i < xs.length := by rw [← x.1]; exact (List.getElem?_eq_some_iff.mp h).1
    exact ⟨q, xs[i], rfl, List.getElem?_eq_getElem h2, x.2 i q _ h (List.getElem?_eq_getElem h2)⟩
theorem RefsAt.get (x : RefsAt f H ps xs) {i : Nat} {y : α} (e : xs[i]? = some y) : ∃ q, (ps.map V.ref)[i]? = some (.ref q) ∧ H q = some (.tup (f y)) := by
  have h2 : i < ps.length := by rw [x.1]; exact (List.getElem?_eq_some_iff.mp e).1
  exact ⟨ps[i], by rw [List.getElem?_map, List.getElem?_eq_getElem h2]; rfl, x.2 i _ y (List.getElem?_eq_getElem h2) e⟩
end
end GX
namespace GX
open PySem PySem.Spec PyProof.Rows L2
/-- things of any make at a list of addresses -/
def PtsAt {α : Type} (R : Hp → Addr → α → Prop) (H : Hp) (ps : List Addr) (xs : List α) : Prop := ps.length = xs.length ∧ ∀ (i : Nat) (p : Addr) (x : α), ps[i]? = some p → xs[i]? = some x → R H p x
section
variable {α : Type} {R : Hp → Addr → α → Prop} {H H' : Hp} {ps : List Addr} {xs : List α}
theorem PtsAt.nil (R : Hp → Addr → α → Prop) (H : Hp) : PtsAt R H [] [] := ⟨rfl, fun i p g e _ => by simp at e⟩
theorem PtsAt.mono (x : PtsAt R H ps xs) (k : ∀ p y, R H p y → R H' p y) : PtsAt R H' ps xs := ⟨x.1, fun i p g e1 e2 => k _ _ (x.2 i p g e1 e2)⟩
theorem PtsAt.cons {q : Addr} {y : α} (x : PtsAt R H ps xs) (h : R H q y) : PtsAt R H (q :: ps) (y :: xs) := by
  refine ⟨by rw [List.length_cons, List.length_cons, x.1], fun i r g e1 e2 => ?_⟩
  cases i with
  | zero =>
    cases e1
    cases e2
    exact h
  | succ i => exact x.2 i r g e1 e2
theorem PtsAt.push {q : Addr} {y : α} (x : PtsAt R H ps xs) (h : R H q y) : PtsAt R H (ps ++ [q]) (xs ++ [y]) := by
  refine ⟨by rw [List.length_append, List.length_append, x.1]; rfl, fun i r g e1 e2 => ?_⟩
  by_cases hi : i < ps.length
  · rw [List.getElem?_append_left hi] at e1
    rw [List.getElem?_append_left (by rw [← x.1]; exact hi)] at e2
    exact x.2 i r g e1 e2
  · rw [List.getElem?_append_right (by omega)] at e1
    rw [List.getElem?_append_right (by rw [← x.1]; omega)] at e2
    have hz : i - ps.length = 0 := by
      obtain ⟨h1, _⟩ := List.getElem?_eq_some_iff.mp e1
      simp at h1
      omega
    rw [hz] at e1
    rw [← x.1, hz] at e2
    cases e1
    cases e2
    exact h
theorem PtsAt.at_ (x : PtsAt R H ps xs) {i : Nat} {v : V} (e : (ps.map V.ref)[i]? = some v) : ∃ q y, v = .ref q ∧ xs[i]? = some y ∧ R H q y := by
  rw [List.getElem?_map] at e
  cases h : ps[i]? with
  | none => rw [h] at e; cases e
  | some q =>
    rw [h] at e
    cases e
    have h2 : i < xs.length := by rw [← x.1]; exact (List.getElem?_eq_some_iff.mp h).1
    exact ⟨q, xs[i], rfl, List.getElem?_eq_getElem h2, x.2 i q _ h (List.getElem?_eq_getElem h2)⟩
theorem PtsAt.get (x : PtsAt R H ps xs) {i : Nat} {y : α} (e : xs[i]? = some y) : ∃ q, (ps.map V.ref)[i]? = some (.ref q) ∧ R H q y := by
  have h2 : i < ps.length := by rw [x.1]; exact (List.getElem?_eq_some_iff.mp e).1
  exact ⟨ps[i], by rw [List.getElem?_map, List.getElem?_eq_getElem h2]; rfl, x.2 i _ y (List.getElem?_eq_getElem h2) e⟩
end
end GX
set_option Elab.async false
set_option linter.all false
set_option maxRecDepth 100000
set_option maxHeartbeats 4000000
namespace GX
open PySem PySem.Spec PyProof.Rows L2
/-- the well, the tables stand; all else is kept -/
structure Dk (W : Addr) (Ts : List Addr) (H H' : Hp) : Prop where
  wl : Wl H' W
  tb : Tabs Ts H'
  kp : Keep (W :: Ts) H H'
theorem Dk.aft {W : Addr} {Ts : List Addr} {H H1 H2 : Hp} (d : Dk W Ts H H1) (a : Aft Ts H1 H2) : Dk W Ts H H2 := ⟨d.wl.keep a.kp (d.wl.tab d.tb), a.tb, d.kp.trans (a.kp.mono fun b hb => List.mem_cons_of_mem _ hb)⟩
theorem Dk.same {W : Addr} {Ts : List Addr} {H H1 H2 : Hp} (d : Dk W Ts H H1) (s : Same H1 H2) : Dk W Ts H H2 := d.aft (Aft.ofSame d.tb s)
theorem Wk.tabs {W : Addr} {Ts : List Addr} {H H1 : Hp} (wl : Wl H W) (tb : Tabs Ts H) (s : Wk W H H1) : Tabs Ts H1 := tb.keep s.kp fun b hb => by rw [List.mem_singleton.mp hb]; exact wl.tab tb
theorem Dk.draw {W : Addr} {Ts : List Addr} {H H1 H2 : Hp} (d : Dk W Ts H H1) (s : Wk W H1 H2) : Dk W Ts H H2 := ⟨s.wl, s.tabs d.wl d.tb, d.kp.trans (s.kp.mono fun b hb => by rw [List.mem_singleton.mp hb]; exact List.mem_cons_self)⟩
/-- a list of our own, made behind H, is changed -/
theorem Dk.put {W : Addr} {Ts : List Addr} {H H1 : Hp} {l : Addr} {o : HO} {xs : List V} (d : Dk W Ts H H1) (nl : H l = none) (hl : H1 l = some (.lst xs)) (nW : l ≠ W) : Dk W Ts H (upd H1 l o) :=
  ⟨by obtain ⟨x, y, z, e⟩ := d.wl; exact ⟨x, y, z, by rw [upd_ne (fun z => nW z.symm)]; exact e⟩, d.tb.upd (d.tb.lst hl), fun b u e n => by rw [upd_ne (ne_of_none e nl)]; exact d.kp b u e n⟩
theorem Dk.was {W : Addr} {Ts : List Addr} {H H1 : Hp} {l : Addr} (d : Dk W Ts H H1) (n : H1 l = none) : H l = none ∧ l ≠ W := by
  have hW : l ≠ W := fun z => by
    obtain ⟨_, _, _, e⟩ := d.wl
    rw [← z, n] at e
    cases e
  refine ⟨?_, hW⟩
  cases e : H l with
  | none => rfl
  | some u =>
    have := d.kp _ _ e fun z => by
      rcases List.mem_cons.mp z with z | z
      · exact hW z
      · exact d.tb.none n z
    rw [n] at this
    cases this
theorem Wk.put' {W : Addr} {H H' : Hp} {l : Addr} {o : HO} (s : Wk W H H') (nl : H l = none) (nW : l ≠ W) : Wk W H (upd H' l o) := by
  obtain ⟨⟨a, b, c, e⟩, k⟩ := s
  exact ⟨⟨a, b, c, by rw [upd_ne (Ne.symm nW)]; exact e⟩, fun b u e hb => by rw [upd_ne (ne_of_none e nl)]; exact k b u e hb⟩
theorem Wk.was' {W : Addr} {H H' : Hp} {l : Addr} (s : Wk W H H') (n : H' l = none) : H l = none ∧ l ≠ W := by
  obtain ⟨⟨a, b, c, e⟩, k⟩ := s
  have hW : l ≠ W := fun z => by
    rw [← z, n] at e
    cases e
  refine ⟨?_, hW⟩
  cases e : H l with
  | none => rfl
  | some u =>
    have := k _ _ e fun z => hW (List.mem_singleton.mp z)
    rw [n] at this
    cases this
theorem Wk.ats {W : Addr} {H H' : Hp} {l : Addr} {o : HO} (k : Keep [W] H H') (nW : l ≠ W) (e : H l = some o) : H' l = some o := k _ _ e fun z => nW (List.mem_singleton.mp z)
def natOf (σ : L2.St) (i : Nat) : Nat := match σ[i]? with
  | some (some (V.int z)) => z.toNat
  | _ => 0
def lenOf (σ : L2.St) (H : Hp) (i : Nat) : Nat := match σ[i]? with
  | some (some (V.ref l)) => match H l with
    | some (HO.lst xs) => xs.length
    | _ => 0
  | _ => 0
end GX
set_option Elab.async false
set_option linter.all false
set_option maxRecDepth 100000
set_option maxHeartbeats 4000000
/-! list(reversed(xs)), xs a list. -/
namespace GX
open PySem PySem.Spec PyProof.Rows L2 RT
section
variable {P : Program} {w : World} {A : Around} {E : Value → Shared → Prop} {s : Shared}
/-- what is taken off a list from behind -/
abbrev BackOf (its : Array Value) (i : Nat) (v : Value) : Prop := its[its.size - 1 - i]? = some v
theorem ext_rev {R : Result → Shared → Prop} {it l S : Addr} {its : Array Value} {res : Value} {c0 : Nat} (hh : A.handled = none) (r : s.heap.IsRevIter it l ((its.size : Int) - 1)) (hl : s.heap.IsList l its) (ne : l ≠ it) (hz : its.size ≤ sizeLine)
    (nI : S ≠ it) (nl : S ≠ l) (hS : s.heap.get? S = some { cls := .type "list", data := .seq #[] c0 })
    (q : ∀ g tk acc c, (∀ b o, b ≠ S → b ≠ it → s.heap.get? b = some o → g.get? b = some o) → g.get? S = some { cls := .type "list", dict := none, data := .seq acc c, slots := #[] } → ItemsOf (BackOf its) acc its.size → R (.ok (.ret res)) { s with heap := g, toks := tk }) :
    wpAny (model P w) A.in1 (Builtin.List.listExtendWith (.ref S) (.ref it) res)
      (fun fin t => match fin with | .done f => R (.ok f) t | .again c' => c'.quiet = true ∧ codeAny (model P w) A c' R t) (fun e t => R (.error e) t) s := by
  have wk := (Walks.listRev (prog := P) (w := w) (A := A.in1) hh it l ne its).toS
  have ty : s.TypeIs (.ref it) "list_reverseiterator" := r.typeIs
  have nf : S ∉ [it, l] := fun z => by
    rcases List.mem_cons.mp z with z | z
    · exact nI z
    · exact nl (List.mem_singleton.mp z)
  have ns : Builtin.List.listSameRef (.ref S) (.ref it) = false := by simp [Builtin.List.listSameRef, nI]
  unfold Builtin.List.listExtendWith
  refine wpAny_bind (wpAny_typeOf ty ?_)
  rw [if_neg (by rw [ns]; decide)]
  refine wpAny_bind (wpAny_pyIter_revIter r ?_)
  refine wpAny_bind (wpAny_holding ?_)
  unfold Builtin.List.listLengthHint
  refine wpAny_bind (wpAny_specialOf ty nolen_lri ?_)
  show wpAny _ A.in1 (specialOf (Value.ref it) (Str.ofString "__length_hint__") >>= _) _ _ s
  refine wpAny_bind (wpAny_specialOf ty hint_lri ?_)
  generalize hj : ("list_reverseiterator.__length_hint__" : String) = j
  wp_delta
  rw [show splitId j = some ("list_reverseiterator", "__length_hint__") from by subst hj; decide +kernel]
  subst hj
  refine wpAny_bind (wpAny_isInstance (b := true) ty (by rw [isSubtype_type]; kernel_rfl) ?_)
  refine wpAny_pure ?_
  rw [if_neg (by decide)]
  have z0 : ((its.size : Nat) : Int) - 1 - ((0 : Nat) : Int) = (its.size : Int) - 1 := by omega
  refine wpAny_pure ⟨plainId_quiet F.plain_extend_loop _, codeAny_extend_loopS wk hz S nf res its.size 0 s #[] c0 rfl (Nat.zero_le _) ⟨Nat.zero_le _, by rw [z0]; exact r, hl⟩ hS (ItemsOf.nil _) fun t acc c mv hS' hi => ?_⟩
  rw [Moved.eq_with mv]
  refine q t.heap t.toks acc c (fun b o h1 h2 e => mv.heap b o (fun z => ?_) e) hS' hi
  rcases List.mem_cons.mp z with z | z
  · exact h1 z
  · exact h2 (List.mem_singleton.mp z)
theorem call_list_rev {it l : Addr} {its : Array Value} {Q : Value → Shared → Prop} (hh : A.handled = none) (r : s.heap.IsRevIter it l ((its.size : Int) - 1)) (hl : s.heap.IsList l its) (ne : l ≠ it) (hz : its.size ≤ sizeLine)
    (q : ∀ g tk acc c, (∀ b o, b ≠ it → s.heap.get? b = some o → g.get? b = some o) → g.get? s.heap.objs.size = some { cls := .type "list", dict := none, data := .seq acc c, slots := #[] } → ItemsOf (BackOf its) acc its.size → Q (.ref s.heap.objs.size) { s with heap := g, toks := tk }) :
    wpAny (model P w) A (call (.type "list") [.ref it]) Q E s := by
  have n1 : s.heap.objs.size ≠ it := by obtain ⟨o, h, _⟩ := id r; exact Nat.ne_of_gt (Heap.lt_size h)
  have n2 : s.heap.objs.size ≠ l := by obtain ⟨o, h, _⟩ := id hl; exact Nat.ne_of_gt (Heap.lt_size h)
  refine callType_codes (Q₁ := fun v t => v = .ref s.heap.objs.size ∧ t = { s with heap := s.heap.push { cls := .type "list", data := .seq #[] } }) F.called_list (F.typeCall_list_1 _) F.entry_list_init
    (code_list_new _ ⟨rfl, rfl⟩) fun v t ht => ?_
  obtain ⟨rfl, rfl⟩ := ht
  have e0 : (s.heap.push { cls := .type "list", data := .seq #[] }).get? s.heap.objs.size = some { cls := .type "list", data := .seq #[] } := Heap.get?_push_size _ rfl
  refine ⟨⟨_, e0, rfl⟩, F.args_list_init_2 _ _, ?_⟩
  show wpAny _ A.in1.in1 (do let x ← Builtin.List.listItems (.ref s.heap.objs.size); Builtin.List.listUpdate (.ref s.heap.objs.size) (fun _ => #[]); letGo x.toList.reverse; Builtin.List.listExtendWith (.ref s.heap.objs.size) (.ref it) .none) _ _ _
  refine wpAny_bind ?_
  unfold Builtin.List.listItems
  refine wpAny_bind (wpAny_seqItems e0 rfl (wpAny_pure ?_))
  show wpAny _ A.in1.in1 (updateSeq s.heap.objs.size (fun _ => #[]) >>= fun _ => letGo (#[] : Array Value).toList.reverse >>= fun _ => Builtin.List.listExtendWith (.ref s.heap.objs.size) (.ref it) .none) _ _ _
  refine wpAny_bind (wpAny_updateSeq e0 rfl ?_)
  have e1 := Heap.get?_update_self (Obj.mapSeq (fun _ => (#[] : Array Value))) e0 rfl
  have up : ∀ b o, b ≠ s.heap.objs.size → s.heap.get? b = some o → ((s.heap.push { cls := .type "list", data := .seq #[] }).update s.heap.objs.size (Obj.mapSeq (fun _ => (#[] : Array Value)))).get? b = some o := fun b o hb e =>
    (Heap.get?_update_other _ _ (Ne.symm hb)).trans (Heap.get?_push_of_some _ e)
  refine wpAny_bind (wpAny_letGo ?_)
  refine ext_rev (A := A.in1) hh ?_ ?_ ne hz n1 n2 e1 fun g tk acc c kp hS hi => ⟨rfl, q g tk acc c (fun b o hb e => ?_) hS hi⟩
  · exact r.at fun o e => up _ o (Ne.symm n1) e
  · obtain ⟨o, h, k⟩ := id hl
    exact ⟨o, up _ o (Ne.symm n2) h, k⟩
  · have hb' : b ≠ s.heap.objs.size := Nat.ne_of_lt (Heap.lt_size e)
    exact kp b o hb' hb (up b o hb' e)
end
section
variable {X : Cx}
def tLstRev (K : PySem.W.Frag) (te : TE) : TE := fun σ H Q => te σ H fun v H1 => ∃ (a : Addr) (xs : List V), v = .ref a ∧ SqL K H1 a xs ∧ ∀ l, H1 l = none → Q (.ref l) (upd H1 l (.lst xs.reverse))
theorem pe_lstRev {e : Expr} {te : TE} {p p2 pos pos2 : Pos} (hc : X.calm = true) (g1 : Gl X "list") (m1 : X.mg "list" = none) (g2 : Gl X "reversed") (m2 : X.mg "reversed" = none) (he : PE X e te)
    (s1 : starEach [e] X.env = (false, eval e X.env) :: starEach [] X.env := by rfl)
    (s2 : starEach [.Call (.Name "reversed" p2) [e] [] pos2] X.env = (false, eval (.Call (.Name "reversed" p2) [e] [] pos2) X.env) :: starEach [] X.env := by rfl) :
    PE X (.Call (.Name "list" p) [.Call (.Name "reversed" p2) [e] [] pos2] [] pos) (tLstRev X.K te) := by
  refine ⟨fun pins s σ H Q I h => ?_⟩
  refine Call_ (ld_blt I g1 m1 boot_list (PyProof.Rows.callWith_type1 (args_cons (Call_ (ld_blt I g2 m2 PyProof.Rows.boot_reversed (PyProof.Rows.callWith_type1 (args_cons (thn (he.run pins s σ H _ I h) fun u t ⟨v, H1, I1, r1, q1⟩ => args_nil ?_) s1) s1 rfl))) s2) s2 rfl))
  obtain ⟨a, xs, ev, hq, q⟩ := q1
  subst ev
  obtain rfl : u = Value.ref a := r1
  obtain ⟨its, rv, pl, hz⟩ := I1.list hq
  refine call_reversed_list pl.isList (args_nil ?_)
  have hl := pl.isList
  have ne : a ≠ t.heap.objs.size := by obtain ⟨o, ho, _⟩ := id hl; exact Nat.ne_of_lt (Heap.lt_size ho)
  have hn : its.toArray.size ≤ sizeLine := by rw [List.size_toArray, ← rv.length]; exact hz
  refine call_list_rev (s := { t with heap := t.heap.push (revObj a ((its.toArray.size : Int) - 1)) }) (I1.ok.hd hc) ⟨_, Heap.get?_push_size _ rfl, rfl, rfl⟩ (hl.push _) ne hn fun g tk acc c kp hS hi => ?_
  have le : t.heap.objs.size ≤ (t.heap.push (revObj a ((its.toArray.size : Int) - 1))).objs.size := by rw [Heap.size_push]; exact Nat.le_succ _
  refine ⟨.ref (t.heap.push (revObj a ((its.toArray.size : Int) - 1))).objs.size, _, I1.laid (t' := tk) (fun b o e => kp b o (Nat.ne_of_lt (Heap.lt_size e)) (Heap.get?_push_of_some _ e)) le (show ObjOk X.prog X.w _ g _ (.lst xs.reverse) from ⟨by rw [List.length_reverse]; exact hz, acc.toList, c, vals_rev rv hi, ?_⟩), rfl, q _ (I1.hok.fresh le)⟩
  rw [Array.toArray_toList]
  exact hS
end
end GX
set_option Elab.async false
set_option linter.all false
set_option maxRecDepth 100000
set_option maxHeartbeats 4000000
/-! A deck: a list with a list of cells, a seed and a count. -/
namespace GX
open PySem PySem.Spec PyProof.Rows L2
structure Wd (H : Hp) (W C : Addr) : Prop where
  ex : ∃ (ns : List Int) (a b : Int), H W = some (.lst [.ref C, .int a, .int b]) ∧ H C = some (.lst (ns.map V.int)) ∧ ns.length ≤ 64
  ne : W ≠ C
theorem Wd.nt {H : Hp} {W C : Addr} (h : Wd H W C) : ∀ b ∈ [W, C], ∀ xs, H b ≠ some (.tup xs) := fun b hb xs e => by
  obtain ⟨ns, a, c, e1, e2, _⟩ := h.ex
  rcases List.mem_cons.mp hb with z | z
  · rw [z, e1] at e
    cases e
  · rw [List.mem_singleton.mp z, e2] at e
    cases e
theorem Wd.same {H H' : Hp} {W C : Addr} (h : Wd H W C) (s : Same H H') : Wd H' W C := by
  obtain ⟨⟨ns, a, c, e1, e2, l⟩, ne⟩ := h
  exact ⟨⟨ns, a, c, s _ _ e1, s _ _ e2, l⟩, ne⟩
theorem Wd.keep {X : List Addr} {H H' : Hp} {W C : Addr} (h : Wd H W C) (k : Keep X H H') (n : W ∉ X) (m : C ∉ X) : Wd H' W C := by
  obtain ⟨⟨ns, a, c, e1, e2, l⟩, ne⟩ := h
  exact ⟨⟨ns, a, c, k _ _ e1 n, k _ _ e2 m, l⟩, ne⟩
theorem Wd.tabW {Ts : List Addr} {H : Hp} {W C : Addr} (h : Wd H W C) (t : Tabs Ts H) : W ∉ Ts := by
  obtain ⟨ns, a, c, e1, e2, _⟩ := h.ex
  exact t.lst e1
theorem Wd.tabC {Ts : List Addr} {H : Hp} {W C : Addr} (h : Wd H W C) (t : Tabs Ts H) : C ∉ Ts := by
  obtain ⟨ns, a, c, e1, e2, _⟩ := h.ex
  exact t.lst e2
/-- the deck stands, all else is kept -/
structure Wk2 (W C : Addr) (H H' : Hp) : Prop where
  wl : Wd H' W C
  kp : Keep [W, C] H H'
theorem Wk2.nxt {W C : Addr} {H H1 H2 : Hp} (s : Wk2 W C H H1) (t : Wk2 W C H1 H2) : Wk2 W C H H2 := ⟨t.wl, s.kp.trans t.kp⟩
theorem Wk2.same {W C : Addr} {H H1 H2 : Hp} (s : Wk2 W C H H1) (e : Same H1 H2) : Wk2 W C H H2 := ⟨s.wl.same e, s.kp.trans (Same.keep e)⟩
theorem Wk2.new {W C : Addr} {H H1 : Hp} {p : Addr} {o : HO} (s : Wk2 W C H H1) (n : H1 p = none) : Wk2 W C H (upd H1 p o) := s.same (Same.new n)
theorem Wk2.refl {W C : Addr} {H : Hp} (h : Wd H W C) : Wk2 W C H H := ⟨h, Keep.refl⟩
theorem Wd.tup {H H' : Hp} {W C : Addr} (h : Wd H W C) (k : Wk2 W C H H') {b : Addr} {xs : List V} (e : H b = some (.tup xs)) : H' b = some (.tup xs) := k.kp.tups h.nt b xs e
theorem Wd.new {H : Hp} {W C l : Addr} (h : Wd H W C) (n : H l = none) : l ≠ W ∧ l ≠ C := by
  obtain ⟨ns, a, c, e1, e2, _⟩ := h.ex
  refine ⟨fun z => ?_, fun z => ?_⟩
  · rw [← z, n] at e1
    cases e1
  · rw [← z, n] at e2
    cases e2
theorem Wk2.at_ {W C : Addr} {H H' : Hp} {l : Addr} {o : HO} (k : Wk2 W C H H') (n : l ≠ W ∧ l ≠ C) (e : H l = some o) : H' l = some o := k.kp _ _ e fun z => by
  rcases List.mem_cons.mp z with z | z
  · exact n.1 z
  · exact n.2 (List.mem_singleton.mp z)
theorem Wk2.was {W C : Addr} {H H' : Hp} {l : Addr} (k : Wk2 W C H H') (n : H' l = none) : H l = none := by
  obtain ⟨n1, n2⟩ := k.wl.new n
  cases e : H l with
  | none => rfl
  | some u =>
    have := k.at_ ⟨n1, n2⟩ e
    rw [n] at this
    cases this
/-- a list of our own is changed -/
theorem Wk2.put {W C : Addr} {H H' : Hp} {l : Addr} {o : HO} (s : Wk2 W C H H') (nl : H l = none) (n : l ≠ W ∧ l ≠ C) : Wk2 W C H (upd H' l o) := by
  obtain ⟨⟨⟨ns, a, c, e1, e2, z⟩, ne⟩, k⟩ := s
  exact ⟨⟨⟨ns, a, c, by rw [upd_ne (Ne.symm n.1)]; exact e1, by rw [upd_ne (Ne.symm n.2)]; exact e2, z⟩, ne⟩, fun b u e hb => by rw [upd_ne (ne_of_none e nl)]; exact k b u e hb⟩
theorem tupPut {H : Hp} {l : Addr} {xs ys : List V} (h : H l = some (.lst xs)) : ∀ b zs, H b = some (.tup zs) → upd H l (.lst ys) b = some (.tup zs) := fun b zs e => by
  rw [upd_ne (fun z => by rw [z, h] at e; cases e)]
  exact e
/-- the deck, the tables stand; all else is kept -/
structure Dk2 (W C : Addr) (Ts : List Addr) (H H' : Hp) : Prop where
  wl : Wd H' W C
  tb : Tabs Ts H'
  kp : Keep (W :: C :: Ts) H H'
theorem Dk2.aft {W C : Addr} {Ts : List Addr} {H H1 H2 : Hp} (d : Dk2 W C Ts H H1) (a : Aft Ts H1 H2) : Dk2 W C Ts H H2 := ⟨d.wl.keep a.kp (d.wl.tabW d.tb) (d.wl.tabC d.tb), a.tb, d.kp.trans (a.kp.mono fun b hb => List.mem_cons_of_mem _ (List.mem_cons_of_mem _ hb))⟩
theorem Dk2.same {W C : Addr} {Ts : List Addr} {H H1 H2 : Hp} (d : Dk2 W C Ts H H1) (s : Same H1 H2) : Dk2 W C Ts H H2 := d.aft (Aft.ofSame d.tb s)
theorem Wk2.tabs {W C : Addr} {Ts : List Addr} {H H1 : Hp} (wl : Wd H W C) (tb : Tabs Ts H) (s : Wk2 W C H H1) : Tabs Ts H1 := tb.keep s.kp fun b hb => by
  rcases List.mem_cons.mp hb with z | z
  · rw [z]; exact wl.tabW tb
  · rw [List.mem_singleton.mp z]; exact wl.tabC tb
theorem Dk2.draw {W C : Addr} {Ts : List Addr} {H H1 H2 : Hp} (d : Dk2 W C Ts H H1) (s : Wk2 W C H1 H2) : Dk2 W C Ts H H2 := ⟨s.wl, s.tabs d.wl d.tb, d.kp.trans (s.kp.mono fun b hb => by
  rcases List.mem_cons.mp hb with z | z
  · rw [z]; exact List.mem_cons_self
  · rw [List.mem_singleton.mp z]; exact List.mem_cons_of_mem _ List.mem_cons_self)⟩
theorem Dk2.put {W C : Addr} {Ts : List Addr} {H H1 : Hp} {l : Addr} {o : HO} {xs : List V} (d : Dk2 W C Ts H H1) (nl : H l = none) (hl : H1 l = some (.lst xs)) (n : l ≠ W ∧ l ≠ C) : Dk2 W C Ts H (upd H1 l o) :=
  ⟨by obtain ⟨⟨ns, x, y, e, e2, z⟩, ne⟩ := d.wl; exact ⟨⟨ns, x, y, by rw [upd_ne (Ne.symm n.1)]; exact e, by rw [upd_ne (Ne.symm n.2)]; exact e2, z⟩, ne⟩, d.tb.upd (d.tb.lst hl), fun b u e m => by rw [upd_ne (ne_of_none e nl)]; exact d.kp b u e m⟩
theorem Dk2.was {W C : Addr} {Ts : List Addr} {H H1 : Hp} {l : Addr} (d : Dk2 W C Ts H H1) (n : H1 l = none) : H l = none := by
  obtain ⟨n1, n2⟩ := d.wl.new n
  cases e : H l with
  | none => rfl
  | some u =>
    have := d.kp _ _ e fun z => by
      rcases List.mem_cons.mp z with z | z
      · exact n1 z
      · rcases List.mem_cons.mp z with z | z
        · exact n2 z
        · exact d.tb.none n z
    rw [n] at this
    cases this
theorem Own.same' {H H1 H2 : Hp} {l : Addr} {xs : List V} (o : Own H H1 l xs) (s : Same H1 H2) : Own H H2 l xs := ⟨o.sm.trans s, s _ _ o.at_, o.nw⟩
/-- a while by a measure, its test read once -/
theorem while_at {c : TT} {tb : TS} {D : Ends} {σ : L2.St} {H : Hp} (Pv : L2.St → Hp → Prop) (μ : L2.St → Hp → Nat) (h0 : Pv σ H)
    (hs : ∀ σ H, Pv σ H → c σ H fun b H1 => if b = true then ∃ N : L2.St → Hp → Prop, (∀ σ' H', N σ' H' → ∃ m', m' < μ σ H ∧ (m' = μ σ' H' ∧ Pv σ' H')) ∧ tb { D with nx := N, ct := N, bk := D.nx } σ H1 else D.nx σ H1) : tWhile c tb D σ H := by
  refine ⟨fun m σ H => m = μ σ H ∧ Pv σ H, ⟨_, rfl, h0⟩, ?_⟩
  rintro m σ H ⟨rfl, p⟩
  exact hs σ H p
theorem whN {Pv : L2.St → Hp → Prop} {μ : L2.St → Hp → Nat} {m : Nat} : ∀ σ' H', (Pv σ' H' ∧ μ σ' H' < m) → ∃ m', m' < m ∧ (m' = μ σ' H' ∧ Pv σ' H') := fun σ' H' h => ⟨_, h.2, rfl, h.1⟩
theorem dpInt (K : PySem.W.Frag) (H : Hp) : ∀ xs : List Int, DpAll K H (xs.map V.int) (xs.map PyData.int)
  | [] => .nil
  | x :: r => .cons (.int _) (dpInt K H r)
theorem eqvAllN {xs : List PyData} : PyData.eqvAll xs [] = decide (xs.length = 0) := by cases xs <;> rfl
theorem len64 {n : Nat} (h : n ≤ 100000) : n < sizeLine := Nat.lt_of_le_of_lt h (by decide)
end GX
set_option Elab.async false
set_option linter.all false
set_option maxRecDepth 100000
set_option maxHeartbeats 4000000
/-! Covers as data, and how they stand in the heap; dicts of wires. -/
namespace GX
open PySem PySem.Spec PyProof.Rows L2
theorem Same.was {H H' : Hp} {l : Addr} (s : Same H H') (n : H' l = none) : H l = none := by
  cases e : H l with
  | none => rfl
  | some u => cases ((s _ _ e).symm.trans n)
abbrev Tb := Nat × List Nat
def TbAt (H : Hp) (p : Addr) (t : Tb) : Prop := ∃ c, H p = some (.tup [nV t.1, .ref c]) ∧ H c = some (.tup (t.2.map nV))
theorem TbAt.mono {H H' : Hp} (k : ∀ b xs, H b = some (.tup xs) → H' b = some (.tup xs)) (p : Addr) (t : Tb) (x : TbAt H p t) : TbAt H' p t := by
  obtain ⟨c, h1, h2⟩ := x
  exact ⟨c, k _ _ h1, k _ _ h2⟩
structure CovAt (H : Hp) (a : Addr) (cv : List Tb) (ps : List Addr) : Prop where
  top : H a = some (.tup (ps.map V.ref))
  ts : PtsAt TbAt H ps cv
theorem CovAt.mono {H H' : Hp} {a : Addr} {cv : List Tb} {ps : List Addr} (x : CovAt H a cv ps) (k : ∀ b xs, H b = some (.tup xs) → H' b = some (.tup xs)) : CovAt H' a cv ps := ⟨k _ _ x.top, x.ts.mono (TbAt.mono k)⟩
theorem CovAt.same {H H' : Hp} {a : Addr} {cv : List Tb} {ps : List Addr} (x : CovAt H a cv ps) (s : Same H H') : CovAt H' a cv ps := x.mono fun b xs e => s _ _ e
inductive Need (n : Net) (cv : List Tb) : Nat → Prop
  | out {o : Nat} : o ∈ n.outs → n.many ≤ o → Need n cv o
  | step {t : Tb} {x : Nat} : t ∈ cv → Need n cv t.1 → x ∈ t.2 → n.many ≤ x → Need n cv x
theorem Need.more {n : Net} {cv cv' : List Tb} (s : ∀ t ∈ cv, t ∈ cv') {x : Nat} (h : Need n cv x) : Need n cv' x := by
  induction h with
  | out h1 h2 => exact .out h1 h2
  | step ht _ hx hm ih => exact .step (s _ ht) ih hx hm
structure CovOk (n : Net) (k : Nat) (cv : List Tb) : Prop where
  rise : cv.Pairwise (fun a b => a.1 < b.1)
  gt : ∀ t ∈ cv, n.many ≤ t.1 ∧ t.1 < n.many + n.gates.length
  cut : ∀ t ∈ cv, CutOk n t.1 t.2 ∧ t.2.length ≤ k
  outs : ∀ o ∈ n.outs, n.many ≤ o → ∃ t ∈ cv, t.1 = o
  clo : ∀ t ∈ cv, ∀ x ∈ t.2, n.many ≤ x → ∃ u ∈ cv, u.1 = x
theorem rise_uniq {cv : List Tb} (h : cv.Pairwise (fun a b => a.1 < b.1)) {t u : Tb} (ht : t ∈ cv) (hu : u ∈ cv) (e : t.1 = u.1) : t = u := by
  induction cv with
  | nil => cases ht
  | cons a r ih =>
    obtain ⟨h1, h2⟩ := List.pairwise_cons.mp h
    rcases List.mem_cons.mp ht with e1 | e1
    · rcases List.mem_cons.mp hu with e2 | e2
      · rw [e1, e2]
      · have := h1 u e2
        rw [e1] at e
        omega
    · rcases List.mem_cons.mp hu with e2 | e2
      · have := h1 t e1
        rw [e2] at e
        omega
      · exact ih h2 e1 e2
theorem CovOk.len {n : Net} (ok : n.Ok) {k : Nat} {cv : List Tb} (c : CovOk n k cv) : cv.length ≤ 24 := by
  have h1 : (cv.map fun t : Tb => t.1).Nodup := by
    rw [List.nodup_iff_pairwise_ne, List.pairwise_map]
    exact c.rise.imp fun h => Nat.ne_of_lt h
  have := nodup_lt (m := n.many + n.gates.length) h1 fun y hy => by
    obtain ⟨t, ht, rfl⟩ := List.mem_map.mp hy
    exact (c.gt t ht).2
  rw [List.length_map] at this
  have := ok.m8
  have := ok.g16
  omega
/-! ### a dict whose keys are these numbers -/
def nK (x : Nat) : L2.Key := .inl (x : Int)
theorem nK_inj {x y : Nat} (h : nK x = nK y) : x = y := by
  have := Sum.inl.inj h
  omega
def KeysAt (H : Hp) (d : Addr) (S : Nat → Prop) (b : Nat) : Prop := ∃ kvs : List (L2.Key × V), H d = some (.dK kvs) ∧ kvs.length ≤ b ∧ ∀ x : Nat, (valV kvs (nK x)).isSome = true ↔ S x
theorem KeysAt.nil {H : Hp} {d : Addr} (h : H d = some (.dK [])) : KeysAt H d (fun _ => False) 0 := ⟨[], h, Nat.le_refl _, fun x => by rw [valV_nil]; exact ⟨fun z => (by cases z), fun z => z.elim⟩⟩
theorem put_isSome (kvs : List (L2.Key × V)) (x y : Nat) (v : V) : (valV (putK kvs (nK x) v) (nK y)).isSome = true ↔ (y = x ∨ (valV kvs (nK y)).isSome = true) := by
  rw [valV_put]
  by_cases e : nK y = nK x
  · rw [if_pos e]
    exact ⟨fun _ => .inl (nK_inj e), fun _ => rfl⟩
  · rw [if_neg e]
    exact ⟨fun z => .inr z, fun z => by rcases z with z | z; exact absurd (by rw [z]) e; exact z⟩
end GX
set_option Elab.async false
set_option linter.all false
set_option maxRecDepth 100000
set_option maxHeartbeats 4000000
/-! enumerate of a tuple, walked. -/
namespace GX
open PySem PySem.Spec PyProof.Rows L2
open AutoSeq1 (wpAny_loadPart')
theorem enumT_new (l : Addr) (items : Array Value) (n : Nat) (dct : Option Addr) (sl : Array (Option Value)) :
    Meets (Builtin.«enumerate.__new__» ⟨[.type "enumerate", .ref l], []⟩) (fun _ R s => s.heap.get? l = some { cls := .type "tuple", dict := dct, data := .seq items n, slots := sl } ∧
      R (.ok (.ret (.ref (s.heap.push { cls := .type "tuple_iterator", data := .fields #[.ref l, .int 0 0] }).objs.size)))
        { s with heap := (s.heap.push { cls := .type "tuple_iterator", data := .fields #[.ref l, .int 0 0] }).push { cls := .type "enumerate", data := .fields #[.none, .bool false, .ref s.heap.objs.size, rawInt 0, .none, .none] } }) :=
  .of_wp fun prog w A R s h => by
    obtain ⟨hp, g, d, tk, os⟩ := s
    obtain ⟨hl, h⟩ := h
    have hsub := sub_enumerate
    have hL : Heap.IsTuple (Shared.heap ⟨hp, g, d, tk, os⟩) l items := ⟨_, hl, rfl, n, rfl⟩
    wp_walk using wpAny_loadPart' hl
    refine wpAny_stack_any fun st => wpAny_pure ?_
    split
    · rename_i c _ _ _ _ _
      cases (c == Value.type "enumerate") <;>
      · wp_walk using wpAny_loadPart' hl, wpAny_pyIter_tuple hL
        exact ⟨_, rfl, h⟩
    · wp_walk using wpAny_loadPart' hl, wpAny_pyIter_tuple hL
      exact ⟨_, rfl, h⟩
section
variable {prog : Program} {w : World} {A : Around} {E : Value → Shared → Prop} {s : Shared}
theorem enumT_call {l : Addr} {items : Array Value} {Q : Value → Shared → Prop} (hL : s.heap.IsTuple l items)
    (h : ∀ h', IsEnum h' (s.heap.objs.size + 1) s.heap.objs.size 0 .none → h'.IsTupleIter s.heap.objs.size l 0 → (∀ b o, s.heap.get? b = some o → h'.get? b = some o) → Q (.ref (s.heap.objs.size + 1)) { s with heap := h' }) :
    wpAny (model prog w) A (call (.type "enumerate") [.ref l]) Q E s := by
  obtain ⟨⟨c, dct, dt, sl⟩, hl, hc, n, hd⟩ := hL
  replace hc : c = .type "tuple" := hc
  replace hd : dt = .seq items n := hd
  subst hc hd
  refine callType_new F.called_enumerate (by decide) (F.typeCall_enumerate_1 _) (F.newCall_enumerate_1 _) (fun obj => F.args_object_init_2 obj _) F.entry_enumerate_new (enumT_new l items n dct sl) ⟨hl, ?_⟩
  have hz : (s.heap.push { cls := .type "tuple_iterator", data := .fields #[.ref l, .int 0 0] }).objs.size = s.heap.objs.size + 1 := Heap.size_push ..
  show _ ∧ _
  rw [hz]
  have he : IsEnum ((s.heap.push { cls := .type "tuple_iterator", data := .fields #[.ref l, .int 0 0] }).push { cls := .type "enumerate", data := .fields #[.none, .bool false, .ref s.heap.objs.size, rawInt 0, .none, .none] }) (s.heap.objs.size + 1) s.heap.objs.size 0 .none := by
    have q := Heap.get?_push_size (s.heap.push { cls := .type "tuple_iterator", data := .fields #[.ref l, .int 0 0] }) (o := { cls := .type "enumerate", data := .fields #[.none, .bool false, .ref s.heap.objs.size, rawInt 0, .none, .none] }) rfl
    rw [hz] at q
    exact q
  exact ⟨⟨_, he, rfl⟩, h _ he ⟨_, Heap.get?_push_of_some _ (Heap.get?_push_size _ rfl), rfl, rfl⟩ fun b o x => Heap.get?_push_of_some _ (Heap.get?_push_of_some _ x)⟩
end
def Itet (K : PySem.W.Frag) (a : Addr) : It :=
  ⟨fun i H => ∃ (xs : List V) (x : V), SqT K H a xs ∧ xs[i]? = some x, fun i H v H' => ∃ T x, v = .ref T ∧ H T = none ∧ H' = upd H T (.tup [.int (i : Nat), x]) ∧ ∀ xs, SqT K H a xs → xs[i]? = some x, fun i H => ∃ xs : List V, SqT K H a xs ∧ xs.length = i⟩
theorem turn_enumT {P : Program} {w : World} {K : PySem.W.Frag} {elts : List Expr} {kk : Nat} {tpos : Pos} (a e it : Addr) :
    Turn P w K (.Tuple elts kk tpos) (Itet K a) [e, it] e (fun i h => (∃ old, IsEnum h e it ((i : Nat) : Int) old) ∧ h.IsTupleIter it a i ∧ e ≠ it ∧ a ≠ it ∧ a ≠ e) where
  mem := by simp
  obj := fun i h st b hb => by
    obtain ⟨⟨old, he⟩, ⟨o, ho, hc, hd⟩, _⟩ := st
    rcases (show b = e ∨ b = it by simpa using hb) with z | z
    · rw [z]; exact ⟨_, he, fun v q => nomatch q⟩
    · rw [z]; exact ⟨o, ho, fun v q => by rw [hd] at q; cases q⟩
  keep := fun i h h' st k => let ⟨⟨old, he⟩, hi, hne⟩ := st; ⟨⟨old, k e (by simp) _ he⟩, hi.at fun o q => k it (by simp) o q, hne⟩
  item := by
    intro X hP hw hK hc i pins s σ H E I hf st hg
    subst hP hw hK
    obtain ⟨⟨old, he⟩, hit, hne, hai, hae⟩ := st
    obtain ⟨xs, x, hq, hx⟩ := hg
    obtain ⟨its, rv, p, hz⟩ := I.tuple hq
    obtain ⟨u, hu, ru⟩ := rv.get hx
    have hel : e < s.heap.objs.size := Heap.lt_size he
    have hil : it < s.heap.objs.size := by obtain ⟨_, q, _⟩ := hit; exact Heap.lt_size q
    have hu' : its.toArray[i]? = some u := by simpa using hu
    refine wpAny_pyNext_enum_itemD (Draws.tuple (A := X.A.in1) (show X.A.in1.handled = none from I.ok.hd hc) it a hai its.toArray) he ⟨hit, p⟩ (Array.getElem?_eq_some_iff.mp hu').1 hne (by simp [hne, Ne.symm hae]) fun y h' tk hy ho hst hT hsz hk => ?_
    obtain rfl : u = y := Option.some.inj (hu'.symm.trans hy)
    refine ⟨_, rfl, wpAny_letOwnedTupleGo_enum (s := { s with heap := h', toks := tk + 1 }) ho fun h'' he' sb => ?_⟩
    have hT2 : h''.get? s.heap.objs.size = some { cls := .type "tuple", data := .seq #[.int i tk, u] } := (sb.2 _ (Nat.ne_of_gt hel)).trans hT
    have new : ObjOk X.prog X.w (upd H s.heap.objs.size (.tup [.int (i : Nat), x])) h'' s.heap.objs.size (.tup [.int (i : Nat), x]) :=
      ⟨by show 2 ≤ sizeLine; decide, [.int i tk, u], .cons ⟨_, rfl⟩ (.cons ru .nil), ⟨_, hT2, rfl, _, rfl⟩⟩
    have I1 : Inv X pins σ (upd H s.heap.objs.size (.tup [.int (i : Nat), x])) { s with heap := h'', toks := tk + 1 } :=
      I.turnedNew (ch := [e, it]) (fun b ob hb q => (sb.2 b (fun z => hb (by simp [z]))).trans (hk b ob (fun z => hb (by simp [z])) (fun z => hb (by simp [z])) q)) hf (Nat.le_refl _) new
    refine ⟨.ref s.heap.objs.size, _, I1, rfl, ⟨_, x, rfl, I.hok.fresh (Nat.le_refl _), rfl, fun ys hy => by rw [I.tuple_inj hy hq]; exact hx⟩, ⟨⟨u, ?_⟩, hst.1.at fun o q => (sb.2 it (Ne.symm hne)).trans q, hne, hai, hae⟩, fun b hb => ?_⟩
    · rw [show ((i + 1 : Nat) : Int) = (i : Int) + 1 by omega]
      exact he'
    · have hb' : b < s.heap.objs.size := by
        rcases (show b = e ∨ b = it by simpa using hb) with z | z
        · rw [z]; exact hel
        · rw [z]; exact hil
      rw [upd_ne (Nat.ne_of_lt hb')]
      exact (hf b hb).1
  done := by
    intro X hP hw hK hc i pins s σ H E I hf st hg
    subst hP hw hK
    obtain ⟨⟨old, he⟩, hit, hne, hai, hae⟩ := st
    obtain ⟨xs, hq, hx⟩ := hg
    obtain ⟨its, rv, p, hz⟩ := I.tuple hq
    obtain ⟨f0, f1, f2, f3, f4, f5⟩ := hf it (by simp)
    have hl : xs.length = its.length := rv.length
    have hs : its.toArray.size = i := by rw [List.size_toArray]; omega
    exact wpAny_pyNext_enum_endD (Draws.tuple (A := X.A.in1) (show X.A.in1.handled = none from I.ok.hd hc) it a hai its.toArray) he (by rw [hs]; exact ⟨hit, p⟩) fun h' eb => ⟨rfl, I.turned (t' := s.toks) (fun b o hb q => eb b o hb q) f0 f1 f3 f4 f5⟩
  self := fun A i s Q E st h => let ⟨⟨_, he⟩, _⟩ := st; wpAny_pyIter_enum he h
def iEnumT (K : PySem.W.Frag) (ta : TA) : TI := fun σ H R => ta σ H fun vs H1 => ∃ a xs, vs = [.ref a] ∧ SqT K H1 a xs ∧ R (Itet K a) H1
theorem pi_enumT {X : Cx} {e : Expr} {ta : TA} {p pos tpos : Pos} {elts : List Expr} {kk : Nat} (hg : Gl X "enumerate") (hm : X.mg "enumerate" = none) (ha : PA X [e] ta) (hs : starEach [e] X.env = [(false, eval e X.env)] := by rfl) :
    PI X (.Tuple elts kk tpos) (.Call (.Name "enumerate" p) [e] [] pos) (iEnumT X.K ta) := by
  refine ⟨fun pins s σ H R I h => ?_⟩
  refine Call_ (ld_blt I hg hm boot_enumerate (PyProof.Rows.callWith_type1 (thn (ha.run pos pins s σ H _ I h) fun us s1 ⟨vs, H1, I1, r1, q1⟩ => ?_) hs rfl))
  obtain ⟨a, xs, ex, hq, q⟩ := q1
  subst ex
  cases r1 with
  | cons r rr =>
    cases rr
    cases r
    obtain ⟨its, rv, p', hz⟩ := I1.tuple hq
    have hal : a < s1.heap.objs.size := IsTup.lt p'
    refine enumT_call (show s1.heap.IsTuple a its.toArray from p') fun h' he hit hk => wpAny_pyIter_enum he ?_
    have I2 : Inv X pins σ H1 { s1 with heap := h' } := I1.kept (t' := s1.toks) hk
    refine ⟨s1.heap.objs.size + 1, [s1.heap.objs.size + 1, s1.heap.objs.size], _, _, H1, rfl, I2, turn_enumT a (s1.heap.objs.size + 1) s1.heap.objs.size, ⟨⟨.none, he⟩, hit, Nat.succ_ne_self _, Nat.ne_of_lt hal, Nat.ne_of_lt (Nat.lt_succ_of_lt hal)⟩, fun b hb => ?_, q⟩
    have hle : s1.heap.objs.size ≤ b := by
      rcases (show b = s1.heap.objs.size + 1 ∨ b = s1.heap.objs.size by simpa using hb) with z | z
      · rw [z]; exact Nat.le_add_right _ _
      · rw [z]; exact Nat.le_refl _
    exact I1.fpOk hle (I1.hok.fresh hle)
theorem walk_enumT {K : PySem.W.Frag} {a : Addr} {xs : List V} : Walk (Itet K a) xs.length (fun H => SqT K H a xs) (YPair (fun i => some (.int (i : Nat))) (fun i => xs[i]?)) := by
  refine ⟨fun i _ hi q => ⟨xs, xs[i], q, by simp [hi]⟩, fun _ q => ⟨xs, q, rfl⟩, fun i H v H' _ q y => ?_⟩
  obtain ⟨T, x, h1, h2, h3, h4⟩ := y
  exact ⟨T, .int (i : Nat), x, h1, h2, h3, rfl, h4 xs q⟩
end GX
set_option Elab.async false
set_option linter.all false
set_option maxRecDepth 100000
set_option maxHeartbeats 4000000
/-! t[::-1] of a tuple. -/
namespace GX
open PySem PySem.Spec PyProof.Rows L2 HT
section
variable {prog : Program} {w : World} {A : Around} {E : Value → Shared → Prop} {s : Shared}
theorem adj_rev (n : Nat) : Builtin.Slice.sliceAdjust none none (-1) (n : Int) = ((n : Int) - 1, -1) := by
  unfold Builtin.Slice.sliceAdjust
  rfl
theorem plc_rev (n : Nat) : Builtin.Slice.slicePlaces ((n : Int) - 1) (-1) (-1) = n := by
  unfold Builtin.Slice.slicePlaces
  rw [if_neg (by decide), show (-(-1 : Int)) = 1 by decide, Int.ediv_one]
  split <;> omega
theorem applied_rev {sl : Addr} {vl vu vs : Value} {n : Nat} {Q : Int × Int × Nat → Shared → Prop} (hs : s.heap.IsSliceOf sl vl vu vs) (pl : IsPart vl none) (pu : IsPart vu none) (ps : IsPart vs (some (-1)))
    (h : Q ((n : Int) - 1, -1, n) s) : wpAny (model prog w) A (Builtin.Slice.sliceApplied (.ref sl) (pure (n : Int))) Q E s := by
  obtain ⟨os, hos, hcs, hds⟩ := id hs
  unfold Builtin.Slice.sliceApplied Builtin.Slice.sliceFields
  refine wpAny_bind (wpAny_bind (wpAny_field hos hds (x := vl) rfl (wpAny_bind (wpAny_field hos hds (x := vu) rfl (wpAny_bind (wpAny_field hos hds (x := vs) rfl (wpAny_pure ?_)))))))
  refine wpAny_bind (slicePart_ ps ?_)
  show wpAny _ _ (if ((-1 : Int) == 0) = true then _ else _) _ _ s
  rw [if_neg (by decide)]
  refine wpAny_bind (slicePart_ pl (wpAny_bind (slicePart_ pu (wpAny_bind (wpAny_pure ?_)))))
  show wpAny _ _ (match Builtin.Slice.sliceAdjust none none (-1) (n : Int) with | (lo, hi) => pure (lo, (-1 : Int), Builtin.Slice.slicePlaces lo hi (-1))) _ _ s
  rw [adj_rev n]
  show wpAny _ _ (pure ((n : Int) - 1, (-1 : Int), Builtin.Slice.slicePlaces ((n : Int) - 1) (-1) (-1))) _ _ s
  rw [plc_rev]
  exact wpAny_pure h
theorem fm_congr {α β : Type} {f g : α → Option β} : ∀ {l : List α}, (∀ x ∈ l, f x = g x) → l.filterMap f = l.filterMap g
  | [], _ => rfl
  | a :: r, h => by
    rw [List.filterMap_cons, List.filterMap_cons, h a List.mem_cons_self, fm_congr fun x hx => h x (List.mem_cons_of_mem _ hx)]
theorem pick_rev (xs : Array Value) : ((List.range xs.size).filterMap fun (k : Nat) => xs[((xs.size : Int) - 1 + (k : Int) * (-1)).toNat]?).toArray = xs.toList.reverse.toArray := by
  have e : ((List.range xs.size).filterMap fun (k : Nat) => xs[((xs.size : Int) - 1 + (k : Int) * (-1)).toNat]?) = (((List.range xs.size).map fun k => xs.size - 1 - k).filterMap (xs[·]?)) := by
    rw [List.filterMap_map]
    refine fm_congr fun k hk => ?_
    have hk' := List.mem_range.mp hk
    show xs[((xs.size : Int) - 1 + (k : Int) * (-1)).toNat]? = xs[xs.size - 1 - k]?
    rw [show ((xs.size : Int) - 1 + (k : Int) * (-1)).toNat = xs.size - 1 - k by omega]
  rw [e, PySem.W.krv_range, List.filterMap_reverse, PySem.W.krv_all]
theorem item_rev {t sl : Addr} {items : Array Value} {vl vu vs : Value} {Q : Value → Shared → Prop} (ht : IsTup s.heap t items) (hs : s.heap.IsSliceOf sl vl vu vs) (pl : IsPart vl none) (pu : IsPart vu none) (ps : IsPart vs (some (-1)))
    (h : Q (.ref s.heap.objs.size) { s with heap := s.heap.push { cls := .type "tuple", data := .seq items.toList.reverse.toArray } })
    (hsz : items.size ≤ sizeLine) : wpAny (model prog w) A (getItem (.ref t) (.ref sl)) Q E s := by
  have htake : sizeOk (.seq items.toList.reverse.toArray) := by
    show items.toList.reverse.toArray.size ≤ sizeLine
    rw [List.size_toArray, List.length_reverse, Array.length_toList]
    exact hsz
  obtain ⟨os, hos, hcs, hds⟩ := id hs
  have hTs : s.TypeIs (.ref sl) "slice" := ⟨os, hos, hcs⟩
  unfold getItem
  try with_reducible refine wpAny_holding ?_
  first | refine wpAny_bind (wpAny_pure ?_) | skip
  refine wpAny_bind (wpAny_sequenceKey ht.typeIs (by decide) ?_)
  refine wpAny_bind (wpAny_callSpecial?_slot (name := Str.ofString "__getitem__") ht.typeIs PyProof.Rows.slot_tuple_getitem
    (wpAny_call_entry PyProof.Rows.slot_tuple_getitem ht.typeIs entry_tuple_getitem ?_ (args_tuple_getitem _ _)))
  show wpAny _ _ (Builtin.Tuple.tupleItemsOf (.ref t) >>= _) _ _ s
  refine wpAny_bind (tupleItemsOf_ ht ?_)
  refine wpAny_bind (wpAny_typeOf hTs ?_)
  rw [if_pos (by decide)]
  refine wpAny_bind (applied_rev hs pl pu ps ?_)
  have hno : ¬ (((((items.size : Int) - 1) == 0 && (-1 : Int) == 1) && items.size == items.size) = true) := by simp
  show wpAny _ _ (if ((((items.size : Int) - 1) == 0 && (-1 : Int) == 1) && items.size == items.size) = true then _ else _) _ _ s
  rw [if_neg hno, pick_rev]
  first
    | exact wpAny_bind (m := Builtin.Tuple.tupleExact _) (wpAny_newObj_type (wpAny_pure ⟨_, rfl, wpAny_pure h⟩) htake)
    | exact wpAny_bind (m := Builtin.Tuple.tupleExact _) (wpAny_newObj_type (wpAny_bind (wpAny_pure (wpAny_pure ⟨_, rfl, wpAny_pure h⟩))) htake)
    | exact wpAny_bind (wpAny_bind (m := Builtin.Tuple.tupleExact _) (wpAny_newObj_type (wpAny_pure (wpAny_pure ⟨_, rfl, wpAny_pure h⟩)) htake))
    | exact wpAny_bind (wpAny_bind (m := Builtin.Tuple.tupleExact _) (wpAny_newObj_type (wpAny_pure ⟨_, rfl, wpAny_pure h⟩) htake))
end
def tRevT (K : PySem.W.Frag) (te : TE) : TE := fun σ H Q => te σ H fun x H1 => ∃ a xs, x = .ref a ∧ SqT K H1 a xs ∧ ∀ p, H1 p = none → Q (.ref p) (upd H1 p (.tup xs.reverse))
theorem pe_revT {X : Cx} {e : Expr} {te : TE} {k : Nat} {p1 p2 p3 pos : Pos} (he : PE X e te) : PE X (.Subscript e (.Slice none none (some (.UnaryOp .USub (.Constant (.int 1) k p1) p2)) p3) pos) (tRevT X.K te) := by
  refine ⟨fun pins s σ H Q I h => ?_⟩
  refine Subscript_ (thn (he.run pins s σ H _ I h) fun v s1 ⟨x, H1, I1, r1, q1⟩ => ?_)
  obtain ⟨a, xs, ex, hx, q⟩ := q1
  subst ex
  cases r1
  have hst : PO X (some (.UnaryOp .USub (.Constant (.int 1) k p1) p2)) (tPart (tUn (rU fun i => .int (-i)) (tC (.int 1)))) := po_some (pe_un un_neg pe_int)
  refine wpAny_Slice (thn (po_none.run pins s1 σ H1 (fun o H2 => o = none ∧ H2 = H1) I1 ⟨rfl, rfl⟩) fun vl s2 ⟨l, H2, I2, pl, el, e2⟩ => ?_)
  subst el e2
  refine thn (po_none.run pins s2 σ H2 (fun o H3 => o = none ∧ H3 = H2) I2 ⟨rfl, rfl⟩) fun vu s3 ⟨u, H3, I3, pu, eu, e3⟩ => ?_
  subst eu e3
  refine thn (hst.run pins s3 σ H3 (fun o H4 => o = some (-1) ∧ H4 = H3) I3 ⟨1, rfl, -1, rfl, rfl, rfl⟩) fun vs s4 ⟨o, H4, I4, ps, eo, e4⟩ => ?_
  subst eo e4
  have I5 : Inv X pins σ H4 { s4 with heap := s4.heap.push { cls := .type "slice", data := .fields #[vl, vu, vs] } } := I4.kept (t' := s4.toks) fun b ob q => Heap.get?_push_of_some _ q
  obtain ⟨its, r, ht, hz⟩ := I5.tuple hx
  have hlen := r.length
  show wpAny (model X.prog X.w) X.A (subscriptTail e (.Slice none none (some (.UnaryOp .USub (.Constant (.int 1) k p1) p2)) p3) (.ref a) (.ref s4.heap.objs.size)) (EP X pins σ Q) X.xe { s4 with heap := s4.heap.push { cls := .type "slice", data := .fields #[vl, vu, vs] } }
  refine tail_any (ops := [.ref a, .ref s4.heap.objs.size]) ht.typeIs (PyProof.Rows.slot_tuple_getitem.lookup) ?_ (by with_unfolding_all rfl)
  refine item_rev ht (Heap.IsSliceOf.new _ vl vu vs) pl pu ps ?_ (by rw [List.size_toArray]; omega)
  refine ⟨.ref _, _, I5.laid (t' := s4.toks) (o := .tup xs.reverse) (fun b ob q => Heap.get?_push_of_some _ q) (Nat.le_refl _) ?_, rfl, q _ (I5.hok.fresh (Nat.le_refl _))⟩
  exact ⟨by rw [List.length_reverse]; exact hz, _, r.reverse, ⟨_, Heap.get?_push_size _ rfl, rfl, _, rfl⟩⟩
end GX
set_option Elab.async false
set_option linter.all false
set_option maxRecDepth 100000
set_option maxHeartbeats 4000000
/-! Things of any make, as they stand in the heap, and what is a net of them. -/
namespace GX
open PySem PySem.Spec PyProof.Rows L2
theorem pg_tupK {X : Cx} {K : PySem.W.Frag} {es : List Expr} {k : Nat} {t : TGs} {n : Nat} {pos : _} (h : X.K = K) (hc : X.calm = true) (hh : PGs X es t) (hn : (assignEach es X.env).length = n := by rfl) (hst : (assignEach es X.env).findIdx? (·.1) = none := by rfl) : PG X (.Tuple es k pos) (gTup K n t) := by subst h; exact pg_tup hc hh hn hst
inductive Th where
  | non | bl (b : Bool) | int (i : Int) | str (x : Str) | oth (l : Bool) | tup (ts : List Th)
mutual
inductive Rep (H : Hp) : V → Th → Prop
  | non : Rep H .non .non
  | bl (b : Bool) : Rep H (.bl b) (.bl b)
  | int (i : Int) : Rep H (.int i) (.int i)
  | str (x : Str) : Rep H (.str x) (.str x)
  | lst {a : Addr} {xs : List V} (e : H a = some (.lst xs)) : Rep H (.ref a) (.oth true)
  | dic {a : Addr} {kvs : List (Key × V)} (e : H a = some (.dK kvs)) : Rep H (.ref a) (.oth false)
  | tup {a : Addr} {vs : List V} {ts : List Th} (e : H a = some (.tup vs)) (r : RepAll H vs ts) : Rep H (.ref a) (.tup ts)
inductive RepAll (H : Hp) : List V → List Th → Prop
  | nil : RepAll H [] []
  | cons {v : V} {vs : List V} {t : Th} {ts : List Th} : Rep H v t → RepAll H vs ts → RepAll H (v :: vs) (t :: ts)
end
/-- lists, dicts and tuples stand -/
def KeepT (H H' : Hp) : Prop := ∀ b o, H b = some o → (∀ ps, o ≠ .tbl ps) → H' b = some o
mutual
theorem Rep.mono {H H' : Hp} (k : KeepT H H') : ∀ {v : V} {t : Th}, Rep H v t → Rep H' v t
  | _, _, .non => .non
  | _, _, .bl b => .bl b
  | _, _, .int i => .int i
  | _, _, .str x => .str x
  | _, _, .lst e => .lst (k _ _ e fun _ z => by cases z)
  | _, _, .dic e => .dic (k _ _ e fun _ z => by cases z)
  | _, _, .tup e r => .tup (k _ _ e fun _ z => by cases z) (r.mono k)
theorem RepAll.mono {H H' : Hp} (k : KeepT H H') : ∀ {vs : List V} {ts : List Th}, RepAll H vs ts → RepAll H' vs ts
  | _, _, .nil => .nil
  | _, _, .cons a b => .cons (a.mono k) (b.mono k)
end
theorem KeepT.same {H H' : Hp} (s : Same H H') : KeepT H H' := fun b o e _ => s b o e
theorem KeepT.aft {Ts : List Addr} {H H' : Hp} (t : Tabs Ts H) (a : Aft Ts H H') : KeepT H H' := fun b o e n => a.kp b o e (t.nott e n)
theorem RepAll.length {H : Hp} : ∀ {vs : List V} {ts : List Th}, RepAll H vs ts → vs.length = ts.length
  | _, _, .nil => rfl
  | _, _, .cons _ b => by rw [List.length_cons, List.length_cons, b.length]
theorem RepAll.get {H : Hp} : ∀ {vs : List V} {ts : List Th} {i : Nat} {v : V}, RepAll H vs ts → vs[i]? = some v → ∃ t, ts[i]? = some t ∧ Rep H v t
  | _, _, _, _, .nil, h => by simp at h
  | _, _, 0, _, .cons a _, h => by cases h; exact ⟨_, rfl, a⟩
  | _, _, i + 1, _, .cons _ b, h => RepAll.get (i := i) b h
theorem RepAll.append {H : Hp} : ∀ {vs ws : List V} {ts us : List Th}, RepAll H vs ts → RepAll H ws us → RepAll H (vs ++ ws) (ts ++ us)
  | _, _, _, _, .nil, s => s
  | _, _, _, _, .cons a b, s => .cons a (b.append s)
theorem RepAll.drop {H : Hp} : ∀ {vs : List V} {ts : List Th} (n : Nat), RepAll H vs ts → RepAll H (vs.drop n) (ts.drop n)
  | _, _, 0, r => r
  | _, _, _ + 1, .nil => .nil
  | _, _, n + 1, .cons _ b => b.drop n
theorem RepAll.take {H : Hp} : ∀ {vs : List V} {ts : List Th} (n : Nat), RepAll H vs ts → RepAll H (vs.take n) (ts.take n)
  | _, _, 0, _ => .nil
  | _, _, _ + 1, .nil => .nil
  | _, _, n + 1, .cons a b => .cons a (b.take n)
theorem RepAll.reverse {H : Hp} : ∀ {vs : List V} {ts : List Th}, RepAll H vs ts → RepAll H vs.reverse ts.reverse
  | _, _, .nil => .nil
  | _, _, .cons a b => by
    rw [List.reverse_cons, List.reverse_cons]
    exact b.reverse.append (.cons a .nil)
def tyN : Th → String
  | .non => "NoneType"
  | .bl _ => "bool"
  | .int _ => "int"
  | .str _ => "str"
  | .oth true => "list"
  | .oth false => "dict"
  | .tup _ => "tuple"
theorem tyx {K : PySem.W.Frag} {H : Hp} {v : V} {t : Th} (r : Rep H v t) : TyX K H v (.type (tyN t)) := by
  cases r with
  | non => exact .base .non
  | bl b => exact .base (.bl b)
  | int i => exact .base (.int i)
  | str x => exact .base (.str x)
  | lst e => exact .base (.lst e)
  | dic e => exact .base (.dK e)
  | tup e _ => exact .base (.tup e)
def Th.kInt : Th → Bool
  | .bl _ => true
  | .int _ => true
  | _ => false
def Th.kBool : Th → Bool
  | .bl _ => true
  | _ => false
def Th.kTup : Th → Bool
  | .tup _ => true
  | _ => false
theorem kInt_ok : ∀ t : Th, kitB (tyN t) "int" = some t.kInt
  | .non => by decide +kernel
  | .bl _ => by show kitB "bool" "int" = some true; decide +kernel
  | .int _ => by show kitB "int" "int" = some true; decide +kernel
  | .str _ => by show kitB "str" "int" = some false; decide +kernel
  | .oth true => by show kitB "list" "int" = some false; decide +kernel
  | .oth false => by show kitB "dict" "int" = some false; decide +kernel
  | .tup _ => by show kitB "tuple" "int" = some false; decide +kernel
theorem kBool_ok : ∀ t : Th, kitB (tyN t) "bool" = some t.kBool
  | .non => by decide +kernel
  | .bl _ => by show kitB "bool" "bool" = some true; decide +kernel
  | .int _ => by show kitB "int" "bool" = some false; decide +kernel
  | .str _ => by show kitB "str" "bool" = some false; decide +kernel
  | .oth true => by show kitB "list" "bool" = some false; decide +kernel
  | .oth false => by show kitB "dict" "bool" = some false; decide +kernel
  | .tup _ => by show kitB "tuple" "bool" = some false; decide +kernel
theorem kTup_ok : ∀ t : Th, kitB (tyN t) "tuple" = some t.kTup
  | .non => by decide +kernel
  | .bl _ => by show kitB "bool" "tuple" = some false; decide +kernel
  | .int _ => by show kitB "int" "tuple" = some false; decide +kernel
  | .str _ => by show kitB "str" "tuple" = some false; decide +kernel
  | .oth true => by show kitB "list" "tuple" = some false; decide +kernel
  | .oth false => by show kitB "dict" "tuple" = some false; decide +kernel
  | .tup _ => by show kitB "tuple" "tuple" = some true; decide +kernel
/-! ### what is a net -/
def Th.whole : Th → Bool
  | .int _ => true
  | _ => false
def Th.isB (b : Int) : Th → Bool
  | .int i => decide (0 ≤ i) && decide (i < b)
  | _ => false
def Th.many : Th → Bool
  | .int i => decide (1 ≤ i) && decide (i ≤ 8)
  | _ => false
def Th.gate (w : Int) : Th → Bool
  | .tup [k, a, b] => k.isB 16 && a.isB w && b.isB w
  | _ => false
def gatesFrom (w : Int) : List Th → Bool
  | [] => true
  | t :: r => t.gate w && gatesFrom (w + 1) r
def Th.gates (m : Int) : Th → Bool
  | .tup ts => decide (ts.length ≤ 16) && gatesFrom m ts
  | _ => false
def Th.outs (c : Int) : Th → Bool
  | .tup ts => decide (1 ≤ ts.length) && decide (ts.length ≤ 8) && ts.all (Th.isB c)
  | _ => false
def Th.val : Th → Int
  | .int i => i
  | _ => 0
def Th.len : Th → Nat
  | .tup ts => ts.length
  | _ => 0
def Th.net : Th → Bool
  | .tup [m, g, o] => m.many && g.gates m.val && o.outs (m.val + g.len)
  | _ => false
theorem gatesFrom_split (w : Int) : ∀ (ts : List Th) (i : Nat), gatesFrom w ts = (gatesFrom w (ts.take i) && gatesFrom (w + min i ts.length) (ts.drop i))
  | [], i => by simp [gatesFrom]
  | t :: r, 0 => by simp [gatesFrom]
  | t :: r, i + 1 => by
    show (t.gate w && gatesFrom (w + 1) r) = ((t.gate w && gatesFrom (w + 1) (r.take i)) && gatesFrom (w + ((min (i + 1) (r.length + 1) : Nat) : Int)) (r.drop i))
    rw [gatesFrom_split (w + 1) r i, Bool.and_assoc, show (w + 1 + ((min i r.length : Nat) : Int)) = w + ((min (i + 1) (r.length + 1) : Nat) : Int) by omega]
theorem gatesFrom_snoc {w : Int} {ts : List Th} {i : Nat} {t : Th} (h : ts[i]? = some t) : gatesFrom w (ts.take (i + 1)) = (gatesFrom w (ts.take i) && t.gate (w + i)) := by
  obtain ⟨hl, _⟩ := List.getElem?_eq_some_iff.mp h
  rw [gatesFrom_split w (ts.take (i + 1)) i, List.take_take, Nat.min_eq_left (Nat.le_succ i)]
  congr 1
  rw [List.take_add_one, h, List.drop_append_of_le_length (by rw [List.length_take]; omega), List.drop_of_length_le (by rw [List.length_take]; omega), Option.toList_some, List.nil_append]
  show (t.gate _ && gatesFrom _ []) = _
  rw [show gatesFrom (w + ((min i (ts.take i ++ [t]).length : Nat) : Int) + 1) [] = true from rfl, Bool.and_true, List.length_append, List.length_take]
  congr 1
  simp only [List.length_cons, List.length_nil]
  omega
theorem gatesFrom_bad {w : Int} {ts : List Th} {i : Nat} {t : Th} (h : ts[i]? = some t) (hf : t.gate (w + i) = false) : gatesFrom w ts = false := by
  rw [gatesFrom_split w ts (i + 1), gatesFrom_snoc h, hf, Bool.and_false, Bool.false_and]
end GX
set_option Elab.async false
set_option linter.all false
set_option maxRecDepth 100000
set_option maxHeartbeats 4000000
/-! Things of whole numbers and tuples alone, no longer than n, no deeper than d. -/
namespace GX
open PySem PySem.Spec PyProof.Rows L2
def Th.pl (n : Nat) : Nat → Th → Bool
  | 0, _ => false
  | _ + 1, .int _ => true
  | d + 1, .tup ts => decide (ts.length ≤ n) && ts.all (Th.pl n d)
  | _ + 1, _ => false
/-- tuples stand -/
def KeepU (H H' : Hp) : Prop := ∀ b xs, H b = some (.tup xs) → H' b = some (.tup xs)
theorem KeepU.trans {H H1 H2 : Hp} (a : KeepU H H1) (b : KeepU H1 H2) : KeepU H H2 := fun c xs e => b c xs (a c xs e)
theorem KeepU.same {H H' : Hp} (s : Same H H') : KeepU H H' := fun b xs e => s b _ e
theorem KeepU.well {H H' : Hp} {W : Addr} (h : Wl H W) (k : Keep [W] H H') : KeepU H H' := k.tups h.nt
theorem pl_monoAll {H H' : Hp} {n d : Nat} (ih : ∀ v t, Th.pl n d t = true → Rep H v t → Rep H' v t) : ∀ {vs : List V} {ts : List Th}, ts.all (Th.pl n d) = true → RepAll H vs ts → RepAll H' vs ts
  | _, _, _, .nil => .nil
  | _, _, p, .cons a b => by
    rw [List.all_cons, Bool.and_eq_true] at p
    exact .cons (ih _ _ p.1 a) (pl_monoAll ih p.2 b)
theorem pl_mono {H H' : Hp} {n : Nat} (k : KeepU H H') : ∀ (d : Nat) (v : V) (t : Th), Th.pl n d t = true → Rep H v t → Rep H' v t
  | 0, _, _, p, _ => by cases p
  | d + 1, v, t, p, r => by
    cases r with
    | int i => exact .int i
    | @tup a vs ts e ra =>
      have p' : (decide (ts.length ≤ n) && ts.all (Th.pl n d)) = true := p
      rw [Bool.and_eq_true] at p'
      exact .tup (k _ _ e) (pl_monoAll (pl_mono k d) p'.2 ra)
    | _ => cases p
theorem pl_le {n m : Nat} (h : n ≤ m) : ∀ (d : Nat) (t : Th), Th.pl n d t = true → Th.pl m d t = true
  | 0, _, p => by cases p
  | d + 1, t, p => by
    cases t with
    | int i => rfl
    | tup ts =>
      have p' : (decide (ts.length ≤ n) && ts.all (Th.pl n d)) = true := p
      rw [Bool.and_eq_true] at p'
      show (decide (ts.length ≤ m) && ts.all (Th.pl m d)) = true
      rw [Bool.and_eq_true]
      refine ⟨decide_eq_true (Nat.le_trans (of_decide_eq_true p'.1) h), ?_⟩
      rw [List.all_eq_true]
      intro x hx
      exact pl_le h d x (List.all_eq_true.mp p'.2 x hx)
    | _ => cases p
theorem pl_dpAll {K : PySem.W.Frag} {H : Hp} {n d : Nat} (ih : ∀ v t, Th.pl n d t = true → Rep H v t → ∃ x, Dp K H v x ∧ x.canLay0 = true ∧ x.depth ≤ d) :
    ∀ {vs : List V} {ts : List Th}, ts.all (Th.pl n d) = true → RepAll H vs ts → ∃ xs, DpAll K H vs xs ∧ PyData.canLayAll0 xs = true ∧ PyData.depthAll xs ≤ d ∧ xs.length = vs.length
  | _, _, _, .nil => ⟨[], .nil, rfl, Nat.zero_le _, rfl⟩
  | _, _, p, .cons a b => by
    rw [List.all_cons, Bool.and_eq_true] at p
    obtain ⟨x, h1, h2, h3⟩ := ih _ _ p.1 a
    obtain ⟨xs, g1, g2, g3, g4⟩ := pl_dpAll ih p.2 b
    refine ⟨x :: xs, .cons h1 g1, ?_, ?_, by rw [List.length_cons, List.length_cons, g4]⟩
    · show (x.canLay0 && PyData.canLayAll0 xs) = true
      rw [h2, g2]
      rfl
    · show max x.depth (PyData.depthAll xs) ≤ d
      omega
theorem pl_dp {K : PySem.W.Frag} {H : Hp} {n : Nat} : ∀ (d : Nat) (v : V) (t : Th), Th.pl n d t = true → Rep H v t → ∃ x, Dp K H v x ∧ x.canLay0 = true ∧ x.depth ≤ d
  | 0, v, t, p, r => by cases p
  | d + 1, v, t, p, r => by
    cases r with
    | int i => exact ⟨.int i, .int i, rfl, Nat.zero_le _⟩
    | @tup a vs ts e ra =>
      have p' : (decide (ts.length ≤ n) && ts.all (Th.pl n d)) = true := p
      rw [Bool.and_eq_true] at p'
      obtain ⟨xs, g1, g2, g3, _⟩ := pl_dpAll (pl_dp d) p'.2 ra
      exact ⟨.tuple xs, .tup (SqT.of e) g1, g2, Nat.succ_le_succ g3⟩
    | _ => cases p
/-- things of the values: whole numbers and tuples -/
def Pl (n d : Nat) (H : Hp) (v : V) : Prop := ∃ t, Rep H v t ∧ Th.pl n d t = true
def PlAll (n d : Nat) (H : Hp) (vs : List V) : Prop := ∃ ts, RepAll H vs ts ∧ ts.all (Th.pl n d) = true
theorem Pl.mono {n d : Nat} {H H' : Hp} {v : V} (h : Pl n d H v) (k : KeepU H H') : Pl n d H' v := let ⟨t, r, p⟩ := h; ⟨t, pl_mono k d v t p r, p⟩
theorem PlAll.mono {n d : Nat} {H H' : Hp} {vs : List V} (h : PlAll n d H vs) (k : KeepU H H') : PlAll n d H' vs := let ⟨ts, r, p⟩ := h; ⟨ts, pl_monoAll (pl_mono k d) p r, p⟩
theorem all_sub {α : Type} {f : α → Bool} {xs ys : List α} (h : xs.all f = true) (s : ∀ x ∈ ys, x ∈ xs) : ys.all f = true := by
  rw [List.all_eq_true] at h ⊢
  exact fun x hx => h x (s x hx)
theorem PlAll.drop {n d : Nat} {H : Hp} {vs : List V} (i : Nat) (h : PlAll n d H vs) : PlAll n d H (vs.drop i) := let ⟨ts, r, p⟩ := h; ⟨ts.drop i, r.drop i, all_sub p fun _ hx => List.mem_of_mem_drop hx⟩
theorem PlAll.take {n d : Nat} {H : Hp} {vs : List V} (i : Nat) (h : PlAll n d H vs) : PlAll n d H (vs.take i) := let ⟨ts, r, p⟩ := h; ⟨ts.take i, r.take i, all_sub p fun _ hx => List.mem_of_mem_take hx⟩
theorem PlAll.cut {n d : Nat} {H : Hp} {vs : List V} (lo hi : Option Int) (h : PlAll n d H vs) : PlAll n d H (cutV vs lo hi) := by
  unfold cutV
  exact (h.drop _).take _
theorem PlAll.reverse {n d : Nat} {H : Hp} {vs : List V} (h : PlAll n d H vs) : PlAll n d H vs.reverse := let ⟨ts, r, p⟩ := h; ⟨ts.reverse, r.reverse, all_sub p fun _ hx => List.mem_reverse.mp hx⟩
theorem PlAll.append {n d : Nat} {H : Hp} {vs ws : List V} (h : PlAll n d H vs) (g : PlAll n d H ws) : PlAll n d H (vs ++ ws) := let ⟨ts, r, p⟩ := h; let ⟨us, s, q⟩ := g; ⟨ts ++ us, r.append s, by rw [List.all_append, p, q]; rfl⟩
theorem PlAll.one {n d : Nat} {H : Hp} {v : V} (h : Pl n d H v) : PlAll n d H [v] := let ⟨t, r, p⟩ := h; ⟨[t], .cons r .nil, by rw [List.all_cons, p]; rfl⟩
theorem PlAll.get {n d : Nat} {H : Hp} {vs : List V} {i : Nat} {v : V} (h : PlAll n d H vs) (e : vs[i]? = some v) : Pl n d H v := by
  obtain ⟨ts, r, p⟩ := h
  obtain ⟨t, ht, rt⟩ := r.get e
  exact ⟨t, rt, List.all_eq_true.mp p t (List.mem_of_getElem? ht)⟩
theorem PlAll.le {n m d : Nat} {H : Hp} {vs : List V} (h : PlAll n d H vs) (l : n ≤ m) : PlAll m d H vs := let ⟨ts, r, p⟩ := h; ⟨ts, r, by
  rw [List.all_eq_true] at p ⊢
  exact fun x hx => pl_le l d x (p x hx)⟩
theorem Pl.tup {n d : Nat} {H : Hp} {a : Addr} {vs : List V} (e : H a = some (.tup vs)) (hl : vs.length ≤ n) (h : PlAll n d H vs) : Pl n (d + 1) H (.ref a) := by
  obtain ⟨ts, r, p⟩ := h
  refine ⟨.tup ts, .tup e r, ?_⟩
  show (decide (ts.length ≤ n) && ts.all (Th.pl n d)) = true
  rw [p, Bool.and_true]
  exact decide_eq_true (by rw [← r.length]; exact hl)
theorem Pl.int {n d : Nat} {H : Hp} (i : Int) : Pl n (d + 1) H (.int i) := ⟨.int i, .int i, rfl⟩
/-- what it is: a number or a tuple -/
theorem Pl.inv {n d : Nat} {H : Hp} {v : V} (h : Pl n (d + 1) H v) : (∃ i, v = .int i) ∨ ∃ a vs, v = .ref a ∧ H a = some (.tup vs) ∧ vs.length ≤ n ∧ PlAll n d H vs := by
  obtain ⟨t, r, p⟩ := h
  cases r with
  | int i => exact .inl ⟨i, rfl⟩
  | @tup a vs ts e ra =>
    have p' : (decide (ts.length ≤ n) && ts.all (Th.pl n d)) = true := p
    rw [Bool.and_eq_true] at p'
    exact .inr ⟨a, vs, rfl, e, by rw [ra.length]; exact of_decide_eq_true p'.1, ts, ra, p'.2⟩
  | _ => cases p
theorem cut_len (xs : List V) (lo hi : Option Int) : (cutV xs lo hi).length ≤ xs.length := by
  unfold cutV
  rw [List.length_take, List.length_drop]
  omega
theorem PlAll.dp {K : PySem.W.Frag} {n d : Nat} {H : Hp} {vs : List V} (h : PlAll n d H vs) : ∃ xs, DpAll K H vs xs ∧ PyData.canLayAll0 xs = true ∧ PyData.depthAll xs ≤ d ∧ xs.length = vs.length := let ⟨_, r, p⟩ := h; pl_dpAll (pl_dp d) p r
theorem eqvAll_nil (xs : List PyData) : PyData.eqvAll xs [] = decide (xs.length = 0) := by
  cases xs with
  | nil => rfl
  | cons x r => rfl
/-- t == () and l == [] -/
theorem shaped_tup {xs : List PyData} {d : Nat} (h1 : PyData.canLayAll0 xs = true) (h2 : PyData.depthAll xs ≤ d) (h3 : d < 64) : SeqAt.shaped (.tuple xs) = true := by
  show (PyData.canLayAll0 xs && decide (PyData.depthAll xs + 1 ≤ 64)) = true
  rw [h1, decide_eq_true (by omega)]
  rfl
theorem shaped_lst {xs : List PyData} {d : Nat} (h1 : PyData.canLayAll0 xs = true) (h2 : PyData.depthAll xs ≤ d) (h3 : d < 64) : SeqAt.shaped (.list xs) = true := by
  show (PyData.canLayAll0 xs && decide (PyData.depthAll xs + 1 ≤ 64)) = true
  rw [h1, decide_eq_true (by omega)]
  rfl
end GX
set_option Elab.async false
set_option linter.all false
set_option maxRecDepth 100000
set_option maxHeartbeats 4000000
/-! set(xs) of whole numbers, xs a list or a tuple; sorted of it. -/
namespace GX
open PySem PySem.Spec PyProof.Rows L2
/-- a set as it is made, empty -/
def fset (w : World) : Obj := { cls := .type "set", dict := none, data := .set #[] 0 (.fresh 0 0 (!w.params.followText "set-order")) }
section
variable {P : Program} {w : World} {A : Around} {E : Value → Shared → Prop} {s : Shared}
/-- what set(l) leaves: the set of ns at the next address -/
def Left (w : World) (s : Shared) (ns : List Int) (r : Value) (t : Shared) : Prop :=
  r = .none ∧ ∃ g tk c, t = { s with heap := g, toks := tk } ∧ SetR w g s.heap.objs.size (fun j => decide (j ∈ ns)) c ∧ c ≤ ns.length ∧ ∀ b o, s.heap.get? b = some o → g.get? b = some o
theorem init_list {l : Addr} {its : Array Value} {ns : List Int} (hh : A.handled = none) (hl : s.heap.IsList l its) (hi : IntsAre its.toList ns) (hb : ns.length + 1 < scanBound) :
    codeAny (model P w) A (.call (.builtin "set.__init__") ⟨[.ref s.heap.objs.size, .ref l], []⟩) (wants (Left w s ns) E) { s with heap := s.heap.push (fset w) } := by
  have eN : its.size = ns.length := by
    have z := IntsAre.length hi
    rwa [Array.length_toList] at z
  have atS : (s.heap.push (fset w)).get? s.heap.objs.size = some (fset w) := Heap.get?_push_size _ rfl
  refine codeAny_call_builtin F.called_set.init.plain F.entry_set_init (check_set_init_1 ⟨_, atS, rfl⟩ ?_)
  obtain ⟨⟨k1, k2, k3, k4⟩, hol, e1, m, e2⟩ := hl
  dsimp only at e1 e2
  subst e1
  subst e2
  have on : (s.heap.push (fset w)).get? l = some ⟨.type "list", k2, .seq its m, k4⟩ := Heap.get?_push_of_some _ hol
  have u1 := F.sub_list_set
  have u2 := F.sub_list_frozenset
  have u3 : (Value.type "list" == Value.type "dict") = false := by decide
  have isL : (s.heap.push (fset w)).IsList l its := ⟨_, on, rfl, m, rfl⟩
  unfold Builtin.«set.__init__» noKeywords Builtin.Frozenset.updateFrom
  generalize eP : pyIter = PI
  wp_walk
  subst eP
  refine wpAny_pyIter_list isL (wpAny_bind (wpAny_runValue ?_))
  have lt : l < s.heap.objs.size := Heap.lt_size hol
  have zz : (s.heap.push (fset w)).objs.size = s.heap.objs.size + 1 := Heap.size_push ..
  have ne1 : l ≠ (s.heap.push (fset w)).objs.size := by rw [zz]; exact Nat.ne_of_lt (Nat.lt_succ_of_lt lt)
  have ne2 : s.heap.objs.size ∉ [(s.heap.push (fset w)).objs.size, l] := by
    intro z
    rcases List.mem_cons.mp z with z | z
    · rw [zz] at z
      exact Nat.ne_of_lt (Nat.lt_succ_self _) z
    · exact Nat.ne_of_gt lt (List.mem_singleton.mp z)
  have vals : ∀ (i : Nat) (v : Value), its[i]? = some v → ∃ k t, ns[i]? = some k ∧ v = .int k t := fun i v hv => by
    have hlt : i < ns.length := by rw [← eN]; exact (Array.getElem?_eq_some_iff.mp hv).1
    obtain ⟨t, e⟩ := IntsAre.int_at hi i v (by rw [Array.getElem?_toList]; exact hv)
    refine ⟨ns[i], t, List.getElem?_eq_getElem hlt, e.trans ?_⟩
    show Value.int (ns.getD i 0) t = _
    rw [List.getD_eq_getElem?_getD, List.getElem?_eq_getElem hlt]
    rfl
  have h3 : A.in1.in1.handled = none := by simp [hh]
  refine set_update_ints (Walks.list h3 _ l ne1 its).toS s.heap.objs.size ne2 ns eN hb vals (its.size - 0) 0 _ (by omega) (Nat.zero_le _) ?st ?s0 ?rest
  case st => exact ⟨⟨_, Heap.get?_push_size _ rfl, rfl, rfl⟩, isL.push _⟩
  case s0 => exact ⟨0, Nat.le_refl 0, setR_new_at (Heap.get?_push_of_some _ atS)⟩
  intro t c mv hc hS
  obtain ⟨h', g2, d2, tk, o2⟩ := t
  obtain rfl : g2 = s.gens := mv.gens
  obtain rfl : d2 = s.drawn := mv.drawn
  obtain rfl : o2 = s.os := mv.os
  show wpAny _ _ _ _ _ _
  refine wpAny_pure ?_
  show wpAny _ _ (ret Value.none) _ _ _
  refine wpAny_pure ⟨rfl, h', tk, c, rfl, hS, by omega, fun b o e => ?_⟩
  have lb : b < s.heap.objs.size := Heap.lt_size e
  refine mv.heap b o (fun z => ?_) (Heap.get?_push_of_some _ (Heap.get?_push_of_some _ e))
  rcases List.mem_cons.mp z with z | z
  · exact Nat.ne_of_lt lb z
  · have z' := List.mem_singleton.mp z
    rw [zz] at z'
    exact Nat.ne_of_lt (Nat.lt_succ_of_lt lb) z'
theorem call_set_of {l : Addr} {ns : List Int} {Q : Value → Shared → Prop}
    (hin : codeAny (model P w) A.in1 (.call (.builtin "set.__init__") ⟨[.ref s.heap.objs.size, .ref l], []⟩) (wants (Left w s ns) E) { s with heap := s.heap.push (fset w) })
    (h : ∀ g tk c, SetR w g s.heap.objs.size (fun j => decide (j ∈ ns)) c → c ≤ ns.length → (∀ b o, s.heap.get? b = some o → g.get? b = some o) → Q (.ref s.heap.objs.size) { s with heap := g, toks := tk }) :
    wpAny (model P w) A (call (.type "set") [.ref l]) Q E s := by
  obtain ⟨c, tl, q1⟩ := F.called_set.mro
  have q2 := F.called_set.made
  have q3 := F.called_set.sub
  refine wpAny_call (codeAny_of_tree ?_)
  show wpAny _ _ (callAny (.type "set") ⟨[.ref l], []⟩) _ _ s
  refine wpAny_pure ⟨Code.quiet_builtin _ (by decide +kernel), codeAny_builtin F.entry_type_call ?_⟩
  rw [Around.under_plain (weight_type_call_type "set" [.ref l] []) rfl]
  have q4 := F.called_set.notType
  have q5 := F.called_set.canCreate
  have q6 := F.typeCall_set_1 (.ref l)
  repeat (any_goals (first | assumption | wp_step))
  refine codeAny_mono (code_set_led1 (.ref l) (E := E) (Q₁ := fun v t => v = .ref s.heap.objs.size ∧ t = { s with heap := s.heap.push (fset w) }) ⟨rfl, rfl⟩) fun r t hr => ?_
  cases r with
  | error e => exact hr
  | ok f =>
    cases f with
    | ret v =>
      obtain ⟨rfl, rfl⟩ := hr
      have q7 : Shared.TypeIs { s with heap := s.heap.push (fset w) } (.ref s.heap.objs.size) "set" := ⟨fset w, Heap.get?_push_size _ rfl, rfl⟩
      have q8 := F.called_set.init.lookup
      have q9 := F.called_set.init.bind (.ref s.heap.objs.size)
      repeat (any_goals (first | assumption | wp_step))
      refine codeAny_mono hin fun r2 t2 hr2 => ?_
      cases r2 with
      | error e => exact hr2
      | ok f2 =>
        cases f2 with
        | ret v2 =>
          obtain ⟨rfl, g, tk, c2, rfl, k1, k2, k3⟩ := hr2
          repeat (any_goals (first | assumption | wp_step))
          exact h g tk c2 k1 k2 k3
        | _ => exact hr2.elim
    | _ => exact hr.elim
theorem set_of_list {l : Addr} {its : Array Value} {ns : List Int} {Q : Value → Shared → Prop} (hh : A.handled = none) (hl : s.heap.IsList l its) (hi : IntsAre its.toList ns) (hb : ns.length + 1 < scanBound)
    (h : ∀ g tk c, SetR w g s.heap.objs.size (fun j => decide (j ∈ ns)) c → c ≤ ns.length → (∀ b o, s.heap.get? b = some o → g.get? b = some o) → Q (.ref s.heap.objs.size) { s with heap := g, toks := tk }) :
    wpAny (model P w) A (call (.type "set") [.ref l]) Q E s := call_set_of (init_list (by simp [hh]) hl hi hb) h
end
/-- set(xs) -/
def rSetN (K : PySem.W.Frag) (w : World) : List V → Hp → VK → Prop := fun xs H Q => ∃ (p : Addr) (ns : List Nat), xs = [.ref p] ∧ (SqL K H p (ns.map nV) ∨ SqT K H p (ns.map nV)) ∧ ns.length ≤ 60 ∧
  ∀ (q : Addr) (c : Nat), H q = none → c ≤ ns.length → Q (.ref q) (upd H q (SetO w q (fun j => decide (j ∈ ns.map fun n : Nat => (n : Int))) c))
theorem vals_n : ∀ {ns : List Nat} {us : List Value}, Vals (ns.map nV) us → IntsAre us (ns.map fun n : Nat => (n : Int))
  | [], _, .nil => .nil
  | n :: ns, _, .cons r t => by
    obtain ⟨k, rfl⟩ := r
    exact .cons n k (vals_n t)
theorem cr_setN {X : Cx} (hc : X.calm = true) : CallR X (.type "set") (rSetN X.K X.w) := by
  intro pins s σ H xs us Q I r h
  obtain ⟨p, ns, rfl, hq, hn, q⟩ := h
  rw [Vals.ref1 r]
  have hln : (ns.map fun n : Nat => (n : Int)).length = ns.length := List.length_map ..
  have hb : (ns.map fun n : Nat => (n : Int)).length + 1 < scanBound := by rw [hln]; unfold scanBound; omega
  have fin : ∀ (g : Heap) (tk c : Nat), SetR X.w g s.heap.objs.size (fun j => decide (j ∈ ns.map fun n : Nat => (n : Int))) c → c ≤ (ns.map fun n : Nat => (n : Int)).length → (∀ b o, s.heap.get? b = some o → g.get? b = some o) →
      EP X pins σ Q (.ref s.heap.objs.size) { s with heap := g, toks := tk } := fun g tk c hS hcl hk =>
    ⟨.ref s.heap.objs.size, _, I.laid (t' := tk) (o := SetO X.w s.heap.objs.size (fun j => decide (j ∈ ns.map fun n : Nat => (n : Int))) c) hk (Nat.le_refl _) (setO_new hS), rfl, q _ _ (I.hok.fresh (Nat.le_refl _)) (by rw [← hln]; exact hcl)⟩
  rcases hq with hq | hq
  · obtain ⟨its, rv, p1, _⟩ := I.list hq
    exact set_of_list (I.ok.hd hc) p1.isList (by simpa using vals_n rv) hb fin
  · obtain ⟨its, rv, p1, _⟩ := I.tuple hq
    exact call_set_tupI _ (I.ok.hd hc) p1 (by simpa using vals_n rv) hb fin
/-- sorted(set(xs)): the unlike ones, rising -/
theorem sorted_set_nat {ns : List Nat} {out : List Int} (pw : out.Pairwise (· < ·)) (hm : ∀ k : Int, k ∈ out ↔ decide (k ∈ ns.map fun n : Nat => (n : Int)) = true) : ∃ ys : List Nat, out = (ys.map fun n : Nat => (n : Int)) ∧ ys.Pairwise (· < ·) ∧ ∀ z, z ∈ ys ↔ z ∈ ns := by
  have hm' : ∀ k : Int, k ∈ out ↔ k ∈ ns.map fun n : Nat => (n : Int) := fun k => (hm k).trans decide_eq_true_iff
  have hnn : ∀ i ∈ out, 0 ≤ i := fun i hi => by
    obtain ⟨x, _, rfl⟩ := List.mem_map.mp ((hm' i).mp hi)
    omega
  refine ⟨out.map Int.toNat, ?_, ?_, fun z => ⟨fun h => ?_, fun h => ?_⟩⟩
  · rw [List.map_map]
    conv => lhs; rw [← List.map_id out]
    refine List.map_congr_left fun i hi => ?_
    show i = ((i.toNat : Nat) : Int)
    rw [Int.toNat_of_nonneg (hnn i hi)]
  · rw [List.pairwise_map]
    refine List.Pairwise.imp_of_mem (fun {a b} ha hb h => ?_) pw
    have := hnn a ha
    have := hnn b hb
    omega
  · obtain ⟨i, hi, rfl⟩ := List.mem_map.mp h
    obtain ⟨x, hx, rfl⟩ := List.mem_map.mp ((hm' i).mp hi)
    rw [Int.toNat_natCast]
    exact hx
  · exact List.mem_map.mpr ⟨(z : Int), (hm' _).mpr (List.mem_map.mpr ⟨z, h, rfl⟩), Int.toNat_natCast z⟩
end GX
set_option Elab.async false
set_option linter.all false
set_option maxRecDepth 100000
set_option maxHeartbeats 4000000
namespace K44
open PySem PySem.Spec PyProof.Rows L2 GX
open C8 (Cal pe_c pe_gc)
def topS (i : Nat) : Stmt := PySem.Challenge.pw_tablecover_k44_gates_doubled.main.body.getD i (.Pass ⟨0, 0, 0, 0⟩)
abbrev s_wires_in : Stmt := topS 1
theorem sc_wires_in : FnScope ["net"] ["net"] (defScope s_wires_in) := ⟨rfl, rfl, rfl, by decide +kernel, rfl, by decide +kernel, by decide +kernel⟩
abbrev s_places : Stmt := topS 3
theorem sc_places : FnScope ["net", "gate", "kind", "one", "other"] ["net", "gate"] (defScope s_places) := ⟨rfl, rfl, rfl, by decide +kernel, rfl, by decide +kernel, by decide +kernel⟩
abbrev s_reached : Stmt := topS 4
theorem sc_reached : FnScope ["net", "wire", "stops", "marks", "gate", "place", "at", "mark"] ["net", "wire", "stops"] (defScope s_reached) := ⟨rfl, rfl, rfl, by decide +kernel, rfl, by decide +kernel, by decide +kernel⟩
abbrev s_inside : Stmt := topS 6
theorem sc_inside : FnScope ["net", "gate", "cut", "wire"] ["net", "gate", "cut"] (defScope s_inside) := ⟨rfl, rfl, rfl, by decide +kernel, rfl, by decide +kernel, by decide +kernel⟩
abbrev s_doubled : Stmt := topS 8
theorem sc_doubled : FnScope ["net", "cover", "counts", "gate", "cut", "wire"] ["net", "cover"] (defScope s_doubled) := ⟨rfl, rfl, rfl, by decide +kernel, rfl, by decide +kernel, by decide +kernel⟩
abbrev s__law_well : Stmt := topS 10
theorem sc__law_well : FnScope ["_law_script", "_law_k", "_law_cell"] ["_law_script", "_law_k"] (defScope s__law_well) := ⟨rfl, rfl, rfl, by decide +kernel, rfl, by decide +kernel, by decide +kernel⟩
abbrev s__law_take : Stmt := topS 11
theorem sc__law_take : FnScope ["_law_well_here", "_law_many", "_law_digit", "_law_number"] ["_law_well_here", "_law_many"] (defScope s__law_take) := ⟨rfl, rfl, rfl, by decide +kernel, rfl, by decide +kernel, by decide +kernel⟩
abbrev s__law_place : Stmt := topS 12
theorem sc__law_place : FnScope ["_law_well_here", "_law_wire", "_law_way", "_law_near"] ["_law_well_here", "_law_wire", "_law_way"] (defScope s__law_place) := ⟨rfl, rfl, rfl, by decide +kernel, rfl, by decide +kernel, by decide +kernel⟩
abbrev s__law_net : Stmt := topS 13
theorem sc__law_net : FnScope ["_law_well_here", "_law_most", "_law_many_gates", "_law_way", "_law_many", "_law_count", "_law_gates", "_law_wire", "_law_alike", "_law_one", "_law_other", "_law_wires", "_law_manner", "_law_bound", "_law_outs", "_law_k", "_law_far", "_law_near", "_law_at"] ["_law_well_here", "_law_most", "_law_many_gates"] (defScope s__law_net) := ⟨rfl, rfl, rfl, by decide +kernel, rfl, by decide +kernel, by decide +kernel⟩
abbrev s__law_opened : Stmt := topS 14
theorem sc__law_opened : FnScope ["_law_net_here", "_law_cut", "_law_at", "_law_gate"] ["_law_net_here", "_law_cut", "_law_at"] (defScope s__law_opened) := ⟨rfl, rfl, rfl, by decide +kernel, rfl, by decide +kernel, by decide +kernel⟩
abbrev s__law_some_cut : Stmt := topS 15
theorem sc__law_some_cut : FnScope ["_law_well_here", "_law_net_here", "_law_gate", "_law_k", "_law_opens", "_law_more", "_law_cut", "_law_turn", "_law_at", "_law_opened_here"] ["_law_well_here", "_law_net_here", "_law_gate", "_law_k"] (defScope s__law_some_cut) := ⟨rfl, rfl, rfl, by decide +kernel, rfl, by decide +kernel, by decide +kernel⟩
abbrev s__law_cover : Stmt := topS 16
theorem sc__law_cover : FnScope ["_law_well_here", "_law_net_here", "_law_k", "_law_lean", "_law_asked", "_law_wire", "_law_found", "_law_gate", "_law_extra", "_law_cut"] ["_law_well_here", "_law_net_here", "_law_k", "_law_lean"] (defScope s__law_cover) := ⟨rfl, rfl, rfl, by decide +kernel, rfl, by decide +kernel, by decide +kernel⟩
abbrev s__law_within : Stmt := topS 17
theorem sc__law_within : FnScope ["_law_net_here", "_law_gate", "_law_cut", "_law_found", "_law_waiting", "_law_here", "_law_wire"] ["_law_net_here", "_law_gate", "_law_cut"] (defScope s__law_within) := ⟨rfl, rfl, rfl, by decide +kernel, rfl, by decide +kernel, by decide +kernel⟩
abbrev s__law_due : Stmt := topS 18
theorem sc__law_due : FnScope ["_law_net_here", "_law_cover_here", "_law_times", "_law_gate", "_law_cut", "_law_inner"] ["_law_net_here", "_law_cover_here"] (defScope s__law_due) := ⟨rfl, rfl, rfl, by decide +kernel, rfl, by decide +kernel, by decide +kernel⟩
abbrev s__law_wide : Stmt := topS 19
theorem sc__law_wide : FnScope ["_law_net_here", "_law_k", "_law_asked", "_law_wire", "_law_found", "_law_gate", "_law_cut", "_law_turn", "_law_rows", "_law_at", "_law_row"] ["_law_net_here", "_law_k"] (defScope s__law_wide) := ⟨rfl, rfl, rfl, by decide +kernel, rfl, by decide +kernel, by decide +kernel⟩
abbrev s_law : Stmt := topS 20
theorem sc_law : FnScope ["_law_script", "_law_k", "_law_well_here", "_law_wide_here", "_law_net_here", "_law_cover_here"] ["_law_script"] (defScope s_law) := ⟨rfl, rfl, rfl, by decide +kernel, rfl, by decide +kernel, by decide +kernel⟩
structure Txt (mg : Str → Option Value) : Prop where
  b_dict : mg "dict" = none
  b_enumerate : mg "enumerate" = none
  b_int : mg "int" = none
  b_len : mg "len" = none
  b_list : mg "list" = none
  b_max : mg "max" = none
  b_min : mg "min" = none
  b_range : mg "range" = none
  b_set : mg "set" = none
  b_sorted : mg "sorted" = none
  b_tuple : mg "tuple" = none
section
variable {P : Program} {w : World} {K : PySem.W.Frag} {mg : Str → Option Value} {base : Heap}
/-! ### the draws -/
def spTake : Sp := fun vs H Q _ => ∃ (W : Addr) (m : Int), vs = [.ref W, .int m] ∧ Wl H W ∧ 0 < m ∧ m < 1073741824 ∧ ∀ d H', 0 ≤ d → d < m → Wl H' W → Keep [W] H H' → Q (.int d) H'
theorem ok_take {f c : Addr} (D : Dfn K mg "_law_take" s__law_take f c) : Cal P w K mg base 1 "_law_take" spTake [] := by
  refine cal D (fun _ _ _ _ _ _ us hl => match us, hl with | [_, _], _ => rfl) sc__law_take (fun vs H Q E h => ?_) (fun A outer s H vs Q E hr h => ?_)
  · obtain ⟨W, m, rfl, _⟩ := h
    rfl
  · obtain ⟨W, m, rfl, ⟨a, b, c, hW⟩, hm0, hm1, q⟩ := h
    refine ⟨_, (pss_cons (ps_if (pt_cmpR op_gt (pe_ix ix_list (pv 0) pe_int (fun _ _ => rfl)) pe_int (nomark _)) (pss_cons (ps_set (i := 2) sc__law_take.nd rfl (by first | exact Or.inl rfl | exact Or.inr rfl) (pe_op op_mod (pe_ix ix_list (pv 0) pe_int (fun _ _ => rfl)) (pv 1)))
      (pss_cons (ps_asg (pe_op op_fdiv (pe_ix ix_list (pv 0) pe_int (fun _ _ => rfl)) (pv 1)) (pg_sub (pv 0) pe_int set_list))
      (pss_one (ps_ret (pv 2))))) pss_nil)
      (pss_cons (ps_asg (pe_op op_add (pe_ix ix_list (pv 0) pe_int (fun _ _ => rfl)) pe_int) (pg_sub (pv 0) pe_int set_list))
      (pss_cons (ps_set (i := 3) sc__law_take.nd rfl (by first | exact Or.inl rfl | exact Or.inr rfl) (pe_op op_mod (pe_op op_mul (pe_op op_add (pe_ix ix_list (pv 0) pe_int (fun _ _ => rfl)) (pe_op op_mul pe_int (pe_ix ix_list (pv 0) pe_int (fun _ _ => rfl)))) pe_int) pe_int))
      (pss_cons (ps_set (i := 3) sc__law_take.nd rfl (by first | exact Or.inl rfl | exact Or.inr rfl) (pe_op op_mod (pe_op op_mul (pv 3) (pe_op op_add (pv 3) pe_int)) pe_int))
      (pss_one (ps_ret (pe_op op_mod (pe_op op_fdiv (pe_op op_mul (pe_op op_mod (pe_op op_add (pe_op op_mul (pv 3) (pv 3)) (pe_op op_mul pe_int (pe_ix ix_list (pv 0) pe_int (fun _ _ => rfl)))) pe_int) pe_int) pe_int) (pv 1)))))))), ?_⟩
    refine ⟨_, rfl, W, _, 0, _, rfl, rfl, SqL.of hW, at0, _, _, rfl, rfl, _, rfl, ite2 (fun g => ?_) (fun g => ?_)⟩
    · refine ⟨_, rfl, W, _, 0, _, rfl, rfl, SqL.of hW, at0, _, rfl, _, _, rfl, rfl, hm0, ?_⟩
      refine ⟨_, rfl, W, _, 0, _, rfl, rfl, SqL.of hW, at0, _, rfl, _, _, rfl, rfl, ⟨hm0, hm1⟩, _, rfl, W, _, 0, 0, rfl, rfl, hW, rfl, ?_⟩
      refine ⟨_, rfl, ?_⟩
      exact q _ _ (Int.emod_nonneg _ (by omega)) (Int.emod_lt_of_pos _ hm0) ⟨_, _, _, upd_same⟩ (Keep.put (List.mem_singleton.mpr rfl))
    · refine ⟨_, rfl, W, _, 2, _, rfl, rfl, SqL.of hW, at2, _, _, rfl, rfl, _, rfl, W, _, 2, 2, rfl, rfl, hW, rfl, ?_⟩
      have hW2 : (upd H W (.lst [.int a, .int b, .int (c + 1)])) W = some (.lst [.int a, .int b, .int (c + 1)]) := upd_same
      refine ⟨_, rfl, W, _, 1, _, rfl, rfl, SqL.of hW2, at1, _, rfl, W, _, 2, _, rfl, rfl, SqL.of hW2, at2, _, _, rfl, rfl, .inl (by omega), _, _, rfl, rfl, _, _, rfl, rfl, .inr (by omega), _, _, rfl, rfl, (by show (0 : Int) < 2147483647; decide), ?_⟩
      have b1 := Int.emod_nonneg ((b + 7919 * (c + 1)) * 48271) (show (2147483647 : Int) ≠ 0 by decide)
      have b2 := Int.emod_lt_of_pos ((b + 7919 * (c + 1)) * 48271) (show (0 : Int) < 2147483647 by decide)
      generalize ((b + 7919 * (c + 1)) * 48271) % 2147483647 = n1 at b1 b2 ⊢
      refine ⟨_, rfl, _, rfl, _, _, rfl, rfl, _, _, rfl, rfl, .inl (by omega), _, _, rfl, rfl, (by show (0 : Int) < 2147483629; decide), ?_⟩
      have b3 := Int.emod_nonneg (n1 * (n1 + 69621)) (show (2147483629 : Int) ≠ 0 by decide)
      have b4 := Int.emod_lt_of_pos (n1 * (n1 + 69621)) (show (0 : Int) < 2147483629 by decide)
      generalize (n1 * (n1 + 69621)) % 2147483629 = n2 at b3 b4 ⊢
      refine ⟨_, rfl, _, rfl, _, _, rfl, rfl, .inl (by omega), _, rfl, W, _, 2, _, rfl, rfl, SqL.of hW2, at2, _, _, rfl, rfl, .inl (by omega), _, _, rfl, rfl, _, _, rfl, rfl, (by show (0 : Int) < 2147483587; decide), _, _, rfl, rfl, .inr (by omega), _, _, rfl, rfl, ⟨by decide, by decide⟩, _, rfl, _, _, rfl, rfl, hm0, ?_⟩
      exact q _ _ (Int.emod_nonneg _ (by omega)) (Int.emod_lt_of_pos _ hm0) ⟨_, _, _, upd_same⟩ (Keep.put (List.mem_singleton.mpr rfl))
def spWell (K : PySem.W.Frag) : Sp := fun vs H Q _ => ∃ (a : Addr) (ns : List Int) (k : Nat), vs = [.ref a, .int k] ∧ SqL K H a (ns.map V.int) ∧ ∀ p H', H p = none → Wl H' p → Keep [] H H' → Q (.ref p) H'
theorem ok_well {f c : Addr} (D : Dfn K mg "_law_well" s__law_well f c) (T : Txt mg) : Cal P w K mg base 1 "_law_well" (spWell K) [] := by
  refine cal D (fun _ _ _ _ _ _ us hl => match us, hl with | [_, _], _ => rfl) sc__law_well (fun vs H Q E h => ?_) (fun A outer s H vs Q E hr h => ?_)
  · obtain ⟨a, ns, k, rfl, _⟩ := h
    rfl
  · obtain ⟨a, ns, k, rfl, hS, q⟩ := h
    refine ⟨_, (pss_cons (ps_set (i := 2) sc__law_well.nd rfl (by first | exact Or.inl rfl | exact Or.inr rfl) pe_int)
      (pss_cons (ps_if (pt_cmpR op_lt (pv 1) (pe_callB call_len_seq (by rfl) T.b_len (by decide +kernel) (pa_cons (pv 0) pa_nil)) (nomark _)) (pss_one (ps_set (i := 2) sc__law_well.nd rfl (by first | exact Or.inl rfl | exact Or.inr rfl) (pe_ix ix_list (pv 0) (pv 1) (fun _ _ => rfl)))) pss_nil)
      (pss_one (ps_ret (pe_lst (pa_cons (pe_op op_mul (pv 2) (pe_callTy call_int1 (by rfl) T.b_int (by decide +kernel) (pa_cons (pe_cmpR op_ge (pv 2) (pe_op op_pow pe_int pe_int) (nomark _)) pa_nil))) (pa_cons (pe_op op_add (pe_op op_mod (pv 2) pe_int) (pe_op op_mul pe_int (pv 1))) (pa_cons pe_int pa_nil)))))))), ?_⟩
    refine ⟨_, rfl, _, rfl, a, _, rfl, .inl hS, _, _, rfl, rfl, _, rfl, ite2 (fun g => ?_) (fun g => ?_)⟩
    · have hk : k < ns.length := by
        have := of_decide_eq_true g
        rw [List.length_map] at this
        omega
      have hx : (ns.map V.int)[k]? = some (.int ns[k]) := by rw [List.getElem?_map, List.getElem?_eq_getElem hk]; rfl
      refine ⟨_, rfl, _, rfl, a, _, _, _, rfl, rfl, hS, atI_nat hx, ?_⟩
      refine ⟨_, rfl, _, rfl, _, _, rfl, rfl, ⟨by decide, by decide, by decide⟩, _, _, rfl, rfl, .inr ⟨_, rfl, _, _, rfl, rfl, .inr (by split <;> decide), _, rfl, _, _, rfl, rfl, (by show (0 : Int) < 2147483647; decide), _, rfl, _, _, rfl, rfl, .inl (by omega), _, _, rfl, rfl, small 3, fun p hp => ?_⟩⟩
      exact q p _ hp ⟨_, _, _, upd_same⟩ (Keep.new hp)
    · refine ⟨_, rfl, _, rfl, _, _, rfl, rfl, ⟨by decide, by decide, by decide⟩, _, _, rfl, rfl, .inr ⟨_, rfl, _, _, rfl, rfl, .inr (by split <;> decide), _, rfl, _, _, rfl, rfl, (by show (0 : Int) < 2147483647; decide), _, rfl, _, _, rfl, rfl, .inl (by omega), _, _, rfl, rfl, small 3, fun p hp => ?_⟩⟩
      exact q p _ hp ⟨_, _, _, upd_same⟩ (Keep.new hp)
end
section
variable {P : Program} {w : World} {K : PySem.W.Frag} {mg : Str → Option Value} {base : Heap}
def spPlace : Sp := fun vs H Q _ => ∃ (W : Addr) (wire way : Int), vs = [.ref W, .int wire, .int way] ∧ Wl H W ∧ 1 ≤ wire ∧ wire < 1000 ∧ ∀ d H', 0 ≤ d → d < wire → Wl H' W → Keep [W] H H' → Q (.int d) H'
theorem ok_place {f c : Addr} (D : Dfn K mg "_law_place" s__law_place f c) (T : Txt mg) (c__law_take : Cal P w K mg base 1 "_law_take" spTake []) : Cal P w K mg base 2 "_law_place" spPlace [] := by
  refine cal D (fun _ _ _ _ _ _ us hl => match us, hl with | [_, _, _], _ => rfl) sc__law_place (fun vs H Q E h => ?_) (fun A outer s H vs Q E hr h => ?_)
  · obtain ⟨W, wire, way, rfl, _⟩ := h
    rfl
  · obtain ⟨W, wire, way, rfl, hW, h1, h2, q⟩ := h
    refine ⟨_, (pss_cons (ps_set (i := 3) sc__law_place.nd rfl (by first | exact Or.inl rfl | exact Or.inr rfl) (pe_c c__law_take hr (by decide) (by rfl) (pa_cons (pv 0) (pa_cons pe_int pa_nil))))
      (pss_cons (ps_if (PW.pt (pw_or (pt_cmpR op_eq (pv 2) pe_int (nomark _)) (pw_or1 (pt_cmpR op_eq (pe_c c__law_take hr (by decide) (by rfl) (pa_cons (pv 0) (pa_cons pe_int pa_nil))) pe_int (nomark _))))) (pss_one (ps_ret (pe_callB (call_max2 rfl) (by rfl) T.b_max (by decide +kernel) (pa_cons pe_int (pa_cons (pe_op op_sub (pe_op op_sub (pv 1) pe_int) (pv 3)) pa_nil))))) pss_nil)
      (pss_one (ps_ret (pe_c c__law_take hr (by decide) (by rfl) (pa_cons (pv 0) (pa_cons (pv 1) pa_nil))))))), ?_⟩
    refine ⟨_, rfl, W, 3, rfl, hW, by decide, by decide, fun d H1 d0 d3 w1 k1 => ?_⟩
    have last : ∀ H2, Wl H2 W → Keep [W] H H2 → Q (.int (if 0 < wire - 1 - d then wire - 1 - d else 0)) H2 := fun H2 w2 k2 => by
      refine q _ _ ?_ ?_ w2 k2 <;> split <;> omega
    refine ⟨_, rfl, rfl, _, rfl, ite2 (fun g => ?_) (fun g => ?_)⟩
    · refine ⟨_, rfl, _, _, rfl, rfl, _, rfl, _, _, rfl, rfl, _, _, rfl, ?_⟩
      exact last _ w1 k1
    · refine ⟨_, rfl, W, 2, rfl, w1, by decide, by decide, fun e H2 e0 e2 w2 k2 => ?_⟩
      refine ⟨rfl, _, rfl, ite2 (fun g => ?_) (fun g => ?_)⟩
      · refine ⟨_, rfl, _, _, rfl, rfl, _, rfl, _, _, rfl, rfl, _, _, rfl, ?_⟩
        exact last _ w2 (k1.trans k2)
      · refine ⟨_, rfl, _, rfl, W, wire, rfl, w2, by omega, by omega, fun z H3 z0 z1 w3 k3 => ?_⟩
        exact q _ _ z0 z1 w3 ((k1.trans k2).trans k3)
/-! ### a net drawn -/
def spNet : Sp := fun vs H Q _ => ∃ (W : Addr) (most mg : Nat), vs = [.ref W, nV most, nV mg] ∧ Wl H W ∧ 1 ≤ most ∧ most ≤ 8 ∧ mg ≤ 16 ∧ ∀ a n g o ps H', n.Ok → n.many ≤ most → n.gates.length ≤ mg → NetAt H' a n g o ps → Wk W H H' → Q (.ref a) H'
theorem ok_net {f c : Addr} (D : Dfn K mg "_law_net" s__law_net f c) (T : Txt mg) (c__law_take : Cal P w K mg base 1 "_law_take" spTake []) (c__law_place : Cal P w K mg base 2 "_law_place" spPlace []) : Cal P w K mg base 3 "_law_net" spNet [] := by
  refine cal D (fun _ _ _ _ _ _ us hl => match us, hl with | [_, _, _], _ => rfl) sc__law_net (fun vs H Q E h => ?_) (fun A outer s H vs Q E hr h => ?_)
  · obtain ⟨W, most, mg, rfl, _⟩ := h
    rfl
  · obtain ⟨W, most, gm, rfl, hW, h1, h8, hg, q⟩ := h
    refine ⟨_, (pss_cons (ps_set (i := 3) sc__law_net.nd rfl (by first | exact Or.inl rfl | exact Or.inr rfl) (pe_c c__law_take hr (by decide) (by rfl) (pa_cons (pv 0) (pa_cons pe_int pa_nil))))
      (pss_cons (ps_set (i := 4) sc__law_net.nd rfl (by first | exact Or.inl rfl | exact Or.inr rfl) (pe_op op_add pe_int (pe_c c__law_take hr (by decide) (by rfl) (pa_cons (pv 0) (pa_cons (pv 1) pa_nil)))))
      (pss_cons (ps_set (i := 5) sc__law_net.nd rfl (by first | exact Or.inl rfl | exact Or.inr rfl) (pe_ix ix_list (pe_lst (pa_cons (pe_c c__law_take hr (by decide) (by rfl) (pa_cons (pv 0) (pa_cons (pe_op op_add (pv 2) pe_int) pa_nil))) (pa_cons (pv 2) pa_nil))) (pe_callTy call_int1 (by rfl) T.b_int (by decide +kernel) (pa_cons (pe_cmpR op_eq (pv 3) pe_int (nomark _)) pa_nil)) (fun _ _ => rfl)))
      (pss_cons (ps_set (i := 6) sc__law_net.nd rfl (by first | exact Or.inl rfl | exact Or.inr rfl) (pe_tup pa_nil))
      (pss_cons (ps_for PassesOwn.never rfl (pi_range2 (by rfl) T.b_range (pa_cons (pv 4) (pa_cons (pe_op op_add (pv 4) (pv 5)) pa_nil))) (pg_name (i := 7) sc__law_net.nd rfl (by first | exact Or.inl rfl | exact Or.inr rfl))
        (pss_cons (ps_set (i := 8) sc__law_net.nd rfl (by first | exact Or.inl rfl | exact Or.inr rfl) (pe_cmpR op_eq (pe_c c__law_take hr (by decide) (by rfl) (pa_cons (pv 0) (pa_cons pe_int pa_nil))) pe_int (nomark _)))
      (pss_cons (ps_set (i := 9) sc__law_net.nd rfl (by first | exact Or.inl rfl | exact Or.inr rfl) (pe_ix ix_list (pe_lst (pa_cons (pe_c c__law_place hr (by decide) (by rfl) (pa_cons (pv 0) (pa_cons (pv 7) (pa_cons (pv 3) pa_nil)))) (pa_cons (pe_op op_sub (pv 7) pe_int) pa_nil))) (pe_callTy call_int1 (by rfl) T.b_int (by decide +kernel) (pa_cons (pe_cmpR op_eq (pv 3) pe_int (nomark _)) pa_nil)) (fun _ _ => rfl)))
      (pss_cons (ps_set (i := 10) sc__law_net.nd rfl (by first | exact Or.inl rfl | exact Or.inr rfl) (pe_ix ix_list (pe_lst (pa_cons (pe_c c__law_place hr (by decide) (by rfl) (pa_cons (pv 0) (pa_cons (pv 7) (pa_cons (pv 3) pa_nil)))) (pa_cons (pv 9) pa_nil))) (pe_callTy call_int1 (by rfl) T.b_int (by decide +kernel) (pa_cons (pv 8) pa_nil)) (fun _ _ => rfl)))
      (pss_one (ps_set (i := 6) sc__law_net.nd rfl (by first | exact Or.inl rfl | exact Or.inr rfl) (pe_op op_catA (pv 6) (pe_tup (pa_cons (pe_tup (pa_cons (pe_c c__law_take hr (by decide) (by rfl) (pa_cons (pv 0) (pa_cons pe_int pa_nil))) (pa_cons (pv 9) (pa_cons (pv 10) pa_nil)))) pa_nil)))))))))
      (pss_cons (ps_set (i := 11) sc__law_net.nd rfl (by first | exact Or.inl rfl | exact Or.inr rfl) (pe_op op_add (pv 4) (pv 5)))
      (pss_cons (ps_set (i := 12) sc__law_net.nd rfl (by first | exact Or.inl rfl | exact Or.inr rfl) (pe_c c__law_take hr (by decide) (by rfl) (pa_cons (pv 0) (pa_cons pe_int pa_nil))))
      (pss_cons (ps_set (i := 13) sc__law_net.nd rfl (by first | exact Or.inl rfl | exact Or.inr rfl) (pe_ix ix_list (pe_lst (pa_cons (pv 11) (pa_cons (pv 4) pa_nil))) (pe_callTy call_int1 (by rfl) T.b_int (by decide +kernel) (pa_cons (pe_cmpR op_eq (pv 12) pe_int (nomark _)) pa_nil)) (fun _ _ => rfl)))
      (pss_cons (ps_set (i := 14) sc__law_net.nd rfl (by first | exact Or.inl rfl | exact Or.inr rfl) (pe_tup (pa_cons (pe_ix ix_list (pe_lst (pa_cons (pe_op op_sub (pv 11) pe_int) (pa_cons (pe_c c__law_take hr (by decide) (by rfl) (pa_cons (pv 0) (pa_cons (pv 13) pa_nil))) pa_nil))) (pe_callTy call_int1 (by rfl) T.b_int (by decide +kernel) (pa_cons (pe_cmpR op_gt (pv 12) pe_int (nomark _)) pa_nil)) (fun _ _ => rfl)) pa_nil)))
      (pss_cons (ps_for PassesOwn.never rfl (pi_range1 (by rfl) T.b_range (pa_cons (pe_ix ix_list (pe_lst (pa_cons (pe_c c__law_take hr (by decide) (by rfl) (pa_cons (pv 0) (pa_cons pe_int pa_nil))) (pa_cons pe_int pa_nil))) (pe_callTy call_int1 (by rfl) T.b_int (by decide +kernel) (pa_cons (pe_cmpR op_eq (pv 3) pe_int (nomark _)) pa_nil)) (fun _ _ => rfl)) pa_nil)) (pg_name (i := 15) sc__law_net.nd rfl (by first | exact Or.inl rfl | exact Or.inr rfl))
        (pss_cons (ps_set (i := 16) sc__law_net.nd rfl (by first | exact Or.inl rfl | exact Or.inr rfl) (pe_or (pe_cmpR op_eq (pe_c c__law_take hr (by decide) (by rfl) (pa_cons (pv 0) (pa_cons pe_int pa_nil))) pe_int (nomark _)) (pe_one (pe_cmpR op_gt (pv 12) pe_int (nomark _)))))
      (pss_cons (ps_set (i := 17) sc__law_net.nd rfl (by first | exact Or.inl rfl | exact Or.inr rfl) (pe_callB (call_max2 rfl) (by rfl) T.b_max (by decide +kernel) (pa_cons pe_int (pa_cons (pe_op op_sub (pe_op op_sub (pv 11) pe_int) (pe_c c__law_take hr (by decide) (by rfl) (pa_cons (pv 0) (pa_cons pe_int pa_nil)))) pa_nil))))
      (pss_one (ps_set (i := 14) sc__law_net.nd rfl (by first | exact Or.inl rfl | exact Or.inr rfl) (pe_op op_catA (pv 14) (pe_tup (pa_cons (pe_ix ix_list (pe_lst (pa_cons (pv 17) (pa_cons (pe_c c__law_take hr (by decide) (by rfl) (pa_cons (pv 0) (pa_cons (pv 13) pa_nil))) pa_nil))) (pe_callTy call_int1 (by rfl) T.b_int (by decide +kernel) (pa_cons (pv 16) pa_nil)) (fun _ _ => rfl)) pa_nil))))))))
      (pss_cons (ps_set (i := 18) sc__law_net.nd rfl (by first | exact Or.inl rfl | exact Or.inr rfl) (pe_c c__law_take hr (by decide) (by rfl) (pa_cons (pv 0) (pa_cons (pe_callB call_len_seq (by rfl) T.b_len (by decide +kernel) (pa_cons (pv 14) pa_nil)) pa_nil))))
      (pss_one (ps_ret (pe_tup (pa_cons (pv 4) (pa_cons (pv 6) (pa_cons (pe_op op_catA (pe_slice sl_tupA (pv 14) (po_some (pv 18)) po_none) (pe_slice sl_tupA (pv 14) po_none (po_some (pv 18)))) pa_nil))))))))))))))))), ?_⟩
    -- way, many
    refine ⟨_, rfl, W, 4, rfl, hW, by decide, by decide, fun way H1 _ _ w1 k1 => ?_⟩
    have s1 : Wk W H H1 := ⟨w1, k1⟩
    refine ⟨_, rfl, _, rfl, W, most, rfl, w1, by omega, by omega, fun m0 H2 m1 m2 w2 k2 => ⟨_, _, rfl, rfl, ?_⟩⟩
    have s2 := s1.nxt w2 k2
    -- count
    refine ⟨_, rfl, _, rfl, _, _, rfl, rfl, W, gm + 1, rfl, w2, by omega, by omega, fun c0 H3 c1 c2 w3 k3 => ⟨_, rfl, small 2, fun l3 n3 => ?_⟩⟩
    have s3 := (s2.nxt w3 k3).new (o := .lst [.int c0, nV gm]) n3
    obtain ⟨count, ec, hc0, hc1⟩ : ∃ count : Int, (if decide (V.int way = V.int 2) = true then nV gm else V.int c0) = V.int count ∧ 0 ≤ count ∧ count ≤ gm := by
      split
      · exact ⟨gm, rfl, by omega, by omega⟩
      · exact ⟨c0, rfl, by omega, by omega⟩
    refine ⟨_, rfl, rfl, .inr ⟨_, rfl, l3, _, _, .int count, rfl, rfl, SqL.of upd_same, (by rw [atIf]; exact congrArg some ec), ?_⟩⟩
    -- gates = ()
    refine ⟨small 0, fun g0 ng0 => ?_⟩
    have s4 := s3.new (o := .tup []) ng0
    refine ⟨_, rfl, _, rfl, _, rfl, _, _, rfl, rfl, _, _, rfl, ⟨by omega, by omega, by omega, by omega⟩, ?_⟩
    refine for_range (lo := 1 + m0) (n := (1 + m0 + count - (1 + m0)).toNat) (fun i σ H' => ∃ ga ps gs x7 x8 x9 x10, σ = [some (.ref W), some (nV most), some (nV gm), some (.int way), some (.int (1 + m0)), some (.int count), some (.ref ga), x7, x8, x9, x10, none, none, none, none, none, none, none, none] ∧ Wk W H H' ∧
      H' ga = some (.tup (ps.map V.ref)) ∧ GatesAt H' ps gs ∧ gs.length = i ∧ ∀ (j : Nat) (g : Nat × Nat × Nat), gs[j]? = some g → gateOk (1 + m0).toNat j g) ⟨g0, [], [], none, none, none, none, rfl, s4, upd_same, GatesAt.nil _, rfl, fun j g e => by simp at e⟩ ?_ ?_
    · rintro i σ H5 hi ⟨ga, ps, gs, x7, x8, x9, x10, rfl, s5, hga, hgs, hlen, hok⟩
      have hi' : i < 16 := by omega
      -- alike
      refine ⟨_, rfl, W, 12, rfl, s5.wl, by decide, by decide, fun d1 H6 _ _ w6 k6 => ⟨rfl, ?_⟩⟩
      have s6 := s5.nxt w6 k6
      have hga6 := s5.wl.tup k6 hga
      have hgs6 := s5.wl.gates k6 hgs
      -- one
      refine ⟨_, rfl, _, rfl, _, rfl, W, _, way, rfl, w6, by omega, by omega, fun o1 H7 o10 o11 w7 k7 => ⟨_, rfl, _, _, rfl, rfl, small 2, fun l7 n7 => ?_⟩⟩
      have s7 := s6.nxt w7 k7
      have s7' := s7.new (o := .lst [.int o1, .int (1 + m0 + i - 1)]) n7
      have hga7 := Same.new (o := .lst [.int o1, .int (1 + m0 + i - 1)]) n7 _ _ (w6.tup k7 hga6)
      have hgs7 := Same.gates (Same.new (o := .lst [.int o1, .int (1 + m0 + i - 1)]) n7) (w6.gates k7 hgs6)
      obtain ⟨one, eo, ho0, ho1⟩ : ∃ one : Int, (if decide (V.int way = V.int 2) = true then V.int (1 + m0 + i - 1) else V.int o1) = V.int one ∧ 0 ≤ one ∧ one < 1 + m0 + i := by
        split
        · exact ⟨_, rfl, by omega, by omega⟩
        · exact ⟨_, rfl, o10, o11⟩
      refine ⟨_, rfl, rfl, .inr ⟨_, rfl, l7, _, _, .int one, rfl, rfl, SqL.of upd_same, (by rw [atIf]; exact congrArg some eo), ?_⟩⟩
      -- other
      refine ⟨_, rfl, _, rfl, _, rfl, W, _, way, rfl, s7'.wl, by omega, by omega, fun o2 H8 o20 o21 w8 k8 => ⟨_, rfl, small 2, fun l8 n8 => ?_⟩⟩
      have s8 := (s7'.nxt w8 k8).new (o := .lst [.int o2, .int one]) n8
      have hga8 := Same.new (o := .lst [.int o2, .int one]) n8 _ _ (s7'.wl.tup k8 hga7)
      have hgs8 := Same.gates (Same.new (o := .lst [.int o2, .int one]) n8) (s7'.wl.gates k8 hgs7)
      obtain ⟨other, eo2, hr0, hr1⟩ : ∃ other : Int, (if decide (V.int d1 = V.int 0) = true then V.int one else V.int o2) = V.int other ∧ 0 ≤ other ∧ other < 1 + m0 + i := by
        split
        · exact ⟨_, rfl, by omega, by omega⟩
        · exact ⟨_, rfl, o20, o21⟩
      refine ⟨_, rfl, .inr ⟨_, rfl, l8, _, _, .int other, rfl, rfl, SqL.of upd_same, (by rw [atIf]; exact congrArg some eo2), ?_⟩⟩
      -- gates + ((take, one, other),)
      refine ⟨_, rfl, _, rfl, W, 16, rfl, s8.wl, by decide, by decide, fun kd H9 k0 k1 w9 k9 => ⟨_, rfl, _, rfl, small 3, fun g9 n9 => ⟨small 1, fun t9 m9 => ?_⟩⟩⟩
      have s9 := ((s8.nxt w9 k9).new (o := .tup [.int kd, .int one, .int other]) n9).new (o := .tup [.ref g9]) m9
      have e9 := Same.new (o := .tup [.int kd, .int one, .int other]) n9
      have f9 := Same.new (o := .tup [.ref g9]) m9
      have hga9 := f9 _ _ (e9 _ _ (s8.wl.tup k9 hga8))
      have hgs9 := Same.gates f9 (Same.gates e9 (s8.wl.gates k9 hgs8))
      refine catA hga9 upd_same (by rw [List.length_map, hgs9.1, hlen]; show i + 1 ≤ sizeLine; exact small _ (by omega)) fun r H10 sm hr' => ?_
      refine ⟨r, ps ++ [g9], gs ++ [(kd.toNat, one.toNat, other.toNat)], _, _, _, _, rfl, s9.same sm, by rw [List.map_append]; exact hr', (Same.gates sm hgs9).push ?_, by rw [List.length_append, hlen]; rfl, fun j g e => ?_⟩
      · have : (gV (kd.toNat, one.toNat, other.toNat)) = [.int kd, .int one, .int other] := by
          show [V.int (kd.toNat : Int), V.int (one.toNat : Int), V.int (other.toNat : Int)] = _
          rw [Int.toNat_of_nonneg k0, Int.toNat_of_nonneg ho0, Int.toNat_of_nonneg hr0]
        rw [this]
        exact sm _ _ (f9 _ _ upd_same)
      · by_cases hj : j < gs.length
        · rw [List.getElem?_append_left hj] at e
          exact hok j g e
        · rw [List.getElem?_append_right (by omega)] at e
          have hz : j - gs.length = 0 := by
            obtain ⟨h1, _⟩ := List.getElem?_eq_some_iff.mp e
            simp at h1
            omega
          rw [hz] at e
          cases e
          refine ⟨?_, ?_, ?_⟩ <;> (show _ < _; simp only []; omega)
    · rintro σ H5 ⟨ga, ps, gs, x7, x8, x9, x10, rfl, s5, hga, hgs, hlen, hok⟩
      have e0 : (1 + m0 + count - (1 + m0)).toNat = count.toNat := by omega
      rw [e0] at hlen
      -- wires, manner, bound
      refine ⟨_, rfl, _, rfl, _, _, rfl, rfl, ?_⟩
      refine ⟨_, rfl, W, 8, rfl, s5.wl, by decide, by decide, fun manner H6 _ _ w6 k6 => ?_⟩
      have s6 := s5.nxt w6 k6
      have hga6 := s5.wl.tup k6 hga
      have hgs6 := s5.wl.gates k6 hgs
      refine ⟨_, rfl, _, rfl, small 2, fun l7 n7 => ?_⟩
      have e7 := Same.new (o := .lst [.int (1 + m0 + count), .int (1 + m0)]) n7
      have s7 := s6.same e7
      have hga7 := e7 _ _ hga6
      have hgs7 := Same.gates e7 hgs6
      obtain ⟨bound, eb, hb1, hb2⟩ : ∃ bound : Int, (if decide (V.int manner = V.int 7) = true then V.int (1 + m0) else V.int (1 + m0 + count)) = V.int bound ∧ 1 ≤ bound ∧ bound ≤ 1 + m0 + count := by
        split
        · exact ⟨_, rfl, by omega, by omega⟩
        · exact ⟨_, rfl, by omega, by omega⟩
      refine ⟨_, rfl, rfl, .inr ⟨_, rfl, l7, _, _, .int bound, rfl, rfl, SqL.of upd_same, (by rw [atIf]; exact congrArg some eb), ?_⟩⟩
      -- outs
      refine ⟨_, rfl, _, _, rfl, rfl, _, rfl, _, rfl, W, bound, rfl, s7.wl, by omega, by omega, fun d8 H8 d80 d81 w8 k8 => ⟨small 2, fun l8 n8 => ?_⟩⟩
      have e8 := Same.new (o := .lst [.int (1 + m0 + count - 1), .int d8]) n8
      have s8 := (s7.nxt w8 k8).same e8
      have hga8 := e8 _ _ (s7.wl.tup k8 hga7)
      have hgs8 := Same.gates e8 (s7.wl.gates k8 hgs7)
      obtain ⟨out0, eo, ho0, ho1⟩ : ∃ out0 : Int, (if decide (manner > 3) = true then V.int d8 else V.int (1 + m0 + count - 1)) = V.int out0 ∧ 0 ≤ out0 ∧ out0 < 1 + m0 + count := by
        split
        · exact ⟨_, rfl, by omega, by omega⟩
        · exact ⟨_, rfl, by omega, by omega⟩
      refine ⟨_, rfl, _, _, rfl, rfl, .inr ⟨_, rfl, l8, _, _, .int out0, rfl, rfl, SqL.of upd_same, (by rw [atIf]; exact congrArg some eo), small 1, fun t9 n9 => ?_⟩⟩
      have e9 := Same.new (o := .tup [.int out0]) n9
      have s9 := s8.same e9
      have hga9 := e9 _ _ hga8
      have hgs9 := Same.gates e9 hgs8
      -- range(..)
      refine ⟨_, rfl, W, 8, rfl, s9.wl, by decide, by decide, fun d10 H10 d100 d101 w10 k10 => ⟨small 2, fun l10 n10 => ?_⟩⟩
      have e10 := Same.new (o := .lst [.int d10, .int 0]) n10
      have s10 := (s9.nxt w10 k10).same e10
      have hga10 := e10 _ _ (s9.wl.tup k10 hga9)
      have hgs10 := Same.gates e10 (s9.wl.gates k10 hgs9)
      have hot10 := e10 _ _ (s9.wl.tup k10 (upd_same (H := upd H8 l8 (.lst [.int (1 + m0 + count - 1), .int d8])) (a := t9) (o := .tup [.int out0])))
      obtain ⟨more, emo, hmo0, hmo1⟩ : ∃ more : Int, (if decide (V.int way = V.int 3) = true then V.int 0 else V.int d10) = V.int more ∧ 0 ≤ more ∧ more < 8 := by
        split
        · exact ⟨_, rfl, by omega, by omega⟩
        · exact ⟨_, rfl, by omega, by omega⟩
      refine ⟨_, rfl, rfl, .inr ⟨_, rfl, l10, _, _, .int more, rfl, rfl, SqL.of upd_same, (by rw [atIf]; exact congrArg some emo), more, rfl, by omega, by omega, ?_⟩⟩
      refine for_range (lo := 0) (n := more.toNat) (fun i σ H' => ∃ oa os x15 x16 x17, σ = [some (.ref W), some (nV most), some (nV gm), some (.int way), some (.int (1 + m0)), some (.int count), some (.ref ga), x7, x8, x9, x10, some (.int (1 + m0 + count)), some (.int manner), some (.int bound), some (.ref oa), x15, x16, x17, none] ∧ Wk W H H' ∧
        H' ga = some (.tup (ps.map V.ref)) ∧ GatesAt H' ps gs ∧ H' oa = some (.tup (os.map nV)) ∧ os.length = i + 1 ∧ ∀ o ∈ os, ((o : Nat) : Int) < 1 + m0 + count) ⟨t9, [out0.toNat], none, none, none, rfl, s10, hga10, hgs10, ?_, rfl, ?_⟩ ?_ ?_
      · rw [hot10]
        show some (HO.tup [V.int out0]) = some (HO.tup [V.int (out0.toNat : Int)])
        rw [Int.toNat_of_nonneg ho0]
      · intro o ho
        rw [List.mem_singleton.mp ho]
        omega
      · rintro i σ H11 hi ⟨oa, os, x15, x16, x17, rfl, s11, hga11, hgs11, hoa, hol, hos⟩
        refine ⟨_, rfl, W, 3, rfl, s11.wl, by decide, by decide, fun d12 H12 _ _ w12 k12 => ⟨rfl, _, rfl, ite2 (fun g => ?_) (fun g => ⟨_, rfl, _, _, rfl, rfl, ?_⟩)⟩⟩
        all_goals
          have s12 := s11.nxt w12 k12
          have hga12 := s11.wl.tup k12 hga11
          have hgs12 := s11.wl.gates k12 hgs11
          have hoa12 := s11.wl.tup k12 hoa
          refine ⟨_, rfl, _, _, rfl, rfl, _, rfl, W, 4, rfl, w12, by decide, by decide, fun d13 H13 d130 d131 w13 k13 => ⟨_, _, rfl, rfl, _, _, rfl, ?_⟩⟩
          have s13 := s12.nxt w13 k13
          have hga13 := w12.tup k13 hga12
          have hgs13 := w12.gates k13 hgs12
          have hoa13 := w12.tup k13 hoa12
          refine ⟨_, rfl, _, rfl, _, rfl, _, rfl, W, bound, rfl, w13, by omega, by omega, fun d14 H14 d140 d141 w14 k14 => ⟨small 2, fun l14 n14 => ?_⟩⟩
          have e14 := Same.new (o := .lst [.int (if 1 + m0 + count - 1 - d13 > 0 then 1 + m0 + count - 1 - d13 else 0), .int d14]) n14
          have s14 := (s13.nxt w14 k14).same e14
          have hga14 := e14 _ _ (w13.tup k14 hga13)
          have hgs14 := Same.gates e14 (w13.gates k14 hgs13)
          have hoa14 := e14 _ _ (w13.tup k14 hoa13)
        · obtain ⟨o, eoo, hoo0, hoo1⟩ : ∃ o : Int, (if true = true then V.int d14 else V.int (if 1 + m0 + count - 1 - d13 > 0 then 1 + m0 + count - 1 - d13 else 0)) = V.int o ∧ 0 ≤ o ∧ o < 1 + m0 + count := by
            split
            · exact ⟨_, rfl, by omega, by omega⟩
            · exact ⟨_, rfl, by split <;> omega, by split <;> omega⟩
          refine ⟨_, rfl, .inr ⟨_, rfl, l14, _, _, .int o, rfl, rfl, SqL.of upd_same, (by rw [atIf]; exact congrArg some eoo), small 1, fun t15 n15 => ?_⟩⟩
          have e15 := Same.new (o := .tup [.int o]) n15
          refine catA (e15 _ _ hoa14) upd_same (by rw [List.length_map, hol]; show i + 1 + 1 ≤ sizeLine; exact small _ (by omega)) fun r H16 sm hr' => ?_
          refine ⟨r, os ++ [o.toNat], _, _, _, rfl, (s14.same e15).same sm, sm _ _ (e15 _ _ hga14), Same.gates sm (Same.gates e15 hgs14), ?_, by rw [List.length_append, hol]; rfl, ?_⟩
          · rw [hr', List.map_append]
            show some (HO.tup (_ ++ [V.int o])) = some (HO.tup (_ ++ [V.int (o.toNat : Int)]))
            rw [Int.toNat_of_nonneg hoo0]
          · intro z hz
            rcases List.mem_append.mp hz with hz | hz
            · exact hos z hz
            · rw [List.mem_singleton.mp hz]
              omega
        · obtain ⟨o, eoo, hoo0, hoo1⟩ : ∃ o : Int, (if decide (manner > 3) = true then V.int d14 else V.int (if 1 + m0 + count - 1 - d13 > 0 then 1 + m0 + count - 1 - d13 else 0)) = V.int o ∧ 0 ≤ o ∧ o < 1 + m0 + count := by
            split
            · exact ⟨_, rfl, by omega, by omega⟩
            · exact ⟨_, rfl, by split <;> omega, by split <;> omega⟩
          refine ⟨_, rfl, .inr ⟨_, rfl, l14, _, _, .int o, rfl, rfl, SqL.of upd_same, (by rw [atIf]; exact congrArg some eoo), small 1, fun t15 n15 => ?_⟩⟩
          have e15 := Same.new (o := .tup [.int o]) n15
          refine catA (e15 _ _ hoa14) upd_same (by rw [List.length_map, hol]; show i + 1 + 1 ≤ sizeLine; exact small _ (by omega)) fun r H16 sm hr' => ?_
          refine ⟨r, os ++ [o.toNat], _, _, _, rfl, (s14.same e15).same sm, sm _ _ (e15 _ _ hga14), Same.gates sm (Same.gates e15 hgs14), ?_, by rw [List.length_append, hol]; rfl, ?_⟩
          · rw [hr', List.map_append]
            show some (HO.tup (_ ++ [V.int o])) = some (HO.tup (_ ++ [V.int (o.toNat : Int)]))
            rw [Int.toNat_of_nonneg hoo0]
          · intro z hz
            rcases List.mem_append.mp hz with hz | hz
            · exact hos z hz
            · rw [List.mem_singleton.mp hz]
              omega
      · rintro σ H11 ⟨oa, os, x15, x16, x17, rfl, s11, hga11, hgs11, hoa, hol, hos⟩
        refine ⟨_, rfl, _, rfl, oa, _, rfl, .inr (SqT.of hoa), W, _, rfl, s11.wl, by rw [List.length_map, hol]; omega, by rw [List.length_map, hol]; omega, fun at0' H12 a0 a1 w12 k12 => ?_⟩
        have s12 := s11.nxt w12 k12
        obtain ⟨at1', rfl⟩ := Int.eq_ofNat_of_zero_le a0
        have hga12 := s11.wl.tup k12 hga11
        have hgs12 := s11.wl.gates k12 hgs11
        have hoa12 := s11.wl.tup k12 hoa
        refine ⟨_, rfl, _, rfl, _, rfl, _, rfl, _, rfl, ?_⟩
        unfold tNoPart
        refine slA (lo := some (at1' : Int)) (hi := none) hoa12 fun r1 H13 sm1 h13 => ?_
        refine ⟨_, rfl, _, rfl, _, rfl, ?_⟩
        refine slA (lo := none) (hi := some (at1' : Int)) (sm1 _ _ hoa12) fun r2 H14 sm2 h14 => ?_
        rw [cut_lo, ← List.map_drop] at h13
        rw [cut_hi, ← List.map_take] at h14
        refine catA (sm2 _ _ h13) h14 (by rw [List.length_map, List.length_map, List.length_drop, List.length_take, hol]; exact small _ (by omega)) fun r3 H15 sm3 h15 => ?_
        refine ⟨small 3, fun a na => ?_⟩
        have e16 := Same.new (o := .tup [.int (1 + m0), .ref ga, .ref r3]) na
        refine q a ⟨(1 + m0).toNat, gs, os.drop at1' ++ os.take at1'⟩ ga r3 ps _ ⟨?_, ?_, ?_, ?_, ?_, ?_, ?_⟩ ?_ ?_ ⟨?_, ?_, ?_, ?_⟩ ((((s12.same sm1).same sm2).same sm3).same e16)
        · show 1 ≤ (1 + m0).toNat; omega
        · show (1 + m0).toNat ≤ 8; omega
        · show gs.length ≤ 16; omega
        · exact hok
        · show 1 ≤ (os.drop at1' ++ os.take at1').length
          rw [List.length_append, List.length_drop, List.length_take, hol]; omega
        · show (os.drop at1' ++ os.take at1').length ≤ 8
          rw [List.length_append, List.length_drop, List.length_take, hol]; omega
        · intro z hz
          have hz' : z ∈ os := (List.mem_append.mp hz).elim List.mem_of_mem_drop List.mem_of_mem_take
          have := hos z hz'
          show z < (1 + m0).toNat + gs.length
          omega
        · show (1 + m0).toNat ≤ most; omega
        · show gs.length ≤ gm; omega
        · show upd H15 a _ a = some (.tup [V.int ((1 + m0).toNat : Int), .ref ga, .ref r3])
          rw [upd_same, Int.toNat_of_nonneg (by omega)]
        · exact e16 _ _ (sm3 _ _ (sm2 _ _ (sm1 _ _ hga12)))
        · exact Same.gates e16 (Same.gates sm3 (Same.gates sm2 (Same.gates sm1 hgs12)))
        · show upd H15 a _ r3 = _
          rw [List.map_append]
          exact e16 _ _ h15
end
section
variable {P : Program} {w : World} {K : PySem.W.Frag} {mg : Str → Option Value} {base : Heap} {Ts : List Addr}
/-! ### covers by draws -/
theorem gate_at {n : Net} {a g o : Addr} {ps : List Addr} {Ha : Hp} (x : Nat) (NA : NetAt Ha a n g o ps) (h1 : n.many ≤ x) (h2 : x < n.many + n.gates.length) : ∃ (k : Nat × Nat × Nat) (p : Addr), n.gates[x - n.many]? = some k ∧ Ha p = some (.tup (gV k)) ∧ atI (ps.map V.ref) (((x : Nat) : Int) - ((n.many : Nat) : Int)) = some (.ref p) := by
  obtain ⟨k, hk⟩ : ∃ k, n.gates[x - n.many]? = some k := ⟨_, List.getElem?_eq_getElem (by omega)⟩
  have hil : x - n.many < ps.length := by rw [NA.gs.1]; omega
  refine ⟨k, ps[x - n.many], hk, NA.gs.2 _ _ _ (List.getElem?_eq_getElem hil) hk, ?_⟩
  rw [show (((x : Nat) : Int) - ((n.many : Nat) : Int)) = ((x - n.many : Nat) : Int) by omega]
  exact atI_nat (by rw [List.getElem?_map, List.getElem?_eq_getElem hil]; rfl)
def spOpened : Sp := fun vs H Q _ => ∃ (a : Addr) (n : Net) (g o : Addr) (ps : List Addr) (ca : Addr) (cut : List Nat) (at_ gt : Nat), vs = [.ref a, .ref ca, nV at_] ∧ NetAt H a n g o ps ∧ n.Ok ∧ H ca = some (.lst (cut.map nV)) ∧ CutOk n gt cut ∧ cut.length ≤ 24 ∧ n.many ≤ gt ∧ gt < n.many + n.gates.length ∧ at_ < cut.length ∧ n.many ≤ cut.getD at_ 0 ∧ ∀ p H' ys, Same H H' → H p = none → H' p = some (.lst (ys.map nV)) → CutOk n gt ys → Q (.ref p) H'
theorem ok_opened {f c : Addr} (D : Dfn K mg "_law_opened" s__law_opened f c) (T : Txt mg) : Cal P w K mg base 1 "_law_opened" spOpened [] := by
  refine cal D (fun _ _ _ _ _ _ us hl => match us, hl with | [_, _, _], _ => rfl) sc__law_opened (fun vs H Q E h => ?_) (fun A outer s H vs Q E hr h => ?_)
  · obtain ⟨a, n, g, o, ps, ca, cut, at_, gt, rfl, _⟩ := h
    rfl
  · obtain ⟨a, n, g, o, ps, ca, cut, at_, gt, rfl, N, ok, hca, cok, cl, hgm, hgw, hat, hbig, q⟩ := h
    refine ⟨_, (pss_cons (ps_set (i := 3) sc__law_opened.nd rfl (by first | exact Or.inl rfl | exact Or.inr rfl) (pe_ix ix_tup (pe_ix ix_tup (pv 0) pe_int (fun _ _ => rfl)) (pe_op op_sub (pe_ix ix_list (pv 1) (pv 2) (fun _ _ => rfl)) (pe_ix ix_tup (pv 0) pe_int (fun _ _ => rfl))) (fun _ _ => rfl)))
      (pss_one (ps_ret (pe_callB (cr_sortedSet rfl) (by rfl) T.b_sorted (by decide +kernel) (pa_cons (pe_callTy (cr_setN rfl) (by rfl) T.b_set (by decide +kernel) (pa_cons (pe_op op_cat (pe_op op_cat (pe_slice sl_list (pv 1) po_none (po_some (pv 2))) (pe_slice sl_list (pv 1) (po_some (pe_op op_add (pv 2) pe_int)) po_none)) (pe_lst (pa_cons (pe_ix ix_tup (pv 3) pe_int (fun _ _ => rfl)) (pa_cons (pe_ix ix_tup (pv 3) pe_int (fun _ _ => rfl)) pa_nil)))) pa_nil)) pa_nil))))), ?_⟩
    have hm := getD_mem hat
    have hlt := cok.lt _ hm
    obtain ⟨k, pk, hk, hpk, hatk⟩ := gate_at (cut.getD at_ 0) N hbig (by omega)
    refine ⟨_, rfl, a, _, 1, _, rfl, rfl, SqT.of N.top, at1, _, rfl, _, rfl, ca, _, _, _, rfl, rfl, SqL.of hca, atI_nat (natAt hat), _, rfl, a, _, 0, _, rfl, rfl, SqT.of N.top, at0, _, _, rfl, rfl, g, _, _, _, rfl, rfl, SqT.of N.gt, hatk, ?_⟩
    refine ⟨_, rfl, ?_⟩
    unfold tNoPart
    refine ⟨_, rfl, _, rfl, ca, _, rfl, SqL.of hca, fun p1 np1 => ?_⟩
    rw [cut_hi, ← List.map_take]
    have s1 := Same.new (o := .lst ((cut.take at_).map nV)) np1
    refine ⟨_, rfl, _, rfl, _, _, rfl, rfl, _, rfl, ca, _, rfl, SqL.of (s1 _ _ hca), fun p2 np2 => ?_⟩
    rw [show (some (((at_ : Nat) : Int) + 1)) = some ((at_ + 1 : Nat) : Int) by rw [Int.natCast_add]; rfl, cut_lo, ← List.map_drop]
    have s2 := Same.new (o := .lst ((cut.drop (at_ + 1)).map nV)) np2
    refine ⟨p1, p2, _, _, rfl, rfl, s2 _ _ upd_same, upd_same, by rw [List.length_map, List.length_map, List.length_take, List.length_drop]; exact small _ (by omega), fun p3 np3 => ?_⟩
    rw [← List.map_append]
    have s3 := Same.new (o := .lst ((cut.take at_ ++ cut.drop (at_ + 1)).map nV)) np3
    have hp3 := ((s1.trans s2).trans s3) _ _ hpk
    refine ⟨_, rfl, pk, _, 1, _, rfl, rfl, SqT.of hp3, at1, _, rfl, pk, _, 2, _, rfl, rfl, SqT.of hp3, at2, small 2, fun p4 np4 => ?_⟩
    have s4 := Same.new (o := .lst [nV k.2.1, nV k.2.2]) np4
    have hp4 : upd (upd (upd (upd H p1 (.lst ((cut.take at_).map nV))) p2 (.lst ((cut.drop (at_ + 1)).map nV))) p3 (.lst ((cut.take at_ ++ cut.drop (at_ + 1)).map nV))) p4 (.lst [nV k.2.1, nV k.2.2]) p4 = some (.lst ([k.2.1, k.2.2].map nV)) := upd_same
    refine ⟨p3, p4, _, _, rfl, rfl, s4 _ _ upd_same, hp4, by rw [List.length_map, List.length_append, List.length_take, List.length_drop]; show _ + 2 ≤ sizeLine; exact small _ (by omega), fun p5 np5 => ?_⟩
    rw [← List.map_append]
    have s5 := Same.new (o := .lst (((cut.take at_ ++ cut.drop (at_ + 1)) ++ [k.2.1, k.2.2]).map nV)) np5
    have el : ((cut.take at_ ++ cut.drop (at_ + 1)) ++ [k.2.1, k.2.2]).length ≤ 26 := by
      rw [List.length_append, List.length_append, List.length_take, List.length_drop]
      show _ + 2 ≤ 26
      omega
    have eh : upd (upd (upd (upd (upd H p1 (.lst ((cut.take at_).map nV))) p2 (.lst ((cut.drop (at_ + 1)).map nV))) p3 (.lst ((cut.take at_ ++ cut.drop (at_ + 1)).map nV))) p4 (.lst [nV k.2.1, nV k.2.2])) p5 (.lst (((cut.take at_ ++ cut.drop (at_ + 1)) ++ [k.2.1, k.2.2]).map nV)) p5 = some (.lst (((cut.take at_ ++ cut.drop (at_ + 1)) ++ [k.2.1, k.2.2]).map nV)) := upd_same
    have sm5 := (((s1.trans s2).trans s3).trans s4).trans s5
    have inx : ∀ z, z ∈ (cut.take at_ ++ cut.drop (at_ + 1)) ++ [k.2.1, k.2.2] ↔ (z ∈ cut.take at_ ∨ z ∈ cut.drop (at_ + 1)) ∨ (z = k.2.1 ∨ z = k.2.2) := fun z => by
      rw [List.mem_append, List.mem_append]
      simp only [List.mem_cons, List.not_mem_nil, or_false]
    have kp : ∀ z ∈ cut, z ≠ cut.getD at_ 0 → (z ∈ cut.take at_ ∨ z ∈ cut.drop (at_ + 1)) := fun z hz hne => by
      obtain ⟨j, hj, rfl⟩ := mem_getD hz
      by_cases h1 : j < at_
      · left
        have : (cut.take at_).getD j 0 = cut.getD j 0 := by rw [List.getD_eq_getElem?_getD, List.getElem?_take_of_lt h1, ← List.getD_eq_getElem?_getD]
        rw [← this]
        exact getD_mem (by rw [List.length_take]; omega)
      · by_cases h2 : j = at_
        · rw [h2] at hne
          exact absurd rfl hne
        · right
          have : (cut.drop (at_ + 1)).getD (j - (at_ + 1)) 0 = cut.getD j 0 := by rw [List.getD_eq_getElem?_getD, List.getElem?_drop, show at_ + 1 + (j - (at_ + 1)) = j by omega, ← List.getD_eq_getElem?_getD]
          rw [← this]
          exact getD_mem (by rw [List.length_drop]; omega)
    generalize (cut.take at_ ++ cut.drop (at_ + 1)) ++ [k.2.1, k.2.2] = wh at el eh inx sm5 ⊢
    generalize upd (upd (upd (upd (upd H p1 (.lst ((cut.take at_).map nV))) p2 (.lst ((cut.drop (at_ + 1)).map nV))) p3 (.lst ((cut.take at_ ++ cut.drop (at_ + 1)).map nV))) p4 (.lst [nV k.2.1, nV k.2.2])) p5 (.lst (wh.map nV)) = H5 at eh sm5 ⊢
    refine ⟨p5, wh, rfl, .inl (SqL.of eh), by omega, fun sq c' nsq hc' => ?_⟩
    have s6 := Same.new (o := SetO w sq (fun j => decide (j ∈ wh.map fun n : Nat => (n : Int))) c') nsq
    refine ⟨sq, _, c', rfl, upd_same, by omega, fun out l7 pw hmm hll nl7 => ?_⟩
    obtain ⟨ys, rfl, yr, ym⟩ := sorted_set_nat pw hmm
    rw [mapV]
    have s7 := Same.new (o := .lst (ys.map nV)) nl7
    have sm := (sm5.trans s6).trans s7
    have l0 : H l7 = none := Same.was (sm5.trans s6) nl7
    refine q l7 _ ys sm l0 upd_same ⟨pos_of_mem ((ym k.2.1).mpr ((inx _).mpr (.inr (.inl rfl)))), fun y hy => ?_, ?_, yr⟩
    · rcases (inx y).mp ((ym y).mp hy) with (h | h) | h
      · exact cok.lt y (List.mem_of_mem_take h)
      · exact cok.lt y (List.mem_of_mem_drop h)
      · have := place_lt ok hbig hk h
        omega
    · exact sep_step cok.sep (fun z => Nat.lt_irrefl _ (cok.lt _ z)) hbig hk (fun z hz hne => (ym z).mpr ((inx z).mpr (.inl (kp z hz hne)))) fun z hz => (ym z).mpr ((inx z).mpr (.inr hz))
def spSomeCut : Sp := fun vs H Q _ => ∃ (W a : Addr) (n : Net) (g o : Addr) (ps : List Addr) (gt k : Nat), vs = [.ref W, .ref a, nV gt, nV k] ∧ Wl H W ∧ NetAt H a n g o ps ∧ n.Ok ∧ n.many ≤ gt ∧ gt < n.many + n.gates.length ∧ 2 ≤ k ∧ k ≤ 8 ∧ ∀ p H' ys, H' p = some (.tup (ys.map nV)) → CutOk n gt ys → ys.length ≤ k → Wk W H H' → Q (.ref p) H'
theorem ok_somecut {f c : Addr} (D : Dfn K mg "_law_some_cut" s__law_some_cut f c) (T : Txt mg) (c__law_take : Cal P w K mg base 1 "_law_take" spTake []) (c__law_opened : Cal P w K mg base 1 "_law_opened" spOpened []) : Cal P w K mg base 2 "_law_some_cut" spSomeCut [] := by
  refine cal D (fun _ _ _ _ _ _ us hl => match us, hl with | [_, _, _, _], _ => rfl) sc__law_some_cut (fun vs H Q E h => ?_) (fun A outer s H vs Q E hr h => ?_)
  · obtain ⟨W, a, n, g, o, ps, gt, k, rfl, _⟩ := h
    rfl
  · obtain ⟨W, a, n, g, o, ps, gt, k, rfl, hW, N, ok, hgm, hgw, hk2, hk8, q⟩ := h
    have m8 := ok.m8
    have m1 := ok.m1
    have g16 := ok.g16
    refine ⟨_, (pss_cons (ps_set (i := 4) sc__law_some_cut.nd rfl (by first | exact Or.inl rfl | exact Or.inr rfl) (pe_c c__law_take hr (by decide) (by rfl) (pa_cons (pv 0) (pa_cons pe_int pa_nil))))
      (pss_cons (ps_set (i := 5) sc__law_some_cut.nd rfl (by first | exact Or.inl rfl | exact Or.inr rfl) (pe_cmpR op_eq (pe_c c__law_take hr (by decide) (by rfl) (pa_cons (pv 0) (pa_cons pe_int pa_nil))) pe_int (nomark _)))
      (pss_cons (ps_set (i := 6) sc__law_some_cut.nd rfl (by first | exact Or.inl rfl | exact Or.inr rfl) (pe_callB (cr_sortedSet rfl) (by rfl) T.b_sorted (by decide +kernel) (pa_cons (pe_callTy (cr_setN rfl) (by rfl) T.b_set (by decide +kernel) (pa_cons (pe_slice sl_tupA (pe_ix ix_tup (pe_ix ix_tup (pv 1) pe_int (fun _ _ => rfl)) (pe_op op_sub (pv 2) (pe_ix ix_tup (pv 1) pe_int (fun _ _ => rfl))) (fun _ _ => rfl)) (po_some pe_int) po_none) pa_nil)) pa_nil)))
      (pss_cons (ps_for PassesOwn.never rfl (pi_range1 (by rfl) T.b_range (pa_cons (pv 4) pa_nil)) (pg_name (i := 7) sc__law_some_cut.nd rfl (by first | exact Or.inl rfl | exact Or.inr rfl))
        (pss_cons (ps_set (i := 8) sc__law_some_cut.nd rfl (by first | exact Or.inl rfl | exact Or.inr rfl) (pe_c c__law_take hr (by decide) (by rfl) (pa_cons (pv 0) (pa_cons (pe_callB call_len_seq (by rfl) T.b_len (by decide +kernel) (pa_cons (pv 6) pa_nil)) pa_nil))))
      (pss_one (ps_if (pt_cmpR op_ge (pe_ix ix_list (pv 6) (pv 8) (fun _ _ => rfl)) (pe_ix ix_tup (pv 1) pe_int (fun _ _ => rfl)) (nomark _)) (pss_cons (ps_set (i := 9) sc__law_some_cut.nd rfl (by first | exact Or.inl rfl | exact Or.inr rfl) (pe_c c__law_opened hr (by decide) (by rfl) (pa_cons (pv 1) (pa_cons (pv 6) (pa_cons (pv 8) pa_nil)))))
      (pss_one (ps_if (pt_cmpR op_le (pe_callB call_len_seq (by rfl) T.b_len (by decide +kernel) (pa_cons (pv 9) pa_nil)) (pv 3) (nomark _)) (pss_one (ps_set (i := 6) sc__law_some_cut.nd rfl (by first | exact Or.inl rfl | exact Or.inr rfl) (pv 9))) pss_nil))) pss_nil))))
      (pss_cons (ps_if (PW.pt (pw_and (pt_val (pv 5)) (pw_and1 (pt_cmpR op_lt (pe_callB call_len_seq (by rfl) T.b_len (by decide +kernel) (pa_cons (pv 6) pa_nil)) (pv 3) (nomark _))))) (pss_one (ps_set (i := 6) sc__law_some_cut.nd rfl (by first | exact Or.inl rfl | exact Or.inr rfl) (pe_callB (cr_sortedSet rfl) (by rfl) T.b_sorted (by decide +kernel) (pa_cons (pe_callTy (cr_setN rfl) (by rfl) T.b_set (by decide +kernel) (pa_cons (pe_op op_cat (pv 6) (pe_lst (pa_cons (pe_c c__law_take hr (by decide) (by rfl) (pa_cons (pv 0) (pa_cons (pv 2) pa_nil))) pa_nil))) pa_nil)) pa_nil)))) pss_nil)
      (pss_one (ps_ret (pe_callTy call_tuple_of (by rfl) T.b_tuple (by decide +kernel) (pa_cons (pv 6) pa_nil))))))))), ?_⟩
    refine ⟨_, rfl, W, 5, rfl, hW, by decide, by decide, fun op H1 o0 o1 w1 k1 => ?_⟩
    refine ⟨_, rfl, W, 6, rfl, w1, by decide, by decide, fun mr H2 _ _ w2 k2 => ⟨rfl, ?_⟩⟩
    have d2 : Wk W H H2 := (Wk.mk w1 k1).nxt w2 k2
    have N2 := N.mono (d2.kp.tups hW.nt)
    generalize decide (V.int mr = V.int 0) = mb
    obtain ⟨kk, pk, hk, hpk, hatk⟩ := gate_at gt N2 hgm hgw
    refine ⟨_, rfl, a, _, 1, _, rfl, rfl, SqT.of N2.top, at1, _, rfl, _, rfl, a, _, 0, _, rfl, rfl, SqT.of N2.top, at0, _, _, rfl, rfl, g, _, _, _, rfl, rfl, SqT.of N2.gt, hatk, 1, rfl, ?_⟩
    unfold tNoPart
    refine slA (lo := some ((1 : Nat) : Int)) (hi := none) hpk fun r H3 s3 h3 => ?_
    rw [cut_lo] at h3
    have h3' : H3 r = some (.tup ([kk.2.1, kk.2.2].map nV)) := h3
    refine ⟨r, [kk.2.1, kk.2.2], rfl, .inr (SqT.of h3'), (by show 2 ≤ 60; decide), fun sq c nsq hc => ?_⟩
    have s4 := Same.new (o := SetO w sq (fun j => decide (j ∈ [kk.2.1, kk.2.2].map fun n : Nat => (n : Int))) c) nsq
    refine ⟨sq, _, c, rfl, upd_same, (by have : c ≤ 2 := hc; omega), fun out l pw hm hl nl => ?_⟩
    obtain ⟨ys, rfl, yr, ym⟩ := sorted_set_nat pw hm
    rw [mapV]
    have s5 := Same.new (o := .lst (ys.map nV)) nl
    have d5 := d2.same ((s3.trans s4).trans s5)
    obtain ⟨l0, lW⟩ := Wk.was' (d2.same (s3.trans s4)) nl
    have c5 : CutOk n gt ys := ⟨pos_of_mem ((ym _).mpr List.mem_cons_self), fun y hy => by
      have := (ym y).mp hy
      rcases List.mem_cons.mp this with e | e
      · exact place_lt ok hgm hk (.inl e)
      · exact place_lt ok hgm hk (.inr (List.mem_singleton.mp e)), sep_first hgm hk fun z hz => (ym z).mpr (by rcases hz with rfl | rfl <;> simp), yr⟩
    have y2 : ys.length ≤ 2 := nodup_len (ys := [kk.2.1, kk.2.2]) (yr.imp fun h => Nat.ne_of_lt h) fun z hz => (ym z).mp hz
    have hl5 : upd (upd H3 sq (SetO w sq (fun j => decide (j ∈ [kk.2.1, kk.2.2].map fun n : Nat => (n : Int))) c)) l (.lst (ys.map nV)) l = some (.lst (ys.map nV)) := upd_same
    refine ⟨_, rfl, _, rfl, by omega, by omega, ?_⟩
    refine for_range (lo := 0) (n := op.toNat) (fun i σ H' => ∃ (l : Addr) (ys : List Nat) (x7 x8 x9 : Option V), σ = [some (.ref W), some (.ref a), some (nV gt), some (nV k), some (.int op), some (.bl mb), some (.ref l), x7, x8, x9] ∧ Wk W H H' ∧ H' l = some (.lst (ys.map nV)) ∧ l ≠ W ∧ CutOk n gt ys ∧ ys.length ≤ k) ⟨l, ys, none, none, none, rfl, d5, hl5, lW, c5, by omega⟩ ?_ ?_
    · rintro i σ H6 hi ⟨l, ys, x7, x8, x9, rfl, d6, hl6, lW6, c6, yk⟩
      have y0 := c6.ne
      refine ⟨_, rfl, _, rfl, l, _, rfl, .inl (SqL.of hl6), W, _, rfl, d6.wl, by rw [List.length_map]; omega, by rw [List.length_map]; omega, fun dd H7 e0 e1 w7 k7 => ?_⟩
      rw [List.length_map] at e1
      obtain ⟨m, rfl⟩ := Int.eq_ofNat_of_zero_le e0
      have d7 := d6.nxt w7 k7
      have hl7 := Wk.ats k7 lW6 hl6
      have N7 := N.mono (d7.kp.tups hW.nt)
      have hm' : m < ys.length := by omega
      refine ⟨_, rfl, _, rfl, l, _, _, _, rfl, rfl, SqL.of hl7, atI_nat (natAt hm'), _, rfl, a, _, 0, _, rfl, rfl, SqT.of N7.top, at0, _, _, rfl, rfl, _, rfl, ite2 (fun hg => ?_) (fun hg => ?_)⟩
      · have hg' : n.many ≤ ys.getD m 0 := by
          have := of_decide_eq_true hg
          omega
        refine ⟨_, rfl, _, rfl, _, rfl, a, n, g, o, ps, l, ys, m, gt, rfl, N7, ok, hl7, c6, by omega, hgm, hgw, hm', hg', fun p H8 zs s8 p0 hp8 c8 => ?_⟩
        have d8 := d7.same s8
        obtain ⟨_, pW⟩ := Wk.was' d7 p0
        refine ⟨_, rfl, p, _, rfl, .inl (SqL.of hp8), _, rfl, _, _, rfl, rfl, _, rfl, ite2 (fun hz => ?_) (fun hz => ?_)⟩
        · refine ⟨_, rfl, p, zs, _, _, _, rfl, d8, hp8, pW, c8, ?_⟩
          have := of_decide_eq_true hz
          rw [List.length_map] at this
          omega
        · exact ⟨l, ys, _, _, _, rfl, d8, s8 _ _ hl7, lW6, c6, yk⟩
      · exact ⟨l, ys, _, _, _, rfl, d7, hl7, lW6, c6, yk⟩
    · rintro σ H6 ⟨l, ys, x7, x8, x9, rfl, d6, hl6, lW6, c6, yk⟩
      have y0 := c6.ne
      refine (fun (rest : _) => ⟨_, rfl, _, rfl, ite2 (fun hmb => ?deep) (fun _ => rest)⟩) ?rest
      case rest => exact ⟨_, rfl, l, _, rfl, .inl ⟨SqL.of hl6, fun p np => q p _ ys upd_same c6 yk (d6.new np)⟩⟩
      case deep =>
        refine ⟨_, rfl, l, _, rfl, .inl (SqL.of hl6), _, rfl, _, _, rfl, rfl, _, rfl, ite2 (fun hlt => ?_) (fun _ => rest)⟩
        have hlt' : ys.length < k := by
          have := of_decide_eq_true hlt
          rw [List.length_map] at this
          omega
        refine ⟨_, rfl, _, rfl, _, rfl, W, _, rfl, d6.wl, by omega, by omega, fun d H7 e0 e1 w7 k7 => ⟨small 1, fun z nz => ?_⟩⟩
        obtain ⟨y, rfl⟩ := Int.eq_ofNat_of_zero_le e0
        have d7 := d6.nxt w7 k7
        have hl7 := Wk.ats k7 lW6 hl6
        have s8 := Same.new (o := .lst [nV y]) nz
        have hz8 : upd H7 z (.lst [nV y]) z = some (.lst ([y].map nV)) := upd_same
        refine ⟨l, z, _, _, rfl, rfl, s8 _ _ hl7, hz8, by rw [List.length_map]; show _ + 1 ≤ sizeLine; exact small _ (by omega), fun p9 np9 => ?_⟩
        rw [← List.map_append]
        have s9 := Same.new (o := .lst ((ys ++ [y]).map nV)) np9
        have hl9 : (ys ++ [y]).length = ys.length + 1 := by rw [List.length_append]; rfl
        refine ⟨p9, ys ++ [y], rfl, .inl (SqL.of upd_same), by omega, fun sq c' nsq hc' => ?_⟩
        have s10 := Same.new (o := SetO w sq (fun j => decide (j ∈ (ys ++ [y]).map fun n : Nat => (n : Int))) c') nsq
        refine ⟨sq, _, c', rfl, upd_same, by omega, fun out l11 pw hmm hll nl11 => ?_⟩
        obtain ⟨zs, rfl, zr, zm⟩ := sorted_set_nat pw hmm
        rw [mapV]
        have s11 := Same.new (o := .lst (zs.map nV)) nl11
        refine ⟨_, rfl, l11, _, rfl, .inl ⟨SqL.of upd_same, fun p np => q p _ zs upd_same ⟨pos_of_mem ((zm y).mpr (List.mem_append.mpr (.inr List.mem_cons_self))), fun x hx => ?_, c6.sep.more fun x hx => (zm x).mpr (List.mem_append.mpr (.inl hx)), zr⟩ ?_ ((d7.same (((s8.trans s9).trans s10).trans s11)).new np)⟩⟩
        · rcases List.mem_append.mp ((zm x).mp hx) with h | h
          · exact c6.lt x h
          · rw [List.mem_singleton.mp h]
            omega
        · have := nodup_len (ys := ys ++ [y]) (zr.imp fun h => Nat.ne_of_lt h) fun x hx => (zm x).mp hx
          omega
end
section
variable {P : Program} {w : World} {K : PySem.W.Frag} {mg : Str → Option Value} {base : Heap} {Ts : List Addr}
theorem tupPutD {H : Hp} {d : Addr} {kvs : List (L2.Key × V)} {u : HO} (h : H d = some (.dK kvs)) : ∀ b zs, H b = some (.tup zs) → upd H d u b = some (.tup zs) := fun b zs e => by
  rw [upd_ne (fun z => by rw [z, h] at e; cases e)]
  exact e
theorem ext_case {c lean : Bool} {σ : L2.St} {i : Nat} {H : Hp} {Q : VK} (hσ : σ[i]? = some (some (.bl lean))) (h : ∀ eb : Bool, (lean = true → eb = false) → Q (.bl eb) H) : if c = true then tNotV (tVar i) σ H Q else Q (.bl false) H := by
  cases c with
  | true => exact ⟨_, hσ, _, rfl, h (!lean) fun e => by rw [e]; rfl⟩
  | false => exact h false fun _ => rfl
/-- how far a cover is made, from above -/
structure CovTo (n : Net) (k G : Nat) (lean : Bool) (S : Nat → Prop) (cv : List Tb) : Prop where
  rise : cv.Pairwise (fun a b => a.1 < b.1)
  gt : ∀ t ∈ cv, G ≤ t.1 ∧ t.1 < n.many + n.gates.length
  cut : ∀ t ∈ cv, CutOk n t.1 t.2 ∧ t.2.length ≤ k
  ask : ∀ x, S x ↔ (x ∈ n.outs ∨ ∃ t ∈ cv, x ∈ t.2)
  has : ∀ x, S x → G ≤ x → ∃ t ∈ cv, t.1 = x
  need : lean = true → ∀ t ∈ cv, Need n cv t.1
theorem CovTo.skip {n : Net} {k G : Nat} {lean : Bool} {S : Nat → Prop} {cv : List Tb} (h : CovTo n k (G + 1) lean S cv) (no : ¬ S G) : CovTo n k G lean S cv :=
  ⟨h.rise, fun t ht => ⟨by have := (h.gt t ht).1; omega, (h.gt t ht).2⟩, h.cut, h.ask, fun x hx hG => by
    by_cases e : x = G
    · rw [e] at hx
      exact absurd hx no
    · exact h.has x hx (by omega), h.need⟩
theorem CovTo.add {n : Net} {k G : Nat} {lean : Bool} {S : Nat → Prop} {cv : List Tb} {c : List Nat} (h : CovTo n k (G + 1) lean S cv) (hm : n.many ≤ G) (hw : G < n.many + n.gates.length) (hc : CutOk n G c) (hk : c.length ≤ k) (hl : lean = true → S G) : CovTo n k G lean (fun x => S x ∨ x ∈ c) ((G, c) :: cv) := by
  refine ⟨List.pairwise_cons.mpr ⟨fun t ht => ?_, h.rise⟩, fun t ht => ?_, fun t ht => ?_, fun x => ?_, fun x hx hG => ?_, fun he t ht => ?_⟩
  · have := (h.gt t ht).1
    show G < t.1
    omega
  · rcases List.mem_cons.mp ht with rfl | ht
    · exact ⟨Nat.le_refl _, hw⟩
    · have := h.gt t ht
      exact ⟨by omega, this.2⟩
  · rcases List.mem_cons.mp ht with rfl | ht
    · exact ⟨hc, hk⟩
    · exact h.cut t ht
  · rw [h.ask]
    refine ⟨fun z => ?_, fun z => ?_⟩
    · rcases z with (z | ⟨t, ht, z⟩) | z
      · exact .inl z
      · exact .inr ⟨t, List.mem_cons_of_mem _ ht, z⟩
      · exact .inr ⟨(G, c), List.mem_cons_self, z⟩
    · rcases z with z | ⟨t, ht, z⟩
      · exact .inl (.inl z)
      · rcases List.mem_cons.mp ht with rfl | ht
        · exact .inr z
        · exact .inl (.inr ⟨t, ht, z⟩)
  · by_cases e : x = G
    · exact ⟨(G, c), List.mem_cons_self, e.symm⟩
    · rcases hx with hx | hx
      · obtain ⟨t, ht, e⟩ := h.has x hx (by omega)
        exact ⟨t, List.mem_cons_of_mem _ ht, e⟩
      · have := hc.lt x hx
        omega
  · have sub : ∀ t ∈ cv, t ∈ (G, c) :: cv := fun t ht => List.mem_cons_of_mem _ ht
    rcases List.mem_cons.mp ht with rfl | ht
    · rcases (h.ask G).mp (hl he) with z | ⟨t, ht, z⟩
      · exact .out z hm
      · exact .step (sub t ht) ((h.need he t ht).more sub) z hm
    · exact (h.need he t ht).more sub
theorem CovTo.done {n : Net} {k : Nat} {lean : Bool} {S : Nat → Prop} {cv : List Tb} (h : CovTo n k n.many lean S cv) : CovOk n k cv :=
  ⟨h.rise, h.gt, h.cut, fun o ho hm => h.has o ((h.ask o).mpr (.inl ho)) hm, fun t ht x hx hm => h.has x ((h.ask x).mpr (.inr ⟨t, ht, hx⟩)) hm⟩
def spCover : Sp := fun vs H Q _ => ∃ (W a : Addr) (n : Net) (g o : Addr) (ps : List Addr) (k : Nat) (lean : Bool), vs = [.ref W, .ref a, nV k, .bl lean] ∧ Wl H W ∧ NetAt H a n g o ps ∧ n.Ok ∧ 2 ≤ k ∧ k ≤ 8 ∧ ∀ p H' cv qs, CovAt H' p cv qs → CovOk n k cv → (lean = true → ∀ t ∈ cv, Need n cv t.1) → Wk W H H' → Q (.ref p) H'
theorem ok_cover {f c : Addr} (D : Dfn K mg "_law_cover" s__law_cover f c) (T : Txt mg) (c__law_take : Cal P w K mg base 1 "_law_take" spTake []) (c__law_some_cut : Cal P w K mg base 2 "_law_some_cut" spSomeCut []) : Cal P w K mg base 3 "_law_cover" spCover [] := by
  refine cal D (fun _ _ _ _ _ _ us hl => match us, hl with | [_, _, _, _], _ => rfl) sc__law_cover (fun vs H Q E h => ?_) (fun A outer s H vs Q E hr h => ?_)
  · obtain ⟨W, a, n, g, o, ps, k, lean, rfl, _⟩ := h
    rfl
  · obtain ⟨W, a, n, g, o, ps, k, lean, rfl, hW, N, ok, hk2, hk8, q⟩ := h
    have m8 := ok.m8
    have m1 := ok.m1
    have g16 := ok.g16
    have o8 := ok.o8
    refine ⟨_, (pss_cons (ps_set (i := 4) sc__law_cover.nd rfl (by first | exact Or.inl rfl | exact Or.inr rfl) pe_dnewK)
      (pss_cons (ps_for PassesOwn.never rfl (pi_tup (pe_ix ix_tup (pv 1) pe_int (fun _ _ => rfl))) (pg_name (i := 5) sc__law_cover.nd rfl (by first | exact Or.inl rfl | exact Or.inr rfl))
        (pss_one (ps_dput (Nat.lt_of_le_of_lt (Nat.add_le_add_left (by decide) _) hr.units) (pv 4) (pv 5) pe_bl (by rfl))))
      (pss_cons (ps_set (i := 6) sc__law_cover.nd rfl (by first | exact Or.inl rfl | exact Or.inr rfl) (pe_tup pa_nil))
      (pss_cons (ps_for PassesOwn.never rfl (pi_range3 (by rfl) T.b_range (pa_cons (pe_op op_sub (pe_op op_add (pe_ix ix_tup (pv 1) pe_int (fun _ _ => rfl)) (pe_callB call_len_seq (by rfl) T.b_len (by decide +kernel) (pa_cons (pe_ix ix_tup (pv 1) pe_int (fun _ _ => rfl)) pa_nil))) pe_int) (pa_cons (pe_op op_sub (pe_ix ix_tup (pv 1) pe_int (fun _ _ => rfl)) pe_int) (pa_cons (pe_un un_neg pe_int) pa_nil)))) (pg_name (i := 7) sc__law_cover.nd rfl (by first | exact Or.inl rfl | exact Or.inr rfl))
        (pss_cons (ps_set (i := 8) sc__law_cover.nd rfl (by first | exact Or.inl rfl | exact Or.inr rfl) (pe_and (pe_cmpR op_eq (pe_c c__law_take hr (by decide) (by rfl) (pa_cons (pv 0) (pa_cons pe_int pa_nil))) pe_int (nomark _)) (pe_one (pe_not (pv 3)))))
      (pss_one (ps_if (PW.pt (pw_or (pt_cmp (pc_din (Nat.lt_of_le_of_lt (Nat.add_le_add_left (by decide) _) hr.units) (pv 7) (pv 4))) (pw_or1 (pt_val (pv 8))))) (pss_cons (ps_set (i := 9) sc__law_cover.nd rfl (by first | exact Or.inl rfl | exact Or.inr rfl) (pe_c c__law_some_cut hr (by decide) (by rfl) (pa_cons (pv 0) (pa_cons (pv 1) (pa_cons (pv 7) (pa_cons (pv 2) pa_nil))))))
      (pss_cons (ps_for PassesOwn.never rfl (pi_tup (pv 9)) (pg_name (i := 5) sc__law_cover.nd rfl (by first | exact Or.inl rfl | exact Or.inr rfl))
        (pss_one (ps_dput (Nat.lt_of_le_of_lt (Nat.add_le_add_left (by decide) _) hr.units) (pv 4) (pv 5) pe_bl (by rfl))))
      (pss_one (ps_set (i := 6) sc__law_cover.nd rfl (by first | exact Or.inl rfl | exact Or.inr rfl) (pe_op op_catA (pe_tup (pa_cons (pe_tup (pa_cons (pv 7) (pa_cons (pv 9) pa_nil))) pa_nil)) (pv 6)))))) pss_nil))))
      (pss_one (ps_ret (pv 6))))))), ?_⟩
    refine fun d nd => ?_
    have d1 : Wk W H (upd H d (.dK [])) := (Wk.mk hW Keep.refl).new nd
    have s1 := Same.new (o := .dK []) nd
    obtain ⟨_, dW⟩ := Wk.was' (Wk.mk hW Keep.refl) nd
    have N1 := N.same s1
    have hd1 : upd H d (.dK []) d = some (.dK []) := upd_same
    generalize upd H d (.dK []) = H1 at d1 s1 N1 hd1 ⊢
    refine ⟨_, rfl, a, _, 2, _, rfl, rfl, SqT.of N1.top, at2, o, rfl, ⟨_, SqT.of N1.ot⟩, ?_⟩
    refine for_tup (K := K) (a := o) (xs := n.outs.map nV) (fun i σ H' => ∃ (x5 : Option V) (kvs : List (L2.Key × V)), σ = [some (.ref W), some (.ref a), some (nV k), some (.bl lean), some (.ref d), x5, none, none, none, none] ∧ Wk W H H' ∧ NetAt H' a n g o ps ∧ H' d = some (.dK kvs) ∧ kvs.length ≤ i ∧ ∀ x : Nat, (valV kvs (nK x)).isSome = true ↔ x ∈ n.outs.take i) ⟨none, [], rfl, d1, N1, hd1, Nat.le_refl _, fun x => ⟨fun z => (by cases z), fun z => by (cases z)⟩⟩ ?_ ?_ ?_
    · rintro i σ H2 _ ⟨_, _, _, _, N2, _⟩
      exact SqT.of N2.ot
    · rintro i x σ H2 hx ⟨x5, kvs, rfl, d2, N2, hd2, kl, km⟩
      have hi : i < n.outs.length := by
        have := (List.getElem?_eq_some_iff.mp hx).1
        rwa [List.length_map] at this
      rw [natAt hi] at hx
      cases hx
      refine ⟨_, rfl, _, rfl, d, _, rfl, DPut.k (k := nK (n.outs.getD i 0)) hd2 (small256 (by omega)), ?_⟩
      refine ⟨_, _, rfl, Wk.put' d2 nd dW, N2.mono (tupPutD hd2), upd_same, by have := length_putK kvs (nK (n.outs.getD i 0)) (.bl true); omega, fun x => ?_⟩
      rw [put_isSome, km, List.take_add_one, List.mem_append, List.getElem?_eq_getElem hi, Option.toList_some, List.mem_singleton, List.getD_eq_getElem?_getD, List.getElem?_eq_getElem hi, or_comm]
      rfl
    · rintro σ H2 ⟨x5, kvs, rfl, d2, N2, hd2, kl, km⟩
      rw [List.length_map] at kl km
      rw [List.take_length] at km
      refine ⟨small 0, fun f0 nf0 => ?_⟩
      have s3 := Same.new (o := .tup []) nf0
      have d3 := d2.same s3
      have N3 := N2.same s3
      have hd3 := s3 _ _ hd2
      have cv3 : CovAt (upd H2 f0 (.tup [])) f0 [] [] := ⟨upd_same, PtsAt.nil _ _⟩
      generalize upd H2 f0 (.tup []) = H3 at d3 s3 N3 hd3 cv3 ⊢
      refine ⟨_, rfl, a, _, 0, _, rfl, rfl, SqT.of N3.top, at0, _, rfl, a, _, 1, _, rfl, rfl, SqT.of N3.top, at1, g, _, rfl, .inr (SqT.of N3.gt), _, _, rfl, rfl, _, _, rfl, rfl, _, rfl, a, _, 0, _, rfl, rfl, SqT.of N3.top, at0, _, _, rfl, rfl, _, rfl, ((n.many : Nat) : Int) + (((ps.map V.ref).length : Nat) : Int) - 1, ((n.many : Nat) : Int) - 1, -1, _, rfl, RgC.neg (by omega) (by rw [List.length_map, N3.gs.1]; omega) (by omega) (by omega), ?_⟩
      refine for_rangeC (lo := ((n.many : Nat) : Int) + (((ps.map V.ref).length : Nat) : Int) - 1) (c := -1) (n := (((n.many : Nat) : Int) + (((ps.map V.ref).length : Nat) : Int) - 1 - (((n.many : Nat) : Int) - 1)).toNat) (fun i σ H' => ∃ (x5 x7 x8 x9 : Option V) (kvs : List (L2.Key × V)) (S : Nat → Prop) (f0 : Addr) (cv : List Tb) (qs : List Addr), σ = [some (.ref W), some (.ref a), some (nV k), some (.bl lean), some (.ref d), x5, some (.ref f0), x7, x8, x9] ∧ Wk W H H' ∧ NetAt H' a n g o ps ∧ H' d = some (.dK kvs) ∧ kvs.length ≤ 8 + 8 * i ∧ (∀ x : Nat, (valV kvs (nK x)).isSome = true ↔ S x) ∧ CovAt H' f0 cv qs ∧ cv.length ≤ i ∧ CovTo n k (n.many + n.gates.length - i) lean S cv) ⟨x5, none, none, none, kvs, fun x => x ∈ n.outs, f0, [], [], rfl, d3, N3, hd3, by omega, km, cv3, Nat.le_refl _, ⟨.nil, fun t ht => by (cases ht), fun t ht => by (cases ht), fun x => ⟨fun z => .inl z, fun z => by rcases z with z | ⟨t, ht, _⟩; exact z; cases ht⟩, fun x hx hG => ?_, fun _ t ht => by (cases ht)⟩⟩ ?_ ?_
      · have := ok.os x hx
        omega
      · rintro i σ H4 hi ⟨x5, x7, x8, x9, kvs, S, f0, cv, qs, rfl, d4, N4, hd4, kl, km, cv4, cl4, cto⟩
        rw [List.length_map, N3.gs.1] at hi
        have hi' : i < n.gates.length := by omega
        obtain ⟨gt, egt, hgt⟩ : ∃ gt : Nat, ((n.many : Nat) : Int) + (((ps.map V.ref).length : Nat) : Int) - 1 + ((i : Nat) : Int) * -1 = ((gt : Nat) : Int) ∧ gt + 1 = n.many + n.gates.length - i := ⟨n.many + n.gates.length - 1 - i, by rw [List.length_map, N3.gs.1]; omega, by omega⟩
        rw [egt]
        have hG2 : n.many + n.gates.length - (i + 1) = gt := by omega
        rw [← hgt] at cto
        rw [hG2]
        refine ⟨_, rfl, W, 4, rfl, d4.wl, by decide, by decide, fun ex H5 _ _ w5 k5 => ⟨rfl, _, rfl, ?_⟩⟩
        have d5 := d4.nxt w5 k5
        have t5 := k5.tups d4.wl.nt
        have N5 := N4.mono t5
        have hd5 := Wk.ats k5 dW hd4
        have cv5 := cv4.mono t5
        -- extra or not
        refine ext_case (lean := lean) rfl fun eb heb => ?_
        refine (fun (take : (lean = true → S gt) → _) => ⟨_, rfl, _, rfl, d, _, rfl, DGet.k (k := nK gt) hd5, _, rfl, ite2 (fun hin => take fun _ => (km gt).mp hin) (fun hin => ⟨_, rfl, _, rfl, ite2 (fun hx => take fun e => by rw [heb e] at hx; cases hx) (fun _ => ?no)⟩)⟩) ?tk
        case no => exact ⟨_, _, _, _, kvs, S, f0, cv, qs, rfl, d5, N5, hd5, by omega, km, cv5, by omega, cto.skip fun z => hin ((km gt).mpr z)⟩
        case tk =>
          intro hS
          refine ⟨_, rfl, _, rfl, _, rfl, _, rfl, W, a, n, g, o, ps, gt, k, rfl, w5, N5, ok, by omega, by omega, hk2, hk8, fun ca H6 cut hca cok ck k6 => ?_⟩
          have d6 := d5.nxt k6.wl k6.kp
          have t6 := k6.kp.tups w5.nt
          have N6 := N5.mono t6
          have hd6 := Wk.ats k6.kp dW hd5
          have cv6 := cv5.mono t6
          refine ⟨_, rfl, ca, rfl, ⟨_, SqT.of hca⟩, ?_⟩
          refine for_tup (K := K) (a := ca) (xs := cut.map nV) (fun j σ H' => ∃ (x5 : Option V) (kvs' : List (L2.Key × V)), σ = [some (.ref W), some (.ref a), some (nV k), some (.bl lean), some (.ref d), x5, some (.ref f0), some (nV gt), some (.bl eb), some (.ref ca)] ∧ Wk W H H' ∧ NetAt H' a n g o ps ∧ H' ca = some (.tup (cut.map nV)) ∧ CovAt H' f0 cv qs ∧ H' d = some (.dK kvs') ∧ kvs'.length ≤ kvs.length + j ∧ ∀ x : Nat, (valV kvs' (nK x)).isSome = true ↔ (S x ∨ x ∈ cut.take j)) ⟨x5, kvs, rfl, d6, N6, hca, cv6, hd6, Nat.le_refl _, fun x => by rw [km]; exact ⟨fun z => .inl z, fun z => by rcases z with z | z; exact z; cases z⟩⟩ ?_ ?_ ?_
          · rintro j σ H7 _ ⟨_, _, _, _, _, h, _⟩
            exact SqT.of h
          · rintro j x σ H7 hx ⟨x5, kvs', rfl, d7, N7, hca7, cv7, hd7, kl7, km7⟩
            have hj : j < cut.length := by
              have := (List.getElem?_eq_some_iff.mp hx).1
              rwa [List.length_map] at this
            rw [natAt hj] at hx
            cases hx
            refine ⟨_, rfl, _, rfl, d, _, rfl, DPut.k (k := nK (cut.getD j 0)) hd7 (small256 (by omega)), ?_⟩
            refine ⟨_, _, rfl, Wk.put' d7 nd dW, N7.mono (tupPutD hd7), tupPutD hd7 _ _ hca7, cv7.mono (tupPutD hd7), upd_same, by have := length_putK kvs' (nK (cut.getD j 0)) (.bl true); omega, fun x => ?_⟩
            rw [put_isSome, km7, List.take_add_one, List.mem_append, List.getElem?_eq_getElem hj, Option.toList_some, List.mem_singleton, List.getD_eq_getElem?_getD, List.getElem?_eq_getElem hj]
            show (x = cut[j] ∨ S x ∨ x ∈ cut.take j) ↔ (S x ∨ x ∈ cut.take j ∨ x = cut[j])
            constructor
            · rintro (h | h | h)
              · exact .inr (.inr h)
              · exact .inl h
              · exact .inr (.inl h)
            · rintro (h | h | h)
              · exact .inr (.inl h)
              · exact .inr (.inr h)
              · exact .inl h
          · rintro σ H7 ⟨x5, kvs', rfl, d7, N7, hca7, cv7, hd7, kl7, km7⟩
            rw [List.length_map] at kl7 km7
            rw [List.take_length] at km7
            refine ⟨_, rfl, _, rfl, small 2, fun t8 n8 => ⟨small 1, fun t9 n9 => ⟨_, rfl, ?_⟩⟩⟩
            have s8 := Same.new (o := .tup [nV gt, .ref ca]) n8
            have s9 := Same.new (o := .tup [.ref t8]) n9
            have tb : TbAt (upd (upd H7 t8 (.tup [nV gt, .ref ca])) t9 (.tup [.ref t8])) t8 (gt, cut) := ⟨ca, s9 _ _ upd_same, s9 _ _ (s8 _ _ hca7)⟩
            refine catA (K := K) (upd_same (H := upd H7 t8 (.tup [nV gt, .ref ca])) (a := t9) (o := .tup [.ref t8])) ((s8.trans s9) _ _ cv7.top) (by rw [List.length_map, cv7.ts.1]; show 1 + cv.length ≤ sizeLine; exact small _ (by omega)) fun r10 H10 s10 h10 => ?_
            have sm := (s8.trans s9).trans s10
            exact ⟨_, _, _, _, kvs', fun x => S x ∨ x ∈ cut, r10, (gt, cut) :: cv, t8 :: qs, rfl, d7.same sm, N7.same sm, sm _ _ hd7, by omega, km7, ⟨h10, PtsAt.cons (cv7.ts.mono (TbAt.mono fun b xs e => sm _ _ e)) (TbAt.mono (fun b xs e => s10 _ _ e) _ _ tb)⟩, by show cv.length + 1 ≤ i + 1; omega, cto.add (by omega) (by omega) cok ck hS⟩
      · rintro σ H4 ⟨x5, x7, x8, x9, kvs, S, f0, cv, qs, rfl, d4, N4, hd4, kl, km, cv4, cl4, cto⟩
        have e : n.many + n.gates.length - (((n.many : Nat) : Int) + (((ps.map V.ref).length : Nat) : Int) - 1 - (((n.many : Nat) : Int) - 1)).toNat = n.many := by rw [List.length_map, N3.gs.1]; omega
        rw [e] at cto
        exact ⟨_, rfl, q f0 H4 cv qs cv4 cto.done cto.need d4⟩
end
end K44
set_option Elab.async false
set_option linter.all false
set_option maxRecDepth 100000
set_option maxHeartbeats 4000000
/-! t.index(x), t a tuple of whole numbers from 0 on. -/
namespace GX
open PySem PySem.Spec PyProof.Rows L2
def rIdxT (K : PySem.W.Frag) : V → List V → Hp → VK → Prop := fun x xs H Q => ∃ (a : Addr) (ns : List Nat) (y : Nat), x = .ref a ∧ xs = [nV y] ∧ SqT K H a (ns.map nV) ∧ y ∈ ns ∧ Q (nV (ns.idxOf y)) H
theorem idx_cast (y : Nat) : ∀ ns : List Nat, (ns.map fun n : Nat => (n : Int)).idxOf (y : Int) = ns.idxOf y
  | [] => rfl
  | x :: r => by
    rw [List.map_cons, List.idxOf_cons, List.idxOf_cons, idx_cast y r]
    by_cases h : x = y
    · rw [h, beq_self_eq_true, beq_self_eq_true]
    · rw [beq_false_of_ne h, beq_false_of_ne (fun z => h (Int.ofNat_inj.mp z))]
theorem mt_idxT {X : Cx} : MtR X "tuple.index" (rIdxT X.K) := by
  intro pins s σ H x xs v us Q I rx r h
  obtain ⟨a, ns, y, rfl, rfl, hq, hm, q⟩ := h
  obtain rfl : v = .ref a := rx
  cases r with
  | cons r1 t1 =>
    obtain ⟨t, rfl⟩ := r1
    cases t1
    obtain ⟨its, rv, p1, _⟩ := I.tuple hq
    refine SeqAt.tuple_index_ints p1 (by simpa using vals_n rv) (List.mem_map.mpr ⟨y, hm, rfl⟩) ?_
    refine ⟨_, H, I.tok _, ?_, q⟩
    rw [idx_cast]
    exact ⟨_, rfl⟩
end GX
set_option Elab.async false
set_option linter.all false
set_option maxRecDepth 100000
set_option maxHeartbeats 4000000
/-! Tuples held as just made (frozen), so that their methods can be called; and let go again. -/
namespace GX
open PySem PySem.Spec PyProof.Rows L2
/-- a tuple that is known to hold no dict -/
def FzT (H : Hp) (p : Addr) (xs : List V) : Prop := ∃ o : Obj, H p = some (.frz o (.tup xs)) ∧ o.cls = .type "tuple" ∧ o.dict = none
theorem FzT.sq {K : PySem.W.Frag} {H : Hp} {p : Addr} {xs : List V} (h : FzT H p xs) : SqT K H p xs := by
  obtain ⟨o, h1, _⟩ := h
  exact .inl (.inr ⟨o, h1⟩)
theorem FzT.mono {H H' : Hp} {p : Addr} {xs : List V} (h : FzT H p xs) (k : ∀ u, H p = some u → H' p = some u) : FzT H' p xs := by
  obtain ⟨o, h1, h2⟩ := h
  exact ⟨o, k _ h1, h2⟩
/-- tuple(l), l a list: held frozen -/
theorem call_tupF {X : Cx} : CallR X (.type "tuple") fun xs H Q => ∃ (p : Addr) (ys : List V), xs = [.ref p] ∧ SqL X.K H p ys ∧ ∀ (l : Addr) (H' : Hp), H l = none → (∀ b, b ≠ l → H' b = H b) → FzT H' l ys → Q (.ref l) H' := by
  intro pins s σ H xs us Q I r h
  obtain ⟨p, ys, rfl, hq, q⟩ := h
  rw [Vals.ref1 r]
  obtain ⟨its, rv, p1, hl⟩ := I.list hq
  have el : its.toArray.size ≤ sizeLine := by
    rw [List.size_toArray, ← rv.length]
    exact hl
  refine call_tuple_list p1.isList (fun h' hk => ?_) el
  have I2 := I.kept (t' := s.toks) hk
  have hat : (h'.push { cls := .type "tuple", data := .seq its.toArray }).get? h'.objs.size = some { cls := .type "tuple", data := .seq its.toArray } := Heap.get?_push_size _ rfl
  refine ⟨.ref h'.objs.size, _, I2.laid (t' := s.toks) (o := .frz { cls := .type "tuple", data := .seq its.toArray } (.tup ys)) (fun b u e => Heap.get?_push_of_some _ e) (Nat.le_refl _) ⟨hat, hl, its, rv, _, hat, rfl, _, rfl⟩, rfl, q _ _ (I2.hok.fresh (Nat.le_refl _)) (fun b hb => upd_ne hb) ⟨_, upd_same, rfl, rfl⟩⟩
/-- behind an expression a frozen thing may be let go -/
def tLetGo (H0 : Hp) (t : TE) : TE := fun σ H Q => t σ H fun v H1 => ∃ (p : Addr) (xs : List V), FzT H1 p xs ∧ H0 p = none ∧ Q v (upd H1 p (.tup xs))
theorem pe_letgo {X : Cx} {e : Expr} {t : TE} {H0 : Hp} (h : PE X e t) (h0 : X.H_0 = H0 := by rfl) : PE X e (tLetGo H0 t) := by
  subst h0
  refine ⟨fun pins s σ H Q I q => ?_⟩
  refine thn (h.run pins s σ H _ I q) fun a s1 ⟨v, H1, I1, rv, p, xs, ⟨o, hf, _⟩, hn, q1⟩ => ?_
  exact ⟨v, _, I1.unlock hf (fun o' u' z => by rw [hn] at z; cases z), rv, q1⟩
/-- t.index(y), t held frozen -/
def tIdx (to : TE) (t : TA) : TE := fun σ H Q => to σ H fun x H1 => ∃ (p : Addr) (xs : List V), x = .ref p ∧ FzT H1 p xs ∧ t σ H1 fun ys H2 => ∃ (ns : List Nat) (y : Nat), ys = [nV y] ∧ FzT H2 p (ns.map nV) ∧ y ∈ ns ∧ Q (nV (ns.idxOf y)) H2
theorem pe_idx {X : Cx} {o e : Expr} {to : TE} {t : TA} {apos cpos : Pos} (ho : PE X o to) (ha : PA X [e] t)
    (h1 : attributeBase o "index" X.env (eval o X.env) = eval o X.env := by rfl)
    (h2 : (((((backTo cpos (starEach [e] X.env)).all fun x => !x.fst) && (backToKw cpos (keywordEach [] X.env)).all fun x => x.fst.isSome) && decide (([e].length + ([] : List Keyword).length + if ([] : List Keyword).isEmpty = true then 0 else 1) < 30)) = true) := by rfl)
    (h3 : (apos.endLine == cpos.line) = true := by rfl)
    (h4 : starEach [e] X.env = (false, eval e X.env) :: starEach [] X.env := by rfl) :
    PE X ((o.Attribute "index" apos).Call [e] [] cpos) (tIdx to t) := by
  refine ⟨fun pins s σ H Q I q => ?_⟩
  refine wpAny_Call_method_late h1 h2 h3 rfl ?_
  refine thn (ho.run pins s σ H _ I q) fun ov s1 ⟨x, H1, I1, rx, p, xs, ex, fz, q1⟩ => ?_
  subst ex
  obtain rfl : ov = .ref p := rx
  obtain ⟨ob, hf, hc, hd⟩ := fz
  have hg : s1.heap.get? p = some ob := (I1.hok p _ hf).1
  refine ⟨"tuple", "tuple.index", F.plainAttrs_tuple, F.slot_tuple_index, F.type_tuple_index, ⟨ob, hg, hc⟩, fun a z => ?_, ?_⟩
  · cases z
    exact ⟨ob, hg, hd⟩
  refine Calls.callWith_builtin (by rw [h4]; rfl) ?_
  have e5 : ∃ x rest, backTo cpos (starEach [e] X.env) = (false, x) :: rest := by
    rw [h4]
    exact ⟨_, _, rfl⟩
  obtain ⟨x, rest, e5⟩ := e5
  rw [e5]
  refine Calls.evalArgs_plain ?_
  rw [← e5]
  refine thn (ha.run cpos pins s1 σ H1 _ I1 q1) fun us s2 ⟨ys, H2, I2, rv, ns, y, ey, fz2, hm, q2⟩ => ?_
  subst ey
  exact mt_idxT pins s2 σ H2 (.ref p) [nV y] (.ref p) us Q I2 rfl rv ⟨p, ns, y, rfl, rfl, fz2.sq, hm, q2⟩
end GX
set_option Elab.async false
set_option linter.all false
set_option maxRecDepth 100000
set_option maxHeartbeats 4000000
/-! Tuples that are held frozen from their making: displays, sums, and dict() of them. -/
namespace GX
open PySem PySem.Spec PyProof.Rows L2
/-- what stands now stood not ahead, if it is none there -/
def Was (H H' : Hp) : Prop := ∀ b, H' b = none → H b = none
theorem Was.refl {H : Hp} : Was H H := fun _ e => e
theorem Was.trans {H H1 H2 : Hp} (a : Was H H1) (b : Was H1 H2) : Was H H2 := fun c e => a c (b c e)
theorem Same.wasAll {H H' : Hp} (s : Same H H') : Was H H' := fun b e => by
  cases h : H b with
  | none => rfl
  | some u => cases ((s _ _ h).symm.trans e)
theorem FzT.same {H H' : Hp} {p : Addr} {xs : List V} (h : FzT H p xs) (s : Same H H') : FzT H' p xs := h.mono fun u e => s _ _ e
def tTupF (t : TA) : TE := fun σ H Q => t σ H fun xs H1 => xs.length ≤ sizeLine ∧ ∀ p H', H1 p = none → (∀ b, b ≠ p → H' b = H1 b) → FzT H' p xs → Q (.ref p) H'
theorem pe_tupF {X : Cx} {es : List Expr} {t : TA} {pos : Pos} {x1 : Nat} (h : PA X es t) : PE X (.Tuple es x1 pos) (tTupF t) := by
  refine ⟨fun pins s σ H Q I hq => ?_⟩
  refine wpAny_Tuple_spliced (thn (h.run pos pins s σ H _ I hq) fun us s1 ⟨xs, H1, I1, r, z, q⟩ => ⟨by rw [← r.length]; exact z, ?_⟩)
  have hat : (s1.heap.push { cls := .type "tuple", data := .seq us.toArray }).get? s1.heap.objs.size = some { cls := .type "tuple", data := .seq us.toArray } := Heap.get?_push_size _ rfl
  exact ⟨.ref s1.heap.objs.size, _, I1.laid (t' := s1.toks) (o := .frz { cls := .type "tuple", data := .seq us.toArray } (.tup xs)) (fun b u e => Heap.get?_push_of_some _ e) (Nat.le_refl _) ⟨hat, z, us, r, _, hat, rfl, _, rfl⟩, rfl, q _ _ (I1.hok.fresh (Nat.le_refl _)) (fun b hb => upd_ne hb) ⟨_, upd_same, rfl, rfl⟩⟩
def rCatF (K : PySem.W.Frag) : V → V → Hp → VK → Prop := fun x y H Q => ∃ (a b : Addr) (xs ys : List V), x = .ref a ∧ y = .ref b ∧ SqT K H a xs ∧ SqT K H b ys ∧ xs ≠ [] ∧ xs.length + ys.length ≤ sizeLine ∧ (ys = [] → Q (.ref a) H) ∧ (ys ≠ [] → ∀ p H', H p = none → (∀ c, c ≠ p → H' c = H c) → FzT H' p (xs ++ ys) → Q (.ref p) H')
theorem op_catF {X : Cx} : OpR X (binaryOp .Add) (rCatF X.K) := by
  intro pins s σ H x y v u Q I rx ry h
  obtain ⟨a, b, xs, ys, rfl, rfl, ha, hb, hx, hz, q1, q2⟩ := h
  cases rx
  cases ry
  obtain ⟨its, r1, p1, _⟩ := I.tuple ha
  obtain ⟨its2, r2, p2, _⟩ := I.tuple hb
  refine HT.cat_tup p1 p2 (fun z => hx (r1.nil_iff.mp z)) (fun z => ⟨.ref a, H, I, rfl, q1 (r2.nil_iff.mp z)⟩) (fun z => ?_) (by rw [← r1.length, ← r2.length]; exact hz)
  have hat := Heap.get?_push_size s.heap (o := { cls := .type "tuple", data := .seq (its ++ its2).toArray }) rfl
  exact ⟨.ref s.heap.objs.size, _, I.laid (t' := s.toks) (o := .frz { cls := .type "tuple", data := .seq (its ++ its2).toArray } (.tup (xs ++ ys))) (fun b ob q => Heap.get?_push_of_some _ q) (Nat.le_refl _) ⟨hat, by rw [List.length_append]; exact hz, _, r1.append r2, _, hat, rfl, _, rfl⟩, rfl, q2 (fun w => z (r2.nil_iff.mpr w)) _ _ (I.hok.fresh (Nat.le_refl _)) (fun b hb => upd_ne hb) ⟨_, upd_same, rfl, rfl⟩⟩
/-- both cases at once -/
theorem catF_any {K : PySem.W.Frag} {x y : V} {H H0 : Hp} {Q : VK} {a b : Addr} {xs ys : List V} (ex : x = .ref a) (ey : y = .ref b) (hx : FzT H a xs) (a0 : H0 a = none) (hy : SqT K H b ys) (nx : xs ≠ []) (w : Was H0 H) (hl : xs.length + ys.length ≤ sizeLine)
    (h : ∀ p H', Same H H' → H0 p = none → FzT H' p (xs ++ ys) → Q (.ref p) H') : rCatF K x y H Q := by
  refine ⟨a, b, xs, ys, ex, ey, hx.sq, hy, nx, hl, fun e => h a H (Same.refl _) a0 (by rw [e, List.append_nil]; exact hx), fun _ p H' np hr hf => h p H' (fun c u e => ?_) (w p np) hf⟩
  rw [hr c (ne_of_none e np)]
  exact e
/-- dict(t), t a tuple of pairs, held frozen -/
theorem call_dictF {X : Cx} (hcalm : X.calm = true) : CallR X (.type "dict") (fun xs H Q => ∃ (a : Addr) (ps : List Addr) (kvs : List (L2.Key × V)), xs = [.ref a] ∧ FzT H a (ps.map V.ref) ∧ Paired (fun p kv => SqT X.K H p [kV kv.1, kv.2]) ps kvs ∧
    ∀ p, H p = none → Q (.ref p) (upd H p (.dK (mergeK [] kvs)))) := by
  intro pins s σ H xs us Q I r q
  obtain ⟨a, ps, kvs, rfl, hq, hp, q⟩ := q
  rw [Vals.ref1 r]
  obtain ⟨its, rv, pt, hz⟩ := I.tuple (hq.sq (K := X.K))
  have ei := refs_at rv
  subst ei
  rw [List.length_map] at hz
  obtain ⟨prs, rel, hl, hpr⟩ := pairs_of I hp
  obtain ⟨ob, hf, hc, hd⟩ := hq
  have hg : s.heap.get? a = some ob := (I.hok a _ hf).1
  obtain ⟨ob', hg', hc', n, hdat⟩ := pt
  rw [hg] at hg'
  cases hg'
  have hlen : prs.length = (ps.map Value.ref).toArray.size := by rw [List.size_toArray, List.length_map, hl]
  -- the values of the keys, as they stand
  have hex : ∃ kus : List Value, kus.length = prs.length ∧ ∀ (j : Nat) (q : L2.Key × Value) (u : Value), prs[j]? = some q → kus[j]? = some u → ∃ b : Addr, ps[j]? = some b ∧ IsTup s.heap b #[u, q.2] ∧ keyIs q.1 u = true := by
    have key : ∀ (m : Nat) (qs : List (L2.Key × Value)) (d : Nat), qs.length = m → (∀ (j : Nat) (q : L2.Key × Value), qs[j]? = some q → ∃ (b : Addr) (u : Value), ps[d + j]? = some b ∧ IsTup s.heap b #[u, q.2] ∧ keyIs q.1 u = true) →
        ∃ kus : List Value, kus.length = m ∧ ∀ (j : Nat) (q : L2.Key × Value) (u : Value), qs[j]? = some q → kus[j]? = some u → ∃ b : Addr, ps[d + j]? = some b ∧ IsTup s.heap b #[u, q.2] ∧ keyIs q.1 u = true := by
      intro m
      induction m with
      | zero =>
        intro qs d hm _
        rw [List.length_eq_zero_iff.mp hm]
        exact ⟨[], rfl, fun j q u e => by simp at e⟩
      | succ m ih =>
        intro qs d hm hh
        cases qs with
        | nil => cases hm
        | cons q0 r0 =>
          obtain ⟨b, u, e1, e2, e3⟩ := hh 0 q0 rfl
          obtain ⟨kus, kl, kh⟩ := ih r0 (d + 1) (by simpa using hm) fun j q e => by
            have := hh (j + 1) q (by simpa using e)
            rw [show d + (j + 1) = d + 1 + j by omega] at this
            exact this
          refine ⟨u :: kus, by rw [List.length_cons, kl], fun j q u' e f => ?_⟩
          cases j with
          | zero =>
            cases e
            cases f
            exact ⟨b, e1, e2, e3⟩
          | succ j =>
            have := kh j q u' (by simpa using e) (by simpa using f)
            rw [show d + 1 + j = d + (j + 1) by omega] at this
            exact this
    obtain ⟨kus, kl, kh⟩ := key prs.length prs 0 rfl fun j q e => by rw [Nat.zero_add]; exact hpr j q e
    exact ⟨kus, kl, fun j q u e f => by have := kh j q u e f; rwa [Nat.zero_add] at this⟩
  obtain ⟨kus, kl, kh⟩ := hex
  have zl : (kus.zip (prs.map fun q : L2.Key × Value => q.2)).length = prs.length := by rw [List.length_zip, List.length_map, kl, Nat.min_self]
  have zat : ∀ (j : Nat) (k v : Value), (kus.zip (prs.map fun q : L2.Key × Value => q.2))[j]? = some (k, v) → ∃ q, prs[j]? = some q ∧ kus[j]? = some k ∧ q.2 = v := fun j k v e => by
    obtain ⟨e1, e2⟩ := List.getElem?_zip_eq_some.mp e
    rw [List.getElem?_map] at e2
    cases h : prs[j]? with
    | none => rw [h] at e2; cases e2
    | some q =>
      rw [h] at e2
      exact ⟨q, rfl, e1, Option.some.inj e2⟩
  refine PySem.call_dict_pairs (knd := mixKind X.prog X.w) (kvs := prs) (PairArg.tuple a (ps.map Value.ref).toArray (fun j => ps.getD j 0) (kus.zip (prs.map fun q : L2.Key × Value => q.2))) (I.ok.hd hcalm) ⟨⟨ob, n, hg, hc, hd, hdat⟩, by rw [zl]; exact hlen.symm, fun j k v e => ?_⟩ ⟨zl.symm, fun j key v e => ?_⟩ (by rw [zl, hl]; exact hz) fun h' tk hd' k => ?_
  · obtain ⟨q', h1, h2, h3⟩ := zat j k v e
    obtain ⟨b, e1, e2, e3⟩ := kh j q' k h1 h2
    have eg : ps.getD j 0 = b := by rw [List.getD_eq_getElem?_getD, e1]; rfl
    refine ⟨?_, ?_⟩
    · show (ps.map Value.ref).toArray[j]? = some (Value.ref (ps.getD j 0))
      rw [eg]
      simp [e1]
    · show PairAt s.heap (ps.getD j 0) k v
      rw [eg, ← h3]
      exact .inl e2
  · obtain ⟨q', h1, h2, h3⟩ := zat j key v e
    obtain ⟨b, e1, e2, e3⟩ := kh j q' key h1 h2
    exact ⟨q'.1, by rw [h1, ← h3], e3⟩
  · have hm : (s.heap.objs.size == sysModules) = false := beq_eq_false_iff_ne.mpr (Nat.ne_of_gt I.big)
    have hlen2 : (mergeK [] kvs).length ≤ sizeLine := by
      refine Nat.le_trans (length_mergeK kvs []) ?_
      rw [List.length_nil, Nat.zero_add, rel.length, hl]
      exact hz
    exact ⟨.ref s.heap.objs.size, upd H s.heap.objs.size (.dK (mergeK [] kvs)), I.laid (t' := tk) (fun b o e => k b o (by simp) e) (Nat.le_refl _) (show ObjOk X.prog X.w _ _ _ (.dK (mergeK [] kvs)) from ⟨hlen2, hm, merged [] prs, KV.merge rel .nil, hd'⟩), rfl, q _ (I.hok.fresh (Nat.le_refl _))⟩
end GX
set_option Elab.async false
set_option linter.all false
set_option maxRecDepth 100000
set_option maxHeartbeats 4000000
/-! Dicts whose keys are wires; dicts of covers. -/
namespace GX
open PySem PySem.Spec PyProof.Rows L2
def dlenOf (σ : L2.St) (H : Hp) (i : Nat) : Nat := match σ[i]? with
  | some (some (V.ref l)) => match H l with
    | some (HO.dK xs) => xs.length
    | _ => 0
  | _ => 0
/-- a dict with True for each of these -/
def kvF (F : List Nat) : List (L2.Key × V) := F.map fun x : Nat => (nK x, V.bl true)
theorem kvF_len (F : List Nat) : (kvF F).length = F.length := List.length_map _
theorem kvF_some (F : List Nat) (x : Nat) : (valV (kvF F) (nK x)).isSome = decide (x ∈ F) := by
  rw [← valV_any]
  unfold kvF
  rw [List.any_map, Bool.eq_iff_iff, List.any_eq_true, decide_eq_true_iff]
  constructor
  · rintro ⟨y, hy, e⟩
    have e' : nK y = nK x := of_decide_eq_true e
    rw [← nK_inj e']
    exact hy
  · intro h
    exact ⟨x, h, decide_eq_true rfl⟩
theorem kvF_put {F : List Nat} {x : Nat} (h : x ∉ F) : putK (kvF F) (nK x) (.bl true) = kvF (F ++ [x]) := by
  have : valV (kvF F) (nK x) = none := by
    have := kvF_some F x
    rw [decide_eq_false h] at this
    cases e : valV (kvF F) (nK x) with
    | none => rfl
    | some v => rw [e] at this; cases this
  rw [putK_new _ this]
  unfold kvF
  rw [List.map_append]
  rfl
theorem kvF_keys (F : List Nat) : (kvF F).map (·.1) = (F.map fun x : Nat => (x : Int)).map Sum.inl := by
  unfold kvF
  rw [List.map_map, List.map_map]
  rfl
theorem merge_none {k : L2.Key} : ∀ (more acc : List (L2.Key × V)), (∀ q ∈ more, q.1 ≠ k) → valV (mergeK acc more) k = valV acc k
  | [], acc, _ => rfl
  | p :: r, acc, u => by
    show valV (mergeK (putK acc p.1 p.2) r) k = _
    rw [merge_none r _ (fun q hq => u q (List.mem_cons_of_mem _ hq)), valV_put, if_neg (fun e => u p List.mem_cons_self e.symm)]
theorem merge_some {k : L2.Key} : ∀ (more acc : List (L2.Key × V)), (∃ q ∈ more, q.1 = k) → ∃ q ∈ more, q.1 = k ∧ valV (mergeK acc more) k = some q.2
  | [], acc, h => by
    obtain ⟨q, hq, _⟩ := h
    cases hq
  | p :: r, acc, h => by
    by_cases e : ∃ q ∈ r, q.1 = k
    · obtain ⟨q, hq, h1, h2⟩ := merge_some r (putK acc p.1 p.2) e
      exact ⟨q, List.mem_cons_of_mem _ hq, h1, h2⟩
    · have hp : p.1 = k := by
        obtain ⟨q, hq, h1⟩ := h
        rcases List.mem_cons.mp hq with rfl | hq
        · exact h1
        · exact absurd ⟨q, hq, h1⟩ e
      refine ⟨p, List.mem_cons_self, hp, ?_⟩
      show valV (mergeK (putK acc p.1 p.2) r) k = _
      rw [merge_none r _ (fun q hq z => e ⟨q, hq, z⟩), valV_put, if_pos hp.symm]
theorem pairs_cov {K : PySem.W.Frag} {H : Hp} : ∀ {qs : List Addr} {cv : List Tb}, PtsAt TbAt H qs cv → ∃ kvs : List (L2.Key × V), Paired (fun p kv => SqT K H p [kV kv.1, kv.2]) qs kvs ∧ (∀ q ∈ kvs, ∃ t ∈ cv, ∃ c, q = (nK t.1, V.ref c) ∧ H c = some (.tup (t.2.map nV))) ∧ ∀ t ∈ cv, ∃ q ∈ kvs, q.1 = nK t.1
  | [], cv, x => by
    have : cv = [] := List.length_eq_zero_iff.mp x.1.symm
    subst this
    exact ⟨[], .nil, fun q hq => by (cases hq), fun t ht => by (cases ht)⟩
  | p :: r, [], x => by cases x.1
  | p :: r, t :: cv, x => by
    obtain ⟨c, h1, h2⟩ := x.2 0 p t rfl rfl
    obtain ⟨kvs, g1, g2, g3⟩ := pairs_cov (K := K) (H := H) (qs := r) (cv := cv) ⟨by simpa using x.1, fun i p' t' e1 e2 => x.2 (i + 1) p' t' (by simpa using e1) (by simpa using e2)⟩
    refine ⟨(nK t.1, V.ref c) :: kvs, .cons (SqT.of h1) g1, fun q hq => ?_, fun t' ht => ?_⟩
    · rcases List.mem_cons.mp hq with rfl | hq
      · exact ⟨t, List.mem_cons_self, c, rfl, h2⟩
      · obtain ⟨t', ht', c', e, h⟩ := g2 q hq
        exact ⟨t', List.mem_cons_of_mem _ ht', c', e, h⟩
    · rcases List.mem_cons.mp ht with rfl | ht
      · exact ⟨_, List.mem_cons_self, rfl⟩
      · obtain ⟨q, hq, e⟩ := g3 t' ht
        exact ⟨q, List.mem_cons_of_mem _ hq, e⟩
/-- what the dict of a cover tells -/
theorem cov_get {H : Hp} {n : Net} {k : Nat} {cv : List Tb} {kvs : List (L2.Key × V)} (c : CovOk n k cv) (g2 : ∀ q ∈ kvs, ∃ t ∈ cv, ∃ c, q = (nK t.1, V.ref c) ∧ H c = some (.tup (t.2.map nV))) (g3 : ∀ t ∈ cv, ∃ q ∈ kvs, q.1 = nK t.1) {t : Tb} (ht : t ∈ cv) : ∃ c, valV (mergeK [] kvs) (nK t.1) = some (.ref c) ∧ H c = some (.tup (t.2.map nV)) := by
  obtain ⟨q, hq, h1, h2⟩ := merge_some kvs [] (g3 t ht)
  obtain ⟨t', ht', c', e, h⟩ := g2 q hq
  rw [e] at h1 h2
  have := rise_uniq c.rise ht' ht (nK_inj h1)
  subst this
  exact ⟨c', h2, h⟩
theorem merge_len (kvs : List (L2.Key × V)) : (mergeK [] kvs).length ≤ kvs.length := by
  have := length_mergeK kvs []
  rwa [List.length_nil, Nat.zero_add] at this
/-- a cover as data -/
def covD (cv : List Tb) : List PyData := cv.map fun t : Tb => .tuple [.int ((t.1 : Nat) : Int), .tuple ((t.2.map fun n : Nat => (n : Int)).map PyData.int)]
theorem canInts : ∀ xs : List Int, PyData.canLayAll0 (xs.map PyData.int) = true ∧ PyData.depthAll (xs.map PyData.int) = 0
  | [] => ⟨rfl, rfl⟩
  | x :: r => by
    obtain ⟨h1, h2⟩ := canInts r
    refine ⟨?_, ?_⟩
    · show ((PyData.int x).canLay0 && PyData.canLayAll0 (r.map PyData.int)) = true
      rw [h1]
      rfl
    · show max (PyData.int x).depth (PyData.depthAll (r.map PyData.int)) = 0
      rw [h2]
      rfl
theorem covD_can : ∀ cv : List Tb, PyData.canLayAll0 (covD cv) = true ∧ PyData.depthAll (covD cv) ≤ 2
  | [] => ⟨rfl, Nat.zero_le _⟩
  | t :: r => by
    obtain ⟨h1, h2⟩ := covD_can r
    obtain ⟨g1, g2⟩ := canInts (t.2.map fun n : Nat => (n : Int))
    refine ⟨?_, ?_⟩
    · show ((true && (PyData.canLayAll0 ((t.2.map fun n : Nat => (n : Int)).map PyData.int) && true)) && PyData.canLayAll0 (covD r)) = true
      rw [g1, h1]
      rfl
    · show max (max 0 (max (PyData.depthAll ((t.2.map fun n : Nat => (n : Int)).map PyData.int) + 1) 0) + 1) (PyData.depthAll (covD r)) ≤ 2
      rw [g2]
      omega
theorem covD_shaped (cv : List Tb) : SeqAt.shaped (.tuple (covD cv)) = true := shaped_tup (covD_can cv).1 (covD_can cv).2 (by decide)
theorem dpCovAll {K : PySem.W.Frag} {H : Hp} : ∀ {qs : List Addr} {cv : List Tb}, PtsAt TbAt H qs cv → DpAll K H (qs.map V.ref) (covD cv)
  | [], cv, x => by
    have : cv = [] := List.length_eq_zero_iff.mp x.1.symm
    subst this
    exact .nil
  | p :: r, [], x => by cases x.1
  | p :: r, t :: cv, x => by
    obtain ⟨c, h1, h2⟩ := x.2 0 p t rfl rfl
    exact .cons (.tup (SqT.of h1) (.cons (.int _) (.cons (.tup (SqT.of h2) (dpNat K _ _)) .nil))) (dpCovAll (K := K) (H := H) (qs := r) (cv := cv) ⟨by simpa using x.1, fun i p' t' e1 e2 => x.2 (i + 1) p' t' (by simpa using e1) (by simpa using e2)⟩)
theorem CovAt.dp {K : PySem.W.Frag} {H : Hp} {a : Addr} {cv : List Tb} {qs : List Addr} (x : CovAt H a cv qs) : Dp K H (.ref a) (.tuple (covD cv)) := .tup (SqT.of x.top) (dpCovAll x.ts)
theorem covD_eq (cv : List Tb) : PyData.eqv (.tuple (covD cv)) (.tuple (covD cv)) = true := SeqAt.eqv_refl _ (SeqAt.canLay_of_shaped (covD_shaped cv))
end GX
set_option Elab.async false
set_option linter.all false
set_option maxRecDepth 100000
set_option maxHeartbeats 4000000
/-! Gates that stand in several tables, counted. -/
namespace GX
open PySem PySem.Spec PyProof.Rows L2
def InT (n : Net) (t : Tb) (x : Nat) : Prop := n.many ≤ x ∧ Rc n t.2 t.1 n.many x
noncomputable def inT (n : Net) (t : Tb) (x : Nat) : Bool := @decide (InT n t x) (Classical.propDecidable _)
theorem inT_iff {n : Net} {t : Tb} {x : Nat} : inT n t x = true ↔ InT n t x := by
  unfold inT
  exact @decide_eq_true_iff _ (Classical.propDecidable _)
noncomputable def cntT (n : Net) (cv : List Tb) (x : Nat) : Nat := (cv.filter fun t => inT n t x).length
theorem cntT_nil (n : Net) (x : Nat) : cntT n [] x = 0 := rfl
theorem cntT_take {n : Net} {cv : List Tb} {i : Nat} {t : Tb} {xs : List Nat} (ht : cv[i]? = some t) (hx : ∀ x, x ∈ xs ↔ InT n t x) (x : Nat) : cntT n (cv.take (i + 1)) x = cntT n (cv.take i) x + (if x ∈ xs then 1 else 0) := by
  unfold cntT
  rw [List.take_add_one, ht, Option.toList_some, List.filter_append, List.length_append]
  congr 1
  by_cases e : x ∈ xs
  · rw [if_pos e, List.filter_cons, if_pos (inT_iff.mpr ((hx x).mp e))]
    rfl
  · rw [if_neg e, List.filter_cons, if_neg (fun z => e ((hx x).mpr (inT_iff.mp z)))]
    rfl
/-- a dict of counts -/
structure CntAt (kvs : List (L2.Key × V)) (c : Nat → Nat) (b : Nat) : Prop where
  keys : ∃ F : List Nat, kvs.map (fun kv : L2.Key × V => kv.1) = F.map nK ∧ F.Nodup ∧ ∀ x ∈ F, x < b
  val : ∀ x, valV kvs (nK x) = if c x = 0 then none else some (nV (c x))
theorem CntAt.nil (b : Nat) : CntAt [] (fun _ => 0) b := ⟨⟨[], rfl, List.nodup_nil, fun x hx => by (cases hx)⟩, fun x => by rw [if_pos rfl]; rfl⟩
theorem CntAt.congr {kvs : List (L2.Key × V)} {c c' : Nat → Nat} {b : Nat} (h : CntAt kvs c b) (e : ∀ x, c x = c' x) : CntAt kvs c' b := ⟨h.keys, fun x => by rw [h.val, e]⟩
theorem CntAt.mem {kvs : List (L2.Key × V)} {c : Nat → Nat} {b : Nat} (h : CntAt kvs c b) {F : List Nat} (hF : kvs.map (fun kv : L2.Key × V => kv.1) = F.map nK) (x : Nat) : x ∈ F ↔ c x ≠ 0 := by
  have h1 : (kvs.any fun kv => decide (kv.1 = nK x)) = decide (x ∈ F) := by
    rw [Bool.eq_iff_iff, List.any_eq_true, decide_eq_true_iff]
    constructor
    · rintro ⟨kv, hk, e⟩
      have : kv.1 ∈ F.map nK := by rw [← hF]; exact List.mem_map.mpr ⟨kv, hk, rfl⟩
      obtain ⟨y, hy, e2⟩ := List.mem_map.mp this
      have e' : kv.1 = nK x := of_decide_eq_true e
      rw [e'] at e2
      rw [← nK_inj e2]
      exact hy
    · intro hx
      have : nK x ∈ kvs.map (fun kv : L2.Key × V => kv.1) := by rw [hF]; exact List.mem_map.mpr ⟨x, hx, rfl⟩
      obtain ⟨kv, hk, e⟩ := List.mem_map.mp this
      exact ⟨kv, hk, decide_eq_true e⟩
  rw [valV_any, h.val] at h1
  by_cases e : c x = 0
  · rw [if_pos e] at h1
    have : ¬ x ∈ F := of_decide_eq_false h1.symm
    exact ⟨fun z => absurd z this, fun z => absurd e z⟩
  · rw [if_neg e] at h1
    exact ⟨fun _ => e, fun _ => of_decide_eq_true h1.symm⟩
theorem CntAt.len {kvs : List (L2.Key × V)} {c : Nat → Nat} {b : Nat} (h : CntAt kvs c b) : kvs.length ≤ b := by
  obtain ⟨F, h1, h2, h3⟩ := h.keys
  have := nodup_lt h2 h3
  rw [← List.length_map (as := kvs) (fun kv : L2.Key × V => kv.1), h1, List.length_map]
  exact this
theorem CntAt.put {kvs : List (L2.Key × V)} {c : Nat → Nat} {b x : Nat} (h : CntAt kvs c b) (hx : x < b) : CntAt (putK kvs (nK x) (nV (c x + 1))) (fun y => c y + (if y = x then 1 else 0)) b := by
  refine ⟨?_, fun y => ?_⟩
  · obtain ⟨F, h1, h2, h3⟩ := h.keys
    by_cases e : x ∈ F
    · refine ⟨F, ?_, h2, h3⟩
      unfold putK
      rw [if_pos, List.map_map, ← h1]
      · apply List.map_congr_left
        intro kv _
        show (if kv.1 = nK x then (kv.1, nV (c x + 1)) else kv).1 = kv.1
        split <;> rfl
      · rw [valV_any, h.val, if_neg ((h.mem h1 x).mp e)]
        rfl
    · refine ⟨F ++ [x], ?_, nodup_snoc h2 e, fun y hy => ?_⟩
      · rw [putK_new, List.map_append, List.map_append, h1]
        · rfl
        · rw [h.val, if_pos (Classical.not_not.mp fun z => e ((h.mem h1 x).mpr z))]
      · rcases List.mem_append.mp hy with hy | hy
        · exact h3 y hy
        · rw [List.mem_singleton.mp hy]
          exact hx
  · rw [valV_put]
    by_cases e : y = x
    · subst e
      rw [if_pos rfl]
      show some (nV (c y + 1)) = if c y + (if y = y then 1 else 0) = 0 then none else some (nV (c y + (if y = y then 1 else 0)))
      rw [if_pos (rfl : y = y), if_neg (by omega)]
    · rw [if_neg (fun z => e (nK_inj z)), h.val]
      show _ = if c y + (if y = x then 1 else 0) = 0 then none else some (nV (c y + (if y = x then 1 else 0)))
      rw [if_neg e, Nat.add_zero]
theorem CntAt.get {kvs : List (L2.Key × V)} {c : Nat → Nat} {b : Nat} (h : CntAt kvs c b) (x : Nat) : (valV kvs (nK x)).getD (.int 0) = nV (c x) := by
  rw [h.val]
  by_cases e : c x = 0
  · rw [if_pos e, e]
    rfl
  · rw [if_neg e]
    rfl
/-- the keys in order, those above 1 -/
def dblL (c : Nat → Nat) (b : Nat) : List Nat := (List.range b).filter fun x => decide (1 < c x)
theorem dbl_of {kvs : List (L2.Key × V)} {c : Nat → Nat} {b : Nat} (h : CntAt kvs c b) {F xs : List Nat} (hF : kvs.map (fun kv : L2.Key × V => kv.1) = F.map nK) (nd : F.Nodup) (lt : ∀ x ∈ F, x < b) (r : xs.Pairwise (· < ·)) (m : ∀ x, x ∈ xs ↔ (x ∈ F ∧ 1 < c x)) : xs = dblL c b := by
  refine rise_eq r ?_ fun z => ?_
  · exact List.Pairwise.filter _ List.pairwise_lt_range
  · rw [m]
    unfold dblL
    rw [List.mem_filter, List.mem_range, decide_eq_true_iff]
    exact ⟨fun z' => ⟨lt z z'.1, z'.2⟩, fun z' => ⟨(h.mem hF z).mpr (by omega), z'.2⟩⟩
/-- sorted ints that are numbers -/
theorem sorted_nat {F : List Nat} {ys : List Int} (nd : F.Nodup) (pm : ys.Perm (F.map fun x : Nat => (x : Int))) (pw : ys.Pairwise (· ≤ ·)) : ∃ xs : List Nat, ys = xs.map (fun x : Nat => (x : Int)) ∧ xs.Perm F ∧ xs.Pairwise (· < ·) := by
  have ex : ys = (ys.map Int.toNat).map (fun x : Nat => (x : Int)) := by
    rw [List.map_map]
    conv => lhs; rw [← List.map_id ys]
    refine List.map_congr_left fun y hy => ?_
    obtain ⟨z, _, rfl⟩ := List.mem_map.mp (pm.mem_iff.mp hy)
    rfl
  have p2 : (ys.map Int.toNat).Perm F := by
    have := pm.map Int.toNat
    rw [List.map_map] at this
    have e : F.map (Int.toNat ∘ fun x : Nat => (x : Int)) = F := by
      conv => rhs; rw [← List.map_id F]
      exact List.map_congr_left fun z _ => rfl
    rwa [e] at this
  refine ⟨ys.map Int.toNat, ex, p2, ?_⟩
  have nd2 : (ys.map Int.toNat).Nodup := p2.nodup_iff.mpr nd
  generalize ys.map Int.toNat = xs at ex nd2
  subst ex
  rw [List.pairwise_map] at pw
  refine pw.imp₂ (S := fun a b => a ≠ b) (fun {a b} h1 h2 => ?_) nd2
  omega
end GX
set_option Elab.async false
set_option linter.all false
set_option maxRecDepth 100000
set_option maxHeartbeats 4000000
/-! Depths in covers; lean covers. -/
namespace GX
open PySem PySem.Spec PyProof.Rows L2
def maxL : List Nat → Nat
  | [] => 0
  | x :: r => max x (maxL r)
theorem le_maxL {xs : List Nat} {x : Nat} (h : x ∈ xs) : x ≤ maxL xs := by
  induction xs with
  | nil => cases h
  | cons y r ih =>
    unfold maxL
    rcases List.mem_cons.mp h with h | h
    · omega
    · have := ih h
      omega
theorem maxL_mem {xs : List Nat} (h : 0 < xs.length) : maxL xs ∈ xs := by
  induction xs with
  | nil => cases h
  | cons y r ih =>
    unfold maxL
    cases r with
    | nil =>
      show max y 0 ∈ _
      rw [Nat.max_eq_left (Nat.zero_le _)]
      exact List.mem_cons_self
    | cons z t =>
      have := ih (Nat.succ_pos _)
      by_cases e : maxL (z :: t) ≤ y
      · rw [Nat.max_eq_left e]
        exact List.mem_cons_self
      · rw [Nat.max_eq_right (by omega)]
        exact List.mem_cons_of_mem _ this
theorem max_eq {xs : List Nat} {m : Int} (hm : m ∈ xs.map fun n : Nat => (n : Int)) (hb : ∀ y ∈ xs.map (fun n : Nat => (n : Int)), y ≤ m) : V.int m = nV (maxL xs) := by
  obtain ⟨x, hx, rfl⟩ := List.mem_map.mp hm
  have h1 := le_maxL hx
  have h2 := hb _ (List.mem_map.mpr ⟨_, maxL_mem (List.length_pos_of_mem hx), rfl⟩)
  show V.int _ = V.int _
  congr 1
  have h2' : ((maxL xs : Nat) : Int) ≤ ((x : Nat) : Int) := h2
  omega
theorem maxL_congr {ws : List Nat} {f g : Nat → Nat} (h : ∀ x ∈ ws, f x = g x) : maxL (ws.map f) = maxL (ws.map g) := by rw [List.map_congr_left h]
/-- depths, table by table -/
def dStep (f : Nat → Nat) (t : Tb) : Nat → Nat := fun x => if x = t.1 then 1 + maxL (t.2.map f) else f x
def dMap (cv : List Tb) : Nat → Nat := cv.foldl dStep (fun _ => 0)
theorem dMap_snoc (cv : List Tb) (t : Tb) : dMap (cv ++ [t]) = dStep (dMap cv) t := by
  unfold dMap
  rw [List.foldl_append]
  rfl
theorem dMap_take {cv : List Tb} {i : Nat} {t : Tb} (h : cv[i]? = some t) : dMap (cv.take (i + 1)) = dStep (dMap (cv.take i)) t := by
  rw [List.take_add_one, h, Option.toList_some, dMap_snoc]
/-- tables rising, their wires lesser -/
structure Ris (cv : List Tb) : Prop where
  rise : cv.Pairwise (fun a b => a.1 < b.1)
  lt : ∀ t ∈ cv, ∀ x ∈ t.2, x < t.1
theorem Ris.init {cv : List Tb} {t : Tb} (h : Ris (cv ++ [t])) : Ris cv ∧ (∀ u ∈ cv, u.1 < t.1) ∧ ∀ x ∈ t.2, x < t.1 := by
  obtain ⟨h1, _, h3⟩ := List.pairwise_append.mp h.rise
  exact ⟨⟨h1, fun u hu => h.lt u (List.mem_append.mpr (.inl hu))⟩, fun u hu => h3 u hu t List.mem_cons_self, h.lt t (List.mem_append.mpr (.inr List.mem_cons_self))⟩
theorem rev_ind {P : List Tb → Prop} (h0 : P []) (h1 : ∀ cv t, P cv → P (cv ++ [t])) : ∀ cv, P cv := fun cv => by
  rw [← List.reverse_reverse cv]
  induction cv.reverse with
  | nil => exact h0
  | cons t r ih =>
    rw [List.reverse_cons]
    exact h1 _ _ ih
theorem dMap_out {cv : List Tb} : ∀ x, (∀ t ∈ cv, t.1 ≠ x) → dMap cv x = 0 := by
  refine rev_ind (P := fun cv => ∀ x, (∀ t ∈ cv, t.1 ≠ x) → dMap cv x = 0) (fun x _ => rfl) (fun cv t ih x h => ?_) cv
  rw [dMap_snoc]
  unfold dStep
  rw [if_neg (fun e => h t (List.mem_append.mpr (.inr List.mem_cons_self)) e.symm)]
  exact ih x fun u hu => h u (List.mem_append.mpr (.inl hu))
theorem dMap_in {cv : List Tb} : Ris cv → ∀ t ∈ cv, dMap cv t.1 = 1 + maxL (t.2.map (dMap cv)) := by
  refine rev_ind (P := fun cv => Ris cv → ∀ t ∈ cv, dMap cv t.1 = 1 + maxL (t.2.map (dMap cv))) (fun _ t ht => by cases ht) (fun cv t ih h u hu => ?_) cv
  obtain ⟨r, h1, h2⟩ := h.init
  rw [dMap_snoc]
  rcases List.mem_append.mp hu with hu | hu
  · have lt := h1 u hu
    have e : ∀ x ∈ u.2, dStep (dMap cv) t x = dMap cv x := fun x hx => by
      have := r.lt u hu x hx
      unfold dStep
      rw [if_neg (by omega)]
    rw [maxL_congr e]
    unfold dStep
    rw [if_neg (by omega)]
    exact ih r u hu
  · rw [List.mem_singleton.mp hu]
    have e : ∀ x ∈ t.2, dStep (dMap cv) t x = dMap cv x := fun x hx => by
      have := h2 x hx
      unfold dStep
      rw [if_neg (by omega)]
    rw [maxL_congr e]
    unfold dStep
    rw [if_pos rfl]
/-- needed or not -/
noncomputable def needB (n : Net) (cv : List Tb) (x : Nat) : Bool := @decide (Need n cv x) (Classical.propDecidable _)
theorem needB_iff {n : Net} {cv : List Tb} {x : Nat} : needB n cv x = true ↔ Need n cv x := by
  unfold needB
  exact @decide_eq_true_iff _ (Classical.propDecidable _)
noncomputable def leanOf (n : Net) (cv : List Tb) : List Tb := cv.filter fun t => needB n cv t.1
theorem leanOf_mem {n : Net} {cv : List Tb} {t : Tb} : t ∈ leanOf n cv ↔ t ∈ cv ∧ Need n cv t.1 := by
  unfold leanOf
  rw [List.mem_filter, needB_iff]
theorem Need.big {n : Net} {cv : List Tb} {x : Nat} (h : Need n cv x) : n.many ≤ x := by
  cases h with
  | out _ h => exact h
  | step _ _ _ h => exact h
theorem CovOk.ris {n : Net} {k : Nat} {cv : List Tb} (c : CovOk n k cv) : Ris cv := ⟨c.rise, fun t ht x hx => (c.cut t ht).1.lt x hx⟩
theorem Need.tab {n : Net} {k : Nat} {cv : List Tb} (c : CovOk n k cv) {x : Nat} (h : Need n cv x) : ∃ t ∈ cv, t.1 = x := by
  cases h with
  | out h1 h2 => exact c.outs _ h1 h2
  | step ht _ hx hm => exact c.clo _ ht _ hx hm
theorem Need.lean {n : Net} {cv : List Tb} {x : Nat} (h : Need n cv x) : Need n (leanOf n cv) x := by
  induction h with
  | out h1 h2 => exact .out h1 h2
  | step ht hn hx hm ih => exact .step (leanOf_mem.mpr ⟨ht, hn⟩) ih hx hm
theorem lean_ok {n : Net} {k : Nat} {cv : List Tb} (c : CovOk n k cv) : CovOk n k (leanOf n cv) := by
  refine ⟨c.rise.filter _, fun t ht => c.gt t (leanOf_mem.mp ht).1, fun t ht => c.cut t (leanOf_mem.mp ht).1, fun o ho hm => ?_, fun t ht x hx hm => ?_⟩
  · obtain ⟨t, ht, e⟩ := c.outs o ho hm
    exact ⟨t, leanOf_mem.mpr ⟨ht, by rw [e]; exact .out ho hm⟩, e⟩
  · obtain ⟨h1, h2⟩ := leanOf_mem.mp ht
    obtain ⟨u, hu, e⟩ := c.clo t h1 x hx hm
    exact ⟨u, leanOf_mem.mpr ⟨hu, by rw [e]; exact .step h1 h2 hx hm⟩, e⟩
/-- a needed gate has its depth in the lean cover, too -/
theorem lean_depth {n : Net} {k : Nat} {cv : List Tb} (c : CovOk n k cv) : ∀ b x, x ≤ b → (Need n cv x ∨ x < n.many) → dMap (leanOf n cv) x = dMap cv x
  | b, x, hb, h => by
    rcases h with h | h
    · obtain ⟨t, ht, rfl⟩ := h.tab c
      rw [dMap_in c.ris t ht, dMap_in (lean_ok c).ris t (leanOf_mem.mpr ⟨ht, h⟩)]
      congr 1
      refine maxL_congr fun y hy => ?_
      have lt := (c.cut t ht).1.lt y hy
      cases b with
      | zero => omega
      | succ b =>
        refine lean_depth c b y (by omega) ?_
        by_cases e : y < n.many
        · exact .inr e
        · exact .inl (.step ht h hy (by omega))
    · rw [dMap_out x fun t ht e => ?_, dMap_out x fun t ht e => ?_]
      · have := (c.gt t ht).1
        omega
      · have := ((lean_ok c).gt t ht).1
        omega
termination_by b => b
end GX
namespace GX
open PySem PySem.Spec PyProof.Rows L2
/-- a dict comprehension over anything walked -/
theorem dc_it {J : It} {n : Nat} {G : Hp → Prop} {Y : Nat → Hp → V → Hp → Prop} (wk : Walk J n G Y) {g : TG} {tt : TT} {tk tv : TE} {vs : List Nat} {σ : L2.St} {H1 : Hp} {D : Addr} {Qd : Hp → Prop} (Pv : Nat → Hp → Prop) (h0 : Pv 0 (upd H1 D (.dK []))) (hG : ∀ i H, i ≤ n → Pv i H → G H)
    (hs : ∀ i x H H', i < n → Pv i H → Y i H x H' → g x (wipe σ vs) H' fun σ2 H2 => wipe σ2 vs = wipe σ vs ∧ tt σ2 H2 fun b H3 =>
      if b = true then tk σ2 H3 fun y H4 => tv σ2 H4 fun z H5 => ∃ kvs k, y = kV k ∧ H5 D = some (.dK kvs) ∧ kvs.length < sizeLine ∧ Pv (i + 1) (upd H5 D (.dK (putK kvs k z))) else Pv (i + 1) H3) (hd : ∀ H, Pv n H → Qd H) :
    ∃ W : Nat → Nat → Hp → Prop, (∃ m, W 0 m (upd H1 D (.dK []))) ∧ ∀ i m H, W i m H →
      (J.stop i H ∧ Qd H) ∨ (J.go i H ∧ ∃ Nx : Hp → Prop, (∀ H', Nx H' → ∃ m', m' < m ∧ W (i + 1) m' H') ∧ ∀ x H', J.yld i H x H' → g x (wipe σ vs) H' fun σ2 H2 => wipe σ2 vs = wipe σ vs ∧ tt σ2 H2 fun b H3 =>
        if b = true then tk σ2 H3 fun y H4 => tv σ2 H4 fun z H5 => ∃ kvs k, y = kV k ∧ H5 D = some (.dK kvs) ∧ kvs.length < sizeLine ∧ Nx (upd H5 D (.dK (putK kvs k z))) else Nx H3) := by
  refine ⟨fun i m H => m = n - i ∧ i ≤ n ∧ Pv i H, ⟨n, by simp, Nat.zero_le _, h0⟩, ?_⟩
  rintro i m H ⟨rfl, hi, p⟩
  have q := hG i H hi p
  by_cases hlt : i < n
  · exact .inr ⟨wk.goes i H hlt q, Pv (i + 1), fun H' p' => ⟨n - (i + 1), by omega, rfl, hlt, p'⟩, fun x H' y => hs i x H H' hlt p (wk.yields i H x H' hlt q y)⟩
  · have e : i = n := by omega
    subst e
    exact .inl ⟨wk.stops H q, hd H p⟩
end GX
set_option Elab.async false
set_option linter.all false
set_option maxRecDepth 100000
set_option maxHeartbeats 4000000
/-! x = {k: v for ..}: a dict comprehension given to a name. -/
namespace GX
open PySem PySem.Spec PyProof.Rows L2
section
variable {X : Cx}
theorem sw_trueD {kx vx : Expr} {cs : List Comprehension} {sc : Scope} {p py : Pos} {y : Str} {l : Nat} {env : Env} (hk : env.scope.kind = .function) (hy : env.scope.names.lookup y = some .local) (hl : (py.line == p.line) = true)
    (ha : (sc.names.any fun (n, k) => n == y && (k == .local || k == .cell)) = false) : swapsWith (.DictComp kx vx cs sc p) (some (.Name y py)) l env = pure true := by
  have k1 : env.kindOf y = some .local := hy
  have k2 : env.blockKind = .function := by unfold Env.blockKind; rw [hk]; rfl
  unfold swapsWith
  simp only [k2, k1, ha, Expr.pos, hl]
  rfl
theorem ps_setDc {i : Nat} {y : Str} {py : Pos} {kx vx tg it : Expr} {ifs : List Expr} {sc : Scope} {own : List (Str × Nat)} {p sp : Pos} {wi : TI} {g : TG} {tt : TT} {tk tv : TE} (hc : X.calm = true) (hN : X.N.Nodup) (hy : X.N[i]? = some y) (hyl : X.env.scope.names.lookup y = some .local)
    (sw : swapsWith (.DictComp kx vx [⟨tg, it, ifs, 0⟩] sc p) (some (.Name y py)) sp.line X.env = pure true) (hi : PI X tg it wi) (ok : BlkOk X.N X.env.scope sc own)
    (hg : ∀ (s : Shared) (H : Hp) (C : Addr) (cl : List (Str × Addr)) (fp : List Addr), PG (X.blk s H sc (compEnvC sc cl C X.env) fp) tg g) (ht : ∀ (s : Shared) (H : Hp) (C : Addr) (cl : List (Str × Addr)) (fp : List Addr), PTs (X.blk s H sc (compEnvC sc cl C X.env) fp) ifs tt)
    (hk : ∀ (s : Shared) (H : Hp) (C : Addr) (cl : List (Str × Addr)) (fp : List Addr), PE (X.blk s H sc (compEnvC sc cl C X.env) fp) kx tk)
    (he : ∀ (s : Shared) (H : Hp) (C : Addr) (cl : List (Str × Addr)) (fp : List Addr), PE (X.blk s H sc (compEnvC sc cl C X.env) fp) vx tv) (hs : ∀ x, foldedSetIterable it X.env x = pure x := by intro _; rfl) :
    PS X (.Assign [.Name y py] (.DictComp kx vx [⟨tg, it, ifs, 0⟩] sc p) sp) (tAsg (tDc wi g tt tk tv (own.map (·.2))) (gName i)) := by
  refine ⟨fun pins s σ H D I hh => ?_⟩
  rw [exec_Assign_Name_used _ _ _ _ sw]
  refine wpAny_bind (wpAny_standAt (wpAny_bind ?_))
  show wpAny _ X.A (do let _ ← comprehension (.DictComp kx vx [⟨tg, it, ifs, 0⟩] sc p) sc X.env (firstIterPos [⟨tg, it, ifs, 0⟩] p) newDict false (eval it X.env) (some (assign (.Name y py) X.env))) _ _ s
  have hh : tDc wi g tt tk tv (own.map (·.2)) σ H (fun x H1 => gName i x σ H1 D.nx) := hh
  refine wpAny_bind (thn (dc_core (Qf := fun _ t => SP X pins D .next t) hc hN I hi ok hg ht hk he hs hh fun L C t m H' I' q hn f => ?_) fun _ t hq => wpAny_pure (wpAny_pure hq))
  show wpAny _ _ (assign (.Name y py) X.env (.ref L)) _ _ _
  refine wpAny_assign_Name (store_ok2 (v := V.ref L) I' hN hy (.inl hyl) rfl (fun t2 I2 ⟨a, sb, ha⟩ => ?_) (.inr hyl))
  obtain ⟨f0, f1, f2, f3, f4, f5⟩ := f
  have nC : C ≠ a := by
    rcases ha with z | z
    · rw [z]; exact f1
    · exact fun e => f4 y a z e.symm
  refine ⟨m, hn.sameBut sb nC, fun h3 sb3 => ⟨_, H', I2.turned (t' := t2.toks) (fun b o hb e => (sb3.2 b hb).trans e) f0 f1 f3 f4 f5, q⟩⟩
end
end GX
set_option Elab.async false
set_option linter.all false
set_option maxRecDepth 100000
set_option maxHeartbeats 4000000
namespace K44
open PySem PySem.Spec PyProof.Rows L2 GX
open C8 (Cal pe_c pe_gc)
theorem nat_at {l : List Nat} {i : Nat} (h : i < l.length) : (l.map nV)[i]? = some (nV (l.getD i 0)) := natAt h
section
variable {P : Program} {w : World} {K : PySem.W.Frag} {mg : Str → Option Value} {base : Heap} {Ts : List Addr}
def spWires : Sp := fun vs H Q _ => ∃ (a : Addr) (n : Net) (g o : Addr) (ps : List Addr), vs = [.ref a] ∧ NetAt H a n g o ps ∧ Q (nV (n.many + n.gates.length)) H
theorem ok_wires {f c : Addr} (D : Dfn K mg "wires_in" s_wires_in f c) (T : Txt mg) : Cal P w K mg base 1 "wires_in" spWires [] := by
  refine cal D (fun _ _ _ _ _ _ us hl => match us, hl with | [_], _ => rfl) sc_wires_in (fun vs H Q E h => ?_) (fun A outer s H vs Q E hr h => ?_)
  · obtain ⟨a, n, g, o, ps, rfl, _⟩ := h
    rfl
  · obtain ⟨a, n, g, o, ps, rfl, N, q⟩ := h
    refine ⟨_, (pss_one (ps_ret (pe_op op_add (pe_ix ix_tup (pv 0) pe_int (fun _ _ => rfl)) (pe_callB call_len_seq (by rfl) T.b_len (by decide +kernel) (pa_cons (pe_ix ix_tup (pv 0) pe_int (fun _ _ => rfl)) pa_nil))))), ?_⟩
    refine ⟨_, rfl, a, _, 0, _, rfl, rfl, SqT.of N.top, at0, _, rfl, a, _, 1, _, rfl, rfl, SqT.of N.top, at1, g, _, rfl, .inr (SqT.of N.gt), _, _, rfl, rfl, ?_⟩
    have e : (V.int ((n.many : Int) + ((ps.map V.ref).length : Int))) = nV (n.many + n.gates.length) := by
      rw [List.length_map, N.gs.1]
      rfl
    show Q (V.int ((n.many : Int) + ((ps.map V.ref).length : Int))) H
    rw [e]
    exact q
def spPlaces : Sp := fun vs H Q _ => ∃ (a : Addr) (n : Net) (g o : Addr) (ps : List Addr) (x : Nat) (k : Nat × Nat × Nat), vs = [.ref a, nV x] ∧ NetAt H a n g o ps ∧ n.many ≤ x ∧ n.gates[x - n.many]? = some k ∧ ∀ p, H p = none → Q (.ref p) (upd H p (.tup [nV k.2.1, nV k.2.2]))
theorem ok_places {f c : Addr} (D : Dfn K mg "places" s_places f c) : Cal P w K mg base 1 "places" spPlaces [] := by
  refine cal D (fun _ _ _ _ _ _ us hl => match us, hl with | [_, _], _ => rfl) sc_places (fun vs H Q E h => ?_) (fun A outer s H vs Q E hr h => ?_)
  · obtain ⟨a, n, g, o, ps, x, k, rfl, _⟩ := h
    rfl
  · obtain ⟨a, n, g, o, ps, x, k, rfl, N, hx, hk, q⟩ := h
    refine ⟨_, (pss_cons (ps_asg (pe_ix ix_tup (pe_ix ix_tup (pv 0) pe_int (fun _ _ => rfl)) (pe_op op_sub (pv 1) (pe_ix ix_tup (pv 0) pe_int (fun _ _ => rfl))) (fun _ _ => rfl)) (pg_tup rfl (pgs_cons (pg_name (i := 2) sc_places.nd rfl (by first | exact Or.inl rfl | exact Or.inr rfl)) (pgs_cons (pg_name (i := 3) sc_places.nd rfl (by first | exact Or.inl rfl | exact Or.inr rfl)) (pgs_cons (pg_name (i := 4) sc_places.nd rfl (by first | exact Or.inl rfl | exact Or.inr rfl)) pgs_nil)))))
      (pss_one (ps_ret (pe_tup (pa_cons (pv 3) (pa_cons (pv 4) pa_nil)))))), ?_⟩
    have hil : x - n.many < ps.length := by rw [N.gs.1]; exact (List.getElem?_eq_some_iff.mp hk).1
    have hp := N.gs.2 _ _ _ (List.getElem?_eq_getElem hil) hk
    have e1 : (ps.map V.ref)[x - n.many]? = some (.ref ps[x - n.many]) := by rw [List.getElem?_map, List.getElem?_eq_getElem hil]; rfl
    refine ⟨_, rfl, a, _, 1, _, rfl, rfl, SqT.of N.top, at1, _, rfl, _, rfl, a, _, 0, _, rfl, rfl, SqT.of N.top, at0, _, _, rfl, rfl, g, _, _, _, rfl, rfl, SqT.of N.gt, (by rw [show (((x : Nat) : Int) - ((n.many : Nat) : Int)) = ((x - n.many : Nat) : Int) by omega]; exact atI_nat e1), ?_⟩
    refine ⟨_, _, rfl, SqT.of hp, rfl, _, _, rfl, _, _, rfl, _, _, rfl, rfl, ?_⟩
    exact ⟨_, rfl, _, rfl, small 2, fun p np => q p np⟩

theorem in2 (x a b : Nat) : inV (nV x) [nV a, nV b] = decide (x = a ∨ x = b) := by
  have := inV_n x [a, b]
  rw [show [nV a, nV b] = [a, b].map nV from rfl, this]
  congr 1
  exact propext (by rw [List.mem_cons, List.mem_singleton])
end
section
variable {P : Program} {w : World} {K : PySem.W.Frag} {mg : Str → Option Value} {base : Heap} {Ts : List Addr}
theorem Own.same {H H1 H2 : Hp} {l : Addr} {xs : List V} (o : Own H H1 l xs) (s : Same H1 H2) : Own H H2 l xs := ⟨o.sm.trans s, s _ _ o.at_, o.nw⟩
theorem Own.put {H H' : Hp} {l : Addr} {xs ys : List V} (o : Own H H' l xs) : Own H (upd H' l (.lst ys)) l ys := ⟨fun b u e => by rw [upd_ne (ne_of_none e o.nw)]; exact o.sm b u e, upd_same, o.nw⟩
theorem map_set (ms : List Bool) (i : Nat) (b : Bool) : (ms.map V.bl).set i (.bl b) = (ms.set i b).map V.bl := List.map_set.symm
def spReached (Ts : List Addr) : Sp := fun vs H Q _ => ∃ (a : Addr) (n : Net) (g o : Addr) (ps : List Addr) (wr : Nat) (sa : Addr) (st : List Nat), vs = [.ref a, nV wr, .ref sa] ∧ NetAt H a n g o ps ∧ n.Ok ∧ wr < n.many + n.gates.length ∧ H sa = some (.tup (st.map nV)) ∧ Tabs Ts H ∧ ∀ p H' xs, Aft Ts H H' → H' p = some (.tup (xs.map nV)) → Rset n st wr xs → Q (.ref p) H'
theorem ok_reached {f c PR : Addr} (D : Dfn K mg "reached" s_reached f c) (T : Txt mg) (c_wires_in : Cal P w K mg base 1 "wires_in" spWires []) (c_places : Cal P w K mg base 1 "places" spPlaces []) (TB_reached : GxR.TabB base mg c PR) (hP : PR ∈ Ts) : Cal P w K mg base 2 "reached" (spReached Ts) [] := by
  refine cal D (fun _ _ _ _ _ _ us hl => match us, hl with | [_, _, _], _ => rfl) sc_reached (fun vs H Q E h => ?_) (fun A outer s H vs Q E hr h => ?_)
  · obtain ⟨a, n, g, o, ps, wr, sa, st, rfl, _⟩ := h
    rfl
  · obtain ⟨a, n, g, o, ps, wr, sa, st, rfl, N, ok, hw, hs, tb, q⟩ := h
    have m8 := ok.m8
    have g16 := ok.g16
    refine ⟨_, (pss_cons (ps_set (i := 3) sc_reached.nd rfl (by first | exact Or.inl rfl | exact Or.inr rfl) (pe_op op_rep (pe_lst (pa_cons pe_bl pa_nil)) (pe_c c_wires_in hr (by decide) (by rfl) (pa_cons (pv 0) pa_nil))))
      (pss_cons (ps_asg (pe_cmpR op_notIn_seq (pv 1) (pv 2) (by rfl)) (pg_sub (pv 3) (pv 1) set_list))
      (pss_cons (ps_for PassesOwn.never rfl (pi_range3 (by rfl) T.b_range (pa_cons (pv 1) (pa_cons (pe_op op_sub (pe_ix ix_tup (pv 0) pe_int (fun _ _ => rfl)) pe_int) (pa_cons (pe_un un_neg pe_int) pa_nil)))) (pg_name (i := 4) sc_reached.nd rfl (by first | exact Or.inl rfl | exact Or.inr rfl))
        (pss_one (ps_if (pt_val (pe_ix ix_list (pv 3) (pv 4) (fun _ _ => rfl))) (pss_one (ps_for PassesOwn.never rfl (pi_tup (pe_c c_places hr (by decide) (by rfl) (pa_cons (pv 0) (pa_cons (pv 4) pa_nil)))) (pg_name (i := 5) sc_reached.nd rfl (by first | exact Or.inl rfl | exact Or.inr rfl))
        (pss_one (ps_asg (pe_cmpR op_notIn_seq (pv 5) (pv 2) (by rfl)) (pg_sub (pv 3) (pv 5) set_list))))) pss_nil)))
      (pss_one (ps_ret (pe_tupG (own := [("at", 6), ("mark", 7)]) hr (by rfl) T.b_tuple TB_reached rfl (gxOk_by (N := ["net", "wire", "stops", "marks", "gate", "place", "at", "mark"]) (sc := defScope s_reached) (own := [("at", 6), ("mark", 7)]) (by decide +kernel)) sc_reached.nd (pi_enum (by rfl) T.b_enumerate (pa_cons (pv 3) pa_nil)) (fun _ _ _ _ => (pg_tupK (K := K) (n := 2) rfl rfl (pgs_cons (pg_name (i := 6) sc_reached.nd rfl (by first | exact Or.inl rfl | exact Or.inr rfl)) (pgs_cons (pg_name (i := 7) sc_reached.nd rfl (by first | exact Or.inl rfl | exact Or.inr rfl)) pgs_nil)))) (fun _ _ _ _ => (pts_one (pt_val (pv 7)))) (fun _ _ _ _ => (pv 6)))))))), ?_⟩
    refine ⟨small 1, fun z nz => ?_⟩
    have e1 := Same.new (o := .lst [.bl false]) nz
    refine ⟨_, rfl, a, n, g, o, ps, rfl, N.same e1, z, _, _, rfl, rfl, upd_same, by omega, by omega, ?_, fun l nl => ?_⟩
    · show 1 * (((n.many + n.gates.length : Nat)) : Int).toNat ≤ sizeLine
      rw [Int.toNat_natCast]
      exact small _ (by omega)
    have ef : (List.replicate (((n.many + n.gates.length : Nat)) : Int).toNat [V.bl false]).flatten = (List.replicate (n.many + n.gates.length) false).map V.bl := by
      rw [Int.toNat_natCast, List.map_replicate, List.flatten_replicate_singleton]
    rw [ef]
    have nlH : H l = none := by
      cases e : H l with
      | none => rfl
      | some u =>
        rw [e1 _ _ e] at nl
        cases nl
    have o2 : Own H _ l ((List.replicate (n.many + n.gates.length) false).map V.bl) := ⟨e1.trans (Same.new nl), upd_same, nlH⟩
    generalize upd (upd H z (.lst [.bl false])) l (.lst ((List.replicate (n.many + n.gates.length) false).map V.bl)) = H2 at o2 ⊢
    refine ⟨_, rfl, _, rfl, sa, _, rfl, .inr (SqT.of (o2.sm _ _ hs)), rfl, flat_ns st, ?_⟩
    refine ⟨_, rfl, _, rfl, l, _, _, _, rfl, rfl, o2.at_, ix_n (by rw [List.length_map, List.length_replicate]; exact hw), ?_⟩
    have ev : (if true = true then !inV (nV wr) (st.map nV) else inV (nV wr) (st.map nV)) = !decide (wr ∈ st) := by rw [if_pos rfl, inV_n]
    rw [ev, map_set]
    have o3 : Own H _ l (((List.replicate (n.many + n.gates.length) false).set wr (!decide (wr ∈ st))).map V.bl) := Own.put o2
    have mk := mark_first ok (st := st) hw
    generalize (List.replicate (n.many + n.gates.length) false).set wr (!decide (wr ∈ st)) = ms0 at o3 mk ⊢
    generalize upd H2 l (.lst (ms0.map V.bl)) = H3 at o3 ⊢
    have N3 := N.same o3.sm
    refine ⟨_, rfl, _, rfl, a, _, 0, _, rfl, rfl, SqT.of N3.top, at0, _, _, rfl, rfl, _, rfl, (wr : Int), (n.many : Int) - 1, -1, _, rfl, RgC.neg (by omega) (by omega) (by omega) (by omega), ?_⟩
    refine for_rangeC (lo := (wr : Int)) (c := -1) (n := ((wr : Int) - ((n.many : Int) - 1)).toNat) (fun i σ H' => ∃ ms x4 x5, σ = [some (.ref a), some (nV wr), some (.ref sa), some (.ref l), x4, x5, none, none] ∧ Own H H' l (ms.map V.bl) ∧ MarkOk n st wr (wr + 1 - i) ms) ⟨ms0, none, none, rfl, o3, mk⟩ ?_ ?_
    · rintro i σ H4 hi ⟨ms, x4, x5, rfl, o4, mk4⟩
      obtain ⟨gt, hgt⟩ : ∃ gt : Nat, wr = gt + i := ⟨wr - i, by omega⟩
      have hgm : n.many ≤ gt := by omega
      have eg : (wr : Int) + ((i : Nat) : Int) * (-1) = (gt : Int) := by omega
      have hkl : gt - n.many < n.gates.length := by omega
      obtain ⟨k, hk⟩ : ∃ k, n.gates[gt - n.many]? = some k := ⟨_, List.getElem?_eq_getElem hkl⟩
      have mk5 : MarkOk n st wr (gt + 1) ms := by
        rw [show gt + 1 = wr + 1 - i by omega]
        exact mk4
      have hml : ms.length = n.many + n.gates.length := mk5.1
      have N4 := N.same o4.sm
      rw [eg]
      refine ⟨_, rfl, _, rfl, l, _, _, _, rfl, rfl, SqL.of o4.at_, atI_nat (mark_at (by omega)), _, rfl, ite2 (fun hm => ?_) (fun hm => ?_)⟩
      · refine ⟨_, rfl, _, rfl, a, n, g, o, ps, gt, k, rfl, N4, hgm, hk, fun p np => ⟨p, rfl, ⟨_, SqT.of upd_same⟩, ?_⟩⟩
        have e5 := Same.new (o := .tup [nV k.2.1, nV k.2.2]) np
        have o5 := Own.same o4 e5
        have hp5 : upd H4 p (.tup [nV k.2.1, nV k.2.2]) p = some (.tup [nV k.2.1, nV k.2.2]) := upd_same
        have npl : p ≠ l := fun z => by
          rw [z, o4.at_] at np
          cases np
        generalize upd H4 p (.tup [nV k.2.1, nV k.2.2]) = H5 at e5 o5 hp5 ⊢
        have p1 := place_lt ok hgm hk (.inl rfl)
        have p2 := place_lt ok hgm hk (.inr rfl)
        refine for_tup (K := K) (a := p) (xs := [nV k.2.1, nV k.2.2]) (fun j σ H' => ∃ ms' x5, σ = [some (.ref a), some (nV wr), some (.ref sa), some (.ref l), some (nV gt), x5, none, none] ∧ Own H H' l (ms'.map V.bl) ∧ H' p = some (.tup [nV k.2.1, nV k.2.2]) ∧
          (j = 0 → ms' = ms) ∧ (j = 1 → ms' = ms.set k.2.1 (!decide (k.2.1 ∈ st))) ∧ (j = 2 → ms' = (ms.set k.2.1 (!decide (k.2.1 ∈ st))).set k.2.2 (!decide (k.2.2 ∈ st)))) ⟨ms, x5, rfl, o5, hp5, fun _ => rfl, fun z => (by cases z), fun z => (by cases z)⟩ ?_ ?_ ?_
        · rintro j σ H6 _ ⟨_, _, _, _, h, _⟩
          exact SqT.of h
        · rintro j x σ H6 hx ⟨ms', y5, rfl, o6, hp6, j0, j1, j2⟩
          have hj : j < 2 := (List.getElem?_eq_some_iff.mp hx).1
          have h01 : j = 0 ∨ j = 1 := by omega
          obtain ⟨pl, e, hl, hms, hh⟩ : ∃ pl : Nat, x = nV pl ∧ pl < gt ∧ ms'.length = ms.length ∧ ((j + 1 = 0 → ms'.set pl (!decide (pl ∈ st)) = ms) ∧ (j + 1 = 1 → ms'.set pl (!decide (pl ∈ st)) = ms.set k.2.1 (!decide (k.2.1 ∈ st))) ∧ (j + 1 = 2 → ms'.set pl (!decide (pl ∈ st)) = (ms.set k.2.1 (!decide (k.2.1 ∈ st))).set k.2.2 (!decide (k.2.2 ∈ st)))) := by
            rcases h01 with rfl | rfl
            · have e0 := j0 rfl
              exact ⟨k.2.1, (Option.some.inj hx).symm, p1, by rw [e0], fun z => (by cases z), fun _ => by rw [e0], fun z => (by cases z)⟩
            · have e1 := j1 rfl
              exact ⟨k.2.2, (Option.some.inj hx).symm, p2, by rw [e1, List.length_set], fun z => (by cases z), fun z => (by cases z), fun _ => by rw [e1]⟩
          subst e
          refine ⟨_, rfl, _, rfl, sa, _, rfl, .inr (SqT.of (o6.sm _ _ hs)), rfl, flat_ns st, ?_⟩
          refine ⟨_, rfl, _, rfl, l, _, _, _, rfl, rfl, o6.at_, ix_n (by rw [List.length_map, hms]; omega), ?_⟩
          have ev : (if true = true then !inV (nV pl) (st.map nV) else inV (nV pl) (st.map nV)) = !decide (pl ∈ st) := by rw [if_pos rfl, inV_n]
          rw [ev, map_set]
          refine ⟨ms'.set pl (!decide (pl ∈ st)), some (nV pl), rfl, Own.put o6, ?_, hh⟩
          rw [upd_ne npl]
          exact hp6
        · rintro σ H6 ⟨ms', y5, rfl, o6, hp6, _, _, j2⟩
          have e2 := j2 rfl
          refine ⟨ms', some (nV gt), y5, rfl, o6, ?_⟩
          rw [show wr + 1 - (i + 1) = gt by omega, e2]
          exact mark_down ok hgm hk mk5 hm
      · refine ⟨ms, some (nV gt), x5, rfl, o4, ?_⟩
        rw [show wr + 1 - (i + 1) = gt by omega]
        exact mark_skip ok hgm hk mk5 hm
    · rintro σ H4 ⟨ms, x4, x5, rfl, o4, mk4⟩
      have mk5 : MarkOk n st wr n.many ms := ⟨mk4.1, fun y hy => (mk4.2 y hy).trans (Rc.low_iff (by omega))⟩
      have hset := mark_set ok hw mk5
      have hml : ms.length = n.many + n.gates.length := mk5.1
      have a4 := Aft.ofSame tb o4.sm
      refine ⟨_, rfl, l, _, rfl, SqL.of o4.at_, a4.tb PR hP, fun H5 ht => ?_⟩
      have a5 : Aft Ts H4 H5 := ⟨Keep.tabbed hP ht, a4.tb.tabbed ht⟩
      refine turns_it (walk_enum (xs := ms.map V.bl)) (fun i ys H' => ys = ((List.range i).filter fun i => ms.getD i false).map nV ∧ Aft Ts H4 H') ⟨rfl, a5⟩ (fun i ys H' _ hp => SqL.of (hp.2.lst a4.tb o4.at_)) ?_ ?_
      · rintro i x ys H6 H7 hi ⟨rfl, a6⟩ ⟨T', v1, v2, rfl, nT, rfl, e1, e2⟩
        cases e1
        rw [List.length_map] at hi
        have e2' : (ms.map V.bl)[i]? = some v2 := e2
        rw [mark_at hi] at e2'
        cases e2'
        have a7 := a6.trans (Aft.new (o := .tup [.int (i : Nat), .bl (ms.getD i false)]) a6.tb nT)
        refine ⟨T', _, rfl, SqT.of upd_same, rfl, _, _, rfl, _, _, rfl, rfl, rfl, ?_⟩
        refine ⟨_, rfl, _, rfl, ite2 (fun hm => ?_) (fun hm => ?_)⟩
        · refine ⟨_, rfl, ?_, fun _ => ⟨?_, a7⟩⟩
          · show (List.map nV _).length < sizeLine
            rw [List.length_map]
            exact Nat.lt_of_le_of_lt (List.length_filter_le _ _) (by rw [List.length_range]; exact small1000 (by omega))
          · rw [picked_take, if_pos hm, List.map_append]
            rfl
        · refine ⟨?_, a7⟩
          rw [picked_take, if_neg hm, List.append_nil]
      · rintro ys H6 ⟨rfl, a6⟩
        rw [List.length_map]
        refine ⟨?_, fun p hp => ?_⟩
        · rw [List.length_map]
          exact Nat.le_trans (List.length_filter_le _ _) (by rw [List.length_range]; exact small _ (by omega))
        · exact q p _ _ ((a4.trans a6).trans (Aft.new a6.tb hp)) upd_same hset
end
section
variable {P : Program} {w : World} {K : PySem.W.Frag} {mg : Str → Option Value} {base : Heap} {Ts : List Addr}
def spInside (Ts : List Addr) : Sp := fun vs H Q _ => ∃ (a : Addr) (n : Net) (g o : Addr) (ps : List Addr) (gt : Nat) (sa : Addr) (st : List Nat), vs = [.ref a, nV gt, .ref sa] ∧ NetAt H a n g o ps ∧ n.Ok ∧ gt < n.many + n.gates.length ∧ H sa = some (.tup (st.map nV)) ∧ Tabs Ts H ∧ ∀ p H' xs, Aft Ts H H' → H' p = some (.tup ((xs.filter fun x => decide (n.many ≤ x)).map nV)) → Rset n st gt xs → Q (.ref p) H'
theorem Rset.short {n : Net} (ok : n.Ok) {st : List Nat} {w : Nat} {xs : List Nat} (hw : w < n.many + n.gates.length) (r : Rset n st w xs) : xs.length ≤ 24 := by
  have := nodup_lt (m := n.many + n.gates.length) (r.1.imp fun h => Nat.ne_of_lt h) fun y hy => by have := ((r.2 y).mp hy).le ok; omega
  have := ok.m8
  have := ok.g16
  omega
theorem ok_inside {f c PI' : Addr} (D : Dfn K mg "inside" s_inside f c) (T : Txt mg) (c_reached : Cal P w K mg base 2 "reached" (spReached Ts) []) (TB_inside : GxR.TabB base mg c PI') (hP : PI' ∈ Ts) : Cal P w K mg base 3 "inside" (spInside Ts) [] := by
  refine cal D (fun _ _ _ _ _ _ us hl => match us, hl with | [_, _, _], _ => rfl) sc_inside (fun vs H Q E h => ?_) (fun A outer s H vs Q E hr h => ?_)
  · obtain ⟨a, n, g, o, ps, gt, sa, st, rfl, _⟩ := h
    rfl
  · obtain ⟨a, n, g, o, ps, gt, sa, st, rfl, N, ok, hw, hs, tb, q⟩ := h
    refine ⟨_, (pss_one (ps_ret (pe_tupG (own := [("wire", 3)]) hr (by rfl) T.b_tuple TB_inside rfl (gxOk_by (N := ["net", "gate", "cut", "wire"]) (sc := defScope s_inside) (own := [("wire", 3)]) (by decide +kernel)) sc_inside.nd (pi_tup (pe_c c_reached hr (by decide) (by rfl) (pa_cons (pv 0) (pa_cons (pv 1) (pa_cons (pv 2) pa_nil))))) (fun _ _ _ _ => (pg_name (i := 3) sc_inside.nd rfl (by first | exact Or.inl rfl | exact Or.inr rfl))) (fun _ _ _ _ => (pts_one (pt_cmpR op_ge (pv 3) (pe_ix (ix_tupK (K := K)) (pv 0) pe_int (fun _ _ => rfl)) (nomark _)))) (fun _ _ _ _ => (pv 3))))), ?_⟩
    refine ⟨_, rfl, _, rfl, _, rfl, a, n, g, o, ps, gt, sa, st, rfl, N, ok, hw, hs, tb, fun p H2 xs a2 hp rs => ?_⟩
    have xl := Rset.short ok hw rs
    refine ⟨p, rfl, ⟨_, SqT.of hp⟩, a2.tb PI' hP, fun H3 ht => ?_⟩
    have a3 : Aft Ts H2 H3 := ⟨Keep.tabbed hP ht, a2.tb.tabbed ht⟩
    refine turns_it (walk_tup (xs := xs.map nV)) (fun i ys H' => ys = ((xs.take i).filter fun x => decide (n.many ≤ x)).map nV ∧ Aft Ts H2 H') ⟨rfl, a3⟩ (fun i ys H' _ hp' => SqT.of (hp'.2.tup a2.tb hp)) ?_ ?_
    · rintro i x ys H4 H5 hi ⟨rfl, a4⟩ ⟨rfl, hx⟩
      rw [List.length_map] at hi
      rw [nat_at hi] at hx
      cases hx
      have N4 := (N.aft tb a2).aft a2.tb a4
      have ef : (xs.take (i + 1)).filter (fun x => decide (n.many ≤ x)) = (xs.take i).filter (fun x => decide (n.many ≤ x)) ++ (if decide (n.many ≤ xs.getD i 0) = true then [xs.getD i 0] else []) := by
        rw [List.take_add_one, List.filter_append, List.getD_eq_getElem?_getD, List.getElem?_eq_getElem hi, Option.toList_some, List.filter_cons]
        rfl
      refine ⟨rfl, _, rfl, _, rfl, a, _, 0, _, rfl, rfl, SqT.of N4.top, at0, _, _, rfl, rfl, _, rfl, ite2 (fun hg => ?_) (fun hg => ?_)⟩
      · have hg' : n.many ≤ xs.getD i 0 := by
          have := of_decide_eq_true hg
          omega
        refine ⟨_, rfl, ?_, fun _ => ⟨?_, a4⟩⟩
        · show (List.map nV _).length < sizeLine
          rw [List.length_map]
          exact Nat.lt_of_le_of_lt (List.length_filter_le _ _) (by rw [List.length_take]; exact small1000 (by omega))
        · rw [ef, if_pos (decide_eq_true hg'), List.map_append]
          rfl
      · have hg' : ¬ (n.many ≤ xs.getD i 0) := fun z => hg (decide_eq_true (by show ((xs.getD i 0 : Nat) : Int) ≥ ((n.many : Nat) : Int); omega))
        refine ⟨?_, a4⟩
        rw [ef, if_neg (by rw [decide_eq_false hg']; exact Bool.false_ne_true), List.append_nil]
    · rintro ys H4 ⟨rfl, a4⟩
      rw [List.length_map, List.take_length]
      refine ⟨?_, fun p2 hp2 => ?_⟩
      · rw [List.length_map]
        exact Nat.le_trans (List.length_filter_le _ _) (small _ (by omega))
      · exact q p2 _ xs ((a2.trans a4).trans (Aft.new a4.tb hp2)) upd_same rs
end
section
variable {P : Program} {w : World} {K : PySem.W.Frag} {mg : Str → Option Value} {base : Heap} {Ts : List Addr}
noncomputable def dblOf (n : Net) (cv : List Tb) : List Nat := dblL (cntT n cv) (n.many + n.gates.length)
def spDoubled (Ts : List Addr) : Sp := fun vs H Q _ => ∃ (a ca : Addr) (n : Net) (g o : Addr) (ps : List Addr) (k : Nat) (cv : List Tb) (qs : List Addr), vs = [.ref a, .ref ca] ∧ NetAt H a n g o ps ∧ n.Ok ∧ CovAt H ca cv qs ∧ CovOk n k cv ∧ Tabs Ts H ∧ ∀ p H', Aft Ts H H' → H' p = some (.tup ((dblOf n cv).map nV)) → Q (.ref p) H'
theorem ok_doubled {f c PD : Addr} (D : Dfn K mg "doubled" s_doubled f c) (T : Txt mg) (c_inside : Cal P w K mg base 3 "inside" (spInside Ts) []) (TB_doubled : GxR.TabB base mg c PD) (hP : PD ∈ Ts) : Cal P w K mg base 4 "doubled" (spDoubled Ts) [] := by
  refine cal D (fun _ _ _ _ _ _ us hl => match us, hl with | [_, _], _ => rfl) sc_doubled (fun vs H Q E h => ?_) (fun A outer s H vs Q E hr h => ?_)
  · obtain ⟨a, ca, n, g, o, ps, k, cv, qs, rfl, _⟩ := h
    rfl
  · obtain ⟨a, ca, n, g, o, ps, k, cv, qs, rfl, N, ok, hcv, cok, tb, q⟩ := h
    have m8 := ok.m8
    have g16 := ok.g16
    refine ⟨_, (pss_cons (ps_set (i := 2) sc_doubled.nd rfl (by first | exact Or.inl rfl | exact Or.inr rfl) pe_dnewK)
      (pss_cons (ps_for PassesOwn.never rfl (pi_tup (pv 1)) (pg_tup rfl (pgs_cons (pg_name (i := 3) sc_doubled.nd rfl (by first | exact Or.inl rfl | exact Or.inr rfl)) (pgs_cons (pg_name (i := 4) sc_doubled.nd rfl (by first | exact Or.inl rfl | exact Or.inr rfl)) pgs_nil)))
        (pss_one (ps_for PassesOwn.never rfl (pi_tup (pe_c c_inside hr (by decide) (by rfl) (pa_cons (pv 0) (pa_cons (pv 3) (pa_cons (pv 4) pa_nil))))) (pg_name (i := 5) sc_doubled.nd rfl (by first | exact Or.inl rfl | exact Or.inr rfl))
        (pss_one (ps_dput (Nat.lt_of_le_of_lt (Nat.add_le_add_left (by decide) _) hr.units) (pv 2) (pv 5) (pe_op op_add (pe_dget2 (Nat.lt_of_le_of_lt (Nat.add_le_add_left (by decide) _) hr.units) (pv 2) (pv 5) pe_int ⟨rfl, rfl, rfl, rfl⟩) pe_int) (by rfl))))))
      (pss_one (ps_ret (pe_tupG (own := [("wire", 5)]) hr (by rfl) T.b_tuple TB_doubled rfl (gxOk_by (N := ["net", "cover", "counts", "gate", "cut", "wire"]) (sc := defScope s_doubled) (own := [("wire", 5)]) (by decide +kernel)) sc_doubled.nd (pi_list (pe_callB (call_sortedDI rfl) (by rfl) T.b_sorted (by decide +kernel) (pa_cons (pv 2) pa_nil))) (fun _ _ _ _ => (pg_name (i := 5) sc_doubled.nd rfl (by first | exact Or.inl rfl | exact Or.inr rfl))) (fun _ _ _ _ => (pts_one (pt_cmpR op_gt (pe_dget (Nat.lt_of_le_of_lt (Nat.add_le_add_left (by decide) _) (GX.Room.gx4 hr).units) (pv 2) (pv 5) (fun _ _ => rfl)) pe_int (nomark _)))) (fun _ _ _ _ => (pv 5))))))), ?_⟩
    refine fun d nd => ?_
    have a1 : Aft Ts H (upd H d (.dK [])) := Aft.new tb nd
    have dT : d ∉ Ts := tb.none nd
    -- a count put keeps all else
    have putA : ∀ {Hx : Hp} {u : HO}, Aft Ts H Hx → Aft Ts H (upd Hx d u) := fun {Hx u} x => ⟨fun b o e hb => by rw [upd_ne (ne_of_none e nd)]; exact x.kp b o e hb, x.tb.upd dT⟩
    have hd1 : upd H d (.dK []) d = some (.dK []) := upd_same
    generalize upd H d (.dK []) = H1 at a1 hd1 ⊢
    refine ⟨_, rfl, ca, rfl, ⟨_, SqT.of (a1.tup tb hcv.top)⟩, ?_⟩
    refine for_tup (K := K) (a := ca) (xs := qs.map V.ref) (fun i σ H' => ∃ (x3 x4 x5 : Option V) (kvs : List (L2.Key × V)), σ = [some (.ref a), some (.ref ca), some (.ref d), x3, x4, x5] ∧ Aft Ts H H' ∧ H' d = some (.dK kvs) ∧ CntAt kvs (cntT n (cv.take i)) (n.many + n.gates.length)) ⟨none, none, none, [], rfl, a1, hd1, CntAt.nil _⟩ ?_ ?_ ?_
    · rintro i σ H2 _ ⟨_, _, _, _, _, a2, _⟩
      exact SqT.of (a2.tup tb hcv.top)
    · rintro i x σ H2 hx ⟨x3, x4, x5, kvs, rfl, a2, hd2, cn⟩
      have cv2 := hcv.mono fun b xs e => a2.tup tb e
      obtain ⟨q', t, rfl, ht, c', hq', hc'⟩ := cv2.ts.at_ hx
      have htm := List.mem_of_getElem? ht
      have hgt := cok.gt t htm
      have N2 := N.aft tb a2
      refine ⟨q', _, rfl, SqT.of hq', rfl, _, _, rfl, _, _, rfl, rfl, ?_⟩
      refine ⟨_, rfl, _, rfl, _, rfl, a, n, g, o, ps, t.1, c', t.2, rfl, N2, ok, hgt.2, hc', a2.tb, fun p H3 xs a3 hp rs => ?_⟩
      have hd3 := a3.kp _ _ hd2 dT
      have a13 := a2.trans a3
      have hin : ∀ x, x ∈ (xs.filter fun x => decide (n.many ≤ x)) ↔ InT n t x := fun x => by
        rw [List.mem_filter, rs.2, decide_eq_true_iff]
        exact and_comm
      have hnd : (xs.filter fun x => decide (n.many ≤ x)).Nodup := (rs.1.filter _).imp fun h => Nat.ne_of_lt h
      have hlt : ∀ x ∈ (xs.filter fun x => decide (n.many ≤ x)), x < n.many + n.gates.length := fun x hx => by
        have := ((hin x).mp hx).2.le ok
        omega
      generalize (xs.filter fun x => decide (n.many ≤ x)) = zs at hp hin hnd hlt
      refine ⟨p, rfl, ⟨_, SqT.of hp⟩, ?_⟩
      refine for_tup (K := K) (a := p) (xs := zs.map nV) (fun j σ H' => ∃ (x5 : Option V) (kvs : List (L2.Key × V)), σ = [some (.ref a), some (.ref ca), some (.ref d), some (nV t.1), some (.ref c'), x5] ∧ Aft Ts H H' ∧ H' p = some (.tup (zs.map nV)) ∧ H' d = some (.dK kvs) ∧ CntAt kvs (fun x => cntT n (cv.take i) x + (if x ∈ zs.take j then 1 else 0)) (n.many + n.gates.length)) ⟨x5, kvs, rfl, a13, hp, hd3, cn.congr fun x => by rw [if_neg (by intro z; cases z)]; rfl⟩ ?_ ?_ ?_
      · rintro j σ H4 _ ⟨_, _, _, _, h, _⟩
        exact SqT.of h
      · rintro j x σ H4 hx ⟨x5, kvs, rfl, a4, hp4, hd4, cn4⟩
        have hj : j < zs.length := by
          have := (List.getElem?_eq_some_iff.mp hx).1
          rwa [List.length_map] at this
        rw [natAt hj] at hx
        cases hx
        have ez : zs.getD j 0 = zs[j] := by rw [List.getD_eq_getElem?_getD, List.getElem?_eq_getElem hj]; rfl
        have hzj : zs.getD j 0 ∉ zs.take j := by
          rw [ez]
          intro z
          obtain ⟨i', h', e'⟩ := List.mem_take_iff_getElem.mp z
          have := (List.nodup_iff_pairwise_ne.mp hnd)
          have h2 := List.pairwise_iff_getElem.mp this i' j (by omega) hj (by omega)
          exact h2 e'
        have hm := getD_mem hj
        have et : ∀ y, (y ∈ zs.take (j + 1)) ↔ (y ∈ zs.take j ∨ y = zs.getD j 0) := fun y => by
          rw [List.take_add_one, List.getElem?_eq_getElem hj, Option.toList_some, List.mem_append, List.mem_singleton, ez]
        generalize zs.getD j 0 = z at hzj hm et ⊢
        refine ⟨_, rfl, d, rfl, .inl ⟨_, .inl hd4⟩, _, rfl, _, DGet.k (k := nK z) hd4, ?_⟩
        rw [cn4.get z]
        refine ⟨_, _, rfl, rfl, ?_⟩
        have cl := cn4.len
        refine ⟨_, rfl, _, rfl, d, _, rfl, DPut.k (k := nK z) hd4 (small256 (by omega)), ?_⟩
        have pd : p ≠ d := fun e => by rw [e, hd4] at hp4; cases hp4
        refine ⟨_, _, rfl, putA a4, by rw [upd_ne pd]; exact hp4, upd_same, ?_⟩
        have c5 := cn4.put (hlt z hm)
        refine CntAt.congr c5 fun y => ?_
        show cntT n (cv.take i) y + (if y ∈ zs.take j then 1 else 0) + (if y = z then 1 else 0) = cntT n (cv.take i) y + (if y ∈ zs.take (j + 1) then 1 else 0)
        by_cases e : y = z
        · subst e
          rw [if_neg hzj, if_pos rfl, if_pos ((et y).mpr (.inr rfl))]
        · rw [if_neg e, Nat.add_zero]
          by_cases e2 : y ∈ zs.take j
          · rw [if_pos e2, if_pos ((et y).mpr (.inl e2))]
          · rw [if_neg e2, if_neg (fun z' => by rcases (et y).mp z' with z' | z'; exact e2 z'; exact e z')]
      · rintro σ H4 ⟨x5, kvs, rfl, a4, hp4, hd4, cn4⟩
        rw [List.length_map, List.take_length] at cn4
        exact ⟨_, _, _, kvs, rfl, a4, hd4, cn4.congr fun x => (cntT_take ht hin x).symm⟩
    · rintro σ H2 ⟨x3, x4, x5, kvs, rfl, a2, hd2, cn⟩
      rw [List.length_map, hcv.ts.1, List.take_length] at cn
      have cl := cn.len
      obtain ⟨F, hF, nF, lF⟩ := cn.keys
      have fl := nodup_lt nF lF
      refine ⟨_, rfl, d, kvs, F.map (fun x : Nat => (x : Int)), rfl, .inl hd2, by rw [hF, List.map_map]; rfl, by rw [List.length_map]; omega, fun ys p pm pw np => ?_⟩
      obtain ⟨xs, rfl, pm2, r⟩ := sorted_nat nF pm pw
      rw [mapV]
      have xl : xs.length ≤ 24 := by rw [pm2.length_eq]; omega
      have a3 := a2.trans (Aft.new (o := .lst (xs.map nV)) a2.tb np)
      have hp3 : upd H2 p (.lst (xs.map nV)) p = some (.lst (xs.map nV)) := upd_same
      have hd3 : upd H2 p (.lst (xs.map nV)) d = some (.dK kvs) := Same.new np _ _ hd2
      generalize upd H2 p (.lst (xs.map nV)) = H3 at a3 hp3 hd3 ⊢
      refine ⟨p, rfl, ⟨_, SqL.of hp3⟩, a3.tb PD hP, fun H4 ht => ?_⟩
      have a4 : Aft Ts H3 H4 := ⟨Keep.tabbed hP ht, a3.tb.tabbed ht⟩
      refine turns_it (walk_list (xs := xs.map nV)) (fun i ys H' => ys = ((xs.take i).filter fun x => decide (1 < cntT n cv x)).map nV ∧ Aft Ts H3 H') ⟨rfl, a4⟩ (fun i ys H' _ hp' => SqL.of (hp'.2.lst a3.tb hp3)) ?_ ?_
      · rintro i x ys H5 H6 hi ⟨rfl, a5⟩ ⟨rfl, hx⟩
        rw [List.length_map] at hi
        rw [nat_at hi] at hx
        cases hx
        have hd5 := a5.kp _ _ hd3 dT
        have hm := pm2.mem_iff.mp (getD_mem hi)
        have ef : (xs.take (i + 1)).filter (fun x => decide (1 < cntT n cv x)) = (xs.take i).filter (fun x => decide (1 < cntT n cv x)) ++ (if decide (1 < cntT n cv (xs.getD i 0)) = true then [xs.getD i 0] else []) := by
          rw [List.take_add_one, List.filter_append, List.getD_eq_getElem?_getD, List.getElem?_eq_getElem hi, Option.toList_some, List.filter_cons]
          rfl
        generalize xs.getD i 0 = z at hm ef ⊢
        have dg := DGet.k (k := nK z) hd5
        rw [cn.val, if_neg ((cn.mem hF z).mp hm)] at dg
        refine ⟨rfl, _, rfl, _, rfl, d, _, rfl, dg, _, _, rfl, rfl, _, rfl, ite2 (fun hg => ?_) (fun hg => ?_)⟩
        · have hg' : 1 < cntT n cv z := by
            have := of_decide_eq_true hg
            omega
          refine ⟨_, rfl, ?_, fun _ => ⟨?_, a5⟩⟩
          · show (List.map nV _).length < sizeLine
            rw [List.length_map]
            exact Nat.lt_of_le_of_lt (List.length_filter_le _ _) (by rw [List.length_take]; exact small256 (by omega))
          · rw [ef, if_pos (decide_eq_true hg'), List.map_append]
            rfl
        · have hg' : ¬ (1 < cntT n cv z) := fun z' => hg (decide_eq_true (by show (1 : Int) < ((cntT n cv z : Nat) : Int); omega))
          refine ⟨?_, a5⟩
          rw [ef, if_neg (by rw [decide_eq_false hg']; exact Bool.false_ne_true), List.append_nil]
      · rintro ys H5 ⟨rfl, a5⟩
        rw [List.length_map, List.take_length]
        have ed : xs.filter (fun x => decide (1 < cntT n cv x)) = dblOf n cv := dbl_of cn hF nF lF (r.filter _) fun x => by
          rw [List.mem_filter, decide_eq_true_iff, pm2.mem_iff]
        refine ⟨?_, fun p2 hp2 => ?_⟩
        · rw [List.length_map]
          exact Nat.le_trans (List.length_filter_le _ _) (small _ (by omega))
        · rw [ed]
          exact q p2 _ ((a3.trans a5).trans (Aft.new a5.tb hp2)) upd_same
end
end K44
set_option Elab.async false
set_option linter.all false
set_option maxRecDepth 100000
set_option maxHeartbeats 4000000
namespace K44
open PySem PySem.Spec PyProof.Rows L2 GX
open C8 (Cal pe_c pe_gc)
section
variable {P : Program} {w : World} {K : PySem.W.Frag} {mg : Str → Option Value} {base : Heap} {Ts : List Addr}
def spWithin : Sp := fun vs H Q _ => ∃ (a ca : Addr) (n : Net) (g o : Addr) (ps : List Addr) (t : Tb), vs = [.ref a, nV t.1, .ref ca] ∧ NetAt H a n g o ps ∧ n.Ok ∧ n.many ≤ t.1 ∧ t.1 < n.many + n.gates.length ∧ H ca = some (.tup (t.2.map nV)) ∧ CutOk n t.1 t.2 ∧ ∀ p (xs : List Nat) H', Same H H' → H' p = some (.lst (xs.map nV)) → xs.Nodup → (∀ x, x ∈ xs ↔ InT n t x) → Q (.ref p) H'
theorem ok_within {f c : Addr} (D : Dfn K mg "_law_within" s__law_within f c) (T : Txt mg) : Cal P w K mg base 1 "_law_within" spWithin [] := by
  refine cal D (fun _ _ _ _ _ _ us hl => match us, hl with | [_, _, _], _ => rfl) sc__law_within (fun vs H Q E h => ?_) (fun A outer s H vs Q E hr h => ?_)
  · obtain ⟨a, ca, n, g, o, ps, t, rfl, _⟩ := h
    rfl
  · obtain ⟨a, ca, n, g, o, ps, t, rfl, N, ok, hgm, hgw, hca, cok, q⟩ := h
    have m8 := ok.m8
    have g16 := ok.g16
    refine ⟨_, (pss_cons (ps_set (i := 3) sc__law_within.nd rfl (by first | exact Or.inl rfl | exact Or.inr rfl) (pe_disp (pps_cons (pv 1) pe_bl pps_nil) rfl rfl (by intro h; cases h) (by decide)))
      (pss_cons (ps_set (i := 4) sc__law_within.nd rfl (by first | exact Or.inl rfl | exact Or.inr rfl) (pe_lst (pa_cons (pv 1) pa_nil)))
      (pss_cons (ps_while PassesOwn.never (pt_cmpR (op_neD hr.units) (pv 4) (pe_lst pa_nil) (nomark _)) (pss_cons (ps_set (i := 5) sc__law_within.nd rfl (by first | exact Or.inl rfl | exact Or.inr rfl) (pe_bm0 PySem.F.plainAttrs_list PySem.F.slot_list_pop PySem.F.type_list_pop mt_pop (pv 4)))
      (pss_one (ps_for PassesOwn.never rfl (pi_tup (pe_slice sl_tupA (pe_ix ix_tup (pe_ix ix_tup (pv 0) pe_int (fun _ _ => rfl)) (pe_op op_sub (pv 5) (pe_ix ix_tup (pv 0) pe_int (fun _ _ => rfl))) (fun _ _ => rfl)) (po_some pe_int) po_none)) (pg_name (i := 6) sc__law_within.nd rfl (by first | exact Or.inl rfl | exact Or.inr rfl))
        (pss_one (ps_if (PW.pt (pw_and (pt_cmpR op_ge (pv 6) (pe_ix ix_tup (pv 0) pe_int (fun _ _ => rfl)) (nomark _)) (pw_and (pt_cmpR op_notIn_seq (pv 6) (pv 2) (by rfl)) (pw_and1 (pt_cmp (pc_dnotin (Nat.lt_of_le_of_lt (Nat.add_le_add_left (by decide) _) hr.units) (pv 6) (pv 3))))))) (pss_cons (ps_dput (Nat.lt_of_le_of_lt (Nat.add_le_add_left (by decide) _) hr.units) (pv 3) (pv 6) pe_bl (by rfl))
      (pss_one (ps_expr (pe_bm PySem.F.plainAttrs_list PySem.F.slot_list_append PySem.F.type_list_append mt_append (pv 4) (pa_cons (pv 6) pa_nil))))) pss_nil))))))
      (pss_one (ps_ret (pe_callTy (call_listD rfl) (by rfl) T.b_list (by decide +kernel) (pa_cons (pv 3) pa_nil))))))), ?_⟩
    refine fun df ndf => ⟨_, rfl, upd_same, [(nK t.1, .bl true)], rfl, (by show 1 ≤ 15; decide), ?_⟩
    have e0 : mergeK [] [(nK t.1, V.bl true)] = kvF [t.1] := rfl
    rw [e0]
    have s1 : Same H (upd (upd H df (.dK [])) df (.dK (kvF [t.1]))) := fun b u e => by rw [upd_ne (ne_of_none e ndf), upd_ne (ne_of_none e ndf)]; exact e
    have hdf1 : upd (upd H df (.dK [])) df (.dK (kvF [t.1])) df = some (.dK (kvF [t.1])) := upd_same
    generalize upd (upd H df (.dK [])) df (.dK (kvF [t.1])) = H1 at s1 hdf1 ⊢
    refine ⟨_, rfl, small 1, fun L nL => ?_⟩
    have s2 := Same.new (o := .lst [nV t.1]) nL
    have L0 : H L = none := Same.was s1 nL
    have Ldf : L ≠ df := fun z => by rw [z, hdf1] at nL; cases nL
    have hL2 : upd H1 L (.lst [nV t.1]) L = some (.lst ([t.1].map nV)) := upd_same
    have hdf2 := s2 _ _ hdf1
    have s12 := s1.trans s2
    generalize upd H1 L (.lst [nV t.1]) = H2 at s12 hL2 hdf2 ⊢
    have tnc : t.1 ∉ t.2 := fun z => absurd (cok.lt _ z) (Nat.lt_irrefl _)
    refine while_at (fun σ H' => ∃ (x5 x6 : Option V) (fs ws : List Nat), σ = [some (.ref a), some (nV t.1), some (.ref ca), some (.ref df), some (.ref L), x5, x6] ∧ Same H H' ∧ H' df = some (.dK (kvF fs)) ∧ H' L = some (.lst (ws.map nV)) ∧ fs.Nodup ∧ (∀ x ∈ fs, InT n t x) ∧ (∀ x ∈ ws, x ∈ fs) ∧ t.1 ∈ fs ∧ ws.length ≤ fs.length ∧ (∀ x ∈ fs, x ∉ ws → ∀ k p, n.gates[x - n.many]? = some k → (p = k.2.1 ∨ p = k.2.2) → n.many ≤ p → p ∉ t.2 → p ∈ fs)) (fun σ H' => lenOf σ H' 4 + 2 * (24 - dlenOf σ H' 3)) ⟨none, none, [t.1], [t.1], rfl, s12, hdf2, hL2, List.nodup_cons.mpr ⟨List.not_mem_nil, List.nodup_nil⟩, fun x hx => (by rw [List.mem_singleton.mp hx]; exact ⟨hgm, .here tnc⟩), fun x hx => hx, List.mem_cons_self, Nat.le_refl _, fun x hx hn => absurd hx hn⟩ ?_
    rintro σ H3 ⟨x5, x6, fs, ws, rfl, s3, hdf3, hL3, nd, fin, wf, tf, wlen, clo⟩
    have flt : ∀ {zs : List Nat}, zs.Nodup → (∀ x ∈ zs, InT n t x) → zs.length ≤ 24 := fun {zs} h1 h2 => by
      have := nodup_lt (m := n.many + n.gates.length) h1 fun y hy => by have := (h2 y hy).2.le ok; omega
      omega
    have fl := flt nd fin
    have emu : ∀ {H' : Hp} {x x' : Option V} {fs' ws' : List Nat}, H' L = some (.lst (ws'.map nV)) → H' df = some (.dK (kvF fs')) → lenOf [some (.ref a), some (nV t.1), some (.ref ca), some (.ref df), some (.ref L), x, x'] H' 4 + 2 * (24 - dlenOf [some (.ref a), some (nV t.1), some (.ref ca), some (.ref df), some (.ref L), x, x'] H' 3) = ws'.length + 2 * (24 - fs'.length) := fun {H' x x' fs' ws'} h1 h2 => by
      show (match H' L with | some (HO.lst xs) => xs.length | _ => 0) + 2 * (24 - (match H' df with | some (HO.dK xs) => xs.length | _ => 0)) = _
      rw [h1, h2]
      show (ws'.map nV).length + 2 * (24 - (kvF fs').length) = _
      rw [List.length_map, kvF_len]
    rw [emu hL3 hdf3]
    refine ⟨_, rfl, small 0, fun z nz => ?_⟩
    have s4 := Same.new (o := .lst []) nz
    refine ⟨.list ((ws.map fun n : Nat => (n : Int)).map PyData.int), .list [], .lst (SqL.of (s4 _ _ hL3)) (dpNat K _ _), .lst (SqL.of upd_same) .nil, PySem.W.ke_shaped_ints _, by decide, _, rfl, ?_⟩
    have ee : (!PyData.eqv (.list ((ws.map fun n : Nat => (n : Int)).map PyData.int)) (.list [])) = !decide (ws.length = 0) := by
      show (!PyData.eqvAll _ []) = _
      rw [eqvAllN, List.length_map, List.length_map]
    rw [ee]
    have s34 := s3.trans s4
    have hL4 := s4 _ _ hL3
    have hdf4 := s4 _ _ hdf3
    generalize upd H3 z (.lst []) = H4 at s34 hL4 hdf4 ⊢
    refine ite2 (fun gq => ?_) (fun gq => ?_)
    · have q0 : ws ≠ [] := fun z => by
        rw [z] at gq
        cases gq
      obtain ⟨ms, y, rfl⟩ : ∃ ms y, ws = ms ++ [y] := ⟨ws.dropLast, ws.getLast q0, (List.dropLast_concat_getLast _).symm⟩
      have ql : (ms ++ [y]).length = ms.length + 1 := by rw [List.length_append]; rfl
      have em : (ms ++ [y]).map nV = ms.map nV ++ [nV y] := by rw [List.map_append]; rfl
      have yf : y ∈ fs := wf y (List.mem_append.mpr (.inr List.mem_cons_self))
      have yin := fin y yf
      have yle := yin.2.le ok
      refine ⟨_, whN, ?_⟩
      refine ⟨_, rfl, .inl ⟨rfl, _, SqL.of hL4⟩, L, _, nV y, rfl, rfl, hL4, ?_, ?_⟩
      · rw [em, List.length_append, List.getElem?_append_right (by show _ ≤ _; simp)]
        simp
      rw [em, List.dropLast_concat]
      have s5 : Same H (upd H4 L (.lst (ms.map nV))) := fun b u e => by rw [upd_ne (ne_of_none e L0)]; exact s34 b u e
      have hL5 : upd H4 L (.lst (ms.map nV)) L = some (.lst (ms.map nV)) := upd_same
      have hdf5 : upd H4 L (.lst (ms.map nV)) df = some (.dK (kvF fs)) := by rw [upd_ne (Ne.symm Ldf)]; exact hdf4
      generalize upd H4 L (.lst (ms.map nV)) = H5 at s5 hL5 hdf5 ⊢
      have N5 := N.same s5
      obtain ⟨kk, pk, hk, hpk, hatk⟩ := gate_at y N5 yin.1 (by omega)
      refine ⟨_, rfl, a, _, 1, _, rfl, rfl, SqT.of N5.top, at1, _, rfl, _, rfl, a, _, 0, _, rfl, rfl, SqT.of N5.top, at0, _, _, rfl, rfl, g, _, _, _, rfl, rfl, SqT.of N5.gt, hatk, 1, rfl, ?_⟩
      unfold tNoPart
      refine slA (lo := some ((1 : Nat) : Int)) (hi := none) hpk fun r H6 s6 h6 => ?_
      rw [cut_lo] at h6
      have h6' : H6 r = some (.tup ([kk.2.1, kk.2.2].map nV)) := h6
      have s56 := s5.trans s6
      refine ⟨r, rfl, ⟨_, SqT.of h6'⟩, ?_⟩
      refine for_tup (K := K) (a := r) (xs := [kk.2.1, kk.2.2].map nV) (fun j σ H' => ∃ (x6 : Option V) (fs' ws' : List Nat), σ = [some (.ref a), some (nV t.1), some (.ref ca), some (.ref df), some (.ref L), some (nV y), x6] ∧ Same H H' ∧ H' r = some (.tup ([kk.2.1, kk.2.2].map nV)) ∧ H' df = some (.dK (kvF fs')) ∧ H' L = some (.lst (ws'.map nV)) ∧ fs'.Nodup ∧ (∀ x ∈ fs', InT n t x) ∧ (∀ x ∈ ws', x ∈ fs') ∧ (∀ x ∈ fs, x ∈ fs') ∧ ws'.length + 1 ≤ fs'.length + 0 ∧ ws'.length + 2 * (24 - fs'.length) ≤ ms.length + 2 * (24 - fs.length) ∧ (∀ x ∈ fs', x ∉ ws' → (x ∈ fs ∧ x ∉ ms)) ∧ (∀ p ∈ [kk.2.1, kk.2.2].take j, n.many ≤ p → p ∉ t.2 → p ∈ fs')) ⟨_, fs, ms, rfl, s56, h6', s6 _ _ hdf5, s6 _ _ hL5, nd, fin, fun x hx => wf x (List.mem_append.mpr (.inl hx)), fun x hx => hx, by rw [ql] at wlen; omega, Nat.le_refl _, fun x hx hn => ⟨hx, hn⟩, fun p hp => (by cases hp)⟩ ?_ ?_ ?_
      · rintro j σ H7 _ ⟨_, _, _, _, _, h, _⟩
        exact SqT.of h
      · rintro j x σ H7 hx ⟨x6, fs', ws', rfl, s7, hr7, hdf7, hL7, nd', fin', wf', sub, wl', mu', old, plc⟩
        have hj : j < [kk.2.1, kk.2.2].length := by
          have := (List.getElem?_eq_some_iff.mp hx).1
          rwa [List.length_map] at this
        rw [natAt hj] at hx
        cases hx
        have et : ∀ y, (y ∈ [kk.2.1, kk.2.2].take (j + 1)) ↔ (y ∈ [kk.2.1, kk.2.2].take j ∨ y = [kk.2.1, kk.2.2].getD j 0) := fun y => by
          rw [List.take_add_one, List.getElem?_eq_getElem hj, Option.toList_some, List.mem_append, List.mem_singleton, List.getD_eq_getElem?_getD, List.getElem?_eq_getElem hj]
          rfl
        have hpl : [kk.2.1, kk.2.2].getD j 0 = kk.2.1 ∨ [kk.2.1, kk.2.2].getD j 0 = kk.2.2 := by
          have := getD_mem hj
          rcases List.mem_cons.mp this with h | h
          · exact .inl h
          · exact .inr (List.mem_singleton.mp h)
        generalize [kk.2.1, kk.2.2].getD j 0 = p at et hpl ⊢
        have plt := place_lt ok yin.1 hk hpl
        have N7 := N.same s7
        refine ⟨_, rfl, _, rfl, a, _, 0, _, rfl, rfl, SqT.of N7.top, at0, _, _, rfl, rfl, _, rfl, ?_⟩
        refine (fun (rest : (n.many ≤ p → p ∉ t.2 → p ∈ fs') → _) => ite2 (fun hg => ⟨_, rfl, _, rfl, ca, _, rfl, .inr (SqT.of (s7 _ _ hca)), rfl, flat_ns t.2, _, rfl, ?second⟩) (fun hg => rest fun hm => absurd (decide_eq_true (by show ((p : Nat) : Int) ≥ ((n.many : Nat) : Int); omega)) hg)) ?rest
        case rest =>
          intro hp
          refine ⟨_, fs', ws', rfl, s7, hr7, hdf7, hL7, nd', fin', wf', sub, wl', mu', old, fun p' hp' h1 h2 => ?_⟩
          rcases (et p').mp hp' with h | rfl
          · exact plc p' h h1 h2
          · exact hp h1 h2
        case second =>
          rw [if_pos rfl, inV_n]
          refine ite2 (fun h1 => ⟨_, rfl, _, rfl, df, _, rfl, DGet.k (k := nK p) hdf7, _, rfl, ?third⟩) (fun h1 => rest fun _ hn => absurd (Classical.not_not.mp fun z => h1 (by rw [decide_eq_false z]; rfl)) hn)
          case third =>
            rw [kvF_some]
            refine ite2 (fun h2 => ?_) (fun h2 => rest fun _ _ => Classical.not_not.mp fun z => h2 (by rw [decide_eq_false z]; rfl))
            have pc : p ∉ t.2 := fun z => by
              rw [decide_eq_true z] at h1
              cases h1
            have pf : p ∉ fs' := fun z => by
              rw [decide_eq_true z] at h2
              cases h2
            have hm : n.many ≤ p := by
              have := of_decide_eq_true hg
              omega
            have pin : InT n t p := ⟨hm, .step yin.2 yin.1 yin.1 hk hpl pc⟩
            have fl' := flt nd' fin'
            have nd8 := nodup_snoc nd' pf
            have fin8 : ∀ x ∈ fs' ++ [p], InT n t x := fun x hx => by
              rcases List.mem_append.mp hx with h | h
              · exact fin' x h
              · rw [List.mem_singleton.mp h]
                exact pin
            have fl8 := flt nd8 fin8
            have el8 : (fs' ++ [p]).length = fs'.length + 1 := by rw [List.length_append]; rfl
            have ewl : (ws' ++ [p]).length = ws'.length + 1 := by rw [List.length_append]; rfl
            refine ⟨_, rfl, _, rfl, df, _, rfl, DPut.k (k := nK p) hdf7 (small256 (by rw [kvF_len]; omega)), ?_⟩
            rw [kvF_put pf]
            have rdf : r ≠ df := fun z => by rw [z, hdf7] at hr7; cases hr7
            have rL : r ≠ L := fun z => by rw [z, hL7] at hr7; cases hr7
            have hL8 : upd H7 df (.dK (kvF (fs' ++ [p]))) L = some (.lst (ws'.map nV)) := by rw [upd_ne Ldf]; exact hL7
            refine ⟨_, rfl, .inl ⟨rfl, _, SqL.of hL8⟩, _, rfl, L, _, _, rfl, rfl, hL8, by rw [List.length_map]; exact small256 (by omega), ?_⟩
            refine ⟨_, fs' ++ [p], ws' ++ [p], rfl, fun b u e => ?_, ?_, ?_, ?_, nd8, fin8, fun x hx => ?_, fun x hx => List.mem_append.mpr (.inl (sub x hx)), by rw [ewl, el8]; omega, by rw [ewl, el8]; rw [el8] at fl8; omega, fun x hx hn => ?_, fun p' hp' h1 h2 => ?_⟩
            · rw [upd_ne (ne_of_none e L0), upd_ne (ne_of_none e ndf)]
              exact s7 b u e
            · rw [upd_ne rL, upd_ne rdf]
              exact hr7
            · rw [upd_ne (Ne.symm Ldf)]
              exact upd_same
            · rw [upd_same, List.map_append]
              rfl
            · rcases List.mem_append.mp hx with h | h
              · exact List.mem_append.mpr (.inl (wf' x h))
              · exact List.mem_append.mpr (.inr h)
            · rcases List.mem_append.mp hx with h | h
              · exact old x h fun z => hn (List.mem_append.mpr (.inl z))
              · exact absurd (List.mem_append.mpr (.inr h)) hn
            · rcases (et p').mp hp' with h | rfl
              · exact List.mem_append.mpr (.inl (plc p' h h1 h2))
              · exact List.mem_append.mpr (.inr List.mem_cons_self)
      · rintro σ H7 ⟨x6, fs', ws', rfl, s7, hr7, hdf7, hL7, nd', fin', wf', sub, wl', mu', old, plc⟩
        refine ⟨⟨_, _, fs', ws', rfl, s7, hdf7, hL7, nd', fin', wf', sub _ tf, by omega, fun x hx hn k p hk' hp hm hpc => ?_⟩, by rw [emu hL7 hdf7, ql]; omega⟩
        obtain ⟨o1, o2⟩ := old x hx hn
        by_cases e : x = y
        · subst e
          rw [hk] at hk'
          cases hk'
          refine plc p ?_ hm hpc
          show p ∈ [kk.2.1, kk.2.2]
          rcases hp with rfl | rfl
          · exact List.mem_cons_self
          · exact List.mem_cons_of_mem _ List.mem_cons_self
        · refine sub _ (clo x o1 (fun z => ?_) k p hk' hp hm hpc)
          rcases List.mem_append.mp z with z | z
          · exact o2 z
          · exact e (List.mem_singleton.mp z)
    · have q0 : ws = [] := by
        refine List.length_eq_zero_iff.mp (Classical.not_not.mp fun z => gq ?_)
        rw [decide_eq_false z]
        rfl
      subst q0
      refine ⟨_, rfl, df, kvF fs, rfl, .inl hdf4, fun p np => ?_⟩
      have ek : (kvF fs).map (fun kv : L2.Key × V => kV kv.1) = fs.map nV := by
        unfold kvF
        rw [List.map_map]
        rfl
      rw [ek]
      refine q p fs _ (s34.trans (Same.new np)) upd_same nd fun x => ⟨fun h => fin x h, fun h => ?_⟩
      obtain ⟨hm, rc⟩ := h
      have : ∀ y, Rc n t.2 t.1 n.many y → n.many ≤ y → y ∈ fs := fun y r => by
        induction r with
        | here _ => exact fun _ => tf
        | step _ hg _ hk hp hs ih => exact fun hm' => clo _ (ih hg) (fun z => by cases z) _ _ hk hp hm' hs
      exact this x rc hm
end
end K44
set_option Elab.async false
set_option linter.all false
set_option maxRecDepth 100000
set_option maxHeartbeats 4000000
namespace K44
open PySem PySem.Spec PyProof.Rows L2 GX
open C8 (Cal pe_c pe_gc)
section
variable {P : Program} {w : World} {K : PySem.W.Frag} {mg : Str → Option Value} {base : Heap} {Ts : List Addr}
def spDue : Sp := fun vs H Q _ => ∃ (a ca : Addr) (n : Net) (g o : Addr) (ps : List Addr) (k : Nat) (cv : List Tb) (qs : List Addr), vs = [.ref a, .ref ca] ∧ NetAt H a n g o ps ∧ n.Ok ∧ CovAt H ca cv qs ∧ CovOk n k cv ∧ ∀ p H', Same H H' → H' p = some (.tup ((dblOf n cv).map nV)) → Q (.ref p) H'
theorem ok_due {f c : Addr} (D : Dfn K mg "_law_due" s__law_due f c) (T : Txt mg) (c__law_within : Cal P w K mg base 1 "_law_within" spWithin []) : Cal P w K mg base 2 "_law_due" spDue [] := by
  refine cal D (fun _ _ _ _ _ _ us hl => match us, hl with | [_, _], _ => rfl) sc__law_due (fun vs H Q E h => ?_) (fun A outer s H vs Q E hr h => ?_)
  · obtain ⟨a, ca, n, g, o, ps, k, cv, qs, rfl, _⟩ := h
    rfl
  · obtain ⟨a, ca, n, g, o, ps, k, cv, qs, rfl, N, ok, hcv, cok, q⟩ := h
    have m8 := ok.m8
    have g16 := ok.g16
    refine ⟨_, (pss_cons (ps_set (i := 2) sc__law_due.nd rfl (by first | exact Or.inl rfl | exact Or.inr rfl) pe_dnewK)
      (pss_cons (ps_for PassesOwn.never rfl (pi_tup (pv 1)) (pg_tup rfl (pgs_cons (pg_name (i := 3) sc__law_due.nd rfl (by first | exact Or.inl rfl | exact Or.inr rfl)) (pgs_cons (pg_name (i := 4) sc__law_due.nd rfl (by first | exact Or.inl rfl | exact Or.inr rfl)) pgs_nil)))
        (pss_one (ps_for PassesOwn.never rfl (pi_list (pe_c c__law_within hr (by decide) (by rfl) (pa_cons (pv 0) (pa_cons (pv 3) (pa_cons (pv 4) pa_nil))))) (pg_name (i := 5) sc__law_due.nd rfl (by first | exact Or.inl rfl | exact Or.inr rfl))
        (pss_one (ps_dput (Nat.lt_of_le_of_lt (Nat.add_le_add_left (by decide) _) hr.units) (pv 2) (pv 5) (pe_op op_add (pe_dget2 (Nat.lt_of_le_of_lt (Nat.add_le_add_left (by decide) _) hr.units) (pv 2) (pv 5) pe_int ⟨rfl, rfl, rfl, rfl⟩) pe_int) (by rfl))))))
      (pss_one (ps_ret (pe_callTy call_tuple_of (by rfl) T.b_tuple (by decide +kernel) (pa_cons (pe_callB cr_sortedI (by rfl) T.b_sorted (by decide +kernel) (pa_cons (pe_lock (pe_lc (own := [("_law_gate", 3)]) (g := gName 3)  rfl sc__law_due.nd (pi_keys (pv 2)) (blkOk_by (own := [("_law_gate", 3)]) (N := ["_law_net_here", "_law_cover_here", "_law_times", "_law_gate", "_law_cut", "_law_inner"]) (sc := defScope s__law_due) (by decide +kernel)) (fun _ _ _ _ _ => (pg_name (i := 3) sc__law_due.nd rfl (by first | exact Or.inl rfl | exact Or.inr rfl))) (fun _ _ _ _ _ => (pts_one (pt_cmpR op_gt (pe_dget (Nat.lt_of_le_of_lt (Nat.add_le_add_left (by decide) _) hr.units) (pv 2) (pv 3) (fun _ _ => rfl)) pe_int (nomark _)))) (fun _ _ _ _ _ => (pv 3)))) pa_nil)) pa_nil)))))), ?_⟩
    refine fun d nd => ?_
    have s1 := Same.new (o := .dK []) nd
    have putA : ∀ {Hx : Hp} {u : HO}, Same H Hx → Same H (upd Hx d u) := fun {Hx u} x b o e => by rw [upd_ne (ne_of_none e nd)]; exact x b o e
    have hd1 : upd H d (.dK []) d = some (.dK []) := upd_same
    generalize upd H d (.dK []) = H1 at s1 hd1 ⊢
    refine ⟨_, rfl, ca, rfl, ⟨_, SqT.of (s1 _ _ hcv.top)⟩, ?_⟩
    refine for_tup (K := K) (a := ca) (xs := qs.map V.ref) (fun i σ H' => ∃ (x3 x4 x5 : Option V) (kvs : List (L2.Key × V)), σ = [some (.ref a), some (.ref ca), some (.ref d), x3, x4, x5] ∧ Same H H' ∧ H' d = some (.dK kvs) ∧ CntAt kvs (cntT n (cv.take i)) (n.many + n.gates.length)) ⟨none, none, none, [], rfl, s1, hd1, CntAt.nil _⟩ ?_ ?_ ?_
    · rintro i σ H2 _ ⟨_, _, _, _, _, a2, _⟩
      exact SqT.of (a2 _ _ hcv.top)
    · rintro i x σ H2 hx ⟨x3, x4, x5, kvs, rfl, a2, hd2, cn⟩
      have cv2 := hcv.same a2
      obtain ⟨q', t, rfl, ht, c', hq', hc'⟩ := cv2.ts.at_ hx
      have htm := List.mem_of_getElem? ht
      have hgt := cok.gt t htm
      have N2 := N.same a2
      refine ⟨q', _, rfl, SqT.of hq', rfl, _, _, rfl, _, _, rfl, rfl, ?_⟩
      refine ⟨_, rfl, _, rfl, _, rfl, a, c', n, g, o, ps, t, rfl, N2, ok, hgt.1, hgt.2, hc', (cok.cut t htm).1, fun p zs H3 s3 hp hnd hin => ?_⟩
      have hd3 := s3 _ _ hd2
      have a13 := a2.trans s3
      have hlt : ∀ x ∈ zs, x < n.many + n.gates.length := fun x hx => by
        have := ((hin x).mp hx).2.le ok
        omega
      refine ⟨p, rfl, ⟨_, SqL.of hp⟩, ?_⟩
      refine for_list (K := K) (a := p) (xs := zs.map nV) (fun j σ H' => ∃ (x5 : Option V) (kvs : List (L2.Key × V)), σ = [some (.ref a), some (.ref ca), some (.ref d), some (nV t.1), some (.ref c'), x5] ∧ Same H H' ∧ H' p = some (.lst (zs.map nV)) ∧ H' d = some (.dK kvs) ∧ CntAt kvs (fun x => cntT n (cv.take i) x + (if x ∈ zs.take j then 1 else 0)) (n.many + n.gates.length)) ⟨x5, kvs, rfl, a13, hp, hd3, cn.congr fun x => by rw [if_neg (by intro z; cases z)]; rfl⟩ ?_ ?_ ?_
      · rintro j σ H4 _ ⟨_, _, _, _, h, _⟩
        exact SqL.of h
      · rintro j x σ H4 hx ⟨x5, kvs, rfl, a4, hp4, hd4, cn4⟩
        have hj : j < zs.length := by
          have := (List.getElem?_eq_some_iff.mp hx).1
          rwa [List.length_map] at this
        rw [natAt hj] at hx
        cases hx
        have ez : zs.getD j 0 = zs[j] := by rw [List.getD_eq_getElem?_getD, List.getElem?_eq_getElem hj]; rfl
        have hzj : zs.getD j 0 ∉ zs.take j := by
          rw [ez]
          intro z
          obtain ⟨i', h', e'⟩ := List.mem_take_iff_getElem.mp z
          have := (List.nodup_iff_pairwise_ne.mp hnd)
          have h2 := List.pairwise_iff_getElem.mp this i' j (by omega) hj (by omega)
          exact h2 e'
        have hm := getD_mem hj
        have et : ∀ y, (y ∈ zs.take (j + 1)) ↔ (y ∈ zs.take j ∨ y = zs.getD j 0) := fun y => by
          rw [List.take_add_one, List.getElem?_eq_getElem hj, Option.toList_some, List.mem_append, List.mem_singleton, ez]
        generalize zs.getD j 0 = z at hzj hm et ⊢
        refine ⟨_, rfl, d, rfl, .inl ⟨_, .inl hd4⟩, _, rfl, _, DGet.k (k := nK z) hd4, ?_⟩
        rw [cn4.get z]
        refine ⟨_, _, rfl, rfl, ?_⟩
        have cl := cn4.len
        refine ⟨_, rfl, _, rfl, d, _, rfl, DPut.k (k := nK z) hd4 (small256 (by omega)), ?_⟩
        have pd : p ≠ d := fun e => by rw [e, hd4] at hp4; cases hp4
        refine ⟨_, _, rfl, putA a4, by rw [upd_ne pd]; exact hp4, upd_same, ?_⟩
        have c5 := cn4.put (hlt z hm)
        refine CntAt.congr c5 fun y => ?_
        show cntT n (cv.take i) y + (if y ∈ zs.take j then 1 else 0) + (if y = z then 1 else 0) = cntT n (cv.take i) y + (if y ∈ zs.take (j + 1) then 1 else 0)
        by_cases e : y = z
        · subst e
          rw [if_neg hzj, if_pos rfl, if_pos ((et y).mpr (.inr rfl))]
        · rw [if_neg e, Nat.add_zero]
          by_cases e2 : y ∈ zs.take j
          · rw [if_pos e2, if_pos ((et y).mpr (.inl e2))]
          · rw [if_neg e2, if_neg (fun z' => by rcases (et y).mp z' with z' | z'; exact e2 z'; exact e z')]
      · rintro σ H4 ⟨x5, kvs, rfl, a4, hp4, hd4, cn4⟩
        rw [List.length_map, List.take_length] at cn4
        exact ⟨_, _, _, kvs, rfl, a4, hd4, cn4.congr fun x => (cntT_take ht hin x).symm⟩
    · rintro σ H2 ⟨x3, x4, x5, kvs, rfl, a2, hd2, cn⟩
      rw [List.length_map, hcv.ts.1, List.take_length] at cn
      have cl := cn.len
      obtain ⟨F, hF, nF, lF⟩ := cn.keys
      have fl := nodup_lt nF lF
      have kl : kvs.length = F.length := by rw [← List.length_map (as := kvs) (fun kv : L2.Key × V => kv.1), hF, List.length_map]
      refine ⟨d, .dK kvs, hd2, trivial, fun od => ⟨_, rfl, d, od, rfl, .inl ⟨kvs, upd_same, fun S nS => ?_⟩⟩⟩
      have hdl : upd H2 d (.frz od (.dK kvs)) d = some (.frz od (.dK kvs)) := upd_same
      have sl : Same H (upd H2 d (.frz od (.dK kvs))) := putA a2
      generalize upd H2 d (.frz od (.dK kvs)) = Hl at nS hdl sl ⊢
      refine lc_it (walk_keys (kvs := kvs)) (fun i H' => Own Hl H' S (((F.take i).filter fun x => decide (1 < cntT n cv x)).map nV)) ⟨Same.new nS, upd_same, nS⟩ (fun i H' _ o' => o'.sm _ _ hdl) ?_ ?_
      · rintro i x H3 H4 hi o3 ⟨rfl, kk, v, hkv, rfl⟩
        rw [kl] at hi
        have ek : kk = nK (F.getD i 0) := by
          have : (kvs.map fun kv : L2.Key × V => kv.1)[i]? = some kk := by rw [List.getElem?_map, hkv]; rfl
          rw [hF, List.getElem?_map, List.getElem?_eq_getElem hi] at this
          rw [List.getD_eq_getElem?_getD, List.getElem?_eq_getElem hi]
          exact (Option.some.inj this).symm
        subst ek
        have hm := getD_mem hi
        have ef : (F.take (i + 1)).filter (fun x => decide (1 < cntT n cv x)) = (F.take i).filter (fun x => decide (1 < cntT n cv x)) ++ (if decide (1 < cntT n cv (F.getD i 0)) = true then [F.getD i 0] else []) := by
          rw [List.take_add_one, List.filter_append, List.getD_eq_getElem?_getD, List.getElem?_eq_getElem hi, Option.toList_some, List.filter_cons]
          rfl
        generalize F.getD i 0 = z at hm ef ⊢
        have dg : DGet H4 d (nV z) (valV kvs (nK z)) := .inl ⟨kvs, nK z, .inr ⟨od, o3.sm _ _ hdl⟩, rfl, rfl⟩
        rw [cn.val, if_neg ((cn.mem hF z).mp hm)] at dg
        refine ⟨rfl, _, rfl, _, rfl, d, _, rfl, dg, _, _, rfl, rfl, _, rfl, ite2 (fun hg => ?_) (fun hg => ?_)⟩
        · have hg' : 1 < cntT n cv z := by
            have := of_decide_eq_true hg
            omega
          refine ⟨_, rfl, _, o3.at_, ?_, ?_⟩
          · rw [List.length_map]
            exact Nat.lt_of_le_of_lt (List.length_filter_le _ _) (by rw [List.length_take]; exact small256 (by omega))
          · rw [ef, if_pos (decide_eq_true hg'), List.map_append]
            exact o3.app
        · have hg' : ¬ (1 < cntT n cv z) := fun z' => hg (decide_eq_true (by show (1 : Int) < ((cntT n cv z : Nat) : Int); omega))
          show Own Hl H4 S _
          rw [ef, if_neg (by rw [decide_eq_false hg']; exact Bool.false_ne_true), List.append_nil]
          exact o3
      · rintro H3 o3
        rw [kl, List.take_length] at o3
        refine ⟨o3.sm _ _ hdl, ?_⟩
        have Sd : S ≠ d := fun z => by rw [z, hdl] at nS; cases nS
        have s4 : Same H (upd H3 d (.dK kvs)) := putA (sl.trans o3.sm)
        have hS4 : upd H3 d (.dK kvs) S = some (.lst ((F.filter fun x => decide (1 < cntT n cv x)).map nV)) := by rw [upd_ne Sd]; exact o3.at_
        generalize upd H3 d (.dK kvs) = H4 at s4 hS4 ⊢
        refine ⟨S, (F.filter fun x => decide (1 < cntT n cv x)).map (fun x : Nat => (x : Int)), rfl, (by rw [mapV]; exact SqL.of hS4), fun ys p pm pw np => ?_⟩
        obtain ⟨xs, rfl, pm2, r⟩ := sorted_nat (nF.filter _) pm pw
        rw [mapV]
        have ed : xs = dblOf n cv := dbl_of cn hF nF lF r fun x => by rw [pm2.mem_iff, List.mem_filter, decide_eq_true_iff]
        refine ⟨p, _, rfl, .inl ⟨SqL.of upd_same, fun p2 np2 => ?_⟩⟩
        rw [ed]
        exact q p2 _ ((s4.trans (Same.new np)).trans (Same.new (by rw [← ed]; exact np2))) upd_same
end
end K44
set_option Elab.async false
set_option linter.all false
set_option maxRecDepth 100000
set_option maxHeartbeats 4000000
namespace K44
open PySem PySem.Spec PyProof.Rows L2 GX
open C8 (Cal pe_c pe_gc)
section
variable {P : Program} {w : World} {K : PySem.W.Frag} {mg : Str → Option Value} {base : Heap} {Ts : List Addr}
def PairTrue (H : Hp) (p : Addr) (x : Nat) : Prop := H p = some (.tup [nV x, .bl true])
theorem pairs_true {H : Hp} : ∀ {qs : List Addr} {xs : List Nat}, PtsAt PairTrue H qs xs → Paired (fun p kv => SqT K H p [kV kv.1, kv.2]) qs (kvF xs)
  | [], xs, x => by
    have : xs = [] := List.length_eq_zero_iff.mp x.1.symm
    subst this
    exact .nil
  | p :: r, [], x => by cases x.1
  | p :: r, t :: cv, x => by
    have h1 : H p = _ := x.2 0 p t rfl rfl
    exact .cons (SqT.of h1) (pairs_true (H := H) (qs := r) (xs := cv) ⟨by simpa using x.1, fun i p' t' e1 e2 => x.2 (i + 1) p' t' (by simpa using e1) (by simpa using e2)⟩)
theorem merge_kvF (xs : List Nat) (x : Nat) : (valV (mergeK [] (kvF xs)) (nK x)).isSome = true ↔ x ∈ xs := by
  by_cases h : x ∈ xs
  · obtain ⟨q, hq, _, h2⟩ := merge_some (kvF xs) [] ⟨(nK x, V.bl true), List.mem_map.mpr ⟨x, h, rfl⟩, rfl⟩
    rw [h2]
    exact ⟨fun _ => h, fun _ => rfl⟩
  · rw [merge_none (kvF xs) [] fun q hq e => by
      obtain ⟨y, hy, rfl⟩ := List.mem_map.mp hq
      exact h (by rw [← nK_inj e]; exact hy)]
    exact ⟨fun z => (by cases z), fun z => absurd z h⟩
def RowAt (n : Net) (gt : Nat) (R : Addr) (H : Hp) (p : Addr) (c : List Nat) : Prop := p ≠ R ∧ H p = some (.lst (c.map nV)) ∧ CutOk n gt c
def spWide : Sp := fun vs H Q _ => ∃ (a : Addr) (n : Net) (g o : Addr) (ps : List Addr) (k : Nat), vs = [.ref a, nV k] ∧ NetAt H a n g o ps ∧ n.Ok ∧ 2 ≤ k ∧ k ≤ 8 ∧ ∀ p H' cv qs, CovAt H' p cv qs → CovOk n k cv → Same H H' → Q (.ref p) H'
theorem ok_wide {f c : Addr} (D : Dfn K mg "_law_wide" s__law_wide f c) (T : Txt mg) (c__law_opened : Cal P w K mg base 1 "_law_opened" spOpened []) : Cal P w K mg base 2 "_law_wide" spWide [] := by
  refine cal D (fun _ _ _ _ _ _ us hl => match us, hl with | [_, _], _ => rfl) sc__law_wide (fun vs H Q E h => ?_) (fun A outer s H vs Q E hr h => ?_)
  · obtain ⟨a, n, g, o, ps, k, rfl, _⟩ := h
    rfl
  · obtain ⟨a, n, g, o, ps, k, rfl, N, ok, hk2, hk8, q⟩ := h
    have m8 := ok.m8
    have m1 := ok.m1
    have g16 := ok.g16
    have o8 := ok.o8
    refine ⟨_, (pss_cons (ps_set (i := 2) sc__law_wide.nd rfl (by first | exact Or.inl rfl | exact Or.inr rfl) (pe_callTy (call_dictP rfl) (by rfl) T.b_dict (by decide +kernel) (pa_cons (pe_lc (own := [("_law_wire", 3)]) (g := gName 3) (tt := tYes) rfl sc__law_wide.nd (pi_tup (pe_ix ix_tup (pv 0) pe_int (fun _ _ => rfl))) (blkOk_by (own := [("_law_wire", 3)]) (N := ["_law_net_here", "_law_k", "_law_asked", "_law_wire", "_law_found", "_law_gate", "_law_cut", "_law_turn", "_law_rows", "_law_at", "_law_row"]) (sc := defScope s__law_wide) (by decide +kernel)) (fun _ _ _ _ _ => (pg_name (i := 3) sc__law_wide.nd rfl (by first | exact Or.inl rfl | exact Or.inr rfl))) (fun _ _ _ _ _ => pts_nil) (fun _ _ _ _ _ => (pe_tup (pa_cons (pv 3) (pa_cons pe_bl pa_nil))))) pa_nil)))
      (pss_cons (ps_set (i := 4) sc__law_wide.nd rfl (by first | exact Or.inl rfl | exact Or.inr rfl) (pe_tup pa_nil))
      (pss_cons (ps_for PassesOwn.never rfl (pi_range3 (by rfl) T.b_range (pa_cons (pe_op op_sub (pe_op op_add (pe_ix ix_tup (pv 0) pe_int (fun _ _ => rfl)) (pe_callB call_len_seq (by rfl) T.b_len (by decide +kernel) (pa_cons (pe_ix ix_tup (pv 0) pe_int (fun _ _ => rfl)) pa_nil))) pe_int) (pa_cons (pe_op op_sub (pe_ix ix_tup (pv 0) pe_int (fun _ _ => rfl)) pe_int) (pa_cons (pe_un un_neg pe_int) pa_nil)))) (pg_name (i := 5) sc__law_wide.nd rfl (by first | exact Or.inl rfl | exact Or.inr rfl))
        (pss_one (ps_if (pt_cmp (pc_din (Nat.lt_of_le_of_lt (Nat.add_le_add_left (by decide) _) hr.units) (pv 5) (pv 2))) (pss_cons (ps_set (i := 6) sc__law_wide.nd rfl (by first | exact Or.inl rfl | exact Or.inr rfl) (pe_callB (cr_sortedSet rfl) (by rfl) T.b_sorted (by decide +kernel) (pa_cons (pe_callTy (cr_setN rfl) (by rfl) T.b_set (by decide +kernel) (pa_cons (pe_slice sl_tupA (pe_ix ix_tup (pe_ix ix_tup (pv 0) pe_int (fun _ _ => rfl)) (pe_op op_sub (pv 5) (pe_ix ix_tup (pv 0) pe_int (fun _ _ => rfl))) (fun _ _ => rfl)) (po_some pe_int) po_none) pa_nil)) pa_nil)))
      (pss_cons (ps_for PassesOwn.never rfl (pi_range1 (by rfl) T.b_range (pa_cons pe_int pa_nil)) (pg_name (i := 7) sc__law_wide.nd rfl (by first | exact Or.inl rfl | exact Or.inr rfl))
        (pss_cons (ps_setLc (i := 8) (own := [("_law_at", 9)]) (g := gName 9)  rfl sc__law_wide.nd rfl rfl (sw_true rfl rfl rfl (by decide +kernel)) (pi_range1 (by rfl) T.b_range (pa_cons (pe_callB call_len_seq (by rfl) T.b_len (by decide +kernel) (pa_cons (pv 6) pa_nil)) pa_nil)) (blkOk_by (own := [("_law_at", 9)]) (N := ["_law_net_here", "_law_k", "_law_asked", "_law_wire", "_law_found", "_law_gate", "_law_cut", "_law_turn", "_law_rows", "_law_at", "_law_row"]) (sc := defScope s__law_wide) (by decide +kernel)) (fun _ _ _ _ _ => (pg_name (i := 9) sc__law_wide.nd rfl (by first | exact Or.inl rfl | exact Or.inr rfl))) (fun _ _ _ _ _ => (pts_one (pt_cmpR op_ge (pe_ix (ix_listK (K := K)) (pv 6) (pv 9) (fun _ _ => rfl)) (pe_ix (ix_tupK (K := K)) (pv 0) pe_int (fun _ _ => rfl)) (nomark _)))) (fun _ _ _ _ _ => (pe_c c__law_opened hr (by decide) (by rfl) (pa_cons (pv 0) (pa_cons (pv 6) (pa_cons (pv 9) pa_nil))))))
      (pss_cons (ps_setLc (i := 8) (own := [("_law_row", 10)]) (g := gName 10)  rfl sc__law_wide.nd rfl rfl (sw_true rfl rfl rfl (by decide +kernel)) (pi_list (pv 8)) (blkOk_by (own := [("_law_row", 10)]) (N := ["_law_net_here", "_law_k", "_law_asked", "_law_wire", "_law_found", "_law_gate", "_law_cut", "_law_turn", "_law_rows", "_law_at", "_law_row"]) (sc := defScope s__law_wide) (by decide +kernel)) (fun _ _ _ _ _ => (pg_name (i := 10) sc__law_wide.nd rfl (by first | exact Or.inl rfl | exact Or.inr rfl))) (fun _ _ _ _ _ => (pts_one (pt_cmpR op_le (pe_callB (len_seqK (K := K)) (by rfl) T.b_len (by decide +kernel) (pa_cons (pv 10) pa_nil)) (pv 1) (nomark _)))) (fun _ _ _ _ _ => (pv 10)))
      (pss_one (ps_set (i := 6) sc__law_wide.nd rfl (by first | exact Or.inl rfl | exact Or.inr rfl) (pe_ix ix_list (pe_op op_cat (pv 8) (pe_lst (pa_cons (pv 6) pa_nil))) pe_int (fun _ _ => rfl)))))))
      (pss_cons (ps_for PassesOwn.never rfl (pi_list (pv 6)) (pg_name (i := 3) sc__law_wide.nd rfl (by first | exact Or.inl rfl | exact Or.inr rfl))
        (pss_one (ps_dput (Nat.lt_of_le_of_lt (Nat.add_le_add_left (by decide) _) hr.units) (pv 2) (pv 3) pe_bl (by rfl))))
      (pss_one (ps_set (i := 4) sc__law_wide.nd rfl (by first | exact Or.inl rfl | exact Or.inr rfl) (pe_op op_catA (pe_tup (pa_cons (pe_tup (pa_cons (pv 5) (pa_cons (pe_callTy call_tuple_of (by rfl) T.b_tuple (by decide +kernel) (pa_cons (pv 6) pa_nil)) pa_nil))) pa_nil)) (pv 4))))))) pss_nil)))
      (pss_one (ps_ret (pv 4)))))), ?_⟩
    refine ⟨_, rfl, a, _, 2, _, rfl, rfl, SqT.of N.top, at2, o, rfl, ⟨_, SqT.of N.ot⟩, fun M nM => ?_⟩
    refine lc_tup (K := K) (a := o) (xs := n.outs.map nV) (fun i H' => ∃ ts : List Addr, Own H H' M (ts.map V.ref) ∧ PtsAt PairTrue H' ts (n.outs.take i)) ⟨[], ⟨Same.new nM, upd_same, nM⟩, PtsAt.nil _ _⟩ (fun i H' _ ⟨_, o', _⟩ => SqT.of (o'.sm _ _ N.ot)) ?_ ?_
    · rintro i x H1 hx ⟨ts, o1, pt⟩
      have hi : i < n.outs.length := by
        have := (List.getElem?_eq_some_iff.mp hx).1
        rwa [List.length_map] at this
      rw [natAt hi] at hx
      cases hx
      have tl : ts.length = i := by rw [pt.1, List.length_take]; omega
      refine ⟨rfl, ?_⟩
      unfold tYes
      refine iteT ?_
      refine ⟨_, rfl, small 2, fun t nt => ?_⟩
      have s2 := Same.new (o := .tup [nV (n.outs.getD i 0), .bl true]) nt
      have hM2 := s2 _ _ o1.at_
      have hM3 : ∀ b ys, upd H1 t (.tup [nV (n.outs.getD i 0), .bl true]) b = some (.tup ys) → upd (upd H1 t (.tup [nV (n.outs.getD i 0), .bl true])) M (.lst (ts.map V.ref ++ [.ref t])) b = some (.tup ys) := tupPut hM2
      refine ⟨_, hM2, by rw [List.length_map]; exact small256 (by omega), ts ++ [t], ⟨fun b u e => ?_, ?_, o1.nw⟩, ?_⟩
      · rw [upd_ne (ne_of_none e o1.nw)]
        exact s2 _ _ (o1.sm _ _ e)
      · rw [upd_same, List.map_append]
        rfl
      · have et : n.outs.take (i + 1) = n.outs.take i ++ [n.outs.getD i 0] := by
          rw [List.take_add_one, List.getElem?_eq_getElem hi, List.getD_eq_getElem?_getD, List.getElem?_eq_getElem hi]
          rfl
        rw [et]
        exact PtsAt.push (pt.mono fun p y e => hM3 _ _ (s2 _ _ e)) (hM3 _ _ upd_same)
    · rintro H1 ⟨ts, o1, pt⟩
      rw [List.length_map, List.take_length] at pt
      refine ⟨M, ts, kvF n.outs, rfl, SqL.of o1.at_, pairs_true pt, fun d nd => ⟨small 0, fun f0 nf0 => ?_⟩⟩
      have s2 := Same.new (o := .dK (mergeK [] (kvF n.outs))) nd
      have s3 := Same.new (o := .tup []) nf0
      have sm := (o1.sm.trans s2).trans s3
      have d0 : H d = none := Same.was o1.sm nd
      have hd3 : upd (upd H1 d (.dK (mergeK [] (kvF n.outs)))) f0 (.tup []) d = some (.dK (mergeK [] (kvF n.outs))) := s3 _ _ upd_same
      have cv3 : CovAt (upd (upd H1 d (.dK (mergeK [] (kvF n.outs)))) f0 (.tup [])) f0 [] [] := ⟨upd_same, PtsAt.nil _ _⟩
      generalize upd (upd H1 d (.dK (mergeK [] (kvF n.outs)))) f0 (.tup []) = H3 at sm hd3 cv3 ⊢
      clear s2 s3 nf0 nd pt o1
      have N3 := N.same sm
      have kl0 : (mergeK [] (kvF n.outs)).length ≤ 8 := Nat.le_trans (merge_len _) (by rw [kvF_len]; exact o8)
      have putA : ∀ {Hx : Hp} {u : HO}, Same H Hx → Same H (upd Hx d u) := fun {Hx u} x b o e => by rw [upd_ne (ne_of_none e d0)]; exact x b o e
      refine ⟨_, rfl, a, _, 0, _, rfl, rfl, SqT.of N3.top, at0, _, rfl, a, _, 1, _, rfl, rfl, SqT.of N3.top, at1, g, _, rfl, .inr (SqT.of N3.gt), _, _, rfl, rfl, _, _, rfl, rfl, _, rfl, a, _, 0, _, rfl, rfl, SqT.of N3.top, at0, _, _, rfl, rfl, _, rfl, ((n.many : Nat) : Int) + (((ps.map V.ref).length : Nat) : Int) - 1, ((n.many : Nat) : Int) - 1, -1, _, rfl, RgC.neg (by omega) (by rw [List.length_map, N3.gs.1]; omega) (by omega) (by omega), ?_⟩
      refine for_rangeC (lo := ((n.many : Nat) : Int) + (((ps.map V.ref).length : Nat) : Int) - 1) (c := -1) (n := (((n.many : Nat) : Int) + (((ps.map V.ref).length : Nat) : Int) - 1 - (((n.many : Nat) : Int) - 1)).toNat) (fun i σ H' => ∃ (x3 x5 x6 x7 x8 x9 x10 : Option V) (kvs : List (L2.Key × V)) (S : Nat → Prop) (f0 : Addr) (cv : List Tb) (qs : List Addr), σ = [some (.ref a), some (nV k), some (.ref d), x3, some (.ref f0), x5, x6, x7, x8, x9, x10] ∧ Same H H' ∧ H' d = some (.dK kvs) ∧ kvs.length ≤ 8 + 8 * i ∧ (∀ x : Nat, (valV kvs (nK x)).isSome = true ↔ S x) ∧ CovAt H' f0 cv qs ∧ cv.length ≤ i ∧ CovTo n k (n.many + n.gates.length - i) false S cv) ⟨_, _, _, _, _, _, _, mergeK [] (kvF n.outs), fun x => x ∈ n.outs, f0, [], [], rfl, sm, hd3, by omega, merge_kvF n.outs, cv3, Nat.le_refl _, ⟨.nil, fun t ht => by (cases ht), fun t ht => by (cases ht), fun x => ⟨fun z => .inl z, fun z => by rcases z with z | ⟨t, ht, _⟩; exact z; cases ht⟩, fun x hx hG => ?_, fun _ t ht => by (cases ht)⟩⟩ ?_ ?_
      · have := ok.os x hx
        omega
      · rintro i σ H4 hi ⟨x3, x5, x6, x7, x8, x9, x10, kvs, S, f0, cv, qs, rfl, s4, hd4, kl, km, cv4, cl4, cto⟩
        rw [List.length_map, N3.gs.1] at hi
        have hi' : i < n.gates.length := by omega
        obtain ⟨gt, egt, hgt⟩ : ∃ gt : Nat, ((n.many : Nat) : Int) + (((ps.map V.ref).length : Nat) : Int) - 1 + ((i : Nat) : Int) * -1 = ((gt : Nat) : Int) ∧ gt + 1 = n.many + n.gates.length - i := ⟨n.many + n.gates.length - 1 - i, by rw [List.length_map, N3.gs.1]; omega, by omega⟩
        rw [egt]
        have hG2 : n.many + n.gates.length - (i + 1) = gt := by omega
        rw [← hgt] at cto
        rw [hG2]
        have hgm : n.many ≤ gt := by omega
        have hgw : gt < n.many + n.gates.length := by omega
        have N4 := N.same s4
        refine ⟨_, rfl, _, rfl, d, _, rfl, DGet.k (k := nK gt) hd4, _, rfl, ite2 (fun hin => ?_) (fun hin => ?_)⟩
        rotate_left
        · exact ⟨_, _, _, _, _, _, _, kvs, S, f0, cv, qs, rfl, s4, hd4, by omega, km, cv4, by omega, cto.skip fun z => hin ((km gt).mpr z)⟩
        have hS : S gt := (km gt).mp hin
        obtain ⟨kk, pk, hk, hpk, hatk⟩ := gate_at gt N4 hgm hgw
        refine ⟨_, rfl, a, _, 1, _, rfl, rfl, SqT.of N4.top, at1, _, rfl, _, rfl, a, _, 0, _, rfl, rfl, SqT.of N4.top, at0, _, _, rfl, rfl, g, _, _, _, rfl, rfl, SqT.of N4.gt, hatk, 1, rfl, ?_⟩
        unfold tNoPart
        refine slA (lo := some ((1 : Nat) : Int)) (hi := none) hpk fun r H5 s5 h5 => ?_
        rw [cut_lo] at h5
        have h5' : H5 r = some (.tup ([kk.2.1, kk.2.2].map nV)) := h5
        refine ⟨r, [kk.2.1, kk.2.2], rfl, .inr (SqT.of h5'), (by show 2 ≤ 60; decide), fun sq c nsq hc => ?_⟩
        have s6 := Same.new (o := SetO w sq (fun j => decide (j ∈ [kk.2.1, kk.2.2].map fun n : Nat => (n : Int))) c) nsq
        refine ⟨sq, _, c, rfl, upd_same, (by have : c ≤ 2 := hc; omega), fun out l pw hm hl nl => ?_⟩
        obtain ⟨ys, rfl, yr, ym⟩ := sorted_set_nat pw hm
        rw [mapV]
        have s7 := Same.new (o := .lst (ys.map nV)) nl
        have s47 := (s5.trans s6).trans s7
        have c5 : CutOk n gt ys := ⟨pos_of_mem ((ym _).mpr List.mem_cons_self), fun y hy => by
          have := (ym y).mp hy
          rcases List.mem_cons.mp this with e | e
          · exact place_lt ok hgm hk (.inl e)
          · exact place_lt ok hgm hk (.inr (List.mem_singleton.mp e)), sep_first hgm hk fun z hz => (ym z).mpr (by rcases hz with rfl | rfl <;> simp), yr⟩
        have y2 : ys.length ≤ 2 := nodup_len (ys := [kk.2.1, kk.2.2]) (yr.imp fun h => Nat.ne_of_lt h) fun z hz => (ym z).mp hz
        have hl7 : upd (upd H5 sq (SetO w sq (fun j => decide (j ∈ [kk.2.1, kk.2.2].map fun n : Nat => (n : Int))) c)) l (.lst (ys.map nV)) l = some (.lst (ys.map nV)) := upd_same
        refine ⟨_, rfl, by decide, by decide, ?_⟩
        refine for_range (lo := 0) (n := (16 : Int).toNat) (fun j σ H' => ∃ (x7 x8 x9 x10 : Option V) (l : Addr) (cut : List Nat), σ = [some (.ref a), some (nV k), some (.ref d), x3, some (.ref f0), some (nV gt), some (.ref l), x7, x8, x9, x10] ∧ Same H4 H' ∧ H' l = some (.lst (cut.map nV)) ∧ CutOk n gt cut ∧ cut.length ≤ k) ⟨_, _, _, _, l, ys, rfl, s47, hl7, c5, by omega⟩ ?_ ?_
        · rintro j σ H8 hj ⟨x7, x8, x9, x10, l, cut, rfl, s8, hl8, cok8, ck8⟩
          have N8 := N4.same s8
          refine ⟨_, rfl, l, _, rfl, .inl (SqL.of hl8), _, rfl, by omega, by rw [List.length_map]; omega, fun R nR => ?_⟩
          rw [List.length_map]
          refine lc_range (lo := 0) (n := ((cut.length : Nat) : Int).toNat) (fun m H' => ∃ (rs : List Addr) (cs : List (List Nat)), Own H8 H' R (rs.map V.ref) ∧ PtsAt (RowAt n gt R) H' rs cs ∧ rs.length ≤ m) ⟨[], [], ⟨Same.new nR, upd_same, nR⟩, PtsAt.nil _ _, Nat.le_refl _⟩ ?_ ?_
          · rintro m H9 hm9 ⟨rs, cs, o9, pt9, rl9⟩
            rw [Int.toNat_natCast] at hm9
            have N9 := N8.same o9.sm
            have hl9 := o9.sm _ _ hl8
            refine ⟨rfl, _, rfl, _, rfl, l, _, ((m : Nat) : Int), _, rfl, (by show V.int (0 + ((m : Nat) : Int)) = _; rw [Int.zero_add]), SqL.of hl9, atI_nat (natAt hm9), _, rfl, a, _, 0, _, rfl, rfl, SqT.of N9.top, at0, _, _, rfl, rfl, _, rfl, ite2 (fun hg => ?_) (fun hg => ?_)⟩
            · have hg' : n.many ≤ cut.getD m 0 := by
                have := of_decide_eq_true hg
                omega
              refine ⟨_, rfl, _, rfl, _, rfl, a, n, g, o, ps, l, cut, m, gt, (by show [V.ref a, V.ref l, V.int (0 + ((m : Nat) : Int))] = _; rw [Int.zero_add]; rfl), N9, ok, hl9, cok8, by omega, hgm, hgw, hm9, hg', fun p H10 zs s10 np hp cokz => ?_⟩
              have hR10 := s10 _ _ o9.at_
              have pR : p ≠ R := fun z => by rw [z, o9.at_] at np; cases np
              refine ⟨_, hR10, by rw [List.length_map]; exact small256 (by omega), rs ++ [p], cs ++ [zs], ⟨fun b u e => ?_, ?_, nR⟩, ?_, by rw [List.length_append]; show rs.length + 1 ≤ m + 1; omega⟩
              · rw [upd_ne (ne_of_none e nR)]
                exact s10 _ _ (o9.sm _ _ e)
              · rw [upd_same, List.map_append]
                rfl
              · exact PtsAt.push (pt9.mono fun p' c' e => ⟨e.1, by rw [upd_ne e.1]; exact s10 _ _ e.2.1, e.2.2⟩) ⟨pR, by rw [upd_ne pR]; exact hp, cokz⟩
            · exact ⟨rs, cs, o9, pt9, by omega⟩
          · rintro H9 ⟨rs, cs, o9, pt9, rl9⟩
            rw [Int.toNat_natCast] at rl9
            refine ⟨_, rfl, R, rfl, ⟨_, SqL.of o9.at_⟩, fun R2 nR2 => ?_⟩
            refine lc_list (K := K) (a := R) (xs := rs.map V.ref) (fun m H' => ∃ (rs' : List Addr), Own H9 H' R2 (rs'.map V.ref) ∧ (∀ p ∈ rs', ∃ c', H9 p = some (.lst (c'.map nV)) ∧ CutOk n gt c' ∧ c'.length ≤ k) ∧ rs'.length ≤ m) ⟨[], ⟨Same.new nR2, upd_same, nR2⟩, fun p hp => (by cases hp), Nat.le_refl _⟩ (fun m H' _ ⟨_, o', _⟩ => SqL.of (o'.sm _ _ o9.at_)) ?_ ?_
            · rintro m x H10 hx ⟨rs', o10, pr10, rl10⟩
              obtain ⟨p, c', rfl, _, _, hp, cok'⟩ := pt9.at_ hx
              have hmr : m < rs.length := by
                have := (List.getElem?_eq_some_iff.mp hx).1
                rwa [List.length_map] at this
              have cs' := cok'.short ok hgw
              refine ⟨rfl, _, rfl, p, _, rfl, .inl (SqL.of (o10.sm _ _ hp)), _, rfl, _, _, rfl, rfl, _, rfl, ite2 (fun hg => ?_) (fun hg => ?_)⟩
              · have hg' : c'.length ≤ k := by
                  have := of_decide_eq_true hg
                  rw [List.length_map] at this
                  omega
                refine ⟨_, rfl, _, o10.at_, by rw [List.length_map]; exact small256 (by omega), rs' ++ [p], ?_, fun p' hp' => ?_, by rw [List.length_append]; show rs'.length + 1 ≤ m + 1; omega⟩
                · rw [List.map_append]
                  exact o10.app
                · rcases List.mem_append.mp hp' with h | h
                  · exact pr10 p' h
                  · rw [List.mem_singleton.mp h]
                    exact ⟨c', hp, cok', hg'⟩
              · exact ⟨rs', o10, pr10, by omega⟩
            · rintro H10 ⟨rs', o10, pr10, rl10⟩
              rw [List.length_map] at rl10
              have hl10 := o10.sm _ _ (o9.sm _ _ hl8)
              refine ⟨_, rfl, _, rfl, small 1, fun z nz => ?_⟩
              have s11 := Same.new (o := .lst [.ref l]) nz
              have hz : upd H10 z (.lst [.ref l]) z = some (.lst ([l].map V.ref)) := upd_same
              refine ⟨R2, z, _, _, rfl, rfl, s11 _ _ o10.at_, hz, by rw [List.length_map]; show _ + 1 ≤ sizeLine; exact small _ (by omega), fun y ny => ?_⟩
              rw [← List.map_append]
              have s12 := s11.trans (Same.new (o := .lst ((rs' ++ [l]).map V.ref)) ny)
              have hy : upd (upd H10 z (.lst [.ref l])) y (.lst ((rs' ++ [l]).map V.ref)) y = some (.lst ((rs' ++ [l]).map V.ref)) := upd_same
              generalize upd (upd H10 z (.lst [.ref l])) y (.lst ((rs' ++ [l]).map V.ref)) = H12 at s12 hy ⊢
              have sall := ((s8.trans o9.sm).trans o10.sm).trans s12
              obtain ⟨l', c', e0, hl', cokl, ckl⟩ : ∃ l' c', atI ((rs' ++ [l]).map V.ref) 0 = some (.ref l') ∧ H12 l' = some (.lst (c'.map nV)) ∧ CutOk n gt c' ∧ c'.length ≤ k := by
                cases rs' with
                | nil => exact ⟨l, cut, at0, s12 _ _ hl10, cok8, ck8⟩
                | cons p0 r0 =>
                  obtain ⟨c', h1, h2, h3⟩ := pr10 p0 List.mem_cons_self
                  exact ⟨p0, c', at0, s12 _ _ (o10.sm _ _ h1), h2, h3⟩
              exact ⟨y, _, 0, _, rfl, rfl, SqL.of hy, e0, _, _, _, _, l', c', rfl, sall, hl', cokl, ckl⟩
        · rintro σ H8 ⟨x7, x8, x9, x10, l, cut, rfl, s8, hl8, cok8, ck8⟩
          have hd8 := s8 _ _ hd4
          refine ⟨_, rfl, l, rfl, ⟨_, SqL.of hl8⟩, ?_⟩
          refine for_list (K := K) (a := l) (xs := cut.map nV) (fun j σ H' => ∃ (x3 : Option V) (kvs' : List (L2.Key × V)), σ = [some (.ref a), some (nV k), some (.ref d), x3, some (.ref f0), some (nV gt), some (.ref l), x7, x8, x9, x10] ∧ Same H H' ∧ CovAt H' f0 cv qs ∧ H' l = some (.lst (cut.map nV)) ∧ H' d = some (.dK kvs') ∧ kvs'.length ≤ kvs.length + j ∧ ∀ x : Nat, (valV kvs' (nK x)).isSome = true ↔ (S x ∨ x ∈ cut.take j)) ⟨x3, kvs, rfl, s4.trans s8, cv4.same s8, hl8, hd8, Nat.le_refl _, fun x => by rw [km]; exact ⟨fun z => .inl z, fun z => by rcases z with z | z; exact z; cases z⟩⟩ ?_ ?_ ?_
          · rintro j σ H9 _ ⟨_, _, _, _, _, h, _⟩
            exact SqL.of h
          · rintro j x σ H9 hx ⟨x3, kvs', rfl, s9, cv9, hl9, hd9, kl9, km9⟩
            have hj : j < cut.length := by
              have := (List.getElem?_eq_some_iff.mp hx).1
              rwa [List.length_map] at this
            rw [natAt hj] at hx
            cases hx
            refine ⟨_, rfl, _, rfl, d, _, rfl, DPut.k (k := nK (cut.getD j 0)) hd9 (small256 (by omega)), ?_⟩
            have ld : l ≠ d := fun z => by rw [z, hd9] at hl9; cases hl9
            refine ⟨_, _, rfl, putA s9, cv9.mono (tupPutD hd9), by rw [upd_ne ld]; exact hl9, upd_same, by have := length_putK kvs' (nK (cut.getD j 0)) (.bl true); omega, fun x => ?_⟩
            rw [put_isSome, km9, List.take_add_one, List.mem_append, List.getElem?_eq_getElem hj, Option.toList_some, List.mem_singleton, List.getD_eq_getElem?_getD, List.getElem?_eq_getElem hj]
            show (x = cut[j] ∨ S x ∨ x ∈ cut.take j) ↔ (S x ∨ x ∈ cut.take j ∨ x = cut[j])
            constructor
            · rintro (h | h | h)
              · exact .inr (.inr h)
              · exact .inl h
              · exact .inr (.inl h)
            · rintro (h | h | h)
              · exact .inr (.inl h)
              · exact .inr (.inr h)
              · exact .inl h
          · rintro σ H9 ⟨x3, kvs', rfl, s9, cv9, hl9, hd9, kl9, km9⟩
            rw [List.length_map] at kl9 km9
            rw [List.take_length] at km9
            refine ⟨_, rfl, _, rfl, l, _, rfl, .inl ⟨SqL.of hl9, fun ca nca => ⟨small 2, fun t8 n8 => ⟨small 1, fun t9 n9 => ⟨_, rfl, ?_⟩⟩⟩⟩⟩
            have s10 := Same.new (o := .tup (cut.map nV)) nca
            have s11 := Same.new (o := .tup [nV gt, .ref ca]) n8
            have s12 := Same.new (o := .tup [.ref t8]) n9
            have sm3 := (s10.trans s11).trans s12
            have tb : TbAt (upd (upd (upd H9 ca (.tup (cut.map nV))) t8 (.tup [nV gt, .ref ca])) t9 (.tup [.ref t8])) t8 (gt, cut) := ⟨ca, s12 _ _ upd_same, s12 _ _ (s11 _ _ upd_same)⟩
            refine catA (K := K) (upd_same (H := upd (upd H9 ca (.tup (cut.map nV))) t8 (.tup [nV gt, .ref ca])) (a := t9) (o := .tup [.ref t8])) (sm3 _ _ cv9.top) (by rw [List.length_map, cv9.ts.1]; show 1 + cv.length ≤ sizeLine; exact small _ (by omega)) fun r10 H10 s13 h10 => ?_
            have sm4 := sm3.trans s13
            exact ⟨_, _, _, _, _, _, _, kvs', fun x => S x ∨ x ∈ cut, r10, (gt, cut) :: cv, t8 :: qs, rfl, s9.trans sm4, sm4 _ _ hd9, by omega, km9, ⟨h10, PtsAt.cons (cv9.ts.mono (TbAt.mono fun b xs e => sm4 _ _ e)) (TbAt.mono (fun b xs e => s13 _ _ e) _ _ tb)⟩, by show cv.length + 1 ≤ i + 1; omega, cto.add hgm hgw cok8 ck8 (fun z => by cases z)⟩
      · rintro σ H4 ⟨x3, x5, x6, x7, x8, x9, x10, kvs, S, f0, cv, qs, rfl, s4, hd4, kl, km, cv4, cl4, cto⟩
        have e : n.many + n.gates.length - (((n.many : Nat) : Int) + (((ps.map V.ref).length : Nat) : Int) - 1 - (((n.many : Nat) : Int) - 1)).toNat = n.many := by rw [List.length_map, N3.gs.1]; omega
        rw [e] at cto
        exact ⟨_, rfl, q f0 H4 cv qs cv4 cto.done s4⟩
end
end K44
set_option Elab.async false
set_option linter.all false
set_option maxRecDepth 100000
set_option maxHeartbeats 4000000
namespace K44
open PySem PySem.Spec PyProof.Rows L2 GX
open C8 (Cal pe_c pe_gc)
section
variable {P : Program} {w : World} {K : PySem.W.Frag} {mg : Str → Option Value} {base : Heap} {Ts : List Addr}
def spLaw (K : PySem.W.Frag) (Ts : List Addr) : Sp := fun vs H Q _ => ∃ (a : Addr) (ns : List Int), vs = [.ref a] ∧ SqL K H a (ns.map V.int) ∧ ns.length ≤ 63 ∧ Tabs Ts H ∧ ∀ H', Q (.bl true) H'
theorem ok_law {f c : Addr} {oc kV doc pm ct : Value} {od an : Option Addr} {osl : Array (Option Value)}
    (lk : K.lookup f = some ⟨oc, od, .func (PySem.W.fnOf "law" "law" (defArgs s_law) (defBody s_law) (defScope s_law) .none kV doc pm an (.ref c) ct), osl⟩) (hcd : PySem.W.codeIn K (.ref c) "law" = true) (T : Txt mg)
    (c__law_well : Cal P w K mg base 1 "_law_well" (spWell K) []) (c__law_take : Cal P w K mg base 1 "_law_take" spTake []) (c__law_net : Cal P w K mg base 3 "_law_net" spNet []) (c__law_cover : Cal P w K mg base 3 "_law_cover" spCover []) (c__law_wide : Cal P w K mg base 2 "_law_wide" spWide []) (c__law_due : Cal P w K mg base 2 "_law_due" spDue []) (c_doubled : Cal P w K mg base 4 "doubled" (spDoubled Ts) []) :
    FnOk P w K mg base L2.CX0 5 f (PySem.W.fnOf "law" "law" (defArgs s_law) (defBody s_law) (defScope s_law) .none kV doc pm an (.ref c) ct) ["_law_script"] (spLaw K Ts) := by
  refine fnok lk hcd sc_law (fun vs H Q E h => ?_) (fun A outer s H vs Q E hr h => ?_)
  · obtain ⟨a, ns, rfl, _⟩ := h
    rfl
  · obtain ⟨a, ns, rfl, hS, hlen, tb, q⟩ := h
    refine ⟨_, (pss_cons (ps_for PassesOwn.never rfl (pi_range1 (by rfl) T.b_range (pa_cons (pe_callB (call_max2 rfl) (by rfl) T.b_max (by decide +kernel) (pa_cons pe_int (pa_cons (pe_callB (call_min2 rfl) (by rfl) T.b_min (by decide +kernel) (pa_cons (pe_callB call_len_seq (by rfl) T.b_len (by decide +kernel) (pa_cons (pv 0) pa_nil)) (pa_cons pe_int pa_nil))) pa_nil))) pa_nil)) (pg_name (i := 1) sc_law.nd rfl (by first | exact Or.inl rfl | exact Or.inr rfl))
        (pss_cons (ps_set (i := 2) sc_law.nd rfl (by first | exact Or.inl rfl | exact Or.inr rfl) (pe_c c__law_well hr (by decide) (by rfl) (pa_cons (pv 0) (pa_cons (pv 1) pa_nil))))
      (pss_cons (ps_set (i := 3) sc_law.nd rfl (by first | exact Or.inl rfl | exact Or.inr rfl) (pe_op op_add pe_int (pe_c c__law_take hr (by decide) (by rfl) (pa_cons (pv 2) (pa_cons pe_int pa_nil)))))
      (pss_cons (ps_set (i := 4) sc_law.nd rfl (by first | exact Or.inl rfl | exact Or.inr rfl) (pe_c c__law_net hr (by decide) (by rfl) (pa_cons (pv 2) (pa_cons pe_int (pa_cons (pe_ix ix_list (pe_lst (pa_cons pe_int (pa_cons pe_int (pa_cons pe_int pa_nil)))) (pe_op op_sub (pv 3) pe_int) (fun _ _ => rfl)) pa_nil)))))
      (pss_one (ps_for PassesOwn.never rfl (pi_tup (pe_tup (pa_cons (pe_c c__law_cover hr (by decide) (by rfl) (pa_cons (pv 2) (pa_cons (pv 4) (pa_cons (pv 3) (pa_cons (pe_cmpR op_eq (pe_c c__law_take hr (by decide) (by rfl) (pa_cons (pv 2) (pa_cons pe_int pa_nil))) pe_int (nomark _)) pa_nil))))) (pa_cons (pe_c c__law_wide hr (by decide) (by rfl) (pa_cons (pv 4) (pa_cons (pv 3) pa_nil))) pa_nil)))) (pg_name (i := 5) sc_law.nd rfl (by first | exact Or.inl rfl | exact Or.inr rfl))
        (pss_one (ps_if (PW.pt (pw_or (pt_cmpR (op_neD hr.units) (pe_c c_doubled hr (by decide) (by rfl) (pa_cons (pv 4) (pa_cons (pv 5) pa_nil))) (pe_c c__law_due hr (by decide) (by rfl) (pa_cons (pv 4) (pa_cons (pv 5) pa_nil))) (nomark _)) (pw_or1 (pt_cmpR (op_neD hr.units) (pe_c c_doubled hr (by decide) (by rfl) (pa_cons (pv 4) (pa_cons (pv 5) pa_nil))) (pe_c c__law_due hr (by decide) (by rfl) (pa_cons (pv 4) (pa_cons (pv 5) pa_nil))) (nomark _))))) (pss_one (ps_ret pe_bl)) pss_nil))))))))
      (pss_one (ps_ret pe_bl))), ?_⟩
    refine ⟨_, rfl, a, _, rfl, .inl hS, _, _, rfl, _, _, rfl, _, rfl, ?_, ?_, ?_⟩
    · split <;> split <;> omega
    · rw [List.length_map]
      split <;> split <;> omega
    refine for_range (lo := 0) (fun i σ H' => ∃ x1 x2 x3 x4 x5, σ = [some (.ref a), x1, x2, x3, x4, x5] ∧ SqL K H' a (ns.map V.int) ∧ Tabs Ts H') ⟨none, none, none, none, none, rfl, hS, tb⟩ ?_ ?_
    · rintro i σ H1 hi ⟨x1, x2, x3, x4, x5, rfl, hS1, tb1⟩
      refine ⟨_, rfl, _, rfl, a, ns, i, (by rw [Int.zero_add]; rfl), hS1, fun W H2 nW w2 k2 => ?_⟩
      have d2 : Dk W Ts H1 H2 := ⟨w2, tb1.keep k2 (fun b hb => by cases hb), k2.mono fun b hb => by cases hb⟩
      refine ⟨_, rfl, W, 3, rfl, w2, by decide, by decide, fun wd H3 d0 d1 w3 k3 => ⟨_, _, rfl, rfl, ?_⟩⟩
      have d3 := d2.draw ⟨w3, k3⟩
      obtain ⟨kw, ekw, kw2, kw4⟩ : ∃ kw : Nat, 2 + wd = ((kw : Nat) : Int) ∧ 2 ≤ kw ∧ kw ≤ 4 := ⟨(2 + wd).toNat, by omega, by omega, by omega⟩
      dsimp -proj only
      rw [ekw]
      refine ⟨_, rfl, small 3, fun z4 nz4 => ⟨_, rfl, _, _, rfl, rfl, ?_⟩⟩
      have s4 := Same.new (o := .lst [.int 16, .int 16, .int 12]) nz4
      have d4 := d3.same s4
      obtain ⟨gm, hgm, gm16⟩ : ∃ gm : Nat, atI [V.int 16, V.int 16, V.int 12] (((kw : Nat) : Int) - 2) = some (nV gm) ∧ gm ≤ 16 := by
        have : kw = 2 ∨ kw = 3 ∨ kw = 4 := by omega
        rcases this with rfl | rfl | rfl
        · exact ⟨16, rfl, by decide⟩
        · exact ⟨16, rfl, by decide⟩
        · exact ⟨12, rfl, by decide⟩
      refine ⟨z4, _, _, _, rfl, rfl, SqL.of upd_same, hgm, W, 8, gm, rfl, d4.wl, by decide, by decide, gm16, fun an n g o ps H5 ok _ _ N k5 => ?_⟩
      have d5 := d4.draw k5
      have m8 := ok.m8
      have m1 := ok.m1
      have g16 := ok.g16
      -- the two covers
      refine ⟨_, rfl, _, rfl, _, rfl, _, rfl, W, 2, rfl, d5.wl, by decide, by decide, fun ln H6 l0 l1 w6 k6 => ⟨rfl, ?_⟩⟩
      have d6 := d5.draw ⟨w6, k6⟩
      have N6 := N.mono (k6.tups d5.wl.nt)
      refine ⟨W, an, n, g, o, ps, kw, _, rfl, w6, N6, ok, kw2, by omega, fun p7 H7 cv7 qs7 hcv7 cok7 _ k7 => ?_⟩
      have d7 := d6.draw k7
      have N7 := N6.mono (k7.kp.tups w6.nt)
      refine ⟨_, rfl, _, rfl, an, n, g, o, ps, kw, rfl, N7, ok, kw2, by omega, fun p8 H8 cv8 qs8 hcv8 cok8 s8 => ?_⟩
      have d8 := d7.same s8
      have N8 := N7.same s8
      refine ⟨small 2, fun tt ntt => ⟨tt, rfl, ⟨_, SqT.of upd_same⟩, ?_⟩⟩
      have s9 := Same.new (o := .tup [.ref p7, .ref p8]) ntt
      have d9 := d8.same s9
      have N9 := N8.same s9
      have hc7 := (hcv7.same s8).same s9
      have hc8 := hcv8.same s9
      have ht9 : upd H8 tt (.tup [.ref p7, .ref p8]) tt = some (.tup [.ref p7, .ref p8]) := upd_same
      generalize upd H8 tt (.tup [.ref p7, .ref p8]) = H9 at d9 N9 hc7 hc8 ht9 ⊢
      refine for_tup (K := K) (a := tt) (xs := [V.ref p7, V.ref p8]) (fun j σ H' => ∃ x5, σ = [some (.ref a), some (.int (0 + (i : Int))), some (.ref W), some (nV kw), some (.ref an), x5] ∧ Aft Ts H9 H') ⟨_, rfl, Aft.refl d9.tb⟩ ?_ ?_ ?_
      · rintro j σ H10 _ ⟨_, _, h⟩
        exact SqT.of (h.tup d9.tb ht9)
      · rintro j x σ H10 hx ⟨x5, rfl, a10⟩
        obtain ⟨p, cv, qs, rfl, hcv, cok⟩ : ∃ p cv qs, x = .ref p ∧ CovAt H9 p cv qs ∧ CovOk n kw cv := by
          have := List.mem_of_getElem? hx
          rcases List.mem_cons.mp this with h | h
          · exact ⟨_, _, _, h, hc7, cok7⟩
          · exact ⟨_, _, _, List.mem_singleton.mp h, hc8, cok8⟩
        have N10 := N9.aft d9.tb a10
        have cv10 := hcv.mono fun b xs e => a10.tup d9.tb e
        generalize hD : dblOf n cv = db
        have esame : ∀ {Hx : Hp} {u v : Addr}, Hx u = some (.tup (db.map nV)) → Hx v = some (.tup (db.map nV)) → Dp K Hx (.ref u) (.tuple ((db.map fun n : Nat => (n : Int)).map PyData.int)) ∧ Dp K Hx (.ref v) (.tuple ((db.map fun n : Nat => (n : Int)).map PyData.int)) := fun {Hx u v} h1 h2 => ⟨.tup (SqT.of h1) (dpNat K _ _), .tup (SqT.of h2) (dpNat K _ _)⟩
        have ee : PyData.eqv (.tuple ((db.map fun n : Nat => (n : Int)).map PyData.int)) (.tuple ((db.map fun n : Nat => (n : Int)).map PyData.int)) = true := SeqAt.eqv_refl _ (SeqAt.canLay_of_shaped (PySem.W.ke_shaped_ints _))
        refine ⟨_, rfl, _, rfl, an, p, n, g, o, ps, kw, cv, qs, rfl, N10, ok, cv10, cok, a10.tb, fun u1 H11 a11 hu1 => ?_⟩
        rw [hD] at hu1
        have N11 := N10.aft a10.tb a11
        have cv11 := cv10.mono fun b xs e => a11.tup a10.tb e
        refine ⟨_, rfl, _, rfl, an, p, n, g, o, ps, kw, cv, qs, rfl, N11, ok, cv11, cok, fun u2 H12 s12 hu2 => ?_⟩
        rw [hD] at hu2
        obtain ⟨e1, e2⟩ := esame (s12 _ _ hu1) hu2
        refine ⟨_, _, e1, e2, PySem.W.ke_shaped_ints _, PySem.W.ke_shaped_ints _, _, rfl, ?_⟩
        rw [ee]
        refine iteF ?_
        have tb12 := a11.tb.same s12
        have N12 := N11.same s12
        have cv12 := cv11.same s12
        refine ⟨_, rfl, _, rfl, an, p, n, g, o, ps, kw, cv, qs, rfl, N12, ok, cv12, cok, tb12, fun u3 H13 a13 hu3 => ?_⟩
        rw [hD] at hu3
        have N13 := N12.aft tb12 a13
        have cv13 := cv12.mono fun b xs e => a13.tup tb12 e
        refine ⟨_, rfl, _, rfl, an, p, n, g, o, ps, kw, cv, qs, rfl, N13, ok, cv13, cok, fun u4 H14 s14 hu4 => ?_⟩
        rw [hD] at hu4
        obtain ⟨e3, e4⟩ := esame (s14 _ _ hu3) hu4
        refine ⟨_, _, e3, e4, PySem.W.ke_shaped_ints _, PySem.W.ke_shaped_ints _, _, rfl, ?_⟩
        rw [ee]
        refine iteF ?_
        exact ⟨_, rfl, (((a10.trans a11).trans (Aft.ofSame a11.tb s12)).trans a13).trans (Aft.ofSame a13.tb s14)⟩
      · rintro σ H10 ⟨x5, rfl, a10⟩
        have d10 := d9.aft a10
        exact ⟨_, _, _, _, _, rfl, sq_keep hS1 tb1 d10.kp nW, a10.tb⟩
    · rintro σ H1 _
      exact q H1
end
/-! ### what the top has written -/
theorem all_mk {l : PySem.W.OpenLaw} {w : World} {K : PySem.W.Frag} {h : Heap} {mg : Str → Option Value} {fa : Addr} (X : K.In h) (G : h.Ns mainGlobals mg) (hfa : mg "law" = some (.ref fa))
    {f0 c0 : Addr} {od0 an0 : Option Addr} {sl0 : Array (Option Value)} {oc0 kV0 dc0 pm0 ct0 : Value}
    (a0 : PySem.W.nsIn K mainGlobals "wires_in" = some (some (.ref f0))) (l0 : K.lookup f0 = some ⟨oc0, od0, .func (PySem.W.fnOf "wires_in" "wires_in" (defArgs s_wires_in) (defBody s_wires_in) (defScope s_wires_in) .none kV0 dc0 pm0 an0 (.ref c0) ct0), sl0⟩) (e0 : PySem.W.codeIn K (.ref c0) "wires_in" = true) (k0 : PySem.W.keepIn K (.ref f0) = true)
    {f1 c1 : Addr} {od1 an1 : Option Addr} {sl1 : Array (Option Value)} {oc1 kV1 dc1 pm1 ct1 : Value}
    (a1 : PySem.W.nsIn K mainGlobals "places" = some (some (.ref f1))) (l1 : K.lookup f1 = some ⟨oc1, od1, .func (PySem.W.fnOf "places" "places" (defArgs s_places) (defBody s_places) (defScope s_places) .none kV1 dc1 pm1 an1 (.ref c1) ct1), sl1⟩) (e1 : PySem.W.codeIn K (.ref c1) "places" = true) (k1 : PySem.W.keepIn K (.ref f1) = true)
    {f2 c2 : Addr} {od2 an2 : Option Addr} {sl2 : Array (Option Value)} {oc2 kV2 dc2 pm2 ct2 : Value}
    (a2 : PySem.W.nsIn K mainGlobals "reached" = some (some (.ref f2))) (l2 : K.lookup f2 = some ⟨oc2, od2, .func (PySem.W.fnOf "reached" "reached" (defArgs s_reached) (defBody s_reached) (defScope s_reached) .none kV2 dc2 pm2 an2 (.ref c2) ct2), sl2⟩) (e2 : PySem.W.codeIn K (.ref c2) "reached" = true) (k2 : PySem.W.keepIn K (.ref f2) = true)
    {P2 : Addr} {dd2 : Option Addr} {vs2 : Array Value} {ls2 : Array (Option Value)} {fl2 : Str} {tf2 tg2 tt2 : Tok} {fg2 tx2 : Int} {iF2 : Bool}
    (o2 : K.lookup c2 = some ⟨.type "code", dd2, .fields vs2, ls2⟩) (h2 : vs2[11]? = some (.ref P2) ∧ vs2.getD 11 .none = .ref P2 ∧ vs2.getD 18 .none = .str fl2 tf2 ∧ vs2.getD 7 .none = .int fg2 tg2 ∧ vs2.getD 9 .none = .bool iF2 ∧ vs2.getD 10 .none = .int tx2 tt2 ∧ c2 ≠ P2) (n2 : K.lookup P2 = none) (y2 : TabOf K mg h "reached")
    {f3 c3 : Addr} {od3 an3 : Option Addr} {sl3 : Array (Option Value)} {oc3 kV3 dc3 pm3 ct3 : Value}
    (a3 : PySem.W.nsIn K mainGlobals "inside" = some (some (.ref f3))) (l3 : K.lookup f3 = some ⟨oc3, od3, .func (PySem.W.fnOf "inside" "inside" (defArgs s_inside) (defBody s_inside) (defScope s_inside) .none kV3 dc3 pm3 an3 (.ref c3) ct3), sl3⟩) (e3 : PySem.W.codeIn K (.ref c3) "inside" = true) (k3 : PySem.W.keepIn K (.ref f3) = true)
    {P3 : Addr} {dd3 : Option Addr} {vs3 : Array Value} {ls3 : Array (Option Value)} {fl3 : Str} {tf3 tg3 tt3 : Tok} {fg3 tx3 : Int} {iF3 : Bool}
    (o3 : K.lookup c3 = some ⟨.type "code", dd3, .fields vs3, ls3⟩) (h3 : vs3[11]? = some (.ref P3) ∧ vs3.getD 11 .none = .ref P3 ∧ vs3.getD 18 .none = .str fl3 tf3 ∧ vs3.getD 7 .none = .int fg3 tg3 ∧ vs3.getD 9 .none = .bool iF3 ∧ vs3.getD 10 .none = .int tx3 tt3 ∧ c3 ≠ P3) (n3 : K.lookup P3 = none) (y3 : TabOf K mg h "inside")
    {f4 c4 : Addr} {od4 an4 : Option Addr} {sl4 : Array (Option Value)} {oc4 kV4 dc4 pm4 ct4 : Value}
    (a4 : PySem.W.nsIn K mainGlobals "doubled" = some (some (.ref f4))) (l4 : K.lookup f4 = some ⟨oc4, od4, .func (PySem.W.fnOf "doubled" "doubled" (defArgs s_doubled) (defBody s_doubled) (defScope s_doubled) .none kV4 dc4 pm4 an4 (.ref c4) ct4), sl4⟩) (e4 : PySem.W.codeIn K (.ref c4) "doubled" = true) (k4 : PySem.W.keepIn K (.ref f4) = true)
    {P4 : Addr} {dd4 : Option Addr} {vs4 : Array Value} {ls4 : Array (Option Value)} {fl4 : Str} {tf4 tg4 tt4 : Tok} {fg4 tx4 : Int} {iF4 : Bool}
    (o4 : K.lookup c4 = some ⟨.type "code", dd4, .fields vs4, ls4⟩) (h4 : vs4[11]? = some (.ref P4) ∧ vs4.getD 11 .none = .ref P4 ∧ vs4.getD 18 .none = .str fl4 tf4 ∧ vs4.getD 7 .none = .int fg4 tg4 ∧ vs4.getD 9 .none = .bool iF4 ∧ vs4.getD 10 .none = .int tx4 tt4 ∧ c4 ≠ P4) (n4 : K.lookup P4 = none) (y4 : TabOf K mg h "doubled")
    {f5 c5 : Addr} {od5 an5 : Option Addr} {sl5 : Array (Option Value)} {oc5 kV5 dc5 pm5 ct5 : Value}
    (a5 : PySem.W.nsIn K mainGlobals "_law_well" = some (some (.ref f5))) (l5 : K.lookup f5 = some ⟨oc5, od5, .func (PySem.W.fnOf "_law_well" "_law_well" (defArgs s__law_well) (defBody s__law_well) (defScope s__law_well) .none kV5 dc5 pm5 an5 (.ref c5) ct5), sl5⟩) (e5 : PySem.W.codeIn K (.ref c5) "_law_well" = true) (k5 : PySem.W.keepIn K (.ref f5) = true)
    {f6 c6 : Addr} {od6 an6 : Option Addr} {sl6 : Array (Option Value)} {oc6 kV6 dc6 pm6 ct6 : Value}
    (a6 : PySem.W.nsIn K mainGlobals "_law_take" = some (some (.ref f6))) (l6 : K.lookup f6 = some ⟨oc6, od6, .func (PySem.W.fnOf "_law_take" "_law_take" (defArgs s__law_take) (defBody s__law_take) (defScope s__law_take) .none kV6 dc6 pm6 an6 (.ref c6) ct6), sl6⟩) (e6 : PySem.W.codeIn K (.ref c6) "_law_take" = true) (k6 : PySem.W.keepIn K (.ref f6) = true)
    {f7 c7 : Addr} {od7 an7 : Option Addr} {sl7 : Array (Option Value)} {oc7 kV7 dc7 pm7 ct7 : Value}
    (a7 : PySem.W.nsIn K mainGlobals "_law_place" = some (some (.ref f7))) (l7 : K.lookup f7 = some ⟨oc7, od7, .func (PySem.W.fnOf "_law_place" "_law_place" (defArgs s__law_place) (defBody s__law_place) (defScope s__law_place) .none kV7 dc7 pm7 an7 (.ref c7) ct7), sl7⟩) (e7 : PySem.W.codeIn K (.ref c7) "_law_place" = true) (k7 : PySem.W.keepIn K (.ref f7) = true)
    {f8 c8 : Addr} {od8 an8 : Option Addr} {sl8 : Array (Option Value)} {oc8 kV8 dc8 pm8 ct8 : Value}
    (a8 : PySem.W.nsIn K mainGlobals "_law_net" = some (some (.ref f8))) (l8 : K.lookup f8 = some ⟨oc8, od8, .func (PySem.W.fnOf "_law_net" "_law_net" (defArgs s__law_net) (defBody s__law_net) (defScope s__law_net) .none kV8 dc8 pm8 an8 (.ref c8) ct8), sl8⟩) (e8 : PySem.W.codeIn K (.ref c8) "_law_net" = true) (k8 : PySem.W.keepIn K (.ref f8) = true)
    {f9 c9 : Addr} {od9 an9 : Option Addr} {sl9 : Array (Option Value)} {oc9 kV9 dc9 pm9 ct9 : Value}
    (a9 : PySem.W.nsIn K mainGlobals "_law_opened" = some (some (.ref f9))) (l9 : K.lookup f9 = some ⟨oc9, od9, .func (PySem.W.fnOf "_law_opened" "_law_opened" (defArgs s__law_opened) (defBody s__law_opened) (defScope s__law_opened) .none kV9 dc9 pm9 an9 (.ref c9) ct9), sl9⟩) (e9 : PySem.W.codeIn K (.ref c9) "_law_opened" = true) (k9 : PySem.W.keepIn K (.ref f9) = true)
    {f10 c10 : Addr} {od10 an10 : Option Addr} {sl10 : Array (Option Value)} {oc10 kV10 dc10 pm10 ct10 : Value}
    (a10 : PySem.W.nsIn K mainGlobals "_law_some_cut" = some (some (.ref f10))) (l10 : K.lookup f10 = some ⟨oc10, od10, .func (PySem.W.fnOf "_law_some_cut" "_law_some_cut" (defArgs s__law_some_cut) (defBody s__law_some_cut) (defScope s__law_some_cut) .none kV10 dc10 pm10 an10 (.ref c10) ct10), sl10⟩) (e10 : PySem.W.codeIn K (.ref c10) "_law_some_cut" = true) (k10 : PySem.W.keepIn K (.ref f10) = true)
    {f11 c11 : Addr} {od11 an11 : Option Addr} {sl11 : Array (Option Value)} {oc11 kV11 dc11 pm11 ct11 : Value}
    (a11 : PySem.W.nsIn K mainGlobals "_law_cover" = some (some (.ref f11))) (l11 : K.lookup f11 = some ⟨oc11, od11, .func (PySem.W.fnOf "_law_cover" "_law_cover" (defArgs s__law_cover) (defBody s__law_cover) (defScope s__law_cover) .none kV11 dc11 pm11 an11 (.ref c11) ct11), sl11⟩) (e11 : PySem.W.codeIn K (.ref c11) "_law_cover" = true) (k11 : PySem.W.keepIn K (.ref f11) = true)
    {f12 c12 : Addr} {od12 an12 : Option Addr} {sl12 : Array (Option Value)} {oc12 kV12 dc12 pm12 ct12 : Value}
    (a12 : PySem.W.nsIn K mainGlobals "_law_within" = some (some (.ref f12))) (l12 : K.lookup f12 = some ⟨oc12, od12, .func (PySem.W.fnOf "_law_within" "_law_within" (defArgs s__law_within) (defBody s__law_within) (defScope s__law_within) .none kV12 dc12 pm12 an12 (.ref c12) ct12), sl12⟩) (e12 : PySem.W.codeIn K (.ref c12) "_law_within" = true) (k12 : PySem.W.keepIn K (.ref f12) = true)
    {f13 c13 : Addr} {od13 an13 : Option Addr} {sl13 : Array (Option Value)} {oc13 kV13 dc13 pm13 ct13 : Value}
    (a13 : PySem.W.nsIn K mainGlobals "_law_due" = some (some (.ref f13))) (l13 : K.lookup f13 = some ⟨oc13, od13, .func (PySem.W.fnOf "_law_due" "_law_due" (defArgs s__law_due) (defBody s__law_due) (defScope s__law_due) .none kV13 dc13 pm13 an13 (.ref c13) ct13), sl13⟩) (e13 : PySem.W.codeIn K (.ref c13) "_law_due" = true) (k13 : PySem.W.keepIn K (.ref f13) = true)
    {f14 c14 : Addr} {od14 an14 : Option Addr} {sl14 : Array (Option Value)} {oc14 kV14 dc14 pm14 ct14 : Value}
    (a14 : PySem.W.nsIn K mainGlobals "_law_wide" = some (some (.ref f14))) (l14 : K.lookup f14 = some ⟨oc14, od14, .func (PySem.W.fnOf "_law_wide" "_law_wide" (defArgs s__law_wide) (defBody s__law_wide) (defScope s__law_wide) .none kV14 dc14 pm14 an14 (.ref c14) ct14), sl14⟩) (e14 : PySem.W.codeIn K (.ref c14) "_law_wide" = true) (k14 : PySem.W.keepIn K (.ref f14) = true)
    {f15 c15 : Addr} {od15 an15 : Option Addr} {sl15 : Array (Option Value)} {oc15 kV15 dc15 pm15 ct15 : Value}
    (a15 : PySem.W.nsIn K mainGlobals "law" = some (some (.ref f15))) (l15 : K.lookup f15 = some ⟨oc15, od15, .func (PySem.W.fnOf "law" "law" (defArgs s_law) (defBody s_law) (defScope s_law) .none kV15 dc15 pm15 an15 (.ref c15) ct15), sl15⟩) (e15 : PySem.W.codeIn K (.ref c15) "law" = true) (k15 : PySem.W.keepIn K (.ref f15) = true)
    (z_dict : PySem.W.nsIn K mainGlobals "dict" = some none) (z_enumerate : PySem.W.nsIn K mainGlobals "enumerate" = some none) (z_int : PySem.W.nsIn K mainGlobals "int" = some none) (z_len : PySem.W.nsIn K mainGlobals "len" = some none) (z_list : PySem.W.nsIn K mainGlobals "list" = some none) (z_max : PySem.W.nsIn K mainGlobals "max" = some none) (z_min : PySem.W.nsIn K mainGlobals "min" = some none) (z_range : PySem.W.nsIn K mainGlobals "range" = some none) (z_set : PySem.W.nsIn K mainGlobals "set" = some none) (z_sorted : PySem.W.nsIn K mainGlobals "sorted" = some none) (z_tuple : PySem.W.nsIn K mainGlobals "tuple" = some none) : LamX.LawAtS l w K L2.CX0 5 63 "_law_script" mg fa h := by
  have e := hfa.symm.trans (PySem.W.mg_of X G a15)
  cases e
  have D_wires_in : Dfn K mg "wires_in" s_wires_in f0 c0 := ⟨⟨_, _, _, _, _, _, _, _, l0⟩, e0, k0, PySem.W.mg_of X G a0⟩
  have D_places : Dfn K mg "places" s_places f1 c1 := ⟨⟨_, _, _, _, _, _, _, _, l1⟩, e1, k1, PySem.W.mg_of X G a1⟩
  have D_reached : Dfn K mg "reached" s_reached f2 c2 := ⟨⟨_, _, _, _, _, _, _, _, l2⟩, e2, k2, PySem.W.mg_of X G a2⟩
  have D_inside : Dfn K mg "inside" s_inside f3 c3 := ⟨⟨_, _, _, _, _, _, _, _, l3⟩, e3, k3, PySem.W.mg_of X G a3⟩
  have D_doubled : Dfn K mg "doubled" s_doubled f4 c4 := ⟨⟨_, _, _, _, _, _, _, _, l4⟩, e4, k4, PySem.W.mg_of X G a4⟩
  have D__law_well : Dfn K mg "_law_well" s__law_well f5 c5 := ⟨⟨_, _, _, _, _, _, _, _, l5⟩, e5, k5, PySem.W.mg_of X G a5⟩
  have D__law_take : Dfn K mg "_law_take" s__law_take f6 c6 := ⟨⟨_, _, _, _, _, _, _, _, l6⟩, e6, k6, PySem.W.mg_of X G a6⟩
  have D__law_place : Dfn K mg "_law_place" s__law_place f7 c7 := ⟨⟨_, _, _, _, _, _, _, _, l7⟩, e7, k7, PySem.W.mg_of X G a7⟩
  have D__law_net : Dfn K mg "_law_net" s__law_net f8 c8 := ⟨⟨_, _, _, _, _, _, _, _, l8⟩, e8, k8, PySem.W.mg_of X G a8⟩
  have D__law_opened : Dfn K mg "_law_opened" s__law_opened f9 c9 := ⟨⟨_, _, _, _, _, _, _, _, l9⟩, e9, k9, PySem.W.mg_of X G a9⟩
  have D__law_some_cut : Dfn K mg "_law_some_cut" s__law_some_cut f10 c10 := ⟨⟨_, _, _, _, _, _, _, _, l10⟩, e10, k10, PySem.W.mg_of X G a10⟩
  have D__law_cover : Dfn K mg "_law_cover" s__law_cover f11 c11 := ⟨⟨_, _, _, _, _, _, _, _, l11⟩, e11, k11, PySem.W.mg_of X G a11⟩
  have D__law_within : Dfn K mg "_law_within" s__law_within f12 c12 := ⟨⟨_, _, _, _, _, _, _, _, l12⟩, e12, k12, PySem.W.mg_of X G a12⟩
  have D__law_due : Dfn K mg "_law_due" s__law_due f13 c13 := ⟨⟨_, _, _, _, _, _, _, _, l13⟩, e13, k13, PySem.W.mg_of X G a13⟩
  have D__law_wide : Dfn K mg "_law_wide" s__law_wide f14 c14 := ⟨⟨_, _, _, _, _, _, _, _, l14⟩, e14, k14, PySem.W.mg_of X G a14⟩
  have T : Txt mg := ⟨PySem.W.mg_none_of X G z_dict, PySem.W.mg_none_of X G z_enumerate, PySem.W.mg_none_of X G z_int, PySem.W.mg_none_of X G z_len, PySem.W.mg_none_of X G z_list, PySem.W.mg_none_of X G z_max, PySem.W.mg_none_of X G z_min, PySem.W.mg_none_of X G z_range, PySem.W.mg_none_of X G z_set, PySem.W.mg_none_of X G z_sorted, PySem.W.mg_none_of X G z_tuple⟩
  refine ⟨(PySem.W.fnOf "law" "law" (defArgs s_law) (defBody s_law) (defScope s_law) .none kV15 dc15 pm15 an15 (.ref c15) ct15), [(c2, P2), (c3, P3), (c4, P4)], spLaw K ([(c2, P2), (c3, P3), (c4, P4)].map (·.2)), ?t0, ?t1, ?t2, fun s v => .of_eq rfl, fun H a ns hl _ hH hS => ⟨a, ns, rfl, hS, hl, fun p hp => ?t3, fun _ => rfl⟩, fun base _ _ TB => ?t4⟩
  case t0 => 
    intro p hp
    simp only [List.mem_cons, List.not_mem_nil, or_false] at hp
    rcases hp with rfl | rfl | rfl
    · exact y2 f2 c2 P2 _ _ _ _ _ _ (PySem.W.mg_of X G a2) l2 rfl rfl o2 h2.1
    · exact y3 f3 c3 P3 _ _ _ _ _ _ (PySem.W.mg_of X G a3) l3 rfl rfl o3 h3.1
    · exact y4 f4 c4 P4 _ _ _ _ _ _ (PySem.W.mg_of X G a4) l4 rfl rfl o4 h4.1
  case t1 => 
    intro p hp
    simp only [List.mem_cons, List.not_mem_nil, or_false] at hp
    rcases hp with rfl | rfl | rfl
    · exact n2
    · exact n3
    · exact n4
  case t2 => 
    intro p hp
    simp only [List.mem_cons, List.not_mem_nil, or_false] at hp
    rcases hp with rfl | rfl | rfl
    · exact codeHd_of X o2 h2
    · exact codeHd_of X o3 h3
    · exact codeHd_of X o4 h4
  case t3 =>
    obtain ⟨pr, hpr, rfl⟩ := List.mem_map.mp hp
    exact ⟨#[], hH pr hpr, trivial⟩
  case t4 =>
    have TR := tabB_of (TB (c2, P2) (by simp))
    have TI := tabB_of (TB (c3, P3) (by simp))
    have TD := tabB_of (TB (c4, P4) (by simp))
    have ctake := ok_take (P := l.prog) (w := w) (base := base) D__law_take
    have cnet := ok_net D__law_net T ctake (ok_place D__law_place T ctake)
    have copened := ok_opened (P := l.prog) (w := w) (base := base) D__law_opened T
    have ccover := ok_cover D__law_cover T ctake (ok_somecut D__law_some_cut T ctake copened)
    have cwires := ok_wires (P := l.prog) (w := w) (base := base) D_wires_in T
    have cplaces := ok_places (P := l.prog) (w := w) (base := base) D_places
    have creached := ok_reached (Ts := [(c2, P2), (c3, P3), (c4, P4)].map (·.2)) D_reached T cwires cplaces TR (by simp)
    have cinside := ok_inside D_inside T creached TI (by simp)
    have cdoubled := ok_doubled D_doubled T cinside TD (by simp)
    exact ok_law l15 e15 T (ok_well D__law_well T) ctake cnet ccover (ok_wide D__law_wide T copened) (ok_due D__law_due T (ok_within D__law_within T)) cdoubled
end K44
open PySem PySem.W PyProof.Rows
set_option maxRecDepth 100000 in
set_option maxHeartbeats 0 in
theorem PySem.Challenge.cw_tablecover_k44_gates_doubled_holds : PySem.Challenge.rw_tablecover_k44_gates_doubled.Holds := by
  w_on; o_law; k_head; (case hw => w_witness2)
  k_fill
  refine GX.walk_defs (l := PySem.Challenge.rw_tablecover_k44_gates_doubled) (n := 63) (k := 5) (x := "_law_script") (CX := fun _ => L2.CX0) rfl (by decide) rfl ⟨rfl, by decide, by decide⟩ (fun w h Y => PySem.W.kIn_of Y) ?F (fun _ _ _ _ _ h => h)
  case F =>
    intro w mg fa h Y KX G hmg TF
    refine' K44.all_mk KX G hmg ?a0 ?l0 ?e0 ?k0 ?a1 ?l1 ?e1 ?k1 ?a2 ?l2 ?e2 ?k2 ?o2 ?h2 ?n2 ?y2 ?a3 ?l3 ?e3 ?k3 ?o3 ?h3 ?n3 ?y3 ?a4 ?l4 ?e4 ?k4 ?o4 ?h4 ?n4 ?y4 ?a5 ?l5 ?e5 ?k5 ?a6 ?l6 ?e6 ?k6 ?a7 ?l7 ?e7 ?k7 ?a8 ?l8 ?e8 ?k8 ?a9 ?l9 ?e9 ?k9 ?a10 ?l10 ?e10 ?k10 ?a11 ?l11 ?e11 ?k11 ?a12 ?l12 ?e12 ?k12 ?a13 ?l13 ?e13 ?k13 ?a14 ?l14 ?e14 ?k14 ?a15 ?l15 ?e15 ?k15 ?z_dict ?z_enumerate ?z_int ?z_len ?z_list ?z_max ?z_min ?z_range ?z_set ?z_sorted ?z_tuple
    (case a0 => k_is)
    (case l0 => k_is)
    (case e0 => k_is)
    (case k0 => k_is)
    (case a1 => k_is)
    (case l1 => k_is)
    (case e1 => k_is)
    (case k1 => k_is)
    (case a2 => k_is)
    (case l2 => k_is)
    (case e2 => k_is)
    (case k2 => k_is)
    (case o2 => k_is)
    (case h2 => exact ⟨rfl, rfl, rfl, rfl, rfl, rfl, by decide⟩)
    (case n2 => rfl)
    (case y2 => exact TF _ (by decide +kernel))
    (case a3 => k_is)
    (case l3 => k_is)
    (case e3 => k_is)
    (case k3 => k_is)
    (case o3 => k_is)
    (case h3 => exact ⟨rfl, rfl, rfl, rfl, rfl, rfl, by decide⟩)
    (case n3 => rfl)
    (case y3 => exact TF _ (by decide +kernel))
    (case a4 => k_is)
    (case l4 => k_is)
    (case e4 => k_is)
    (case k4 => k_is)
    (case o4 => k_is)
    (case h4 => exact ⟨rfl, rfl, rfl, rfl, rfl, rfl, by decide⟩)
    (case n4 => rfl)
    (case y4 => exact TF _ (by decide +kernel))
    (case a5 => k_is)
    (case l5 => k_is)
    (case e5 => k_is)
    (case k5 => k_is)
    (case a6 => k_is)
    (case l6 => k_is)
    (case e6 => k_is)
    (case k6 => k_is)
    (case a7 => k_is)
    (case l7 => k_is)
    (case e7 => k_is)
    (case k7 => k_is)
    (case a8 => k_is)
    (case l8 => k_is)
    (case e8 => k_is)
    (case k8 => k_is)
    (case a9 => k_is)
    (case l9 => k_is)
    (case e9 => k_is)
    (case k9 => k_is)
    (case a10 => k_is)
    (case l10 => k_is)
    (case e10 => k_is)
    (case k10 => k_is)
    (case a11 => k_is)
    (case l11 => k_is)
    (case e11 => k_is)
    (case k11 => k_is)
    (case a12 => k_is)
    (case l12 => k_is)
    (case e12 => k_is)
    (case k12 => k_is)
    (case a13 => k_is)
    (case l13 => k_is)
    (case e13 => k_is)
    (case k13 => k_is)
    (case a14 => k_is)
    (case l14 => k_is)
    (case e14 => k_is)
    (case k14 => k_is)
    (case a15 => k_is)
    (case l15 => k_is)
    (case e15 => k_is)
    (case k15 => k_is)
    (case z_dict => k_is)
    (case z_enumerate => k_is)
    (case z_int => k_is)
    (case z_len => k_is)
    (case z_list => k_is)
    (case z_max => k_is)
    (case z_min => k_is)
    (case z_range => k_is)
    (case z_set => k_is)
    (case z_sorted => k_is)
    (case z_tuple => k_is)
