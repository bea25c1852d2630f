import PyProof.Rows.All
import Wide.All
import OpenK.AllK
import Wide.FinOn
import HandS.ForMost
import HandS.AnyAll
import HandS.GenList
import PyProof.TupleOfGen
import HandS.Walk
import HandS.Codes
import HandS.TupAny
import HandS.IsInst
import HandS.EndTab
import HandS.Wide
import HandS.Conv
import HandS.TupMul
import HandS.Dict
import PySem.Challenge.RW_tablecover_k04_whole_all_rows
set_option Elab.async false
set_option linter.all false
set_option maxRecDepth 100000
set_option maxHeartbeats 4000000
/-! Generator expressions as arguments of all, any, tuple, over the hand layer: the element may call, make objects, hold further generator expressions. -/
namespace GX
open PySem PySem.Spec PyProof.Rows L2 GenW

/-- the frame of a generator expression made in the state s; A0: what runs around it while it runs -/
abbrev gcx (X : Cx) (A0 : Around) (s : Shared) (H : Hp) (scope : Scope) (code : Value) (fp : List Addr) : Cx :=
  { X with
    A := A0.deeper (genEnv scope (cloFrom X.env.cells scope.names []) s.heap.objs.size code builtinsNs X.env)
    s_0 := s
    H_0 := H
    env := genEnv scope (cloFrom X.env.cells scope.names []) s.heap.objs.size code builtinsNs X.env
    outer := X.stack
    stack := genEnv scope (cloFrom X.env.cells scope.names []) s.heap.objs.size code builtinsNs X.env :: X.stack
    ex := fp
    fn := fun _ => false
    calm := true
    pn := []
    xe := fun _ _ => False }

/-- the names of the generator expression's scope -/
structure GxOk (N : List Str) (sc scope : Scope) (own : List (Str × Nat)) : Prop where
  blk : BlkOk N sc scope own
  co : scope.isCoroutine = false
  cell : ∀ y ∈ scope.names, y.2 ≠ .cell
  dot : scope.names.lookup (".0" : Str) = some NameKind.local

section
variable {X : Cx} {pins : List (Addr × Obj)} {σ : L2.St} {H : Hp} {s : Shared}
theorem gen_start {A0 : Around} {scope : Scope} {own : List (Str × Nat)} {fp : List Addr} {code : Value} {h5 : Heap} {g5 : Array GenState} {t5 : Nat} {m : Str → Option Value}
    (I : Inv X pins σ H s) (ok : GxOk X.N X.env.scope scope own) (hN : X.N.Nodup) (hfp : ∀ b ∈ fp, FpOk X pins H b ∧ b < s.heap.objs.size)
    (hh : A0.handled = none) (hfr : A0.frames = some X.stack)
    (hn : h5.Ns s.heap.objs.size m) (kp : ∀ b o, s.heap.get? b = some o → h5.get? b = some o) (hg : AllBare g5) :
    Inv (gcx X A0 s H scope code fp) [] (wipe σ (own.map (·.2))) H { s with heap := h5, gens := g5, toks := t5 } := by
  have hfree : ∀ y ∈ scope.names, y.2 = .free → ∃ c, X.env.cells.lookup y.1 = some c := fun y hy e => by
    rcases ok.blk.free y hy e with k | k
    · exact I.ok.has _ (.inl k)
    · exact I.ok.has _ (.inr k)
  have cm : ∀ {y c}, (cloFrom X.env.cells scope.names []).lookup y = some c → X.env.cells.lookup y = some c ∧ c < s.heap.objs.size ∧ scope.names.lookup y = some .free := fun {y c} hl => by
    rcases cloFrom_mem (PySem.mem_of_lookup hl) with hm | ⟨h1, rfl⟩
    · cases hm
    · obtain ⟨c, hc⟩ := hfree _ h1 rfl
      rw [hc]
      obtain ⟨w, z⟩ := I.cell _ _ hc
      exact ⟨rfl, z.lt, ok.blk.uniq _ h1⟩
  have look : ∀ {y}, scope.names.lookup y = some .free → ∃ c, (cloFrom X.env.cells scope.names []).lookup y = some c ∧ X.env.cells.lookup y = some c := fun {y} hl => by
    have hy : (y, NameKind.free) ∈ scope.names := PySem.mem_of_lookup hl
    obtain ⟨c', e'⟩ := mem_lookup (cloFrom_has (cells := X.env.cells) (acc := []) hy)
    exact ⟨c', e', (cm e').1⟩
  have okB : (gcx X A0 s H scope code fp).Ok := by
    refine ⟨I.ok.mod, ok.blk.kind, I.ok.glob, rfl, Nat.le_refl _, fun y z c e1 e2 => ?_, fun y hy => ?_, fun y c z e => (by cases z), fun _ => hh, Around.frames_deeper hfr, .inr ⟨rfl, rfl⟩,
      fun b hb => ⟨Nat.ne_of_lt (hfp b hb).2, fun y c e z => ?_⟩, I.bs, Nat.le_trans I.ok.bsz I.sz, fun b o e hb => ?_, fun b hb z => ?_, I.stack, I.stkFree⟩
    · exact I.ok.inj y z c (cm e1).1 (cm e2).1
    · rcases hy with hy | hy
      · exact absurd rfl (ok.cell _ (PySem.mem_of_lookup hy))
      · obtain ⟨c, h1, _⟩ := look hy
        exact ⟨c, h1⟩
    · exact (hfp b hb).1.2.2.2.2.1 y c (cm e).1 z
    · rcases (hfp b hb).1.2.2.2.1 with z | z
      · exact I.ok.noex b o e z
      · exact absurd (Nat.lt_of_lt_of_le (Heap.lt_size e) (Nat.le_trans I.ok.bsz z)) (Nat.lt_irrefl _)
    · rcases List.mem_cons.mp (I.stkSub b z) with z | z
      · exact (hfp b hb).1.2.1 z
      · exact (hfp b hb).1.2.2.1 z
  refine ⟨okB, rfl, hg, Un.kept kp, ⟨m, hn, fun i y av e1 e2 e3 => ?_⟩, fun y c e => ?_, I.hok.fresh (Nat.le_refl _), fun y c e => I.freeC y c (cm e).1, fun p hp => absurd (show p ∈ ([] : List (Addr × Obj)) ++ [] from hp) (by simp), I.hok.kept kp, by rw [wipe_length]; exact I.len⟩
  · obtain ⟨e2, hne⟩ := wipe_some e2
    have no : ∀ k, scope.names.lookup y = some k → ¬ (k = .local ∨ k = .cell) := fun k e hh => by
      rcases ok.blk.own _ (PySem.mem_of_lookup e) hh with e' | e'
      · obtain ⟨p, hp, hpy⟩ := List.mem_map.mp e'
        have e3 := ok.blk.ix p hp
        have : p.1 = y := hpy
        rw [this] at e3
        exact hne (List.mem_map.mpr ⟨p, hp, nodup_ix hN e3 e1⟩)
      · exact e' (List.mem_of_getElem? e1)
    have hfr : scope.names.lookup y = some .free := by
      rcases e3 with e3 | e3 | e3
      · exact absurd (.inl rfl) (no _ e3)
      · exact absurd (.inr rfl) (no _ e3)
      · exact e3
    obtain ⟨m', hn', hl⟩ := I.loc
    have hvis : Vis X.env.scope y := (ok.blk.free _ (PySem.mem_of_lookup hfr) rfl).elim (fun k => .inr (.inl k)) (fun k => .inr (.inr k))
    obtain ⟨w, r, q⟩ := hl i y av e1 e2 hvis
    refine ⟨w, r, .inr ⟨.inr hfr, ?_⟩⟩
    obtain ⟨c, h1, h2⟩ := look hfr
    rcases q with ⟨k, _⟩ | ⟨_, c', e', z⟩
    · have k : X.env.scope.names.lookup y = some .local := k
      rcases ok.blk.free _ (PySem.mem_of_lookup hfr) rfl with k' | k' <;> rw [show X.env.scope.names.lookup y = _ from k'] at k <;> cases k
    · rw [h2] at e'; cases e'
      exact ⟨c, h1, z.keeps kp⟩
  · obtain ⟨w, z⟩ := I.cell y c (cm e).1
    exact ⟨w, z.keeps kp⟩
end

/-! ### asleep -/
/-- while the generator sleeps its consumer changes what stands at B alone -/
structure Slp (B : List Addr) (s s' : Shared) : Prop where
  os : s'.os = s.os
  bare : AllBare s'.gens
  keep : ∀ b o, b ∉ B → s.heap.get? b = some o → s'.heap.get? b = some o
/-- the consumer's own objects -/
structure Aprt (Y : Cx) (B fp : List Addr) (a : Addr) : Prop where
  hi : ∀ b ∈ B, Y.s_0.heap.objs.size ≤ b
  lo : ∀ b ∈ B, b ≠ Y.env.locals
  ce : ∀ b ∈ B, ∀ x c, Y.env.cells.lookup x = some c → c ≠ b
  sf : ∀ b ∈ B, b ∉ Y.fs
  bf : ∀ b ∈ B, b ∉ fp
  na : a ∉ B
  af : a ∉ fp
theorem woken {Y : Cx} {B fp : List Addr} {a : Addr} {go : Obj} {pins pins' : List (Addr × Obj)} {σ : L2.St} {H : Hp} {s s' : Shared} (hpn : Y.pn = []) (hB : Aprt Y B fp a) (I : Inv Y ((a, go) :: pins) σ H s)
    (hHB : ∀ b ∈ B, H b = none) (z : Slp B s s') (hp : ∀ p ∈ pins', p.1 ∈ B ∧ s'.heap.get? p.1 = some p.2 ∧ ∀ v, p.2.data ≠ .cell v) : Inv Y ((a, go) :: pins') σ H s' := by
  have I1 : Inv Y [(a, go)] σ H s := I.pins_of fun p hp => by
    have e : p = (a, go) := List.mem_singleton.mp hp
    rw [e]
    exact I.pin (a, go) (List.mem_append_right _ List.mem_cons_self)
  have nt : ∀ b u, H b = some u → b ∉ B := fun b u q hb => by rw [hHB b hb] at q; cases q
  obtain ⟨z1, z2, z3⟩ := z
  obtain ⟨hh, g, d, t, o⟩ := s'
  have ho : o = s.os := z1
  subst ho
  have J : Inv Y [(a, go)] σ H { s with heap := hh, gens := g, drawn := d, toks := t } := by
    refine I1.step (g' := g) (t' := t) (d' := d) (ch := B) (fun b hb => ?_)
      (fun b ob _ _ hc q _ => z3 b ob hc q) (fun b ob _ _ hc q _ => ⟨ob.slots, z3 b ob hc q⟩) (fun _ _ _ _ n => n) (fun b ob hc q => ⟨ob, z3 b ob hc q⟩)
      (fun _ _ q => q) (fun _ _ _ q => q) (fun b ps q => ⟨#[], by rw [q]; simp⟩) (fun m hm => ?_) (fun b u q => ?_) z2
    · refine ⟨.inr (hB.hi b hb), hB.lo b hb, hB.ce b hb, fun p hp => ?_⟩
      rw [hpn] at hp
      have e : p = (a, go) := by simpa using hp
      rw [e]
      intro e2
      have e3 : a = b := e2
      exact hB.na (by rw [e3]; exact hb)
    · obtain ⟨ob, es, ep, ho, r⟩ := hm
      exact ⟨ob, es, ep, z3 _ ob (fun hb => hB.lo _ hb rfl) ho, r⟩
    · refine (I1.hok b u q).stay (fun c v hc y => z3 c v ?_ y) (fun _ y => y) fun _ _ y => y
      rcases hc with y | y
      · rw [y]; exact nt b u q
      · exact nt c _ y
  refine J.pins_of fun p hp' => ?_
  rcases List.mem_cons.mp hp' with e | hp'
  · rw [e]
    exact J.pin (a, go) (List.mem_append_right _ List.mem_cons_self)
  · obtain ⟨h1, h2, h3⟩ := hp p hp'
    exact ⟨h2, hHB _ h1, hB.lo _ h1, hB.sf _ h1, h3⟩

/-! ### the turns -/
/-- what the consumer holds behind ys: Pn; what is wanted at a yield: Kx; where it goes on: Cn; at the end: Fi -/
structure Con where
  B : List Addr
  Pn : List V → List (Addr × Obj) → Prop
  Kx : List V → V → Hp → Prop
  Cn : List V → V → Prop
  Fi : List V → Hp → Prop
structure Con.Ok (C : Con) : Prop where
  pn : ∀ ys pins, C.Pn ys pins → ∀ p ∈ pins, p.1 ∈ C.B ∧ ∀ v, p.2.data ≠ .cell v
  all : ∀ ys pins, C.Pn ys pins → ∀ b ∈ C.B, ∃ o, (b, o) ∈ pins
def YG (Y : Cx) (C : Con) (a : Addr) (go : Obj) (σ0 : L2.St) : Protocol := fun n s₀ v s kap =>
  ∃ ys x pins H, RelV x v ∧ C.Pn ys pins ∧ Inv Y ((a, go) :: pins) σ0 H s ∧ C.Kx ys x H ∧
    (C.Cn ys x → ∀ s', Slp C.B s s' → (∃ pins', C.Pn (ys ++ [x]) pins' ∧ ∀ p ∈ pins', s'.heap.get? p.1 = some p.2) → kap (.send .none) s')
def RG (Y : Cx) (C : Con) (a : Addr) (go : Obj) (σ0 : L2.St) : Nat → Shared → Shared → Prop := fun n s₀ s => ∃ ys pins H, C.Pn ys pins ∧ Inv Y ((a, go) :: pins) σ0 H s ∧ C.Fi ys H
def GSt (Y : Cx) (C : Con) (fp : List Addr) (tn : Nat → Heap → Prop) (a : Addr) (go : Obj) (σ0 : L2.St) (W : Nat → Nat → List V → Hp → Prop) (i m : Nat) (ys : List V) (s : Shared) : Prop :=
  ∃ pins H, C.Pn ys pins ∧ Inv Y ((a, go) :: pins) σ0 H s ∧ tn i s.heap ∧ (∀ b ∈ fp, H b = none) ∧ W i m ys H
/-- the turns' reading -/
def Turns (J : It) (g : TG) (tt : TT) (te : TE) (vs : List Nat) (σ0 : L2.St) (C : Con) (W : Nat → Nat → List V → Hp → Prop) : Prop := ∀ i m ys H, W i m ys H →
  (J.stop i H ∧ C.Fi ys H) ∨ (J.go i H ∧ ∃ Nx : List V → Hp → Prop, (∀ ys' H', Nx ys' H' → ∃ m', m' < m ∧ W (i + 1) m' ys' H') ∧ ∀ x H', J.yld i H x H' → g x σ0 H' fun σ2 H2 => wipe σ2 vs = σ0 ∧ tt σ2 H2 fun b H3 =>
    if b = true then te σ2 H3 fun y H4 => C.Kx ys y H4 ∧ (C.Cn ys y → Nx (ys ++ [y]) H4) else Nx ys H3)

section
variable {Y : Cx} {C : Con} {A0 : Around} {elt tg iter : Expr} {ifs : List Expr} {scope : Scope} {pos : Pos} {it a : Addr} {fp : List Addr} {tn : Nat → Heap → Prop} {go : Obj} {J : It} {g : TG} {tt : TT} {te : TE} {vs : List Nat} {σ0 : L2.St} {W : Nat → Nat → List V → Hp → Prop}
theorem seg_loop (hA : A0.over (.compLoop (.GeneratorExp elt [⟨tg, iter, ifs, 0⟩] scope pos) 0 (.ref it) .none Y.env) [] = Y.A) (hc : Y.calm = true) (hx : ∀ e s, Y.xe e s → False) (hpn : Y.pn = []) (hco : Y.env.scope.isCoroutine = false)
    (CO : C.Ok) (hB : Aprt Y C.B fp a) (hst : ∀ b ∈ fp, b ≠ Y.env.locals ∧ b ∉ Y.fs ∧ (b ∈ Y.ex ∨ Y.s_0.heap.objs.size ≤ b) ∧ ∀ x c, Y.env.cells.lookup x = some c → c ≠ b)
    (T : Turn Y.prog Y.w Y.K tg J fp it tn) (hg : PG Y tg g) (ht : PTs Y ifs tt) (he : PE Y elt te) (turns : Turns J g tt te vs σ0 C W) :
    ∀ (m i n : Nat) (ys : List V) (s₀ s : Shared), m < n → GSt Y C fp tn a go σ0 W i m ys s →
      Seg (model Y.prog Y.w) A0 (fun n s₀ r s₁ => r = .ok .next ∧ RG Y C a go σ0 n s₀ s₁) (YG Y C a go σ0) n s₀
        (.compLoop (.GeneratorExp elt [⟨tg, iter, ifs, 0⟩] scope pos) 0 (.ref it) .none Y.env)
        ((model Y.prog Y.w).den (.compLoop (.GeneratorExp elt [⟨tg, iter, ifs, 0⟩] scope pos) 0 (.ref it) .none Y.env)) [] s := by
  intro m
  induction m using Nat.strongRecOn with
  | ind m ih =>
    intro i n ys s₀ s hmn ⟨pins, H, hP, I, st, fr, w⟩
    have stat : ∀ {H' : Hp}, (∀ b ∈ fp, H' b = none) → ∀ b ∈ fp, FpOk Y ((a, go) :: pins) H' b := fun hn b hb => by
      obtain ⟨h1, h2, h3, h4⟩ := hst b hb
      refine ⟨hn b hb, h1, h2, h3, h4, fun p hp => ?_⟩
      rw [hpn] at hp
      rcases List.mem_cons.mp (show p ∈ (a, go) :: pins from hp) with e | hp
      · rw [e]; intro e2; have e3 : a = b := e2; exact hB.af (by rw [e3]; exact hb)
      · intro e2; exact hB.bf _ (CO.pn _ _ hP p hp).1 (by rw [e2]; exact hb)
    obtain ⟨k, rfl⟩ : ∃ k, n = k + 1 := ⟨n - 1, by omega⟩
    show Seg _ A0 _ _ _ s₀ _ ((compTurn (.GeneratorExp elt [⟨tg, iter, ifs, 0⟩] scope pos) 0 (.ref it) .none Y.env).onRaise (leaving Y.env)) [] s
    rw [compTurn_gen, Sem.onRaise_eq_wrap]
    refine seg_bind_wrap (wpAny_standAt ?_)
    rcases turns i m ys H w with ⟨stop, q⟩ | ⟨go1, Nx, hN, step⟩
    · refine seg_bind_wrap ?_
      rw [hA]
      refine thn (T.done Y rfl rfl rfl hc i _ s σ0 H _ I (stat fr) st stop) fun r s1 ⟨hr, I1⟩ => ?_
      subst hr
      exact seg_end (.ok .next) ⟨rfl, ys, pins, H, hP, I1, q⟩
    · refine seg_bind_wrap ?_
      rw [hA]
      refine thn (T.item Y rfl rfl rfl hc i _ s σ0 H _ I (stat fr) st go1) fun r s1 ⟨u, hr, h1⟩ => ?_
      subst hr
      refine seg_bind_wrap ?_
      rw [hA]
      refine thn h1 fun _ s2 ⟨x, H2, I2, rx, y2, st2, fr2⟩ => ?_
      have I2' := I2.pinned (stat fr2) (T.obj _ _ st2)
      refine seg_bind_wrap ?_
      rw [hA]
      refine wpAny_mono (hg.run _ s2 σ0 H2 x u _ I2' rx (step x H2 y2)) (fun _ s3 ⟨σ3, H3, I3, hw, q3⟩ => ?_) (fun e s' z => (hx e s' z).elim)
      refine seg_bind_wrap ?_
      rw [hA]
      refine wpAny_mono (ht.run _ s3 σ3 H3 _ I3 q3) (fun b s4 ⟨H4, I4, q4⟩ => ?_) (fun e s' z => (hx e s' z).elim)
      have weak : ∀ {H' : Hp} {s' : Shared}, Inv Y ((a, go) :: pins ++ pinsAt fp s2.heap) σ3 H' s' → Inv Y ((a, go) :: pins ++ pinsAt fp s2.heap) σ0 H' s' := fun I' => by
        refine I'.weak (by rw [← hw, wipe_length]) fun j v e => ?_
        rw [← hw] at e
        exact (wipe_some e).1
      have tnk : ∀ {H' : Hp} {s' : Shared}, Inv Y ((a, go) :: pins ++ pinsAt fp s2.heap) σ3 H' s' → tn (i + 1) s'.heap ∧ ∀ b ∈ fp, H' b = none := fun I' => by
        refine ⟨T.keep _ _ _ st2 fun b hb o e => (I'.pin (b, o) (List.mem_append_right _ (List.mem_append_right _ (mem_pinsAt hb e)))).1, fun b hb => ?_⟩
        obtain ⟨o, e, d⟩ := T.obj _ _ st2 b hb
        exact (I'.pin (b, o) (List.mem_append_right _ (List.mem_append_right _ (mem_pinsAt hb e)))).2.1
      cases b with
      | false =>
        rw [if_neg Bool.false_ne_true] at q4
        obtain ⟨m', hm, w'⟩ := hN _ _ q4
        obtain ⟨t4, f4⟩ := tnk I4
        simp only [Bool.false_eq_true, if_false]
        exact seg_again rfl (ih m' hm (i + 1) (k + 1) ys s₀ s4 (by omega) ⟨pins, H4, hP, (weak I4).unpinned, t4, f4, w'⟩)
      | true =>
        rw [if_pos rfl] at q4
        simp only [if_true]
        have hy : ∀ v, yieldOut Y.env v = yieldValue v := fun v => by simp only [yieldOut, hco, Bool.false_eq_true, if_false]
        simp only [hy]
        rw [Sem.bind_eq_wrap', Sem.bind_eq_wrap', Sem.wrap_wrap, Sem.wrap_wrap]
        refine seg_wrap ?_
        rw [hA]
        refine wpAny_mono (he.run _ s4 σ3 H4 _ I4 q4) (fun v s5 ⟨y, H5, I5, ry, kx, nx⟩ => ?_) (fun e s' z => (hx e s' z).elim)
        obtain ⟨t5, f5⟩ := tnk I5
        have I5' := (weak I5).unpinned
        refine seg_at (seg_yield rfl rfl rfl ⟨ys, y, pins, H5, ry, hP, I5', kx, fun cn s6 z ⟨pins', hP', hp'⟩ => ?_⟩)
        obtain ⟨m', hm, w'⟩ := hN _ _ (nx cn)
        have hHB : ∀ b ∈ C.B, H5 b = none := fun b hb => by
          obtain ⟨o, ho⟩ := CO.all _ _ hP b hb
          exact (I5'.pin (b, o) (List.mem_append_right _ (List.mem_cons_of_mem _ ho))).2.1
        have I6 : Inv Y ((a, go) :: pins') σ0 H5 s6 := woken hpn hB I5' hHB z fun p hp => ⟨(CO.pn _ _ hP' p hp).1, hp' p hp, (CO.pn _ _ hP' p hp).2⟩
        refine seg_again rfl (ih m' hm (i + 1) k (ys ++ [y]) s6 s6 (by omega) ⟨pins', H5, hP', I6, T.keep _ _ _ t5 fun b hb o e => z.keep b o (fun hm => hB.bf b hm hb) e, f5, w'⟩)
end
end GX
set_option Elab.async false
set_option linter.all false
set_option maxRecDepth 100000
set_option maxHeartbeats 4000000
namespace GX
open PySem PySem.Spec PyProof.Rows L2 GenW

section
variable {Y : Cx} {C : Con} {A0 : Around} {elt tg iter : Expr} {ifs : List Expr} {scope : Scope} {pos : Pos} {it a : Addr} {fp : List Addr} {tn : Nat → Heap → Prop} {go : Obj} {J : It} {g : TG} {tt : TT} {te : TE} {vs : List Nat} {σ0 : L2.St} {W : Nat → Nat → List V → Hp → Prop}
theorem seg_start (hA : A0.over (.compLoop (.GeneratorExp elt [⟨tg, iter, ifs, 0⟩] scope pos) 0 (.ref it) .none Y.env) [] = Y.A) (hc : Y.calm = true) (hx : ∀ e s, Y.xe e s → False) (hpn : Y.pn = []) (hco : Y.env.scope.isCoroutine = false)
    (CO : C.Ok) (hB : Aprt Y C.B fp a) (hst : ∀ b ∈ fp, b ≠ Y.env.locals ∧ b ∉ Y.fs ∧ (b ∈ Y.ex ∨ Y.s_0.heap.objs.size ≤ b) ∧ ∀ x c, Y.env.cells.lookup x = some c → c ≠ b)
    (T : Turn Y.prog Y.w Y.K tg J fp it tn) (hg : PG Y tg g) (ht : PTs Y ifs tt) (he : PE Y elt te) (turns : Turns J g tt te vs σ0 C W)
    (m i n : Nat) (ys : List V) (s₀ s : Shared) (hmn : m < n) (h : GSt Y C fp tn a go σ0 W i m ys s) :
      Seg (model Y.prog Y.w) A0 (fun n s₀ r s₁ => r = .ok .next ∧ RG Y C a go σ0 n s₀ s₁) (YG Y C a go σ0) n s₀
        (.compStart (.GeneratorExp elt [⟨tg, iter, ifs, 0⟩] scope pos) 0 (.ref it) .none Y.env)
        ((model Y.prog Y.w).den (.compStart (.GeneratorExp elt [⟨tg, iter, ifs, 0⟩] scope pos) 0 (.ref it) .none Y.env)) [] s := by
  have loop := seg_loop (iter := iter) (scope := scope) (pos := pos) hA hc hx hpn hco CO hB hst T hg ht he turns m i n ys s₀ s hmn h
  obtain ⟨pins, H, hP, I, st, fr, w⟩ := h
  show Seg _ A0 _ _ _ s₀ _ ((compStart (.GeneratorExp elt [⟨tg, iter, ifs, 0⟩] scope pos) 0 (.ref it) .none Y.env).onRaise (leaving Y.env)) [] s
  unfold compStart
  rw [Sem.onRaise_eq_wrap]
  show Seg _ A0 _ _ _ s₀ _ ((ask >>= _).wrap _ _ _ _) [] s
  refine seg_bind_wrap (wpAny_askSetting ?_)
  split
  · exact seg_again rfl loop
  · first
      | exact seg_bind_wrap (wpAny_rule (seg_bind_wrap (wpAny_standAt (seg_bind_wrap (T.self _ i s _ _ st (seg_again rfl loop))))))
      | (refine seg_bind_wrap (wpAny_rule ?_); show Seg _ A0 _ _ _ s₀ _ ((standAt iter.pos >>= _).wrap _ _ _ _) [] s; exact seg_bind_wrap (wpAny_standAt (seg_bind_wrap (T.self _ i s _ _ st (seg_again rfl loop)))))
end

/-! ### the generator, as its consumer sees it -/
def Live (Y : Cx) (C : Con) (A0 : Around) (a : Addr) (go : Obj) (σ0 : L2.St) (g n : Nat) (s : Shared) : Prop :=
  s.heap.IsGen a g ∧ s.heap.NoLimit ∧ ∃ gs, s.gens[g]? = some gs ∧ gs.Goes (model Y.prog Y.w) A0 (fun n s₀ r s₁ => r = .ok .next ∧ RG Y C a go σ0 n s₀ s₁) (YG Y C a go σ0) n (.send .none) (s.setGen g .running)
theorem inv_setGen {Y : Cx} {pins : List (Addr × Obj)} {σ : L2.St} {H : Hp} {s : Shared} {g : Nat} {gs : GenState} (I : Inv Y pins σ H s) (hb : gs.bare = true) : Inv Y pins σ H (s.setGen g gs) :=
  ⟨I.ok, I.os, allBare_setGen I.bare hb, I.base, I.loc, I.cell, I.free, I.freeC, I.pin, I.hok, I.len⟩
/-- one next -/
theorem gx_next {Y : Cx} {C : Con} {A : Around} {a : Addr} {go : Obj} {σ0 : L2.St} {g n : Nat} {s : Shared} {Q : Option Value → Shared → Prop} {E : Value → Shared → Prop} (hh : A.handled = none) (hroom : A.depth < recursionLimit)
    (L : Live Y C A.in1 a go σ0 g n s) (hgo : ∀ h : Heap, h.get? a = some go → h.IsGen a g)
    (hY : ∀ ys x v pins H s₁, RelV x v → C.Pn ys pins → Inv Y ((a, go) :: pins) σ0 H s₁ → C.Kx ys x H →
      (C.Cn ys x → ∀ s', Slp C.B s₁ s' → (∃ pins', C.Pn (ys ++ [x]) pins' ∧ ∀ p ∈ pins', s'.heap.get? p.1 = some p.2) → s'.heap.get? a = some go → s'.heap.NoLimit → s'.gens = s₁.gens → ∃ k, n = k + 1 ∧ Live Y C A.in1 a go σ0 g k s') → Q (some v) s₁)
    (hF : ∀ ys pins H s₁, C.Pn ys pins → Inv Y ((a, go) :: pins) σ0 H s₁ → C.Fi ys H → Q none s₁) :
    wpAny (model Y.prog Y.w) A (pyNext (.ref a)) Q E s := by
  obtain ⟨hg, hl, gs, hgs, hgoes⟩ := L
  have hgl : g < s.gens.size := (Array.getElem?_eq_some_iff.mp hgs).1
  refine wpAny_gsz (n := g + 1) hgl (wpAny_pyNext_genexpQ hh hl hroom hg hgs hgoes (fun v s₁ gs' hb hv => ?_) (fun s₁ hp h' hk => ?_))
  · intro hsz
    obtain ⟨ys, x, pins, H, rv, hP, I, kx, kap⟩ := hv
    have hsz1 : g < s₁.gens.size := by
      have q : (s₁.setGen g gs').gens.size = s₁.gens.size := setGen_size _ _ _
      have hsz' : g + 1 ≤ (s₁.setGen g gs').gens.size := hsz
      omega
    refine hY ys x v pins H _ rv hP (inv_setGen I hb) kx fun cn s' z hp ha hl' hgens => ?_
    have z' : Slp C.B s₁ (s'.setGen g .running) := ⟨z.os, allBare_setGen z.bare rfl, fun b o hb e => z.keep b o hb e⟩
    have q := kap cn _ z' hp
    cases n with
    | zero => exact False.elim q
    | succ k => exact ⟨k, rfl, hgo _ ha, hl', gs', by rw [hgens]; exact setGen_at hsz1, q⟩
  · intro _
    obtain ⟨ys, pins, H, hP, I, fi⟩ := hp
    refine hF ys pins H _ hP ?_ fi
    exact (inv_setGen (gs := .finished) (g := g) I rfl).kept (t' := s₁.toks) hk
end GX
set_option Elab.async false
set_option linter.all false
set_option maxRecDepth 100000
set_option maxHeartbeats 4000000
namespace GX
open PySem PySem.Spec PyProof.Rows L2 GenW

/-- a generator expression has been made -/
structure Made (X : Cx) (pins : List (Addr × Obj)) (σ : L2.St) (A0 : Around) (elt tg iter : Expr) (ifs : List Expr) (scope : Scope) (gpos : Pos) (own : List (Str × Nat)) (it a : Addr) (fp : List Addr) (tn : Nat → Heap → Prop) (J : It) (H4 : Hp) (s4 s5 : Shared) (code : Value) (g : Nat) (go : Obj) : Prop where
  outer : Inv X pins σ H4 s4
  inner : Inv (gcx X A0 s4 H4 scope code fp) [(a, go)] (wipe σ (own.map (·.2))) H4 s5
  turn : Turn X.prog X.w X.K tg J fp it tn
  tn0 : tn 0 s5.heap
  fpk : ∀ b ∈ fp, FpOk X pins H4 b ∧ b < s4.heap.objs.size
  alo : s4.heap.objs.size < a
  asz : s5.heap.objs.size = a + 1
  gen : ∀ h : Heap, h.get? a = some go → h.IsGen a g
  gs : s5.gens[g]? = some (.fresh (.compStart (.GeneratorExp elt [⟨tg, iter, ifs, 0⟩] scope gpos) 0 (.ref it) .none (gcx X A0 s4 H4 scope code fp).env))
  ga : s5.heap.get? a = some go

section
variable {X : Cx} {pins : List (Addr × Obj)} {σ : L2.St} {H : Hp} {s : Shared}
theorem gx_make {A0 : Around} {c P : Addr} {elt tg iter : Expr} {ifs : List Expr} {gpos : Pos} {scope : Scope} {own : List (Str × Nat)} {wi : TI} {k : Nat} {R : It → Hp → Prop} {Q' : Value → Shared → Prop}
    (hA0h : A0.handled = none) (hA0f : A0.frames = X.A.frames) (hr : Room k X.A) (TB : GxR.TabB X.base X.mg c P) (hcode : X.env.code = .ref c) (ok : GxOk X.N X.env.scope scope own) (hN : X.N.Nodup) (hi : PI X tg iter wi)
    (hs : ∀ v, genFold iter X.env v = pure v) (I : Inv X pins σ H s) (h : wi σ H fun J H1 => GxR.TabG H1 P ∧ ∀ H2, GxR.Tabbed P H1 H2 → R J H2)
    (hQ : ∀ it a fp tn J H4 s4 s5 code g go, Made X pins σ A0 elt tg iter ifs scope gpos own it a fp tn J H4 s4 s5 code g go → R J H4 → Q' (.ref a) s5) :
    wpAny (model X.prog X.w) X.A (eval (.GeneratorExp elt [⟨tg, iter, ifs, 0⟩] scope gpos) X.env) Q' X.xe s := by
  have hfree : ∀ y ∈ scope.names, y.2 = .free → ∃ c, X.env.cells.lookup y.1 = some c := fun y hy e => by
    rcases ok.blk.free y hy e with k | k
    · exact I.ok.has _ (.inl k)
    · exact I.ok.has _ (.inr k)
  refine wpAny_GeneratorExp_make ok.co (closure_ok hfree) ok.cell ok.dot ok.blk.kind (by have := hr.dp; omega) ?_ hs
  refine thn (hi.run pins s σ H _ I h) fun xv s1 hx => thn hx fun itv s2 h2 => ?_
  obtain ⟨it, fp, tn, J, H2, e, I2, T, st2, f2, ⟨ps, hP, ht⟩, q⟩ := h2
  subst e
  have hPs : s2.heap.get? P = some { cls := .none, data := .fields ps } := I2.hok P _ hP
  have cd : PySem.W.CodeHd s2.heap c P := TB.code.keeps fun b u e => I2.bk b u e
  have sz : ∀ b ∈ fp, b < s2.heap.objs.size := fun b hb => by
    obtain ⟨o, e, _⟩ := T.obj _ _ st2 b hb
    exact Heap.lt_size e
  have fnP : ∀ b ∈ fp, b ≠ P := fun b hb e => by
    have q := (f2 b hb).1
    rw [e, hP] at q
    cases q
  have cont : ∀ (code : Value) (h3 : Heap) (tk : Nat) (ps' : Array Value), Heap.ExtBut P s2.heap h3 → s2.heap.objs.size ≤ h3.objs.size → h3.get? P = some { cls := .none, data := .fields ps' } → (∃ more, ps' = ps ++ more) → TriplesOk ps'.toList →
      wpAny (model X.prog X.w) X.A (builtinsFor X.env.globals X.env.builtins) (fun bi s₄ =>
        ∀ h', h'.Ns s₄.heap.objs.size (fun y => if y = ".0" then some (Value.ref it) else none) → Heap.SameBut s₄.heap.objs.size (s₄.heap.push { cls := .type "frame", data := .dict #[] }) h' →
          Q' (.ref h'.objs.size) { s₄ with
            gens := s₄.gens.push (.fresh (.compStart (.GeneratorExp elt [⟨tg, iter, ifs, 0⟩] scope gpos) 0 (.ref it) .none (genEnv scope (cloFrom X.env.cells scope.names []) s₄.heap.objs.size code bi X.env))),
            toks := s₄.toks + 1 + 1 + 1,
            heap := h'.push { cls := .type "generator", data := .fields #[.int s₄.gens.size 0, .str "<genexpr>" (s₄.toks + 1), .str (X.env.qual ++ "<genexpr>") (s₄.toks + 1 + 1)] } }) X.xe { s2 with heap := h3, toks := tk } := by
    intro code h3 tk ps' hx hsz hP3 hmore ht3
    obtain ⟨more, em⟩ := hmore
    obtain ⟨bm, ob, e1, e2, e3, e4, e5, e6, e7, e8⟩ := TB.bm
    have keep3 : ∀ b u, b ≠ P → s2.heap.get? b = some u → h3.get? b = some u := fun b u hb e => hx b u hb e
    refine wpAny_builtinsFor (m := X.mg) (by rw [I2.ok.glob]; exact (I2.mod.glob.keeps I2.bk).extBut hx TB.gP) e1 e2 (keep3 _ _ e4 (I2.bk _ _ e5)) e6 e7 e8 ?_
    have I4 : Inv X pins σ (upd H2 P (.tbl (ps ++ more))) { s2 with heap := h3, toks := tk } :=
      GxR.inv_tab (more := more) (h' := h3) (g' := s2.gens) (d' := s2.drawn) (t' := tk) I2 hP (fun b u hb e => keep3 b u hb e) (by rw [← em]; exact hP3) I2.bare
    have hT4 : GxR.Tabbed P H2 (upd H2 P (.tbl (ps ++ more))) := ⟨⟨ps ++ more, upd_same, by rw [← em]; exact ht3⟩, fun b hb => upd_ne hb⟩
    have fk : ∀ b ∈ fp, FpOk X pins (upd H2 P (.tbl (ps ++ more))) b ∧ b < h3.objs.size := fun b hb => by
      refine ⟨⟨?_, (f2 b hb).2⟩, Nat.lt_of_lt_of_le (sz b hb) hsz⟩
      rw [upd_ne (fnP b hb)]
      exact (f2 b hb).1
    intro h' hn' hs'
    have hszh : h'.objs.size = h3.objs.size + 1 := by rw [hs'.1, Heap.size_push]
    have keep' : ∀ b o, h3.get? b = some o → h'.get? b = some o := fun b o e => hs'.extBut b o (Nat.ne_of_lt (Heap.lt_size e)) (Heap.get?_push_of_some _ e)
    have keep5 : ∀ b o, h3.get? b = some o → (h'.push { cls := .type "generator", data := .fields #[.int s2.gens.size 0, .str "<genexpr>" (tk + 1), .str (X.env.qual ++ "<genexpr>") (tk + 1 + 1)] }).get? b = some o := fun b o e => Heap.get?_push_of_some _ (keep' b o e)
    have hat : (h'.push { cls := .type "generator", data := .fields #[.int s2.gens.size 0, .str "<genexpr>" (tk + 1), .str (X.env.qual ++ "<genexpr>") (tk + 1 + 1)] }).get? h'.objs.size = some { cls := .type "generator", data := .fields #[.int s2.gens.size 0, .str "<genexpr>" (tk + 1), .str (X.env.qual ++ "<genexpr>") (tk + 1 + 1)] } := Heap.get?_push_size _ rfl
    have IY : Inv (gcx X A0 { s2 with heap := h3, toks := tk } (upd H2 P (.tbl (ps ++ more))) scope code fp) [] (wipe σ (own.map (·.2))) (upd H2 P (.tbl (ps ++ more)))
        { s2 with heap := h'.push { cls := .type "generator", data := .fields #[.int s2.gens.size 0, .str "<genexpr>" (tk + 1), .str (X.env.qual ++ "<genexpr>") (tk + 1 + 1)] }, gens := s2.gens.push (.fresh (.compStart (.GeneratorExp elt [⟨tg, iter, ifs, 0⟩] scope gpos) 0 (.ref it) .none (genEnv scope (cloFrom X.env.cells scope.names []) h3.objs.size code builtinsNs X.env))), toks := tk + 1 + 1 + 1 } :=
      gen_start (s := { s2 with heap := h3, toks := tk }) I4 ok hN fk hA0h (hA0f.trans I2.ok.frames) (hn'.push _) keep5 (I2.bare.push rfl)
    have ano : ∀ b, b < h3.objs.size → h'.objs.size ≠ b := fun b hb => by rw [hszh]; omega
    refine hQ it h'.objs.size fp tn J _ { s2 with heap := h3, toks := tk } _ code s2.gens.size _ ⟨I4, IY.pins_of fun p hp => ?_, T, ?_, fk, ?_, ?_, ?_, Array.getElem?_push_size .., hat⟩ (q _ hT4)
    · rw [List.mem_singleton.mp hp]
      refine ⟨hat, I4.hok.fresh (by show h3.objs.size ≤ h'.objs.size; omega), ?_, fun hb => ?_, fun v z => by cases z⟩
      · show h'.objs.size ≠ h3.objs.size
        omega
      · obtain ⟨_, o, ho, _⟩ := (I4.stack).mem hb
        exact ano _ (Heap.lt_size ho) rfl
    · exact T.keep _ _ _ st2 fun b hb o e => keep5 b o (keep3 b o (fnP b hb) e)
    · show h3.objs.size < h'.objs.size
      omega
    · show (h'.push _).objs.size = h'.objs.size + 1
      rw [Heap.size_push]
    · intro h hh
      exact ⟨_, _, _, hh, rfl, rfl, rfl⟩
  refine ⟨I2.nolimit, ?_⟩
  cases hf : codeAmong gpos ps.toList with
  | none =>
    refine wpAny_genexprCodeX hcode (cd.code hPs ht) (cd.tab hPs) hf fun c' h' tk hx hge hlt hco' _ htab' _ => ?_
    obtain ⟨o1, vs, f1, tf, fl, tg', inF, tx, tt, op, _, _, _, _, _, _, _, _, _, htr, _⟩ := hco'
    exact cont _ h' tk _ hx (Nat.le_trans hge (Nat.le_of_lt hlt)) htab'.2 ⟨_, rfl⟩ htr
  | some cv =>
    refine wpAny_genexprCode_hit hcode (cd.code hPs ht) hf ?_
    exact cont cv s2.heap s2.toks ps (Heap.ExtBut.refl _ _) (Nat.le_refl _) hPs ⟨#[], by simp⟩ ht
end
end GX
set_option Elab.async false
set_option linter.all false
set_option maxRecDepth 100000
set_option maxHeartbeats 4000000
namespace GX
open PySem PySem.Spec PyProof.Rows L2 GenW

theorem over_comp {A : Around} {elt : Expr} {gs : List Comprehension} {scope : Scope} {pos : Pos} {it acc : Value} {env : Env} : A.over (.compLoop (.GeneratorExp elt gs scope pos) 0 it acc env) [] = A.deeper env := by
  first
    | rfl
    | (obtain ⟨hd, d, fr, gs, u⟩ := A; simp [Around.over, Around.deeper, marksOver, frameCount, unitsOf, envsOf, guardsOf, pushEnvs, pushGuards, Code.envs, Code.env?, Code.isFrame, Code.guards, Code.isGuard, Code.weight, Code.frames, Code.isCreation, Code.isCaller, Code.cUnits])

section
variable {X : Cx} {pins : List (Addr × Obj)} {σ : L2.St} {A0 : Around} {elt tg iter : Expr} {ifs : List Expr} {scope : Scope} {gpos : Pos} {own : List (Str × Nat)} {it a : Addr} {fp : List Addr} {tn : Nat → Heap → Prop} {J : It} {H4 : Hp} {s4 s5 : Shared} {code : Value} {g : Nat} {go : Obj}
/-- behind it: the outer frame again -/
theorem Made.back (M : Made X pins σ A0 elt tg iter ifs scope gpos own it a fp tn J H4 s4 s5 code g go) {pl : List (Addr × Obj)} {σ' : L2.St} {H' : Hp} {s' : Shared} (I : Inv (gcx X A0 s4 H4 scope code fp) pl σ' H' s') : Inv X pins σ H' s' := by
  have os : s'.os = s4.os := I.os
  have un : Un (frs X.stack) fp H4 H' s4.heap s'.heap := I.base
  have hok : HOk X.prog X.w H' s'.heap := I.hok
  have bare := I.bare
  obtain ⟨h', g', d', t', o'⟩ := s'
  obtain rfl : o' = s4.os := os
  exact M.outer.call (h' := h') (g' := g') (d' := d') (t' := t') (ch := fp) un hok bare fun b hb => ⟨(M.fpk b hb).1.2.2.2.1, (M.fpk b hb).1.2.1, (M.fpk b hb).1.2.2.2.2.1, (M.fpk b hb).1.2.2.2.2.2⟩
theorem Made.stat (M : Made X pins σ A0 elt tg iter ifs scope gpos own it a fp tn J H4 s4 s5 code g go) : ∀ b ∈ fp, b ≠ (gcx X A0 s4 H4 scope code fp).env.locals ∧ b ∉ (gcx X A0 s4 H4 scope code fp).fs ∧ (b ∈ (gcx X A0 s4 H4 scope code fp).ex ∨ (gcx X A0 s4 H4 scope code fp).s_0.heap.objs.size ≤ b) ∧ ∀ x c, (gcx X A0 s4 H4 scope code fp).env.cells.lookup x = some c → c ≠ b := fun b hb =>
  ⟨(M.inner.ok.exf b hb).1, M.inner.ok.exfs b hb, .inl hb, fun x c e => (M.inner.ok.exf b hb).2 x c e⟩
/-- the consumer's objects: none, or one that is new -/
theorem Made.apart0 (M : Made X pins σ A0 elt tg iter ifs scope gpos own it a fp tn J H4 s4 s5 code g go) : Aprt (gcx X A0 s4 H4 scope code fp) [] fp a :=
  ⟨fun b hb => (by cases hb), fun b hb => (by cases hb), fun b hb => (by cases hb), fun b hb => (by cases hb), fun b hb => (by cases hb), fun hb => (by cases hb), fun hb =>
    absurd (Nat.lt_trans (M.fpk a hb).2 M.alo) (Nat.lt_irrefl _)⟩
theorem Made.apart1 (M : Made X pins σ A0 elt tg iter ifs scope gpos own it a fp tn J H4 s4 s5 code g go) {S : Addr} (hS : a < S) : Aprt (gcx X A0 s4 H4 scope code fp) [S] fp a := by
  have h1 := M.alo
  have big : ∀ b ∈ [S], s5.heap.objs.size ≤ b := fun b hb => by
    rw [List.mem_singleton.mp hb, M.asz]
    exact hS
  have sz5 : s4.heap.objs.size ≤ s5.heap.objs.size := by rw [M.asz]; omega
  refine ⟨fun b hb => Nat.le_trans sz5 (big b hb), fun b hb => ?_, fun b hb x c e z => ?_, fun b hb => M.inner.nofs (big b hb), fun b hb hb2 => ?_, fun hb => ?_, M.apart0.af⟩
  · exact Nat.ne_of_gt (Nat.lt_of_lt_of_le M.inner.lt (big b hb))
  · obtain ⟨v, q⟩ := M.inner.cell x c e
    have q1 := q.lt
    have q2 := big b hb
    rw [z] at q1
    exact absurd (Nat.lt_of_lt_of_le q1 q2) (Nat.lt_irrefl _)
  · exact absurd (Nat.lt_of_lt_of_le (M.fpk b hb2).2 (Nat.le_trans sz5 (big b hb))) (Nat.lt_irrefl _)
  · exact Nat.ne_of_lt hS (List.mem_singleton.mp hb)
/-- the fresh generator, for a consumer whose objects stand in a later state -/
theorem Made.live (M : Made X pins σ A0 elt tg iter ifs scope gpos own it a fp tn J H4 s4 s5 code g go) {C : Con} {g1 : TG} {tt : TT} {te : TE} {W : Nat → Nat → List V → Hp → Prop} {m : Nat} {s6 : Shared} {pins' : List (Addr × Obj)} (CO : C.Ok) (hB : Aprt (gcx X A0 s4 H4 scope code fp) C.B fp a)
    (co : scope.isCoroutine = false)
    (hg : PG (gcx X A0 s4 H4 scope code fp) tg g1) (ht : PTs (gcx X A0 s4 H4 scope code fp) ifs tt) (he : PE (gcx X A0 s4 H4 scope code fp) elt te) (turns : Turns J g1 tt te (own.map (·.2)) (wipe σ (own.map (·.2))) C W) (w0 : W 0 m [] H4)
    (hHB : ∀ b ∈ C.B, H4 b = none) (z : Slp C.B s5 s6) (hP : C.Pn [] pins') (hp : ∀ p ∈ pins', s6.heap.get? p.1 = some p.2) (hgens : s6.gens = s5.gens) (hl : s6.heap.NoLimit) :
    Live (gcx X A0 s4 H4 scope code fp) C A0 a go (wipe σ (own.map (·.2))) g (m + 1) s6 := by
  have ga6 : s6.heap.get? a = some go := z.keep a go hB.na M.ga
  have z' : Slp C.B s5 (s6.setGen g .running) := ⟨z.os, allBare_setGen z.bare rfl, z.keep⟩
  have I6 : Inv (gcx X A0 s4 H4 scope code fp) ((a, go) :: pins') (wipe σ (own.map (·.2))) H4 (s6.setGen g .running) := woken rfl hB M.inner hHB z' fun p hp' => ⟨(CO.pn _ _ hP p hp').1, hp p hp', (CO.pn _ _ hP p hp').2⟩
  refine ⟨M.gen _ ga6, hl, _, (by rw [hgens]; exact M.gs), ?_⟩
  refine ⟨rfl, ?_⟩
  exact seg_start over_comp rfl (fun _ _ z => z) rfl co CO hB M.stat M.turn hg ht he turns m 0 (m + 1) [] _ _ (Nat.lt_succ_self _)
    ⟨pins', H4, hP, I6, M.turn.keep _ _ _ M.tn0 fun b hb o e => z.keep b o (fun hm => hB.bf b hm hb) e, fun b hb => (M.fpk b hb).1.1, w0⟩
end

/-! ### all, any -/
def conAll (Q : VK) : Con := ⟨[], fun _ pins => pins = [], fun _ y H => ∃ c, y = .bl c ∧ (c = false → Q (.bl false) H), fun _ y => y = .bl true, fun _ H => Q (.bl true) H⟩
def conAny (Q : VK) : Con := ⟨[], fun _ pins => pins = [], fun _ y H => ∃ c, y = .bl c ∧ (c = true → Q (.bl true) H), fun _ y => y = .bl false, fun _ H => Q (.bl false) H⟩
theorem ok_all (Q : VK) : (conAll Q).Ok := ⟨fun _ _ h p hp => (by rw [show _ = [] from h] at hp; cases hp), fun _ _ _ b hb => (by cases hb)⟩
theorem ok_any (Q : VK) : (conAny Q).Ok := ⟨fun _ _ h p hp => (by rw [show _ = [] from h] at hp; cases hp), fun _ _ _ b hb => (by cases hb)⟩
theorem all_loop {Y : Cx} {A : Around} {a : Addr} {go : Obj} {σ0 : L2.St} {g : Nat} {Q : VK} {R : Result → Shared → Prop} (hh : A.handled = none) (hd : A.depth < recursionLimit) (hgo : ∀ h : Heap, h.get? a = some go → h.IsGen a g)
    (hR : ∀ b s' H, Inv Y [(a, go)] σ0 H s' → Q (.bl b) H → R (.ok (.ret (.bool b))) s') : ∀ (n : Nat) (s : Shared), Live Y (conAll Q) A.in1.in1 a go σ0 g n s → codeAny (model Y.prog Y.w) A (.builtin "all.loop" ⟨[.ref a], []⟩) R s := by
  intro n
  induction n with
  | zero =>
    intro s L
    refine codeAny_builtin F.entry_all_loop ?_
    rw [Around.under_plainId F.plain_all_loop _]
    show wpAny _ A.in1 (pyNext (.ref a) >>= _) _ _ s
    refine wpAny_bind (gx_next (A := A.in1) hh hd L hgo (fun ys x v pins H s₁ rv hP I kx kap => ?_) fun ys pins H s₁ hP I fi => ?_)
    · obtain ⟨c, rfl, hc⟩ := kx
      obtain rfl : v = .bool c := rv
      obtain rfl : pins = [] := hP
      refine wpAny_bind (wpAny_holding (wpAny_truthy_bool ?_))
      refine wpAny_bind (wpAny_letGo ?_)
      cases c with
      | true =>
        obtain ⟨k, hk, _⟩ := kap rfl s₁ ⟨rfl, I.bare, fun _ _ _ e => e⟩ ⟨[], rfl, fun p hp => (by cases hp)⟩ (I.pin (a, go) (List.mem_append_right _ List.mem_cons_self)).1 I.nolimit rfl
        cases hk
      | false =>
        simp only [Bool.false_eq_true, if_false]
        exact wpAny_bind (wpAny_rule (wpAny_pure (hR false s₁ H I (hc rfl))))
    · obtain rfl : pins = [] := hP
      exact wpAny_bind (wpAny_rule (wpAny_pure (hR true s₁ H I fi)))
  | succ n ih =>
    intro s L
    refine codeAny_builtin F.entry_all_loop ?_
    rw [Around.under_plainId F.plain_all_loop _]
    show wpAny _ A.in1 (pyNext (.ref a) >>= _) _ _ s
    refine wpAny_bind (gx_next (A := A.in1) hh hd L hgo (fun ys x v pins H s₁ rv hP I kx kap => ?_) fun ys pins H s₁ hP I fi => ?_)
    · obtain ⟨c, rfl, hc⟩ := kx
      obtain rfl : v = .bool c := rv
      obtain rfl : pins = [] := hP
      refine wpAny_bind (wpAny_holding (wpAny_truthy_bool ?_))
      refine wpAny_bind (wpAny_letGo ?_)
      cases c with
      | true =>
        obtain ⟨k, hk, L'⟩ := kap rfl s₁ ⟨rfl, I.bare, fun _ _ _ e => e⟩ ⟨[], rfl, fun p hp => (by cases hp)⟩ (I.pin (a, go) (List.mem_append_right _ List.mem_cons_self)).1 I.nolimit rfl
        cases hk
        simp only [if_true]
        exact wpAny_pure ⟨plainId_quiet F.plain_all_loop _, ih s₁ L'⟩
      | false =>
        simp only [Bool.false_eq_true, if_false]
        exact wpAny_bind (wpAny_rule (wpAny_pure (hR false s₁ H I (hc rfl))))
    · obtain rfl : pins = [] := hP
      exact wpAny_bind (wpAny_rule (wpAny_pure (hR true s₁ H I fi)))
theorem any_loop {Y : Cx} {A : Around} {a : Addr} {go : Obj} {σ0 : L2.St} {g : Nat} {Q : VK} {R : Result → Shared → Prop} (hh : A.handled = none) (hd : A.depth < recursionLimit) (hgo : ∀ h : Heap, h.get? a = some go → h.IsGen a g)
    (hR : ∀ b s' H, Inv Y [(a, go)] σ0 H s' → Q (.bl b) H → R (.ok (.ret (.bool b))) s') : ∀ (n : Nat) (s : Shared), Live Y (conAny Q) A.in1.in1 a go σ0 g n s → codeAny (model Y.prog Y.w) A (.builtin "any.loop" ⟨[.ref a], []⟩) R s := by
  intro n
  induction n with
  | zero =>
    intro s L
    refine codeAny_builtin F.entry_any_loop ?_
    rw [Around.under_plainId F.plain_any_loop _]
    show wpAny _ A.in1 (pyNext (.ref a) >>= _) _ _ s
    refine wpAny_bind (gx_next (A := A.in1) hh hd L hgo (fun ys x v pins H s₁ rv hP I kx kap => ?_) fun ys pins H s₁ hP I fi => ?_)
    · obtain ⟨c, rfl, hc⟩ := kx
      obtain rfl : v = .bool c := rv
      obtain rfl : pins = [] := hP
      refine wpAny_bind (wpAny_holding (wpAny_truthy_bool ?_))
      refine wpAny_bind (wpAny_letGo ?_)
      cases c with
      | false =>
        obtain ⟨k, hk, _⟩ := kap rfl s₁ ⟨rfl, I.bare, fun _ _ _ e => e⟩ ⟨[], rfl, fun p hp => (by cases hp)⟩ (I.pin (a, go) (List.mem_append_right _ List.mem_cons_self)).1 I.nolimit rfl
        cases hk
      | true =>
        simp only [if_true]
        exact wpAny_bind (wpAny_rule (wpAny_pure (hR true s₁ H I (hc rfl))))
    · obtain rfl : pins = [] := hP
      exact wpAny_bind (wpAny_rule (wpAny_pure (hR false s₁ H I fi)))
  | succ n ih =>
    intro s L
    refine codeAny_builtin F.entry_any_loop ?_
    rw [Around.under_plainId F.plain_any_loop _]
    show wpAny _ A.in1 (pyNext (.ref a) >>= _) _ _ s
    refine wpAny_bind (gx_next (A := A.in1) hh hd L hgo (fun ys x v pins H s₁ rv hP I kx kap => ?_) fun ys pins H s₁ hP I fi => ?_)
    · obtain ⟨c, rfl, hc⟩ := kx
      obtain rfl : v = .bool c := rv
      obtain rfl : pins = [] := hP
      refine wpAny_bind (wpAny_holding (wpAny_truthy_bool ?_))
      refine wpAny_bind (wpAny_letGo ?_)
      cases c with
      | false =>
        obtain ⟨k, hk, L'⟩ := kap rfl s₁ ⟨rfl, I.bare, fun _ _ _ e => e⟩ ⟨[], rfl, fun p hp => (by cases hp)⟩ (I.pin (a, go) (List.mem_append_right _ List.mem_cons_self)).1 I.nolimit rfl
        cases hk
        simp only [Bool.false_eq_true, if_false]
        exact wpAny_pure ⟨plainId_quiet F.plain_any_loop _, ih s₁ L'⟩
      | true =>
        simp only [if_true]
        exact wpAny_bind (wpAny_rule (wpAny_pure (hR true s₁ H I (hc rfl))))
    · obtain rfl : pins = [] := hP
      exact wpAny_bind (wpAny_rule (wpAny_pure (hR false s₁ H I fi)))

/-- all(elt for tg in iter if ..) -/
def tAllG (P : Addr) (wi : TI) (g : TG) (tt : TT) (te : TE) (vs : List Nat) : TE := fun σ H Q => wi σ H fun J H1 => GxR.TabG H1 P ∧ ∀ H2, GxR.Tabbed P H1 H2 → ∃ W : Nat → Nat → List V → Hp → Prop, (∃ m, W 0 m [] H2) ∧ Turns J g tt te vs (wipe σ vs) (conAll Q) W
def tAnyG (P : Addr) (wi : TI) (g : TG) (tt : TT) (te : TE) (vs : List Nat) : TE := fun σ H Q => wi σ H fun J H1 => GxR.TabG H1 P ∧ ∀ H2, GxR.Tabbed P H1 H2 → ∃ W : Nat → Nat → List V → Hp → Prop, (∃ m, W 0 m [] H2) ∧ Turns J g tt te vs (wipe σ vs) (conAny Q) W
section
variable {X : Cx} {c P : Addr} {elt tg iter : Expr} {ifs : List Expr} {p pos gpos : Pos} {scope : Scope} {own : List (Str × Nat)} {wi : TI} {g : TG} {tt : TT} {te : TE} {k : Nat}
theorem pe_allG (hr : Room k X.A) (hgl : Gl X "all") (hm : X.mg "all" = none) (TB : GxR.TabB X.base X.mg c P) (hcode : X.env.code = .ref c) (ok : GxOk X.N X.env.scope scope own) (hN : X.N.Nodup) (hi : PI X tg iter wi)
    (hg : ∀ (s : Shared) (H : Hp) (code : Value) (fp : List Addr), PG (gcx X X.A.in1.in1 s H scope code fp) tg g) (ht : ∀ (s : Shared) (H : Hp) (code : Value) (fp : List Addr), PTs (gcx X X.A.in1.in1 s H scope code fp) ifs tt)
    (hel : ∀ (s : Shared) (H : Hp) (code : Value) (fp : List Addr), PE (gcx X X.A.in1.in1 s H scope code fp) elt te) (hs : ∀ v, genFold iter X.env v = pure v := by intro _; rfl)
    (he : starEach [.GeneratorExp elt [⟨tg, iter, ifs, 0⟩] scope gpos] X.env = (false, eval (.GeneratorExp elt [⟨tg, iter, ifs, 0⟩] scope gpos) X.env) :: starEach [] X.env := by rfl) :
    PE X (.Call (.Name "all" p) [.GeneratorExp elt [⟨tg, iter, ifs, 0⟩] scope gpos] [] pos) (tAllG P wi g tt te (own.map (·.2))) := by
  refine ⟨fun pins s σ H Q I h => ?_⟩
  refine wpAny_Call_Name_kw (ld_blt I hgl hm (show bootBuiltins "all" = some (.builtin "all") by decide +kernel) ?_)
  refine PyProof.Rows.callWith_builtin1 ?_ he (by rfl)
  rw [he]
  show wpAny _ _ (spliced ((false, eval (.GeneratorExp elt [⟨tg, iter, ifs, 0⟩] scope gpos) X.env) :: backTo pos (starEach [] X.env))) _ _ s
  refine Calls.spliced_cons (gx_make (A0 := X.A.in1.in1) (own := own) (R := fun J H2 => ∃ W : Nat → Nat → List V → Hp → Prop, (∃ m, W 0 m [] H2) ∧ Turns J g tt te (own.map (fun q : Str × Nat => q.2)) (wipe σ (own.map (fun q : Str × Nat => q.2))) (conAll Q) W) hr.hd rfl hr TB hcode ok hN hi hs I h fun it a fp tn J H4 s4 s5 code gn go M q => ?_)
  obtain ⟨W, ⟨m, w0⟩, turns⟩ := q
  refine Calls.spliced_nil ?_
  have L : Live (gcx X X.A.in1.in1 s4 H4 scope code fp) (conAll Q) X.A.in1.in1 a go (wipe σ (own.map (·.2))) gn (m + 1) s5 :=
    M.live (s6 := s5) (pins' := []) (ok_all Q) M.apart0 ok.co (hg s4 H4 code fp) (ht s4 H4 code fp) (hel s4 H4 code fp) turns w0 (fun b hb => (by cases hb)) ⟨rfl, M.inner.bare, fun _ _ _ e => e⟩ rfl (fun p hp => (by cases hp)) rfl M.inner.nolimit
  refine call_function_tree F.kind_all F.plain_all F.entry_all (F.args_all1 _) ?_
  unfold Builtin.«all»
  refine wpAny_bind (m := oneArg "all" _) (wpAny_pure ?_)
  refine wpAny_bind (wpAny_pyIter_gen (M.gen _ M.ga) ?_)
  refine wpAny_pure ⟨plainId_quiet F.plain_all_loop _, all_loop (Y := gcx X X.A.in1.in1 s4 H4 scope code fp) hr.hd hr.depth M.gen (fun b s' H' I' q' => ?_) (m + 1) s5 L⟩
  exact ⟨.bl b, H', M.back I', rfl, q'⟩
theorem pe_anyG (hr : Room k X.A) (hgl : Gl X "any") (hm : X.mg "any" = none) (TB : GxR.TabB X.base X.mg c P) (hcode : X.env.code = .ref c) (ok : GxOk X.N X.env.scope scope own) (hN : X.N.Nodup) (hi : PI X tg iter wi)
    (hg : ∀ (s : Shared) (H : Hp) (code : Value) (fp : List Addr), PG (gcx X X.A.in1.in1 s H scope code fp) tg g) (ht : ∀ (s : Shared) (H : Hp) (code : Value) (fp : List Addr), PTs (gcx X X.A.in1.in1 s H scope code fp) ifs tt)
    (hel : ∀ (s : Shared) (H : Hp) (code : Value) (fp : List Addr), PE (gcx X X.A.in1.in1 s H scope code fp) elt te) (hs : ∀ v, genFold iter X.env v = pure v := by intro _; rfl)
    (he : starEach [.GeneratorExp elt [⟨tg, iter, ifs, 0⟩] scope gpos] X.env = (false, eval (.GeneratorExp elt [⟨tg, iter, ifs, 0⟩] scope gpos) X.env) :: starEach [] X.env := by rfl) :
    PE X (.Call (.Name "any" p) [.GeneratorExp elt [⟨tg, iter, ifs, 0⟩] scope gpos] [] pos) (tAnyG P wi g tt te (own.map (·.2))) := by
  refine ⟨fun pins s σ H Q I h => ?_⟩
  refine wpAny_Call_Name_kw (ld_blt I hgl hm boot_any ?_)
  refine PyProof.Rows.callWith_builtin1 ?_ he (by rfl)
  rw [he]
  show wpAny _ _ (spliced ((false, eval (.GeneratorExp elt [⟨tg, iter, ifs, 0⟩] scope gpos) X.env) :: backTo pos (starEach [] X.env))) _ _ s
  refine Calls.spliced_cons (gx_make (A0 := X.A.in1.in1) (own := own) (R := fun J H2 => ∃ W : Nat → Nat → List V → Hp → Prop, (∃ m, W 0 m [] H2) ∧ Turns J g tt te (own.map (fun q : Str × Nat => q.2)) (wipe σ (own.map (fun q : Str × Nat => q.2))) (conAny Q) W) hr.hd rfl hr TB hcode ok hN hi hs I h fun it a fp tn J H4 s4 s5 code gn go M q => ?_)
  obtain ⟨W, ⟨m, w0⟩, turns⟩ := q
  refine Calls.spliced_nil ?_
  have L : Live (gcx X X.A.in1.in1 s4 H4 scope code fp) (conAny Q) X.A.in1.in1 a go (wipe σ (own.map (·.2))) gn (m + 1) s5 :=
    M.live (s6 := s5) (pins' := []) (ok_any Q) M.apart0 ok.co (hg s4 H4 code fp) (ht s4 H4 code fp) (hel s4 H4 code fp) turns w0 (fun b hb => (by cases hb)) ⟨rfl, M.inner.bare, fun _ _ _ e => e⟩ rfl (fun p hp => (by cases hp)) rfl M.inner.nolimit
  refine call_function_tree F.kind_any F.plain_any F.entry_any (F.args_any1 _) ?_
  unfold Builtin.«any»
  refine wpAny_bind (m := oneArg "any" _) (wpAny_pure ?_)
  refine wpAny_bind (wpAny_pyIter_gen (M.gen _ M.ga) ?_)
  refine wpAny_pure ⟨plainId_quiet F.plain_any_loop _, any_loop (Y := gcx X X.A.in1.in1 s4 H4 scope code fp) hr.hd hr.depth M.gen (fun b s' H' I' q' => ?_) (m + 1) s5 L⟩
  exact ⟨.bl b, H', M.back I', rfl, q'⟩
end
end GX
set_option Elab.async false
set_option linter.all false
set_option maxRecDepth 100000
set_option maxHeartbeats 4000000
namespace GX
open PySem PySem.Spec PyProof.Rows L2 GenW

/-! ### tuple -/
def conTup0 (Q : VK) : Con := ⟨[], fun _ pins => pins = [], fun ys _ _ => ys.length < sizeLine, fun _ _ => True, fun ys H => ys.length ≤ sizeLine ∧ ∀ p, H p = none → Q (.ref p) (upd H p (.tup ys))⟩
def conTup (Q : VK) (S : Addr) : Con := ⟨[S], fun ys pins => ∃ acc c, Vals ys acc.toList ∧ pins = [(S, lstObj acc c)], fun ys _ _ => ys.length < sizeLine, fun _ _ => True, fun ys H => ys.length ≤ sizeLine ∧ ∀ p, H p = none → Q (.ref p) (upd H p (.tup ys))⟩
theorem ok_tup (Q : VK) (S : Addr) : (conTup Q S).Ok := by
  refine ⟨fun ys pins ⟨acc, c, _, e⟩ p hp => ?_, fun ys pins ⟨acc, c, _, e⟩ b hb => ?_⟩
  · subst e
    rw [List.mem_singleton.mp hp]
    exact ⟨List.mem_singleton.mpr rfl, fun v z => by cases z⟩
  · subst e
    rw [List.mem_singleton.mp hb]
    exact ⟨_, List.mem_singleton.mpr rfl⟩
theorem tup_loop {Y : Cx} {A : Around} {a S : Addr} {go : Obj} {σ0 : L2.St} {g : Nat} {Q : VK} {R : Result → Shared → Prop} {res : Value} (hh : A.handled = none) (hd : A.depth < recursionLimit) (hgo : ∀ h : Heap, h.get? a = some go → h.IsGen a g) (hSa : S ≠ a) (hSc : S ≠ cStatics)
    (hR : ∀ ys acc c s' H, Vals ys acc.toList → Inv Y [(a, go), (S, lstObj acc c)] σ0 H s' → ys.length ≤ sizeLine → (∀ p, H p = none → Q (.ref p) (upd H p (.tup ys))) → R (.ok (.ret res)) s') :
    ∀ (n : Nat) (s : Shared), Live Y (conTup Q S) A.in1.in1 a go σ0 g n s → codeAny (model Y.prog Y.w) A (.builtin "list.extend.loop" ⟨[.ref S, .ref a, res], []⟩) R s := by
  intro n
  induction n with
  | zero =>
    intro s L
    refine codeAny_builtin F.entry_extend_loop ?_
    rw [Around.under_plainId F.plain_extend_loop _]
    show wpAny _ A.in1 (pyNext (.ref a) >>= _) _ _ s
    refine wpAny_bind (gx_next (A := A.in1) hh hd L hgo (fun ys x v pins H s₁ rv hP I kx kap => ?_) fun ys pins H s₁ hP I fi => ?_)
    · obtain ⟨acc, c, hv, rfl⟩ := hP
      have hS1 : s₁.heap.get? S = some (lstObj acc c) := (I.pin (S, lstObj acc c) (List.mem_append_right _ (List.mem_cons_of_mem _ List.mem_cons_self))).1
      have ga : s₁.heap.get? a = some go := (I.pin (a, go) (List.mem_append_right _ List.mem_cons_self)).1
      have keep3 : ∀ b o, b ≠ S → s₁.heap.get? b = some o → (s₁.heap.update S (Obj.mapSeq (·.push v))).get? b = some o := fun b o hbS e => (Heap.get?_update_other _ _ (Ne.symm hbS)).trans e
      obtain ⟨k, hk, _⟩ := kap trivial { s₁ with heap := s₁.heap.update S (Obj.mapSeq (·.push v)) } ⟨rfl, I.bare, fun b o hb e => keep3 b o (fun z => hb (by rw [z]; exact List.mem_singleton.mpr rfl)) e⟩
        ⟨_, ⟨acc.push v, _, by rw [Array.toList_push]; exact hv.append (.cons rv .nil), rfl⟩, fun p hp => by rw [List.mem_singleton.mp hp]; exact Heap.get?_update_self _ hS1 rfl⟩ (keep3 a go (Ne.symm hSa) ga)
        (let ⟨mc, hns, hnn⟩ := I.nolimit; ⟨mc, hns.at' fun o e => keep3 _ o (Ne.symm hSc) e, hnn⟩) rfl
      cases hk
    · obtain ⟨acc, c, hv, rfl⟩ := hP
      exact wpAny_pure (hR ys acc c s₁ H hv I fi.1 fi.2)
  | succ n ih =>
    intro s L
    refine codeAny_builtin F.entry_extend_loop ?_
    rw [Around.under_plainId F.plain_extend_loop _]
    show wpAny _ A.in1 (pyNext (.ref a) >>= _) _ _ s
    refine wpAny_bind (gx_next (A := A.in1) hh hd L hgo (fun ys x v pins H s₁ rv hP I kx kap => ?_) fun ys pins H s₁ hP I fi => ?_)
    · obtain ⟨acc, c, hv, rfl⟩ := hP
      have hS1 : s₁.heap.get? S = some (lstObj acc c) := (I.pin (S, lstObj acc c) (List.mem_append_right _ (List.mem_cons_of_mem _ List.mem_cons_self))).1
      have ga : s₁.heap.get? a = some go := (I.pin (a, go) (List.mem_append_right _ List.mem_cons_self)).1
      have keep3 : ∀ b o, b ≠ S → s₁.heap.get? b = some o → (s₁.heap.update S (Obj.mapSeq (·.push v))).get? b = some o := fun b o hbS e => (Heap.get?_update_other _ _ (Ne.symm hbS)).trans e
      have hl : acc.size < sizeLine := by
        have q1 : ys.length = acc.toList.length := hv.length
        have q2 : ys.length < sizeLine := kx
        have q3 : acc.toList.length = acc.size := Array.length_toList ..
        exact Nat.lt_of_le_of_lt (Nat.le_of_eq (q3.symm.trans q1.symm)) q2
      obtain ⟨k, hk, L'⟩ := kap trivial { s₁ with heap := s₁.heap.update S (Obj.mapSeq (·.push v)) } ⟨rfl, I.bare, fun b o hb e => keep3 b o (fun z => hb (by rw [z]; exact List.mem_singleton.mpr rfl)) e⟩
        ⟨_, ⟨acc.push v, _, by rw [Array.toList_push]; exact hv.append (.cons rv .nil), rfl⟩, fun p hp => by rw [List.mem_singleton.mp hp]; exact Heap.get?_update_self _ hS1 rfl⟩ (keep3 a go (Ne.symm hSa) ga)
        (let ⟨mc, hns, hnn⟩ := I.nolimit; ⟨mc, hns.at' fun o e => keep3 _ o (Ne.symm hSc) e, hnn⟩) rfl
      cases hk
      show wpAny _ A.in1 (updateSeq S (·.push v) >>= _) _ _ _
      refine wpAny_bind ?_
      exact wpAny_updateSeq hS1 rfl (wpAny_pure ⟨plainId_quiet F.plain_extend_loop _, ih _ L'⟩) (Nat.le_of_lt hl) (by show (acc.push v).size ≤ sizeLine + 1; rw [Array.size_push]; omega)
    · obtain ⟨acc, c, hv, rfl⟩ := hP
      exact wpAny_pure (hR ys acc c s₁ H hv I fi.1 fi.2)

section
variable {X : Cx} {pins : List (Addr × Obj)} {σ : L2.St} {A : Around} {elt tg iter : Expr} {ifs : List Expr} {scope : Scope} {gpos : Pos} {own : List (Str × Nat)} {it a : Addr} {fp : List Addr} {tn : Nat → Heap → Prop} {J : It} {H4 : Hp} {s4 s5 : Shared} {code : Value} {g : Nat} {go : Obj}
theorem collect_gx {g1 : TG} {tt : TT} {te : TE} {W : Nat → Nat → List V → Hp → Prop} {m : Nat} {Q : VK} {Q' : List Value → Shared → Prop} {E : Value → Shared → Prop} (hh : A.handled = none) (hd : A.depth < recursionLimit)
    (M : Made X pins σ A.in1.in1 elt tg iter ifs scope gpos own it a fp tn J H4 s4 s5 code g go) (co : scope.isCoroutine = false)
    (hg : PG (gcx X A.in1.in1 s4 H4 scope code fp) tg g1) (ht : PTs (gcx X A.in1.in1 s4 H4 scope code fp) ifs tt) (he : PE (gcx X A.in1.in1 s4 H4 scope code fp) elt te) (turns : Turns J g1 tt te (own.map (·.2)) (wipe σ (own.map (·.2))) (conTup0 Q) W) (w0 : W 0 m [] H4)
    (hQ : ∀ (ys : List V) (acc : Array Value) (s' : Shared) (H' : Hp), Vals ys acc.toList → Inv X pins σ H' s' → ys.length ≤ sizeLine → (∀ p, H' p = none → Q (.ref p) (upd H' p (.tup ys))) → Q' acc.toList s') :
    wpAny (model X.prog X.w) A (collect (.ref a)) Q' E s5 := by
  have hSa : s5.heap.objs.size ≠ a := by rw [M.asz]; exact Nat.succ_ne_self _
  have haS : a < s5.heap.objs.size := by rw [M.asz]; exact Nat.lt_succ_self _
  have hl5 : s5.heap.NoLimit := M.inner.nolimit
  have hcl : cStatics < s5.heap.objs.size := let ⟨_, hn, _⟩ := hl5; hn.lt
  unfold collect
  refine wpAny_bind (wpAny_runValue (codeAny_builtin F.entry_proto_collect ?_))
  rw [Around.under_plainId F.plain_proto_collect _]
  show wpAny _ A.in1 (newList [] >>= fun l => again (.builtin "list.__iadd__" ⟨[l, .ref a], []⟩)) _ _ s5
  refine wpAny_bind (wpAny_newObj_type ?_)
  refine wpAny_pure ⟨plainId_quiet F.plain_list_iadd _, codeAny_builtin F.entry_list_iadd ?_⟩
  rw [Around.under_plainId F.plain_list_iadd _]
  have k1 : ∀ b o, s5.heap.get? b = some o → (s5.heap.push { cls := .type "list", data := .seq ([] : List Value).toArray }).get? b = some o := fun b o e => Heap.get?_push_of_some _ e
  have gen1 := M.gen _ (k1 _ _ M.ga)
  show wpAny _ A.in1 (Builtin.List.listExtendWith (.ref s5.heap.objs.size) (.ref a) (.ref s5.heap.objs.size)) _ _ _
  unfold Builtin.List.listExtendWith
  refine wpAny_bind (wpAny_typeOf (Heap.IsGen.typeIs (s := { s5 with heap := _ }) gen1) ?_)
  have h1 : Builtin.List.listSameRef (.ref s5.heap.objs.size) (.ref a) = false := by simp [Builtin.List.listSameRef, hSa]
  have h2 : (Value.type "generator" == Value.type "list") = false := by decide
  have h3 : (Value.type "generator" == Value.type "tuple") = false := by decide
  simp only [h1, h2, h3, Bool.or_false, Bool.false_eq_true, if_false]
  refine wpAny_bind (wpAny_pyIter_gen (s := { s5 with heap := _ }) gen1 ?_)
  refine wpAny_bind (wpAny_holding ?_)
  unfold Builtin.List.listLengthHint
  refine wpAny_bind (wpAny_specialOf (Heap.IsGen.typeIs (s := { s5 with heap := _ }) gen1) F.gen_no_len ?_)
  show wpAny _ A.in1 (specialOf (Value.ref a) (Str.ofString "__length_hint__") >>= _) _ _ _
  refine wpAny_bind (wpAny_specialOf (Heap.IsGen.typeIs (s := { s5 with heap := _ }) gen1) F.gen_no_hint ?_)
  refine wpAny_pure ?_
  show wpAny _ A.in1 (rule "list.extend.makes-room" >>= fun _ => Builtin.List.listTouch (.ref s5.heap.objs.size) >>= fun _ =>
    again (.builtin "list.extend.loop" ⟨[.ref s5.heap.objs.size, .ref a, .ref s5.heap.objs.size], []⟩)) _ _ _
  refine wpAny_bind (wpAny_rule ?_)
  have hS1 : (s5.heap.push { cls := .type "list", data := .seq ([] : List Value).toArray }).get? s5.heap.objs.size = some { cls := .type "list", data := .seq ([] : List Value).toArray } := Heap.get?_push_size _ rfl
  refine wpAny_bind ?_
  show wpAny _ A.in1 (updateSeq s5.heap.objs.size (·.push .none) >>= fun _ => updateSeq s5.heap.objs.size (·.pop)) _ _ _
  refine wpAny_bind (wpAny_updateSeq hS1 rfl ?_)
  have hS2 := Heap.get?_update_self (Obj.mapSeq (·.push Value.none)) hS1 rfl
  refine wpAny_updateSeq hS2 rfl ?_
  have hS3 := Heap.get?_update_self (Obj.mapSeq (·.pop)) hS2 rfl
  have oth : ∀ b o, b ≠ s5.heap.objs.size → s5.heap.get? b = some o →
      (((s5.heap.push { cls := .type "list", data := .seq ([] : List Value).toArray }).update s5.heap.objs.size (Obj.mapSeq (·.push Value.none))).update s5.heap.objs.size (Obj.mapSeq (·.pop))).get? b = some o :=
    fun b o hb e => (Heap.get?_update_other _ _ (Ne.symm hb)).trans ((Heap.get?_update_other _ _ (Ne.symm hb)).trans (k1 b o e))
  have z : Slp (conTup Q s5.heap.objs.size).B s5 { s5 with heap := ((s5.heap.push { cls := .type "list", data := .seq ([] : List Value).toArray }).update s5.heap.objs.size (Obj.mapSeq (·.push Value.none))).update s5.heap.objs.size (Obj.mapSeq (·.pop)) } :=
    ⟨rfl, M.inner.bare, fun b o hb e => oth b o (fun q => hb (by rw [q]; exact List.mem_singleton.mpr rfl)) e⟩
  have L := M.live (C := conTup Q s5.heap.objs.size) (ok_tup Q _) (M.apart1 haS) co hg ht he turns w0 (fun b hb => by rw [List.mem_singleton.mp hb]; exact M.inner.hok.fresh (Nat.le_refl _)) z
    (pins' := [(s5.heap.objs.size, lstObj #[] _)]) ⟨#[], _, .nil, rfl⟩ (fun p hp => by rw [List.mem_singleton.mp hp]; exact hS3) rfl
    (let ⟨mc, hns, hnn⟩ := hl5; ⟨mc, hns.at' fun o e => oth _ o (Nat.ne_of_lt hcl) e, hnn⟩)
  refine wpAny_pure ⟨plainId_quiet F.plain_extend_loop _, tup_loop (Y := gcx X A.in1.in1 s4 H4 scope code fp) hh hd M.gen hSa (Nat.ne_of_gt hcl) (fun ys acc c s' H' hv I' hle q => ?_) (m + 1) _ L⟩
  have hS' : s'.heap.get? s5.heap.objs.size = some (lstObj acc c) := (I'.pin (s5.heap.objs.size, lstObj acc c) (List.mem_append_right _ (List.mem_cons_of_mem _ List.mem_cons_self))).1
  show wpAny _ A (load s5.heap.objs.size >>= _) _ _ s'
  refine wpAny_bind (wpAny_load hS' ?_)
  exact wpAny_pure (hQ ys acc s' H' hv (M.back I') hle q)
theorem call_tuple_gx {g1 : TG} {tt : TT} {te : TE} {W : Nat → Nat → List V → Hp → Prop} {m : Nat} {Q : VK} {E : Value → Shared → Prop} (hh : A.handled = none) (hd : A.depth < recursionLimit)
    (M : Made X pins σ A.in4 elt tg iter ifs scope gpos own it a fp tn J H4 s4 s5 code g go) (co : scope.isCoroutine = false)
    (hg : PG (gcx X A.in4 s4 H4 scope code fp) tg g1) (ht : PTs (gcx X A.in4 s4 H4 scope code fp) ifs tt) (he : PE (gcx X A.in4 s4 H4 scope code fp) elt te) (turns : Turns J g1 tt te (own.map (·.2)) (wipe σ (own.map (·.2))) (conTup0 Q) W) (w0 : W 0 m [] H4) :
    wpAny (model X.prog X.w) A (call (.type "tuple") [.ref a]) (EP X pins σ Q) E s5 := by
  have new : codeAny (model X.prog X.w) A.in1 (.call (.builtin "tuple.__new__") ⟨[.type "tuple", .ref a], []⟩) (wants (fun obj s₁ => s₁.TypeIs obj "tuple" ∧ EP X pins σ Q obj s₁) E) s5 := by
    refine codeAny_of_tree ?_
    show wpAny _ A.in1.in1 (do checkBuiltinCall "tuple.__new__" ⟨[.type "tuple", .ref a], []⟩; again (.builtin "tuple.__new__" ⟨[.type "tuple", .ref a], []⟩)) _ _ s5
    refine wpAny_bind (wpAny_of_eq (F.newCall_tuple_1 _) (wpAny_pure ⟨plainId_quiet F.plain_tuple_new _, codeAny_builtin F.entry_tuple_new ?_⟩))
    rw [Around.under_plainId F.plain_tuple_new _]
    have hsub := sub_tuple_self
    have hinit := init_tuple_lookup
    have hmh := madeHere_tuple
    have hTI : s5.TypeIs (.ref a) "generator" := Heap.IsGen.typeIs (M.gen _ M.ga)
    wp_walk using wpAny_typeOf hTI, collect_gx (A := A.in1.in1) hh hd M co hg ht he turns w0
    intro ys acc s' H' hv I' hle q
    show wpAny _ _ (Builtin.Tuple.tupleExact acc.toList.toArray >>= fun v => ret v) _ _ _
    unfold Builtin.Tuple.tupleExact
    have hlen := hv.length
    refine wpAny_bind (wpAny_newObj_type ?_ (by show acc.toList.toArray.size ≤ sizeLine; rw [List.size_toArray]; omega))
    refine wpAny_pure ?_
    have hf : H' s'.heap.objs.size = none := I'.hok.fresh (Nat.le_refl _)
    refine ⟨⟨_, Heap.get?_push_size _ rfl, rfl⟩, .ref s'.heap.objs.size, upd H' s'.heap.objs.size (.tup ys), I'.laid (t' := s'.toks) (fun b u e => Heap.get?_push_of_some _ e) (Nat.le_refl _) ?_, rfl, q _ hf⟩
    exact ⟨hle, acc.toList, hv, ⟨_, Heap.get?_push_size _ rfl, rfl, _, rfl⟩⟩
  refine callType_codes (Q₁ := fun obj s₁ => s₁.TypeIs obj "tuple" ∧ EP X pins σ Q obj s₁) F.called_tuple (F.typeCall_tuple_1 _) F.entry_object_init new fun obj s₁ h₁ => ?_
  exact ⟨h₁.1, F.args_object_init_2 obj _, object_init_meets F.called_tuple.init.lookup F.called_tuple.made (by decide) X.prog X.w A.in1 _ s₁ ⟨h₁.1, rfl, h₁.2⟩⟩
end

/-- tuple(elt for tg in iter if ..) -/
def tTupG (P : Addr) (wi : TI) (g : TG) (tt : TT) (te : TE) (vs : List Nat) : TE := fun σ H Q => wi σ H fun J H1 => GxR.TabG H1 P ∧ ∀ H2, GxR.Tabbed P H1 H2 → ∃ W : Nat → Nat → List V → Hp → Prop, (∃ m, W 0 m [] H2) ∧ Turns J g tt te vs (wipe σ vs) (conTup0 Q) W
section
variable {X : Cx} {c P : Addr} {elt tg iter : Expr} {ifs : List Expr} {p pos gpos : Pos} {scope : Scope} {own : List (Str × Nat)} {wi : TI} {g : TG} {tt : TT} {te : TE} {k : Nat}
theorem pe_tupG (hr : Room k X.A) (hgl : Gl X "tuple") (hm : X.mg "tuple" = none) (TB : GxR.TabB X.base X.mg c P) (hcode : X.env.code = .ref c) (ok : GxOk X.N X.env.scope scope own) (hN : X.N.Nodup) (hi : PI X tg iter wi)
    (hg : ∀ (s : Shared) (H : Hp) (code : Value) (fp : List Addr), PG (gcx X X.A.in4 s H scope code fp) tg g) (ht : ∀ (s : Shared) (H : Hp) (code : Value) (fp : List Addr), PTs (gcx X X.A.in4 s H scope code fp) ifs tt)
    (hel : ∀ (s : Shared) (H : Hp) (code : Value) (fp : List Addr), PE (gcx X X.A.in4 s H scope code fp) elt te) (hs : ∀ v, genFold iter X.env v = pure v := by intro _; rfl)
    (he : starEach [.GeneratorExp elt [⟨tg, iter, ifs, 0⟩] scope gpos] X.env = (false, eval (.GeneratorExp elt [⟨tg, iter, ifs, 0⟩] scope gpos) X.env) :: starEach [] X.env := by rfl) :
    PE X (.Call (.Name "tuple" p) [.GeneratorExp elt [⟨tg, iter, ifs, 0⟩] scope gpos] [] pos) (tTupG P wi g tt te (own.map (·.2))) := by
  refine ⟨fun pins s σ H Q I h => ?_⟩
  refine wpAny_Call_Name_kw (ld_blt I hgl hm (show bootBuiltins "tuple" = some (.type "tuple") by decide +kernel) ?_)
  refine PyProof.Rows.callWith_type1 ?_ he (by rfl)
  rw [he]
  show wpAny _ _ (spliced ((false, eval (.GeneratorExp elt [⟨tg, iter, ifs, 0⟩] scope gpos) X.env) :: backTo pos (starEach [] X.env))) _ _ s
  refine Calls.spliced_cons (gx_make (A0 := X.A.in4) (own := own) (R := fun J H2 => ∃ W : Nat → Nat → List V → Hp → Prop, (∃ m, W 0 m [] H2) ∧ Turns J g tt te (own.map (fun q : Str × Nat => q.2)) (wipe σ (own.map (fun q : Str × Nat => q.2))) (conTup0 Q) W) hr.hd rfl hr TB hcode ok hN hi hs I h fun it a fp tn J H4 s4 s5 code gn go M q => ?_)
  obtain ⟨W, ⟨m, w0⟩, turns⟩ := q
  refine Calls.spliced_nil ?_
  exact call_tuple_gx hr.hd hr.depth M ok.co (hg s4 H4 code fp) (ht s4 H4 code fp) (hel s4 H4 code fp) turns w0
end

/-! ### room, scopes, turns -/
theorem Room.gx2 {k : Nat} {X : Cx} (r : Room (k + 1) X.A) {s : Shared} {H : Hp} {scope : Scope} {code : Value} {fp : List Addr} : Room k (gcx X X.A.in1.in1 s H scope code fp).A :=
  ⟨r.hd, by have := r.dp; show X.A.depth + 1 + 3 * k + 5 < _; omega, by have := r.un; show X.A.units + 1 + 1 + 3 + 16 * k + 200 < _; omega⟩
theorem Room.gx4 {k : Nat} {X : Cx} (r : Room (k + 1) X.A) {s : Shared} {H : Hp} {scope : Scope} {code : Value} {fp : List Addr} : Room k (gcx X X.A.in4 s H scope code fp).A :=
  ⟨r.hd, by have := r.dp; show X.A.depth + 1 + 3 * k + 5 < _; omega, by have := r.un; show X.A.units + 1 + 1 + 1 + 1 + 3 + 16 * k + 200 < _; omega⟩
def gxC (N : List Str) (sc scope : Scope) (own : List (Str × Nat)) : Bool :=
  blkC N sc scope own && !scope.isCoroutine && scope.names.all (fun y => match y.2 with | .cell => false | _ => true) && (match scope.names.lookup (".0" : Str) with | some .local => true | _ => false)
theorem gxOk_by {N : List Str} {sc scope : Scope} {own : List (Str × Nat)} (h : gxC N sc scope own = true) : GxOk N sc scope own := by
  unfold gxC at h
  simp only [Bool.and_eq_true] at h
  obtain ⟨⟨⟨h1, h2⟩, h3⟩, h4⟩ := h
  refine ⟨blkOk_by h1, by simpa using h2, fun y hy e => ?_, ?_⟩
  · have q := List.all_eq_true.mp h3 y hy
    rw [e] at q
    cases q
  · split at h4
    · assumption
    · cases h4
/-- the turns over a walk of n: Pv by the turn, what is out, the heap -/
theorem turns_it {J : It} {n : Nat} {G : Hp → Prop} {Yd : Nat → Hp → V → Hp → Prop} (w : Walk J n G Yd) {g : TG} {tt : TT} {te : TE} {vs : List Nat} {σ0 : L2.St} {C : Con} {H : Hp} (Pv : Nat → List V → Hp → Prop) (h0 : Pv 0 [] H) (hG : ∀ i ys H, i ≤ n → Pv i ys H → G H)
    (hs : ∀ i x ys H H', i < n → Pv i ys H → Yd i H x H' → g x σ0 H' fun σ2 H2 => wipe σ2 vs = σ0 ∧ tt σ2 H2 fun b H3 =>
      if b = true then te σ2 H3 fun y H4 => C.Kx ys y H4 ∧ (C.Cn ys y → Pv (i + 1) (ys ++ [y]) H4) else Pv (i + 1) ys H3) (hd : ∀ ys H, Pv n ys H → C.Fi ys H) :
    ∃ W : Nat → Nat → List V → Hp → Prop, (∃ m, W 0 m [] H) ∧ Turns J g tt te vs σ0 C W := by
  refine ⟨fun i m ys H => m = n - i ∧ i ≤ n ∧ Pv i ys H, ⟨n, by simp, Nat.zero_le _, h0⟩, ?_⟩
  rintro i m ys H ⟨rfl, hi, p⟩
  have q := hG i ys H hi p
  by_cases hlt : i < n
  · exact .inr ⟨w.goes i H hlt q, Pv (i + 1), fun ys' H' p' => ⟨n - (i + 1), by omega, rfl, hlt, p'⟩, fun x H' y => hs i x ys H H' hlt p (w.yields i H x H' hlt q y)⟩
  · have e : i = n := by omega
    subst e
    exact .inl ⟨w.stops H q, hd ys H p⟩
end GX
set_option Elab.async false
set_option linter.all false
set_option maxRecDepth 100000
set_option maxHeartbeats 4000000
namespace GX
open PySem PySem.Spec PyProof.Rows L2
open C8 (Cal pe_c)

/-! ### a def of the text with its code object -/
structure Dfn (K : PySem.W.Frag) (mg : Str → Option Value) (x : Str) (st : Stmt) (f c : Addr) : Prop where
  ex : ∃ (oc : Value) (od : Option Addr) (kV doc pm : Value) (an : Option Addr) (ct : Value) (osl : Array (Option Value)),
    K.lookup f = some ⟨oc, od, .func (PySem.W.fnOf x x (defArgs st) (defBody st) (defScope st) .none kV doc pm an (.ref c) ct), osl⟩
  hcd : PySem.W.codeIn K (.ref c) x = true
  kp : PySem.W.keepIn K (.ref f) = true
  mgf : mg x = some (.ref f)
section
variable {P : Program} {w : World} {K : PySem.W.Frag} {mg : Str → Option Value} {base : Heap}
theorem cal {x : Str} {st : Stmt} {f c : Addr} {N ps : List Str} {k : Nat} {sp : Sp} (D : Dfn K mg x st f c)
    (hb : ∀ (kV doc pm : Value) (an : Option Addr) (cdv ct : Value) (us : List Value), us.length = ps.length → bindArgs (PySem.W.fnOf x x (defArgs st) (defBody st) (defScope st) .none kV doc pm an cdv ct) ⟨us, []⟩ = pure (ps.zip us))
    (S : FnScope N ps (defScope st)) (len : ∀ vs H Q E, sp vs H Q E → vs.length = ps.length)
    (hbody : ∀ (A : Around) (outer : List Env) (s : Shared) (H : Hp) (vs : List V) (Q : VK) (E : XK), Room k (A.deeper (envOfC x (defScope st) s.heap.objs.size f (.ref c))) → sp vs H Q E →
      ∃ t, PSs (cxOf CX0 P w K mg base N x (defScope st) f (.ref c) A outer s H E).nox (defBody st) t ∧ t { nx := fun _ H' => Q .non H', rt := Q } (start N vs) H) : Cal P w K mg base (k + 1) x sp [] := by
  obtain ⟨oc, od, kV, doc, pm, an, ct, osl, lk⟩ := D.ex
  refine ⟨f, _, ps, [], fn_of lk D.hcd S len (fun A outer s H vs Q E hr hsp => ?_), D.mgf, D.kp, .all (hb kV doc pm an (.ref c) ct), .nil⟩
  obtain ⟨t, h, q⟩ := hbody A outer s H vs Q E hr hsp
  exact ⟨t, h.nox, q⟩
end

section
variable {P : Program} {w : World} {K : PySem.W.Frag} {mg : Str → Option Value} {base : Heap}
/-- .. for the law itself -/
theorem fnok {x : Str} {st : Stmt} {f c : Addr} {N ps : List Str} {k : Nat} {sp : Sp} {oc kV doc pm ct : Value} {od an : Option Addr} {osl : Array (Option Value)}
    (lk : K.lookup f = some ⟨oc, od, .func (PySem.W.fnOf x x (defArgs st) (defBody st) (defScope st) .none kV doc pm an (.ref c) ct), osl⟩) (hcd : PySem.W.codeIn K (.ref c) x = true)
    (S : FnScope N ps (defScope st)) (len : ∀ vs H Q E, sp vs H Q E → vs.length = ps.length)
    (hbody : ∀ (A : Around) (outer : List Env) (s : Shared) (H : Hp) (vs : List V) (Q : VK) (E : XK), Room k (A.deeper (envOfC x (defScope st) s.heap.objs.size f (.ref c))) → sp vs H Q E →
      ∃ t, PSs (cxOf CX0 P w K mg base N x (defScope st) f (.ref c) A outer s H E).nox (defBody st) t ∧ t { nx := fun _ H' => Q .non H', rt := Q } (start N vs) H) :
    FnOk P w K mg base CX0 (k + 1) f (PySem.W.fnOf x x (defArgs st) (defBody st) (defScope st) .none kV doc pm an (.ref c) ct) ps sp := by
  refine fn_of lk hcd S len (fun A outer s H vs Q E hr hsp => ?_)
  obtain ⟨t, h, q⟩ := hbody A outer s H vs Q E hr hsp
  exact ⟨t, h.nox, q⟩
end

/-! ### heaps: all but X stands -/
def Keep (X : List Addr) (H H' : Hp) : Prop := ∀ b o, H b = some o → b ∉ X → H' b = some o
theorem Keep.refl {X : List Addr} {H : Hp} : Keep X H H := fun _ _ e _ => e
theorem Keep.trans {X : List Addr} {H H1 H2 : Hp} (a : Keep X H H1) (b : Keep X H1 H2) : Keep X H H2 := fun c o e n => b c o (a c o e n) n
theorem Keep.mono {X Y : List Addr} {H H' : Hp} (a : Keep X H H') (h : ∀ b ∈ X, b ∈ Y) : Keep Y H H' := fun c o e n => a c o e fun z => n (h c z)
theorem Keep.new {X : List Addr} {H : Hp} {p : Addr} {o : HO} (n : H p = none) : Keep X H (upd H p o) := fun b u e _ => by rw [upd_ne (ne_of_none e n)]; exact e
theorem Keep.put {X : List Addr} {H : Hp} {p : Addr} {o : HO} (h : p ∈ X) : Keep X H (upd H p o) := fun b u e n => by rw [upd_ne (fun z => n (by rw [z]; exact h))]; exact e
/-- the tables of the defs that hold generator expressions -/
def Tabs (Ts : List Addr) (H : Hp) : Prop := ∀ P ∈ Ts, GxR.TabG H P
theorem Tabs.nott {Ts : List Addr} {H : Hp} (t : Tabs Ts H) {b : Addr} {o : HO} (e : H b = some o) (h : ∀ ps, o ≠ .tbl ps) : b ∉ Ts := fun z => by
  obtain ⟨ps, q, _⟩ := t b z
  rw [e] at q
  exact h ps (Option.some.inj q)
theorem Tabs.none {Ts : List Addr} {H : Hp} (t : Tabs Ts H) {b : Addr} (e : H b = none) : b ∉ Ts := fun z => by
  obtain ⟨ps, q, _⟩ := t b z
  rw [e] at q
  cases q
theorem Tabs.tup {Ts : List Addr} {H : Hp} (t : Tabs Ts H) {b : Addr} {xs : List V} (e : H b = some (.tup xs)) : b ∉ Ts := t.nott e fun _ z => by cases z
theorem Tabs.lst {Ts : List Addr} {H : Hp} (t : Tabs Ts H) {b : Addr} {xs : List V} (e : H b = some (.lst xs)) : b ∉ Ts := t.nott e fun _ z => by cases z
theorem Tabs.upd {Ts : List Addr} {H : Hp} (t : Tabs Ts H) {p : Addr} {o : HO} (h : p ∉ Ts) : Tabs Ts (L2.upd H p o) := fun b hb => by
  obtain ⟨ps, q, r⟩ := t b hb
  exact ⟨ps, by rw [upd_ne (fun z => h (by rw [← z]; exact hb))]; exact q, r⟩
/-- behind a generator expression: its table may have grown -/
theorem Tabs.tabbed {Ts : List Addr} {H H' : Hp} {P : Addr} (t : Tabs Ts H) (h : GxR.Tabbed P H H') : Tabs Ts H' := fun b hb => by
  by_cases e : b = P
  · rw [e]; exact h.1
  · obtain ⟨ps, q, r⟩ := t b hb
    exact ⟨ps, by rw [h.2 b e]; exact q, r⟩
theorem Keep.tabbed {X : List Addr} {H H' : Hp} {P : Addr} (hP : P ∈ X) (h : GxR.Tabbed P H H') : Keep X H H' := fun b o e n => by rw [h.2 b (fun z => n (by rw [z]; exact hP))]; exact e
/-- what a def that reads and makes leaves: the tables may have grown -/
structure Aft (Ts : List Addr) (H H' : Hp) : Prop where
  kp : Keep Ts H H'
  tb : Tabs Ts H'
theorem Aft.trans {Ts : List Addr} {H H1 H2 : Hp} (a : Aft Ts H H1) (b : Aft Ts H1 H2) : Aft Ts H H2 := ⟨a.kp.trans b.kp, b.tb⟩
theorem Aft.refl {Ts : List Addr} {H : Hp} (t : Tabs Ts H) : Aft Ts H H := ⟨Keep.refl, t⟩
theorem Aft.new {Ts : List Addr} {H : Hp} {p : Addr} {o : HO} (t : Tabs Ts H) (n : H p = Option.none) : Aft Ts H (L2.upd H p o) := ⟨Keep.new n, t.upd (t.none n)⟩
theorem Aft.tup {Ts : List Addr} {H H' : Hp} (a : Aft Ts H H') (t : Tabs Ts H) {b : Addr} {xs : List V} (e : H b = some (.tup xs)) : H' b = some (.tup xs) := a.kp b _ e (t.tup e)
theorem Aft.lst {Ts : List Addr} {H H' : Hp} (a : Aft Ts H H') (t : Tabs Ts H) {b : Addr} {xs : List V} (e : H b = some (.lst xs)) : H' b = some (.lst xs) := a.kp b _ e (t.lst e)

/-! ### the law's end with the tables of its defs -/
def TabOf (K : PySem.W.Frag) (mg : Str → Option Value) (h : Heap) (x : Str) : Prop := ∀ (fa c P : Addr) (o : Obj) (fd : FuncData) (e : Value) (dd : Option Addr) (vs : Array Value) (sl : Array (Option Value)),
  mg x = some (.ref fa) → K.lookup fa = some o → o.data = .func fd → fd.code = .ref c → K.lookup c = some ⟨e, dd, .fields vs, sl⟩ → vs[11]? = some (.ref P) → h.get? P = some { cls := .none, data := .fields #[] }
theorem walk_defs {l : PySem.W.OpenLaw} {n k : Nat} {q : Program} {loose : List Str} {XP : (Str → Option Value) → Heap → Prop} {YP : World → Heap → Prop} {d : DefRec} {K : Params → PySem.W.Frag} {CX : World → CXT} {x : Str}
    (hn : l.most = some n) (hn2 : n ≤ sizeLine) (hdf : d.params.defaults = []) (hr : Room k callerA) (hY : ∀ (w : World) (h : Heap), YP w h → (K w.params).In h)
    (F : ∀ (w : World) (mg : Str → Option Value) (fa : Addr) (h : Heap), YP w h → (K w.params).In h → h.Ns mainGlobals mg → mg d.name = some (.ref fa) → (∀ y : Str, ((recsOf q).any fun e => e.name == y) = true → TabOf (K w.params) mg h y) → LamX.LawAtS l w (K w.params) (CX w) k n x mg fa h)
    (hCX : ∀ (w : World) (H : Hp) (s : Shared) (e : Value) (s' : Shared), CX w [] H s (fun _ _ _ => False) e s' → False) :
    PySem.W.WalkO q loose XP YP l.row.toRowW d [] (fun f vs => PySem.call f vs) := by
  refine Att.attach_callB hn hdf fun w s₀ s₁ mg mb fa o pm cd doc a vs ns G Y ho hd hcd hmg hobj hints hlen hbits hg => ?_
  have KX := hY w _ Y
  have own : ∀ y : Str, ((recsOf q).any fun e => e.name == y) = true → TabOf (K w.params) mg s₁.heap y := fun y hrec fa c P o1 fd1 e dd vs1 sl k0 k1 k2 k3 k4 k5 => by
    obtain ⟨dL, hm, hn1⟩ := List.any_eq_true.mp hrec
    have hn2 : dL.name = y := beq_iff_eq.mp hn1
    obtain ⟨a', o', fd', c', P', h1, h2, h3, h4, h5, h6⟩ := G.T.tab dL hm
    rw [hn2, k0] at h1
    cases h1
    have g1 := KX _ _ k1
    rw [g1] at h2
    cases h2
    rw [k2] at h3
    cases h3
    rw [k3] at h4
    cases h4
    obtain ⟨⟨oc, vc, e1, _, e3, e4⟩, hP⟩ := h6
    have g2 := KX _ _ k4
    rw [g2] at e1
    cases e1
    cases e3
    rw [k5] at e4
    cases e4
    exact hP
  obtain ⟨fd, cs, sp, hT, nT, C, hb, hsp, hF⟩ := F w mg fa _ Y KX G.T.g hmg own
  exact LamX.law_callTs KX G.T.g G.T.b G.T.builtins G.T.nolimit hg hT nT C G.T.bmain hobj hints (Nat.le_trans hlen hn2) hr hF hb (fun H hH hS => hsp H a ns hlen hbits hH hS) fun H e s' => hCX w H s₁ e s'
theorem codeHd_of {K : PySem.W.Frag} {h : Heap} (X : K.In h) {c P : Addr} {dd : Option Addr} {vs : Array Value} {sl : Array (Option Value)} {file : Str} {tf tg tt : Tok} {flags text : Int} {inF : Bool} (lc : K.lookup c = some ⟨.type "code", dd, .fields vs, sl⟩)
    (e : vs[11]? = some (.ref P) ∧ vs.getD 11 .none = .ref P ∧ vs.getD 18 .none = .str file tf ∧ vs.getD 7 .none = .int flags tg ∧ vs.getD 9 .none = .bool inF ∧ vs.getD 10 .none = .int text tt ∧ c ≠ P) : PySem.W.CodeHd h c P :=
  ⟨_, vs, file, tf, flags, tg, inF, text, tt, X c _ lc, rfl, rfl, e.1, e.2.1, e.2.2.1, e.2.2.2.1, e.2.2.2.2.1, e.2.2.2.2.2.1, e.2.2.2.2.2.2⟩
theorem tabB_of {base : Heap} {mg : Str → Option Value} {c P : Addr} (t : LamX.TabB base mg c P) : GxR.TabB base mg c P := ⟨t.code, t.bm, t.gP⟩

/-! ### small things -/
theorem small (n : Nat) (h : n ≤ 100000 := by decide) : n ≤ sizeLine := Nat.le_trans h (by decide)
theorem at0 {a : V} {r : List V} : atI (a :: r) 0 = some a := atI_nat (j := 0) rfl
theorem at1 {a b : V} {r : List V} : atI (a :: b :: r) 1 = some b := atI_nat (j := 1) rfl
theorem at2 {a b c : V} {r : List V} : atI (a :: b :: c :: r) 2 = some c := atI_nat (j := 2) rfl
theorem sq_keep {K : PySem.W.Frag} {H H' : Hp} {a W : Addr} {xs : List V} {Ts : List Addr} (h : SqL K H a xs) (t : Tabs Ts H) (k : Keep (W :: Ts) H H') (nW : H W = none) : SqL K H' a xs := by
  have nn : ∀ o, H a = some o → (∀ ps, o ≠ .tbl ps) → a ∉ W :: Ts := fun o e hn z => by
    rcases List.mem_cons.mp z with z | z
    · rw [z, nW] at e
      cases e
    · exact t.nott e hn z
  rcases h with (h | ⟨o, h⟩) | h
  · exact .inl (.inl (k _ _ h (nn _ h fun _ z => by cases z)))
  · exact .inl (.inr ⟨o, k _ _ h (nn _ h fun _ z => by cases z)⟩)
  · exact .inr h
end GX
set_option Elab.async false
set_option linter.all false
set_option maxRecDepth 100000
set_option maxHeartbeats 4000000
/-! Nets as data, and how they stand in the heap. -/
namespace GX
open PySem PySem.Spec PyProof.Rows L2
structure Net where
  many : Nat
  gates : List (Nat × Nat × Nat)
  outs : List Nat
def gateOk (many i : Nat) (g : Nat × Nat × Nat) : Prop := g.1 < 16 ∧ g.2.1 < many + i ∧ g.2.2 < many + i
structure Net.Ok (n : Net) : Prop where
  m1 : 1 ≤ n.many
  m8 : n.many ≤ 8
  g16 : n.gates.length ≤ 16
  gs : ∀ (i : Nat) (g : Nat × Nat × Nat), n.gates[i]? = some g → gateOk n.many i g
  o1 : 1 ≤ n.outs.length
  o8 : n.outs.length ≤ 8
  os : ∀ o ∈ n.outs, o < n.many + n.gates.length
def nV (n : Nat) : V := .int (n : Int)
def gV (g : Nat × Nat × Nat) : List V := [nV g.1, nV g.2.1, nV g.2.2]
/-- the gates at these addresses -/
def GatesAt (H : Hp) (ps : List Addr) (gs : List (Nat × Nat × Nat)) : Prop := ps.length = gs.length ∧ ∀ (i : Nat) (p : Addr) (g : Nat × Nat × Nat), ps[i]? = some p → gs[i]? = some g → H p = some (.tup (gV g))
structure NetAt (H : Hp) (a : Addr) (n : Net) (g o : Addr) (ps : List Addr) : Prop where
  top : H a = some (.tup [nV n.many, .ref g, .ref o])
  gt : H g = some (.tup (ps.map V.ref))
  gs : GatesAt H ps n.gates
  ot : H o = some (.tup (n.outs.map nV))
theorem GatesAt.nil (H : Hp) : GatesAt H [] [] := ⟨rfl, fun i p g e _ => by simp at e⟩
theorem GatesAt.mono {H H' : Hp} {ps : List Addr} {gs : List (Nat × Nat × Nat)} (x : GatesAt H ps gs) (k : ∀ b xs, H b = some (.tup xs) → H' b = some (.tup xs)) : GatesAt H' ps gs := ⟨x.1, fun i p g e1 e2 => k _ _ (x.2 i p g e1 e2)⟩
theorem NetAt.mono {H H' : Hp} {a g o : Addr} {n : Net} {ps : List Addr} (x : NetAt H a n g o ps) (k : ∀ b xs, H b = some (.tup xs) → H' b = some (.tup xs)) : NetAt H' a n g o ps := ⟨k _ _ x.top, k _ _ x.gt, x.gs.mono k, k _ _ x.ot⟩
theorem GatesAt.push {H : Hp} {ps : List Addr} {gs : List (Nat × Nat × Nat)} {p : Addr} {g : Nat × Nat × Nat} (x : GatesAt H ps gs) (h : H p = some (.tup (gV g))) : GatesAt H (ps ++ [p]) (gs ++ [g]) := by
  refine ⟨by rw [List.length_append, List.length_append, x.1]; rfl, fun i q g' e1 e2 => ?_⟩
  by_cases hi : i < ps.length
  · rw [List.getElem?_append_left hi] at e1
    rw [List.getElem?_append_left (by rw [← x.1]; exact hi)] at e2
    exact x.2 i q g' e1 e2
  · rw [List.getElem?_append_right (by omega)] at e1
    rw [List.getElem?_append_right (by rw [← x.1]; omega)] at e2
    have hz : i - ps.length = 0 := by
      obtain ⟨h1, _⟩ := List.getElem?_eq_some_iff.mp e1
      simp at h1
      omega
    rw [hz] at e1
    rw [← x.1, hz] at e2
    cases e1
    cases e2
    exact h
theorem gateOk.at {H : Hp} {ps : List Addr} {gs : List (Nat × Nat × Nat)} (x : GatesAt H ps gs) {i : Nat} {p : Addr} (e : ps[i]? = some p) : ∃ g, gs[i]? = some g ∧ H p = some (.tup (gV g)) := by
  obtain ⟨h1, _⟩ := List.getElem?_eq_some_iff.mp e
  have h2 : i < gs.length := by rw [← x.1]; exact h1
  exact ⟨gs[i], List.getElem?_eq_getElem h2, x.2 i p _ e (List.getElem?_eq_getElem h2)⟩
/-- what a tuple holds it keeps, where but X is kept and X holds none -/
theorem Keep.tups {X : List Addr} {H H' : Hp} (k : Keep X H H') (n : ∀ b ∈ X, ∀ xs, H b ≠ some (.tup xs)) : ∀ b xs, H b = some (.tup xs) → H' b = some (.tup xs) := fun b xs e => k b _ e fun z => n b z xs e
/-! ### the well -/
def Wl (H : Hp) (W : Addr) : Prop := ∃ a b c : Int, H W = some (.lst [.int a, .int b, .int c])
theorem Wl.nt {H : Hp} {W : Addr} (h : Wl H W) : ∀ b ∈ [W], ∀ xs, H b ≠ some (.tup xs) := fun b hb xs e => by
  rw [List.mem_singleton.mp hb] at e
  obtain ⟨_, _, _, q⟩ := h
  rw [e] at q
  cases q
theorem Wl.keep {X : List Addr} {H H' : Hp} {W : Addr} (h : Wl H W) (k : Keep X H H') (n : W ∉ X) : Wl H' W := by
  obtain ⟨a, b, c, e⟩ := h
  exact ⟨a, b, c, k _ _ e n⟩
theorem Wl.tab {Ts : List Addr} {H : Hp} {W : Addr} (h : Wl H W) (t : Tabs Ts H) : W ∉ Ts := by
  obtain ⟨a, b, c, e⟩ := h
  exact t.lst e
theorem Tabs.keep {Ts X : List Addr} {H H' : Hp} (t : Tabs Ts H) (k : Keep X H H') (n : ∀ b ∈ X, b ∉ Ts) : Tabs Ts H' := fun b hb => by
  obtain ⟨ps, q, r⟩ := t b hb
  exact ⟨ps, k b _ q fun z => n b z hb, r⟩
/-! ### words for the readings -/
theorem Same.keep {X : List Addr} {H H' : Hp} (s : Same H H') : Keep X H H' := fun b o e _ => s b o e
theorem Same.new {H : Hp} {p : Addr} {o : HO} (n : H p = none) : Same H (upd H p o) := fun b u e => by rw [upd_ne (ne_of_none e n)]; exact e
theorem catA {K : PySem.W.Frag} {H : Hp} {a b : Addr} {xs ys : List V} {Q : VK} (h1 : H a = some (.tup xs)) (h2 : H b = some (.tup ys)) (hz : xs.length + ys.length ≤ sizeLine) (q : ∀ r H', Same H H' → H' r = some (.tup (xs ++ ys)) → Q (.ref r) H') : rCatA K (.ref a) (.ref b) H Q := by
  refine ⟨a, b, xs, ys, rfl, rfl, SqT.of h1, SqT.of h2, hz, fun e => ?_, fun e1 e2 => ?_, fun e1 e2 p hp => ?_⟩
  · exact q b H (Same.refl _) (by rw [e]; exact h2)
  · exact q a H (Same.refl _) (by rw [e2, List.append_nil]; exact h1)
  · exact q p _ (Same.new hp) upd_same
theorem slA {K : PySem.W.Frag} {H : Hp} {a : Addr} {xs : List V} {lo hi : Option Int} {Q : VK} (h1 : H a = some (.tup xs)) (q : ∀ r H', Same H H' → H' r = some (.tup (cutV xs lo hi)) → Q (.ref r) H') : rSlA K (.ref a) lo hi H Q := by
  refine ⟨a, xs, rfl, SqT.of h1, fun e => ?_, fun e p hp => ?_⟩
  · refine q a H (Same.refl _) ?_
    unfold cutV
    rw [e.1, e.2, List.drop_zero, Nat.sub_zero, List.take_length]
    exact h1
  · exact q p _ (Same.new hp) upd_same
theorem atIf {a b : V} {k : Bool} : atI [a, b] (if k = true then 1 else 0) = some (if k = true then b else a) := by cases k <;> rfl
theorem cut_lo (xs : List V) (n : Nat) : cutV xs (some (n : Int)) none = xs.drop n := by
  unfold cutV
  rw [show HT.sIx xs.length 0 (some (n : Int)) = min n xs.length from HT.sIx_nat xs.length 0 n, HT.sIx_none]
  by_cases h : n ≤ xs.length
  · rw [Nat.min_eq_left h, List.take_of_length_le]
    rw [List.length_drop]
    exact Nat.le_refl _
  · rw [Nat.min_eq_right (by omega), List.drop_of_length_le (Nat.le_refl _), List.drop_of_length_le (by omega), List.take_nil]
theorem cut_hi (xs : List V) (n : Nat) : cutV xs none (some (n : Int)) = xs.take n := by
  unfold cutV
  rw [show HT.sIx xs.length xs.length (some (n : Int)) = min n xs.length from HT.sIx_nat xs.length xs.length n, HT.sIx_none, List.drop_zero, Nat.sub_zero]
  by_cases h : n ≤ xs.length
  · rw [Nat.min_eq_left h]
  · rw [Nat.min_eq_right (by omega), List.take_of_length_le (by omega : xs.length ≤ n), List.take_length]
/-- the well stands, all else is kept -/
structure Wk (W : Addr) (H H' : Hp) : Prop where
  wl : Wl H' W
  kp : Keep [W] H H'
theorem Wk.nxt {W : Addr} {H H1 H2 : Hp} (s : Wk W H H1) (wl : Wl H2 W) (k : Keep [W] H1 H2) : Wk W H H2 := ⟨wl, s.kp.trans k⟩
theorem Wl.same {H H' : Hp} {W : Addr} (h : Wl H W) (s : Same H H') : Wl H' W := by
  obtain ⟨a, b, c, e⟩ := h
  exact ⟨a, b, c, s _ _ e⟩
theorem Wk.same {W : Addr} {H H1 H2 : Hp} (s : Wk W H H1) (e : Same H1 H2) : Wk W H H2 := ⟨s.wl.same e, s.kp.trans (Same.keep e)⟩
theorem Wk.new {W : Addr} {H H1 : Hp} {p : Addr} {o : HO} (s : Wk W H H1) (n : H1 p = none) : Wk W H (upd H1 p o) := s.same (Same.new n)
/-- a tuple stands behind a draw -/
theorem Wl.tup {H H' : Hp} {W : Addr} (h : Wl H W) (k : Keep [W] H H') {b : Addr} {xs : List V} (e : H b = some (.tup xs)) : H' b = some (.tup xs) := k.tups h.nt b xs e
theorem Wl.gates {H H' : Hp} {W : Addr} (h : Wl H W) (k : Keep [W] H H') {ps : List Addr} {gs : List (Nat × Nat × Nat)} (x : GatesAt H ps gs) : GatesAt H' ps gs := x.mono (k.tups h.nt)
theorem Same.gates {H H' : Hp} (s : Same H H') {ps : List Addr} {gs : List (Nat × Nat × Nat)} (x : GatesAt H ps gs) : GatesAt H' ps gs := x.mono fun b xs e => s b _ e
/-- a list of our own, filled behind H: all that was stands -/
structure Own (H H' : Hp) (l : Addr) (xs : List V) : Prop where
  sm : Same H H'
  at_ : H' l = some (.lst xs)
  nw : H l = none
theorem Own.app {H H' : Hp} {l : Addr} {xs : List V} {y : V} (o : Own H H' l xs) : Own H (upd H' l (.lst (xs ++ [y]))) l (xs ++ [y]) :=
  ⟨fun b u e => by rw [upd_ne (ne_of_none e o.nw)]; exact o.sm b u e, upd_same, o.nw⟩
theorem NetAt.same {H H' : Hp} {a g o : Addr} {n : Net} {ps : List Addr} (x : NetAt H a n g o ps) (s : Same H H') : NetAt H' a n g o ps := x.mono fun b xs e => s b _ e
theorem Tabs.same {Ts : List Addr} {H H' : Hp} (t : Tabs Ts H) (s : Same H H') : Tabs Ts H' := fun b hb => by
  obtain ⟨ps, q, r⟩ := t b hb
  exact ⟨ps, s _ _ q, r⟩
theorem Aft.ofSame {Ts : List Addr} {H H' : Hp} (t : Tabs Ts H) (s : Same H H') : Aft Ts H H' := ⟨Same.keep s, Tabs.same t s⟩
theorem NetAt.aft {Ts : List Addr} {H H' : Hp} {a g o : Addr} {n : Net} {ps : List Addr} (x : NetAt H a n g o ps) (t : Tabs Ts H) (s : Aft Ts H H') : NetAt H' a n g o ps := x.mono fun b xs e => s.tup t e
/-! ### rules with the written part named (for generator expressions) -/
section
variable {X : Cx} {K : PySem.W.Frag}
theorem ix_tupK (h : X.K = K := by rfl) : IxR X (rIxT K) := by subst h; exact ix_tup
theorem ix_listK (h : X.K = K := by rfl) : IxR X (rIxL K) := by subst h; exact ix_list
theorem op_in_seqK (h : X.K = K := by rfl) : OpR X (compareOp .In) (rIn K false) := by subst h; exact op_in_seq
theorem op_notIn_seqK (h : X.K = K := by rfl) : OpR X (compareOp .NotIn) (rIn K true) := by subst h; exact op_notIn_seq
theorem len_seqK (h : X.K = K := by rfl) : CallR X (.builtin "len") (fun xs H Q => ∃ p ys, xs = [.ref p] ∧ (SqL K H p ys ∨ SqT K H p ys) ∧ Q (.int ys.length) H) := by subst h; exact call_len_seq
theorem isiK (h : X.K = K := by rfl) : CallR X (.builtin "isinstance") (rIsi K) := by subst h; exact call_isi
theorem op_catAK (h : X.K = K := by rfl) : OpR X (binaryOp .Add) (rCatA K) := by subst h; exact op_catA
theorem sl_tupAK (h : X.K = K := by rfl) : SlR X (rSlA K) := by subst h; exact sl_tupA
end
end GX
set_option Elab.async false
set_option linter.all false
set_option maxRecDepth 100000
set_option maxHeartbeats 4000000
/-! A tuple times an int of one or more. -/
namespace GX
open PySem PySem.Spec PyProof.Rows L2
open AutoSeq1 (wpAny_loadPart')
theorem tuple_mul1 (l : Addr) (items : Array Value) (n : Nat) (dd : Option Addr) (sl : Array (Option Value)) (u : Tok) :
    Meets (Builtin.«tuple.__mul__» ⟨[.ref l, .int 1 u], []⟩) (fun _ R s => s.heap.get? l = some { cls := .type "tuple", dict := dd, data := .seq items n, slots := sl } ∧ R (.ok (.ret (Value.ref l))) s) :=
  .of_wp fun prog w A R s h => by
    obtain ⟨hp, g, d, tk, os⟩ := s
    obtain ⟨hl, h⟩ := h
    have f1 := AutoSeq1.idx_int
    have c1 : (items.isEmpty || (1 : Int) == 1) = true := by cases items.isEmpty <;> rfl
    wp_walk using wpAny_loadPart' hl
    repeat (first
      | (refine wpAny_ite_true (decide_eq_true c1) ?_; wp_walk using wpAny_loadPart' hl))
    exact ⟨_, rfl, h⟩
/-- .. times k: itself by one, else a new one -/
def rRepA (K : PySem.W.Frag) : R2 := fun x y H Q => ∃ l k xs, x = .ref l ∧ y = .int k ∧ SqT K H l xs ∧ xs ≠ [] ∧ 1 ≤ k ∧ k ≤ 1000 ∧ xs.length ≤ 1000 ∧ (k = 1 → Q (.ref l) H) ∧ (2 ≤ k → ∀ p, H p = none → Q (.ref p) (upd H p (.tup (List.replicate k.toNat xs).flatten)))
theorem op_repA {X : Cx} : OpR X (binaryOp .Mult) (rRepA X.K) := by
  intro pins s σ H x y v u Q I rx ry h
  obtain ⟨l, k, xs, rfl, rfl, hT, hne, h1, h2, hz, q1, q2⟩ := h
  by_cases hk : k = 1
  · subst hk
    cases rx
    obtain ⟨t, rfl⟩ := ry
    obtain ⟨its, r, ⟨⟨cls, dd, data, sl⟩, ho, hc, n, hd⟩, hs⟩ := I.tuple hT
    simp only at hc hd
    subst hc hd
    refine wpAny_binaryOp_repeat_ref (T := "tuple") (U := "int") (by decide) ⟨_, ho, rfl⟩ (fun s' => typeIs_int s' 1 t) noFill_tuple_mul F.fills_int_mul F.slot_int_rmul repeat_tuple F.slot_int_index.lookup
      (call_meets F.slot_int_rmul (typeIs_int s 1 t) F.entry_int_rmul (F.args_int_rmul_2 _ _) (int_rmul_tuple 1 t l its.toArray n dd sl)
        ⟨ho, rfl, ⟨_, ho, rfl⟩, call_meets F.slot_tuple_mul ⟨_, ho, rfl⟩ F.entry_tuple_mul (F.args_tuple_mul_2 _ _) (tuple_mul1 l its.toArray n dd sl t) ⟨ho, ?_⟩⟩)
    exact ⟨.ref l, H, I, rfl, q1 rfl⟩
  · exact op_repT pins s σ H _ _ v u Q I rx ry ⟨l, k, xs, rfl, rfl, hT, hne, by omega, h2, hz, q2 (by omega)⟩
end GX
set_option Elab.async false
set_option linter.all false
set_option maxRecDepth 100000
set_option maxHeartbeats 4000000
namespace K4
open PySem PySem.Spec PyProof.Rows L2 GX
open C8 (Cal pe_c)
def topS (i : Nat) : Stmt := PySem.Challenge.pw_tablecover_k04_whole_all_rows.main.body.getD i (.Pass ⟨0, 0, 0, 0⟩)
abbrev s_row_of : Stmt := topS 1
theorem sc_row_of : FnScope ["net", "number", "at"] ["net", "number"] (defScope s_row_of) := ⟨rfl, rfl, rfl, by decide +kernel, rfl, by decide +kernel, by decide +kernel⟩
abbrev s_gate_worth : Stmt := topS 2
theorem sc_gate_worth : FnScope ["kind", "first", "second"] ["kind", "first", "second"] (defScope s_gate_worth) := ⟨rfl, rfl, rfl, by decide +kernel, rfl, by decide +kernel, by decide +kernel⟩
abbrev s_worths : Stmt := topS 3
theorem sc_worths : FnScope ["net", "row", "told", "kind", "one", "other"] ["net", "row"] (defScope s_worths) := ⟨rfl, rfl, rfl, by decide +kernel, rfl, by decide +kernel, by decide +kernel⟩
abbrev s_outs_at : Stmt := topS 4
theorem sc_outs_at : FnScope ["net", "row", "told", "out"] ["net", "row"] (defScope s_outs_at) := ⟨rfl, rfl, rfl, by decide +kernel, rfl, by decide +kernel, by decide +kernel⟩
abbrev s__law_well : Stmt := topS 6
theorem sc__law_well : FnScope ["_law_script", "_law_k", "_law_cell"] ["_law_script", "_law_k"] (defScope s__law_well) := ⟨rfl, rfl, rfl, by decide +kernel, rfl, by decide +kernel, by decide +kernel⟩
abbrev s__law_take : Stmt := topS 7
theorem sc__law_take : FnScope ["_law_well_here", "_law_many", "_law_digit", "_law_number"] ["_law_well_here", "_law_many"] (defScope s__law_take) := ⟨rfl, rfl, rfl, by decide +kernel, rfl, by decide +kernel, by decide +kernel⟩
abbrev s__law_place : Stmt := topS 8
theorem sc__law_place : FnScope ["_law_well_here", "_law_wire", "_law_way", "_law_near"] ["_law_well_here", "_law_wire", "_law_way"] (defScope s__law_place) := ⟨rfl, rfl, rfl, by decide +kernel, rfl, by decide +kernel, by decide +kernel⟩
abbrev s__law_net : Stmt := topS 9
theorem sc__law_net : FnScope ["_law_well_here", "_law_most", "_law_many_gates", "_law_way", "_law_many", "_law_count", "_law_gates", "_law_wire", "_law_alike", "_law_one", "_law_other", "_law_wires", "_law_manner", "_law_bound", "_law_outs", "_law_k", "_law_far", "_law_near", "_law_at"] ["_law_well_here", "_law_most", "_law_many_gates"] (defScope s__law_net) := ⟨rfl, rfl, rfl, by decide +kernel, rfl, by decide +kernel, by decide +kernel⟩
abbrev s__law_columns : Stmt := topS 10
theorem sc__law_columns : FnScope ["_law_net_here", "_law_rows", "_law_full", "_law_k", "_law_found", "_law_block", "_law_wire", "_law_column", "_law_at", "_law_r", "_law_kind", "_law_one", "_law_other", "_law_a", "_law_b"] ["_law_net_here", "_law_rows"] (defScope s__law_columns) := ⟨rfl, rfl, rfl, by decide +kernel, rfl, by decide +kernel, by decide +kernel⟩
abbrev s__law_right : Stmt := topS 11
theorem sc__law_right : FnScope ["_law_net_here", "_law_rows", "_law_wire", "_law_columns_here", "_law_seen", "_law_number", "_law_row", "_law_told", "_law_column"] ["_law_net_here"] (defScope s__law_right) := ⟨rfl, rfl, rfl, by decide +kernel, rfl, by decide +kernel, by decide +kernel⟩
abbrev s_law : Stmt := topS 12
theorem sc_law : FnScope ["_law_script", "_law_k"] ["_law_script"] (defScope s_law) := ⟨rfl, rfl, rfl, by decide +kernel, rfl, by decide +kernel, by decide +kernel⟩
structure Txt (mg : Str → Option Value) : Prop where
  b_int : mg "int" = none
  b_len : mg "len" = none
  b_list : mg "list" = none
  b_max : mg "max" = none
  b_min : mg "min" = none
  b_range : mg "range" = none
  b_tuple : mg "tuple" = none
section
variable {P : Program} {w : World} {K : PySem.W.Frag} {mg : Str → Option Value} {base : Heap}
/-! ### the draws -/
def spTake : Sp := fun vs H Q _ => ∃ (W : Addr) (m : Int), vs = [.ref W, .int m] ∧ Wl H W ∧ 0 < m ∧ m < 1073741824 ∧ ∀ d H', 0 ≤ d → d < m → Wl H' W → Keep [W] H H' → Q (.int d) H'
theorem ok_take {f c : Addr} (D : Dfn K mg "_law_take" s__law_take f c) : Cal P w K mg base 1 "_law_take" spTake [] := by
  refine cal D (fun _ _ _ _ _ _ us hl => match us, hl with | [_, _], _ => rfl) sc__law_take (fun vs H Q E h => ?_) (fun A outer s H vs Q E hr h => ?_)
  · obtain ⟨W, m, rfl, _⟩ := h
    rfl
  · obtain ⟨W, m, rfl, ⟨a, b, c, hW⟩, hm0, hm1, q⟩ := h
    refine ⟨_, (pss_cons (ps_if (pt_cmpR op_gt (pe_ix ix_list (pv 0) pe_int (fun _ _ => rfl)) pe_int (nomark _)) (pss_cons (ps_set (i := 2) sc__law_take.nd rfl (by first | exact Or.inl rfl | exact Or.inr rfl) (pe_op op_mod (pe_ix ix_list (pv 0) pe_int (fun _ _ => rfl)) (pv 1)))
      (pss_cons (ps_asg (pe_op op_fdiv (pe_ix ix_list (pv 0) pe_int (fun _ _ => rfl)) (pv 1)) (pg_sub (pv 0) pe_int set_list))
      (pss_one (ps_ret (pv 2))))) pss_nil)
      (pss_cons (ps_asg (pe_op op_add (pe_ix ix_list (pv 0) pe_int (fun _ _ => rfl)) pe_int) (pg_sub (pv 0) pe_int set_list))
      (pss_cons (ps_set (i := 3) sc__law_take.nd rfl (by first | exact Or.inl rfl | exact Or.inr rfl) (pe_op op_mod (pe_op op_mul (pe_op op_add (pe_ix ix_list (pv 0) pe_int (fun _ _ => rfl)) (pe_op op_mul pe_int (pe_ix ix_list (pv 0) pe_int (fun _ _ => rfl)))) pe_int) pe_int))
      (pss_cons (ps_set (i := 3) sc__law_take.nd rfl (by first | exact Or.inl rfl | exact Or.inr rfl) (pe_op op_mod (pe_op op_mul (pv 3) (pe_op op_add (pv 3) pe_int)) pe_int))
      (pss_one (ps_ret (pe_op op_mod (pe_op op_fdiv (pe_op op_mul (pe_op op_mod (pe_op op_add (pe_op op_mul (pv 3) (pv 3)) (pe_op op_mul pe_int (pe_ix ix_list (pv 0) pe_int (fun _ _ => rfl)))) pe_int) pe_int) pe_int) (pv 1)))))))), ?_⟩
    refine ⟨_, rfl, W, _, 0, _, rfl, rfl, SqL.of hW, at0, _, _, rfl, rfl, _, rfl, ite2 (fun g => ?_) (fun g => ?_)⟩
    · refine ⟨_, rfl, W, _, 0, _, rfl, rfl, SqL.of hW, at0, _, rfl, _, _, rfl, rfl, hm0, ?_⟩
      refine ⟨_, rfl, W, _, 0, _, rfl, rfl, SqL.of hW, at0, _, rfl, _, _, rfl, rfl, ⟨hm0, hm1⟩, _, rfl, W, _, 0, 0, rfl, rfl, hW, rfl, ?_⟩
      refine ⟨_, rfl, ?_⟩
      exact q _ _ (Int.emod_nonneg _ (by omega)) (Int.emod_lt_of_pos _ hm0) ⟨_, _, _, upd_same⟩ (Keep.put (List.mem_singleton.mpr rfl))
    · refine ⟨_, rfl, W, _, 2, _, rfl, rfl, SqL.of hW, at2, _, _, rfl, rfl, _, rfl, W, _, 2, 2, rfl, rfl, hW, rfl, ?_⟩
      have hW2 : (upd H W (.lst [.int a, .int b, .int (c + 1)])) W = some (.lst [.int a, .int b, .int (c + 1)]) := upd_same
      refine ⟨_, rfl, W, _, 1, _, rfl, rfl, SqL.of hW2, at1, _, rfl, W, _, 2, _, rfl, rfl, SqL.of hW2, at2, _, _, rfl, rfl, .inl (by omega), _, _, rfl, rfl, _, _, rfl, rfl, .inr (by omega), _, _, rfl, rfl, (by show (0 : Int) < 2147483647; decide), ?_⟩
      have b1 := Int.emod_nonneg ((b + 7919 * (c + 1)) * 48271) (show (2147483647 : Int) ≠ 0 by decide)
      have b2 := Int.emod_lt_of_pos ((b + 7919 * (c + 1)) * 48271) (show (0 : Int) < 2147483647 by decide)
      generalize ((b + 7919 * (c + 1)) * 48271) % 2147483647 = n1 at b1 b2 ⊢
      refine ⟨_, rfl, _, rfl, _, _, rfl, rfl, _, _, rfl, rfl, .inl (by omega), _, _, rfl, rfl, (by show (0 : Int) < 2147483629; decide), ?_⟩
      have b3 := Int.emod_nonneg (n1 * (n1 + 69621)) (show (2147483629 : Int) ≠ 0 by decide)
      have b4 := Int.emod_lt_of_pos (n1 * (n1 + 69621)) (show (0 : Int) < 2147483629 by decide)
      generalize (n1 * (n1 + 69621)) % 2147483629 = n2 at b3 b4 ⊢
      refine ⟨_, rfl, _, rfl, _, _, rfl, rfl, .inl (by omega), _, rfl, W, _, 2, _, rfl, rfl, SqL.of hW2, at2, _, _, rfl, rfl, .inl (by omega), _, _, rfl, rfl, _, _, rfl, rfl, (by show (0 : Int) < 2147483587; decide), _, _, rfl, rfl, .inr (by omega), _, _, rfl, rfl, ⟨by decide, by decide⟩, _, rfl, _, _, rfl, rfl, hm0, ?_⟩
      exact q _ _ (Int.emod_nonneg _ (by omega)) (Int.emod_lt_of_pos _ hm0) ⟨_, _, _, upd_same⟩ (Keep.put (List.mem_singleton.mpr rfl))
def spWell (K : PySem.W.Frag) : Sp := fun vs H Q _ => ∃ (a : Addr) (ns : List Int) (k : Nat), vs = [.ref a, .int k] ∧ SqL K H a (ns.map V.int) ∧ ∀ p H', H p = none → Wl H' p → Keep [] H H' → Q (.ref p) H'
theorem ok_well {f c : Addr} (D : Dfn K mg "_law_well" s__law_well f c) (T : Txt mg) : Cal P w K mg base 1 "_law_well" (spWell K) [] := by
  refine cal D (fun _ _ _ _ _ _ us hl => match us, hl with | [_, _], _ => rfl) sc__law_well (fun vs H Q E h => ?_) (fun A outer s H vs Q E hr h => ?_)
  · obtain ⟨a, ns, k, rfl, _⟩ := h
    rfl
  · obtain ⟨a, ns, k, rfl, hS, q⟩ := h
    refine ⟨_, (pss_cons (ps_set (i := 2) sc__law_well.nd rfl (by first | exact Or.inl rfl | exact Or.inr rfl) pe_int)
      (pss_cons (ps_if (pt_cmpR op_lt (pv 1) (pe_callB call_len_seq (by rfl) T.b_len (by decide +kernel) (pa_cons (pv 0) pa_nil)) (nomark _)) (pss_one (ps_set (i := 2) sc__law_well.nd rfl (by first | exact Or.inl rfl | exact Or.inr rfl) (pe_ix ix_list (pv 0) (pv 1) (fun _ _ => rfl)))) pss_nil)
      (pss_one (ps_ret (pe_lst (pa_cons (pe_op op_mul (pv 2) (pe_callTy call_int1 (by rfl) T.b_int (by decide +kernel) (pa_cons (pe_cmpR op_ge (pv 2) (pe_op op_pow pe_int pe_int) (nomark _)) pa_nil))) (pa_cons (pe_op op_add (pe_op op_mod (pv 2) pe_int) (pe_op op_mul pe_int (pv 1))) (pa_cons pe_int pa_nil)))))))), ?_⟩
    refine ⟨_, rfl, _, rfl, a, _, rfl, .inl hS, _, _, rfl, rfl, _, rfl, ite2 (fun g => ?_) (fun g => ?_)⟩
    · have hk : k < ns.length := by
        have := of_decide_eq_true g
        rw [List.length_map] at this
        omega
      have hx : (ns.map V.int)[k]? = some (.int ns[k]) := by rw [List.getElem?_map, List.getElem?_eq_getElem hk]; rfl
      refine ⟨_, rfl, _, rfl, a, _, _, _, rfl, rfl, hS, atI_nat hx, ?_⟩
      refine ⟨_, rfl, _, rfl, _, _, rfl, rfl, ⟨by decide, by decide, by decide⟩, _, _, rfl, rfl, .inr ⟨_, rfl, _, _, rfl, rfl, .inr (by split <;> decide), _, rfl, _, _, rfl, rfl, (by show (0 : Int) < 2147483647; decide), _, rfl, _, _, rfl, rfl, .inl (by omega), _, _, rfl, rfl, small 3, fun p hp => ?_⟩⟩
      exact q p _ hp ⟨_, _, _, upd_same⟩ (Keep.new hp)
    · refine ⟨_, rfl, _, rfl, _, _, rfl, rfl, ⟨by decide, by decide, by decide⟩, _, _, rfl, rfl, .inr ⟨_, rfl, _, _, rfl, rfl, .inr (by split <;> decide), _, rfl, _, _, rfl, rfl, (by show (0 : Int) < 2147483647; decide), _, rfl, _, _, rfl, rfl, .inl (by omega), _, _, rfl, rfl, small 3, fun p hp => ?_⟩⟩
      exact q p _ hp ⟨_, _, _, upd_same⟩ (Keep.new hp)
def spPlace : Sp := fun vs H Q _ => ∃ (W : Addr) (wire way : Int), vs = [.ref W, .int wire, .int way] ∧ Wl H W ∧ 1 ≤ wire ∧ wire < 1000 ∧ ∀ d H', 0 ≤ d → d < wire → Wl H' W → Keep [W] H H' → Q (.int d) H'
theorem ok_place {f c : Addr} (D : Dfn K mg "_law_place" s__law_place f c) (T : Txt mg) (c__law_take : Cal P w K mg base 1 "_law_take" spTake []) : Cal P w K mg base 2 "_law_place" spPlace [] := by
  refine cal D (fun _ _ _ _ _ _ us hl => match us, hl with | [_, _, _], _ => rfl) sc__law_place (fun vs H Q E h => ?_) (fun A outer s H vs Q E hr h => ?_)
  · obtain ⟨W, wire, way, rfl, _⟩ := h
    rfl
  · obtain ⟨W, wire, way, rfl, hW, h1, h2, q⟩ := h
    refine ⟨_, (pss_cons (ps_set (i := 3) sc__law_place.nd rfl (by first | exact Or.inl rfl | exact Or.inr rfl) (pe_c c__law_take hr (by decide) (by rfl) (pa_cons (pv 0) (pa_cons pe_int pa_nil))))
      (pss_cons (ps_if (PW.pt (pw_or (pt_cmpR op_eq (pv 2) pe_int (nomark _)) (pw_or1 (pt_cmpR op_eq (pe_c c__law_take hr (by decide) (by rfl) (pa_cons (pv 0) (pa_cons pe_int pa_nil))) pe_int (nomark _))))) (pss_one (ps_ret (pe_callB (call_max2 rfl) (by rfl) T.b_max (by decide +kernel) (pa_cons pe_int (pa_cons (pe_op op_sub (pe_op op_sub (pv 1) pe_int) (pv 3)) pa_nil))))) pss_nil)
      (pss_one (ps_ret (pe_c c__law_take hr (by decide) (by rfl) (pa_cons (pv 0) (pa_cons (pv 1) pa_nil))))))), ?_⟩
    refine ⟨_, rfl, W, 3, rfl, hW, by decide, by decide, fun d H1 d0 d3 w1 k1 => ?_⟩
    have last : ∀ H2, Wl H2 W → Keep [W] H H2 → Q (.int (if 0 < wire - 1 - d then wire - 1 - d else 0)) H2 := fun H2 w2 k2 => by
      refine q _ _ ?_ ?_ w2 k2 <;> split <;> omega
    refine ⟨_, rfl, rfl, _, rfl, ite2 (fun g => ?_) (fun g => ?_)⟩
    · refine ⟨_, rfl, _, _, rfl, rfl, _, rfl, _, _, rfl, rfl, _, _, rfl, ?_⟩
      exact last _ w1 k1
    · refine ⟨_, rfl, W, 2, rfl, w1, by decide, by decide, fun e H2 e0 e2 w2 k2 => ?_⟩
      refine ⟨rfl, _, rfl, ite2 (fun g => ?_) (fun g => ?_)⟩
      · refine ⟨_, rfl, _, _, rfl, rfl, _, rfl, _, _, rfl, rfl, _, _, rfl, ?_⟩
        exact last _ w2 (k1.trans k2)
      · refine ⟨_, rfl, _, rfl, W, wire, rfl, w2, by omega, by omega, fun z H3 z0 z1 w3 k3 => ?_⟩
        exact q _ _ z0 z1 w3 ((k1.trans k2).trans k3)
/-! ### a net drawn -/
def spNet : Sp := fun vs H Q _ => ∃ (W : Addr) (most mg : Nat), vs = [.ref W, nV most, nV mg] ∧ Wl H W ∧ 1 ≤ most ∧ most ≤ 8 ∧ mg ≤ 16 ∧ ∀ a n g o ps H', n.Ok → n.many ≤ most → n.gates.length ≤ mg → NetAt H' a n g o ps → Wk W H H' → Q (.ref a) H'
theorem ok_net {f c : Addr} (D : Dfn K mg "_law_net" s__law_net f c) (T : Txt mg) (c__law_take : Cal P w K mg base 1 "_law_take" spTake []) (c__law_place : Cal P w K mg base 2 "_law_place" spPlace []) : Cal P w K mg base 3 "_law_net" spNet [] := by
  refine cal D (fun _ _ _ _ _ _ us hl => match us, hl with | [_, _, _], _ => rfl) sc__law_net (fun vs H Q E h => ?_) (fun A outer s H vs Q E hr h => ?_)
  · obtain ⟨W, most, mg, rfl, _⟩ := h
    rfl
  · obtain ⟨W, most, gm, rfl, hW, h1, h8, hg, q⟩ := h
    refine ⟨_, (pss_cons (ps_set (i := 3) sc__law_net.nd rfl (by first | exact Or.inl rfl | exact Or.inr rfl) (pe_c c__law_take hr (by decide) (by rfl) (pa_cons (pv 0) (pa_cons pe_int pa_nil))))
      (pss_cons (ps_set (i := 4) sc__law_net.nd rfl (by first | exact Or.inl rfl | exact Or.inr rfl) (pe_op op_add pe_int (pe_c c__law_take hr (by decide) (by rfl) (pa_cons (pv 0) (pa_cons (pv 1) pa_nil)))))
      (pss_cons (ps_set (i := 5) sc__law_net.nd rfl (by first | exact Or.inl rfl | exact Or.inr rfl) (pe_ix ix_list (pe_lst (pa_cons (pe_c c__law_take hr (by decide) (by rfl) (pa_cons (pv 0) (pa_cons (pe_op op_add (pv 2) pe_int) pa_nil))) (pa_cons (pv 2) pa_nil))) (pe_callTy call_int1 (by rfl) T.b_int (by decide +kernel) (pa_cons (pe_cmpR op_eq (pv 3) pe_int (nomark _)) pa_nil)) (fun _ _ => rfl)))
      (pss_cons (ps_set (i := 6) sc__law_net.nd rfl (by first | exact Or.inl rfl | exact Or.inr rfl) (pe_tup pa_nil))
      (pss_cons (ps_for PassesOwn.never rfl (pi_range2 (by rfl) T.b_range (pa_cons (pv 4) (pa_cons (pe_op op_add (pv 4) (pv 5)) pa_nil))) (pg_name (i := 7) sc__law_net.nd rfl (by first | exact Or.inl rfl | exact Or.inr rfl))
        (pss_cons (ps_set (i := 8) sc__law_net.nd rfl (by first | exact Or.inl rfl | exact Or.inr rfl) (pe_cmpR op_eq (pe_c c__law_take hr (by decide) (by rfl) (pa_cons (pv 0) (pa_cons pe_int pa_nil))) pe_int (nomark _)))
      (pss_cons (ps_set (i := 9) sc__law_net.nd rfl (by first | exact Or.inl rfl | exact Or.inr rfl) (pe_ix ix_list (pe_lst (pa_cons (pe_c c__law_place hr (by decide) (by rfl) (pa_cons (pv 0) (pa_cons (pv 7) (pa_cons (pv 3) pa_nil)))) (pa_cons (pe_op op_sub (pv 7) pe_int) pa_nil))) (pe_callTy call_int1 (by rfl) T.b_int (by decide +kernel) (pa_cons (pe_cmpR op_eq (pv 3) pe_int (nomark _)) pa_nil)) (fun _ _ => rfl)))
      (pss_cons (ps_set (i := 10) sc__law_net.nd rfl (by first | exact Or.inl rfl | exact Or.inr rfl) (pe_ix ix_list (pe_lst (pa_cons (pe_c c__law_place hr (by decide) (by rfl) (pa_cons (pv 0) (pa_cons (pv 7) (pa_cons (pv 3) pa_nil)))) (pa_cons (pv 9) pa_nil))) (pe_callTy call_int1 (by rfl) T.b_int (by decide +kernel) (pa_cons (pv 8) pa_nil)) (fun _ _ => rfl)))
      (pss_one (ps_set (i := 6) sc__law_net.nd rfl (by first | exact Or.inl rfl | exact Or.inr rfl) (pe_op op_catA (pv 6) (pe_tup (pa_cons (pe_tup (pa_cons (pe_c c__law_take hr (by decide) (by rfl) (pa_cons (pv 0) (pa_cons pe_int pa_nil))) (pa_cons (pv 9) (pa_cons (pv 10) pa_nil)))) pa_nil)))))))))
      (pss_cons (ps_set (i := 11) sc__law_net.nd rfl (by first | exact Or.inl rfl | exact Or.inr rfl) (pe_op op_add (pv 4) (pv 5)))
      (pss_cons (ps_set (i := 12) sc__law_net.nd rfl (by first | exact Or.inl rfl | exact Or.inr rfl) (pe_c c__law_take hr (by decide) (by rfl) (pa_cons (pv 0) (pa_cons pe_int pa_nil))))
      (pss_cons (ps_set (i := 13) sc__law_net.nd rfl (by first | exact Or.inl rfl | exact Or.inr rfl) (pe_ix ix_list (pe_lst (pa_cons (pv 11) (pa_cons (pv 4) pa_nil))) (pe_callTy call_int1 (by rfl) T.b_int (by decide +kernel) (pa_cons (pe_cmpR op_eq (pv 12) pe_int (nomark _)) pa_nil)) (fun _ _ => rfl)))
      (pss_cons (ps_set (i := 14) sc__law_net.nd rfl (by first | exact Or.inl rfl | exact Or.inr rfl) (pe_tup (pa_cons (pe_ix ix_list (pe_lst (pa_cons (pe_op op_sub (pv 11) pe_int) (pa_cons (pe_c c__law_take hr (by decide) (by rfl) (pa_cons (pv 0) (pa_cons (pv 13) pa_nil))) pa_nil))) (pe_callTy call_int1 (by rfl) T.b_int (by decide +kernel) (pa_cons (pe_cmpR op_gt (pv 12) pe_int (nomark _)) pa_nil)) (fun _ _ => rfl)) pa_nil)))
      (pss_cons (ps_for PassesOwn.never rfl (pi_range1 (by rfl) T.b_range (pa_cons (pe_ix ix_list (pe_lst (pa_cons (pe_c c__law_take hr (by decide) (by rfl) (pa_cons (pv 0) (pa_cons pe_int pa_nil))) (pa_cons pe_int pa_nil))) (pe_callTy call_int1 (by rfl) T.b_int (by decide +kernel) (pa_cons (pe_cmpR op_eq (pv 3) pe_int (nomark _)) pa_nil)) (fun _ _ => rfl)) pa_nil)) (pg_name (i := 15) sc__law_net.nd rfl (by first | exact Or.inl rfl | exact Or.inr rfl))
        (pss_cons (ps_set (i := 16) sc__law_net.nd rfl (by first | exact Or.inl rfl | exact Or.inr rfl) (pe_or (pe_cmpR op_eq (pe_c c__law_take hr (by decide) (by rfl) (pa_cons (pv 0) (pa_cons pe_int pa_nil))) pe_int (nomark _)) (pe_one (pe_cmpR op_gt (pv 12) pe_int (nomark _)))))
      (pss_cons (ps_set (i := 17) sc__law_net.nd rfl (by first | exact Or.inl rfl | exact Or.inr rfl) (pe_callB (call_max2 rfl) (by rfl) T.b_max (by decide +kernel) (pa_cons pe_int (pa_cons (pe_op op_sub (pe_op op_sub (pv 11) pe_int) (pe_c c__law_take hr (by decide) (by rfl) (pa_cons (pv 0) (pa_cons pe_int pa_nil)))) pa_nil))))
      (pss_one (ps_set (i := 14) sc__law_net.nd rfl (by first | exact Or.inl rfl | exact Or.inr rfl) (pe_op op_catA (pv 14) (pe_tup (pa_cons (pe_ix ix_list (pe_lst (pa_cons (pv 17) (pa_cons (pe_c c__law_take hr (by decide) (by rfl) (pa_cons (pv 0) (pa_cons (pv 13) pa_nil))) pa_nil))) (pe_callTy call_int1 (by rfl) T.b_int (by decide +kernel) (pa_cons (pv 16) pa_nil)) (fun _ _ => rfl)) pa_nil))))))))
      (pss_cons (ps_set (i := 18) sc__law_net.nd rfl (by first | exact Or.inl rfl | exact Or.inr rfl) (pe_c c__law_take hr (by decide) (by rfl) (pa_cons (pv 0) (pa_cons (pe_callB call_len_seq (by rfl) T.b_len (by decide +kernel) (pa_cons (pv 14) pa_nil)) pa_nil))))
      (pss_one (ps_ret (pe_tup (pa_cons (pv 4) (pa_cons (pv 6) (pa_cons (pe_op op_catA (pe_slice sl_tupA (pv 14) (po_some (pv 18)) po_none) (pe_slice sl_tupA (pv 14) po_none (po_some (pv 18)))) pa_nil))))))))))))))))), ?_⟩
    -- way, many
    refine ⟨_, rfl, W, 4, rfl, hW, by decide, by decide, fun way H1 _ _ w1 k1 => ?_⟩
    have s1 : Wk W H H1 := ⟨w1, k1⟩
    refine ⟨_, rfl, _, rfl, W, most, rfl, w1, by omega, by omega, fun m0 H2 m1 m2 w2 k2 => ⟨_, _, rfl, rfl, ?_⟩⟩
    have s2 := s1.nxt w2 k2
    -- count
    refine ⟨_, rfl, _, rfl, _, _, rfl, rfl, W, gm + 1, rfl, w2, by omega, by omega, fun c0 H3 c1 c2 w3 k3 => ⟨_, rfl, small 2, fun l3 n3 => ?_⟩⟩
    have s3 := (s2.nxt w3 k3).new (o := .lst [.int c0, nV gm]) n3
    obtain ⟨count, ec, hc0, hc1⟩ : ∃ count : Int, (if decide (V.int way = V.int 2) = true then nV gm else V.int c0) = V.int count ∧ 0 ≤ count ∧ count ≤ gm := by
      split
      · exact ⟨gm, rfl, by omega, by omega⟩
      · exact ⟨c0, rfl, by omega, by omega⟩
    refine ⟨_, rfl, rfl, .inr ⟨_, rfl, l3, _, _, .int count, rfl, rfl, SqL.of upd_same, (by rw [atIf]; exact congrArg some ec), ?_⟩⟩
    -- gates = ()
    refine ⟨small 0, fun g0 ng0 => ?_⟩
    have s4 := s3.new (o := .tup []) ng0
    refine ⟨_, rfl, _, rfl, _, rfl, _, _, rfl, rfl, _, _, rfl, ⟨by omega, by omega, by omega, by omega⟩, ?_⟩
    refine for_range (lo := 1 + m0) (n := (1 + m0 + count - (1 + m0)).toNat) (fun i σ H' => ∃ ga ps gs x7 x8 x9 x10, σ = [some (.ref W), some (nV most), some (nV gm), some (.int way), some (.int (1 + m0)), some (.int count), some (.ref ga), x7, x8, x9, x10, none, none, none, none, none, none, none, none] ∧ Wk W H H' ∧
      H' ga = some (.tup (ps.map V.ref)) ∧ GatesAt H' ps gs ∧ gs.length = i ∧ ∀ (j : Nat) (g : Nat × Nat × Nat), gs[j]? = some g → gateOk (1 + m0).toNat j g) ⟨g0, [], [], none, none, none, none, rfl, s4, upd_same, GatesAt.nil _, rfl, fun j g e => by simp at e⟩ ?_ ?_
    · rintro i σ H5 hi ⟨ga, ps, gs, x7, x8, x9, x10, rfl, s5, hga, hgs, hlen, hok⟩
      have hi' : i < 16 := by omega
      -- alike
      refine ⟨_, rfl, W, 12, rfl, s5.wl, by decide, by decide, fun d1 H6 _ _ w6 k6 => ⟨rfl, ?_⟩⟩
      have s6 := s5.nxt w6 k6
      have hga6 := s5.wl.tup k6 hga
      have hgs6 := s5.wl.gates k6 hgs
      -- one
      refine ⟨_, rfl, _, rfl, _, rfl, W, _, way, rfl, w6, by omega, by omega, fun o1 H7 o10 o11 w7 k7 => ⟨_, rfl, _, _, rfl, rfl, small 2, fun l7 n7 => ?_⟩⟩
      have s7 := s6.nxt w7 k7
      have s7' := s7.new (o := .lst [.int o1, .int (1 + m0 + i - 1)]) n7
      have hga7 := Same.new (o := .lst [.int o1, .int (1 + m0 + i - 1)]) n7 _ _ (w6.tup k7 hga6)
      have hgs7 := Same.gates (Same.new (o := .lst [.int o1, .int (1 + m0 + i - 1)]) n7) (w6.gates k7 hgs6)
      obtain ⟨one, eo, ho0, ho1⟩ : ∃ one : Int, (if decide (V.int way = V.int 2) = true then V.int (1 + m0 + i - 1) else V.int o1) = V.int one ∧ 0 ≤ one ∧ one < 1 + m0 + i := by
        split
        · exact ⟨_, rfl, by omega, by omega⟩
        · exact ⟨_, rfl, o10, o11⟩
      refine ⟨_, rfl, rfl, .inr ⟨_, rfl, l7, _, _, .int one, rfl, rfl, SqL.of upd_same, (by rw [atIf]; exact congrArg some eo), ?_⟩⟩
      -- other
      refine ⟨_, rfl, _, rfl, _, rfl, W, _, way, rfl, s7'.wl, by omega, by omega, fun o2 H8 o20 o21 w8 k8 => ⟨_, rfl, small 2, fun l8 n8 => ?_⟩⟩
      have s8 := (s7'.nxt w8 k8).new (o := .lst [.int o2, .int one]) n8
      have hga8 := Same.new (o := .lst [.int o2, .int one]) n8 _ _ (s7'.wl.tup k8 hga7)
      have hgs8 := Same.gates (Same.new (o := .lst [.int o2, .int one]) n8) (s7'.wl.gates k8 hgs7)
      obtain ⟨other, eo2, hr0, hr1⟩ : ∃ other : Int, (if decide (V.int d1 = V.int 0) = true then V.int one else V.int o2) = V.int other ∧ 0 ≤ other ∧ other < 1 + m0 + i := by
        split
        · exact ⟨_, rfl, by omega, by omega⟩
        · exact ⟨_, rfl, o20, o21⟩
      refine ⟨_, rfl, .inr ⟨_, rfl, l8, _, _, .int other, rfl, rfl, SqL.of upd_same, (by rw [atIf]; exact congrArg some eo2), ?_⟩⟩
      -- gates + ((take, one, other),)
      refine ⟨_, rfl, _, rfl, W, 16, rfl, s8.wl, by decide, by decide, fun kd H9 k0 k1 w9 k9 => ⟨_, rfl, _, rfl, small 3, fun g9 n9 => ⟨small 1, fun t9 m9 => ?_⟩⟩⟩
      have s9 := ((s8.nxt w9 k9).new (o := .tup [.int kd, .int one, .int other]) n9).new (o := .tup [.ref g9]) m9
      have e9 := Same.new (o := .tup [.int kd, .int one, .int other]) n9
      have f9 := Same.new (o := .tup [.ref g9]) m9
      have hga9 := f9 _ _ (e9 _ _ (s8.wl.tup k9 hga8))
      have hgs9 := Same.gates f9 (Same.gates e9 (s8.wl.gates k9 hgs8))
      refine catA hga9 upd_same (by rw [List.length_map, hgs9.1, hlen]; show i + 1 ≤ sizeLine; exact small _ (by omega)) fun r H10 sm hr' => ?_
      refine ⟨r, ps ++ [g9], gs ++ [(kd.toNat, one.toNat, other.toNat)], _, _, _, _, rfl, s9.same sm, by rw [List.map_append]; exact hr', (Same.gates sm hgs9).push ?_, by rw [List.length_append, hlen]; rfl, fun j g e => ?_⟩
      · have : (gV (kd.toNat, one.toNat, other.toNat)) = [.int kd, .int one, .int other] := by
          show [V.int (kd.toNat : Int), V.int (one.toNat : Int), V.int (other.toNat : Int)] = _
          rw [Int.toNat_of_nonneg k0, Int.toNat_of_nonneg ho0, Int.toNat_of_nonneg hr0]
        rw [this]
        exact sm _ _ (f9 _ _ upd_same)
      · by_cases hj : j < gs.length
        · rw [List.getElem?_append_left hj] at e
          exact hok j g e
        · rw [List.getElem?_append_right (by omega)] at e
          have hz : j - gs.length = 0 := by
            obtain ⟨h1, _⟩ := List.getElem?_eq_some_iff.mp e
            simp at h1
            omega
          rw [hz] at e
          cases e
          refine ⟨?_, ?_, ?_⟩ <;> (show _ < _; simp only []; omega)
    · rintro σ H5 ⟨ga, ps, gs, x7, x8, x9, x10, rfl, s5, hga, hgs, hlen, hok⟩
      have e0 : (1 + m0 + count - (1 + m0)).toNat = count.toNat := by omega
      rw [e0] at hlen
      -- wires, manner, bound
      refine ⟨_, rfl, _, rfl, _, _, rfl, rfl, ?_⟩
      refine ⟨_, rfl, W, 8, rfl, s5.wl, by decide, by decide, fun manner H6 _ _ w6 k6 => ?_⟩
      have s6 := s5.nxt w6 k6
      have hga6 := s5.wl.tup k6 hga
      have hgs6 := s5.wl.gates k6 hgs
      refine ⟨_, rfl, _, rfl, small 2, fun l7 n7 => ?_⟩
      have e7 := Same.new (o := .lst [.int (1 + m0 + count), .int (1 + m0)]) n7
      have s7 := s6.same e7
      have hga7 := e7 _ _ hga6
      have hgs7 := Same.gates e7 hgs6
      obtain ⟨bound, eb, hb1, hb2⟩ : ∃ bound : Int, (if decide (V.int manner = V.int 7) = true then V.int (1 + m0) else V.int (1 + m0 + count)) = V.int bound ∧ 1 ≤ bound ∧ bound ≤ 1 + m0 + count := by
        split
        · exact ⟨_, rfl, by omega, by omega⟩
        · exact ⟨_, rfl, by omega, by omega⟩
      refine ⟨_, rfl, rfl, .inr ⟨_, rfl, l7, _, _, .int bound, rfl, rfl, SqL.of upd_same, (by rw [atIf]; exact congrArg some eb), ?_⟩⟩
      -- outs
      refine ⟨_, rfl, _, _, rfl, rfl, _, rfl, _, rfl, W, bound, rfl, s7.wl, by omega, by omega, fun d8 H8 d80 d81 w8 k8 => ⟨small 2, fun l8 n8 => ?_⟩⟩
      have e8 := Same.new (o := .lst [.int (1 + m0 + count - 1), .int d8]) n8
      have s8 := (s7.nxt w8 k8).same e8
      have hga8 := e8 _ _ (s7.wl.tup k8 hga7)
      have hgs8 := Same.gates e8 (s7.wl.gates k8 hgs7)
      obtain ⟨out0, eo, ho0, ho1⟩ : ∃ out0 : Int, (if decide (manner > 3) = true then V.int d8 else V.int (1 + m0 + count - 1)) = V.int out0 ∧ 0 ≤ out0 ∧ out0 < 1 + m0 + count := by
        split
        · exact ⟨_, rfl, by omega, by omega⟩
        · exact ⟨_, rfl, by omega, by omega⟩
      refine ⟨_, rfl, _, _, rfl, rfl, .inr ⟨_, rfl, l8, _, _, .int out0, rfl, rfl, SqL.of upd_same, (by rw [atIf]; exact congrArg some eo), small 1, fun t9 n9 => ?_⟩⟩
      have e9 := Same.new (o := .tup [.int out0]) n9
      have s9 := s8.same e9
      have hga9 := e9 _ _ hga8
      have hgs9 := Same.gates e9 hgs8
      -- range(..)
      refine ⟨_, rfl, W, 8, rfl, s9.wl, by decide, by decide, fun d10 H10 d100 d101 w10 k10 => ⟨small 2, fun l10 n10 => ?_⟩⟩
      have e10 := Same.new (o := .lst [.int d10, .int 0]) n10
      have s10 := (s9.nxt w10 k10).same e10
      have hga10 := e10 _ _ (s9.wl.tup k10 hga9)
      have hgs10 := Same.gates e10 (s9.wl.gates k10 hgs9)
      have hot10 := e10 _ _ (s9.wl.tup k10 (upd_same (H := upd H8 l8 (.lst [.int (1 + m0 + count - 1), .int d8])) (a := t9) (o := .tup [.int out0])))
      obtain ⟨more, emo, hmo0, hmo1⟩ : ∃ more : Int, (if decide (V.int way = V.int 3) = true then V.int 0 else V.int d10) = V.int more ∧ 0 ≤ more ∧ more < 8 := by
        split
        · exact ⟨_, rfl, by omega, by omega⟩
        · exact ⟨_, rfl, by omega, by omega⟩
      refine ⟨_, rfl, rfl, .inr ⟨_, rfl, l10, _, _, .int more, rfl, rfl, SqL.of upd_same, (by rw [atIf]; exact congrArg some emo), more, rfl, by omega, by omega, ?_⟩⟩
      refine for_range (lo := 0) (n := more.toNat) (fun i σ H' => ∃ oa os x15 x16 x17, σ = [some (.ref W), some (nV most), some (nV gm), some (.int way), some (.int (1 + m0)), some (.int count), some (.ref ga), x7, x8, x9, x10, some (.int (1 + m0 + count)), some (.int manner), some (.int bound), some (.ref oa), x15, x16, x17, none] ∧ Wk W H H' ∧
        H' ga = some (.tup (ps.map V.ref)) ∧ GatesAt H' ps gs ∧ H' oa = some (.tup (os.map nV)) ∧ os.length = i + 1 ∧ ∀ o ∈ os, ((o : Nat) : Int) < 1 + m0 + count) ⟨t9, [out0.toNat], none, none, none, rfl, s10, hga10, hgs10, ?_, rfl, ?_⟩ ?_ ?_
      · rw [hot10]
        show some (HO.tup [V.int out0]) = some (HO.tup [V.int (out0.toNat : Int)])
        rw [Int.toNat_of_nonneg ho0]
      · intro o ho
        rw [List.mem_singleton.mp ho]
        omega
      · rintro i σ H11 hi ⟨oa, os, x15, x16, x17, rfl, s11, hga11, hgs11, hoa, hol, hos⟩
        refine ⟨_, rfl, W, 3, rfl, s11.wl, by decide, by decide, fun d12 H12 _ _ w12 k12 => ⟨rfl, _, rfl, ite2 (fun g => ?_) (fun g => ⟨_, rfl, _, _, rfl, rfl, ?_⟩)⟩⟩
        all_goals
          have s12 := s11.nxt w12 k12
          have hga12 := s11.wl.tup k12 hga11
          have hgs12 := s11.wl.gates k12 hgs11
          have hoa12 := s11.wl.tup k12 hoa
          refine ⟨_, rfl, _, _, rfl, rfl, _, rfl, W, 4, rfl, w12, by decide, by decide, fun d13 H13 d130 d131 w13 k13 => ⟨_, _, rfl, rfl, _, _, rfl, ?_⟩⟩
          have s13 := s12.nxt w13 k13
          have hga13 := w12.tup k13 hga12
          have hgs13 := w12.gates k13 hgs12
          have hoa13 := w12.tup k13 hoa12
          refine ⟨_, rfl, _, rfl, _, rfl, _, rfl, W, bound, rfl, w13, by omega, by omega, fun d14 H14 d140 d141 w14 k14 => ⟨small 2, fun l14 n14 => ?_⟩⟩
          have e14 := Same.new (o := .lst [.int (if 1 + m0 + count - 1 - d13 > 0 then 1 + m0 + count - 1 - d13 else 0), .int d14]) n14
          have s14 := (s13.nxt w14 k14).same e14
          have hga14 := e14 _ _ (w13.tup k14 hga13)
          have hgs14 := Same.gates e14 (w13.gates k14 hgs13)
          have hoa14 := e14 _ _ (w13.tup k14 hoa13)
        · obtain ⟨o, eoo, hoo0, hoo1⟩ : ∃ o : Int, (if true = true then V.int d14 else V.int (if 1 + m0 + count - 1 - d13 > 0 then 1 + m0 + count - 1 - d13 else 0)) = V.int o ∧ 0 ≤ o ∧ o < 1 + m0 + count := by
            split
            · exact ⟨_, rfl, by omega, by omega⟩
            · exact ⟨_, rfl, by split <;> omega, by split <;> omega⟩
          refine ⟨_, rfl, .inr ⟨_, rfl, l14, _, _, .int o, rfl, rfl, SqL.of upd_same, (by rw [atIf]; exact congrArg some eoo), small 1, fun t15 n15 => ?_⟩⟩
          have e15 := Same.new (o := .tup [.int o]) n15
          refine catA (e15 _ _ hoa14) upd_same (by rw [List.length_map, hol]; show i + 1 + 1 ≤ sizeLine; exact small _ (by omega)) fun r H16 sm hr' => ?_
          refine ⟨r, os ++ [o.toNat], _, _, _, rfl, (s14.same e15).same sm, sm _ _ (e15 _ _ hga14), Same.gates sm (Same.gates e15 hgs14), ?_, by rw [List.length_append, hol]; rfl, ?_⟩
          · rw [hr', List.map_append]
            show some (HO.tup (_ ++ [V.int o])) = some (HO.tup (_ ++ [V.int (o.toNat : Int)]))
            rw [Int.toNat_of_nonneg hoo0]
          · intro z hz
            rcases List.mem_append.mp hz with hz | hz
            · exact hos z hz
            · rw [List.mem_singleton.mp hz]
              omega
        · obtain ⟨o, eoo, hoo0, hoo1⟩ : ∃ o : Int, (if decide (manner > 3) = true then V.int d14 else V.int (if 1 + m0 + count - 1 - d13 > 0 then 1 + m0 + count - 1 - d13 else 0)) = V.int o ∧ 0 ≤ o ∧ o < 1 + m0 + count := by
            split
            · exact ⟨_, rfl, by omega, by omega⟩
            · exact ⟨_, rfl, by split <;> omega, by split <;> omega⟩
          refine ⟨_, rfl, .inr ⟨_, rfl, l14, _, _, .int o, rfl, rfl, SqL.of upd_same, (by rw [atIf]; exact congrArg some eoo), small 1, fun t15 n15 => ?_⟩⟩
          have e15 := Same.new (o := .tup [.int o]) n15
          refine catA (e15 _ _ hoa14) upd_same (by rw [List.length_map, hol]; show i + 1 + 1 ≤ sizeLine; exact small _ (by omega)) fun r H16 sm hr' => ?_
          refine ⟨r, os ++ [o.toNat], _, _, _, rfl, (s14.same e15).same sm, sm _ _ (e15 _ _ hga14), Same.gates sm (Same.gates e15 hgs14), ?_, by rw [List.length_append, hol]; rfl, ?_⟩
          · rw [hr', List.map_append]
            show some (HO.tup (_ ++ [V.int o])) = some (HO.tup (_ ++ [V.int (o.toNat : Int)]))
            rw [Int.toNat_of_nonneg hoo0]
          · intro z hz
            rcases List.mem_append.mp hz with hz | hz
            · exact hos z hz
            · rw [List.mem_singleton.mp hz]
              omega
      · rintro σ H11 ⟨oa, os, x15, x16, x17, rfl, s11, hga11, hgs11, hoa, hol, hos⟩
        refine ⟨_, rfl, _, rfl, oa, _, rfl, .inr (SqT.of hoa), W, _, rfl, s11.wl, by rw [List.length_map, hol]; omega, by rw [List.length_map, hol]; omega, fun at0' H12 a0 a1 w12 k12 => ?_⟩
        have s12 := s11.nxt w12 k12
        obtain ⟨at1', rfl⟩ := Int.eq_ofNat_of_zero_le a0
        have hga12 := s11.wl.tup k12 hga11
        have hgs12 := s11.wl.gates k12 hgs11
        have hoa12 := s11.wl.tup k12 hoa
        refine ⟨_, rfl, _, rfl, _, rfl, _, rfl, _, rfl, ?_⟩
        unfold tNoPart
        refine slA (lo := some (at1' : Int)) (hi := none) hoa12 fun r1 H13 sm1 h13 => ?_
        refine ⟨_, rfl, _, rfl, _, rfl, ?_⟩
        refine slA (lo := none) (hi := some (at1' : Int)) (sm1 _ _ hoa12) fun r2 H14 sm2 h14 => ?_
        rw [cut_lo, ← List.map_drop] at h13
        rw [cut_hi, ← List.map_take] at h14
        refine catA (sm2 _ _ h13) h14 (by rw [List.length_map, List.length_map, List.length_drop, List.length_take, hol]; exact small _ (by omega)) fun r3 H15 sm3 h15 => ?_
        refine ⟨small 3, fun a na => ?_⟩
        have e16 := Same.new (o := .tup [.int (1 + m0), .ref ga, .ref r3]) na
        refine q a ⟨(1 + m0).toNat, gs, os.drop at1' ++ os.take at1'⟩ ga r3 ps _ ⟨?_, ?_, ?_, ?_, ?_, ?_, ?_⟩ ?_ ?_ ⟨?_, ?_, ?_, ?_⟩ ((((s12.same sm1).same sm2).same sm3).same e16)
        · show 1 ≤ (1 + m0).toNat; omega
        · show (1 + m0).toNat ≤ 8; omega
        · show gs.length ≤ 16; omega
        · exact hok
        · show 1 ≤ (os.drop at1' ++ os.take at1').length
          rw [List.length_append, List.length_drop, List.length_take, hol]; omega
        · show (os.drop at1' ++ os.take at1').length ≤ 8
          rw [List.length_append, List.length_drop, List.length_take, hol]; omega
        · intro z hz
          have hz' : z ∈ os := (List.mem_append.mp hz).elim List.mem_of_mem_drop List.mem_of_mem_take
          have := hos z hz'
          show z < (1 + m0).toNat + gs.length
          omega
        · show (1 + m0).toNat ≤ most; omega
        · show gs.length ≤ gm; omega
        · show upd H15 a _ a = some (.tup [V.int ((1 + m0).toNat : Int), .ref ga, .ref r3])
          rw [upd_same, Int.toNat_of_nonneg (by omega)]
        · exact e16 _ _ (sm3 _ _ (sm2 _ _ (sm1 _ _ hga12)))
        · exact Same.gates e16 (Same.gates sm3 (Same.gates sm2 (Same.gates sm1 hgs12)))
        · show upd H15 a _ r3 = _
          rw [List.map_append]
          exact e16 _ _ h15
end
end K4
set_option Elab.async false
set_option linter.all false
set_option maxRecDepth 100000
set_option maxHeartbeats 4000000
namespace K4
open PySem PySem.Spec PyProof.Rows L2 GX
open C8 (Cal pe_c)
theorem dpInts (K : PySem.W.Frag) (H : Hp) : ∀ xs : List Nat, DpAll K H (xs.map nV) ((xs.map fun n : Nat => (n : Int)).map PyData.int)
  | [] => .nil
  | x :: r => .cons (.int _) (dpInts K H r)
theorem eqv_ints (xs : List Nat) : PyData.eqv (.list ((xs.map fun n : Nat => (n : Int)).map PyData.int)) (.list ((xs.map fun n : Nat => (n : Int)).map PyData.int)) = true := SeqAt.eqv_refl _ (SeqAt.canLay_of_shaped (PySem.W.ke_shaped_ints _))
theorem at01 {a b : V} {n : Nat} (h : n < 2) : atI [a, b] (n : Int) = some (if n = 0 then a else b) := by
  cases n with
  | zero => rfl
  | succ n =>
    cases n with
    | zero => rfl
    | succ n => omega
/-! ### the mathematics: bits, worths -/
def bitsOf (many r : Nat) : List Nat := (List.range many).map fun i => r / 2 ^ i % 2
def gw (k a b : Nat) : Nat := k / 2 ^ (a + 2 * b) % 2
def wstep (acc : List Nat) (g : Nat × Nat × Nat) : List Nat := acc ++ [gw g.1 (acc.getD g.2.1 0) (acc.getD g.2.2 0)]
def wOf (gs : List (Nat × Nat × Nat)) (row : List Nat) : List Nat := gs.foldl wstep row
theorem wOf_take {gs : List (Nat × Nat × Nat)} {row : List Nat} {i : Nat} {g : Nat × Nat × Nat} (h : gs[i]? = some g) : wOf (gs.take (i + 1)) row = wstep (wOf (gs.take i) row) g := by
  unfold wOf
  rw [List.take_add_one, h, Option.toList_some, List.foldl_append]
  rfl
theorem wOf_len (row : List Nat) : ∀ gs : List (Nat × Nat × Nat), (wOf gs row).length = row.length + gs.length := by
  intro gs
  induction gs generalizing row with
  | nil => rfl
  | cons g r ih =>
    show (wOf r (wstep row g)).length = _
    rw [ih]
    unfold wstep
    rw [List.length_append, List.length_cons, List.length_cons, List.length_nil]
    omega
theorem gw_lt (k a b : Nat) : gw k a b < 2 := Nat.mod_lt _ (by decide)
theorem wOf_lt {row : List Nat} (hr : ∀ x ∈ row, x < 2) : ∀ gs : List (Nat × Nat × Nat), ∀ x ∈ wOf gs row, x < 2 := by
  intro gs
  induction gs generalizing row with
  | nil => exact hr
  | cons g r ih =>
    refine ih fun x hx => ?_
    rcases List.mem_append.mp hx with hx | hx
    · exact hr x hx
    · rw [List.mem_singleton.mp hx]
      exact gw_lt _ _ _
theorem getD_lt {l : List Nat} (h : ∀ x ∈ l, x < 2) (i : Nat) : l.getD i 0 < 2 := by
  rw [List.getD_eq_getElem?_getD]
  cases e : l[i]? with
  | none => decide
  | some x => exact h x (List.mem_of_getElem? e)
theorem getD_at {l : List Nat} {i : Nat} (h : i < l.length) : (l.map nV)[i]? = some (nV (l.getD i 0)) := by
  rw [List.getElem?_map, List.getD_eq_getElem?_getD, List.getElem?_eq_getElem h]
  rfl
theorem bits_len (many r : Nat) : (bitsOf many r).length = many := by unfold bitsOf; rw [List.length_map, List.length_range]
theorem bits_lt (many r : Nat) : ∀ x ∈ bitsOf many r, x < 2 := fun x hx => by
  obtain ⟨i, _, e⟩ := List.mem_map.mp hx
  rw [← e]
  exact Nat.mod_lt _ (by decide)
theorem bits_at {many r i : Nat} (h : i < many) : (bitsOf many r).take (i + 1) = (bitsOf many r).take i ++ [r / 2 ^ i % 2] := by
  rw [List.take_add_one]
  congr 1
  unfold bitsOf
  rw [List.getElem?_map, List.getElem?_range h]
  rfl
section
variable {P : Program} {w : World} {K : PySem.W.Frag} {mg : Str → Option Value} {base : Heap} {Ts : List Addr}
/-! ### the program -/
def spRow (Ts : List Addr) : Sp := fun vs H Q _ => ∃ (a : Addr) (n : Net) (g o : Addr) (ps : List Addr) (r : Nat), vs = [.ref a, nV r] ∧ NetAt H a n g o ps ∧ n.Ok ∧ Tabs Ts H ∧ ∀ p H', Aft Ts H H' → H' p = some (.tup ((bitsOf n.many r).map nV)) → Q (.ref p) H'
theorem ok_row {f c PR : Addr} (D : Dfn K mg "row_of" s_row_of f c) (T : Txt mg) (TB_row_of : GxR.TabB base mg c PR) (hP : PR ∈ Ts) : Cal P w K mg base 2 "row_of" (spRow Ts) [] := by
  refine cal D (fun _ _ _ _ _ _ us hl => match us, hl with | [_, _], _ => rfl) sc_row_of (fun vs H Q E h => ?_) (fun A outer s H vs Q E hr h => ?_)
  · obtain ⟨a, n, g, o, ps, r, rfl, _⟩ := h
    rfl
  · obtain ⟨a, n, g, o, ps, r, rfl, N, ok, tb, q⟩ := h
    refine ⟨_, (pss_one (ps_ret (pe_tupG (own := [("at", 2)]) hr (by rfl) T.b_tuple TB_row_of rfl (gxOk_by (N := ["net", "number", "at"]) (sc := defScope s_row_of) (own := [("at", 2)]) (by decide +kernel)) sc_row_of.nd (pi_range1 (by rfl) T.b_range (pa_cons (pe_ix ix_tup (pv 0) pe_int (fun _ _ => rfl)) pa_nil)) (fun _ _ _ _ => (pg_name (i := 2) sc_row_of.nd rfl (by first | exact Or.inl rfl | exact Or.inr rfl))) (fun _ _ _ _ => pts_nil) (fun _ _ _ _ => (pe_op op_and (pe_op op_shr (pv 1) (pv 2)) pe_int))))), ?_⟩
    refine ⟨_, rfl, a, _, 0, _, rfl, rfl, SqT.of N.top, at0, _, rfl, by omega, (by have := ok.m8; show (n.many : Int) < 2 ^ 62; omega), tb PR hP, fun H2 ht => ?_⟩
    have a2 : Aft Ts H H2 := ⟨Keep.tabbed hP ht, tb.tabbed ht⟩
    refine turns_it walk_range (fun i ys H' => ys = ((bitsOf n.many r).take i).map nV ∧ Aft Ts H H') ⟨rfl, a2⟩ (fun _ _ _ _ _ => trivial) ?_ ?_
    · rintro i x ys H3 H4 hi ⟨rfl, a3⟩ ⟨rfl, rfl⟩
      have hi' : i < n.many := by
        have : ((n.many : Int)).toNat = n.many := Int.toNat_natCast _
        omega
      refine ⟨rfl, ?_⟩
      unfold tYes
      refine iteT ?_
      refine ⟨_, rfl, _, rfl, _, _, rfl, rfl, (by omega), _, _, rfl, rfl, ?_⟩
      refine ⟨?_, fun _ => ⟨?_, a3⟩⟩
      · show (((bitsOf n.many r).take i).map nV).length < sizeLine
        rw [List.length_map, List.length_take, bits_len]
        have := ok.m8
        exact Nat.lt_of_le_of_lt (Nat.min_le_left _ _) (small1000 (by omega))
      · rw [bits_at hi', List.map_append]
        congr 1
        show [V.int (Builtin.bitAnd ((r : Int) / 2 ^ (0 + (i : Int)).toNat) 1)] = [nV (r / 2 ^ i % 2)]
        rw [bitAnd_m1, Int.zero_add, Int.toNat_natCast]
        show [V.int ((r : Int) / 2 ^ i % 2)] = [V.int ((r / 2 ^ i % 2 : Nat) : Int)]
        congr 2
    · rintro ys H3 ⟨rfl, a3⟩
      have e : (bitsOf n.many r).take ((n.many : Int)).toNat = bitsOf n.many r := by
        rw [Int.toNat_natCast, List.take_of_length_le (by rw [bits_len]; exact Nat.le_refl _)]
      refine ⟨?_, fun p hp => ?_⟩
      · rw [e, List.length_map, bits_len]
        have := ok.m8
        exact small _ (by omega)
      · rw [e]
        exact q p _ (a3.trans (Aft.new a3.tb hp)) upd_same
def spGate : Sp := fun vs H Q _ => ∃ (k a b : Nat), vs = [nV k, nV a, nV b] ∧ Q (nV (gw k a b)) H
theorem ok_gate {f c : Addr} (D : Dfn K mg "gate_worth" s_gate_worth f c) : Cal P w K mg base 1 "gate_worth" spGate [] := by
  refine cal D (fun _ _ _ _ _ _ us hl => match us, hl with | [_, _, _], _ => rfl) sc_gate_worth (fun vs H Q E h => ?_) (fun A outer s H vs Q E hr h => ?_)
  · obtain ⟨k, a, b, rfl, _⟩ := h
    rfl
  · obtain ⟨k, a, b, rfl, q⟩ := h
    refine ⟨_, (pss_one (ps_ret (pe_op op_and (pe_op op_shr (pv 0) (pe_op op_add (pv 1) (pe_op op_mul pe_int (pv 2)))) pe_int))), ?_⟩
    refine ⟨_, rfl, _, rfl, _, rfl, _, _, rfl, rfl, .inl (by omega), _, _, rfl, rfl, _, _, rfl, rfl, (by omega), _, _, rfl, rfl, ?_⟩
    have e : V.int (Builtin.bitAnd ((k : Int) / 2 ^ ((a : Int) + 2 * (b : Int)).toNat) 1) = nV (gw k a b) := by
      rw [bitAnd_m1, show ((a : Int) + 2 * (b : Int)).toNat = a + 2 * b by omega]
      show V.int _ = V.int ((k / 2 ^ (a + 2 * b) % 2 : Nat) : Int)
      congr 1
    show Q (V.int (Builtin.bitAnd ((k : Int) / 2 ^ ((a : Int) + 2 * (b : Int)).toNat) 1)) H
    rw [e]
    exact q
def spWorths : Sp := fun vs H Q _ => ∃ (a : Addr) (n : Net) (g o : Addr) (ps : List Addr) (ra : Addr) (row : List Nat), vs = [.ref a, .ref ra] ∧ NetAt H a n g o ps ∧ n.Ok ∧ H ra = some (.tup (row.map nV)) ∧ row.length = n.many ∧ (∀ x ∈ row, x < 2) ∧ ∀ p H', Same H H' → H' p = some (.tup ((wOf n.gates row).map nV)) → Q (.ref p) H'
theorem ok_worths {f c : Addr} (D : Dfn K mg "worths" s_worths f c) (T : Txt mg) (c_gate_worth : Cal P w K mg base 1 "gate_worth" spGate []) : Cal P w K mg base 2 "worths" spWorths [] := by
  refine cal D (fun _ _ _ _ _ _ us hl => match us, hl with | [_, _], _ => rfl) sc_worths (fun vs H Q E h => ?_) (fun A outer s H vs Q E hr h => ?_)
  · obtain ⟨a, n, g, o, ps, ra, row, rfl, _⟩ := h
    rfl
  · obtain ⟨a, n, g, o, ps, ra, row, rfl, N, ok, hra, hl, hlt, q⟩ := h
    refine ⟨_, (pss_cons (ps_set (i := 2) sc_worths.nd rfl (by first | exact Or.inl rfl | exact Or.inr rfl) (pe_callTy call_list_of (by rfl) T.b_list (by decide +kernel) (pa_cons (pv 1) pa_nil)))
      (pss_cons (ps_for PassesOwn.never rfl (pi_tup (pe_ix ix_tup (pv 0) pe_int (fun _ _ => rfl))) (pg_tup rfl (pgs_cons (pg_name (i := 3) sc_worths.nd rfl (by first | exact Or.inl rfl | exact Or.inr rfl)) (pgs_cons (pg_name (i := 4) sc_worths.nd rfl (by first | exact Or.inl rfl | exact Or.inr rfl)) (pgs_cons (pg_name (i := 5) sc_worths.nd rfl (by first | exact Or.inl rfl | exact Or.inr rfl)) pgs_nil))))
        (pss_one (ps_expr (pe_bm PySem.F.plainAttrs_list PySem.F.slot_list_append PySem.F.type_list_append mt_append (pv 2) (pa_cons (pe_c c_gate_worth hr (by decide) (by rfl) (pa_cons (pv 3) (pa_cons (pe_ix ix_list (pv 2) (pv 4) (fun _ _ => rfl)) (pa_cons (pe_ix ix_list (pv 2) (pv 5) (fun _ _ => rfl)) pa_nil)))) pa_nil)))))
      (pss_one (ps_ret (pe_callTy call_tuple_of (by rfl) T.b_tuple (by decide +kernel) (pa_cons (pv 2) pa_nil)))))), ?_⟩
    refine ⟨_, rfl, ra, _, rfl, .inr (SqT.of hra), fun l nl => ?_⟩
    have e1 := Same.new (o := .lst (row.map nV)) nl
    have N1 := N.same e1
    refine ⟨_, rfl, a, _, 1, _, rfl, rfl, SqT.of N1.top, at1, g, rfl, ⟨_, SqT.of N1.gt⟩, ?_⟩
    refine for_tup (K := K) (a := g) (xs := ps.map V.ref) (fun i σ H' => ∃ x3 x4 x5, σ = [some (.ref a), some (.ref ra), some (.ref l), x3, x4, x5] ∧ Own H H' l ((wOf (n.gates.take i) row).map nV)) ⟨none, none, none, rfl, e1, upd_same, nl⟩ ?_ ?_ ?_
    · rintro i σ H2 hi ⟨_, _, _, _, ow⟩
      exact SqT.of (N.same ow.sm).gt
    · rintro i x σ H2 hx ⟨x3, x4, x5, rfl, ow⟩
      have hil : i < ps.length := by
        have := (List.getElem?_eq_some_iff.mp hx).1
        rwa [List.length_map] at this
      have hx' : V.ref ps[i] = x := by
        rw [List.getElem?_map, List.getElem?_eq_getElem hil] at hx
        exact Option.some.inj hx
      subst hx'
      have N2 := N.same ow.sm
      obtain ⟨gt, hgt, hat⟩ := gateOk.at N2.gs (List.getElem?_eq_getElem hil)
      obtain ⟨_, ho1, ho2⟩ := ok.gs i gt hgt
      have hig : i ≤ n.gates.length := Nat.le_of_lt (List.getElem?_eq_some_iff.mp hgt).1
      have hlen : (wOf (n.gates.take i) row).length = n.many + i := by
        rw [wOf_len, hl, List.length_take, Nat.min_eq_left hig]
      refine ⟨ps[i], _, rfl, SqT.of hat, rfl, _, _, rfl, _, _, rfl, _, _, rfl, rfl, ?_⟩
      refine ⟨_, rfl, .inl ⟨rfl, _, SqL.of ow.at_⟩, _, rfl, _, rfl, _, rfl, l, _, _, _, rfl, rfl, SqL.of ow.at_, atI_nat (getD_at (by omega)), _, rfl, _, rfl, l, _, _, _, rfl, rfl, SqL.of ow.at_, atI_nat (getD_at (by omega)), _, _, _, rfl, l, _, _, rfl, rfl, ow.at_, ?_, ?_⟩
      · rw [List.length_map, hlen]
        have := ok.m8
        have := ok.g16
        exact small1000 (by omega)
      · refine ⟨_, _, _, rfl, ?_⟩
        rw [wOf_take hgt]
        unfold wstep
        rw [List.map_append]
        exact ow.app
    · rintro σ H2 ⟨x3, x4, x5, rfl, ow⟩
      have e : n.gates.take (ps.map V.ref).length = n.gates := by
        rw [List.length_map, N.gs.1, List.take_length]
      rw [e] at ow
      refine ⟨_, rfl, l, _, rfl, .inl ⟨SqL.of ow.at_, fun p np => ?_⟩⟩
      refine q p _ (ow.sm.trans (Same.new np)) upd_same
def spOuts (Ts : List Addr) : Sp := fun vs H Q _ => ∃ (a : Addr) (n : Net) (g o : Addr) (ps : List Addr) (ra : Addr) (row : List Nat), vs = [.ref a, .ref ra] ∧ NetAt H a n g o ps ∧ n.Ok ∧ H ra = some (.tup (row.map nV)) ∧ row.length = n.many ∧ (∀ x ∈ row, x < 2) ∧ Tabs Ts H ∧ ∀ p H', Aft Ts H H' → H' p = some (.tup ((n.outs.map fun j => (wOf n.gates row).getD j 0).map nV)) → Q (.ref p) H'
theorem ok_outs {f c PO : Addr} (D : Dfn K mg "outs_at" s_outs_at f c) (T : Txt mg) (c_worths : Cal P w K mg base 2 "worths" spWorths []) (TB_outs_at : GxR.TabB base mg c PO) (hP : PO ∈ Ts) : Cal P w K mg base 3 "outs_at" (spOuts Ts) [] := by
  refine cal D (fun _ _ _ _ _ _ us hl => match us, hl with | [_, _], _ => rfl) sc_outs_at (fun vs H Q E h => ?_) (fun A outer s H vs Q E hr h => ?_)
  · obtain ⟨a, n, g, o, ps, ra, row, rfl, _⟩ := h
    rfl
  · obtain ⟨a, n, g, o, ps, ra, row, rfl, N, ok, hra, hl, hlt, tb, q⟩ := h
    refine ⟨_, (pss_cons (ps_set (i := 2) sc_outs_at.nd rfl (by first | exact Or.inl rfl | exact Or.inr rfl) (pe_c c_worths hr (by decide) (by rfl) (pa_cons (pv 0) (pa_cons (pv 1) pa_nil))))
      (pss_one (ps_ret (pe_tupG (own := [("out", 3)]) hr (by rfl) T.b_tuple TB_outs_at rfl (gxOk_by (N := ["net", "row", "told", "out"]) (sc := defScope s_outs_at) (own := [("out", 3)]) (by decide +kernel)) sc_outs_at.nd (pi_tup (pe_ix ix_tup (pv 0) pe_int (fun _ _ => rfl))) (fun _ _ _ _ => (pg_name (i := 3) sc_outs_at.nd rfl (by first | exact Or.inl rfl | exact Or.inr rfl))) (fun _ _ _ _ => pts_nil) (fun _ _ _ _ => (pe_ix (ix_tupK (K := K)) (pv 2) (pv 3) (fun _ _ => rfl))))))), ?_⟩
    refine ⟨_, rfl, _, rfl, a, n, g, o, ps, ra, row, rfl, N, ok, hra, hl, hlt, fun t H1 s1 ht => ?_⟩
    have N1 := N.same s1
    have tb1 := Tabs.same tb s1
    refine ⟨_, rfl, a, _, 2, _, rfl, rfl, SqT.of N1.top, at2, o, rfl, ⟨_, SqT.of N1.ot⟩, tb1 PO hP, fun H2 hT => ?_⟩
    have a2 : Aft Ts H H2 := (Aft.ofSame tb s1).trans ⟨Keep.tabbed hP hT, tb1.tabbed hT⟩
    have tn : t ∉ Ts := tb1.tup ht
    have on : o ∉ Ts := tb1.tup N1.ot
    have k2 : Keep Ts H1 H2 := Keep.tabbed hP hT
    have ht2 := k2 _ _ ht tn
    have ho2 := k2 _ _ N1.ot on
    refine turns_it (walk_tup (xs := n.outs.map nV)) (fun i ys H' => ys = ((n.outs.take i).map fun j => (wOf n.gates row).getD j 0).map nV ∧ H' = H2) ⟨rfl, rfl⟩ (fun i ys H' _ hp => by rw [hp.2]; exact SqT.of ho2) ?_ ?_
    · rintro i x ys H3 H4 hi ⟨rfl, rfl⟩ ⟨rfl, hx⟩
      rw [List.length_map] at hi
      have hx' : nV n.outs[i] = x := by
        rw [List.getElem?_map, List.getElem?_eq_getElem hi] at hx
        exact Option.some.inj hx
      subst hx'
      have hb : n.outs[i] < (wOf n.gates row).length := by
        rw [wOf_len, hl]
        exact ok.os _ (List.getElem_mem hi)
      refine ⟨rfl, ?_⟩
      unfold tYes
      refine iteT ?_
      refine ⟨_, rfl, _, rfl, t, _, _, _, rfl, rfl, SqT.of ht2, atI_nat (getD_at hb), ?_⟩
      refine ⟨?_, fun _ => ⟨?_, rfl⟩⟩
      · show (List.map nV _).length < sizeLine
        rw [List.length_map, List.length_map, List.length_take]
        have := ok.o8
        exact Nat.lt_of_le_of_lt (Nat.min_le_left _ _) (small1000 (by omega))
      · rw [List.take_add_one, List.getElem?_eq_getElem hi, List.map_append, List.map_append]
        rfl
    · rintro ys H3 ⟨rfl, rfl⟩
      rw [List.length_map, List.take_length]
      refine ⟨?_, fun p hp => ?_⟩
      · rw [List.length_map, List.length_map]
        have := ok.o8
        exact small _ (by omega)
      · exact q p _ (a2.trans (Aft.new a2.tb hp)) upd_same
end
end K4
set_option Elab.async false
set_option linter.all false
set_option maxRecDepth 100000
set_option maxHeartbeats 4000000
namespace K4
open PySem PySem.Spec PyProof.Rows L2 GX
open C8 (Cal pe_c)
/-! ### columns: the worths of a wire at all rows, as bits -/
theorem bor (a b : Nat) : Builtin.bitOr (a : Int) (b : Int) = ((a ||| b : Nat) : Int) := by
  unfold Builtin.bitOr Builtin.bitAnd Builtin.bitNot
  rw [decide_eq_false (by omega), decide_eq_false (by omega)]
  show -(-(((-(-(a : Int) - 1) - 1).toNat ||| (-(-(b : Int) - 1) - 1).toNat : Nat) : Int) - 1) - 1 = _
  rw [show (-(-(a : Int) - 1) - 1).toNat = a by omega, show (-(-(b : Int) - 1) - 1).toNat = b by omega]
  omega
theorem band (a b : Nat) : Builtin.bitAnd (a : Int) (b : Int) = ((a &&& b : Nat) : Int) := by
  unfold Builtin.bitAnd
  rw [decide_eq_true (by omega), decide_eq_true (by omega)]
  rfl
theorem tb_nat (c r : Nat) : c / 2 ^ r % 2 = (c.testBit r).toNat := by
  rw [Nat.testBit_eq_decide_div_mod_eq]
  rcases Nat.mod_two_eq_zero_or_one (c / 2 ^ r) with h | h <;> rw [h] <;> rfl
def inCol (w : Nat) : Nat → Nat
  | 0 => 0
  | k + 1 => inCol w k + 2 ^ k * (k / 2 ^ w % 2)
theorem inCol_lt (w : Nat) : ∀ k, inCol w k < 2 ^ k
  | 0 => Nat.zero_lt_one
  | k + 1 => by
    have h := inCol_lt w k
    have h2 : k / 2 ^ w % 2 < 2 := Nat.mod_lt _ (by decide)
    show inCol w k + 2 ^ k * (k / 2 ^ w % 2) < 2 ^ (k + 1)
    rw [Nat.pow_succ]
    have : 2 ^ k * (k / 2 ^ w % 2) ≤ 2 ^ k * 1 := Nat.mul_le_mul_left _ (by omega)
    omega
theorem inCol_tb (w : Nat) : ∀ k r, r < k → ((inCol w k).testBit r).toNat = r / 2 ^ w % 2
  | 0, r, h => absurd h (Nat.not_lt_zero _)
  | k + 1, r, h => by
    show ((inCol w k + 2 ^ k * (k / 2 ^ w % 2)).testBit r).toNat = _
    rw [Nat.add_comm, Nat.testBit_two_pow_mul_add _ (inCol_lt w k)]
    by_cases hr : r < k
    · rw [if_pos hr]
      exact inCol_tb w k r hr
    · have e : r = k := by omega
      subst e
      rw [if_neg hr, Nat.sub_self, ← tb_nat, Nat.pow_zero, Nat.div_one, Nat.mod_mod]
def gPart (R c a : Nat) : Nat := if a = 0 then 2 ^ R - (c + 1) else c
theorem gPart_lt {R c a : Nat} (hc : c < 2 ^ R) : gPart R c a < 2 ^ R := by
  unfold gPart
  split <;> omega
theorem gPart_tb {R c a r : Nat} (hc : c < 2 ^ R) (hr : r < R) (ha : a < 2) : (gPart R c a).testBit r = decide ((c.testBit r).toNat = a) := by
  unfold gPart
  by_cases h : a = 0
  · subst h
    rw [if_pos rfl, Nat.testBit_two_pow_sub_succ hc, decide_eq_true hr, Bool.true_and]
    cases c.testBit r <;> rfl
  · have : a = 1 := by omega
    subst this
    rw [if_neg (by decide)]
    cases c.testBit r <;> rfl
def gCol (R k c1 c2 : Nat) : Nat → Nat
  | 0 => 0
  | i + 1 => if k / 2 ^ i % 2 = 1 then gCol R k c1 c2 i ||| (gPart R c1 (i % 2) &&& gPart R c2 (i / 2)) else gCol R k c1 c2 i
theorem gCol_lt {R k c1 c2 : Nat} (h1 : c1 < 2 ^ R) : ∀ i, gCol R k c1 c2 i < 2 ^ R
  | 0 => Nat.pow_pos (by decide)
  | i + 1 => by
    unfold gCol
    split
    · exact Nat.or_lt_two_pow (gCol_lt h1 i) (Nat.lt_of_le_of_lt Nat.and_le_left (gPart_lt h1))
    · exact gCol_lt h1 i
theorem toNat_lt (b : Bool) : b.toNat < 2 := by cases b <;> decide
theorem gCol_tb {R k c1 c2 r : Nat} (h1 : c1 < 2 ^ R) (h2 : c2 < 2 ^ R) (hr : r < R) : ∀ i, i ≤ 4 → (gCol R k c1 c2 i).testBit r = (decide (gw k (c1.testBit r).toNat (c2.testBit r).toNat = 1) && decide ((c1.testBit r).toNat + 2 * (c2.testBit r).toNat < i))
  | 0, _ => by
    rw [decide_eq_false (Nat.not_lt_zero _), Bool.and_false]
    exact Nat.zero_testBit r
  | i + 1, hi => by
    have ih := gCol_tb (k := k) h1 h2 hr i (by omega)
    have x2 := toNat_lt (c1.testBit r)
    have y2 := toNat_lt (c2.testBit r)
    unfold gCol
    by_cases hk : k / 2 ^ i % 2 = 1
    · rw [if_pos hk, Nat.testBit_or, Nat.testBit_and, ih, gPart_tb h1 hr (by omega), gPart_tb h2 hr (by omega)]
      generalize (c1.testBit r).toNat = x at x2 ⊢
      generalize (c2.testBit r).toNat = y at y2 ⊢
      rw [← Bool.decide_and, ← Bool.decide_and, ← Bool.decide_and, ← Bool.decide_or]
      congr 1
      refine propext ⟨fun h => ?_, fun h => ?_⟩
      · rcases h with h | h
        · exact ⟨h.1, by omega⟩
        · have e : x + 2 * y = i := by omega
          refine ⟨?_, by omega⟩
          unfold gw
          rw [e]
          exact hk
      · by_cases e : x + 2 * y = i
        · exact .inr ⟨by omega, by omega⟩
        · exact .inl ⟨h.1, by omega⟩
    · rw [if_neg hk, ih]
      generalize (c1.testBit r).toNat = x at x2 ⊢
      generalize (c2.testBit r).toNat = y at y2 ⊢
      rw [← Bool.decide_and, ← Bool.decide_and]
      congr 1
      refine propext ⟨fun h => ⟨h.1, by omega⟩, fun h => ⟨h.1, ?_⟩⟩
      by_cases e : x + 2 * y = i
      · exact absurd (by have := h.1; unfold gw at this; rw [e] at this; exact this) hk
      · omega
theorem wOf_more (gs : List (Nat × Nat × Nat)) : ∀ acc : List Nat, ∃ t, wOf gs acc = acc ++ t := by
  induction gs with
  | nil => exact fun acc => ⟨[], by rw [List.append_nil]; rfl⟩
  | cons g r ih =>
    intro acc
    obtain ⟨t, h⟩ := ih (wstep acc g)
    exact ⟨_, by show wOf r (wstep acc g) = _; rw [h]; unfold wstep; rw [List.append_assoc]⟩
theorem wOf_cut (gs : List (Nat × Nat × Nat)) (row : List Nat) (i : Nat) : wOf gs row = wOf (gs.drop i) (wOf (gs.take i) row) := by
  unfold wOf
  rw [← List.foldl_append, List.take_append_drop]
theorem getD_app {xs t : List Nat} {w : Nat} (h : w < xs.length) : (xs ++ t).getD w 0 = xs.getD w 0 := by
  rw [List.getD_eq_getElem?_getD, List.getD_eq_getElem?_getD, List.getElem?_append_left h]
theorem wOf_in {gs : List (Nat × Nat × Nat)} {row : List Nat} {w : Nat} (h : w < row.length) : (wOf gs row).getD w 0 = row.getD w 0 := by
  obtain ⟨t, e⟩ := wOf_more gs row
  rw [e, getD_app h]
theorem wOf_pre {gs : List (Nat × Nat × Nat)} {row : List Nat} {w i : Nat} (hi : i ≤ gs.length) (h : w < row.length + i) : (wOf gs row).getD w 0 = (wOf (gs.take i) row).getD w 0 := by
  rw [wOf_cut gs row i]
  exact wOf_in (by rw [wOf_len, List.length_take]; omega)
theorem wOf_gate {gs : List (Nat × Nat × Nat)} {row : List Nat} {i : Nat} {g : Nat × Nat × Nat} (hg : gs[i]? = some g) (h1 : g.2.1 < row.length + i) (h2 : g.2.2 < row.length + i) :
    (wOf gs row).getD (row.length + i) 0 = gw g.1 ((wOf gs row).getD g.2.1 0) ((wOf gs row).getD g.2.2 0) := by
  have hi : i < gs.length := (List.getElem?_eq_some_iff.mp hg).1
  rw [wOf_pre (i := i + 1) hi (by omega), wOf_take hg, wOf_pre (Nat.le_of_lt hi) h1, wOf_pre (Nat.le_of_lt hi) h2]
  unfold wstep
  have hl : (wOf (gs.take i) row).length = row.length + i := by rw [wOf_len, List.length_take]; omega
  rw [List.getD_eq_getElem?_getD, List.getElem?_append_right (by omega), hl, Nat.sub_self]
  rfl
theorem bits_getD {many r w : Nat} (h : w < many) : (bitsOf many r).getD w 0 = r / 2 ^ w % 2 := by
  unfold bitsOf
  rw [List.getD_eq_getElem?_getD, List.getElem?_map, List.getElem?_range h]
  rfl
def cstep (R : Nat) (acc : List Nat) (g : Nat × Nat × Nat) : List Nat := acc ++ [gCol R g.1 (acc.getD g.2.1 0) (acc.getD g.2.2 0) 4]
def cIn (R i : Nat) : List Nat := (List.range i).map fun w => inCol w R
def cOf (R : Nat) (gs : List (Nat × Nat × Nat)) (many : Nat) : List Nat := gs.foldl (cstep R) (cIn R many)
theorem cIn_len (R i : Nat) : (cIn R i).length = i := by unfold cIn; rw [List.length_map, List.length_range]
theorem cIn_step (R i : Nat) : cIn R (i + 1) = cIn R i ++ [inCol i R] := by
  unfold cIn
  rw [List.range_succ, List.map_append]
  rfl
theorem cOf_len (R : Nat) (gs : List (Nat × Nat × Nat)) (many : Nat) : (cOf R gs many).length = many + gs.length := by
  unfold cOf
  have : ∀ (gs : List (Nat × Nat × Nat)) (acc : List Nat), (gs.foldl (cstep R) acc).length = acc.length + gs.length := by
    intro gs
    induction gs with
    | nil => intro acc; rfl
    | cons g r ih =>
      intro acc
      rw [List.foldl_cons, ih]
      unfold cstep
      rw [List.length_append, List.length_cons, List.length_cons, List.length_nil]
      omega
  rw [this, cIn_len]
theorem cOf_take {R many : Nat} {gs : List (Nat × Nat × Nat)} {i : Nat} {g : Nat × Nat × Nat} (h : gs[i]? = some g) : cOf R (gs.take (i + 1)) many = cstep R (cOf R (gs.take i) many) g := by
  unfold cOf
  rw [List.take_add_one, h, Option.toList_some, List.foldl_append]
  rfl
def ColOk (n : Net) (R i : Nat) (cs : List Nat) : Prop := ∀ w, w < i → cs.getD w 0 < 2 ^ R ∧ ∀ r, r < R → ((cs.getD w 0).testBit r).toNat = (wOf n.gates (bitsOf n.many r)).getD w 0
theorem col_in (n : Net) (R : Nat) : ColOk n R n.many (cIn R n.many) := fun w hw => by
  have e : (cIn R n.many).getD w 0 = inCol w R := by
    unfold cIn
    rw [List.getD_eq_getElem?_getD, List.getElem?_map, List.getElem?_range hw]
    rfl
  rw [e]
  refine ⟨inCol_lt w R, fun r hr => ?_⟩
  rw [inCol_tb w R r hr, wOf_in (by rw [bits_len]; exact hw), bits_getD hw]
theorem col_gate {n : Net} (ok : n.Ok) {R i : Nat} {g : Nat × Nat × Nat} (hg : n.gates[i]? = some g) (h : ColOk n R (n.many + i) (cOf R (n.gates.take i) n.many)) : ColOk n R (n.many + (i + 1)) (cOf R (n.gates.take (i + 1)) n.many) := fun w hw => by
  have hi : i < n.gates.length := (List.getElem?_eq_some_iff.mp hg).1
  have hl : (cOf R (n.gates.take i) n.many).length = n.many + i := by rw [cOf_len, List.length_take]; omega
  obtain ⟨_, o1, o2⟩ := ok.gs i g hg
  rw [cOf_take hg]
  unfold cstep
  by_cases hw' : w < n.many + i
  · rw [getD_app (by omega)]
    exact h w hw'
  · have e : w = n.many + i := by omega
    subst e
    rw [List.getD_eq_getElem?_getD, List.getElem?_append_right (by omega), hl, Nat.sub_self]
    show gCol R g.1 _ _ 4 < 2 ^ R ∧ ∀ r, r < R → ((gCol R g.1 _ _ 4).testBit r).toNat = _
    obtain ⟨b1, t1⟩ := h _ o1
    obtain ⟨b2, t2⟩ := h _ o2
    refine ⟨gCol_lt b1 4, fun r hr => ?_⟩
    rw [gCol_tb b1 b2 hr 4 (Nat.le_refl _), t1 r hr, t2 r hr]
    have hb := wOf_gate (row := bitsOf n.many r) hg (by rw [bits_len]; exact o1) (by rw [bits_len]; exact o2)
    rw [bits_len] at hb
    rw [hb]
    have l1 := getD_lt (wOf_lt (bits_lt n.many r) n.gates) g.2.1
    have l2 := getD_lt (wOf_lt (bits_lt n.many r) n.gates) g.2.2
    rw [decide_eq_true (show (wOf n.gates (bitsOf n.many r)).getD g.2.1 0 + 2 * (wOf n.gates (bitsOf n.many r)).getD g.2.2 0 < 4 by omega), Bool.and_true]
    have := gw_lt g.1 ((wOf n.gates (bitsOf n.many r)).getD g.2.1 0) ((wOf n.gates (bitsOf n.many r)).getD g.2.2 0)
    generalize gw g.1 _ _ = z at this ⊢
    have : z = 0 ∨ z = 1 := by omega
    rcases this with rfl | rfl <;> rfl
theorem col_ok {n : Net} (ok : n.Ok) (R : Nat) : ∀ i, i ≤ n.gates.length → ColOk n R (n.many + i) (cOf R (n.gates.take i) n.many)
  | 0, _ => col_in n R
  | i + 1, h => col_gate ok (List.getElem?_eq_getElem (by omega)) (col_ok ok R i (by omega))
/-- what the columns tell at a row -/
theorem col_told {n : Net} (ok : n.Ok) {R r : Nat} (hr : r < R) : (cOf R n.gates n.many).map (fun c => c / 2 ^ r % 2) = wOf n.gates (bitsOf n.many r) := by
  have h := col_ok ok R n.gates.length (Nat.le_refl _)
  rw [List.take_length] at h
  refine List.ext_getElem (by rw [List.length_map, cOf_len, wOf_len, bits_len]) fun w h1 h2 => ?_
  rw [List.length_map, cOf_len] at h1
  have e := (h w h1).2 r hr
  rw [List.getElem_map, tb_nat]
  rw [List.getD_eq_getElem?_getD, List.getElem?_eq_getElem (by rw [cOf_len]; exact h1), List.getD_eq_getElem?_getD, List.getElem?_eq_getElem h2] at e
  exact e
theorem bits_inj {many r q : Nat} (hr : r < 2 ^ many) (hq : q < 2 ^ many) (h : bitsOf many r = bitsOf many q) : r = q := by
  refine Nat.eq_of_testBit_eq fun i => ?_
  by_cases hi : i < many
  · have e : (bitsOf many r).getD i 0 = (bitsOf many q).getD i 0 := by rw [h]
    rw [bits_getD hi, bits_getD hi, tb_nat, tb_nat] at e
    generalize r.testBit i = x at e ⊢
    generalize q.testBit i = y at e ⊢
    cases x <;> cases y <;> first | rfl | cases e
  · have hp : 2 ^ many ≤ 2 ^ i := Nat.pow_le_pow_right (by decide) (by omega)
    rw [Nat.testBit_lt_two_pow (Nat.lt_of_lt_of_le hr hp), Nat.testBit_lt_two_pow (Nat.lt_of_lt_of_le hq hp)]
theorem bits_zero (many : Nat) : bitsOf many 0 = List.replicate many 0 := by
  unfold bitsOf
  refine List.ext_getElem (by rw [List.length_map, List.length_range, List.length_replicate]) fun i h1 h2 => ?_
  rw [List.getElem_map, List.getElem_replicate, Nat.zero_div]
end K4
set_option Elab.async false
set_option linter.all false
set_option maxRecDepth 100000
set_option maxHeartbeats 4000000
namespace K4
open PySem PySem.Spec PyProof.Rows L2 GX
open C8 (Cal pe_c)
theorem Own.same {H H1 H2 : Hp} {l : Addr} {xs : List V} (o : Own H H1 l xs) (s : Same H1 H2) : Own H H2 l xs := ⟨o.sm.trans s, s _ _ o.at_, o.nw⟩
theorem at4 {j : Nat} (h : j < 4) : atI [V.int 1, V.int 2, V.int 4, V.int 8] (j : Int) = some (nV (2 ^ j)) := by
  have : j = 0 ∨ j = 1 ∨ j = 2 ∨ j = 3 := by omega
  rcases this with rfl | rfl | rfl | rfl <;> rfl
theorem at_part {R F c a : Nat} (hc : c < 2 ^ R) (h2 : 2 ^ R = F) (ha : a < 2) : atI [V.int ((F : Int) - 1 - (c : Int)), nV c] (a : Int) = some (nV (gPart R c a)) := by
  rw [at01 ha]
  unfold gPart
  by_cases h : a = 0
  · rw [if_pos h, if_pos h]
    have e : ((F : Int) - 1 - (c : Int)) = ((2 ^ R - (c + 1) : Nat) : Int) := by omega
    rw [e]
    rfl
  · rw [if_neg h, if_neg h]
section
variable {P : Program} {w : World} {K : PySem.W.Frag} {mg : Str → Option Value} {base : Heap} {Ts : List Addr}
def spCols : Sp := fun vs H Q _ => ∃ (a : Addr) (n : Net) (g o : Addr) (ps : List Addr) (R : Nat), vs = [.ref a, nV R] ∧ NetAt H a n g o ps ∧ n.Ok ∧ R ≤ 1000 ∧ ∀ p H', Own H H' p ((cOf R n.gates n.many).map nV) → Q (.ref p) H'
theorem ok_cols {f c : Addr} (D : Dfn K mg "_law_columns" s__law_columns f c) (T : Txt mg) : Cal P w K mg base 1 "_law_columns" spCols [] := by
  refine cal D (fun _ _ _ _ _ _ us hl => match us, hl with | [_, _], _ => rfl) sc__law_columns (fun vs H Q E h => ?_) (fun A outer s H vs Q E hr h => ?_)
  · obtain ⟨a, n, g, o, ps, R, rfl, _⟩ := h
    rfl
  · obtain ⟨a, n, g, o, ps, R, rfl, N, ok, hR, q⟩ := h
    refine ⟨_, (pss_cons (ps_set (i := 2) sc__law_columns.nd rfl (by first | exact Or.inl rfl | exact Or.inr rfl) pe_int)
      (pss_cons (ps_for PassesOwn.never rfl (pi_range1 (by rfl) T.b_range (pa_cons (pv 1) pa_nil)) (pg_name (i := 3) sc__law_columns.nd rfl (by first | exact Or.inl rfl | exact Or.inr rfl))
        (pss_one (ps_set (i := 2) sc__law_columns.nd rfl (by first | exact Or.inl rfl | exact Or.inr rfl) (pe_op op_mul pe_int (pv 2)))))
      (pss_cons (ps_set (i := 2) sc__law_columns.nd rfl (by first | exact Or.inl rfl | exact Or.inr rfl) (pe_op op_sub (pv 2) pe_int))
      (pss_cons (ps_set (i := 4) sc__law_columns.nd rfl (by first | exact Or.inl rfl | exact Or.inr rfl) (pe_lst pa_nil))
      (pss_cons (ps_set (i := 5) sc__law_columns.nd rfl (by first | exact Or.inl rfl | exact Or.inr rfl) pe_int)
      (pss_cons (ps_for PassesOwn.never rfl (pi_range1 (by rfl) T.b_range (pa_cons (pe_ix ix_tup (pv 0) pe_int (fun _ _ => rfl)) pa_nil)) (pg_name (i := 6) sc__law_columns.nd rfl (by first | exact Or.inl rfl | exact Or.inr rfl))
        (pss_cons (ps_set (i := 7) sc__law_columns.nd rfl (by first | exact Or.inl rfl | exact Or.inr rfl) pe_int)
      (pss_cons (ps_set (i := 8) sc__law_columns.nd rfl (by first | exact Or.inl rfl | exact Or.inr rfl) pe_int)
      (pss_cons (ps_for PassesOwn.never rfl (pi_range1 (by rfl) T.b_range (pa_cons (pv 1) pa_nil)) (pg_name (i := 9) sc__law_columns.nd rfl (by first | exact Or.inl rfl | exact Or.inr rfl))
        (pss_cons (ps_set (i := 7) sc__law_columns.nd rfl (by first | exact Or.inl rfl | exact Or.inr rfl) (pe_op op_add (pv 7) (pe_op op_mul (pv 8) (pe_op op_mod (pe_op op_fdiv (pv 9) (pv 5)) pe_int))))
      (pss_one (ps_set (i := 8) sc__law_columns.nd rfl (by first | exact Or.inl rfl | exact Or.inr rfl) (pe_op op_mul pe_int (pv 8))))))
      (pss_cons (ps_expr (pe_bm PySem.F.plainAttrs_list PySem.F.slot_list_append PySem.F.type_list_append mt_append (pv 4) (pa_cons (pv 7) pa_nil)))
      (pss_one (ps_set (i := 5) sc__law_columns.nd rfl (by first | exact Or.inl rfl | exact Or.inr rfl) (pe_op op_mul pe_int (pv 5)))))))))
      (pss_cons (ps_for PassesOwn.never rfl (pi_tup (pe_ix ix_tup (pv 0) pe_int (fun _ _ => rfl))) (pg_tup rfl (pgs_cons (pg_name (i := 10) sc__law_columns.nd rfl (by first | exact Or.inl rfl | exact Or.inr rfl)) (pgs_cons (pg_name (i := 11) sc__law_columns.nd rfl (by first | exact Or.inl rfl | exact Or.inr rfl)) (pgs_cons (pg_name (i := 12) sc__law_columns.nd rfl (by first | exact Or.inl rfl | exact Or.inr rfl)) pgs_nil))))
        (pss_cons (ps_set (i := 7) sc__law_columns.nd rfl (by first | exact Or.inl rfl | exact Or.inr rfl) pe_int)
      (pss_cons (ps_for PassesOwn.never rfl (pi_tup (pe_tup (pa_cons (pe_tup (pa_cons pe_int (pa_cons pe_int pa_nil))) (pa_cons (pe_tup (pa_cons pe_int (pa_cons pe_int pa_nil))) (pa_cons (pe_tup (pa_cons pe_int (pa_cons pe_int pa_nil))) (pa_cons (pe_tup (pa_cons pe_int (pa_cons pe_int pa_nil))) pa_nil)))))) (pg_tup rfl (pgs_cons (pg_name (i := 13) sc__law_columns.nd rfl (by first | exact Or.inl rfl | exact Or.inr rfl)) (pgs_cons (pg_name (i := 14) sc__law_columns.nd rfl (by first | exact Or.inl rfl | exact Or.inr rfl)) pgs_nil)))
        (pss_one (ps_if (pt_cmpR op_eq (pe_op op_mod (pe_op op_fdiv (pv 10) (pe_ix ix_list (pe_lst (pa_cons pe_int (pa_cons pe_int (pa_cons pe_int (pa_cons pe_int pa_nil))))) (pe_op op_add (pv 13) (pe_op op_mul pe_int (pv 14))) (fun _ _ => rfl))) pe_int) pe_int (nomark _)) (pss_one (ps_set (i := 7) sc__law_columns.nd rfl (by first | exact Or.inl rfl | exact Or.inr rfl) (pe_op op_or (pv 7) (pe_op op_and (pe_ix ix_list (pe_lst (pa_cons (pe_op op_sub (pv 2) (pe_ix ix_list (pv 4) (pv 11) (fun _ _ => rfl))) (pa_cons (pe_ix ix_list (pv 4) (pv 11) (fun _ _ => rfl)) pa_nil))) (pv 13) (fun _ _ => rfl)) (pe_ix ix_list (pe_lst (pa_cons (pe_op op_sub (pv 2) (pe_ix ix_list (pv 4) (pv 12) (fun _ _ => rfl))) (pa_cons (pe_ix ix_list (pv 4) (pv 12) (fun _ _ => rfl)) pa_nil))) (pv 14) (fun _ _ => rfl)))))) pss_nil)))
      (pss_one (ps_expr (pe_bm PySem.F.plainAttrs_list PySem.F.slot_list_append PySem.F.type_list_append mt_append (pv 4) (pa_cons (pv 7) pa_nil)))))))
      (pss_one (ps_ret (pv 4)))))))))), ?_⟩
    refine ⟨_, rfl, _, rfl, by omega, (by show (R : Int) < 2 ^ 62; omega), ?_⟩
    refine for_range (lo := 0) (n := ((R : Int)).toNat) (fun j σ H' => ∃ x3, σ = [some (.ref a), some (nV R), some (nV (2 ^ j)), x3, none, none, none, none, none, none, none, none, none, none, none] ∧ H' = H) ⟨none, rfl, rfl⟩ ?_ ?_
    · rintro j σ H1 hj ⟨x3, rfl, rfl⟩
      refine ⟨_, rfl, _, _, rfl, rfl, .inl (by omega), some (.int (0 + (j : Int))), ?_, rfl⟩
      have e2 : nV (2 ^ (j + 1)) = V.int (2 * ((2 ^ j : Nat) : Int)) := by
        rw [Nat.pow_succ, Nat.mul_comm]
        rfl
      rw [e2]
      rfl
    · rintro σ H1 ⟨x3, rfl, rfl⟩
      rw [Int.toNat_natCast]
      have h2R : 0 < 2 ^ R := Nat.pow_pos (by decide)
      generalize h2 : 2 ^ R = F at h2R ⊢
      refine ⟨_, rfl, _, _, rfl, rfl, small 0, fun l nl => ?_⟩
      have N1 := N.same (Same.new (o := .lst []) nl)
      refine ⟨_, rfl, a, _, 0, _, rfl, rfl, SqT.of N1.top, at0, _, rfl, by omega, (by have := ok.m8; show (n.many : Int) < 2 ^ 62; omega), ?_⟩
      refine for_range (lo := 0) (n := ((n.many : Int)).toNat) (fun i σ H' => ∃ x6 x7 x8 x9, σ = [some (.ref a), some (nV R), some (.int ((F : Int) - 1)), x3, some (.ref l), some (nV (2 ^ i)), x6, x7, x8, x9, none, none, none, none, none] ∧ Own H1 H' l ((cIn R i).map nV)) ⟨none, none, none, none, rfl, Same.new nl, upd_same, nl⟩ ?_ ?_
      · rintro i σ H2 hi ⟨x6, x7, x8, x9, rfl, ow⟩
        have hi8 : i < 8 := by have := ok.m8; omega
        refine ⟨_, rfl, _, rfl, by omega, (by show (R : Int) < 2 ^ 62; omega), ?_⟩
        refine for_range (lo := 0) (n := ((R : Int)).toNat) (fun k σ H' => ∃ x9, σ = [some (.ref a), some (nV R), some (.int ((F : Int) - 1)), x3, some (.ref l), some (nV (2 ^ i)), some (.int (0 + (i : Int))), some (nV (inCol i k)), some (nV (2 ^ k)), x9, none, none, none, none, none] ∧ H' = H2) ⟨x9, rfl, rfl⟩ ?_ ?_
        · rintro k σ H3 hk ⟨y9, rfl, rfl⟩
          have p1 : 0 < 2 ^ i := Nat.pow_pos (by decide)
          have p2 : 2 ^ i ≤ 2 ^ 8 := Nat.pow_le_pow_right (by decide) (by omega)
          have eb : ((0 : Int) + (k : Int)) / (((2 ^ i : Nat)) : Int) % 2 = ((k / 2 ^ i % 2 : Nat) : Int) := by
            rw [Int.zero_add]
            rfl
          have b2 : k / 2 ^ i % 2 < 2 := Nat.mod_lt _ (by decide)
          refine ⟨_, rfl, _, rfl, _, rfl, _, rfl, _, _, rfl, rfl, ⟨by omega, by omega⟩, _, _, rfl, rfl, by show (0 : Int) < 2; omega, _, _, rfl, rfl, .inr (by rw [eb]; omega), _, _, rfl, rfl, ?_⟩
          refine ⟨_, rfl, _, _, rfl, rfl, .inl (by omega), some (.int (0 + (k : Int))), ?_, rfl⟩
          have e2 : nV (2 ^ (k + 1)) = V.int (2 * ((2 ^ k : Nat) : Int)) := by
            rw [Nat.pow_succ, Nat.mul_comm]
            rfl
          have e3 : nV (inCol i (k + 1)) = V.int (((inCol i k : Nat) : Int) + ((2 ^ k : Nat) : Int) * (((0 : Int) + (k : Int)) / (((2 ^ i : Nat)) : Int) % 2)) := by
            rw [eb]
            rfl
          rw [e2, e3]
          rfl
        · rintro σ H3 ⟨y9, rfl, rfl⟩
          rw [Int.toNat_natCast]
          refine ⟨_, rfl, .inl ⟨rfl, _, SqL.of ow.at_⟩, _, rfl, l, _, _, rfl, rfl, ow.at_, ?_, ?_⟩
          · rw [List.length_map, cIn_len]
            exact small1000 (by omega)
          refine ⟨_, rfl, _, _, rfl, rfl, .inl (by omega), some (.int (0 + (i : Int))), some (nV (inCol i R)), some (nV (2 ^ R)), y9, ?_, ?_⟩
          · have e2 : nV (2 ^ (i + 1)) = V.int (2 * ((2 ^ i : Nat) : Int)) := by
              rw [Nat.pow_succ, Nat.mul_comm]
              rfl
            rw [e2]
            rfl
          · rw [cIn_step, List.map_append]
            exact ow.app
      · rintro σ H2 ⟨x6, x7, x8, x9, rfl, ow⟩
        rw [Int.toNat_natCast] at ow ⊢
        have N2 := N.same ow.sm
        refine ⟨_, rfl, a, _, 1, _, rfl, rfl, SqT.of N2.top, at1, g, rfl, ⟨_, SqT.of N2.gt⟩, ?_⟩
        refine for_tup (K := K) (a := g) (xs := ps.map V.ref) (fun i σ H' => ∃ y7 y10 y11 y12 y13 y14, σ = [some (.ref a), some (nV R), some (.int ((F : Int) - 1)), x3, some (.ref l), some (nV (2 ^ n.many)), x6, y7, x8, x9, y10, y11, y12, y13, y14] ∧ Own H1 H' l ((cOf R (n.gates.take i) n.many).map nV)) ⟨x7, none, none, none, none, none, rfl, ow⟩ ?_ ?_ ?_
        · rintro i σ H3 _ ⟨_, _, _, _, _, _, _, o3⟩
          exact SqT.of (N.same o3.sm).gt
        · rintro i x σ H3 hx ⟨y7, y10, y11, y12, y13, y14, rfl, o3⟩
          have hil : i < ps.length := by
            have := (List.getElem?_eq_some_iff.mp hx).1
            rwa [List.length_map] at this
          have hx' : V.ref ps[i] = x := by
            rw [List.getElem?_map, List.getElem?_eq_getElem hil] at hx
            exact Option.some.inj hx
          subst hx'
          have N3 := N.same o3.sm
          obtain ⟨gt, hgt, hat⟩ := gateOk.at N3.gs (List.getElem?_eq_getElem hil)
          obtain ⟨_, ho1, ho2⟩ := ok.gs i gt hgt
          have hig : i < n.gates.length := (List.getElem?_eq_some_iff.mp hgt).1
          have hlen : (cOf R (n.gates.take i) n.many).length = n.many + i := by
            rw [cOf_len, List.length_take, Nat.min_eq_left (Nat.le_of_lt hig)]
          have hcol := col_ok ok R i (Nat.le_of_lt hig)
          rw [cOf_take hgt]
          unfold cstep
          generalize cOf R (n.gates.take i) n.many = cs at o3 hlen hcol ⊢
          obtain ⟨kd, on, ot⟩ := gt
          have b1 := (hcol on ho1).1
          have b2 := (hcol ot ho2).1
          have g1 : (cs.map nV)[on]? = some (nV (cs.getD on 0)) := getD_at (by rw [hlen]; exact ho1)
          have g2 : (cs.map nV)[ot]? = some (nV (cs.getD ot 0)) := getD_at (by rw [hlen]; exact ho2)
          show gTup _ _ _ _ _ _ _
          refine ⟨ps[i], _, rfl, SqT.of hat, rfl, _, _, rfl, _, _, rfl, _, _, rfl, rfl, ?_⟩
          -- the four pairs
          refine ⟨small 2, fun p0 n0 => ⟨small 2, fun p1 n1 => ⟨small 2, fun p2 n2 => ⟨small 2, fun p3 n3 => ⟨small 4, fun t nt => ?_⟩⟩⟩⟩⟩
          have s0 := Same.new (o := .tup [.int 0, .int 0]) n0
          have s1 := Same.new (o := .tup [.int 1, .int 0]) n1
          have s2 := Same.new (o := .tup [.int 0, .int 1]) n2
          have s3 := Same.new (o := .tup [.int 1, .int 1]) n3
          have st := Same.new (o := .tup [.ref p0, .ref p1, .ref p2, .ref p3]) nt
          have q0 := st _ _ (s3 _ _ (s2 _ _ (s1 _ _ (upd_same (H := H3) (a := p0) (o := .tup [.int 0, .int 0])))))
          have q1 := st _ _ (s3 _ _ (s2 _ _ (upd_same (a := p1) (o := .tup [.int 1, .int 0]))))
          have q2 := st _ _ (s3 _ _ (upd_same (a := p2) (o := .tup [.int 0, .int 1])))
          have q3 := st _ _ (upd_same (a := p3) (o := .tup [.int 1, .int 1]))
          have o4 : Own H1 _ l (cs.map nV) := Own.same o3 ((((s0.trans s1).trans s2).trans s3).trans st)
          generalize hH4 : upd (upd (upd (upd (upd H3 p0 (.tup [.int 0, .int 0])) p1 (.tup [.int 1, .int 0])) p2 (.tup [.int 0, .int 1])) p3 (.tup [.int 1, .int 1])) t (.tup [.ref p0, .ref p1, .ref p2, .ref p3]) = H4 at q0 q1 q2 q3 o4 ⊢
          have qt : H4 t = some (.tup [.ref p0, .ref p1, .ref p2, .ref p3]) := by rw [← hH4]; exact upd_same
          have hpair : ∀ (j : Nat) (x : V), [V.ref p0, .ref p1, .ref p2, .ref p3][j]? = some x → j < 4 ∧ ∃ p, x = .ref p ∧ H4 p = some (.tup [nV (j % 2), nV (j / 2)]) := by
            intro j x hx
            have hj : j < 4 := (List.getElem?_eq_some_iff.mp hx).1
            refine ⟨hj, ?_⟩
            have : j = 0 ∨ j = 1 ∨ j = 2 ∨ j = 3 := by omega
            rcases this with rfl | rfl | rfl | rfl
            · exact ⟨p0, (Option.some.inj hx).symm, q0⟩
            · exact ⟨p1, (Option.some.inj hx).symm, q1⟩
            · exact ⟨p2, (Option.some.inj hx).symm, q2⟩
            · exact ⟨p3, (Option.some.inj hx).symm, q3⟩
          refine ⟨t, rfl, ⟨_, SqT.of qt⟩, ?_⟩
          refine for_tup (K := K) (a := t) (xs := [.ref p0, .ref p1, .ref p2, .ref p3]) (fun j σ H' => ∃ y13 y14, σ = [some (.ref a), some (nV R), some (.int ((F : Int) - 1)), x3, some (.ref l), some (nV (2 ^ n.many)), x6, some (nV (gCol R kd (cs.getD on 0) (cs.getD ot 0) j)), x8, x9, some (nV kd), some (nV on), some (nV ot), y13, y14] ∧ Same H4 H') ⟨y13, y14, rfl, Same.refl _⟩ ?_ ?_ ?_
          · rintro j σ H5 _ ⟨_, _, _, s5⟩
            exact SqT.of (s5 _ _ qt)
          · rintro j x σ H5 hx ⟨z13, z14, rfl, s5⟩
            obtain ⟨hj, p, rfl, hp⟩ := hpair j x hx
            refine ⟨p, _, rfl, SqT.of (s5 _ _ hp), rfl, _, _, rfl, _, _, rfl, rfl, ?_⟩
            have e2 : ((j % 2 : Nat) : Int) + 2 * ((j / 2 : Nat) : Int) = (j : Int) := by omega
            have p1' : 0 < 2 ^ j := Nat.pow_pos (by decide)
            have p2' : 2 ^ j ≤ 2 ^ 4 := Nat.pow_le_pow_right (by decide) (by omega)
            refine ⟨_, rfl, small 4, fun l1 m1 => ?_⟩
            have s6 := s5.trans (Same.new (o := .lst [.int 1, .int 2, .int 4, .int 8]) m1)
            refine ⟨_, rfl, _, rfl, _, _, rfl, rfl, .inl (by omega), _, _, rfl, rfl, l1, _, _, nV (2 ^ j), rfl, rfl, SqL.of upd_same, (by rw [e2]; exact at4 hj), _, _, rfl, rfl, ⟨by omega, by omega⟩, _, _, rfl, rfl, by show (0 : Int) < 2; omega, rfl, _, rfl, ?_⟩
            generalize upd H5 l1 (.lst [.int 1, .int 2, .int 4, .int 8]) = H6 at s6 ⊢
            have o6 : Own H1 H6 l (cs.map nV) := Own.same o4 s6
            have ek : (V.int ((kd : Int) / ((2 ^ j : Nat) : Int) % 2) = V.int 1) = (kd / 2 ^ j % 2 = 1) := by
              refine propext ⟨fun h => ?_, fun h => ?_⟩
              · have h' := V.int.inj h
                have h'' : ((kd / 2 ^ j % 2 : Nat) : Int) = 1 := h'
                omega
              · show V.int ((kd / 2 ^ j % 2 : Nat) : Int) = V.int 1
                rw [h]
                rfl
            refine ite2 (fun hk => ?_) (fun hk => ?_)
            · have hk' : kd / 2 ^ j % 2 = 1 := by rw [← ek]; exact of_decide_eq_true hk
              refine ⟨_, rfl, _, rfl, _, rfl, _, rfl, l, _, _, _, rfl, rfl, SqL.of o6.at_, atI_nat g1, _, _, rfl, rfl, _, rfl, _, rfl, l, _, _, _, rfl, rfl, SqL.of o6.at_, atI_nat g1, small 2, fun l2 m2 => ?_⟩
              have s7 := Same.new (o := .lst [.int ((F : Int) - 1 - (cs.getD on 0 : Nat)), nV (cs.getD on 0)]) m2
              have o7 := Own.same o6 s7
              refine ⟨_, rfl, l2, _, _, _, rfl, rfl, SqL.of upd_same, at_part b1 h2 (Nat.mod_lt _ (by decide)), ?_⟩
              refine ⟨_, rfl, _, rfl, _, rfl, l, _, _, _, rfl, rfl, SqL.of o7.at_, atI_nat g2, _, _, rfl, rfl, _, rfl, _, rfl, l, _, _, _, rfl, rfl, SqL.of o7.at_, atI_nat g2, small 2, fun l3 m3 => ?_⟩
              have s8 := Same.new (o := .lst [.int ((F : Int) - 1 - (cs.getD ot 0 : Nat)), nV (cs.getD ot 0)]) m3
              refine ⟨_, rfl, l3, _, _, _, rfl, rfl, SqL.of upd_same, at_part b2 h2 (by omega : j / 2 < 2), _, _, rfl, rfl, _, _, rfl, rfl, ?_⟩
              refine ⟨some (nV (j % 2)), some (nV (j / 2)), ?_, (s6.trans s7).trans s8⟩
              have e9 : nV (gCol R kd (cs.getD on 0) (cs.getD ot 0) (j + 1)) = V.int (Builtin.bitOr ((gCol R kd (cs.getD on 0) (cs.getD ot 0) j : Nat) : Int) (Builtin.bitAnd ((gPart R (cs.getD on 0) (j % 2) : Nat) : Int) ((gPart R (cs.getD ot 0) (j / 2) : Nat) : Int))) := by
                rw [band, bor]
                show nV (if kd / 2 ^ j % 2 = 1 then _ else _) = _
                rw [if_pos hk']
                rfl
              rw [e9]
              rfl
            · have hk' : ¬ (kd / 2 ^ j % 2 = 1) := fun z => hk (decide_eq_true (by rw [ek]; exact z))
              refine ⟨some (nV (j % 2)), some (nV (j / 2)), ?_, s6⟩
              have e9 : gCol R kd (cs.getD on 0) (cs.getD ot 0) (j + 1) = gCol R kd (cs.getD on 0) (cs.getD ot 0) j := by
                show (if kd / 2 ^ j % 2 = 1 then _ else _) = _
                rw [if_neg hk']
              rw [e9]
              rfl
          · rintro σ H5 ⟨z13, z14, rfl, s5⟩
            have o5 : Own H1 H5 l (cs.map nV) := Own.same o4 s5
            refine ⟨_, rfl, .inl ⟨rfl, _, SqL.of o5.at_⟩, _, rfl, l, _, _, rfl, rfl, o5.at_, ?_, ?_⟩
            · rw [List.length_map, hlen]
              have := ok.m8
              have := ok.g16
              exact small1000 (by omega)
            · refine ⟨_, _, _, _, _, _, rfl, ?_⟩
              rw [List.map_append]
              exact o5.app
        · rintro σ H3 ⟨y7, y10, y11, y12, y13, y14, rfl, o3⟩
          have e : n.gates.take (ps.map V.ref).length = n.gates := by
            rw [List.length_map, N.gs.1, List.take_length]
          rw [e] at o3
          exact ⟨_, rfl, q l _ o3⟩
end
end K4
set_option Elab.async false
set_option linter.all false
set_option maxRecDepth 100000
set_option maxHeartbeats 4000000
namespace K4
open PySem PySem.Spec PyProof.Rows L2 GX
open C8 (Cal pe_c)
theorem shaped_ints (xs : List Nat) : SeqAt.shaped (.tuple ((xs.map fun n : Nat => (n : Int)).map PyData.int)) = true := by
  have h := PySem.W.ke_shaped_ints (xs.map fun n : Nat => (n : Int))
  exact h
theorem eqvT_ints (xs : List Nat) : PyData.eqv (.tuple ((xs.map fun n : Nat => (n : Int)).map PyData.int)) (.tuple ((xs.map fun n : Nat => (n : Int)).map PyData.int)) = true := SeqAt.eqv_refl _ (SeqAt.canLay_of_shaped (shaped_ints _))
def kO (xs : List Nat) : List Key := xs.map fun (x : Nat) => (Sum.inl (x : Int) : Key)
theorem kO_v (xs : List Nat) : (kO xs).map kV = xs.map nV := by
  unfold kO
  rw [List.map_map]
  rfl
theorem kO_inj : ∀ {xs ys : List Nat}, kO xs = kO ys → xs = ys
  | [], [], _ => rfl
  | [], _ :: _, h => by cases h
  | _ :: _, [], h => by cases h
  | x :: xs, y :: ys, h => by
    have h' := List.cons.inj h
    have e1 : x = y := by
      have := Sum.inl.inj h'.1
      omega
    rw [e1, kO_inj h'.2]
def seenK (many i : Nat) : List (List Key × V) := (List.range i).map fun r => (kO (bitsOf many r), V.bl true)
theorem seen_len (many i : Nat) : (seenK many i).length = i := by unfold seenK; rw [List.length_map, List.length_range]
theorem seen_ne {many i : Nat} (h : i < 2 ^ many) : ∀ kv ∈ seenK many i, kv.1 ≠ kO (bitsOf many i) := fun kv hk e => by
  obtain ⟨r, hr, rfl⟩ := List.mem_map.mp hk
  have hr' := List.mem_range.mp hr
  have := bits_inj (Nat.lt_trans hr' h) h (kO_inj e)
  omega
theorem seen_no {many i : Nat} (h : i < 2 ^ many) : valV (seenK many i) (kO (bitsOf many i)) = none := by
  unfold valV
  rw [List.find?_eq_none.mpr fun kv hk => by rw [decide_eq_false (seen_ne h kv hk)]; exact Bool.false_ne_true]
  rfl
theorem seen_put {many i : Nat} (h : i < 2 ^ many) : putK (seenK many i) (kO (bitsOf many i)) (.bl true) = seenK many (i + 1) := by
  unfold putK
  rw [if_neg]
  · unfold seenK
    rw [List.range_succ, List.map_append]
    rfl
  · rw [List.any_eq_true]
    rintro ⟨kv, hk, e⟩
    exact seen_ne h kv hk (of_decide_eq_true e)
section
variable {P : Program} {w : World} {K : PySem.W.Frag} {mg : Str → Option Value} {base : Heap} {Ts : List Addr}
def spRight (Ts : List Addr) : Sp := fun vs H Q _ => ∃ (a : Addr) (n : Net) (g o : Addr) (ps : List Addr), vs = [.ref a] ∧ NetAt H a n g o ps ∧ n.Ok ∧ Tabs Ts H ∧ ∀ H', Aft Ts H H' → Q (.bl true) H'
theorem ok_right {f c : Addr} (D : Dfn K mg "_law_right" s__law_right f c) (T : Txt mg) (c__law_columns : Cal P w K mg base 1 "_law_columns" spCols []) (c_row_of : Cal P w K mg base 2 "row_of" (spRow Ts) []) (c_worths : Cal P w K mg base 2 "worths" spWorths []) (c_outs_at : Cal P w K mg base 3 "outs_at" (spOuts Ts) []) : Cal P w K mg base 4 "_law_right" (spRight Ts) [] := by
  refine cal D (fun _ _ _ _ _ _ us hl => match us, hl with | [_], _ => rfl) sc__law_right (fun vs H Q E h => ?_) (fun A outer s H vs Q E hr h => ?_)
  · obtain ⟨a, n, g, o, ps, rfl, _⟩ := h
    rfl
  · obtain ⟨a, n, g, o, ps, rfl, N, ok, tb, q⟩ := h
    have m8 := ok.m8
    refine ⟨_, (pss_cons (ps_set (i := 1) sc__law_right.nd rfl (by first | exact Or.inl rfl | exact Or.inr rfl) pe_int)
      (pss_cons (ps_for PassesOwn.never rfl (pi_range1 (by rfl) T.b_range (pa_cons (pe_ix ix_tup (pv 0) pe_int (fun _ _ => rfl)) pa_nil)) (pg_name (i := 2) sc__law_right.nd rfl (by first | exact Or.inl rfl | exact Or.inr rfl))
        (pss_one (ps_set (i := 1) sc__law_right.nd rfl (by first | exact Or.inl rfl | exact Or.inr rfl) (pe_op op_mul pe_int (pv 1)))))
      (pss_cons (ps_set (i := 3) sc__law_right.nd rfl (by first | exact Or.inl rfl | exact Or.inr rfl) (pe_c c__law_columns hr (by decide) (by rfl) (pa_cons (pv 0) (pa_cons (pv 1) pa_nil))))
      (pss_cons (ps_set (i := 4) sc__law_right.nd rfl (by first | exact Or.inl rfl | exact Or.inr rfl) pe_dnewT)
      (pss_cons (ps_for PassesOwn.never rfl (pi_range1 (by rfl) T.b_range (pa_cons (pv 1) pa_nil)) (pg_name (i := 5) sc__law_right.nd rfl (by first | exact Or.inl rfl | exact Or.inr rfl))
        (pss_cons (ps_set (i := 6) sc__law_right.nd rfl (by first | exact Or.inl rfl | exact Or.inr rfl) (pe_c c_row_of hr (by decide) (by rfl) (pa_cons (pv 0) (pa_cons (pv 5) pa_nil))))
      (pss_cons (ps_set (i := 7) sc__law_right.nd rfl (by first | exact Or.inl rfl | exact Or.inr rfl) (pe_lc (own := [("_law_column", 8)]) (g := gName 8) (tt := tYes) rfl sc__law_right.nd (pi_list (pv 3)) (blkOk_by (own := [("_law_column", 8)]) (N := ["_law_net_here", "_law_rows", "_law_wire", "_law_columns_here", "_law_seen", "_law_number", "_law_row", "_law_told", "_law_column"]) (sc := defScope s__law_right) (by decide +kernel)) (fun _ _ _ _ _ => (pg_name (i := 8) sc__law_right.nd rfl (by first | exact Or.inl rfl | exact Or.inr rfl))) (fun _ _ _ _ _ => pts_nil) (fun _ _ _ _ _ => (pe_op op_and (pe_op op_shr (pv 8) (pv 5)) pe_int))))
      (pss_cons (ps_if (PW.pt (pw_or (pt_cmpR (op_neD hr.units) (pe_callTy call_list_of (by rfl) T.b_list (by decide +kernel) (pa_cons (pv 6) pa_nil)) (pe_slice sl_list (pv 7) po_none (po_some (pe_ix ix_tup (pv 0) pe_int (fun _ _ => rfl)))) (nomark _)) (pw_or (pt_cmp (pc_din (Nat.lt_of_le_of_lt (Nat.add_le_add_left (by decide) _) hr.units) (pv 6) (pv 4))) (pw_or1 (pt_cmpR (op_neD hr.units) (pe_callTy call_list_of (by rfl) T.b_list (by decide +kernel) (pa_cons (pe_c c_worths hr (by decide) (by rfl) (pa_cons (pv 0) (pa_cons (pv 6) pa_nil))) pa_nil)) (pv 7) (nomark _)))))) (pss_one (ps_ret pe_bl)) pss_nil)
      (pss_cons (ps_if (pt_cmpR (op_neD hr.units) (pe_callTy call_list_of (by rfl) T.b_list (by decide +kernel) (pa_cons (pe_c c_outs_at hr (by decide) (by rfl) (pa_cons (pv 0) (pa_cons (pv 6) pa_nil))) pa_nil)) (pe_lc (own := [("_law_wire", 2)]) (g := gName 2) (tt := tYes) rfl sc__law_right.nd (pi_tup (pe_ix ix_tup (pv 0) pe_int (fun _ _ => rfl))) (blkOk_by (own := [("_law_wire", 2)]) (N := ["_law_net_here", "_law_rows", "_law_wire", "_law_columns_here", "_law_seen", "_law_number", "_law_row", "_law_told", "_law_column"]) (sc := defScope s__law_right) (by decide +kernel)) (fun _ _ _ _ _ => (pg_name (i := 2) sc__law_right.nd rfl (by first | exact Or.inl rfl | exact Or.inr rfl))) (fun _ _ _ _ _ => pts_nil) (fun _ _ _ _ _ => (pe_ix (ix_listK (K := K)) (pv 7) (pv 2) (fun _ _ => rfl)))) (nomark _)) (pss_one (ps_ret pe_bl)) pss_nil)
      (pss_one (ps_dput (Nat.lt_of_le_of_lt (Nat.add_le_add_left (by decide) _) hr.units) (pv 4) (pv 6) pe_bl (by rfl))))))))
      (pss_one (ps_ret (pe_cmpR (op_eqD hr.units) (pe_c c_row_of hr (by decide) (by rfl) (pa_cons (pv 0) (pa_cons pe_int pa_nil))) (pe_op op_repA (pe_tup (pa_cons pe_int pa_nil)) (pe_ix ix_tup (pv 0) pe_int (fun _ _ => rfl))) (nomark _))))))))), ?_⟩
    refine ⟨_, rfl, a, _, 0, _, rfl, rfl, SqT.of N.top, at0, _, rfl, by omega, (by show (n.many : Int) < 2 ^ 62; omega), ?_⟩
    refine for_range (lo := 0) (n := ((n.many : Int)).toNat) (fun j σ H' => ∃ x2, σ = [some (.ref a), some (nV (2 ^ j)), x2, none, none, none, none, none, none] ∧ H' = H) ⟨none, rfl, rfl⟩ ?_ ?_
    · rintro j σ H1 hj ⟨x2, rfl, rfl⟩
      refine ⟨_, rfl, _, _, rfl, rfl, .inl (by omega), some (.int (0 + (j : Int))), ?_, rfl⟩
      have e2 : nV (2 ^ (j + 1)) = V.int (2 * ((2 ^ j : Nat) : Int)) := by
        rw [Nat.pow_succ, Nat.mul_comm]
        rfl
      rw [e2]
      rfl
    · rintro σ H1 ⟨x2, rfl, rfl⟩
      rw [Int.toNat_natCast]
      have hR8 : (2 : Nat) ^ n.many ≤ 2 ^ 8 := Nat.pow_le_pow_right (by decide) m8
      generalize hR : (2 : Nat) ^ n.many = R at hR8 ⊢
      refine ⟨_, rfl, _, rfl, a, n, g, o, ps, R, rfl, N, ok, by omega, fun cl H2 ocl => ?_⟩
      refine fun d nd => ?_
      have s3 := Same.new (o := .dT []) nd
      have a3 := Aft.ofSame tb (ocl.sm.trans s3)
      have hcl3 := s3 _ _ ocl.at_
      have hd3 : upd H2 d (.dT []) d = some (.dT (seenK n.many 0)) := upd_same
      have hnd : H1 d = none := by
        cases e : H1 d with
        | none => rfl
        | some u =>
          have := ocl.sm _ _ e
          rw [nd] at this
          cases this
      generalize upd H2 d (.dT []) = H3 at s3 a3 hcl3 hd3
      refine ⟨_, rfl, _, rfl, by omega, (by show (R : Int) < 2 ^ 62; omega), ?_⟩
      refine for_range (lo := 0) (n := ((R : Int)).toNat) (fun i σ H' => ∃ y2 y5 y6 y7 y8, σ = [some (.ref a), some (nV R), y2, some (.ref cl), some (.ref d), y5, y6, y7, y8] ∧ Aft Ts H1 H' ∧ H' cl = some (.lst ((cOf R n.gates n.many).map nV)) ∧ H' d = some (.dT (seenK n.many i))) ⟨x2, none, none, none, none, rfl, a3, hcl3, hd3⟩ ?_ ?_
      · rintro i σ H4 hi ⟨y2, y5, y6, y7, y8, rfl, a4, hcl, hd⟩
        have hiR : i < R := by omega
        have N4 := N.aft tb a4
        refine ⟨_, rfl, _, rfl, a, n, g, o, ps, i, (by rw [Int.zero_add]; rfl), N4, ok, a4.tb, fun p H5 a5 hp => ?_⟩
        have hcl5 := a5.lst a4.tb hcl
        have hd5 := a5.kp d _ hd (a4.tb.nott hd fun _ z => by cases z)
        have a15 := a4.trans a5
        refine ⟨_, rfl, cl, rfl, ⟨_, SqL.of hcl5⟩, fun L nL => ?_⟩
        refine lc_list (K := K) (a := cl) (xs := (cOf R n.gates n.many).map nV) (fun k H' => Own H5 H' L ((((cOf R n.gates n.many).take k).map fun c => c / 2 ^ i % 2).map nV)) ⟨Same.new nL, upd_same, nL⟩ ?_ ?_ ?_
        · rintro k H6 _ o6
          exact SqL.of (o6.sm _ _ hcl5)
        · rintro k x H6 hx o6
          have hk : k < (cOf R n.gates n.many).length := by
            have := (List.getElem?_eq_some_iff.mp hx).1
            rwa [List.length_map] at this
          have hx' : nV (cOf R n.gates n.many)[k] = x := by
            rw [List.getElem?_map, List.getElem?_eq_getElem hk] at hx
            exact Option.some.inj hx
          subst hx'
          refine ⟨rfl, ?_⟩
          unfold tYes
          refine iteT ?_
          refine ⟨_, rfl, _, rfl, _, _, rfl, rfl, (by omega), _, _, rfl, rfl, _, o6.at_, ?_, ?_⟩
          · rw [List.length_map, List.length_map, List.length_take]
            rw [cOf_len] at hk
            have := ok.g16
            exact small1000 (by omega)
          · rw [List.take_add_one, List.getElem?_eq_getElem hk, List.map_append, List.map_append, Option.toList_some]
            have e : [V.int (Builtin.bitAnd ((((cOf R n.gates n.many)[k] : Nat) : Int) / 2 ^ (0 + (i : Int)).toNat) 1)] = ([(cOf R n.gates n.many)[k]].map fun c => c / 2 ^ i % 2).map nV := by
              rw [bitAnd_m1, Int.zero_add, Int.toNat_natCast]
              show [V.int _] = [V.int (((cOf R n.gates n.many)[k] / 2 ^ i % 2 : Nat) : Int)]
              congr 2
            rw [← e]
            exact o6.app
        · rintro H6 o6
          rw [List.length_map, List.take_length, col_told ok hiR] at o6
          have a16 := a15.trans (Aft.ofSame a15.tb o6.sm)
          have N6 := N.aft tb a16
          have hp6 := o6.sm _ _ hp
          have hcl6 := o6.sm _ _ hcl5
          have hd6 := o6.sm _ _ hd5
          have hL6 := o6.at_
          have hwl : (wOf n.gates (bitsOf n.many i)).length = n.many + n.gates.length := by rw [wOf_len, bits_len]
          generalize hT : wOf n.gates (bitsOf n.many i) = tl at hL6 hwl o6 ⊢
          -- list(row) != told[:many]
          refine ⟨_, rfl, p, _, rfl, .inr (SqT.of hp6), fun l1 n1 => ?_⟩
          have s7 := Same.new (o := .lst ((bitsOf n.many i).map nV)) n1
          refine ⟨_, rfl, ?_⟩
          unfold tNoPart
          refine ⟨_, rfl, a, _, 0, _, rfl, rfl, SqT.of (N6.same s7).top, at0, _, rfl, L, _, rfl, SqL.of (s7 _ _ hL6), fun l2 n2 => ?_⟩
          have ecut : cutV (tl.map nV) none (some ((n.many : Nat) : Int)) = (bitsOf n.many i).map nV := by
            rw [cut_hi, ← List.map_take]
            congr 1
            obtain ⟨t, e⟩ := wOf_more n.gates (bitsOf n.many i)
            rw [← hT, e, List.take_append_of_le_length (by rw [bits_len]; exact Nat.le_refl _), List.take_of_length_le (by rw [bits_len]; exact Nat.le_refl _)]
          have s8 := Same.new (o := .lst (cutV (tl.map nV) none (some ((n.many : Nat) : Int)))) n2
          have hl1 := s8 _ _ (upd_same (H := H6) (a := l1) (o := .lst ((bitsOf n.many i).map nV)))
          have hl2 : upd (upd H6 l1 (.lst ((bitsOf n.many i).map nV))) l2 (.lst (cutV (tl.map nV) none (some ((n.many : Nat) : Int)))) l2 = some (.lst ((bitsOf n.many i).map nV)) := by rw [upd_same, ecut]
          have s18 := s7.trans s8
          generalize upd (upd H6 l1 (.lst ((bitsOf n.many i).map nV))) l2 (.lst (cutV (tl.map nV) none (some ((n.many : Nat) : Int)))) = H8 at s8 hl1 hl2 s18
          refine ⟨_, _, .lst (SqL.of hl1) (dpInts K _ _), .lst (SqL.of hl2) (dpInts K _ _), PySem.W.ke_shaped_ints _, PySem.W.ke_shaped_ints _, _, rfl, ?_⟩
          rw [eqv_ints]
          refine iteF ?_
          have hp8 := s18 _ _ hp6
          have hd8 := s18 _ _ hd6
          have hL8 := s18 _ _ hL6
          have a18 := a16.trans (Aft.ofSame a16.tb s18)
          -- row in seen
          refine ⟨_, rfl, _, rfl, d, _, rfl, DGet.t hd8 (k := kO (bitsOf n.many i)) (by rw [kO_v]; exact hp8), ?_⟩
          rw [seen_no (by rw [hR]; exact hiR)]
          refine ⟨_, rfl, ?_⟩
          refine iteF ?_
          -- list(worths) != told
          have N8 := N.aft tb a18
          refine ⟨_, rfl, _, rfl, a, n, g, o, ps, p, bitsOf n.many i, rfl, N8, ok, hp8, bits_len _ _, bits_lt _ _, fun t H9 s9 ht => ?_⟩
          rw [hT] at ht
          refine ⟨t, _, rfl, .inr (SqT.of ht), fun l3 n3 => ?_⟩
          have s10 := Same.new (o := .lst (tl.map nV)) n3
          have s20 := s9.trans s10
          refine ⟨_, rfl, _, _, .lst (SqL.of upd_same) (dpInts K _ _), .lst (SqL.of (s20 _ _ hL8)) (dpInts K _ _), PySem.W.ke_shaped_ints _, PySem.W.ke_shaped_ints _, _, rfl, ?_⟩
          rw [eqv_ints]
          refine iteF ?_
          have hp10 := s20 _ _ hp8
          have hd10 := s20 _ _ hd8
          have hL10 := s20 _ _ hL8
          have hcl10 := s20 _ _ (s18 _ _ hcl6)
          have a20 := a18.trans (Aft.ofSame a18.tb s20)
          generalize upd H9 l3 (.lst (tl.map nV)) = H10 at s10 s20 hp10 hd10 hL10 hcl10 a20 ⊢
          -- outs
          have N10 := N.aft tb a20
          refine ⟨_, rfl, _, rfl, a, n, g, o, ps, p, bitsOf n.many i, rfl, N10, ok, hp10, bits_len _ _, bits_lt _ _, a20.tb, fun u H11 a11 hu => ?_⟩
          rw [hT] at hu
          have hp11 := a11.tup a20.tb hp10
          have hd11 := a11.kp d _ hd10 (a20.tb.nott hd10 fun _ z => by cases z)
          have hL11 := a11.lst a20.tb hL10
          have hcl11 := a11.lst a20.tb hcl10
          have a21 := a20.trans a11
          refine ⟨u, _, rfl, .inr (SqT.of hu), fun l4 n4 => ?_⟩
          have s12 := Same.new (o := .lst ((n.outs.map fun j => tl.getD j 0).map nV)) n4
          have hl4 : upd H11 l4 (.lst ((n.outs.map fun j => tl.getD j 0).map nV)) l4 = some (.lst ((n.outs.map fun j => tl.getD j 0).map nV)) := upd_same
          have a22 := a21.trans (Aft.ofSame a21.tb s12)
          have hp12 := s12 _ _ hp11
          have hd12 := s12 _ _ hd11
          have hL12 := s12 _ _ hL11
          have hcl12 := s12 _ _ hcl11
          generalize upd H11 l4 (.lst ((n.outs.map fun j => tl.getD j 0).map nV)) = H12 at s12 hl4 a22 hp12 hd12 hL12 hcl12 ⊢
          have N12 := N.aft tb a22
          refine ⟨_, rfl, a, _, 2, _, rfl, rfl, SqT.of N12.top, at2, o, rfl, ⟨_, SqT.of N12.ot⟩, fun M nM => ?_⟩
          refine lc_tup (K := K) (a := o) (xs := n.outs.map nV) (fun k H' => Own H12 H' M (((n.outs.take k).map fun j => tl.getD j 0).map nV)) ⟨Same.new nM, upd_same, nM⟩ ?_ ?_ ?_
          · rintro k H13 _ o13
            exact SqT.of (o13.sm _ _ N12.ot)
          · rintro k x H13 hx o13
            have hk : k < n.outs.length := by
              have := (List.getElem?_eq_some_iff.mp hx).1
              rwa [List.length_map] at this
            have hx' : nV n.outs[k] = x := by
              rw [List.getElem?_map, List.getElem?_eq_getElem hk] at hx
              exact Option.some.inj hx
            subst hx'
            have hb : n.outs[k] < tl.length := by
              rw [hwl]
              exact ok.os _ (List.getElem_mem hk)
            refine ⟨rfl, ?_⟩
            unfold tYes
            refine iteT ?_
            refine ⟨_, rfl, _, rfl, L, _, _, _, rfl, rfl, SqL.of (o13.sm _ _ hL12), atI_nat (getD_at hb), _, o13.at_, ?_, ?_⟩
            · rw [List.length_map, List.length_map, List.length_take]
              have := ok.o8
              exact small1000 (by omega)
            · rw [List.take_add_one, List.getElem?_eq_getElem hk, List.map_append, List.map_append, Option.toList_some]
              exact o13.app
          · rintro H13 o13
            rw [List.length_map, List.take_length] at o13
            refine ⟨_, _, .lst (SqL.of (o13.sm _ _ hl4)) (dpInts K _ _), .lst (SqL.of o13.at_) (dpInts K _ _), PySem.W.ke_shaped_ints _, PySem.W.ke_shaped_ints _, _, rfl, ?_⟩
            rw [eqv_ints]
            refine iteF ?_
            have hd13 := o13.sm _ _ hd12
            have hp13 := o13.sm _ _ hp12
            have hcl13 := o13.sm _ _ hcl12
            have a23 := a22.trans (Aft.ofSame a22.tb o13.sm)
            refine ⟨_, rfl, _, rfl, d, _, rfl, DPut.t hd13 (k := kO (bitsOf n.many i)) (by rw [kO_v]; exact hp13) (by rw [seen_len]; exact small1000 (by omega)), ?_⟩
            rw [seen_put (by rw [hR]; exact hiR)]
            refine ⟨_, _, _, _, _, rfl, ⟨fun b v e hb => ?_, a23.tb.upd (a23.tb.nott hd13 fun _ z => by cases z)⟩, ?_, upd_same⟩
            · rw [upd_ne (fun z => by rw [z, hnd] at e; cases e)]
              exact a23.kp b v e hb
            · rw [upd_ne (fun z => by rw [z, hd13] at hcl13; cases hcl13)]
              exact hcl13
      · rintro σ H4 ⟨y2, y5, y6, y7, y8, rfl, a4, hcl, hd⟩
        have N4 := N.aft tb a4
        refine ⟨_, rfl, a, n, g, o, ps, 0, rfl, N4, ok, a4.tb, fun p H5 a5 hp => ?_⟩
        have a15 := a4.trans a5
        have N5 := N.aft tb a15
        have m1 := ok.m1
        refine ⟨small 1, fun z nz => ?_⟩
        have s6 := Same.new (o := .tup [.int 0]) nz
        have N6 := N5.same s6
        have hp6 := s6 _ _ hp
        refine ⟨_, rfl, a, _, 0, _, rfl, rfl, SqT.of N6.top, at0, z, n.many, _, rfl, rfl, SqT.of upd_same, (by intro h; cases h), by omega, by omega, by decide, fun e1 => ?_, fun e2 y ny => ?_⟩
        · have e1' : n.many = 1 := by omega
          have eb : (bitsOf n.many 0).map nV = [V.int 0] := by rw [e1']; rfl
          rw [eb] at hp6
          refine ⟨.tuple [.int 0], .tuple [.int 0], .tup (SqT.of hp6) (.cons (.int 0) .nil), .tup (SqT.of upd_same) (.cons (.int 0) .nil), by decide, by decide, ?_⟩
          exact q _ (a15.trans (Aft.ofSame a15.tb s6))
        · have s7 := Same.new (o := .tup (List.replicate ((n.many : Int)).toNat [V.int 0]).flatten) ny
          have ef : (List.replicate ((n.many : Int)).toNat [V.int 0]).flatten = (bitsOf n.many 0).map nV := by
            rw [Int.toNat_natCast, bits_zero, List.map_replicate, List.flatten_replicate_singleton]
            rfl
          refine ⟨_, _, .tup (SqT.of (s7 _ _ hp6)) (dpInts K _ _), .tup (SqT.of (by rw [upd_same, ef])) (dpInts K _ _), shaped_ints _, shaped_ints _, ?_⟩
          rw [eqvT_ints]
          exact q _ ((a15.trans (Aft.ofSame a15.tb s6)).trans (Aft.ofSame (a15.trans (Aft.ofSame a15.tb s6)).tb s7))
end
end K4
set_option Elab.async false
set_option linter.all false
set_option maxRecDepth 100000
set_option maxHeartbeats 4000000
namespace K4
open PySem PySem.Spec PyProof.Rows L2 GX
open C8 (Cal pe_c)
section
variable {P : Program} {w : World} {K : PySem.W.Frag} {mg : Str → Option Value} {base : Heap} {Ts : List Addr}
def spLaw (K : PySem.W.Frag) (Ts : List Addr) : Sp := fun vs H Q _ => ∃ (a : Addr) (ns : List Int), vs = [.ref a] ∧ SqL K H a (ns.map V.int) ∧ ns.length ≤ 63 ∧ Tabs Ts H ∧ ∀ H', Q (.bl true) H'
theorem ok_law {f c : Addr} {oc kV doc pm ct : Value} {od an : Option Addr} {osl : Array (Option Value)}
    (lk : K.lookup f = some ⟨oc, od, .func (PySem.W.fnOf "law" "law" (defArgs s_law) (defBody s_law) (defScope s_law) .none kV doc pm an (.ref c) ct), osl⟩) (hcd : PySem.W.codeIn K (.ref c) "law" = true) (T : Txt mg)
    (c__law_well : Cal P w K mg base 1 "_law_well" (spWell K) []) (c__law_net : Cal P w K mg base 3 "_law_net" spNet []) (c__law_right : Cal P w K mg base 4 "_law_right" (spRight Ts) []) :
    FnOk P w K mg base L2.CX0 5 f (PySem.W.fnOf "law" "law" (defArgs s_law) (defBody s_law) (defScope s_law) .none kV doc pm an (.ref c) ct) ["_law_script"] (spLaw K Ts) := by
  refine fnok lk hcd sc_law (fun vs H Q E h => ?_) (fun A outer s H vs Q E hr h => ?_)
  · obtain ⟨a, ns, rfl, _⟩ := h
    rfl
  · obtain ⟨a, ns, rfl, hS, hlen, tb, q⟩ := h
    refine ⟨_, (pss_cons (ps_for PassesOwn.never rfl (pi_range1 (by rfl) T.b_range (pa_cons (pe_callB (call_max2 rfl) (by rfl) T.b_max (by decide +kernel) (pa_cons pe_int (pa_cons (pe_callB (call_min2 rfl) (by rfl) T.b_min (by decide +kernel) (pa_cons (pe_callB call_len_seq (by rfl) T.b_len (by decide +kernel) (pa_cons (pv 0) pa_nil)) (pa_cons pe_int pa_nil))) pa_nil))) pa_nil)) (pg_name (i := 1) sc_law.nd rfl (by first | exact Or.inl rfl | exact Or.inr rfl))
        (pss_one (ps_if (pt_not (pt_val (pe_c c__law_right hr (by decide) (by rfl) (pa_cons (pe_c c__law_net hr (by decide) (by rfl) (pa_cons (pe_c c__law_well hr (by decide) (by rfl) (pa_cons (pv 0) (pa_cons (pv 1) pa_nil))) (pa_cons pe_int (pa_cons pe_int pa_nil)))) pa_nil)))) (pss_one (ps_ret pe_bl)) pss_nil)))
      (pss_one (ps_ret pe_bl))), ?_⟩
    refine ⟨_, rfl, a, _, rfl, .inl hS, _, _, rfl, _, _, rfl, _, rfl, ?_, ?_, ?_⟩
    · split <;> split <;> omega
    · rw [List.length_map]
      split <;> split <;> omega
    refine for_range (lo := 0) (fun i σ H' => ∃ x1, σ = [some (.ref a), x1] ∧ SqL K H' a (ns.map V.int) ∧ Tabs Ts H') ⟨none, rfl, hS, tb⟩ ?_ ?_
    · rintro i σ H1 hi ⟨x1, rfl, hS1, tb1⟩
      refine ⟨_, rfl, _, rfl, a, ns, i, (by rw [Int.zero_add]; rfl), hS1, fun W H2 nW w2 k2 => ?_⟩
      have tb2 : Tabs Ts H2 := tb1.keep k2 fun b hb => by cases hb
      refine ⟨W, 8, 16, rfl, w2, by decide, by decide, by decide, fun an n g o ps H3 ok _ _ N s3 => ?_⟩
      have nWT : ∀ b ∈ [W], b ∉ Ts := fun b hb => by rw [List.mem_singleton.mp hb]; exact w2.tab tb2
      have tb3 : Tabs Ts H3 := tb2.keep s3.kp nWT
      have k3 : Keep (W :: Ts) H1 H3 := (k2.mono fun b hb => by cases hb).trans (s3.kp.mono fun b hb => by rw [List.mem_singleton.mp hb]; exact List.mem_cons_self)
      refine ⟨an, n, g, o, ps, rfl, N, ok, tb3, fun H4 a4 => ⟨_, rfl, ?_⟩⟩
      refine iteF ?_
      exact ⟨_, rfl, sq_keep hS1 tb1 (k3.trans (a4.kp.mono fun b hb => List.mem_cons_of_mem _ hb)) nW, a4.tb⟩
    · rintro σ H1 _
      exact q H1
end
/-! ### what the top has written -/
theorem all_mk {l : PySem.W.OpenLaw} {w : World} {K : PySem.W.Frag} {h : Heap} {mg : Str → Option Value} {fa : Addr} (X : K.In h) (G : h.Ns mainGlobals mg) (hfa : mg "law" = some (.ref fa))
    {f0 c0 : Addr} {od0 an0 : Option Addr} {sl0 : Array (Option Value)} {oc0 kV0 dc0 pm0 ct0 : Value}
    (a0 : PySem.W.nsIn K mainGlobals "row_of" = some (some (.ref f0))) (l0 : K.lookup f0 = some ⟨oc0, od0, .func (PySem.W.fnOf "row_of" "row_of" (defArgs s_row_of) (defBody s_row_of) (defScope s_row_of) .none kV0 dc0 pm0 an0 (.ref c0) ct0), sl0⟩) (e0 : PySem.W.codeIn K (.ref c0) "row_of" = true) (k0 : PySem.W.keepIn K (.ref f0) = true)
    {P0 : Addr} {dd0 : Option Addr} {vs0 : Array Value} {ls0 : Array (Option Value)} {fl0 : Str} {tf0 tg0 tt0 : Tok} {fg0 tx0 : Int} {iF0 : Bool}
    (o0 : K.lookup c0 = some ⟨.type "code", dd0, .fields vs0, ls0⟩) (h0 : vs0[11]? = some (.ref P0) ∧ vs0.getD 11 .none = .ref P0 ∧ vs0.getD 18 .none = .str fl0 tf0 ∧ vs0.getD 7 .none = .int fg0 tg0 ∧ vs0.getD 9 .none = .bool iF0 ∧ vs0.getD 10 .none = .int tx0 tt0 ∧ c0 ≠ P0) (n0 : K.lookup P0 = none) (y0 : TabOf K mg h "row_of")
    {f1 c1 : Addr} {od1 an1 : Option Addr} {sl1 : Array (Option Value)} {oc1 kV1 dc1 pm1 ct1 : Value}
    (a1 : PySem.W.nsIn K mainGlobals "gate_worth" = some (some (.ref f1))) (l1 : K.lookup f1 = some ⟨oc1, od1, .func (PySem.W.fnOf "gate_worth" "gate_worth" (defArgs s_gate_worth) (defBody s_gate_worth) (defScope s_gate_worth) .none kV1 dc1 pm1 an1 (.ref c1) ct1), sl1⟩) (e1 : PySem.W.codeIn K (.ref c1) "gate_worth" = true) (k1 : PySem.W.keepIn K (.ref f1) = true)
    {f2 c2 : Addr} {od2 an2 : Option Addr} {sl2 : Array (Option Value)} {oc2 kV2 dc2 pm2 ct2 : Value}
    (a2 : PySem.W.nsIn K mainGlobals "worths" = some (some (.ref f2))) (l2 : K.lookup f2 = some ⟨oc2, od2, .func (PySem.W.fnOf "worths" "worths" (defArgs s_worths) (defBody s_worths) (defScope s_worths) .none kV2 dc2 pm2 an2 (.ref c2) ct2), sl2⟩) (e2 : PySem.W.codeIn K (.ref c2) "worths" = true) (k2 : PySem.W.keepIn K (.ref f2) = true)
    {f3 c3 : Addr} {od3 an3 : Option Addr} {sl3 : Array (Option Value)} {oc3 kV3 dc3 pm3 ct3 : Value}
    (a3 : PySem.W.nsIn K mainGlobals "outs_at" = some (some (.ref f3))) (l3 : K.lookup f3 = some ⟨oc3, od3, .func (PySem.W.fnOf "outs_at" "outs_at" (defArgs s_outs_at) (defBody s_outs_at) (defScope s_outs_at) .none kV3 dc3 pm3 an3 (.ref c3) ct3), sl3⟩) (e3 : PySem.W.codeIn K (.ref c3) "outs_at" = true) (k3 : PySem.W.keepIn K (.ref f3) = true)
    {P3 : Addr} {dd3 : Option Addr} {vs3 : Array Value} {ls3 : Array (Option Value)} {fl3 : Str} {tf3 tg3 tt3 : Tok} {fg3 tx3 : Int} {iF3 : Bool}
    (o3 : K.lookup c3 = some ⟨.type "code", dd3, .fields vs3, ls3⟩) (h3 : vs3[11]? = some (.ref P3) ∧ vs3.getD 11 .none = .ref P3 ∧ vs3.getD 18 .none = .str fl3 tf3 ∧ vs3.getD 7 .none = .int fg3 tg3 ∧ vs3.getD 9 .none = .bool iF3 ∧ vs3.getD 10 .none = .int tx3 tt3 ∧ c3 ≠ P3) (n3 : K.lookup P3 = none) (y3 : TabOf K mg h "outs_at")
    {f4 c4 : Addr} {od4 an4 : Option Addr} {sl4 : Array (Option Value)} {oc4 kV4 dc4 pm4 ct4 : Value}
    (a4 : PySem.W.nsIn K mainGlobals "_law_well" = some (some (.ref f4))) (l4 : K.lookup f4 = some ⟨oc4, od4, .func (PySem.W.fnOf "_law_well" "_law_well" (defArgs s__law_well) (defBody s__law_well) (defScope s__law_well) .none kV4 dc4 pm4 an4 (.ref c4) ct4), sl4⟩) (e4 : PySem.W.codeIn K (.ref c4) "_law_well" = true) (k4 : PySem.W.keepIn K (.ref f4) = true)
    {f5 c5 : Addr} {od5 an5 : Option Addr} {sl5 : Array (Option Value)} {oc5 kV5 dc5 pm5 ct5 : Value}
    (a5 : PySem.W.nsIn K mainGlobals "_law_take" = some (some (.ref f5))) (l5 : K.lookup f5 = some ⟨oc5, od5, .func (PySem.W.fnOf "_law_take" "_law_take" (defArgs s__law_take) (defBody s__law_take) (defScope s__law_take) .none kV5 dc5 pm5 an5 (.ref c5) ct5), sl5⟩) (e5 : PySem.W.codeIn K (.ref c5) "_law_take" = true) (k5 : PySem.W.keepIn K (.ref f5) = true)
    {f6 c6 : Addr} {od6 an6 : Option Addr} {sl6 : Array (Option Value)} {oc6 kV6 dc6 pm6 ct6 : Value}
    (a6 : PySem.W.nsIn K mainGlobals "_law_place" = some (some (.ref f6))) (l6 : K.lookup f6 = some ⟨oc6, od6, .func (PySem.W.fnOf "_law_place" "_law_place" (defArgs s__law_place) (defBody s__law_place) (defScope s__law_place) .none kV6 dc6 pm6 an6 (.ref c6) ct6), sl6⟩) (e6 : PySem.W.codeIn K (.ref c6) "_law_place" = true) (k6 : PySem.W.keepIn K (.ref f6) = true)
    {f7 c7 : Addr} {od7 an7 : Option Addr} {sl7 : Array (Option Value)} {oc7 kV7 dc7 pm7 ct7 : Value}
    (a7 : PySem.W.nsIn K mainGlobals "_law_net" = some (some (.ref f7))) (l7 : K.lookup f7 = some ⟨oc7, od7, .func (PySem.W.fnOf "_law_net" "_law_net" (defArgs s__law_net) (defBody s__law_net) (defScope s__law_net) .none kV7 dc7 pm7 an7 (.ref c7) ct7), sl7⟩) (e7 : PySem.W.codeIn K (.ref c7) "_law_net" = true) (k7 : PySem.W.keepIn K (.ref f7) = true)
    {f8 c8 : Addr} {od8 an8 : Option Addr} {sl8 : Array (Option Value)} {oc8 kV8 dc8 pm8 ct8 : Value}
    (a8 : PySem.W.nsIn K mainGlobals "_law_columns" = some (some (.ref f8))) (l8 : K.lookup f8 = some ⟨oc8, od8, .func (PySem.W.fnOf "_law_columns" "_law_columns" (defArgs s__law_columns) (defBody s__law_columns) (defScope s__law_columns) .none kV8 dc8 pm8 an8 (.ref c8) ct8), sl8⟩) (e8 : PySem.W.codeIn K (.ref c8) "_law_columns" = true) (k8 : PySem.W.keepIn K (.ref f8) = true)
    {f9 c9 : Addr} {od9 an9 : Option Addr} {sl9 : Array (Option Value)} {oc9 kV9 dc9 pm9 ct9 : Value}
    (a9 : PySem.W.nsIn K mainGlobals "_law_right" = some (some (.ref f9))) (l9 : K.lookup f9 = some ⟨oc9, od9, .func (PySem.W.fnOf "_law_right" "_law_right" (defArgs s__law_right) (defBody s__law_right) (defScope s__law_right) .none kV9 dc9 pm9 an9 (.ref c9) ct9), sl9⟩) (e9 : PySem.W.codeIn K (.ref c9) "_law_right" = true) (k9 : PySem.W.keepIn K (.ref f9) = true)
    {f10 c10 : Addr} {od10 an10 : Option Addr} {sl10 : Array (Option Value)} {oc10 kV10 dc10 pm10 ct10 : Value}
    (a10 : PySem.W.nsIn K mainGlobals "law" = some (some (.ref f10))) (l10 : K.lookup f10 = some ⟨oc10, od10, .func (PySem.W.fnOf "law" "law" (defArgs s_law) (defBody s_law) (defScope s_law) .none kV10 dc10 pm10 an10 (.ref c10) ct10), sl10⟩) (e10 : PySem.W.codeIn K (.ref c10) "law" = true) (k10 : PySem.W.keepIn K (.ref f10) = true)
    (z_int : PySem.W.nsIn K mainGlobals "int" = some none) (z_len : PySem.W.nsIn K mainGlobals "len" = some none) (z_list : PySem.W.nsIn K mainGlobals "list" = some none) (z_max : PySem.W.nsIn K mainGlobals "max" = some none) (z_min : PySem.W.nsIn K mainGlobals "min" = some none) (z_range : PySem.W.nsIn K mainGlobals "range" = some none) (z_tuple : PySem.W.nsIn K mainGlobals "tuple" = some none) : LamX.LawAtS l w K L2.CX0 5 63 "_law_script" mg fa h := by
  have e := hfa.symm.trans (PySem.W.mg_of X G a10)
  cases e
  have D_row_of : Dfn K mg "row_of" s_row_of f0 c0 := ⟨⟨_, _, _, _, _, _, _, _, l0⟩, e0, k0, PySem.W.mg_of X G a0⟩
  have D_gate_worth : Dfn K mg "gate_worth" s_gate_worth f1 c1 := ⟨⟨_, _, _, _, _, _, _, _, l1⟩, e1, k1, PySem.W.mg_of X G a1⟩
  have D_worths : Dfn K mg "worths" s_worths f2 c2 := ⟨⟨_, _, _, _, _, _, _, _, l2⟩, e2, k2, PySem.W.mg_of X G a2⟩
  have D_outs_at : Dfn K mg "outs_at" s_outs_at f3 c3 := ⟨⟨_, _, _, _, _, _, _, _, l3⟩, e3, k3, PySem.W.mg_of X G a3⟩
  have D__law_well : Dfn K mg "_law_well" s__law_well f4 c4 := ⟨⟨_, _, _, _, _, _, _, _, l4⟩, e4, k4, PySem.W.mg_of X G a4⟩
  have D__law_take : Dfn K mg "_law_take" s__law_take f5 c5 := ⟨⟨_, _, _, _, _, _, _, _, l5⟩, e5, k5, PySem.W.mg_of X G a5⟩
  have D__law_place : Dfn K mg "_law_place" s__law_place f6 c6 := ⟨⟨_, _, _, _, _, _, _, _, l6⟩, e6, k6, PySem.W.mg_of X G a6⟩
  have D__law_net : Dfn K mg "_law_net" s__law_net f7 c7 := ⟨⟨_, _, _, _, _, _, _, _, l7⟩, e7, k7, PySem.W.mg_of X G a7⟩
  have D__law_columns : Dfn K mg "_law_columns" s__law_columns f8 c8 := ⟨⟨_, _, _, _, _, _, _, _, l8⟩, e8, k8, PySem.W.mg_of X G a8⟩
  have D__law_right : Dfn K mg "_law_right" s__law_right f9 c9 := ⟨⟨_, _, _, _, _, _, _, _, l9⟩, e9, k9, PySem.W.mg_of X G a9⟩
  have T : Txt mg := ⟨PySem.W.mg_none_of X G z_int, PySem.W.mg_none_of X G z_len, PySem.W.mg_none_of X G z_list, PySem.W.mg_none_of X G z_max, PySem.W.mg_none_of X G z_min, PySem.W.mg_none_of X G z_range, PySem.W.mg_none_of X G z_tuple⟩
  refine ⟨(PySem.W.fnOf "law" "law" (defArgs s_law) (defBody s_law) (defScope s_law) .none kV10 dc10 pm10 an10 (.ref c10) ct10), [(c0, P0), (c3, P3)], spLaw K ([(c0, P0), (c3, P3)].map (·.2)), ?t0, ?t1, ?t2, fun s v => .of_eq rfl, fun H a ns hl _ hH hS => ⟨a, ns, rfl, hS, hl, fun p hp => ?t3, fun _ => rfl⟩, fun base _ _ TB => ?t4⟩
  case t0 => 
    intro p hp
    simp only [List.mem_cons, List.not_mem_nil, or_false] at hp
    rcases hp with rfl | rfl
    · exact y0 f0 c0 P0 _ _ _ _ _ _ (PySem.W.mg_of X G a0) l0 rfl rfl o0 h0.1
    · exact y3 f3 c3 P3 _ _ _ _ _ _ (PySem.W.mg_of X G a3) l3 rfl rfl o3 h3.1
  case t1 => 
    intro p hp
    simp only [List.mem_cons, List.not_mem_nil, or_false] at hp
    rcases hp with rfl | rfl
    · exact n0
    · exact n3
  case t2 => 
    intro p hp
    simp only [List.mem_cons, List.not_mem_nil, or_false] at hp
    rcases hp with rfl | rfl
    · exact codeHd_of X o0 h0
    · exact codeHd_of X o3 h3
  case t3 =>
    obtain ⟨pr, hpr, rfl⟩ := List.mem_map.mp hp
    exact ⟨#[], hH pr hpr, trivial⟩
  case t4 =>
    have TR := tabB_of (TB (c0, P0) (by simp))
    have TO := tabB_of (TB (c3, P3) (by simp))
    have ctake := ok_take (P := l.prog) (w := w) (base := base) D__law_take
    have cplace := ok_place D__law_place T ctake
    have cnet := ok_net D__law_net T ctake cplace
    have crow := ok_row (P := l.prog) (w := w) (Ts := [(c0, P0), (c3, P3)].map (·.2)) D_row_of T TR (by simp)
    have cw := ok_worths D_worths T (ok_gate (P := l.prog) (w := w) (base := base) D_gate_worth)
    have couts := ok_outs (Ts := [(c0, P0), (c3, P3)].map (·.2)) D_outs_at T cw TO (by simp)
    have ccols := ok_cols (P := l.prog) (w := w) (base := base) D__law_columns T
    have cright := ok_right D__law_right T ccols crow cw couts
    exact ok_law l10 e10 T (ok_well D__law_well T) cnet cright
end K4
open PySem PySem.W PyProof.Rows
set_option maxRecDepth 100000 in
set_option maxHeartbeats 0 in
theorem PySem.Challenge.cw_tablecover_k04_whole_all_rows_holds : PySem.Challenge.rw_tablecover_k04_whole_all_rows.Holds := by
  w_on; o_law; k_head; (case hw => w_witness2)
  k_fill
  refine GX.walk_defs (l := PySem.Challenge.rw_tablecover_k04_whole_all_rows) (n := 63) (k := 5) (x := "_law_script") (CX := fun _ => L2.CX0) rfl (by decide) rfl ⟨rfl, by decide, by decide⟩ (fun w h Y => PySem.W.kIn_of Y) ?F (fun _ _ _ _ _ h => h)
  case F =>
    intro w mg fa h Y KX G hmg TF
    refine' K4.all_mk KX G hmg ?a0 ?l0 ?e0 ?k0 ?o0 ?h0 ?n0 ?y0 ?a1 ?l1 ?e1 ?k1 ?a2 ?l2 ?e2 ?k2 ?a3 ?l3 ?e3 ?k3 ?o3 ?h3 ?n3 ?y3 ?a4 ?l4 ?e4 ?k4 ?a5 ?l5 ?e5 ?k5 ?a6 ?l6 ?e6 ?k6 ?a7 ?l7 ?e7 ?k7 ?a8 ?l8 ?e8 ?k8 ?a9 ?l9 ?e9 ?k9 ?a10 ?l10 ?e10 ?k10 ?z_int ?z_len ?z_list ?z_max ?z_min ?z_range ?z_tuple
    (case a0 => k_is)
    (case l0 => k_is)
    (case e0 => k_is)
    (case k0 => k_is)
    (case o0 => k_is)
    (case h0 => exact ⟨rfl, rfl, rfl, rfl, rfl, rfl, by decide⟩)
    (case n0 => rfl)
    (case y0 => exact TF _ (by decide +kernel))
    (case a1 => k_is)
    (case l1 => k_is)
    (case e1 => k_is)
    (case k1 => k_is)
    (case a2 => k_is)
    (case l2 => k_is)
    (case e2 => k_is)
    (case k2 => k_is)
    (case a3 => k_is)
    (case l3 => k_is)
    (case e3 => k_is)
    (case k3 => k_is)
    (case o3 => k_is)
    (case h3 => exact ⟨rfl, rfl, rfl, rfl, rfl, rfl, by decide⟩)
    (case n3 => rfl)
    (case y3 => exact TF _ (by decide +kernel))
    (case a4 => k_is)
    (case l4 => k_is)
    (case e4 => k_is)
    (case k4 => k_is)
    (case a5 => k_is)
    (case l5 => k_is)
    (case e5 => k_is)
    (case k5 => k_is)
    (case a6 => k_is)
    (case l6 => k_is)
    (case e6 => k_is)
    (case k6 => k_is)
    (case a7 => k_is)
    (case l7 => k_is)
    (case e7 => k_is)
    (case k7 => k_is)
    (case a8 => k_is)
    (case l8 => k_is)
    (case e8 => k_is)
    (case k8 => k_is)
    (case a9 => k_is)
    (case l9 => k_is)
    (case e9 => k_is)
    (case k9 => k_is)
    (case a10 => k_is)
    (case l10 => k_is)
    (case e10 => k_is)
    (case k10 => k_is)
    (case z_int => k_is)
    (case z_len => k_is)
    (case z_list => k_is)
    (case z_max => k_is)
    (case z_min => k_is)
    (case z_range => k_is)
    (case z_tuple => k_is)
