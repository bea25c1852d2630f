import PyProof.Rows.All
import Wide.All
import OpenK.AllK
import Wide.FinOn
import HandS.ForMost
import HandS.AnyAll
import HandS.GenList
import PyProof.TupleOfGen
import HandS.Walk
import HandS.Codes
import HandS.TupAny
import HandS.IsInst
import HandS.EndTab
import HandS.Wide
import HandS.Conv
import HandS.Zip
import KE.BitLaws
import KE.IntBitsLaws
import HandS.WideBits
import HandS.Rev
import HandS.RevRange
import HandS.Dict
import KE.GoesMore
import PyProof.EnumMake
import HandS.Style
import HandS.TupMul
import HandS.SortInts
import HandS.SetFor
import HandS.Strs
import PySem.Challenge.RW_tablecover_k50_layouts_trimmed
set_option Elab.async false
set_option linter.all false
set_option maxRecDepth 100000
set_option maxHeartbeats 4000000
/-! Generator expressions as arguments of all, any, tuple, over the hand layer: the element may call, make objects, hold further generator expressions. -/
namespace GX
open PySem PySem.Spec PyProof.Rows L2 GenW

/-- the frame of a generator expression made in the state s; A0: what runs around it while it runs -/
abbrev gcx (X : Cx) (A0 : Around) (s : Shared) (H : Hp) (scope : Scope) (code : Value) (fp : List Addr) : Cx :=
  { X with
    A := A0.deeper (genEnv scope (cloFrom X.env.cells scope.names []) s.heap.objs.size code builtinsNs X.env)
    s_0 := s
    H_0 := H
    env := genEnv scope (cloFrom X.env.cells scope.names []) s.heap.objs.size code builtinsNs X.env
    outer := X.stack
    stack := genEnv scope (cloFrom X.env.cells scope.names []) s.heap.objs.size code builtinsNs X.env :: X.stack
    ex := fp
    fn := fun _ => false
    calm := true
    pn := []
    xe := fun _ _ => False }

/-- the names of the generator expression's scope -/
structure GxOk (N : List Str) (sc scope : Scope) (own : List (Str × Nat)) : Prop where
  blk : BlkOk N sc scope own
  co : scope.isCoroutine = false
  cell : ∀ y ∈ scope.names, y.2 ≠ .cell
  dot : scope.names.lookup (".0" : Str) = some NameKind.local

section
variable {X : Cx} {pins : List (Addr × Obj)} {σ : L2.St} {H : Hp} {s : Shared}
theorem gen_start {A0 : Around} {scope : Scope} {own : List (Str × Nat)} {fp : List Addr} {code : Value} {h5 : Heap} {g5 : Array GenState} {t5 : Nat} {m : Str → Option Value}
    (I : Inv X pins σ H s) (ok : GxOk X.N X.env.scope scope own) (hN : X.N.Nodup) (hfp : ∀ b ∈ fp, FpOk X pins H b ∧ b < s.heap.objs.size)
    (hh : A0.handled = none) (hfr : A0.frames = some X.stack)
    (hn : h5.Ns s.heap.objs.size m) (kp : ∀ b o, s.heap.get? b = some o → h5.get? b = some o) (hg : AllBare g5) :
    Inv (gcx X A0 s H scope code fp) [] (wipe σ (own.map (·.2))) H { s with heap := h5, gens := g5, toks := t5 } := by
  have hfree : ∀ y ∈ scope.names, y.2 = .free → ∃ c, X.env.cells.lookup y.1 = some c := fun y hy e => by
    rcases ok.blk.free y hy e with k | k
    · exact I.ok.has _ (.inl k)
    · exact I.ok.has _ (.inr k)
  have cm : ∀ {y c}, (cloFrom X.env.cells scope.names []).lookup y = some c → X.env.cells.lookup y = some c ∧ c < s.heap.objs.size ∧ scope.names.lookup y = some .free := fun {y c} hl => by
    rcases cloFrom_mem (PySem.mem_of_lookup hl) with hm | ⟨h1, rfl⟩
    · cases hm
    · obtain ⟨c, hc⟩ := hfree _ h1 rfl
      rw [hc]
      obtain ⟨w, z⟩ := I.cell _ _ hc
      exact ⟨rfl, z.lt, ok.blk.uniq _ h1⟩
  have look : ∀ {y}, scope.names.lookup y = some .free → ∃ c, (cloFrom X.env.cells scope.names []).lookup y = some c ∧ X.env.cells.lookup y = some c := fun {y} hl => by
    have hy : (y, NameKind.free) ∈ scope.names := PySem.mem_of_lookup hl
    obtain ⟨c', e'⟩ := mem_lookup (cloFrom_has (cells := X.env.cells) (acc := []) hy)
    exact ⟨c', e', (cm e').1⟩
  have okB : (gcx X A0 s H scope code fp).Ok := by
    refine ⟨I.ok.mod, ok.blk.kind, I.ok.glob, rfl, Nat.le_refl _, fun y z c e1 e2 => ?_, fun y hy => ?_, fun y c z e => (by cases z), fun _ => hh, Around.frames_deeper hfr, .inr ⟨rfl, rfl⟩,
      fun b hb => ⟨Nat.ne_of_lt (hfp b hb).2, fun y c e z => ?_⟩, I.bs, Nat.le_trans I.ok.bsz I.sz, fun b o e hb => ?_, fun b hb z => ?_, I.stack, I.stkFree⟩
    · exact I.ok.inj y z c (cm e1).1 (cm e2).1
    · rcases hy with hy | hy
      · exact absurd rfl (ok.cell _ (PySem.mem_of_lookup hy))
      · obtain ⟨c, h1, _⟩ := look hy
        exact ⟨c, h1⟩
    · exact (hfp b hb).1.2.2.2.2.1 y c (cm e).1 z
    · rcases (hfp b hb).1.2.2.2.1 with z | z
      · exact I.ok.noex b o e z
      · exact absurd (Nat.lt_of_lt_of_le (Heap.lt_size e) (Nat.le_trans I.ok.bsz z)) (Nat.lt_irrefl _)
    · rcases List.mem_cons.mp (I.stkSub b z) with z | z
      · exact (hfp b hb).1.2.1 z
      · exact (hfp b hb).1.2.2.1 z
  refine ⟨okB, rfl, hg, Un.kept kp, ⟨m, hn, fun i y av e1 e2 e3 => ?_⟩, fun y c e => ?_, I.hok.fresh (Nat.le_refl _), fun y c e => I.freeC y c (cm e).1, fun p hp => absurd (show p ∈ ([] : List (Addr × Obj)) ++ [] from hp) (by simp), I.hok.kept kp, by rw [wipe_length]; exact I.len⟩
  · obtain ⟨e2, hne⟩ := wipe_some e2
    have no : ∀ k, scope.names.lookup y = some k → ¬ (k = .local ∨ k = .cell) := fun k e hh => by
      rcases ok.blk.own _ (PySem.mem_of_lookup e) hh with e' | e'
      · obtain ⟨p, hp, hpy⟩ := List.mem_map.mp e'
        have e3 := ok.blk.ix p hp
        have : p.1 = y := hpy
        rw [this] at e3
        exact hne (List.mem_map.mpr ⟨p, hp, nodup_ix hN e3 e1⟩)
      · exact e' (List.mem_of_getElem? e1)
    have hfr : scope.names.lookup y = some .free := by
      rcases e3 with e3 | e3 | e3
      · exact absurd (.inl rfl) (no _ e3)
      · exact absurd (.inr rfl) (no _ e3)
      · exact e3
    obtain ⟨m', hn', hl⟩ := I.loc
    have hvis : Vis X.env.scope y := (ok.blk.free _ (PySem.mem_of_lookup hfr) rfl).elim (fun k => .inr (.inl k)) (fun k => .inr (.inr k))
    obtain ⟨w, r, q⟩ := hl i y av e1 e2 hvis
    refine ⟨w, r, .inr ⟨.inr hfr, ?_⟩⟩
    obtain ⟨c, h1, h2⟩ := look hfr
    rcases q with ⟨k, _⟩ | ⟨_, c', e', z⟩
    · have k : X.env.scope.names.lookup y = some .local := k
      rcases ok.blk.free _ (PySem.mem_of_lookup hfr) rfl with k' | k' <;> rw [show X.env.scope.names.lookup y = _ from k'] at k <;> cases k
    · rw [h2] at e'; cases e'
      exact ⟨c, h1, z.keeps kp⟩
  · obtain ⟨w, z⟩ := I.cell y c (cm e).1
    exact ⟨w, z.keeps kp⟩
end

/-! ### asleep -/
/-- while the generator sleeps its consumer changes what stands at B alone -/
structure Slp (B : List Addr) (s s' : Shared) : Prop where
  os : s'.os = s.os
  bare : AllBare s'.gens
  keep : ∀ b o, b ∉ B → s.heap.get? b = some o → s'.heap.get? b = some o
/-- the consumer's own objects -/
structure Aprt (Y : Cx) (B fp : List Addr) (a : Addr) : Prop where
  hi : ∀ b ∈ B, Y.s_0.heap.objs.size ≤ b
  lo : ∀ b ∈ B, b ≠ Y.env.locals
  ce : ∀ b ∈ B, ∀ x c, Y.env.cells.lookup x = some c → c ≠ b
  sf : ∀ b ∈ B, b ∉ Y.fs
  bf : ∀ b ∈ B, b ∉ fp
  na : a ∉ B
  af : a ∉ fp
theorem woken {Y : Cx} {B fp : List Addr} {a : Addr} {go : Obj} {pins pins' : List (Addr × Obj)} {σ : L2.St} {H : Hp} {s s' : Shared} (hpn : Y.pn = []) (hB : Aprt Y B fp a) (I : Inv Y ((a, go) :: pins) σ H s)
    (hHB : ∀ b ∈ B, H b = none) (z : Slp B s s') (hp : ∀ p ∈ pins', p.1 ∈ B ∧ s'.heap.get? p.1 = some p.2 ∧ ∀ v, p.2.data ≠ .cell v) : Inv Y ((a, go) :: pins') σ H s' := by
  have I1 : Inv Y [(a, go)] σ H s := I.pins_of fun p hp => by
    have e : p = (a, go) := List.mem_singleton.mp hp
    rw [e]
    exact I.pin (a, go) (List.mem_append_right _ List.mem_cons_self)
  have nt : ∀ b u, H b = some u → b ∉ B := fun b u q hb => by rw [hHB b hb] at q; cases q
  obtain ⟨z1, z2, z3⟩ := z
  obtain ⟨hh, g, d, t, o⟩ := s'
  have ho : o = s.os := z1
  subst ho
  have J : Inv Y [(a, go)] σ H { s with heap := hh, gens := g, drawn := d, toks := t } := by
    refine I1.step (g' := g) (t' := t) (d' := d) (ch := B) (fun b hb => ?_)
      (fun b ob _ _ hc q _ => z3 b ob hc q) (fun b ob _ _ hc q _ => ⟨ob.slots, z3 b ob hc q⟩) (fun _ _ _ _ n => n) (fun b ob hc q => ⟨ob, z3 b ob hc q⟩)
      (fun _ _ q => q) (fun _ _ _ q => q) (fun b ps q => ⟨#[], by rw [q]; simp⟩) (fun m hm => ?_) (fun b u q => ?_) z2
    · refine ⟨.inr (hB.hi b hb), hB.lo b hb, hB.ce b hb, fun p hp => ?_⟩
      rw [hpn] at hp
      have e : p = (a, go) := by simpa using hp
      rw [e]
      intro e2
      have e3 : a = b := e2
      exact hB.na (by rw [e3]; exact hb)
    · obtain ⟨ob, es, ep, ho, r⟩ := hm
      exact ⟨ob, es, ep, z3 _ ob (fun hb => hB.lo _ hb rfl) ho, r⟩
    · refine (I1.hok b u q).stay (fun c v hc y => z3 c v ?_ y) (fun _ y => y) fun _ _ y => y
      rcases hc with y | y
      · rw [y]; exact nt b u q
      · exact nt c _ y
  refine J.pins_of fun p hp' => ?_
  rcases List.mem_cons.mp hp' with e | hp'
  · rw [e]
    exact J.pin (a, go) (List.mem_append_right _ List.mem_cons_self)
  · obtain ⟨h1, h2, h3⟩ := hp p hp'
    exact ⟨h2, hHB _ h1, hB.lo _ h1, hB.sf _ h1, h3⟩

/-! ### the turns -/
/-- what the consumer holds behind ys: Pn; what is wanted at a yield: Kx; where it goes on: Cn; at the end: Fi -/
structure Con where
  B : List Addr
  Pn : List V → List (Addr × Obj) → Prop
  Kx : List V → V → Hp → Prop
  Cn : List V → V → Prop
  Fi : List V → Hp → Prop
structure Con.Ok (C : Con) : Prop where
  pn : ∀ ys pins, C.Pn ys pins → ∀ p ∈ pins, p.1 ∈ C.B ∧ ∀ v, p.2.data ≠ .cell v
  all : ∀ ys pins, C.Pn ys pins → ∀ b ∈ C.B, ∃ o, (b, o) ∈ pins
def YG (Y : Cx) (C : Con) (a : Addr) (go : Obj) (σ0 : L2.St) : Protocol := fun n s₀ v s kap =>
  ∃ ys x pins H, RelV x v ∧ C.Pn ys pins ∧ Inv Y ((a, go) :: pins) σ0 H s ∧ C.Kx ys x H ∧
    (C.Cn ys x → ∀ s', Slp C.B s s' → (∃ pins', C.Pn (ys ++ [x]) pins' ∧ ∀ p ∈ pins', s'.heap.get? p.1 = some p.2) → kap (.send .none) s')
def RG (Y : Cx) (C : Con) (a : Addr) (go : Obj) (σ0 : L2.St) : Nat → Shared → Shared → Prop := fun n s₀ s => ∃ ys pins H, C.Pn ys pins ∧ Inv Y ((a, go) :: pins) σ0 H s ∧ C.Fi ys H
def GSt (Y : Cx) (C : Con) (fp : List Addr) (tn : Nat → Heap → Prop) (a : Addr) (go : Obj) (σ0 : L2.St) (W : Nat → Nat → List V → Hp → Prop) (i m : Nat) (ys : List V) (s : Shared) : Prop :=
  ∃ pins H, C.Pn ys pins ∧ Inv Y ((a, go) :: pins) σ0 H s ∧ tn i s.heap ∧ (∀ b ∈ fp, H b = none) ∧ W i m ys H
/-- the turns' reading -/
def Turns (J : It) (g : TG) (tt : TT) (te : TE) (vs : List Nat) (σ0 : L2.St) (C : Con) (W : Nat → Nat → List V → Hp → Prop) : Prop := ∀ i m ys H, W i m ys H →
  (J.stop i H ∧ C.Fi ys H) ∨ (J.go i H ∧ ∃ Nx : List V → Hp → Prop, (∀ ys' H', Nx ys' H' → ∃ m', m' < m ∧ W (i + 1) m' ys' H') ∧ ∀ x H', J.yld i H x H' → g x σ0 H' fun σ2 H2 => wipe σ2 vs = σ0 ∧ tt σ2 H2 fun b H3 =>
    if b = true then te σ2 H3 fun y H4 => C.Kx ys y H4 ∧ (C.Cn ys y → Nx (ys ++ [y]) H4) else Nx ys H3)

section
variable {Y : Cx} {C : Con} {A0 : Around} {elt tg iter : Expr} {ifs : List Expr} {scope : Scope} {pos : Pos} {it a : Addr} {fp : List Addr} {tn : Nat → Heap → Prop} {go : Obj} {J : It} {g : TG} {tt : TT} {te : TE} {vs : List Nat} {σ0 : L2.St} {W : Nat → Nat → List V → Hp → Prop}
theorem seg_loop (hA : A0.over (.compLoop (.GeneratorExp elt [⟨tg, iter, ifs, 0⟩] scope pos) 0 (.ref it) .none Y.env) [] = Y.A) (hc : Y.calm = true) (hx : ∀ e s, Y.xe e s → False) (hpn : Y.pn = []) (hco : Y.env.scope.isCoroutine = false)
    (CO : C.Ok) (hB : Aprt Y C.B fp a) (hst : ∀ b ∈ fp, b ≠ Y.env.locals ∧ b ∉ Y.fs ∧ (b ∈ Y.ex ∨ Y.s_0.heap.objs.size ≤ b) ∧ ∀ x c, Y.env.cells.lookup x = some c → c ≠ b)
    (T : Turn Y.prog Y.w Y.K tg J fp it tn) (hg : PG Y tg g) (ht : PTs Y ifs tt) (he : PE Y elt te) (turns : Turns J g tt te vs σ0 C W) :
    ∀ (m i n : Nat) (ys : List V) (s₀ s : Shared), m < n → GSt Y C fp tn a go σ0 W i m ys s →
      Seg (model Y.prog Y.w) A0 (fun n s₀ r s₁ => r = .ok .next ∧ RG Y C a go σ0 n s₀ s₁) (YG Y C a go σ0) n s₀
        (.compLoop (.GeneratorExp elt [⟨tg, iter, ifs, 0⟩] scope pos) 0 (.ref it) .none Y.env)
        ((model Y.prog Y.w).den (.compLoop (.GeneratorExp elt [⟨tg, iter, ifs, 0⟩] scope pos) 0 (.ref it) .none Y.env)) [] s := by
  intro m
  induction m using Nat.strongRecOn with
  | ind m ih =>
    intro i n ys s₀ s hmn ⟨pins, H, hP, I, st, fr, w⟩
    have stat : ∀ {H' : Hp}, (∀ b ∈ fp, H' b = none) → ∀ b ∈ fp, FpOk Y ((a, go) :: pins) H' b := fun hn b hb => by
      obtain ⟨h1, h2, h3, h4⟩ := hst b hb
      refine ⟨hn b hb, h1, h2, h3, h4, fun p hp => ?_⟩
      rw [hpn] at hp
      rcases List.mem_cons.mp (show p ∈ (a, go) :: pins from hp) with e | hp
      · rw [e]; intro e2; have e3 : a = b := e2; exact hB.af (by rw [e3]; exact hb)
      · intro e2; exact hB.bf _ (CO.pn _ _ hP p hp).1 (by rw [e2]; exact hb)
    obtain ⟨k, rfl⟩ : ∃ k, n = k + 1 := ⟨n - 1, by omega⟩
    show Seg _ A0 _ _ _ s₀ _ ((compTurn (.GeneratorExp elt [⟨tg, iter, ifs, 0⟩] scope pos) 0 (.ref it) .none Y.env).onRaise (leaving Y.env)) [] s
    rw [compTurn_gen, Sem.onRaise_eq_wrap]
    refine seg_bind_wrap (wpAny_standAt ?_)
    rcases turns i m ys H w with ⟨stop, q⟩ | ⟨go1, Nx, hN, step⟩
    · refine seg_bind_wrap ?_
      rw [hA]
      refine thn (T.done Y rfl rfl rfl hc i _ s σ0 H _ I (stat fr) st stop) fun r s1 ⟨hr, I1⟩ => ?_
      subst hr
      exact seg_end (.ok .next) ⟨rfl, ys, pins, H, hP, I1, q⟩
    · refine seg_bind_wrap ?_
      rw [hA]
      refine thn (T.item Y rfl rfl rfl hc i _ s σ0 H _ I (stat fr) st go1) fun r s1 ⟨u, hr, h1⟩ => ?_
      subst hr
      refine seg_bind_wrap ?_
      rw [hA]
      refine thn h1 fun _ s2 ⟨x, H2, I2, rx, y2, st2, fr2⟩ => ?_
      have I2' := I2.pinned (stat fr2) (T.obj _ _ st2)
      refine seg_bind_wrap ?_
      rw [hA]
      refine wpAny_mono (hg.run _ s2 σ0 H2 x u _ I2' rx (step x H2 y2)) (fun _ s3 ⟨σ3, H3, I3, hw, q3⟩ => ?_) (fun e s' z => (hx e s' z).elim)
      refine seg_bind_wrap ?_
      rw [hA]
      refine wpAny_mono (ht.run _ s3 σ3 H3 _ I3 q3) (fun b s4 ⟨H4, I4, q4⟩ => ?_) (fun e s' z => (hx e s' z).elim)
      have weak : ∀ {H' : Hp} {s' : Shared}, Inv Y ((a, go) :: pins ++ pinsAt fp s2.heap) σ3 H' s' → Inv Y ((a, go) :: pins ++ pinsAt fp s2.heap) σ0 H' s' := fun I' => by
        refine I'.weak (by rw [← hw, wipe_length]) fun j v e => ?_
        rw [← hw] at e
        exact (wipe_some e).1
      have tnk : ∀ {H' : Hp} {s' : Shared}, Inv Y ((a, go) :: pins ++ pinsAt fp s2.heap) σ3 H' s' → tn (i + 1) s'.heap ∧ ∀ b ∈ fp, H' b = none := fun I' => by
        refine ⟨T.keep _ _ _ st2 fun b hb o e => (I'.pin (b, o) (List.mem_append_right _ (List.mem_append_right _ (mem_pinsAt hb e)))).1, fun b hb => ?_⟩
        obtain ⟨o, e, d⟩ := T.obj _ _ st2 b hb
        exact (I'.pin (b, o) (List.mem_append_right _ (List.mem_append_right _ (mem_pinsAt hb e)))).2.1
      cases b with
      | false =>
        rw [if_neg Bool.false_ne_true] at q4
        obtain ⟨m', hm, w'⟩ := hN _ _ q4
        obtain ⟨t4, f4⟩ := tnk I4
        simp only [Bool.false_eq_true, if_false]
        exact seg_again rfl (ih m' hm (i + 1) (k + 1) ys s₀ s4 (by omega) ⟨pins, H4, hP, (weak I4).unpinned, t4, f4, w'⟩)
      | true =>
        rw [if_pos rfl] at q4
        simp only [if_true]
        have hy : ∀ v, yieldOut Y.env v = yieldValue v := fun v => by simp only [yieldOut, hco, Bool.false_eq_true, if_false]
        simp only [hy]
        rw [Sem.bind_eq_wrap', Sem.bind_eq_wrap', Sem.wrap_wrap, Sem.wrap_wrap]
        refine seg_wrap ?_
        rw [hA]
        refine wpAny_mono (he.run _ s4 σ3 H4 _ I4 q4) (fun v s5 ⟨y, H5, I5, ry, kx, nx⟩ => ?_) (fun e s' z => (hx e s' z).elim)
        obtain ⟨t5, f5⟩ := tnk I5
        have I5' := (weak I5).unpinned
        refine seg_at (seg_yield rfl rfl rfl ⟨ys, y, pins, H5, ry, hP, I5', kx, fun cn s6 z ⟨pins', hP', hp'⟩ => ?_⟩)
        obtain ⟨m', hm, w'⟩ := hN _ _ (nx cn)
        have hHB : ∀ b ∈ C.B, H5 b = none := fun b hb => by
          obtain ⟨o, ho⟩ := CO.all _ _ hP b hb
          exact (I5'.pin (b, o) (List.mem_append_right _ (List.mem_cons_of_mem _ ho))).2.1
        have I6 : Inv Y ((a, go) :: pins') σ0 H5 s6 := woken hpn hB I5' hHB z fun p hp => ⟨(CO.pn _ _ hP' p hp).1, hp' p hp, (CO.pn _ _ hP' p hp).2⟩
        refine seg_again rfl (ih m' hm (i + 1) k (ys ++ [y]) s6 s6 (by omega) ⟨pins', H5, hP', I6, T.keep _ _ _ t5 fun b hb o e => z.keep b o (fun hm => hB.bf b hm hb) e, f5, w'⟩)
end
end GX
set_option Elab.async false
set_option linter.all false
set_option maxRecDepth 100000
set_option maxHeartbeats 4000000
namespace GX
open PySem PySem.Spec PyProof.Rows L2 GenW

section
variable {Y : Cx} {C : Con} {A0 : Around} {elt tg iter : Expr} {ifs : List Expr} {scope : Scope} {pos : Pos} {it a : Addr} {fp : List Addr} {tn : Nat → Heap → Prop} {go : Obj} {J : It} {g : TG} {tt : TT} {te : TE} {vs : List Nat} {σ0 : L2.St} {W : Nat → Nat → List V → Hp → Prop}
theorem seg_start (hA : A0.over (.compLoop (.GeneratorExp elt [⟨tg, iter, ifs, 0⟩] scope pos) 0 (.ref it) .none Y.env) [] = Y.A) (hc : Y.calm = true) (hx : ∀ e s, Y.xe e s → False) (hpn : Y.pn = []) (hco : Y.env.scope.isCoroutine = false)
    (CO : C.Ok) (hB : Aprt Y C.B fp a) (hst : ∀ b ∈ fp, b ≠ Y.env.locals ∧ b ∉ Y.fs ∧ (b ∈ Y.ex ∨ Y.s_0.heap.objs.size ≤ b) ∧ ∀ x c, Y.env.cells.lookup x = some c → c ≠ b)
    (T : Turn Y.prog Y.w Y.K tg J fp it tn) (hg : PG Y tg g) (ht : PTs Y ifs tt) (he : PE Y elt te) (turns : Turns J g tt te vs σ0 C W)
    (m i n : Nat) (ys : List V) (s₀ s : Shared) (hmn : m < n) (h : GSt Y C fp tn a go σ0 W i m ys s) :
      Seg (model Y.prog Y.w) A0 (fun n s₀ r s₁ => r = .ok .next ∧ RG Y C a go σ0 n s₀ s₁) (YG Y C a go σ0) n s₀
        (.compStart (.GeneratorExp elt [⟨tg, iter, ifs, 0⟩] scope pos) 0 (.ref it) .none Y.env)
        ((model Y.prog Y.w).den (.compStart (.GeneratorExp elt [⟨tg, iter, ifs, 0⟩] scope pos) 0 (.ref it) .none Y.env)) [] s := by
  have loop := seg_loop (iter := iter) (scope := scope) (pos := pos) hA hc hx hpn hco CO hB hst T hg ht he turns m i n ys s₀ s hmn h
  obtain ⟨pins, H, hP, I, st, fr, w⟩ := h
  show Seg _ A0 _ _ _ s₀ _ ((compStart (.GeneratorExp elt [⟨tg, iter, ifs, 0⟩] scope pos) 0 (.ref it) .none Y.env).onRaise (leaving Y.env)) [] s
  unfold compStart
  rw [Sem.onRaise_eq_wrap]
  show Seg _ A0 _ _ _ s₀ _ ((ask >>= _).wrap _ _ _ _) [] s
  refine seg_bind_wrap (wpAny_askSetting ?_)
  split
  · exact seg_again rfl loop
  · first
      | exact seg_bind_wrap (wpAny_rule (seg_bind_wrap (wpAny_standAt (seg_bind_wrap (T.self _ i s _ _ st (seg_again rfl loop))))))
      | (refine seg_bind_wrap (wpAny_rule ?_); show Seg _ A0 _ _ _ s₀ _ ((standAt iter.pos >>= _).wrap _ _ _ _) [] s; exact seg_bind_wrap (wpAny_standAt (seg_bind_wrap (T.self _ i s _ _ st (seg_again rfl loop)))))
end

/-! ### the generator, as its consumer sees it -/
def Live (Y : Cx) (C : Con) (A0 : Around) (a : Addr) (go : Obj) (σ0 : L2.St) (g n : Nat) (s : Shared) : Prop :=
  s.heap.IsGen a g ∧ s.heap.NoLimit ∧ ∃ gs, s.gens[g]? = some gs ∧ gs.Goes (model Y.prog Y.w) A0 (fun n s₀ r s₁ => r = .ok .next ∧ RG Y C a go σ0 n s₀ s₁) (YG Y C a go σ0) n (.send .none) (s.setGen g .running)
theorem inv_setGen {Y : Cx} {pins : List (Addr × Obj)} {σ : L2.St} {H : Hp} {s : Shared} {g : Nat} {gs : GenState} (I : Inv Y pins σ H s) (hb : gs.bare = true) : Inv Y pins σ H (s.setGen g gs) :=
  ⟨I.ok, I.os, allBare_setGen I.bare hb, I.base, I.loc, I.cell, I.free, I.freeC, I.pin, I.hok, I.len⟩
/-- one next -/
theorem gx_next {Y : Cx} {C : Con} {A : Around} {a : Addr} {go : Obj} {σ0 : L2.St} {g n : Nat} {s : Shared} {Q : Option Value → Shared → Prop} {E : Value → Shared → Prop} (hh : A.handled = none) (hroom : A.depth < recursionLimit)
    (L : Live Y C A.in1 a go σ0 g n s) (hgo : ∀ h : Heap, h.get? a = some go → h.IsGen a g)
    (hY : ∀ ys x v pins H s₁, RelV x v → C.Pn ys pins → Inv Y ((a, go) :: pins) σ0 H s₁ → C.Kx ys x H →
      (C.Cn ys x → ∀ s', Slp C.B s₁ s' → (∃ pins', C.Pn (ys ++ [x]) pins' ∧ ∀ p ∈ pins', s'.heap.get? p.1 = some p.2) → s'.heap.get? a = some go → s'.heap.NoLimit → s'.gens = s₁.gens → ∃ k, n = k + 1 ∧ Live Y C A.in1 a go σ0 g k s') → Q (some v) s₁)
    (hF : ∀ ys pins H s₁, C.Pn ys pins → Inv Y ((a, go) :: pins) σ0 H s₁ → C.Fi ys H → Q none s₁) :
    wpAny (model Y.prog Y.w) A (pyNext (.ref a)) Q E s := by
  obtain ⟨hg, hl, gs, hgs, hgoes⟩ := L
  have hgl : g < s.gens.size := (Array.getElem?_eq_some_iff.mp hgs).1
  refine wpAny_gsz (n := g + 1) hgl (wpAny_pyNext_genexpQ hh hl hroom hg hgs hgoes (fun v s₁ gs' hb hv => ?_) (fun s₁ hp h' hk => ?_))
  · intro hsz
    obtain ⟨ys, x, pins, H, rv, hP, I, kx, kap⟩ := hv
    have hsz1 : g < s₁.gens.size := by
      have q : (s₁.setGen g gs').gens.size = s₁.gens.size := setGen_size _ _ _
      have hsz' : g + 1 ≤ (s₁.setGen g gs').gens.size := hsz
      omega
    refine hY ys x v pins H _ rv hP (inv_setGen I hb) kx fun cn s' z hp ha hl' hgens => ?_
    have z' : Slp C.B s₁ (s'.setGen g .running) := ⟨z.os, allBare_setGen z.bare rfl, fun b o hb e => z.keep b o hb e⟩
    have q := kap cn _ z' hp
    cases n with
    | zero => exact False.elim q
    | succ k => exact ⟨k, rfl, hgo _ ha, hl', gs', by rw [hgens]; exact setGen_at hsz1, q⟩
  · intro _
    obtain ⟨ys, pins, H, hP, I, fi⟩ := hp
    refine hF ys pins H _ hP ?_ fi
    exact (inv_setGen (gs := .finished) (g := g) I rfl).kept (t' := s₁.toks) hk
end GX
set_option Elab.async false
set_option linter.all false
set_option maxRecDepth 100000
set_option maxHeartbeats 4000000
namespace GX
open PySem PySem.Spec PyProof.Rows L2 GenW

/-- a generator expression has been made -/
structure Made (X : Cx) (pins : List (Addr × Obj)) (σ : L2.St) (A0 : Around) (elt tg iter : Expr) (ifs : List Expr) (scope : Scope) (gpos : Pos) (own : List (Str × Nat)) (it a : Addr) (fp : List Addr) (tn : Nat → Heap → Prop) (J : It) (H4 : Hp) (s4 s5 : Shared) (code : Value) (g : Nat) (go : Obj) : Prop where
  outer : Inv X pins σ H4 s4
  inner : Inv (gcx X A0 s4 H4 scope code fp) [(a, go)] (wipe σ (own.map (·.2))) H4 s5
  turn : Turn X.prog X.w X.K tg J fp it tn
  tn0 : tn 0 s5.heap
  fpk : ∀ b ∈ fp, FpOk X pins H4 b ∧ b < s4.heap.objs.size
  alo : s4.heap.objs.size < a
  asz : s5.heap.objs.size = a + 1
  gen : ∀ h : Heap, h.get? a = some go → h.IsGen a g
  gs : s5.gens[g]? = some (.fresh (.compStart (.GeneratorExp elt [⟨tg, iter, ifs, 0⟩] scope gpos) 0 (.ref it) .none (gcx X A0 s4 H4 scope code fp).env))
  ga : s5.heap.get? a = some go

section
variable {X : Cx} {pins : List (Addr × Obj)} {σ : L2.St} {H : Hp} {s : Shared}
theorem gx_make {A0 : Around} {c P : Addr} {elt tg iter : Expr} {ifs : List Expr} {gpos : Pos} {scope : Scope} {own : List (Str × Nat)} {wi : TI} {k : Nat} {R : It → Hp → Prop} {Q' : Value → Shared → Prop}
    (hA0h : A0.handled = none) (hA0f : A0.frames = X.A.frames) (hr : Room k X.A) (TB : GxR.TabB X.base X.mg c P) (hcode : X.env.code = .ref c) (ok : GxOk X.N X.env.scope scope own) (hN : X.N.Nodup) (hi : PI X tg iter wi)
    (hs : ∀ v, genFold iter X.env v = pure v) (I : Inv X pins σ H s) (h : wi σ H fun J H1 => GxR.TabG H1 P ∧ ∀ H2, GxR.Tabbed P H1 H2 → R J H2)
    (hQ : ∀ it a fp tn J H4 s4 s5 code g go, Made X pins σ A0 elt tg iter ifs scope gpos own it a fp tn J H4 s4 s5 code g go → R J H4 → Q' (.ref a) s5) :
    wpAny (model X.prog X.w) X.A (eval (.GeneratorExp elt [⟨tg, iter, ifs, 0⟩] scope gpos) X.env) Q' X.xe s := by
  have hfree : ∀ y ∈ scope.names, y.2 = .free → ∃ c, X.env.cells.lookup y.1 = some c := fun y hy e => by
    rcases ok.blk.free y hy e with k | k
    · exact I.ok.has _ (.inl k)
    · exact I.ok.has _ (.inr k)
  refine wpAny_GeneratorExp_make ok.co (closure_ok hfree) ok.cell ok.dot ok.blk.kind (by have := hr.dp; omega) ?_ hs
  refine thn (hi.run pins s σ H _ I h) fun xv s1 hx => thn hx fun itv s2 h2 => ?_
  obtain ⟨it, fp, tn, J, H2, e, I2, T, st2, f2, ⟨ps, hP, ht⟩, q⟩ := h2
  subst e
  have hPs : s2.heap.get? P = some { cls := .none, data := .fields ps } := I2.hok P _ hP
  have cd : PySem.W.CodeHd s2.heap c P := TB.code.keeps fun b u e => I2.bk b u e
  have sz : ∀ b ∈ fp, b < s2.heap.objs.size := fun b hb => by
    obtain ⟨o, e, _⟩ := T.obj _ _ st2 b hb
    exact Heap.lt_size e
  have fnP : ∀ b ∈ fp, b ≠ P := fun b hb e => by
    have q := (f2 b hb).1
    rw [e, hP] at q
    cases q
  have cont : ∀ (code : Value) (h3 : Heap) (tk : Nat) (ps' : Array Value), Heap.ExtBut P s2.heap h3 → s2.heap.objs.size ≤ h3.objs.size → h3.get? P = some { cls := .none, data := .fields ps' } → (∃ more, ps' = ps ++ more) → TriplesOk ps'.toList →
      wpAny (model X.prog X.w) X.A (builtinsFor X.env.globals X.env.builtins) (fun bi s₄ =>
        ∀ h', h'.Ns s₄.heap.objs.size (fun y => if y = ".0" then some (Value.ref it) else none) → Heap.SameBut s₄.heap.objs.size (s₄.heap.push { cls := .type "frame", data := .dict #[] }) h' →
          Q' (.ref h'.objs.size) { s₄ with
            gens := s₄.gens.push (.fresh (.compStart (.GeneratorExp elt [⟨tg, iter, ifs, 0⟩] scope gpos) 0 (.ref it) .none (genEnv scope (cloFrom X.env.cells scope.names []) s₄.heap.objs.size code bi X.env))),
            toks := s₄.toks + 1 + 1 + 1,
            heap := h'.push { cls := .type "generator", data := .fields #[.int s₄.gens.size 0, .str "<genexpr>" (s₄.toks + 1), .str (X.env.qual ++ "<genexpr>") (s₄.toks + 1 + 1)] } }) X.xe { s2 with heap := h3, toks := tk } := by
    intro code h3 tk ps' hx hsz hP3 hmore ht3
    obtain ⟨more, em⟩ := hmore
    obtain ⟨bm, ob, e1, e2, e3, e4, e5, e6, e7, e8⟩ := TB.bm
    have keep3 : ∀ b u, b ≠ P → s2.heap.get? b = some u → h3.get? b = some u := fun b u hb e => hx b u hb e
    refine wpAny_builtinsFor (m := X.mg) (by rw [I2.ok.glob]; exact (I2.mod.glob.keeps I2.bk).extBut hx TB.gP) e1 e2 (keep3 _ _ e4 (I2.bk _ _ e5)) e6 e7 e8 ?_
    have I4 : Inv X pins σ (upd H2 P (.tbl (ps ++ more))) { s2 with heap := h3, toks := tk } :=
      GxR.inv_tab (more := more) (h' := h3) (g' := s2.gens) (d' := s2.drawn) (t' := tk) I2 hP (fun b u hb e => keep3 b u hb e) (by rw [← em]; exact hP3) I2.bare
    have hT4 : GxR.Tabbed P H2 (upd H2 P (.tbl (ps ++ more))) := ⟨⟨ps ++ more, upd_same, by rw [← em]; exact ht3⟩, fun b hb => upd_ne hb⟩
    have fk : ∀ b ∈ fp, FpOk X pins (upd H2 P (.tbl (ps ++ more))) b ∧ b < h3.objs.size := fun b hb => by
      refine ⟨⟨?_, (f2 b hb).2⟩, Nat.lt_of_lt_of_le (sz b hb) hsz⟩
      rw [upd_ne (fnP b hb)]
      exact (f2 b hb).1
    intro h' hn' hs'
    have hszh : h'.objs.size = h3.objs.size + 1 := by rw [hs'.1, Heap.size_push]
    have keep' : ∀ b o, h3.get? b = some o → h'.get? b = some o := fun b o e => hs'.extBut b o (Nat.ne_of_lt (Heap.lt_size e)) (Heap.get?_push_of_some _ e)
    have keep5 : ∀ b o, h3.get? b = some o → (h'.push { cls := .type "generator", data := .fields #[.int s2.gens.size 0, .str "<genexpr>" (tk + 1), .str (X.env.qual ++ "<genexpr>") (tk + 1 + 1)] }).get? b = some o := fun b o e => Heap.get?_push_of_some _ (keep' b o e)
    have hat : (h'.push { cls := .type "generator", data := .fields #[.int s2.gens.size 0, .str "<genexpr>" (tk + 1), .str (X.env.qual ++ "<genexpr>") (tk + 1 + 1)] }).get? h'.objs.size = some { cls := .type "generator", data := .fields #[.int s2.gens.size 0, .str "<genexpr>" (tk + 1), .str (X.env.qual ++ "<genexpr>") (tk + 1 + 1)] } := Heap.get?_push_size _ rfl
    have IY : Inv (gcx X A0 { s2 with heap := h3, toks := tk } (upd H2 P (.tbl (ps ++ more))) scope code fp) [] (wipe σ (own.map (·.2))) (upd H2 P (.tbl (ps ++ more)))
        { s2 with heap := h'.push { cls := .type "generator", data := .fields #[.int s2.gens.size 0, .str "<genexpr>" (tk + 1), .str (X.env.qual ++ "<genexpr>") (tk + 1 + 1)] }, gens := s2.gens.push (.fresh (.compStart (.GeneratorExp elt [⟨tg, iter, ifs, 0⟩] scope gpos) 0 (.ref it) .none (genEnv scope (cloFrom X.env.cells scope.names []) h3.objs.size code builtinsNs X.env))), toks := tk + 1 + 1 + 1 } :=
      gen_start (s := { s2 with heap := h3, toks := tk }) I4 ok hN fk hA0h (hA0f.trans I2.ok.frames) (hn'.push _) keep5 (I2.bare.push rfl)
    have ano : ∀ b, b < h3.objs.size → h'.objs.size ≠ b := fun b hb => by rw [hszh]; omega
    refine hQ it h'.objs.size fp tn J _ { s2 with heap := h3, toks := tk } _ code s2.gens.size _ ⟨I4, IY.pins_of fun p hp => ?_, T, ?_, fk, ?_, ?_, ?_, Array.getElem?_push_size .., hat⟩ (q _ hT4)
    · rw [List.mem_singleton.mp hp]
      refine ⟨hat, I4.hok.fresh (by show h3.objs.size ≤ h'.objs.size; omega), ?_, fun hb => ?_, fun v z => by cases z⟩
      · show h'.objs.size ≠ h3.objs.size
        omega
      · obtain ⟨_, o, ho, _⟩ := (I4.stack).mem hb
        exact ano _ (Heap.lt_size ho) rfl
    · exact T.keep _ _ _ st2 fun b hb o e => keep5 b o (keep3 b o (fnP b hb) e)
    · show h3.objs.size < h'.objs.size
      omega
    · show (h'.push _).objs.size = h'.objs.size + 1
      rw [Heap.size_push]
    · intro h hh
      exact ⟨_, _, _, hh, rfl, rfl, rfl⟩
  refine ⟨I2.nolimit, ?_⟩
  cases hf : codeAmong gpos ps.toList with
  | none =>
    refine wpAny_genexprCodeX hcode (cd.code hPs ht) (cd.tab hPs) hf fun c' h' tk hx hge hlt hco' _ htab' _ => ?_
    obtain ⟨o1, vs, f1, tf, fl, tg', inF, tx, tt, op, _, _, _, _, _, _, _, _, _, htr, _⟩ := hco'
    exact cont _ h' tk _ hx (Nat.le_trans hge (Nat.le_of_lt hlt)) htab'.2 ⟨_, rfl⟩ htr
  | some cv =>
    refine wpAny_genexprCode_hit hcode (cd.code hPs ht) hf ?_
    exact cont cv s2.heap s2.toks ps (Heap.ExtBut.refl _ _) (Nat.le_refl _) hPs ⟨#[], by simp⟩ ht
end
end GX
set_option Elab.async false
set_option linter.all false
set_option maxRecDepth 100000
set_option maxHeartbeats 4000000
namespace GX
open PySem PySem.Spec PyProof.Rows L2 GenW

theorem over_comp {A : Around} {elt : Expr} {gs : List Comprehension} {scope : Scope} {pos : Pos} {it acc : Value} {env : Env} : A.over (.compLoop (.GeneratorExp elt gs scope pos) 0 it acc env) [] = A.deeper env := by
  first
    | rfl
    | (obtain ⟨hd, d, fr, gs, u⟩ := A; simp [Around.over, Around.deeper, marksOver, frameCount, unitsOf, envsOf, guardsOf, pushEnvs, pushGuards, Code.envs, Code.env?, Code.isFrame, Code.guards, Code.isGuard, Code.weight, Code.frames, Code.isCreation, Code.isCaller, Code.cUnits])

section
variable {X : Cx} {pins : List (Addr × Obj)} {σ : L2.St} {A0 : Around} {elt tg iter : Expr} {ifs : List Expr} {scope : Scope} {gpos : Pos} {own : List (Str × Nat)} {it a : Addr} {fp : List Addr} {tn : Nat → Heap → Prop} {J : It} {H4 : Hp} {s4 s5 : Shared} {code : Value} {g : Nat} {go : Obj}
/-- behind it: the outer frame again -/
theorem Made.back (M : Made X pins σ A0 elt tg iter ifs scope gpos own it a fp tn J H4 s4 s5 code g go) {pl : List (Addr × Obj)} {σ' : L2.St} {H' : Hp} {s' : Shared} (I : Inv (gcx X A0 s4 H4 scope code fp) pl σ' H' s') : Inv X pins σ H' s' := by
  have os : s'.os = s4.os := I.os
  have un : Un (frs X.stack) fp H4 H' s4.heap s'.heap := I.base
  have hok : HOk X.prog X.w H' s'.heap := I.hok
  have bare := I.bare
  obtain ⟨h', g', d', t', o'⟩ := s'
  obtain rfl : o' = s4.os := os
  exact M.outer.call (h' := h') (g' := g') (d' := d') (t' := t') (ch := fp) un hok bare fun b hb => ⟨(M.fpk b hb).1.2.2.2.1, (M.fpk b hb).1.2.1, (M.fpk b hb).1.2.2.2.2.1, (M.fpk b hb).1.2.2.2.2.2⟩
theorem Made.stat (M : Made X pins σ A0 elt tg iter ifs scope gpos own it a fp tn J H4 s4 s5 code g go) : ∀ b ∈ fp, b ≠ (gcx X A0 s4 H4 scope code fp).env.locals ∧ b ∉ (gcx X A0 s4 H4 scope code fp).fs ∧ (b ∈ (gcx X A0 s4 H4 scope code fp).ex ∨ (gcx X A0 s4 H4 scope code fp).s_0.heap.objs.size ≤ b) ∧ ∀ x c, (gcx X A0 s4 H4 scope code fp).env.cells.lookup x = some c → c ≠ b := fun b hb =>
  ⟨(M.inner.ok.exf b hb).1, M.inner.ok.exfs b hb, .inl hb, fun x c e => (M.inner.ok.exf b hb).2 x c e⟩
/-- the consumer's objects: none, or one that is new -/
theorem Made.apart0 (M : Made X pins σ A0 elt tg iter ifs scope gpos own it a fp tn J H4 s4 s5 code g go) : Aprt (gcx X A0 s4 H4 scope code fp) [] fp a :=
  ⟨fun b hb => (by cases hb), fun b hb => (by cases hb), fun b hb => (by cases hb), fun b hb => (by cases hb), fun b hb => (by cases hb), fun hb => (by cases hb), fun hb =>
    absurd (Nat.lt_trans (M.fpk a hb).2 M.alo) (Nat.lt_irrefl _)⟩
theorem Made.apart1 (M : Made X pins σ A0 elt tg iter ifs scope gpos own it a fp tn J H4 s4 s5 code g go) {S : Addr} (hS : a < S) : Aprt (gcx X A0 s4 H4 scope code fp) [S] fp a := by
  have h1 := M.alo
  have big : ∀ b ∈ [S], s5.heap.objs.size ≤ b := fun b hb => by
    rw [List.mem_singleton.mp hb, M.asz]
    exact hS
  have sz5 : s4.heap.objs.size ≤ s5.heap.objs.size := by rw [M.asz]; omega
  refine ⟨fun b hb => Nat.le_trans sz5 (big b hb), fun b hb => ?_, fun b hb x c e z => ?_, fun b hb => M.inner.nofs (big b hb), fun b hb hb2 => ?_, fun hb => ?_, M.apart0.af⟩
  · exact Nat.ne_of_gt (Nat.lt_of_lt_of_le M.inner.lt (big b hb))
  · obtain ⟨v, q⟩ := M.inner.cell x c e
    have q1 := q.lt
    have q2 := big b hb
    rw [z] at q1
    exact absurd (Nat.lt_of_lt_of_le q1 q2) (Nat.lt_irrefl _)
  · exact absurd (Nat.lt_of_lt_of_le (M.fpk b hb2).2 (Nat.le_trans sz5 (big b hb))) (Nat.lt_irrefl _)
  · exact Nat.ne_of_lt hS (List.mem_singleton.mp hb)
/-- the fresh generator, for a consumer whose objects stand in a later state -/
theorem Made.live (M : Made X pins σ A0 elt tg iter ifs scope gpos own it a fp tn J H4 s4 s5 code g go) {C : Con} {g1 : TG} {tt : TT} {te : TE} {W : Nat → Nat → List V → Hp → Prop} {m : Nat} {s6 : Shared} {pins' : List (Addr × Obj)} (CO : C.Ok) (hB : Aprt (gcx X A0 s4 H4 scope code fp) C.B fp a)
    (co : scope.isCoroutine = false)
    (hg : PG (gcx X A0 s4 H4 scope code fp) tg g1) (ht : PTs (gcx X A0 s4 H4 scope code fp) ifs tt) (he : PE (gcx X A0 s4 H4 scope code fp) elt te) (turns : Turns J g1 tt te (own.map (·.2)) (wipe σ (own.map (·.2))) C W) (w0 : W 0 m [] H4)
    (hHB : ∀ b ∈ C.B, H4 b = none) (z : Slp C.B s5 s6) (hP : C.Pn [] pins') (hp : ∀ p ∈ pins', s6.heap.get? p.1 = some p.2) (hgens : s6.gens = s5.gens) (hl : s6.heap.NoLimit) :
    Live (gcx X A0 s4 H4 scope code fp) C A0 a go (wipe σ (own.map (·.2))) g (m + 1) s6 := by
  have ga6 : s6.heap.get? a = some go := z.keep a go hB.na M.ga
  have z' : Slp C.B s5 (s6.setGen g .running) := ⟨z.os, allBare_setGen z.bare rfl, z.keep⟩
  have I6 : Inv (gcx X A0 s4 H4 scope code fp) ((a, go) :: pins') (wipe σ (own.map (·.2))) H4 (s6.setGen g .running) := woken rfl hB M.inner hHB z' fun p hp' => ⟨(CO.pn _ _ hP p hp').1, hp p hp', (CO.pn _ _ hP p hp').2⟩
  refine ⟨M.gen _ ga6, hl, _, (by rw [hgens]; exact M.gs), ?_⟩
  refine ⟨rfl, ?_⟩
  exact seg_start over_comp rfl (fun _ _ z => z) rfl co CO hB M.stat M.turn hg ht he turns m 0 (m + 1) [] _ _ (Nat.lt_succ_self _)
    ⟨pins', H4, hP, I6, M.turn.keep _ _ _ M.tn0 fun b hb o e => z.keep b o (fun hm => hB.bf b hm hb) e, fun b hb => (M.fpk b hb).1.1, w0⟩
end

/-! ### all, any -/
def conAll (Q : VK) : Con := ⟨[], fun _ pins => pins = [], fun _ y H => ∃ c, y = .bl c ∧ (c = false → Q (.bl false) H), fun _ y => y = .bl true, fun _ H => Q (.bl true) H⟩
def conAny (Q : VK) : Con := ⟨[], fun _ pins => pins = [], fun _ y H => ∃ c, y = .bl c ∧ (c = true → Q (.bl true) H), fun _ y => y = .bl false, fun _ H => Q (.bl false) H⟩
theorem ok_all (Q : VK) : (conAll Q).Ok := ⟨fun _ _ h p hp => (by rw [show _ = [] from h] at hp; cases hp), fun _ _ _ b hb => (by cases hb)⟩
theorem ok_any (Q : VK) : (conAny Q).Ok := ⟨fun _ _ h p hp => (by rw [show _ = [] from h] at hp; cases hp), fun _ _ _ b hb => (by cases hb)⟩
theorem all_loop {Y : Cx} {A : Around} {a : Addr} {go : Obj} {σ0 : L2.St} {g : Nat} {Q : VK} {R : Result → Shared → Prop} (hh : A.handled = none) (hd : A.depth < recursionLimit) (hgo : ∀ h : Heap, h.get? a = some go → h.IsGen a g)
    (hR : ∀ b s' H, Inv Y [(a, go)] σ0 H s' → Q (.bl b) H → R (.ok (.ret (.bool b))) s') : ∀ (n : Nat) (s : Shared), Live Y (conAll Q) A.in1.in1 a go σ0 g n s → codeAny (model Y.prog Y.w) A (.builtin "all.loop" ⟨[.ref a], []⟩) R s := by
  intro n
  induction n with
  | zero =>
    intro s L
    refine codeAny_builtin F.entry_all_loop ?_
    rw [Around.under_plainId F.plain_all_loop _]
    show wpAny _ A.in1 (pyNext (.ref a) >>= _) _ _ s
    refine wpAny_bind (gx_next (A := A.in1) hh hd L hgo (fun ys x v pins H s₁ rv hP I kx kap => ?_) fun ys pins H s₁ hP I fi => ?_)
    · obtain ⟨c, rfl, hc⟩ := kx
      obtain rfl : v = .bool c := rv
      obtain rfl : pins = [] := hP
      refine wpAny_bind (wpAny_holding (wpAny_truthy_bool ?_))
      refine wpAny_bind (wpAny_letGo ?_)
      cases c with
      | true =>
        obtain ⟨k, hk, _⟩ := kap rfl s₁ ⟨rfl, I.bare, fun _ _ _ e => e⟩ ⟨[], rfl, fun p hp => (by cases hp)⟩ (I.pin (a, go) (List.mem_append_right _ List.mem_cons_self)).1 I.nolimit rfl
        cases hk
      | false =>
        simp only [Bool.false_eq_true, if_false]
        exact wpAny_bind (wpAny_rule (wpAny_pure (hR false s₁ H I (hc rfl))))
    · obtain rfl : pins = [] := hP
      exact wpAny_bind (wpAny_rule (wpAny_pure (hR true s₁ H I fi)))
  | succ n ih =>
    intro s L
    refine codeAny_builtin F.entry_all_loop ?_
    rw [Around.under_plainId F.plain_all_loop _]
    show wpAny _ A.in1 (pyNext (.ref a) >>= _) _ _ s
    refine wpAny_bind (gx_next (A := A.in1) hh hd L hgo (fun ys x v pins H s₁ rv hP I kx kap => ?_) fun ys pins H s₁ hP I fi => ?_)
    · obtain ⟨c, rfl, hc⟩ := kx
      obtain rfl : v = .bool c := rv
      obtain rfl : pins = [] := hP
      refine wpAny_bind (wpAny_holding (wpAny_truthy_bool ?_))
      refine wpAny_bind (wpAny_letGo ?_)
      cases c with
      | true =>
        obtain ⟨k, hk, L'⟩ := kap rfl s₁ ⟨rfl, I.bare, fun _ _ _ e => e⟩ ⟨[], rfl, fun p hp => (by cases hp)⟩ (I.pin (a, go) (List.mem_append_right _ List.mem_cons_self)).1 I.nolimit rfl
        cases hk
        simp only [if_true]
        exact wpAny_pure ⟨plainId_quiet F.plain_all_loop _, ih s₁ L'⟩
      | false =>
        simp only [Bool.false_eq_true, if_false]
        exact wpAny_bind (wpAny_rule (wpAny_pure (hR false s₁ H I (hc rfl))))
    · obtain rfl : pins = [] := hP
      exact wpAny_bind (wpAny_rule (wpAny_pure (hR true s₁ H I fi)))
theorem any_loop {Y : Cx} {A : Around} {a : Addr} {go : Obj} {σ0 : L2.St} {g : Nat} {Q : VK} {R : Result → Shared → Prop} (hh : A.handled = none) (hd : A.depth < recursionLimit) (hgo : ∀ h : Heap, h.get? a = some go → h.IsGen a g)
    (hR : ∀ b s' H, Inv Y [(a, go)] σ0 H s' → Q (.bl b) H → R (.ok (.ret (.bool b))) s') : ∀ (n : Nat) (s : Shared), Live Y (conAny Q) A.in1.in1 a go σ0 g n s → codeAny (model Y.prog Y.w) A (.builtin "any.loop" ⟨[.ref a], []⟩) R s := by
  intro n
  induction n with
  | zero =>
    intro s L
    refine codeAny_builtin F.entry_any_loop ?_
    rw [Around.under_plainId F.plain_any_loop _]
    show wpAny _ A.in1 (pyNext (.ref a) >>= _) _ _ s
    refine wpAny_bind (gx_next (A := A.in1) hh hd L hgo (fun ys x v pins H s₁ rv hP I kx kap => ?_) fun ys pins H s₁ hP I fi => ?_)
    · obtain ⟨c, rfl, hc⟩ := kx
      obtain rfl : v = .bool c := rv
      obtain rfl : pins = [] := hP
      refine wpAny_bind (wpAny_holding (wpAny_truthy_bool ?_))
      refine wpAny_bind (wpAny_letGo ?_)
      cases c with
      | false =>
        obtain ⟨k, hk, _⟩ := kap rfl s₁ ⟨rfl, I.bare, fun _ _ _ e => e⟩ ⟨[], rfl, fun p hp => (by cases hp)⟩ (I.pin (a, go) (List.mem_append_right _ List.mem_cons_self)).1 I.nolimit rfl
        cases hk
      | true =>
        simp only [if_true]
        exact wpAny_bind (wpAny_rule (wpAny_pure (hR true s₁ H I (hc rfl))))
    · obtain rfl : pins = [] := hP
      exact wpAny_bind (wpAny_rule (wpAny_pure (hR false s₁ H I fi)))
  | succ n ih =>
    intro s L
    refine codeAny_builtin F.entry_any_loop ?_
    rw [Around.under_plainId F.plain_any_loop _]
    show wpAny _ A.in1 (pyNext (.ref a) >>= _) _ _ s
    refine wpAny_bind (gx_next (A := A.in1) hh hd L hgo (fun ys x v pins H s₁ rv hP I kx kap => ?_) fun ys pins H s₁ hP I fi => ?_)
    · obtain ⟨c, rfl, hc⟩ := kx
      obtain rfl : v = .bool c := rv
      obtain rfl : pins = [] := hP
      refine wpAny_bind (wpAny_holding (wpAny_truthy_bool ?_))
      refine wpAny_bind (wpAny_letGo ?_)
      cases c with
      | false =>
        obtain ⟨k, hk, L'⟩ := kap rfl s₁ ⟨rfl, I.bare, fun _ _ _ e => e⟩ ⟨[], rfl, fun p hp => (by cases hp)⟩ (I.pin (a, go) (List.mem_append_right _ List.mem_cons_self)).1 I.nolimit rfl
        cases hk
        simp only [Bool.false_eq_true, if_false]
        exact wpAny_pure ⟨plainId_quiet F.plain_any_loop _, ih s₁ L'⟩
      | true =>
        simp only [if_true]
        exact wpAny_bind (wpAny_rule (wpAny_pure (hR true s₁ H I (hc rfl))))
    · obtain rfl : pins = [] := hP
      exact wpAny_bind (wpAny_rule (wpAny_pure (hR false s₁ H I fi)))

/-- all(elt for tg in iter if ..) -/
def tAllG (P : Addr) (wi : TI) (g : TG) (tt : TT) (te : TE) (vs : List Nat) : TE := fun σ H Q => wi σ H fun J H1 => GxR.TabG H1 P ∧ ∀ H2, GxR.Tabbed P H1 H2 → ∃ W : Nat → Nat → List V → Hp → Prop, (∃ m, W 0 m [] H2) ∧ Turns J g tt te vs (wipe σ vs) (conAll Q) W
def tAnyG (P : Addr) (wi : TI) (g : TG) (tt : TT) (te : TE) (vs : List Nat) : TE := fun σ H Q => wi σ H fun J H1 => GxR.TabG H1 P ∧ ∀ H2, GxR.Tabbed P H1 H2 → ∃ W : Nat → Nat → List V → Hp → Prop, (∃ m, W 0 m [] H2) ∧ Turns J g tt te vs (wipe σ vs) (conAny Q) W
section
variable {X : Cx} {c P : Addr} {elt tg iter : Expr} {ifs : List Expr} {p pos gpos : Pos} {scope : Scope} {own : List (Str × Nat)} {wi : TI} {g : TG} {tt : TT} {te : TE} {k : Nat}
theorem pe_allG (hr : Room k X.A) (hgl : Gl X "all") (hm : X.mg "all" = none) (TB : GxR.TabB X.base X.mg c P) (hcode : X.env.code = .ref c) (ok : GxOk X.N X.env.scope scope own) (hN : X.N.Nodup) (hi : PI X tg iter wi)
    (hg : ∀ (s : Shared) (H : Hp) (code : Value) (fp : List Addr), PG (gcx X X.A.in1.in1 s H scope code fp) tg g) (ht : ∀ (s : Shared) (H : Hp) (code : Value) (fp : List Addr), PTs (gcx X X.A.in1.in1 s H scope code fp) ifs tt)
    (hel : ∀ (s : Shared) (H : Hp) (code : Value) (fp : List Addr), PE (gcx X X.A.in1.in1 s H scope code fp) elt te) (hs : ∀ v, genFold iter X.env v = pure v := by intro _; rfl)
    (he : starEach [.GeneratorExp elt [⟨tg, iter, ifs, 0⟩] scope gpos] X.env = (false, eval (.GeneratorExp elt [⟨tg, iter, ifs, 0⟩] scope gpos) X.env) :: starEach [] X.env := by rfl) :
    PE X (.Call (.Name "all" p) [.GeneratorExp elt [⟨tg, iter, ifs, 0⟩] scope gpos] [] pos) (tAllG P wi g tt te (own.map (·.2))) := by
  refine ⟨fun pins s σ H Q I h => ?_⟩
  refine wpAny_Call_Name_kw (ld_blt I hgl hm (show bootBuiltins "all" = some (.builtin "all") by decide +kernel) ?_)
  refine PyProof.Rows.callWith_builtin1 ?_ he (by rfl)
  rw [he]
  show wpAny _ _ (spliced ((false, eval (.GeneratorExp elt [⟨tg, iter, ifs, 0⟩] scope gpos) X.env) :: backTo pos (starEach [] X.env))) _ _ s
  refine Calls.spliced_cons (gx_make (A0 := X.A.in1.in1) (own := own) (R := fun J H2 => ∃ W : Nat → Nat → List V → Hp → Prop, (∃ m, W 0 m [] H2) ∧ Turns J g tt te (own.map (fun q : Str × Nat => q.2)) (wipe σ (own.map (fun q : Str × Nat => q.2))) (conAll Q) W) hr.hd rfl hr TB hcode ok hN hi hs I h fun it a fp tn J H4 s4 s5 code gn go M q => ?_)
  obtain ⟨W, ⟨m, w0⟩, turns⟩ := q
  refine Calls.spliced_nil ?_
  have L : Live (gcx X X.A.in1.in1 s4 H4 scope code fp) (conAll Q) X.A.in1.in1 a go (wipe σ (own.map (·.2))) gn (m + 1) s5 :=
    M.live (s6 := s5) (pins' := []) (ok_all Q) M.apart0 ok.co (hg s4 H4 code fp) (ht s4 H4 code fp) (hel s4 H4 code fp) turns w0 (fun b hb => (by cases hb)) ⟨rfl, M.inner.bare, fun _ _ _ e => e⟩ rfl (fun p hp => (by cases hp)) rfl M.inner.nolimit
  refine call_function_tree F.kind_all F.plain_all F.entry_all (F.args_all1 _) ?_
  unfold Builtin.«all»
  refine wpAny_bind (m := oneArg "all" _) (wpAny_pure ?_)
  refine wpAny_bind (wpAny_pyIter_gen (M.gen _ M.ga) ?_)
  refine wpAny_pure ⟨plainId_quiet F.plain_all_loop _, all_loop (Y := gcx X X.A.in1.in1 s4 H4 scope code fp) hr.hd hr.depth M.gen (fun b s' H' I' q' => ?_) (m + 1) s5 L⟩
  exact ⟨.bl b, H', M.back I', rfl, q'⟩
theorem pe_anyG (hr : Room k X.A) (hgl : Gl X "any") (hm : X.mg "any" = none) (TB : GxR.TabB X.base X.mg c P) (hcode : X.env.code = .ref c) (ok : GxOk X.N X.env.scope scope own) (hN : X.N.Nodup) (hi : PI X tg iter wi)
    (hg : ∀ (s : Shared) (H : Hp) (code : Value) (fp : List Addr), PG (gcx X X.A.in1.in1 s H scope code fp) tg g) (ht : ∀ (s : Shared) (H : Hp) (code : Value) (fp : List Addr), PTs (gcx X X.A.in1.in1 s H scope code fp) ifs tt)
    (hel : ∀ (s : Shared) (H : Hp) (code : Value) (fp : List Addr), PE (gcx X X.A.in1.in1 s H scope code fp) elt te) (hs : ∀ v, genFold iter X.env v = pure v := by intro _; rfl)
    (he : starEach [.GeneratorExp elt [⟨tg, iter, ifs, 0⟩] scope gpos] X.env = (false, eval (.GeneratorExp elt [⟨tg, iter, ifs, 0⟩] scope gpos) X.env) :: starEach [] X.env := by rfl) :
    PE X (.Call (.Name "any" p) [.GeneratorExp elt [⟨tg, iter, ifs, 0⟩] scope gpos] [] pos) (tAnyG P wi g tt te (own.map (·.2))) := by
  refine ⟨fun pins s σ H Q I h => ?_⟩
  refine wpAny_Call_Name_kw (ld_blt I hgl hm boot_any ?_)
  refine PyProof.Rows.callWith_builtin1 ?_ he (by rfl)
  rw [he]
  show wpAny _ _ (spliced ((false, eval (.GeneratorExp elt [⟨tg, iter, ifs, 0⟩] scope gpos) X.env) :: backTo pos (starEach [] X.env))) _ _ s
  refine Calls.spliced_cons (gx_make (A0 := X.A.in1.in1) (own := own) (R := fun J H2 => ∃ W : Nat → Nat → List V → Hp → Prop, (∃ m, W 0 m [] H2) ∧ Turns J g tt te (own.map (fun q : Str × Nat => q.2)) (wipe σ (own.map (fun q : Str × Nat => q.2))) (conAny Q) W) hr.hd rfl hr TB hcode ok hN hi hs I h fun it a fp tn J H4 s4 s5 code gn go M q => ?_)
  obtain ⟨W, ⟨m, w0⟩, turns⟩ := q
  refine Calls.spliced_nil ?_
  have L : Live (gcx X X.A.in1.in1 s4 H4 scope code fp) (conAny Q) X.A.in1.in1 a go (wipe σ (own.map (·.2))) gn (m + 1) s5 :=
    M.live (s6 := s5) (pins' := []) (ok_any Q) M.apart0 ok.co (hg s4 H4 code fp) (ht s4 H4 code fp) (hel s4 H4 code fp) turns w0 (fun b hb => (by cases hb)) ⟨rfl, M.inner.bare, fun _ _ _ e => e⟩ rfl (fun p hp => (by cases hp)) rfl M.inner.nolimit
  refine call_function_tree F.kind_any F.plain_any F.entry_any (F.args_any1 _) ?_
  unfold Builtin.«any»
  refine wpAny_bind (m := oneArg "any" _) (wpAny_pure ?_)
  refine wpAny_bind (wpAny_pyIter_gen (M.gen _ M.ga) ?_)
  refine wpAny_pure ⟨plainId_quiet F.plain_any_loop _, any_loop (Y := gcx X X.A.in1.in1 s4 H4 scope code fp) hr.hd hr.depth M.gen (fun b s' H' I' q' => ?_) (m + 1) s5 L⟩
  exact ⟨.bl b, H', M.back I', rfl, q'⟩
end
end GX
set_option Elab.async false
set_option linter.all false
set_option maxRecDepth 100000
set_option maxHeartbeats 4000000
namespace GX
open PySem PySem.Spec PyProof.Rows L2 GenW

/-! ### tuple -/
def conTup0 (Q : VK) : Con := ⟨[], fun _ pins => pins = [], fun ys _ _ => ys.length < sizeLine, fun _ _ => True, fun ys H => ys.length ≤ sizeLine ∧ ∀ p, H p = none → Q (.ref p) (upd H p (.tup ys))⟩
def conTup (Q : VK) (S : Addr) : Con := ⟨[S], fun ys pins => ∃ acc c, Vals ys acc.toList ∧ pins = [(S, lstObj acc c)], fun ys _ _ => ys.length < sizeLine, fun _ _ => True, fun ys H => ys.length ≤ sizeLine ∧ ∀ p, H p = none → Q (.ref p) (upd H p (.tup ys))⟩
theorem ok_tup (Q : VK) (S : Addr) : (conTup Q S).Ok := by
  refine ⟨fun ys pins ⟨acc, c, _, e⟩ p hp => ?_, fun ys pins ⟨acc, c, _, e⟩ b hb => ?_⟩
  · subst e
    rw [List.mem_singleton.mp hp]
    exact ⟨List.mem_singleton.mpr rfl, fun v z => by cases z⟩
  · subst e
    rw [List.mem_singleton.mp hb]
    exact ⟨_, List.mem_singleton.mpr rfl⟩
theorem tup_loop {Y : Cx} {A : Around} {a S : Addr} {go : Obj} {σ0 : L2.St} {g : Nat} {Q : VK} {R : Result → Shared → Prop} {res : Value} (hh : A.handled = none) (hd : A.depth < recursionLimit) (hgo : ∀ h : Heap, h.get? a = some go → h.IsGen a g) (hSa : S ≠ a) (hSc : S ≠ cStatics)
    (hR : ∀ ys acc c s' H, Vals ys acc.toList → Inv Y [(a, go), (S, lstObj acc c)] σ0 H s' → ys.length ≤ sizeLine → (∀ p, H p = none → Q (.ref p) (upd H p (.tup ys))) → R (.ok (.ret res)) s') :
    ∀ (n : Nat) (s : Shared), Live Y (conTup Q S) A.in1.in1 a go σ0 g n s → codeAny (model Y.prog Y.w) A (.builtin "list.extend.loop" ⟨[.ref S, .ref a, res], []⟩) R s := by
  intro n
  induction n with
  | zero =>
    intro s L
    refine codeAny_builtin F.entry_extend_loop ?_
    rw [Around.under_plainId F.plain_extend_loop _]
    show wpAny _ A.in1 (pyNext (.ref a) >>= _) _ _ s
    refine wpAny_bind (gx_next (A := A.in1) hh hd L hgo (fun ys x v pins H s₁ rv hP I kx kap => ?_) fun ys pins H s₁ hP I fi => ?_)
    · obtain ⟨acc, c, hv, rfl⟩ := hP
      have hS1 : s₁.heap.get? S = some (lstObj acc c) := (I.pin (S, lstObj acc c) (List.mem_append_right _ (List.mem_cons_of_mem _ List.mem_cons_self))).1
      have ga : s₁.heap.get? a = some go := (I.pin (a, go) (List.mem_append_right _ List.mem_cons_self)).1
      have keep3 : ∀ b o, b ≠ S → s₁.heap.get? b = some o → (s₁.heap.update S (Obj.mapSeq (·.push v))).get? b = some o := fun b o hbS e => (Heap.get?_update_other _ _ (Ne.symm hbS)).trans e
      obtain ⟨k, hk, _⟩ := kap trivial { s₁ with heap := s₁.heap.update S (Obj.mapSeq (·.push v)) } ⟨rfl, I.bare, fun b o hb e => keep3 b o (fun z => hb (by rw [z]; exact List.mem_singleton.mpr rfl)) e⟩
        ⟨_, ⟨acc.push v, _, by rw [Array.toList_push]; exact hv.append (.cons rv .nil), rfl⟩, fun p hp => by rw [List.mem_singleton.mp hp]; exact Heap.get?_update_self _ hS1 rfl⟩ (keep3 a go (Ne.symm hSa) ga)
        (let ⟨mc, hns, hnn⟩ := I.nolimit; ⟨mc, hns.at' fun o e => keep3 _ o (Ne.symm hSc) e, hnn⟩) rfl
      cases hk
    · obtain ⟨acc, c, hv, rfl⟩ := hP
      exact wpAny_pure (hR ys acc c s₁ H hv I fi.1 fi.2)
  | succ n ih =>
    intro s L
    refine codeAny_builtin F.entry_extend_loop ?_
    rw [Around.under_plainId F.plain_extend_loop _]
    show wpAny _ A.in1 (pyNext (.ref a) >>= _) _ _ s
    refine wpAny_bind (gx_next (A := A.in1) hh hd L hgo (fun ys x v pins H s₁ rv hP I kx kap => ?_) fun ys pins H s₁ hP I fi => ?_)
    · obtain ⟨acc, c, hv, rfl⟩ := hP
      have hS1 : s₁.heap.get? S = some (lstObj acc c) := (I.pin (S, lstObj acc c) (List.mem_append_right _ (List.mem_cons_of_mem _ List.mem_cons_self))).1
      have ga : s₁.heap.get? a = some go := (I.pin (a, go) (List.mem_append_right _ List.mem_cons_self)).1
      have keep3 : ∀ b o, b ≠ S → s₁.heap.get? b = some o → (s₁.heap.update S (Obj.mapSeq (·.push v))).get? b = some o := fun b o hbS e => (Heap.get?_update_other _ _ (Ne.symm hbS)).trans e
      have hl : acc.size < sizeLine := by
        have q1 : ys.length = acc.toList.length := hv.length
        have q2 : ys.length < sizeLine := kx
        have q3 : acc.toList.length = acc.size := Array.length_toList ..
        exact Nat.lt_of_le_of_lt (Nat.le_of_eq (q3.symm.trans q1.symm)) q2
      obtain ⟨k, hk, L'⟩ := kap trivial { s₁ with heap := s₁.heap.update S (Obj.mapSeq (·.push v)) } ⟨rfl, I.bare, fun b o hb e => keep3 b o (fun z => hb (by rw [z]; exact List.mem_singleton.mpr rfl)) e⟩
        ⟨_, ⟨acc.push v, _, by rw [Array.toList_push]; exact hv.append (.cons rv .nil), rfl⟩, fun p hp => by rw [List.mem_singleton.mp hp]; exact Heap.get?_update_self _ hS1 rfl⟩ (keep3 a go (Ne.symm hSa) ga)
        (let ⟨mc, hns, hnn⟩ := I.nolimit; ⟨mc, hns.at' fun o e => keep3 _ o (Ne.symm hSc) e, hnn⟩) rfl
      cases hk
      show wpAny _ A.in1 (updateSeq S (·.push v) >>= _) _ _ _
      refine wpAny_bind ?_
      exact wpAny_updateSeq hS1 rfl (wpAny_pure ⟨plainId_quiet F.plain_extend_loop _, ih _ L'⟩) (Nat.le_of_lt hl) (by show (acc.push v).size ≤ sizeLine + 1; rw [Array.size_push]; omega)
    · obtain ⟨acc, c, hv, rfl⟩ := hP
      exact wpAny_pure (hR ys acc c s₁ H hv I fi.1 fi.2)

section
variable {X : Cx} {pins : List (Addr × Obj)} {σ : L2.St} {A : Around} {elt tg iter : Expr} {ifs : List Expr} {scope : Scope} {gpos : Pos} {own : List (Str × Nat)} {it a : Addr} {fp : List Addr} {tn : Nat → Heap → Prop} {J : It} {H4 : Hp} {s4 s5 : Shared} {code : Value} {g : Nat} {go : Obj}
theorem collect_gx {g1 : TG} {tt : TT} {te : TE} {W : Nat → Nat → List V → Hp → Prop} {m : Nat} {Q : VK} {Q' : List Value → Shared → Prop} {E : Value → Shared → Prop} (hh : A.handled = none) (hd : A.depth < recursionLimit)
    (M : Made X pins σ A.in1.in1 elt tg iter ifs scope gpos own it a fp tn J H4 s4 s5 code g go) (co : scope.isCoroutine = false)
    (hg : PG (gcx X A.in1.in1 s4 H4 scope code fp) tg g1) (ht : PTs (gcx X A.in1.in1 s4 H4 scope code fp) ifs tt) (he : PE (gcx X A.in1.in1 s4 H4 scope code fp) elt te) (turns : Turns J g1 tt te (own.map (·.2)) (wipe σ (own.map (·.2))) (conTup0 Q) W) (w0 : W 0 m [] H4)
    (hQ : ∀ (ys : List V) (acc : Array Value) (s' : Shared) (H' : Hp), Vals ys acc.toList → Inv X pins σ H' s' → ys.length ≤ sizeLine → (∀ p, H' p = none → Q (.ref p) (upd H' p (.tup ys))) → Q' acc.toList s') :
    wpAny (model X.prog X.w) A (collect (.ref a)) Q' E s5 := by
  have hSa : s5.heap.objs.size ≠ a := by rw [M.asz]; exact Nat.succ_ne_self _
  have haS : a < s5.heap.objs.size := by rw [M.asz]; exact Nat.lt_succ_self _
  have hl5 : s5.heap.NoLimit := M.inner.nolimit
  have hcl : cStatics < s5.heap.objs.size := let ⟨_, hn, _⟩ := hl5; hn.lt
  unfold collect
  refine wpAny_bind (wpAny_runValue (codeAny_builtin F.entry_proto_collect ?_))
  rw [Around.under_plainId F.plain_proto_collect _]
  show wpAny _ A.in1 (newList [] >>= fun l => again (.builtin "list.__iadd__" ⟨[l, .ref a], []⟩)) _ _ s5
  refine wpAny_bind (wpAny_newObj_type ?_)
  refine wpAny_pure ⟨plainId_quiet F.plain_list_iadd _, codeAny_builtin F.entry_list_iadd ?_⟩
  rw [Around.under_plainId F.plain_list_iadd _]
  have k1 : ∀ b o, s5.heap.get? b = some o → (s5.heap.push { cls := .type "list", data := .seq ([] : List Value).toArray }).get? b = some o := fun b o e => Heap.get?_push_of_some _ e
  have gen1 := M.gen _ (k1 _ _ M.ga)
  show wpAny _ A.in1 (Builtin.List.listExtendWith (.ref s5.heap.objs.size) (.ref a) (.ref s5.heap.objs.size)) _ _ _
  unfold Builtin.List.listExtendWith
  refine wpAny_bind (wpAny_typeOf (Heap.IsGen.typeIs (s := { s5 with heap := _ }) gen1) ?_)
  have h1 : Builtin.List.listSameRef (.ref s5.heap.objs.size) (.ref a) = false := by simp [Builtin.List.listSameRef, hSa]
  have h2 : (Value.type "generator" == Value.type "list") = false := by decide
  have h3 : (Value.type "generator" == Value.type "tuple") = false := by decide
  simp only [h1, h2, h3, Bool.or_false, Bool.false_eq_true, if_false]
  refine wpAny_bind (wpAny_pyIter_gen (s := { s5 with heap := _ }) gen1 ?_)
  refine wpAny_bind (wpAny_holding ?_)
  unfold Builtin.List.listLengthHint
  refine wpAny_bind (wpAny_specialOf (Heap.IsGen.typeIs (s := { s5 with heap := _ }) gen1) F.gen_no_len ?_)
  show wpAny _ A.in1 (specialOf (Value.ref a) (Str.ofString "__length_hint__") >>= _) _ _ _
  refine wpAny_bind (wpAny_specialOf (Heap.IsGen.typeIs (s := { s5 with heap := _ }) gen1) F.gen_no_hint ?_)
  refine wpAny_pure ?_
  show wpAny _ A.in1 (rule "list.extend.makes-room" >>= fun _ => Builtin.List.listTouch (.ref s5.heap.objs.size) >>= fun _ =>
    again (.builtin "list.extend.loop" ⟨[.ref s5.heap.objs.size, .ref a, .ref s5.heap.objs.size], []⟩)) _ _ _
  refine wpAny_bind (wpAny_rule ?_)
  have hS1 : (s5.heap.push { cls := .type "list", data := .seq ([] : List Value).toArray }).get? s5.heap.objs.size = some { cls := .type "list", data := .seq ([] : List Value).toArray } := Heap.get?_push_size _ rfl
  refine wpAny_bind ?_
  show wpAny _ A.in1 (updateSeq s5.heap.objs.size (·.push .none) >>= fun _ => updateSeq s5.heap.objs.size (·.pop)) _ _ _
  refine wpAny_bind (wpAny_updateSeq hS1 rfl ?_)
  have hS2 := Heap.get?_update_self (Obj.mapSeq (·.push Value.none)) hS1 rfl
  refine wpAny_updateSeq hS2 rfl ?_
  have hS3 := Heap.get?_update_self (Obj.mapSeq (·.pop)) hS2 rfl
  have oth : ∀ b o, b ≠ s5.heap.objs.size → s5.heap.get? b = some o →
      (((s5.heap.push { cls := .type "list", data := .seq ([] : List Value).toArray }).update s5.heap.objs.size (Obj.mapSeq (·.push Value.none))).update s5.heap.objs.size (Obj.mapSeq (·.pop))).get? b = some o :=
    fun b o hb e => (Heap.get?_update_other _ _ (Ne.symm hb)).trans ((Heap.get?_update_other _ _ (Ne.symm hb)).trans (k1 b o e))
  have z : Slp (conTup Q s5.heap.objs.size).B s5 { s5 with heap := ((s5.heap.push { cls := .type "list", data := .seq ([] : List Value).toArray }).update s5.heap.objs.size (Obj.mapSeq (·.push Value.none))).update s5.heap.objs.size (Obj.mapSeq (·.pop)) } :=
    ⟨rfl, M.inner.bare, fun b o hb e => oth b o (fun q => hb (by rw [q]; exact List.mem_singleton.mpr rfl)) e⟩
  have L := M.live (C := conTup Q s5.heap.objs.size) (ok_tup Q _) (M.apart1 haS) co hg ht he turns w0 (fun b hb => by rw [List.mem_singleton.mp hb]; exact M.inner.hok.fresh (Nat.le_refl _)) z
    (pins' := [(s5.heap.objs.size, lstObj #[] _)]) ⟨#[], _, .nil, rfl⟩ (fun p hp => by rw [List.mem_singleton.mp hp]; exact hS3) rfl
    (let ⟨mc, hns, hnn⟩ := hl5; ⟨mc, hns.at' fun o e => oth _ o (Nat.ne_of_lt hcl) e, hnn⟩)
  refine wpAny_pure ⟨plainId_quiet F.plain_extend_loop _, tup_loop (Y := gcx X A.in1.in1 s4 H4 scope code fp) hh hd M.gen hSa (Nat.ne_of_gt hcl) (fun ys acc c s' H' hv I' hle q => ?_) (m + 1) _ L⟩
  have hS' : s'.heap.get? s5.heap.objs.size = some (lstObj acc c) := (I'.pin (s5.heap.objs.size, lstObj acc c) (List.mem_append_right _ (List.mem_cons_of_mem _ List.mem_cons_self))).1
  show wpAny _ A (load s5.heap.objs.size >>= _) _ _ s'
  refine wpAny_bind (wpAny_load hS' ?_)
  exact wpAny_pure (hQ ys acc s' H' hv (M.back I') hle q)
theorem call_tuple_gx {g1 : TG} {tt : TT} {te : TE} {W : Nat → Nat → List V → Hp → Prop} {m : Nat} {Q : VK} {E : Value → Shared → Prop} (hh : A.handled = none) (hd : A.depth < recursionLimit)
    (M : Made X pins σ A.in4 elt tg iter ifs scope gpos own it a fp tn J H4 s4 s5 code g go) (co : scope.isCoroutine = false)
    (hg : PG (gcx X A.in4 s4 H4 scope code fp) tg g1) (ht : PTs (gcx X A.in4 s4 H4 scope code fp) ifs tt) (he : PE (gcx X A.in4 s4 H4 scope code fp) elt te) (turns : Turns J g1 tt te (own.map (·.2)) (wipe σ (own.map (·.2))) (conTup0 Q) W) (w0 : W 0 m [] H4) :
    wpAny (model X.prog X.w) A (call (.type "tuple") [.ref a]) (EP X pins σ Q) E s5 := by
  have new : codeAny (model X.prog X.w) A.in1 (.call (.builtin "tuple.__new__") ⟨[.type "tuple", .ref a], []⟩) (wants (fun obj s₁ => s₁.TypeIs obj "tuple" ∧ EP X pins σ Q obj s₁) E) s5 := by
    refine codeAny_of_tree ?_
    show wpAny _ A.in1.in1 (do checkBuiltinCall "tuple.__new__" ⟨[.type "tuple", .ref a], []⟩; again (.builtin "tuple.__new__" ⟨[.type "tuple", .ref a], []⟩)) _ _ s5
    refine wpAny_bind (wpAny_of_eq (F.newCall_tuple_1 _) (wpAny_pure ⟨plainId_quiet F.plain_tuple_new _, codeAny_builtin F.entry_tuple_new ?_⟩))
    rw [Around.under_plainId F.plain_tuple_new _]
    have hsub := sub_tuple_self
    have hinit := init_tuple_lookup
    have hmh := madeHere_tuple
    have hTI : s5.TypeIs (.ref a) "generator" := Heap.IsGen.typeIs (M.gen _ M.ga)
    wp_walk using wpAny_typeOf hTI, collect_gx (A := A.in1.in1) hh hd M co hg ht he turns w0
    intro ys acc s' H' hv I' hle q
    show wpAny _ _ (Builtin.Tuple.tupleExact acc.toList.toArray >>= fun v => ret v) _ _ _
    unfold Builtin.Tuple.tupleExact
    have hlen := hv.length
    refine wpAny_bind (wpAny_newObj_type ?_ (by show acc.toList.toArray.size ≤ sizeLine; rw [List.size_toArray]; omega))
    refine wpAny_pure ?_
    have hf : H' s'.heap.objs.size = none := I'.hok.fresh (Nat.le_refl _)
    refine ⟨⟨_, Heap.get?_push_size _ rfl, rfl⟩, .ref s'.heap.objs.size, upd H' s'.heap.objs.size (.tup ys), I'.laid (t' := s'.toks) (fun b u e => Heap.get?_push_of_some _ e) (Nat.le_refl _) ?_, rfl, q _ hf⟩
    exact ⟨hle, acc.toList, hv, ⟨_, Heap.get?_push_size _ rfl, rfl, _, rfl⟩⟩
  refine callType_codes (Q₁ := fun obj s₁ => s₁.TypeIs obj "tuple" ∧ EP X pins σ Q obj s₁) F.called_tuple (F.typeCall_tuple_1 _) F.entry_object_init new fun obj s₁ h₁ => ?_
  exact ⟨h₁.1, F.args_object_init_2 obj _, object_init_meets F.called_tuple.init.lookup F.called_tuple.made (by decide) X.prog X.w A.in1 _ s₁ ⟨h₁.1, rfl, h₁.2⟩⟩
end

/-- tuple(elt for tg in iter if ..) -/
def tTupG (P : Addr) (wi : TI) (g : TG) (tt : TT) (te : TE) (vs : List Nat) : TE := fun σ H Q => wi σ H fun J H1 => GxR.TabG H1 P ∧ ∀ H2, GxR.Tabbed P H1 H2 → ∃ W : Nat → Nat → List V → Hp → Prop, (∃ m, W 0 m [] H2) ∧ Turns J g tt te vs (wipe σ vs) (conTup0 Q) W
section
variable {X : Cx} {c P : Addr} {elt tg iter : Expr} {ifs : List Expr} {p pos gpos : Pos} {scope : Scope} {own : List (Str × Nat)} {wi : TI} {g : TG} {tt : TT} {te : TE} {k : Nat}
theorem pe_tupG (hr : Room k X.A) (hgl : Gl X "tuple") (hm : X.mg "tuple" = none) (TB : GxR.TabB X.base X.mg c P) (hcode : X.env.code = .ref c) (ok : GxOk X.N X.env.scope scope own) (hN : X.N.Nodup) (hi : PI X tg iter wi)
    (hg : ∀ (s : Shared) (H : Hp) (code : Value) (fp : List Addr), PG (gcx X X.A.in4 s H scope code fp) tg g) (ht : ∀ (s : Shared) (H : Hp) (code : Value) (fp : List Addr), PTs (gcx X X.A.in4 s H scope code fp) ifs tt)
    (hel : ∀ (s : Shared) (H : Hp) (code : Value) (fp : List Addr), PE (gcx X X.A.in4 s H scope code fp) elt te) (hs : ∀ v, genFold iter X.env v = pure v := by intro _; rfl)
    (he : starEach [.GeneratorExp elt [⟨tg, iter, ifs, 0⟩] scope gpos] X.env = (false, eval (.GeneratorExp elt [⟨tg, iter, ifs, 0⟩] scope gpos) X.env) :: starEach [] X.env := by rfl) :
    PE X (.Call (.Name "tuple" p) [.GeneratorExp elt [⟨tg, iter, ifs, 0⟩] scope gpos] [] pos) (tTupG P wi g tt te (own.map (·.2))) := by
  refine ⟨fun pins s σ H Q I h => ?_⟩
  refine wpAny_Call_Name_kw (ld_blt I hgl hm (show bootBuiltins "tuple" = some (.type "tuple") by decide +kernel) ?_)
  refine PyProof.Rows.callWith_type1 ?_ he (by rfl)
  rw [he]
  show wpAny _ _ (spliced ((false, eval (.GeneratorExp elt [⟨tg, iter, ifs, 0⟩] scope gpos) X.env) :: backTo pos (starEach [] X.env))) _ _ s
  refine Calls.spliced_cons (gx_make (A0 := X.A.in4) (own := own) (R := fun J H2 => ∃ W : Nat → Nat → List V → Hp → Prop, (∃ m, W 0 m [] H2) ∧ Turns J g tt te (own.map (fun q : Str × Nat => q.2)) (wipe σ (own.map (fun q : Str × Nat => q.2))) (conTup0 Q) W) hr.hd rfl hr TB hcode ok hN hi hs I h fun it a fp tn J H4 s4 s5 code gn go M q => ?_)
  obtain ⟨W, ⟨m, w0⟩, turns⟩ := q
  refine Calls.spliced_nil ?_
  exact call_tuple_gx hr.hd hr.depth M ok.co (hg s4 H4 code fp) (ht s4 H4 code fp) (hel s4 H4 code fp) turns w0
end

/-! ### room, scopes, turns -/
theorem Room.gx2 {k : Nat} {X : Cx} (r : Room (k + 1) X.A) {s : Shared} {H : Hp} {scope : Scope} {code : Value} {fp : List Addr} : Room k (gcx X X.A.in1.in1 s H scope code fp).A :=
  ⟨r.hd, by have := r.dp; show X.A.depth + 1 + 3 * k + 5 < _; omega, by have := r.un; show X.A.units + 1 + 1 + 3 + 16 * k + 200 < _; omega⟩
theorem Room.gx4 {k : Nat} {X : Cx} (r : Room (k + 1) X.A) {s : Shared} {H : Hp} {scope : Scope} {code : Value} {fp : List Addr} : Room k (gcx X X.A.in4 s H scope code fp).A :=
  ⟨r.hd, by have := r.dp; show X.A.depth + 1 + 3 * k + 5 < _; omega, by have := r.un; show X.A.units + 1 + 1 + 1 + 1 + 3 + 16 * k + 200 < _; omega⟩
def gxC (N : List Str) (sc scope : Scope) (own : List (Str × Nat)) : Bool :=
  blkC N sc scope own && !scope.isCoroutine && scope.names.all (fun y => match y.2 with | .cell => false | _ => true) && (match scope.names.lookup (".0" : Str) with | some .local => true | _ => false)
theorem gxOk_by {N : List Str} {sc scope : Scope} {own : List (Str × Nat)} (h : gxC N sc scope own = true) : GxOk N sc scope own := by
  unfold gxC at h
  simp only [Bool.and_eq_true] at h
  obtain ⟨⟨⟨h1, h2⟩, h3⟩, h4⟩ := h
  refine ⟨blkOk_by h1, by simpa using h2, fun y hy e => ?_, ?_⟩
  · have q := List.all_eq_true.mp h3 y hy
    rw [e] at q
    cases q
  · split at h4
    · assumption
    · cases h4
/-- the turns over a walk of n: Pv by the turn, what is out, the heap -/
theorem turns_it {J : It} {n : Nat} {G : Hp → Prop} {Yd : Nat → Hp → V → Hp → Prop} (w : Walk J n G Yd) {g : TG} {tt : TT} {te : TE} {vs : List Nat} {σ0 : L2.St} {C : Con} {H : Hp} (Pv : Nat → List V → Hp → Prop) (h0 : Pv 0 [] H) (hG : ∀ i ys H, i ≤ n → Pv i ys H → G H)
    (hs : ∀ i x ys H H', i < n → Pv i ys H → Yd i H x H' → g x σ0 H' fun σ2 H2 => wipe σ2 vs = σ0 ∧ tt σ2 H2 fun b H3 =>
      if b = true then te σ2 H3 fun y H4 => C.Kx ys y H4 ∧ (C.Cn ys y → Pv (i + 1) (ys ++ [y]) H4) else Pv (i + 1) ys H3) (hd : ∀ ys H, Pv n ys H → C.Fi ys H) :
    ∃ W : Nat → Nat → List V → Hp → Prop, (∃ m, W 0 m [] H) ∧ Turns J g tt te vs σ0 C W := by
  refine ⟨fun i m ys H => m = n - i ∧ i ≤ n ∧ Pv i ys H, ⟨n, by simp, Nat.zero_le _, h0⟩, ?_⟩
  rintro i m ys H ⟨rfl, hi, p⟩
  have q := hG i ys H hi p
  by_cases hlt : i < n
  · exact .inr ⟨w.goes i H hlt q, Pv (i + 1), fun ys' H' p' => ⟨n - (i + 1), by omega, rfl, hlt, p'⟩, fun x H' y => hs i x ys H H' hlt p (w.yields i H x H' hlt q y)⟩
  · have e : i = n := by omega
    subst e
    exact .inl ⟨w.stops H q, hd ys H p⟩
end GX
set_option Elab.async false
set_option linter.all false
set_option maxRecDepth 100000
set_option maxHeartbeats 4000000
namespace GX
open PySem PySem.Spec PyProof.Rows L2
open C8 (Cal pe_c)

/-! ### a def of the text with its code object -/
structure Dfn (K : PySem.W.Frag) (mg : Str → Option Value) (x : Str) (st : Stmt) (f c : Addr) : Prop where
  ex : ∃ (oc : Value) (od : Option Addr) (kV doc pm : Value) (an : Option Addr) (ct : Value) (osl : Array (Option Value)),
    K.lookup f = some ⟨oc, od, .func (PySem.W.fnOf x x (defArgs st) (defBody st) (defScope st) .none kV doc pm an (.ref c) ct), osl⟩
  hcd : PySem.W.codeIn K (.ref c) x = true
  kp : PySem.W.keepIn K (.ref f) = true
  mgf : mg x = some (.ref f)
section
variable {P : Program} {w : World} {K : PySem.W.Frag} {mg : Str → Option Value} {base : Heap}
theorem cal {x : Str} {st : Stmt} {f c : Addr} {N ps : List Str} {k : Nat} {sp : Sp} (D : Dfn K mg x st f c)
    (hb : ∀ (kV doc pm : Value) (an : Option Addr) (cdv ct : Value) (us : List Value), us.length = ps.length → bindArgs (PySem.W.fnOf x x (defArgs st) (defBody st) (defScope st) .none kV doc pm an cdv ct) ⟨us, []⟩ = pure (ps.zip us))
    (S : FnScope N ps (defScope st)) (len : ∀ vs H Q E, sp vs H Q E → vs.length = ps.length)
    (hbody : ∀ (A : Around) (outer : List Env) (s : Shared) (H : Hp) (vs : List V) (Q : VK) (E : XK), Room k (A.deeper (envOfC x (defScope st) s.heap.objs.size f (.ref c))) → sp vs H Q E →
      ∃ t, PSs (cxOf CX0 P w K mg base N x (defScope st) f (.ref c) A outer s H E).nox (defBody st) t ∧ t { nx := fun _ H' => Q .non H', rt := Q } (start N vs) H) : Cal P w K mg base (k + 1) x sp [] := by
  obtain ⟨oc, od, kV, doc, pm, an, ct, osl, lk⟩ := D.ex
  refine ⟨f, _, ps, [], fn_of lk D.hcd S len (fun A outer s H vs Q E hr hsp => ?_), D.mgf, D.kp, .all (hb kV doc pm an (.ref c) ct), .nil⟩
  obtain ⟨t, h, q⟩ := hbody A outer s H vs Q E hr hsp
  exact ⟨t, h.nox, q⟩
end

section
variable {P : Program} {w : World} {K : PySem.W.Frag} {mg : Str → Option Value} {base : Heap}
/-- .. for the law itself -/
theorem fnok {x : Str} {st : Stmt} {f c : Addr} {N ps : List Str} {k : Nat} {sp : Sp} {oc kV doc pm ct : Value} {od an : Option Addr} {osl : Array (Option Value)}
    (lk : K.lookup f = some ⟨oc, od, .func (PySem.W.fnOf x x (defArgs st) (defBody st) (defScope st) .none kV doc pm an (.ref c) ct), osl⟩) (hcd : PySem.W.codeIn K (.ref c) x = true)
    (S : FnScope N ps (defScope st)) (len : ∀ vs H Q E, sp vs H Q E → vs.length = ps.length)
    (hbody : ∀ (A : Around) (outer : List Env) (s : Shared) (H : Hp) (vs : List V) (Q : VK) (E : XK), Room k (A.deeper (envOfC x (defScope st) s.heap.objs.size f (.ref c))) → sp vs H Q E →
      ∃ t, PSs (cxOf CX0 P w K mg base N x (defScope st) f (.ref c) A outer s H E).nox (defBody st) t ∧ t { nx := fun _ H' => Q .non H', rt := Q } (start N vs) H) :
    FnOk P w K mg base CX0 (k + 1) f (PySem.W.fnOf x x (defArgs st) (defBody st) (defScope st) .none kV doc pm an (.ref c) ct) ps sp := by
  refine fn_of lk hcd S len (fun A outer s H vs Q E hr hsp => ?_)
  obtain ⟨t, h, q⟩ := hbody A outer s H vs Q E hr hsp
  exact ⟨t, h.nox, q⟩
end

/-! ### heaps: all but X stands -/
def Keep (X : List Addr) (H H' : Hp) : Prop := ∀ b o, H b = some o → b ∉ X → H' b = some o
theorem Keep.refl {X : List Addr} {H : Hp} : Keep X H H := fun _ _ e _ => e
theorem Keep.trans {X : List Addr} {H H1 H2 : Hp} (a : Keep X H H1) (b : Keep X H1 H2) : Keep X H H2 := fun c o e n => b c o (a c o e n) n
theorem Keep.mono {X Y : List Addr} {H H' : Hp} (a : Keep X H H') (h : ∀ b ∈ X, b ∈ Y) : Keep Y H H' := fun c o e n => a c o e fun z => n (h c z)
theorem Keep.new {X : List Addr} {H : Hp} {p : Addr} {o : HO} (n : H p = none) : Keep X H (upd H p o) := fun b u e _ => by rw [upd_ne (ne_of_none e n)]; exact e
theorem Keep.put {X : List Addr} {H : Hp} {p : Addr} {o : HO} (h : p ∈ X) : Keep X H (upd H p o) := fun b u e n => by rw [upd_ne (fun z => n (by rw [z]; exact h))]; exact e
/-- the tables of the defs that hold generator expressions -/
def Tabs (Ts : List Addr) (H : Hp) : Prop := ∀ P ∈ Ts, GxR.TabG H P
theorem Tabs.nott {Ts : List Addr} {H : Hp} (t : Tabs Ts H) {b : Addr} {o : HO} (e : H b = some o) (h : ∀ ps, o ≠ .tbl ps) : b ∉ Ts := fun z => by
  obtain ⟨ps, q, _⟩ := t b z
  rw [e] at q
  exact h ps (Option.some.inj q)
theorem Tabs.none {Ts : List Addr} {H : Hp} (t : Tabs Ts H) {b : Addr} (e : H b = none) : b ∉ Ts := fun z => by
  obtain ⟨ps, q, _⟩ := t b z
  rw [e] at q
  cases q
theorem Tabs.tup {Ts : List Addr} {H : Hp} (t : Tabs Ts H) {b : Addr} {xs : List V} (e : H b = some (.tup xs)) : b ∉ Ts := t.nott e fun _ z => by cases z
theorem Tabs.lst {Ts : List Addr} {H : Hp} (t : Tabs Ts H) {b : Addr} {xs : List V} (e : H b = some (.lst xs)) : b ∉ Ts := t.nott e fun _ z => by cases z
theorem Tabs.upd {Ts : List Addr} {H : Hp} (t : Tabs Ts H) {p : Addr} {o : HO} (h : p ∉ Ts) : Tabs Ts (L2.upd H p o) := fun b hb => by
  obtain ⟨ps, q, r⟩ := t b hb
  exact ⟨ps, by rw [upd_ne (fun z => h (by rw [← z]; exact hb))]; exact q, r⟩
/-- behind a generator expression: its table may have grown -/
theorem Tabs.tabbed {Ts : List Addr} {H H' : Hp} {P : Addr} (t : Tabs Ts H) (h : GxR.Tabbed P H H') : Tabs Ts H' := fun b hb => by
  by_cases e : b = P
  · rw [e]; exact h.1
  · obtain ⟨ps, q, r⟩ := t b hb
    exact ⟨ps, by rw [h.2 b e]; exact q, r⟩
theorem Keep.tabbed {X : List Addr} {H H' : Hp} {P : Addr} (hP : P ∈ X) (h : GxR.Tabbed P H H') : Keep X H H' := fun b o e n => by rw [h.2 b (fun z => n (by rw [z]; exact hP))]; exact e
/-- what a def that reads and makes leaves: the tables may have grown -/
structure Aft (Ts : List Addr) (H H' : Hp) : Prop where
  kp : Keep Ts H H'
  tb : Tabs Ts H'
theorem Aft.trans {Ts : List Addr} {H H1 H2 : Hp} (a : Aft Ts H H1) (b : Aft Ts H1 H2) : Aft Ts H H2 := ⟨a.kp.trans b.kp, b.tb⟩
theorem Aft.refl {Ts : List Addr} {H : Hp} (t : Tabs Ts H) : Aft Ts H H := ⟨Keep.refl, t⟩
theorem Aft.new {Ts : List Addr} {H : Hp} {p : Addr} {o : HO} (t : Tabs Ts H) (n : H p = Option.none) : Aft Ts H (L2.upd H p o) := ⟨Keep.new n, t.upd (t.none n)⟩
theorem Aft.tup {Ts : List Addr} {H H' : Hp} (a : Aft Ts H H') (t : Tabs Ts H) {b : Addr} {xs : List V} (e : H b = some (.tup xs)) : H' b = some (.tup xs) := a.kp b _ e (t.tup e)
theorem Aft.lst {Ts : List Addr} {H H' : Hp} (a : Aft Ts H H') (t : Tabs Ts H) {b : Addr} {xs : List V} (e : H b = some (.lst xs)) : H' b = some (.lst xs) := a.kp b _ e (t.lst e)

/-! ### the law's end with the tables of its defs -/
def TabOf (K : PySem.W.Frag) (mg : Str → Option Value) (h : Heap) (x : Str) : Prop := ∀ (fa c P : Addr) (o : Obj) (fd : FuncData) (e : Value) (dd : Option Addr) (vs : Array Value) (sl : Array (Option Value)),
  mg x = some (.ref fa) → K.lookup fa = some o → o.data = .func fd → fd.code = .ref c → K.lookup c = some ⟨e, dd, .fields vs, sl⟩ → vs[11]? = some (.ref P) → h.get? P = some { cls := .none, data := .fields #[] }
theorem walk_defs {l : PySem.W.OpenLaw} {n k : Nat} {q : Program} {loose : List Str} {XP : (Str → Option Value) → Heap → Prop} {YP : World → Heap → Prop} {d : DefRec} {K : Params → PySem.W.Frag} {CX : World → CXT} {x : Str}
    (hn : l.most = some n) (hn2 : n ≤ sizeLine) (hdf : d.params.defaults = []) (hr : Room k callerA) (hY : ∀ (w : World) (h : Heap), YP w h → (K w.params).In h)
    (F : ∀ (w : World) (mg : Str → Option Value) (fa : Addr) (h : Heap), YP w h → (K w.params).In h → h.Ns mainGlobals mg → mg d.name = some (.ref fa) → (∀ y : Str, ((recsOf q).any fun e => e.name == y) = true → TabOf (K w.params) mg h y) → LamX.LawAtS l w (K w.params) (CX w) k n x mg fa h)
    (hCX : ∀ (w : World) (H : Hp) (s : Shared) (e : Value) (s' : Shared), CX w [] H s (fun _ _ _ => False) e s' → False) :
    PySem.W.WalkO q loose XP YP l.row.toRowW d [] (fun f vs => PySem.call f vs) := by
  refine Att.attach_callB hn hdf fun w s₀ s₁ mg mb fa o pm cd doc a vs ns G Y ho hd hcd hmg hobj hints hlen hbits hg => ?_
  have KX := hY w _ Y
  have own : ∀ y : Str, ((recsOf q).any fun e => e.name == y) = true → TabOf (K w.params) mg s₁.heap y := fun y hrec fa c P o1 fd1 e dd vs1 sl k0 k1 k2 k3 k4 k5 => by
    obtain ⟨dL, hm, hn1⟩ := List.any_eq_true.mp hrec
    have hn2 : dL.name = y := beq_iff_eq.mp hn1
    obtain ⟨a', o', fd', c', P', h1, h2, h3, h4, h5, h6⟩ := G.T.tab dL hm
    rw [hn2, k0] at h1
    cases h1
    have g1 := KX _ _ k1
    rw [g1] at h2
    cases h2
    rw [k2] at h3
    cases h3
    rw [k3] at h4
    cases h4
    obtain ⟨⟨oc, vc, e1, _, e3, e4⟩, hP⟩ := h6
    have g2 := KX _ _ k4
    rw [g2] at e1
    cases e1
    cases e3
    rw [k5] at e4
    cases e4
    exact hP
  obtain ⟨fd, cs, sp, hT, nT, C, hb, hsp, hF⟩ := F w mg fa _ Y KX G.T.g hmg own
  exact LamX.law_callTs KX G.T.g G.T.b G.T.builtins G.T.nolimit hg hT nT C G.T.bmain hobj hints (Nat.le_trans hlen hn2) hr hF hb (fun H hH hS => hsp H a ns hlen hbits hH hS) fun H e s' => hCX w H s₁ e s'
theorem codeHd_of {K : PySem.W.Frag} {h : Heap} (X : K.In h) {c P : Addr} {dd : Option Addr} {vs : Array Value} {sl : Array (Option Value)} {file : Str} {tf tg tt : Tok} {flags text : Int} {inF : Bool} (lc : K.lookup c = some ⟨.type "code", dd, .fields vs, sl⟩)
    (e : vs[11]? = some (.ref P) ∧ vs.getD 11 .none = .ref P ∧ vs.getD 18 .none = .str file tf ∧ vs.getD 7 .none = .int flags tg ∧ vs.getD 9 .none = .bool inF ∧ vs.getD 10 .none = .int text tt ∧ c ≠ P) : PySem.W.CodeHd h c P :=
  ⟨_, vs, file, tf, flags, tg, inF, text, tt, X c _ lc, rfl, rfl, e.1, e.2.1, e.2.2.1, e.2.2.2.1, e.2.2.2.2.1, e.2.2.2.2.2.1, e.2.2.2.2.2.2⟩
theorem tabB_of {base : Heap} {mg : Str → Option Value} {c P : Addr} (t : LamX.TabB base mg c P) : GxR.TabB base mg c P := ⟨t.code, t.bm, t.gP⟩

/-! ### small things -/
theorem small (n : Nat) (h : n ≤ 100000 := by decide) : n ≤ sizeLine := Nat.le_trans h (by decide)
theorem at0 {a : V} {r : List V} : atI (a :: r) 0 = some a := atI_nat (j := 0) rfl
theorem at1 {a b : V} {r : List V} : atI (a :: b :: r) 1 = some b := atI_nat (j := 1) rfl
theorem at2 {a b c : V} {r : List V} : atI (a :: b :: c :: r) 2 = some c := atI_nat (j := 2) rfl
theorem sq_keep {K : PySem.W.Frag} {H H' : Hp} {a W : Addr} {xs : List V} {Ts : List Addr} (h : SqL K H a xs) (t : Tabs Ts H) (k : Keep (W :: Ts) H H') (nW : H W = none) : SqL K H' a xs := by
  have nn : ∀ o, H a = some o → (∀ ps, o ≠ .tbl ps) → a ∉ W :: Ts := fun o e hn z => by
    rcases List.mem_cons.mp z with z | z
    · rw [z, nW] at e
      cases e
    · exact t.nott e hn z
  rcases h with (h | ⟨o, h⟩) | h
  · exact .inl (.inl (k _ _ h (nn _ h fun _ z => by cases z)))
  · exact .inl (.inr ⟨o, k _ _ h (nn _ h fun _ z => by cases z)⟩)
  · exact .inr h
end GX
set_option Elab.async false
set_option linter.all false
set_option maxRecDepth 100000
set_option maxHeartbeats 4000000
/-! Nets as data, and how they stand in the heap. -/
namespace GX
open PySem PySem.Spec PyProof.Rows L2
structure Net where
  many : Nat
  gates : List (Nat × Nat × Nat)
  outs : List Nat
def gateOk (many i : Nat) (g : Nat × Nat × Nat) : Prop := g.1 < 16 ∧ g.2.1 < many + i ∧ g.2.2 < many + i
structure Net.Ok (n : Net) : Prop where
  m1 : 1 ≤ n.many
  m8 : n.many ≤ 8
  g16 : n.gates.length ≤ 16
  gs : ∀ (i : Nat) (g : Nat × Nat × Nat), n.gates[i]? = some g → gateOk n.many i g
  o1 : 1 ≤ n.outs.length
  o8 : n.outs.length ≤ 8
  os : ∀ o ∈ n.outs, o < n.many + n.gates.length
def nV (n : Nat) : V := .int (n : Int)
def gV (g : Nat × Nat × Nat) : List V := [nV g.1, nV g.2.1, nV g.2.2]
/-- the gates at these addresses -/
def GatesAt (H : Hp) (ps : List Addr) (gs : List (Nat × Nat × Nat)) : Prop := ps.length = gs.length ∧ ∀ (i : Nat) (p : Addr) (g : Nat × Nat × Nat), ps[i]? = some p → gs[i]? = some g → H p = some (.tup (gV g))
structure NetAt (H : Hp) (a : Addr) (n : Net) (g o : Addr) (ps : List Addr) : Prop where
  top : H a = some (.tup [nV n.many, .ref g, .ref o])
  gt : H g = some (.tup (ps.map V.ref))
  gs : GatesAt H ps n.gates
  ot : H o = some (.tup (n.outs.map nV))
theorem GatesAt.nil (H : Hp) : GatesAt H [] [] := ⟨rfl, fun i p g e _ => by simp at e⟩
theorem GatesAt.mono {H H' : Hp} {ps : List Addr} {gs : List (Nat × Nat × Nat)} (x : GatesAt H ps gs) (k : ∀ b xs, H b = some (.tup xs) → H' b = some (.tup xs)) : GatesAt H' ps gs := ⟨x.1, fun i p g e1 e2 => k _ _ (x.2 i p g e1 e2)⟩
theorem NetAt.mono {H H' : Hp} {a g o : Addr} {n : Net} {ps : List Addr} (x : NetAt H a n g o ps) (k : ∀ b xs, H b = some (.tup xs) → H' b = some (.tup xs)) : NetAt H' a n g o ps := ⟨k _ _ x.top, k _ _ x.gt, x.gs.mono k, k _ _ x.ot⟩
theorem GatesAt.push {H : Hp} {ps : List Addr} {gs : List (Nat × Nat × Nat)} {p : Addr} {g : Nat × Nat × Nat} (x : GatesAt H ps gs) (h : H p = some (.tup (gV g))) : GatesAt H (ps ++ [p]) (gs ++ [g]) := by
  refine ⟨by rw [List.length_append, List.length_append, x.1]; rfl, fun i q g' e1 e2 => ?_⟩
  by_cases hi : i < ps.length
  · rw [List.getElem?_append_left hi] at e1
    rw [List.getElem?_append_left (by rw [← x.1]; exact hi)] at e2
    exact x.2 i q g' e1 e2
  · rw [List.getElem?_append_right (by omega)] at e1
    rw [List.getElem?_append_right (by rw [← x.1]; omega)] at e2
    have hz : i - ps.length = 0 := by
      obtain ⟨h1, _⟩ := List.getElem?_eq_some_iff.mp e1
      simp at h1
      omega
    rw [hz] at e1
    rw [← x.1, hz] at e2
    cases e1
    cases e2
    exact h
theorem gateOk.at {H : Hp} {ps : List Addr} {gs : List (Nat × Nat × Nat)} (x : GatesAt H ps gs) {i : Nat} {p : Addr} (e : ps[i]? = some p) : ∃ g, gs[i]? = some g ∧ H p = some (.tup (gV g)) := by
  obtain ⟨h1, _⟩ := List.getElem?_eq_some_iff.mp e
  have h2 : i < gs.length := by rw [← x.1]; exact h1
  exact ⟨gs[i], List.getElem?_eq_getElem h2, x.2 i p _ e (List.getElem?_eq_getElem h2)⟩
/-- what a tuple holds it keeps, where but X is kept and X holds none -/
theorem Keep.tups {X : List Addr} {H H' : Hp} (k : Keep X H H') (n : ∀ b ∈ X, ∀ xs, H b ≠ some (.tup xs)) : ∀ b xs, H b = some (.tup xs) → H' b = some (.tup xs) := fun b xs e => k b _ e fun z => n b z xs e
/-! ### the well -/
def Wl (H : Hp) (W : Addr) : Prop := ∃ a b c : Int, H W = some (.lst [.int a, .int b, .int c])
theorem Wl.nt {H : Hp} {W : Addr} (h : Wl H W) : ∀ b ∈ [W], ∀ xs, H b ≠ some (.tup xs) := fun b hb xs e => by
  rw [List.mem_singleton.mp hb] at e
  obtain ⟨_, _, _, q⟩ := h
  rw [e] at q
  cases q
theorem Wl.keep {X : List Addr} {H H' : Hp} {W : Addr} (h : Wl H W) (k : Keep X H H') (n : W ∉ X) : Wl H' W := by
  obtain ⟨a, b, c, e⟩ := h
  exact ⟨a, b, c, k _ _ e n⟩
theorem Wl.tab {Ts : List Addr} {H : Hp} {W : Addr} (h : Wl H W) (t : Tabs Ts H) : W ∉ Ts := by
  obtain ⟨a, b, c, e⟩ := h
  exact t.lst e
theorem Tabs.keep {Ts X : List Addr} {H H' : Hp} (t : Tabs Ts H) (k : Keep X H H') (n : ∀ b ∈ X, b ∉ Ts) : Tabs Ts H' := fun b hb => by
  obtain ⟨ps, q, r⟩ := t b hb
  exact ⟨ps, k b _ q fun z => n b z hb, r⟩
/-! ### words for the readings -/
theorem Same.keep {X : List Addr} {H H' : Hp} (s : Same H H') : Keep X H H' := fun b o e _ => s b o e
theorem Same.new {H : Hp} {p : Addr} {o : HO} (n : H p = none) : Same H (upd H p o) := fun b u e => by rw [upd_ne (ne_of_none e n)]; exact e
theorem catA {K : PySem.W.Frag} {H : Hp} {a b : Addr} {xs ys : List V} {Q : VK} (h1 : H a = some (.tup xs)) (h2 : H b = some (.tup ys)) (hz : xs.length + ys.length ≤ sizeLine) (q : ∀ r H', Same H H' → H' r = some (.tup (xs ++ ys)) → Q (.ref r) H') : rCatA K (.ref a) (.ref b) H Q := by
  refine ⟨a, b, xs, ys, rfl, rfl, SqT.of h1, SqT.of h2, hz, fun e => ?_, fun e1 e2 => ?_, fun e1 e2 p hp => ?_⟩
  · exact q b H (Same.refl _) (by rw [e]; exact h2)
  · exact q a H (Same.refl _) (by rw [e2, List.append_nil]; exact h1)
  · exact q p _ (Same.new hp) upd_same
theorem slA {K : PySem.W.Frag} {H : Hp} {a : Addr} {xs : List V} {lo hi : Option Int} {Q : VK} (h1 : H a = some (.tup xs)) (q : ∀ r H', Same H H' → H' r = some (.tup (cutV xs lo hi)) → Q (.ref r) H') : rSlA K (.ref a) lo hi H Q := by
  refine ⟨a, xs, rfl, SqT.of h1, fun e => ?_, fun e p hp => ?_⟩
  · refine q a H (Same.refl _) ?_
    unfold cutV
    rw [e.1, e.2, List.drop_zero, Nat.sub_zero, List.take_length]
    exact h1
  · exact q p _ (Same.new hp) upd_same
theorem atIf {a b : V} {k : Bool} : atI [a, b] (if k = true then 1 else 0) = some (if k = true then b else a) := by cases k <;> rfl
theorem cut_lo (xs : List V) (n : Nat) : cutV xs (some (n : Int)) none = xs.drop n := by
  unfold cutV
  rw [show HT.sIx xs.length 0 (some (n : Int)) = min n xs.length from HT.sIx_nat xs.length 0 n, HT.sIx_none]
  by_cases h : n ≤ xs.length
  · rw [Nat.min_eq_left h, List.take_of_length_le]
    rw [List.length_drop]
    exact Nat.le_refl _
  · rw [Nat.min_eq_right (by omega), List.drop_of_length_le (Nat.le_refl _), List.drop_of_length_le (by omega), List.take_nil]
theorem cut_hi (xs : List V) (n : Nat) : cutV xs none (some (n : Int)) = xs.take n := by
  unfold cutV
  rw [show HT.sIx xs.length xs.length (some (n : Int)) = min n xs.length from HT.sIx_nat xs.length xs.length n, HT.sIx_none, List.drop_zero, Nat.sub_zero]
  by_cases h : n ≤ xs.length
  · rw [Nat.min_eq_left h]
  · rw [Nat.min_eq_right (by omega), List.take_of_length_le (by omega : xs.length ≤ n), List.take_length]
/-- the well stands, all else is kept -/
structure Wk (W : Addr) (H H' : Hp) : Prop where
  wl : Wl H' W
  kp : Keep [W] H H'
theorem Wk.nxt {W : Addr} {H H1 H2 : Hp} (s : Wk W H H1) (wl : Wl H2 W) (k : Keep [W] H1 H2) : Wk W H H2 := ⟨wl, s.kp.trans k⟩
theorem Wl.same {H H' : Hp} {W : Addr} (h : Wl H W) (s : Same H H') : Wl H' W := by
  obtain ⟨a, b, c, e⟩ := h
  exact ⟨a, b, c, s _ _ e⟩
theorem Wk.same {W : Addr} {H H1 H2 : Hp} (s : Wk W H H1) (e : Same H1 H2) : Wk W H H2 := ⟨s.wl.same e, s.kp.trans (Same.keep e)⟩
theorem Wk.new {W : Addr} {H H1 : Hp} {p : Addr} {o : HO} (s : Wk W H H1) (n : H1 p = none) : Wk W H (upd H1 p o) := s.same (Same.new n)
/-- a tuple stands behind a draw -/
theorem Wl.tup {H H' : Hp} {W : Addr} (h : Wl H W) (k : Keep [W] H H') {b : Addr} {xs : List V} (e : H b = some (.tup xs)) : H' b = some (.tup xs) := k.tups h.nt b xs e
theorem Wl.gates {H H' : Hp} {W : Addr} (h : Wl H W) (k : Keep [W] H H') {ps : List Addr} {gs : List (Nat × Nat × Nat)} (x : GatesAt H ps gs) : GatesAt H' ps gs := x.mono (k.tups h.nt)
theorem Same.gates {H H' : Hp} (s : Same H H') {ps : List Addr} {gs : List (Nat × Nat × Nat)} (x : GatesAt H ps gs) : GatesAt H' ps gs := x.mono fun b xs e => s b _ e
/-- a list of our own, filled behind H: all that was stands -/
structure Own (H H' : Hp) (l : Addr) (xs : List V) : Prop where
  sm : Same H H'
  at_ : H' l = some (.lst xs)
  nw : H l = none
theorem Own.app {H H' : Hp} {l : Addr} {xs : List V} {y : V} (o : Own H H' l xs) : Own H (upd H' l (.lst (xs ++ [y]))) l (xs ++ [y]) :=
  ⟨fun b u e => by rw [upd_ne (ne_of_none e o.nw)]; exact o.sm b u e, upd_same, o.nw⟩
theorem NetAt.same {H H' : Hp} {a g o : Addr} {n : Net} {ps : List Addr} (x : NetAt H a n g o ps) (s : Same H H') : NetAt H' a n g o ps := x.mono fun b xs e => s b _ e
theorem Tabs.same {Ts : List Addr} {H H' : Hp} (t : Tabs Ts H) (s : Same H H') : Tabs Ts H' := fun b hb => by
  obtain ⟨ps, q, r⟩ := t b hb
  exact ⟨ps, s _ _ q, r⟩
theorem Aft.ofSame {Ts : List Addr} {H H' : Hp} (t : Tabs Ts H) (s : Same H H') : Aft Ts H H' := ⟨Same.keep s, Tabs.same t s⟩
theorem NetAt.aft {Ts : List Addr} {H H' : Hp} {a g o : Addr} {n : Net} {ps : List Addr} (x : NetAt H a n g o ps) (t : Tabs Ts H) (s : Aft Ts H H') : NetAt H' a n g o ps := x.mono fun b xs e => s.tup t e
/-! ### rules with the written part named (for generator expressions) -/
section
variable {X : Cx} {K : PySem.W.Frag}
theorem ix_tupK (h : X.K = K := by rfl) : IxR X (rIxT K) := by subst h; exact ix_tup
theorem ix_listK (h : X.K = K := by rfl) : IxR X (rIxL K) := by subst h; exact ix_list
theorem op_in_seqK (h : X.K = K := by rfl) : OpR X (compareOp .In) (rIn K false) := by subst h; exact op_in_seq
theorem op_notIn_seqK (h : X.K = K := by rfl) : OpR X (compareOp .NotIn) (rIn K true) := by subst h; exact op_notIn_seq
theorem len_seqK (h : X.K = K := by rfl) : CallR X (.builtin "len") (fun xs H Q => ∃ p ys, xs = [.ref p] ∧ (SqL K H p ys ∨ SqT K H p ys) ∧ Q (.int ys.length) H) := by subst h; exact call_len_seq
theorem isiK (h : X.K = K := by rfl) : CallR X (.builtin "isinstance") (rIsi K) := by subst h; exact call_isi
theorem op_catAK (h : X.K = K := by rfl) : OpR X (binaryOp .Add) (rCatA K) := by subst h; exact op_catA
theorem sl_tupAK (h : X.K = K := by rfl) : SlR X (rSlA K) := by subst h; exact sl_tupA
end
end GX
set_option Elab.async false
set_option linter.all false
set_option maxRecDepth 100000
set_option maxHeartbeats 4000000
/-! What leads from a wire down, past no stop. -/
namespace GX
open PySem PySem.Spec PyProof.Rows L2
inductive Rc (n : Net) (st : List Nat) (w j : Nat) : Nat → Prop
  | here : w ∉ st → Rc n st w j w
  | step {g p : Nat} {k : Nat × Nat × Nat} : Rc n st w j g → n.many ≤ g → j ≤ g → n.gates[g - n.many]? = some k → (p = k.2.1 ∨ p = k.2.2) → p ∉ st → Rc n st w j p
theorem place_lt {n : Net} (ok : n.Ok) {g p : Nat} {k : Nat × Nat × Nat} (hg : n.many ≤ g) (hk : n.gates[g - n.many]? = some k) (hp : p = k.2.1 ∨ p = k.2.2) : p < g := by
  obtain ⟨_, h1, h2⟩ := ok.gs _ _ hk
  rcases hp with rfl | rfl <;> omega
theorem Rc.le {n : Net} (ok : n.Ok) {st : List Nat} {w j y : Nat} (h : Rc n st w j y) : y ≤ w := by
  induction h with
  | here _ => exact Nat.le_refl _
  | step _ hg _ hk hp _ ih => exact Nat.le_trans (Nat.le_of_lt (place_lt ok hg hk hp)) ih
theorem Rc.free {n : Net} {st : List Nat} {w j y : Nat} (h : Rc n st w j y) : y ∉ st := by cases h <;> assumption
theorem Rc.mono {n : Net} {st : List Nat} {w j i y : Nat} (h : Rc n st w j y) (l : i ≤ j) : Rc n st w i y := by
  induction h with
  | here e => exact .here e
  | step _ hg hj hk hp hs ih => exact .step ih hg (Nat.le_trans l hj) hk hp hs
theorem Rc.low {n : Net} {st : List Nat} {w j y : Nat} (h : Rc n st w j y) : Rc n st w n.many y := by
  induction h with
  | here e => exact .here e
  | step _ hg hj hk hp hs ih => exact .step ih hg hg hk hp hs
theorem Rc.low_iff {n : Net} {st : List Nat} {w j y : Nat} (l : j ≤ n.many) : Rc n st w j y ↔ Rc n st w n.many y := ⟨Rc.low, fun h => h.mono l⟩
theorem Rc.down {n : Net} (ok : n.Ok) {st : List Nat} {w g y : Nat} {k : Nat × Nat × Nat} (hg : n.many ≤ g) (hk : n.gates[g - n.many]? = some k) :
    Rc n st w g y ↔ Rc n st w (g + 1) y ∨ (Rc n st w (g + 1) g ∧ (y = k.2.1 ∨ y = k.2.2) ∧ y ∉ st) := by
  refine ⟨fun h => ?_, fun h => ?_⟩
  · induction h with
    | here e => exact .inl (.here e)
    | @step g' p k' h1 hg' hj hk' hp hs ih =>
      by_cases e : g' = g
      · subst e
        have ek : k' = k := by
          rw [hk] at hk'
          exact (Option.some.inj hk').symm
        subst ek
        rcases ih with ih | ⟨_, ih, _⟩
        · exact .inr ⟨ih, hp, hs⟩
        · exact absurd (place_lt ok hg hk ih) (Nat.lt_irrefl _)
      · rcases ih with ih | ⟨_, ih, _⟩
        · exact .inl (.step ih hg' (by omega) hk' hp hs)
        · have := place_lt ok hg hk ih
          omega
  · rcases h with h | ⟨h, hp, hs⟩
    · exact h.mono (Nat.le_succ g)
    · exact .step (h.mono (Nat.le_succ g)) hg (Nat.le_refl _) hk hp hs
/-- an input, or below the last gate: nothing goes on above -/
theorem Rc.high {n : Net} (ok : n.Ok) {st : List Nat} {w y : Nat} : Rc n st w (w + 1) y ↔ y = w ∧ w ∉ st := by
  refine ⟨fun h => ?_, fun h => by rw [h.1]; exact .here h.2⟩
  cases h with
  | here e => exact ⟨rfl, e⟩
  | step h1 hg hj hk hp hs =>
    have := h1.le ok
    omega
theorem inV_n (x : Nat) (st : List Nat) : inV (nV x) (st.map nV) = decide (x ∈ st) := by
  unfold inV
  rw [List.any_map]
  induction st with
  | nil => rfl
  | cons y r ih =>
    rw [List.any_cons, ih]
    have e : ((fun y => eqV y (nV x)) ∘ nV) y = decide (x = y) := by
      show eqV (nV y) (nV x) = decide (x = y)
      unfold eqV
      by_cases h : x = y
      · subst h
        rw [decide_eq_true (rfl : x = x)]
        exact decide_eq_true rfl
      · rw [decide_eq_false h]
        refine decide_eq_false fun z => h ?_
        have z' : ((y : Nat) : Int) = (x : Int) := z
        omega
    rw [e, ← Bool.decide_or]
    congr 1
    exact propext List.mem_cons.symm
theorem flat_ns (st : List Nat) : (st.map nV).all flatV = true := by
  rw [List.all_map, List.all_eq_true]
  intro x _
  rfl
theorem ix_n {len x : Nat} (h : x < len) : ixN len (x : Int) = some x := by
  have e := atI_nat (xs := List.range len) (j := x) (v := x) (by rw [List.getElem?_range h])
  unfold atI at e
  rw [List.length_range] at e
  cases q : ixN len (x : Int) with
  | none => rw [q] at e; cases e
  | some j =>
    rw [q] at e
    have e' : (List.range len)[j]? = some x := e
    obtain ⟨h1, h2⟩ := List.getElem?_eq_some_iff.mp e'
    rw [List.getElem_range] at h2
    rw [h2]
/-- rising, unlike: told by its members -/
theorem rise_eq : ∀ {xs ys : List Nat}, xs.Pairwise (· < ·) → ys.Pairwise (· < ·) → (∀ z, z ∈ xs ↔ z ∈ ys) → xs = ys
  | [], [], _, _, _ => rfl
  | [], y :: ys, _, _, h => by cases (h y).mpr List.mem_cons_self
  | x :: xs, [], _, _, h => by cases (h x).mp List.mem_cons_self
  | x :: xs, y :: ys, hx, hy, h => by
    have hx1 := List.pairwise_cons.mp hx
    have hy1 := List.pairwise_cons.mp hy
    have e : x = y := by
      rcases List.mem_cons.mp ((h x).mp List.mem_cons_self) with e | e
      · exact e
      · rcases List.mem_cons.mp ((h y).mpr List.mem_cons_self) with e' | e'
        · exact e'.symm
        · have := hy1.1 _ e
          have := hx1.1 _ e'
          omega
    subst e
    refine congrArg _ (rise_eq hx1.2 hy1.2 fun z => ⟨fun hz => ?_, fun hz => ?_⟩)
    · rcases List.mem_cons.mp ((h z).mp (List.mem_cons_of_mem _ hz)) with e | e
      · have := hx1.1 _ hz
        omega
      · exact e
    · rcases List.mem_cons.mp ((h z).mpr (List.mem_cons_of_mem _ hz)) with e | e
      · have := hy1.1 _ hz
        omega
      · exact e
/-- the wires reached, rising -/
def Rset (n : Net) (st : List Nat) (w : Nat) (xs : List Nat) : Prop := xs.Pairwise (· < ·) ∧ ∀ y, y ∈ xs ↔ Rc n st w n.many y
theorem Rset.eq {n : Net} {st : List Nat} {w : Nat} {xs ys : List Nat} (a : Rset n st w xs) (b : Rset n st w ys) : xs = ys := rise_eq a.1 b.1 fun z => (a.2 z).trans (b.2 z).symm
/-- marks -/
def MarkOk (n : Net) (st : List Nat) (w j : Nat) (ms : List Bool) : Prop := ms.length = n.many + n.gates.length ∧ ∀ y, y < ms.length → (ms.getD y false = true ↔ Rc n st w j y)
theorem getD_set {ms : List Bool} {i y : Nat} {b : Bool} (h : i < ms.length) : (ms.set i b).getD y false = if y = i then b else ms.getD y false := by
  rw [List.getD_eq_getElem?_getD, List.getD_eq_getElem?_getD]
  by_cases e : y = i
  · subst e
    rw [if_pos rfl, List.getElem?_set_self h]
    rfl
  · rw [if_neg e, List.getElem?_set_ne (fun z => e z.symm)]
theorem mark_at {ms : List Bool} {i : Nat} (h : i < ms.length) : (ms.map V.bl)[i]? = some (.bl (ms.getD i false)) := by
  rw [List.getElem?_map, List.getD_eq_getElem?_getD, List.getElem?_eq_getElem h]
  rfl
def picked (ms : List Bool) : List Nat := (List.range ms.length).filter fun i => ms.getD i false
theorem picked_rise (ms : List Bool) : (picked ms).Pairwise (· < ·) := List.Pairwise.filter _ List.pairwise_lt_range
theorem picked_take (ms : List Bool) (i : Nat) : ((List.range (i + 1)).filter fun i => ms.getD i false) = ((List.range i).filter fun i => ms.getD i false) ++ (if ms.getD i false = true then [i] else []) := by
  rw [List.range_succ, List.filter_append]
  congr 1
  rw [List.filter_cons]
  rfl
theorem mark_set {n : Net} (ok : n.Ok) {st : List Nat} {w : Nat} {ms : List Bool} (hw : w < n.many + n.gates.length) (h : MarkOk n st w n.many ms) : Rset n st w (picked ms) := by
  refine ⟨picked_rise ms, fun y => ?_⟩
  unfold picked
  rw [List.mem_filter, List.mem_range]
  refine ⟨fun ⟨h1, h2⟩ => (h.2 y h1).mp h2, fun r => ?_⟩
  have := r.le ok
  have hl : y < ms.length := by rw [h.1]; omega
  exact ⟨hl, (h.2 y hl).mpr r⟩
theorem mark_down {n : Net} (ok : n.Ok) {st : List Nat} {w g : Nat} {k : Nat × Nat × Nat} {ms : List Bool} (hg : n.many ≤ g) (hk : n.gates[g - n.many]? = some k) (h : MarkOk n st w (g + 1) ms) (hm : ms.getD g false = true) :
    MarkOk n st w g ((ms.set k.2.1 (!decide (k.2.1 ∈ st))).set k.2.2 (!decide (k.2.2 ∈ st))) := by
  have hgl : g < ms.length := by
    rw [h.1]
    have := (List.getElem?_eq_some_iff.mp hk).1
    omega
  have p1 := place_lt ok hg hk (.inl rfl)
  have p2 := place_lt ok hg hk (.inr rfl)
  have rg := (h.2 g hgl).mp hm
  have flip : ∀ y, (y = k.2.1 ∨ y = k.2.2) → ((!decide (y ∈ st)) = true ↔ Rc n st w g y) := fun y hy => by
    rw [Rc.down ok hg hk]
    by_cases e : y ∈ st
    · rw [decide_eq_true e]
      refine ⟨fun z => (by cases z), fun z => ?_⟩
      rcases z with z | ⟨_, _, z⟩
      · exact absurd e z.free
      · exact absurd e z
    · rw [decide_eq_false e]
      exact ⟨fun _ => .inr ⟨rg, hy, e⟩, fun _ => rfl⟩
  refine ⟨by rw [List.length_set, List.length_set]; exact h.1, fun y hy => ?_⟩
  rw [List.length_set, List.length_set] at hy
  rw [getD_set (by rw [List.length_set]; omega)]
  by_cases e2 : y = k.2.2
  · rw [if_pos e2, e2]
    exact flip _ (.inr rfl)
  · rw [if_neg e2, getD_set (by omega)]
    by_cases e1 : y = k.2.1
    · rw [if_pos e1, e1]
      exact flip _ (.inl rfl)
    · rw [if_neg e1, h.2 y hy, Rc.down ok hg hk]
      refine ⟨.inl, fun z => ?_⟩
      rcases z with z | ⟨_, z, _⟩
      · exact z
      · rcases z with z | z
        · exact absurd z e1
        · exact absurd z e2
theorem mark_skip {n : Net} (ok : n.Ok) {st : List Nat} {w g : Nat} {k : Nat × Nat × Nat} {ms : List Bool} (hg : n.many ≤ g) (hk : n.gates[g - n.many]? = some k) (h : MarkOk n st w (g + 1) ms) (hm : ¬ ms.getD g false = true) :
    MarkOk n st w g ms := by
  have hgl : g < ms.length := by
    rw [h.1]
    have := (List.getElem?_eq_some_iff.mp hk).1
    omega
  refine ⟨h.1, fun y hy => ?_⟩
  rw [h.2 y hy, Rc.down ok hg hk]
  refine ⟨.inl, fun z => ?_⟩
  rcases z with z | ⟨z, _, _⟩
  · exact z
  · exact absurd ((h.2 g hgl).mpr z) hm
theorem mark_first {n : Net} (ok : n.Ok) {st : List Nat} {w : Nat} (hw : w < n.many + n.gates.length) : MarkOk n st w (w + 1) ((List.replicate (n.many + n.gates.length) false).set w (!decide (w ∈ st))) := by
  refine ⟨by rw [List.length_set, List.length_replicate], fun y hy => ?_⟩
  rw [getD_set (by rw [List.length_replicate]; exact hw), Rc.high ok]
  by_cases e : y = w
  · subst e
    rw [if_pos rfl]
    by_cases h : y ∈ st
    · rw [decide_eq_true h]
      exact ⟨fun z => (by cases z), fun z => absurd h z.2⟩
    · rw [decide_eq_false h]
      exact ⟨fun _ => ⟨rfl, h⟩, fun _ => rfl⟩
  · rw [if_neg e, List.getD_eq_getElem?_getD, List.getElem?_replicate]
    refine ⟨fun z => ?_, fun z => absurd z.1 e⟩
    split at z <;> cases z
/-- ways -/
structure Way (n : Net) (w : Nat) (xs : List Nat) : Prop where
  ne : 0 < xs.length
  lt : ∀ x ∈ xs, x < n.many + n.gates.length
  first : xs.getD 0 0 < n.many
  last : xs.getD (xs.length - 1) 0 = w
  steps : ∀ i, i + 1 < xs.length → n.many ≤ xs.getD (i + 1) 0 ∧ ∃ k, n.gates[xs.getD (i + 1) 0 - n.many]? = some k ∧ (xs.getD i 0 = k.2.1 ∨ xs.getD i 0 = k.2.2)
theorem walk_zipT {K : PySem.W.Frag} {a b : Addr} {xs ys : List V} {n : Nat} (hn : n = min xs.length ys.length) : Walk (RZ.ItzT K a b) n (fun H => SqT K H a xs ∧ SqT K H b ys) (YPair (fun i => xs[i]?) (fun i => ys[i]?)) := by
  subst hn
  refine ⟨fun i _ hi q => ?_, fun _ q => ⟨xs, ys, q.1, q.2, by omega⟩, fun i H v H' _ q y => ?_⟩
  · exact ⟨xs, ys, xs[i]'(by omega), ys[i]'(by omega), q.1, q.2, List.getElem?_eq_getElem _, List.getElem?_eq_getElem _⟩
  · obtain ⟨T, x, z, g1, g2, g3, g4, g5⟩ := y
    exact ⟨T, x, z, g1, g2, g3, g4 xs q.1, g5 ys q.2⟩
end GX
set_option Elab.async false
set_option linter.all false
set_option maxRecDepth 100000
set_option maxHeartbeats 4000000
/-! Lists of the wires reached; ways put together. -/
namespace GX
open PySem PySem.Spec PyProof.Rows L2
theorem nodup_len : ∀ {xs ys : List Nat}, xs.Nodup → (∀ x ∈ xs, x ∈ ys) → xs.length ≤ ys.length
  | [], _, _, _ => Nat.zero_le _
  | x :: xs, ys, h, s => by
    have h1 := List.nodup_cons.mp h
    have hx := s x List.mem_cons_self
    have ih := nodup_len (ys := ys.erase x) h1.2 fun z hz => (List.mem_erase_of_ne (fun e => h1.1 (by rw [← e]; exact hz))).mpr (s z (List.mem_cons_of_mem _ hz))
    rw [List.length_erase_of_mem hx] at ih
    have : 0 < ys.length := List.length_pos_of_mem hx
    rw [List.length_cons]
    omega
theorem nodup_lt {xs : List Nat} {m : Nat} (h : xs.Nodup) (s : ∀ x ∈ xs, x < m) : xs.length ≤ m := by
  have := nodup_len (ys := List.range m) h fun x hx => List.mem_range.mpr (s x hx)
  rwa [List.length_range] at this
theorem nodup_snoc {xs : List Nat} {x : Nat} (h : xs.Nodup) (n : x ∉ xs) : (xs ++ [x]).Nodup := by
  rw [List.nodup_append]
  refine ⟨h, by simp, fun a ha b hb => ?_⟩
  rw [List.mem_singleton.mp hb]
  exact fun e => n (by rw [← e]; exact ha)
theorem getD_pre {xs t : List Nat} {i : Nat} (h : i < xs.length) : (xs ++ t).getD i 0 = xs.getD i 0 := by
  rw [List.getD_eq_getElem?_getD, List.getD_eq_getElem?_getD, List.getElem?_append_left h]
theorem getD_mem {xs : List Nat} {i : Nat} (h : i < xs.length) : xs.getD i 0 ∈ xs := by
  rw [List.getD_eq_getElem?_getD, List.getElem?_eq_getElem h]
  exact List.getElem_mem h
theorem mem_getD {xs : List Nat} {x : Nat} (h : x ∈ xs) : ∃ i, i < xs.length ∧ xs.getD i 0 = x := by
  obtain ⟨i, hi, e⟩ := List.getElem_of_mem h
  exact ⟨i, hi, by rw [List.getD_eq_getElem?_getD, List.getElem?_eq_getElem hi]; exact e⟩
/-- found so far; the first k have been gone on from -/
structure LedOk (n : Net) (st : List Nat) (w : Nat) (xs : List Nat) (k : Nat) : Prop where
  nd : xs.Nodup
  rc : ∀ y ∈ xs, Rc n st w n.many y
  self : w ∉ st → w ∈ xs
  le : k ≤ xs.length
  done : ∀ j, j < k → n.many ≤ xs.getD j 0 → ∀ g, n.gates[xs.getD j 0 - n.many]? = some g → ∀ p, (p = g.2.1 ∨ p = g.2.2) → p ∉ st → p ∈ xs
theorem LedOk.all {n : Net} {st : List Nat} {w : Nat} {xs : List Nat} (h : LedOk n st w xs xs.length) (y : Nat) : y ∈ xs ↔ Rc n st w n.many y := by
  refine ⟨h.rc y, fun r => ?_⟩
  induction r with
  | here e => exact h.self e
  | step _ hg _ hk hp hs ih =>
    obtain ⟨i, hi, e⟩ := mem_getD ih
    exact h.done i hi (by rw [e]; exact hg) _ (by rw [e]; exact hk) _ hp hs
theorem LedOk.short {n : Net} (ok : n.Ok) {st : List Nat} {w : Nat} {xs : List Nat} {k : Nat} (hw : w < n.many + n.gates.length) (h : LedOk n st w xs k) : xs.length ≤ 24 := by
  have := nodup_lt (m := n.many + n.gates.length) h.nd fun x hx => by have := (h.rc x hx).le ok; omega
  have := ok.m8
  have := ok.g16
  omega
def isSt (n : Net) (x y : Nat) : Prop := n.many ≤ y ∧ ∃ k, n.gates[y - n.many]? = some k ∧ (x = k.2.1 ∨ x = k.2.2)
/-- from x (left out) up to w -/
structure Up (n : Net) (x w : Nat) (zs : List Nat) : Prop where
  lt : ∀ z ∈ zs, z < n.many + n.gates.length
  last : (x :: zs).getD zs.length 0 = w
  ch : ∀ i, i + 1 < (x :: zs).length → isSt n ((x :: zs).getD i 0) ((x :: zs).getD (i + 1) 0)
theorem Up.nil (n : Net) (w : Nat) : Up n w w [] := ⟨fun z hz => (by cases hz), rfl, fun i hi => (by simp at hi)⟩
theorem Up.cons {n : Net} {p x w : Nat} {zs : List Nat} (s : isSt n p x) (hx : x < n.many + n.gates.length) (u : Up n x w zs) : Up n p w (x :: zs) := by
  refine ⟨fun z hz => ?_, ?_, fun i hi => ?_⟩
  · rcases List.mem_cons.mp hz with rfl | hz
    · exact hx
    · exact u.lt z hz
  · exact u.last
  · cases i with
    | zero => exact s
    | succ i => exact u.ch i (by simpa using hi)
/-- from some wire down to w, upward -/
structure Down (n : Net) (w : Nat) (xs : List Nat) : Prop where
  ne : 0 < xs.length
  lt : ∀ x ∈ xs, x < n.many + n.gates.length
  last : xs.getD (xs.length - 1) 0 = w
  steps : ∀ i, i + 1 < xs.length → isSt n (xs.getD i 0) (xs.getD (i + 1) 0)
theorem Down.one {n : Net} {w : Nat} (h : w < n.many + n.gates.length) : Down n w [w] := ⟨Nat.zero_lt_one, fun x hx => (by rw [List.mem_singleton.mp hx]; exact h), rfl, fun i hi => (by simp at hi)⟩
theorem Down.cons {n : Net} {w p : Nat} {xs : List Nat} (d : Down n w xs) (hp : p < n.many + n.gates.length) (s : isSt n p (xs.getD 0 0)) : Down n w (p :: xs) := by
  have h0 := d.ne
  refine ⟨by rw [List.length_cons]; omega, fun x hx => ?_, ?_, fun i hi => ?_⟩
  · rcases List.mem_cons.mp hx with rfl | hx
    · exact hp
    · exact d.lt x hx
  · rw [List.length_cons, show xs.length + 1 - 1 = (xs.length - 1) + 1 by omega]
    exact d.last
  · cases i with
    | zero => exact s
    | succ i => exact d.steps i (by simpa using hi)
theorem Down.way {n : Net} {w : Nat} {xs : List Nat} (d : Down n w xs) (h : xs.getD 0 0 < n.many) : Way n w xs := ⟨d.ne, d.lt, h, d.last, d.steps⟩
theorem getD_post {xs t : List Nat} {i : Nat} (h : xs.length ≤ i) : (xs ++ t).getD i 0 = t.getD (i - xs.length) 0 := by
  rw [List.getD_eq_getElem?_getD, List.getD_eq_getElem?_getD, List.getElem?_append_right h]
theorem Way.join {n : Net} {x w : Nat} {ys zs : List Nat} (a : Way n x ys) (u : Up n x w zs) : Way n w (ys ++ zs) := by
  have h0 := a.ne
  refine ⟨by rw [List.length_append]; omega, fun z hz => ?_, ?_, ?_, fun i hi => ?_⟩
  · rcases List.mem_append.mp hz with hz | hz
    · exact a.lt z hz
    · exact u.lt z hz
  · rw [getD_pre h0]
    exact a.first
  · have ul := u.last
    rw [List.length_append]
    cases zs with
    | nil =>
      rw [List.append_nil, List.length_nil, Nat.add_zero]
      have : x = w := ul
      rw [← this]
      exact a.last
    | cons z r =>
      rw [getD_post (by rw [List.length_cons]; omega), List.length_cons]
      rw [show ys.length + (r.length + 1) - 1 - ys.length = r.length by omega]
      exact ul
  · rw [List.length_append] at hi
    by_cases h1 : i + 1 < ys.length
    · rw [getD_pre h1, getD_pre (by omega)]
      exact a.steps i h1
    · by_cases h2 : i + 1 = ys.length
      · have e : ys.getD i 0 = x := by
          rw [show i = ys.length - 1 by omega]
          exact a.last
        have e1 : (ys ++ zs).getD i 0 = x := by rw [getD_pre (by omega), e]
        have e2 : (ys ++ zs).getD (i + 1) 0 = zs.getD 0 0 := by rw [getD_post (by omega), h2, Nat.sub_self]
        rw [e1, e2]
        cases zs with
        | nil => simp at hi; omega
        | cons z r => exact u.ch 0 (by simp)
      · have e1 : (ys ++ zs).getD i 0 = zs.getD (i - ys.length) 0 := getD_post (by omega)
        have e2 : (ys ++ zs).getD (i + 1) 0 = zs.getD (i + 1 - ys.length) 0 := getD_post (by omega)
        rw [e1, e2]
        have := u.ch (i - ys.length + 1) (by rw [List.length_cons]; omega)
        rw [show i + 1 - ys.length = i - ys.length + 1 by omega]
        exact this
end GX
set_option Elab.async false
set_option linter.all false
set_option maxRecDepth 100000
set_option maxHeartbeats 4000000
/-! Bits of numbers, as the texts write them. -/
namespace GX
open PySem PySem.Spec PyProof.Rows L2
theorem pt_truthK {X : Cx} {K : PySem.W.Frag} {a : Expr} {ta : TE} (ha : PE X a ta) (he : ∀ whole, isTrue a X.env whole = (do let v ← whole; standAt a.pos; holding [v] (truthy v))) (h : X.K = K := by rfl) : PT X a (fun σ H Q => ta σ H fun x H' => ∃ k, TruV K x H' k ∧ Q k H') := by subst h; exact pt_truth ha he
theorem natAt {l : List Nat} {i : Nat} (h : i < l.length) : (l.map nV)[i]? = some (nV (l.getD i 0)) := by
  rw [List.getElem?_map, List.getD_eq_getElem?_getD, List.getElem?_eq_getElem h]
  rfl
theorem mapV (xs : List Nat) : (xs.map fun n : Nat => (n : Int)).map V.int = xs.map nV := by
  rw [List.map_map]
  rfl
theorem dpNat (K : PySem.W.Frag) (H : Hp) : ∀ xs : List Nat, DpAll K H (xs.map nV) ((xs.map fun n : Nat => (n : Int)).map PyData.int)
  | [] => .nil
  | x :: r => .cons (.int _) (dpNat K H r)
theorem getSnoc {xs : List Nat} {x i : Nat} (h : i < xs.length) : (xs ++ [x]).getD i 0 = xs.getD i 0 := getD_pre h
theorem getLastN {xs : List Nat} {x : Nat} : (xs ++ [x]).getD xs.length 0 = x := by
  rw [List.getD_eq_getElem?_getD, List.getElem?_append_right (Nat.le_refl _), Nat.sub_self]
  rfl
theorem eqNats {xs ys : List Nat} (hl : xs.length = ys.length) (h : ∀ i, i < xs.length → xs.getD i 0 = ys.getD i 0) : xs = ys := by
  apply List.ext_getElem hl
  intro i h1 h2
  have := h i h1
  rw [List.getD_eq_getElem?_getD, List.getD_eq_getElem?_getD, List.getElem?_eq_getElem h1, List.getElem?_eq_getElem h2] at this
  exact this
/-- number >> place & 1 -/
theorem bit_of (r p : Nat) : Builtin.bitAnd (((r : Nat) : Int) / 2 ^ ((p : Nat) : Int).toNat) 1 = ((r / 2 ^ p % 2 : Nat) : Int) := by
  rw [bitAnd_m1, Int.toNat_natCast]
  norm_cast
theorem shl_of (p : Nat) : (1 : Int) * 2 ^ ((p : Nat) : Int).toNat = ((2 ^ p : Nat) : Int) := by
  rw [Int.toNat_natCast, Int.one_mul]
  norm_cast
theorem shl_of' (x p : Nat) : ((x : Nat) : Int) * 2 ^ ((p : Nat) : Int).toNat = ((x * 2 ^ p : Nat) : Int) := by
  rw [Int.toNat_natCast]
  norm_cast
theorem xor_of (x y : Nat) : Builtin.bitXor ((x : Nat) : Int) ((y : Nat) : Int) = ((x ^^^ y : Nat) : Int) := by
  have e : Builtin.bitAnd ((x : Nat) : Int) ((y : Nat) : Int) = ((x &&& y : Nat) : Int) := bitAnd_pp (by omega) (by omega)
  rw [bitXor_and, e]
  have h : x + y = (x ^^^ y) + 2 * (x &&& y) := by
    exact (Bits.nat_xor_add_and x y).symm
  omega
theorem bits_pow (m : Nat) : Builtin.Int.intBits (((2 ^ m : Nat)) : Int) = m + 1 := by
  apply Nat.le_antisymm
  · rw [intBits_le_iff, Int.natAbs_natCast]
    exact Nat.pow_lt_pow_right (by decide) (by omega)
  · refine Nat.lt_of_not_le fun h => ?_
    rw [intBits_le_iff, Int.natAbs_natCast] at h
    exact Nat.lt_irrefl _ h
/-- a number by its bit p: below, itself, above -/
theorem xor_pow (r p : Nat) : r ^^^ 2 ^ p = if r / 2 ^ p % 2 = 0 then r + 2 ^ p else r - 2 ^ p := by
  have hp : 0 < 2 ^ p := Nat.pow_pos (by decide)
  have hr : r % 2 ^ p < 2 ^ p := Nat.mod_lt _ hp
  have er : 2 ^ p * (r / 2 ^ p) + r % 2 ^ p = r := Nat.div_add_mod r (2 ^ p)
  generalize ha : r / 2 ^ p = a at er ⊢
  generalize hb : r % 2 ^ p = b at er hr
  have e2 : (if a % 2 = 0 then r + 2 ^ p else r - 2 ^ p) = 2 ^ p * (if a % 2 = 0 then a + 1 else a - 1) + b := by
    split
    · rw [Nat.mul_add, Nat.mul_one]
      omega
    · rename_i h
      obtain ⟨c, rfl⟩ : ∃ c, a = c + 1 := ⟨a - 1, by omega⟩
      rw [Nat.add_sub_cancel]
      rw [Nat.mul_add, Nat.mul_one] at er
      omega
  rw [e2]
  apply Nat.eq_of_testBit_eq
  intro j
  rw [Nat.testBit_xor, Nat.testBit_two_pow, Nat.testBit_two_pow_mul_add _ hr]
  conv => lhs; rw [← er, Nat.testBit_two_pow_mul_add _ hr]
  by_cases hj : j < p
  · rw [if_pos hj, if_pos hj, decide_eq_false (by omega), Bool.xor_false]
  · rw [if_neg hj, if_neg hj]
    by_cases hj2 : p = j
    · subst hj2
      rw [decide_eq_true rfl, Nat.sub_self, Nat.testBit_zero, Nat.testBit_zero]
      by_cases h0 : a % 2 = 0
      · rw [if_pos h0, decide_eq_false (by omega), decide_eq_true (by omega)]
        rfl
      · rw [if_neg h0, decide_eq_true (by omega), decide_eq_false (by omega)]
        rfl
    · rw [decide_eq_false hj2, Bool.xor_false]
      obtain ⟨k, hk⟩ : ∃ k, j - p = k + 1 := ⟨j - p - 1, by omega⟩
      rw [hk, Nat.testBit_add_one, Nat.testBit_add_one]
      congr 1
      split <;> omega
/-- a number with its bit p out -/
def clr (b p : Nat) : Nat := b - b / 2 ^ p % 2 * 2 ^ p
theorem clr_bit (b p j : Nat) : (clr b p).testBit j = (b.testBit j && decide (j ≠ p)) := by
  unfold clr
  have e := xor_pow b p
  by_cases h : b / 2 ^ p % 2 = 0
  · rw [h, Nat.zero_mul, Nat.sub_zero]
    by_cases hj : j = p
    · subst hj
      rw [Nat.testBit_eq_decide_div_mod_eq, decide_eq_false (by omega), Bool.false_and]
    · rw [decide_eq_true hj, Bool.and_true]
  · rw [if_neg h] at e
    rw [show b / 2 ^ p % 2 = 1 by omega, Nat.one_mul, ← e, Nat.testBit_xor, Nat.testBit_two_pow]
    by_cases hj : j = p
    · subst hj
      rw [decide_eq_true rfl, Nat.testBit_eq_decide_div_mod_eq, decide_eq_true (by omega), decide_eq_false (fun z => z rfl)]
      rfl
    · rw [decide_eq_false (fun z => hj z.symm), decide_eq_true hj, Bool.xor_false, Bool.and_true]
def clrs (st : List Nat) (b : Nat) : Nat := st.foldl clr b
theorem clrs_bit (st : List Nat) : ∀ b j : Nat, (clrs st b).testBit j = (b.testBit j && decide (j ∉ st)) := by
  induction st with
  | nil =>
    intro b j
    rw [decide_eq_true (List.not_mem_nil), Bool.and_true]
    rfl
  | cons p r ih =>
    intro b j
    show (clrs r (clr b p)).testBit j = _
    rw [ih, clr_bit, Bool.and_assoc]
    congr 1
    by_cases h1 : j = p
    · subst h1
      rw [decide_eq_false (fun z => z rfl), decide_eq_false (p := j ∉ j :: r) (fun z => z List.mem_cons_self), Bool.false_and]
    · rw [decide_eq_true h1, Bool.true_and]
      by_cases h2 : j ∈ r
      · rw [decide_eq_false (p := j ∉ r) (fun z => z h2), decide_eq_false (p := j ∉ p :: r) (fun z => z (List.mem_cons_of_mem _ h2))]
      · rw [decide_eq_true h2, decide_eq_true (p := j ∉ p :: r) (fun z => by rcases List.mem_cons.mp z with z | z <;> contradiction)]
theorem clr_le (b p : Nat) : clr b p ≤ b := Nat.sub_le _ _
theorem clrs_le (st : List Nat) : ∀ b, clrs st b ≤ b := by
  induction st with
  | nil => exact fun b => Nat.le_refl _
  | cons p r ih => exact fun b => Nat.le_trans (ih (clr b p)) (clr_le b p)
theorem clrs_idem (st : List Nat) (b : Nat) : clrs st (clrs st b) = clrs st b := by
  apply Nat.eq_of_testBit_eq
  intro j
  rw [clrs_bit, clrs_bit, Bool.and_assoc, Bool.and_self]
theorem clrs_xor {st : List Nat} {p : Nat} (h : p ∈ st) (b : Nat) : clrs st (b ^^^ 2 ^ p) = clrs st b := by
  apply Nat.eq_of_testBit_eq
  intro j
  rw [clrs_bit, clrs_bit, Nat.testBit_xor, Nat.testBit_two_pow]
  by_cases e : p = j
  · subst e
    rw [decide_eq_false (p := p ∉ st) (fun z => z h), Bool.and_false, Bool.and_false]
  · rw [decide_eq_false e, Bool.xor_false]
/-! ### idle places -/
def idleAt (xs : List Nat) (p : Nat) : Bool := (List.range xs.length).all fun r => decide (xs.getD r 0 = xs.getD (r ^^^ 2 ^ p) 0)
theorem idleAt_iff {xs : List Nat} {p : Nat} : idleAt xs p = true ↔ ∀ r, r < xs.length → xs.getD r 0 = xs.getD (r ^^^ 2 ^ p) 0 := by
  unfold idleAt
  rw [List.all_eq_true]
  exact ⟨fun h r hr => of_decide_eq_true (h r (List.mem_range.mpr hr)), fun h r hr => decide_eq_true (h r (List.mem_range.mp hr))⟩
def idles (xs : List Nat) (m : Nat) : List Nat := (List.range m).filter fun p => idleAt xs p
/-- .. by the lower ones alone -/
theorem idleAt_low {xs : List Nat} {m p : Nat} (hl : xs.length = 2 ^ m) (hp : p < m) : idleAt xs p = true ↔ ∀ r, r < xs.length → r / 2 ^ p % 2 = 0 → xs.getD r 0 = xs.getD (r + 2 ^ p) 0 := by
  rw [idleAt_iff]
  refine ⟨fun h r hr h0 => ?_, fun h r hr => ?_⟩
  · have := h r hr
    rw [xor_pow, if_pos h0] at this
    exact this
  · by_cases h0 : r / 2 ^ p % 2 = 0
    · rw [xor_pow, if_pos h0]
      exact h r hr h0
    · have e := xor_pow r p
      rw [if_neg h0] at e
      have lt : r ^^^ 2 ^ p < xs.length := by
        rw [hl] at hr ⊢
        exact Nat.xor_lt_two_pow hr (Nat.pow_lt_pow_right (by decide) hp)
      have hb : (r ^^^ 2 ^ p) / 2 ^ p % 2 = 0 := by
        have t : (r ^^^ 2 ^ p).testBit p = false := by
          rw [Nat.testBit_xor, Nat.testBit_two_pow, decide_eq_true rfl, Nat.testBit_eq_decide_div_mod_eq, decide_eq_true (by omega)]
          rfl
        rw [Nat.testBit_eq_decide_div_mod_eq] at t
        have := of_decide_eq_false t
        omega
      have q := h _ lt hb
      have back : (r ^^^ 2 ^ p) + 2 ^ p = r := by
        have h1 := xor_pow (r ^^^ 2 ^ p) p
        rw [if_pos hb, Nat.xor_assoc, Nat.xor_self, Nat.xor_zero] at h1
        exact h1.symm
      rw [back] at q
      exact q.symm
theorem add_pow_lt {r m p : Nat} (hr : r < 2 ^ m) (hp : p < m) (h0 : r / 2 ^ p % 2 = 0) : r + 2 ^ p < 2 ^ m := by
  have e := xor_pow r p
  rw [if_pos h0] at e
  rw [← e]
  exact Nat.xor_lt_two_pow hr (Nat.pow_lt_pow_right (by decide) hp)
theorem pow8 {m : Nat} (h : m ≤ 8) : 2 ^ m ≤ 256 := Nat.pow_le_pow_right (by decide) h
theorem small256 {n : Nat} (h : n ≤ 10000) : n < sizeLine := Nat.lt_of_le_of_lt h (by decide)
end GX
set_option Elab.async false
set_option linter.all false
set_option maxRecDepth 100000
set_option maxHeartbeats 4000000
/-! Tuples at a list of addresses. -/
namespace GX
open PySem PySem.Spec PyProof.Rows L2
def RefsAt {α : Type} (f : α → List V) (H : Hp) (ps : List Addr) (xs : List α) : Prop := ps.length = xs.length ∧ ∀ (i : Nat) (p : Addr) (x : α), ps[i]? = some p → xs[i]? = some x → H p = some (.tup (f x))
theorem atLast {xs : List V} {v : V} (h : xs[xs.length - 1]? = some v) : atI xs (-1) = some v := by
  have hl := (List.getElem?_eq_some_iff.mp h).1
  unfold atI
  have e : ixN xs.length (-1) = some (xs.length - 1) := by
    unfold ixN
    rw [if_neg (by decide)]
    first
      | rw [if_pos (by omega)]; congr 1; omega
      | simp; omega
  rw [e]
  exact h
section
variable {α : Type} {f : α → List V} {H H' : Hp} {ps : List Addr} {xs : List α}
theorem RefsAt.nil (f : α → List V) (H : Hp) : RefsAt f H [] [] := ⟨rfl, fun i p g e _ => by simp at e⟩
theorem RefsAt.mono (x : RefsAt f H ps xs) (k : ∀ b zs, H b = some (.tup zs) → H' b = some (.tup zs)) : RefsAt f H' ps xs := ⟨x.1, fun i p g e1 e2 => k _ _ (x.2 i p g e1 e2)⟩
theorem RefsAt.push {q : Addr} {y : α} (x : RefsAt f H ps xs) (h : H q = some (.tup (f y))) : RefsAt f H (ps ++ [q]) (xs ++ [y]) := by
  refine ⟨by rw [List.length_append, List.length_append, x.1]; rfl, fun i r g e1 e2 => ?_⟩
  by_cases hi : i < ps.length
  · rw [List.getElem?_append_left hi] at e1
    rw [List.getElem?_append_left (by rw [← x.1]; exact hi)] at e2
    exact x.2 i r g e1 e2
  · rw [List.getElem?_append_right (by omega)] at e1
    rw [List.getElem?_append_right (by rw [← x.1]; omega)] at e2
    have hz : i - ps.length = 0 := by
      obtain ⟨h1, _⟩ := List.getElem?_eq_some_iff.mp e1
      simp at h1
      omega
    rw [hz] at e1
    rw [← x.1, hz] at e2
    cases e1
    cases e2
    exact h
theorem RefsAt.at_ (x : RefsAt f H ps xs) {i : Nat} {v : V} (e : (ps.map V.ref)[i]? = some v) : ∃ q y, v = .ref q ∧ xs[i]? = some y ∧ H q = some (.tup (f y)) := by
  rw [List.getElem?_map] at e
  cases h : ps[i]? with
  | none => rw [h] at e; cases e
  | some q =>
    rw [h] at e
    cases e
    have h2 : i < xs.length := by rw [← x.1]; exact (List.getElem?_eq_some_iff.mp h).1
    exact ⟨q, xs[i], rfl, List.getElem?_eq_getElem h2, x.2 i q _ h (List.getElem?_eq_getElem h2)⟩
theorem RefsAt.get (x : RefsAt f H ps xs) {i : Nat} {y : α} (e : xs[i]? = some y) : ∃ q, (ps.map V.ref)[i]? = some (.ref q) ∧ H q = some (.tup (f y)) := by
  have h2 : i < ps.length := by rw [x.1]; exact (List.getElem?_eq_some_iff.mp e).1
  exact ⟨ps[i], by rw [List.getElem?_map, List.getElem?_eq_getElem h2]; rfl, x.2 i _ y (List.getElem?_eq_getElem h2) e⟩
end
end GX
namespace GX
open PySem PySem.Spec PyProof.Rows L2
/-- things of any make at a list of addresses -/
def PtsAt {α : Type} (R : Hp → Addr → α → Prop) (H : Hp) (ps : List Addr) (xs : List α) : Prop := ps.length = xs.length ∧ ∀ (i : Nat) (p : Addr) (x : α), ps[i]? = some p → xs[i]? = some x → R H p x
section
variable {α : Type} {R : Hp → Addr → α → Prop} {H H' : Hp} {ps : List Addr} {xs : List α}
theorem PtsAt.nil (R : Hp → Addr → α → Prop) (H : Hp) : PtsAt R H [] [] := ⟨rfl, fun i p g e _ => by simp at e⟩
theorem PtsAt.mono (x : PtsAt R H ps xs) (k : ∀ p y, R H p y → R H' p y) : PtsAt R H' ps xs := ⟨x.1, fun i p g e1 e2 => k _ _ (x.2 i p g e1 e2)⟩
theorem PtsAt.cons {q : Addr} {y : α} (x : PtsAt R H ps xs) (h : R H q y) : PtsAt R H (q :: ps) (y :: xs) := by
  refine ⟨by rw [List.length_cons, List.length_cons, x.1], fun i r g e1 e2 => ?_⟩
  cases i with
  | zero =>
    cases e1
    cases e2
    exact h
  | succ i => exact x.2 i r g e1 e2
theorem PtsAt.push {q : Addr} {y : α} (x : PtsAt R H ps xs) (h : R H q y) : PtsAt R H (ps ++ [q]) (xs ++ [y]) := by
  refine ⟨by rw [List.length_append, List.length_append, x.1]; rfl, fun i r g e1 e2 => ?_⟩
  by_cases hi : i < ps.length
  · rw [List.getElem?_append_left hi] at e1
    rw [List.getElem?_append_left (by rw [← x.1]; exact hi)] at e2
    exact x.2 i r g e1 e2
  · rw [List.getElem?_append_right (by omega)] at e1
    rw [List.getElem?_append_right (by rw [← x.1]; omega)] at e2
    have hz : i - ps.length = 0 := by
      obtain ⟨h1, _⟩ := List.getElem?_eq_some_iff.mp e1
      simp at h1
      omega
    rw [hz] at e1
    rw [← x.1, hz] at e2
    cases e1
    cases e2
    exact h
theorem PtsAt.at_ (x : PtsAt R H ps xs) {i : Nat} {v : V} (e : (ps.map V.ref)[i]? = some v) : ∃ q y, v = .ref q ∧ xs[i]? = some y ∧ R H q y := by
  rw [List.getElem?_map] at e
  cases h : ps[i]? with
  | none => rw [h] at e; cases e
  | some q =>
    rw [h] at e
    cases e
    have h2 : i < xs.length := by rw [← x.1]; exact (List.getElem?_eq_some_iff.mp h).1
    exact ⟨q, xs[i], rfl, List.getElem?_eq_getElem h2, x.2 i q _ h (List.getElem?_eq_getElem h2)⟩
theorem PtsAt.get (x : PtsAt R H ps xs) {i : Nat} {y : α} (e : xs[i]? = some y) : ∃ q, (ps.map V.ref)[i]? = some (.ref q) ∧ R H q y := by
  have h2 : i < ps.length := by rw [x.1]; exact (List.getElem?_eq_some_iff.mp e).1
  exact ⟨ps[i], by rw [List.getElem?_map, List.getElem?_eq_getElem h2]; rfl, x.2 i _ y (List.getElem?_eq_getElem h2) e⟩
end
end GX
set_option Elab.async false
set_option linter.all false
set_option maxRecDepth 100000
set_option maxHeartbeats 4000000
/-! Layouts as data, and how they stand in the heap. -/
namespace GX
open PySem PySem.Spec PyProof.Rows L2
structure Lay where
  many : Nat
  tabs : List (List Nat × List Nat)
  outs : List Nat
structure tabOk (w : Nat) (t : List Nat × List Nat) : Prop where
  p1 : 1 ≤ t.1.length
  p4 : t.1.length ≤ 4
  lt : ∀ x ∈ t.1, x < w
  rise : t.1.Pairwise (· < ·)
  len : t.2.length = 2 ^ t.1.length
  bit : ∀ x ∈ t.2, x < 2
structure Lay.Ok (l : Lay) : Prop where
  m1 : 1 ≤ l.many
  m8 : l.many ≤ 8
  t16 : l.tabs.length ≤ 16
  ts : ∀ (i : Nat) (t : List Nat × List Nat), l.tabs[i]? = some t → tabOk (l.many + i) t
  o1 : 1 ≤ l.outs.length
  o8 : l.outs.length ≤ 8
  os : ∀ o ∈ l.outs, o < l.many + l.tabs.length
/-- a table in the heap -/
def TabAt (H : Hp) (p : Addr) (t : List Nat × List Nat) : Prop := ∃ a b, H p = some (.tup [.ref a, .ref b]) ∧ H a = some (.tup (t.1.map nV)) ∧ H b = some (.tup (t.2.map nV))
theorem TabAt.mono {H H' : Hp} {p : Addr} {t : List Nat × List Nat} (x : TabAt H p t) (k : ∀ b xs, H b = some (.tup xs) → H' b = some (.tup xs)) : TabAt H' p t := by
  obtain ⟨a, b, h1, h2, h3⟩ := x
  exact ⟨a, b, k _ _ h1, k _ _ h2, k _ _ h3⟩
def TabsAt (H : Hp) (ps : List Addr) (ts : List (List Nat × List Nat)) : Prop := ps.length = ts.length ∧ ∀ (i : Nat) (p : Addr) (t : List Nat × List Nat), ps[i]? = some p → ts[i]? = some t → TabAt H p t
theorem TabsAt.nil (H : Hp) : TabsAt H [] [] := ⟨rfl, fun i p g e _ => by simp at e⟩
theorem TabsAt.mono {H H' : Hp} {ps : List Addr} {ts : List (List Nat × List Nat)} (x : TabsAt H ps ts) (k : ∀ b xs, H b = some (.tup xs) → H' b = some (.tup xs)) : TabsAt H' ps ts := ⟨x.1, fun i p g e1 e2 => (x.2 i p g e1 e2).mono k⟩
theorem TabsAt.push {H : Hp} {ps : List Addr} {ts : List (List Nat × List Nat)} {q : Addr} {y : List Nat × List Nat} (x : TabsAt H ps ts) (h : TabAt H q y) : TabsAt H (ps ++ [q]) (ts ++ [y]) := by
  refine ⟨by rw [List.length_append, List.length_append, x.1]; rfl, fun i r g e1 e2 => ?_⟩
  by_cases hi : i < ps.length
  · rw [List.getElem?_append_left hi] at e1
    rw [List.getElem?_append_left (by rw [← x.1]; exact hi)] at e2
    exact x.2 i r g e1 e2
  · rw [List.getElem?_append_right (by omega)] at e1
    rw [List.getElem?_append_right (by rw [← x.1]; omega)] at e2
    have hz : i - ps.length = 0 := by
      obtain ⟨h1, _⟩ := List.getElem?_eq_some_iff.mp e1
      simp at h1
      omega
    rw [hz] at e1
    rw [← x.1, hz] at e2
    cases e1
    cases e2
    exact h
theorem TabsAt.at_ {H : Hp} {ps : List Addr} {ts : List (List Nat × List Nat)} (x : TabsAt H ps ts) {i : Nat} {v : V} (e : (ps.map V.ref)[i]? = some v) : ∃ q y, v = .ref q ∧ ts[i]? = some y ∧ TabAt H q y := by
  rw [List.getElem?_map] at e
  cases h : ps[i]? with
  | none => rw [h] at e; cases e
  | some q =>
    rw [h] at e
    cases e
    have h2 : i < ts.length := by rw [← x.1]; exact (List.getElem?_eq_some_iff.mp h).1
    exact ⟨q, ts[i], rfl, List.getElem?_eq_getElem h2, x.2 i q _ h (List.getElem?_eq_getElem h2)⟩
structure LayAt (H : Hp) (a : Addr) (l : Lay) (g o : Addr) (ps : List Addr) : Prop where
  top : H a = some (.tup [nV l.many, .ref g, .ref o])
  gt : H g = some (.tup (ps.map V.ref))
  ts : TabsAt H ps l.tabs
  ot : H o = some (.tup (l.outs.map nV))
theorem LayAt.mono {H H' : Hp} {a g o : Addr} {l : Lay} {ps : List Addr} (x : LayAt H a l g o ps) (k : ∀ b xs, H b = some (.tup xs) → H' b = some (.tup xs)) : LayAt H' a l g o ps := ⟨k _ _ x.top, k _ _ x.gt, x.ts.mono k, k _ _ x.ot⟩
/-- the number that the worths of some wires make -/
def idxOf (told : List Nat) : List Nat → Nat
  | [] => 0
  | w :: r => told.getD w 0 + 2 * idxOf told r
theorem idxOf_lt {told : List Nat} (h : ∀ x ∈ told, x < 2) : ∀ ws : List Nat, idxOf told ws < 2 ^ ws.length
  | [] => Nat.one_pos
  | w :: r => by
    have ih := idxOf_lt h r
    have hw : told.getD w 0 < 2 := by
      by_cases e : w < told.length
      · exact h _ (getD_mem e)
      · rw [List.getD_eq_getElem?_getD, List.getElem?_eq_none (by omega)]
        exact Nat.two_pos
    show told.getD w 0 + 2 * idxOf told r < 2 ^ (r.length + 1)
    rw [Nat.pow_succ]
    omega
theorem idxOf_snoc (told : List Nat) (w : Nat) : ∀ ws : List Nat, idxOf told (ws ++ [w]) = idxOf told ws + told.getD w 0 * 2 ^ ws.length
  | [] => by show told.getD w 0 + 2 * 0 = 0 + told.getD w 0 * 1; omega
  | v :: r => by
    show told.getD v 0 + 2 * idxOf told (r ++ [w]) = told.getD v 0 + 2 * idxOf told r + told.getD w 0 * 2 ^ (r.length + 1)
    rw [idxOf_snoc told w r, Nat.pow_succ, Nat.mul_add, ← Nat.mul_assoc (told.getD w 0), Nat.mul_comm _ 2, Nat.add_assoc]
/-- the worths of all wires, table by table -/
def tellL (told : List Nat) (t : List Nat × List Nat) : List Nat := told ++ [t.2.getD (idxOf told t.1) 0]
def toldL (row : List Nat) (ts : List (List Nat × List Nat)) : List Nat := ts.foldl tellL row
theorem tellL_len (told : List Nat) (t : List Nat × List Nat) : (tellL told t).length = told.length + 1 := by unfold tellL; rw [List.length_append]; rfl
theorem toldL_take {row : List Nat} {ts : List (List Nat × List Nat)} {i : Nat} {t : List Nat × List Nat} (h : ts[i]? = some t) : toldL row (ts.take (i + 1)) = tellL (toldL row (ts.take i)) t := by
  unfold toldL
  rw [List.take_add_one, h, Option.toList_some, List.foldl_append]
  rfl
theorem toldL_len (row : List Nat) : ∀ (ts : List (List Nat × List Nat)) , (toldL row ts).length = row.length + ts.length := by
  intro ts
  induction ts generalizing row with
  | nil => rfl
  | cons t r ih =>
    show (toldL (tellL row t) r).length = _
    rw [ih, tellL_len, List.length_cons]
    omega
theorem tellL_bit {told : List Nat} {t : List Nat × List Nat} (h : ∀ x ∈ told, x < 2) (ht : ∀ x ∈ t.2, x < 2) (hl : t.2.length = 2 ^ t.1.length) : ∀ x ∈ tellL told t, x < 2 := fun x hx => by
  rcases List.mem_append.mp hx with hx | hx
  · exact h x hx
  · rw [List.mem_singleton.mp hx]
    exact ht _ (getD_mem (by rw [hl]; exact idxOf_lt h _))
theorem toldL_bit {l : Lay} (ok : l.Ok) {row : List Nat} (h : ∀ x ∈ row, x < 2) : ∀ i, i ≤ l.tabs.length → ∀ x ∈ toldL row (l.tabs.take i), x < 2
  | 0, _ => h
  | i + 1, hi => by
    have e : l.tabs[i]? = some l.tabs[i] := List.getElem?_eq_getElem (by omega)
    rw [toldL_take e]
    have t := ok.ts _ _ e
    exact tellL_bit (toldL_bit ok h i (by omega)) t.bit t.len
def outsL (row : List Nat) (l : Lay) : List Nat := l.outs.map fun o => (toldL row l.tabs).getD o 0
end GX
set_option Elab.async false
set_option linter.all false
set_option maxRecDepth 100000
set_option maxHeartbeats 4000000
/-! Wires that tell a gate: going back from a cut. -/
namespace GX
open PySem PySem.Spec PyProof.Rows L2
theorem Rc.sub {n : Net} {st st' : List Nat} {w j y : Nat} (h : Rc n st' w j y) (s : ∀ z ∈ st, z ∈ st') : Rc n st w j y := by
  induction h with
  | here e => exact .here fun z => e (s _ z)
  | step _ hg hj hk hp hs ih => exact .step ih hg hj hk hp fun z => hs (s _ z)
/-- no input leads past them -/
def Sep (n : Net) (w : Nat) (st : List Nat) : Prop := ∀ y, Rc n st w n.many y → n.many ≤ y
theorem Sep.more {n : Net} {w : Nat} {st st' : List Nat} (h : Sep n w st) (s : ∀ z ∈ st, z ∈ st') : Sep n w st' := fun y r => h y (r.sub s)
theorem sep_first {n : Net} {w : Nat} {st : List Nat} {k : Nat × Nat × Nat} (hw : n.many ≤ w) (hk : n.gates[w - n.many]? = some k) (h : ∀ z, (z = k.2.1 ∨ z = k.2.2) → z ∈ st) : Sep n w st := by
  have all : ∀ y, Rc n st w n.many y → y = w := fun y r => by
    induction r with
    | here _ => rfl
    | step _ _ _ hk' hp hs ih =>
      subst ih
      rw [hk] at hk'
      cases hk'
      exact absurd (h _ hp) hs
  exact fun y r => by rw [all y r]; exact hw
theorem sep_step {n : Net} {w h : Nat} {st st' : List Nat} {k : Nat × Nat × Nat} (sep : Sep n w st) (hws : w ∉ st) (hh : n.many ≤ h) (hk : n.gates[h - n.many]? = some k) (keep : ∀ z ∈ st, z ≠ h → z ∈ st') (pl : ∀ z, (z = k.2.1 ∨ z = k.2.2) → z ∈ st') : Sep n w st' := by
  have all : ∀ y, Rc n st' w n.many y → Rc n st w n.many y ∨ y = h := fun y r => by
    induction r with
    | here _ => exact .inl (.here hws)
    | @step g p k' _ hg hj hk' hp hs ih =>
      rcases ih with ih | ih
      · by_cases e : p ∈ st
        · refine .inr (Classical.not_not.mp fun z => hs (keep p e z))
        · exact .inl (.step ih hg hj hk' hp e)
      · subst ih
        rw [hk] at hk'
        cases hk'
        exact absurd (pl _ hp) hs
  intro y r
  rcases all y r with a | a
  · exact sep y a
  · rw [a]
    exact hh
structure CutOk (n : Net) (gt : Nat) (ys : List Nat) : Prop where
  ne : 0 < ys.length
  lt : ∀ y ∈ ys, y < gt
  sep : Sep n gt ys
  rise : ys.Pairwise (· < ·)
theorem CutOk.short {n : Net} (ok : n.Ok) {gt : Nat} {ys : List Nat} (hg : gt < n.many + n.gates.length) (c : CutOk n gt ys) : ys.length ≤ 24 := by
  have := nodup_lt (m := n.many + n.gates.length) (c.rise.imp fun h => Nat.ne_of_lt h) fun y hy => by have := c.lt y hy; omega
  have := ok.m8
  have := ok.g16
  omega
theorem pos_of_mem {ys : List Nat} {y : Nat} (h : y ∈ ys) : 0 < ys.length := List.length_pos_of_mem h
end GX
set_option Elab.async false
set_option linter.all false
set_option maxRecDepth 100000
set_option maxHeartbeats 4000000
namespace GX
open PySem PySem.Spec PyProof.Rows L2
/-- the well, the tables stand; all else is kept -/
structure Dk (W : Addr) (Ts : List Addr) (H H' : Hp) : Prop where
  wl : Wl H' W
  tb : Tabs Ts H'
  kp : Keep (W :: Ts) H H'
theorem Dk.aft {W : Addr} {Ts : List Addr} {H H1 H2 : Hp} (d : Dk W Ts H H1) (a : Aft Ts H1 H2) : Dk W Ts H H2 := ⟨d.wl.keep a.kp (d.wl.tab d.tb), a.tb, d.kp.trans (a.kp.mono fun b hb => List.mem_cons_of_mem _ hb)⟩
theorem Dk.same {W : Addr} {Ts : List Addr} {H H1 H2 : Hp} (d : Dk W Ts H H1) (s : Same H1 H2) : Dk W Ts H H2 := d.aft (Aft.ofSame d.tb s)
theorem Wk.tabs {W : Addr} {Ts : List Addr} {H H1 : Hp} (wl : Wl H W) (tb : Tabs Ts H) (s : Wk W H H1) : Tabs Ts H1 := tb.keep s.kp fun b hb => by rw [List.mem_singleton.mp hb]; exact wl.tab tb
theorem Dk.draw {W : Addr} {Ts : List Addr} {H H1 H2 : Hp} (d : Dk W Ts H H1) (s : Wk W H1 H2) : Dk W Ts H H2 := ⟨s.wl, s.tabs d.wl d.tb, d.kp.trans (s.kp.mono fun b hb => by rw [List.mem_singleton.mp hb]; exact List.mem_cons_self)⟩
/-- a list of our own, made behind H, is changed -/
theorem Dk.put {W : Addr} {Ts : List Addr} {H H1 : Hp} {l : Addr} {o : HO} {xs : List V} (d : Dk W Ts H H1) (nl : H l = none) (hl : H1 l = some (.lst xs)) (nW : l ≠ W) : Dk W Ts H (upd H1 l o) :=
  ⟨by obtain ⟨x, y, z, e⟩ := d.wl; exact ⟨x, y, z, by rw [upd_ne (fun z => nW z.symm)]; exact e⟩, d.tb.upd (d.tb.lst hl), fun b u e n => by rw [upd_ne (ne_of_none e nl)]; exact d.kp b u e n⟩
theorem Dk.was {W : Addr} {Ts : List Addr} {H H1 : Hp} {l : Addr} (d : Dk W Ts H H1) (n : H1 l = none) : H l = none ∧ l ≠ W := by
  have hW : l ≠ W := fun z => by
    obtain ⟨_, _, _, e⟩ := d.wl
    rw [← z, n] at e
    cases e
  refine ⟨?_, hW⟩
  cases e : H l with
  | none => rfl
  | some u =>
    have := d.kp _ _ e fun z => by
      rcases List.mem_cons.mp z with z | z
      · exact hW z
      · exact d.tb.none n z
    rw [n] at this
    cases this
theorem Wk.put' {W : Addr} {H H' : Hp} {l : Addr} {o : HO} (s : Wk W H H') (nl : H l = none) (nW : l ≠ W) : Wk W H (upd H' l o) := by
  obtain ⟨⟨a, b, c, e⟩, k⟩ := s
  exact ⟨⟨a, b, c, by rw [upd_ne (Ne.symm nW)]; exact e⟩, fun b u e hb => by rw [upd_ne (ne_of_none e nl)]; exact k b u e hb⟩
theorem Wk.was' {W : Addr} {H H' : Hp} {l : Addr} (s : Wk W H H') (n : H' l = none) : H l = none ∧ l ≠ W := by
  obtain ⟨⟨a, b, c, e⟩, k⟩ := s
  have hW : l ≠ W := fun z => by
    rw [← z, n] at e
    cases e
  refine ⟨?_, hW⟩
  cases e : H l with
  | none => rfl
  | some u =>
    have := k _ _ e fun z => hW (List.mem_singleton.mp z)
    rw [n] at this
    cases this
theorem Wk.ats {W : Addr} {H H' : Hp} {l : Addr} {o : HO} (k : Keep [W] H H') (nW : l ≠ W) (e : H l = some o) : H' l = some o := k _ _ e fun z => nW (List.mem_singleton.mp z)
def natOf (σ : L2.St) (i : Nat) : Nat := match σ[i]? with
  | some (some (V.int z)) => z.toNat
  | _ => 0
def lenOf (σ : L2.St) (H : Hp) (i : Nat) : Nat := match σ[i]? with
  | some (some (V.ref l)) => match H l with
    | some (HO.lst xs) => xs.length
    | _ => 0
  | _ => 0
end GX
set_option Elab.async false
set_option linter.all false
set_option maxRecDepth 100000
set_option maxHeartbeats 4000000
/-! list(reversed(xs)), xs a list. -/
namespace GX
open PySem PySem.Spec PyProof.Rows L2 RT
section
variable {P : Program} {w : World} {A : Around} {E : Value → Shared → Prop} {s : Shared}
/-- what is taken off a list from behind -/
abbrev BackOf (its : Array Value) (i : Nat) (v : Value) : Prop := its[its.size - 1 - i]? = some v
theorem ext_rev {R : Result → Shared → Prop} {it l S : Addr} {its : Array Value} {res : Value} {c0 : Nat} (hh : A.handled = none) (r : s.heap.IsRevIter it l ((its.size : Int) - 1)) (hl : s.heap.IsList l its) (ne : l ≠ it) (hz : its.size ≤ sizeLine)
    (nI : S ≠ it) (nl : S ≠ l) (hS : s.heap.get? S = some { cls := .type "list", data := .seq #[] c0 })
    (q : ∀ g tk acc c, (∀ b o, b ≠ S → b ≠ it → s.heap.get? b = some o → g.get? b = some o) → g.get? S = some { cls := .type "list", dict := none, data := .seq acc c, slots := #[] } → ItemsOf (BackOf its) acc its.size → R (.ok (.ret res)) { s with heap := g, toks := tk }) :
    wpAny (model P w) A.in1 (Builtin.List.listExtendWith (.ref S) (.ref it) res)
      (fun fin t => match fin with | .done f => R (.ok f) t | .again c' => c'.quiet = true ∧ codeAny (model P w) A c' R t) (fun e t => R (.error e) t) s := by
  have wk := (Walks.listRev (prog := P) (w := w) (A := A.in1) hh it l ne its).toS
  have ty : s.TypeIs (.ref it) "list_reverseiterator" := r.typeIs
  have nf : S ∉ [it, l] := fun z => by
    rcases List.mem_cons.mp z with z | z
    · exact nI z
    · exact nl (List.mem_singleton.mp z)
  have ns : Builtin.List.listSameRef (.ref S) (.ref it) = false := by simp [Builtin.List.listSameRef, nI]
  unfold Builtin.List.listExtendWith
  refine wpAny_bind (wpAny_typeOf ty ?_)
  rw [if_neg (by rw [ns]; decide)]
  refine wpAny_bind (wpAny_pyIter_revIter r ?_)
  refine wpAny_bind (wpAny_holding ?_)
  unfold Builtin.List.listLengthHint
  refine wpAny_bind (wpAny_specialOf ty nolen_lri ?_)
  show wpAny _ A.in1 (specialOf (Value.ref it) (Str.ofString "__length_hint__") >>= _) _ _ s
  refine wpAny_bind (wpAny_specialOf ty hint_lri ?_)
  generalize hj : ("list_reverseiterator.__length_hint__" : String) = j
  wp_delta
  rw [show splitId j = some ("list_reverseiterator", "__length_hint__") from by subst hj; decide +kernel]
  subst hj
  refine wpAny_bind (wpAny_isInstance (b := true) ty (by rw [isSubtype_type]; kernel_rfl) ?_)
  refine wpAny_pure ?_
  rw [if_neg (by decide)]
  have z0 : ((its.size : Nat) : Int) - 1 - ((0 : Nat) : Int) = (its.size : Int) - 1 := by omega
  refine wpAny_pure ⟨plainId_quiet F.plain_extend_loop _, codeAny_extend_loopS wk hz S nf res its.size 0 s #[] c0 rfl (Nat.zero_le _) ⟨Nat.zero_le _, by rw [z0]; exact r, hl⟩ hS (ItemsOf.nil _) fun t acc c mv hS' hi => ?_⟩
  rw [Moved.eq_with mv]
  refine q t.heap t.toks acc c (fun b o h1 h2 e => mv.heap b o (fun z => ?_) e) hS' hi
  rcases List.mem_cons.mp z with z | z
  · exact h1 z
  · exact h2 (List.mem_singleton.mp z)
theorem call_list_rev {it l : Addr} {its : Array Value} {Q : Value → Shared → Prop} (hh : A.handled = none) (r : s.heap.IsRevIter it l ((its.size : Int) - 1)) (hl : s.heap.IsList l its) (ne : l ≠ it) (hz : its.size ≤ sizeLine)
    (q : ∀ g tk acc c, (∀ b o, b ≠ it → s.heap.get? b = some o → g.get? b = some o) → g.get? s.heap.objs.size = some { cls := .type "list", dict := none, data := .seq acc c, slots := #[] } → ItemsOf (BackOf its) acc its.size → Q (.ref s.heap.objs.size) { s with heap := g, toks := tk }) :
    wpAny (model P w) A (call (.type "list") [.ref it]) Q E s := by
  have n1 : s.heap.objs.size ≠ it := by obtain ⟨o, h, _⟩ := id r; exact Nat.ne_of_gt (Heap.lt_size h)
  have n2 : s.heap.objs.size ≠ l := by obtain ⟨o, h, _⟩ := id hl; exact Nat.ne_of_gt (Heap.lt_size h)
  refine callType_codes (Q₁ := fun v t => v = .ref s.heap.objs.size ∧ t = { s with heap := s.heap.push { cls := .type "list", data := .seq #[] } }) F.called_list (F.typeCall_list_1 _) F.entry_list_init
    (code_list_new _ ⟨rfl, rfl⟩) fun v t ht => ?_
  obtain ⟨rfl, rfl⟩ := ht
  have e0 : (s.heap.push { cls := .type "list", data := .seq #[] }).get? s.heap.objs.size = some { cls := .type "list", data := .seq #[] } := Heap.get?_push_size _ rfl
  refine ⟨⟨_, e0, rfl⟩, F.args_list_init_2 _ _, ?_⟩
  show wpAny _ A.in1.in1 (do let x ← Builtin.List.listItems (.ref s.heap.objs.size); Builtin.List.listUpdate (.ref s.heap.objs.size) (fun _ => #[]); letGo x.toList.reverse; Builtin.List.listExtendWith (.ref s.heap.objs.size) (.ref it) .none) _ _ _
  refine wpAny_bind ?_
  unfold Builtin.List.listItems
  refine wpAny_bind (wpAny_seqItems e0 rfl (wpAny_pure ?_))
  show wpAny _ A.in1.in1 (updateSeq s.heap.objs.size (fun _ => #[]) >>= fun _ => letGo (#[] : Array Value).toList.reverse >>= fun _ => Builtin.List.listExtendWith (.ref s.heap.objs.size) (.ref it) .none) _ _ _
  refine wpAny_bind (wpAny_updateSeq e0 rfl ?_)
  have e1 := Heap.get?_update_self (Obj.mapSeq (fun _ => (#[] : Array Value))) e0 rfl
  have up : ∀ b o, b ≠ s.heap.objs.size → s.heap.get? b = some o → ((s.heap.push { cls := .type "list", data := .seq #[] }).update s.heap.objs.size (Obj.mapSeq (fun _ => (#[] : Array Value)))).get? b = some o := fun b o hb e =>
    (Heap.get?_update_other _ _ (Ne.symm hb)).trans (Heap.get?_push_of_some _ e)
  refine wpAny_bind (wpAny_letGo ?_)
  refine ext_rev (A := A.in1) hh ?_ ?_ ne hz n1 n2 e1 fun g tk acc c kp hS hi => ⟨rfl, q g tk acc c (fun b o hb e => ?_) hS hi⟩
  · exact r.at fun o e => up _ o (Ne.symm n1) e
  · obtain ⟨o, h, k⟩ := id hl
    exact ⟨o, up _ o (Ne.symm n2) h, k⟩
  · have hb' : b ≠ s.heap.objs.size := Nat.ne_of_lt (Heap.lt_size e)
    exact kp b o hb' hb (up b o hb' e)
end
section
variable {X : Cx}
def tLstRev (K : PySem.W.Frag) (te : TE) : TE := fun σ H Q => te σ H fun v H1 => ∃ (a : Addr) (xs : List V), v = .ref a ∧ SqL K H1 a xs ∧ ∀ l, H1 l = none → Q (.ref l) (upd H1 l (.lst xs.reverse))
theorem pe_lstRev {e : Expr} {te : TE} {p p2 pos pos2 : Pos} (hc : X.calm = true) (g1 : Gl X "list") (m1 : X.mg "list" = none) (g2 : Gl X "reversed") (m2 : X.mg "reversed" = none) (he : PE X e te)
    (s1 : starEach [e] X.env = (false, eval e X.env) :: starEach [] X.env := by rfl)
    (s2 : starEach [.Call (.Name "reversed" p2) [e] [] pos2] X.env = (false, eval (.Call (.Name "reversed" p2) [e] [] pos2) X.env) :: starEach [] X.env := by rfl) :
    PE X (.Call (.Name "list" p) [.Call (.Name "reversed" p2) [e] [] pos2] [] pos) (tLstRev X.K te) := by
  refine ⟨fun pins s σ H Q I h => ?_⟩
  refine Call_ (ld_blt I g1 m1 boot_list (PyProof.Rows.callWith_type1 (args_cons (Call_ (ld_blt I g2 m2 PyProof.Rows.boot_reversed (PyProof.Rows.callWith_type1 (args_cons (thn (he.run pins s σ H _ I h) fun u t ⟨v, H1, I1, r1, q1⟩ => args_nil ?_) s1) s1 rfl))) s2) s2 rfl))
  obtain ⟨a, xs, ev, hq, q⟩ := q1
  subst ev
  obtain rfl : u = Value.ref a := r1
  obtain ⟨its, rv, pl, hz⟩ := I1.list hq
  refine call_reversed_list pl.isList (args_nil ?_)
  have hl := pl.isList
  have ne : a ≠ t.heap.objs.size := by obtain ⟨o, ho, _⟩ := id hl; exact Nat.ne_of_lt (Heap.lt_size ho)
  have hn : its.toArray.size ≤ sizeLine := by rw [List.size_toArray, ← rv.length]; exact hz
  refine call_list_rev (s := { t with heap := t.heap.push (revObj a ((its.toArray.size : Int) - 1)) }) (I1.ok.hd hc) ⟨_, Heap.get?_push_size _ rfl, rfl, rfl⟩ (hl.push _) ne hn fun g tk acc c kp hS hi => ?_
  have le : t.heap.objs.size ≤ (t.heap.push (revObj a ((its.toArray.size : Int) - 1))).objs.size := by rw [Heap.size_push]; exact Nat.le_succ _
  refine ⟨.ref (t.heap.push (revObj a ((its.toArray.size : Int) - 1))).objs.size, _, I1.laid (t' := tk) (fun b o e => kp b o (Nat.ne_of_lt (Heap.lt_size e)) (Heap.get?_push_of_some _ e)) le (show ObjOk X.prog X.w _ g _ (.lst xs.reverse) from ⟨by rw [List.length_reverse]; exact hz, acc.toList, c, vals_rev rv hi, ?_⟩), rfl, q _ (I1.hok.fresh le)⟩
  rw [Array.toArray_toList]
  exact hS
end
end GX
set_option Elab.async false
set_option linter.all false
set_option maxRecDepth 100000
set_option maxHeartbeats 4000000
/-! A deck: a list with a list of cells, a seed and a count. -/
namespace GX
open PySem PySem.Spec PyProof.Rows L2
structure Wd (H : Hp) (W C : Addr) : Prop where
  ex : ∃ (ns : List Int) (a b : Int), H W = some (.lst [.ref C, .int a, .int b]) ∧ H C = some (.lst (ns.map V.int)) ∧ ns.length ≤ 64
  ne : W ≠ C
theorem Wd.nt {H : Hp} {W C : Addr} (h : Wd H W C) : ∀ b ∈ [W, C], ∀ xs, H b ≠ some (.tup xs) := fun b hb xs e => by
  obtain ⟨ns, a, c, e1, e2, _⟩ := h.ex
  rcases List.mem_cons.mp hb with z | z
  · rw [z, e1] at e
    cases e
  · rw [List.mem_singleton.mp z, e2] at e
    cases e
theorem Wd.same {H H' : Hp} {W C : Addr} (h : Wd H W C) (s : Same H H') : Wd H' W C := by
  obtain ⟨⟨ns, a, c, e1, e2, l⟩, ne⟩ := h
  exact ⟨⟨ns, a, c, s _ _ e1, s _ _ e2, l⟩, ne⟩
theorem Wd.keep {X : List Addr} {H H' : Hp} {W C : Addr} (h : Wd H W C) (k : Keep X H H') (n : W ∉ X) (m : C ∉ X) : Wd H' W C := by
  obtain ⟨⟨ns, a, c, e1, e2, l⟩, ne⟩ := h
  exact ⟨⟨ns, a, c, k _ _ e1 n, k _ _ e2 m, l⟩, ne⟩
theorem Wd.tabW {Ts : List Addr} {H : Hp} {W C : Addr} (h : Wd H W C) (t : Tabs Ts H) : W ∉ Ts := by
  obtain ⟨ns, a, c, e1, e2, _⟩ := h.ex
  exact t.lst e1
theorem Wd.tabC {Ts : List Addr} {H : Hp} {W C : Addr} (h : Wd H W C) (t : Tabs Ts H) : C ∉ Ts := by
  obtain ⟨ns, a, c, e1, e2, _⟩ := h.ex
  exact t.lst e2
/-- the deck stands, all else is kept -/
structure Wk2 (W C : Addr) (H H' : Hp) : Prop where
  wl : Wd H' W C
  kp : Keep [W, C] H H'
theorem Wk2.nxt {W C : Addr} {H H1 H2 : Hp} (s : Wk2 W C H H1) (t : Wk2 W C H1 H2) : Wk2 W C H H2 := ⟨t.wl, s.kp.trans t.kp⟩
theorem Wk2.same {W C : Addr} {H H1 H2 : Hp} (s : Wk2 W C H H1) (e : Same H1 H2) : Wk2 W C H H2 := ⟨s.wl.same e, s.kp.trans (Same.keep e)⟩
theorem Wk2.new {W C : Addr} {H H1 : Hp} {p : Addr} {o : HO} (s : Wk2 W C H H1) (n : H1 p = none) : Wk2 W C H (upd H1 p o) := s.same (Same.new n)
theorem Wk2.refl {W C : Addr} {H : Hp} (h : Wd H W C) : Wk2 W C H H := ⟨h, Keep.refl⟩
theorem Wd.tup {H H' : Hp} {W C : Addr} (h : Wd H W C) (k : Wk2 W C H H') {b : Addr} {xs : List V} (e : H b = some (.tup xs)) : H' b = some (.tup xs) := k.kp.tups h.nt b xs e
theorem Wd.new {H : Hp} {W C l : Addr} (h : Wd H W C) (n : H l = none) : l ≠ W ∧ l ≠ C := by
  obtain ⟨ns, a, c, e1, e2, _⟩ := h.ex
  refine ⟨fun z => ?_, fun z => ?_⟩
  · rw [← z, n] at e1
    cases e1
  · rw [← z, n] at e2
    cases e2
theorem Wk2.at_ {W C : Addr} {H H' : Hp} {l : Addr} {o : HO} (k : Wk2 W C H H') (n : l ≠ W ∧ l ≠ C) (e : H l = some o) : H' l = some o := k.kp _ _ e fun z => by
  rcases List.mem_cons.mp z with z | z
  · exact n.1 z
  · exact n.2 (List.mem_singleton.mp z)
theorem Wk2.was {W C : Addr} {H H' : Hp} {l : Addr} (k : Wk2 W C H H') (n : H' l = none) : H l = none := by
  obtain ⟨n1, n2⟩ := k.wl.new n
  cases e : H l with
  | none => rfl
  | some u =>
    have := k.at_ ⟨n1, n2⟩ e
    rw [n] at this
    cases this
/-- a list of our own is changed -/
theorem Wk2.put {W C : Addr} {H H' : Hp} {l : Addr} {o : HO} (s : Wk2 W C H H') (nl : H l = none) (n : l ≠ W ∧ l ≠ C) : Wk2 W C H (upd H' l o) := by
  obtain ⟨⟨⟨ns, a, c, e1, e2, z⟩, ne⟩, k⟩ := s
  exact ⟨⟨⟨ns, a, c, by rw [upd_ne (Ne.symm n.1)]; exact e1, by rw [upd_ne (Ne.symm n.2)]; exact e2, z⟩, ne⟩, fun b u e hb => by rw [upd_ne (ne_of_none e nl)]; exact k b u e hb⟩
theorem tupPut {H : Hp} {l : Addr} {xs ys : List V} (h : H l = some (.lst xs)) : ∀ b zs, H b = some (.tup zs) → upd H l (.lst ys) b = some (.tup zs) := fun b zs e => by
  rw [upd_ne (fun z => by rw [z, h] at e; cases e)]
  exact e
/-- the deck, the tables stand; all else is kept -/
structure Dk2 (W C : Addr) (Ts : List Addr) (H H' : Hp) : Prop where
  wl : Wd H' W C
  tb : Tabs Ts H'
  kp : Keep (W :: C :: Ts) H H'
theorem Dk2.aft {W C : Addr} {Ts : List Addr} {H H1 H2 : Hp} (d : Dk2 W C Ts H H1) (a : Aft Ts H1 H2) : Dk2 W C Ts H H2 := ⟨d.wl.keep a.kp (d.wl.tabW d.tb) (d.wl.tabC d.tb), a.tb, d.kp.trans (a.kp.mono fun b hb => List.mem_cons_of_mem _ (List.mem_cons_of_mem _ hb))⟩
theorem Dk2.same {W C : Addr} {Ts : List Addr} {H H1 H2 : Hp} (d : Dk2 W C Ts H H1) (s : Same H1 H2) : Dk2 W C Ts H H2 := d.aft (Aft.ofSame d.tb s)
theorem Wk2.tabs {W C : Addr} {Ts : List Addr} {H H1 : Hp} (wl : Wd H W C) (tb : Tabs Ts H) (s : Wk2 W C H H1) : Tabs Ts H1 := tb.keep s.kp fun b hb => by
  rcases List.mem_cons.mp hb with z | z
  · rw [z]; exact wl.tabW tb
  · rw [List.mem_singleton.mp z]; exact wl.tabC tb
theorem Dk2.draw {W C : Addr} {Ts : List Addr} {H H1 H2 : Hp} (d : Dk2 W C Ts H H1) (s : Wk2 W C H1 H2) : Dk2 W C Ts H H2 := ⟨s.wl, s.tabs d.wl d.tb, d.kp.trans (s.kp.mono fun b hb => by
  rcases List.mem_cons.mp hb with z | z
  · rw [z]; exact List.mem_cons_self
  · rw [List.mem_singleton.mp z]; exact List.mem_cons_of_mem _ List.mem_cons_self)⟩
theorem Dk2.put {W C : Addr} {Ts : List Addr} {H H1 : Hp} {l : Addr} {o : HO} {xs : List V} (d : Dk2 W C Ts H H1) (nl : H l = none) (hl : H1 l = some (.lst xs)) (n : l ≠ W ∧ l ≠ C) : Dk2 W C Ts H (upd H1 l o) :=
  ⟨by obtain ⟨⟨ns, x, y, e, e2, z⟩, ne⟩ := d.wl; exact ⟨⟨ns, x, y, by rw [upd_ne (Ne.symm n.1)]; exact e, by rw [upd_ne (Ne.symm n.2)]; exact e2, z⟩, ne⟩, d.tb.upd (d.tb.lst hl), fun b u e m => by rw [upd_ne (ne_of_none e nl)]; exact d.kp b u e m⟩
theorem Dk2.was {W C : Addr} {Ts : List Addr} {H H1 : Hp} {l : Addr} (d : Dk2 W C Ts H H1) (n : H1 l = none) : H l = none := by
  obtain ⟨n1, n2⟩ := d.wl.new n
  cases e : H l with
  | none => rfl
  | some u =>
    have := d.kp _ _ e fun z => by
      rcases List.mem_cons.mp z with z | z
      · exact n1 z
      · rcases List.mem_cons.mp z with z | z
        · exact n2 z
        · exact d.tb.none n z
    rw [n] at this
    cases this
theorem Own.same' {H H1 H2 : Hp} {l : Addr} {xs : List V} (o : Own H H1 l xs) (s : Same H1 H2) : Own H H2 l xs := ⟨o.sm.trans s, s _ _ o.at_, o.nw⟩
/-- a while by a measure, its test read once -/
theorem while_at {c : TT} {tb : TS} {D : Ends} {σ : L2.St} {H : Hp} (Pv : L2.St → Hp → Prop) (μ : L2.St → Hp → Nat) (h0 : Pv σ H)
    (hs : ∀ σ H, Pv σ H → c σ H fun b H1 => if b = true then ∃ N : L2.St → Hp → Prop, (∀ σ' H', N σ' H' → ∃ m', m' < μ σ H ∧ (m' = μ σ' H' ∧ Pv σ' H')) ∧ tb { D with nx := N, ct := N, bk := D.nx } σ H1 else D.nx σ H1) : tWhile c tb D σ H := by
  refine ⟨fun m σ H => m = μ σ H ∧ Pv σ H, ⟨_, rfl, h0⟩, ?_⟩
  rintro m σ H ⟨rfl, p⟩
  exact hs σ H p
theorem whN {Pv : L2.St → Hp → Prop} {μ : L2.St → Hp → Nat} {m : Nat} : ∀ σ' H', (Pv σ' H' ∧ μ σ' H' < m) → ∃ m', m' < m ∧ (m' = μ σ' H' ∧ Pv σ' H') := fun σ' H' h => ⟨_, h.2, rfl, h.1⟩
theorem dpInt (K : PySem.W.Frag) (H : Hp) : ∀ xs : List Int, DpAll K H (xs.map V.int) (xs.map PyData.int)
  | [] => .nil
  | x :: r => .cons (.int _) (dpInt K H r)
theorem eqvAllN {xs : List PyData} : PyData.eqvAll xs [] = decide (xs.length = 0) := by cases xs <;> rfl
theorem len64 {n : Nat} (h : n ≤ 100000) : n < sizeLine := Nat.lt_of_le_of_lt h (by decide)
end GX
set_option Elab.async false
set_option linter.all false
set_option maxRecDepth 100000
set_option maxHeartbeats 4000000
/-! Covers as data, and how they stand in the heap; dicts of wires. -/
namespace GX
open PySem PySem.Spec PyProof.Rows L2
theorem Same.was {H H' : Hp} {l : Addr} (s : Same H H') (n : H' l = none) : H l = none := by
  cases e : H l with
  | none => rfl
  | some u => cases ((s _ _ e).symm.trans n)
abbrev Tb := Nat × List Nat
def TbAt (H : Hp) (p : Addr) (t : Tb) : Prop := ∃ c, H p = some (.tup [nV t.1, .ref c]) ∧ H c = some (.tup (t.2.map nV))
theorem TbAt.mono {H H' : Hp} (k : ∀ b xs, H b = some (.tup xs) → H' b = some (.tup xs)) (p : Addr) (t : Tb) (x : TbAt H p t) : TbAt H' p t := by
  obtain ⟨c, h1, h2⟩ := x
  exact ⟨c, k _ _ h1, k _ _ h2⟩
structure CovAt (H : Hp) (a : Addr) (cv : List Tb) (ps : List Addr) : Prop where
  top : H a = some (.tup (ps.map V.ref))
  ts : PtsAt TbAt H ps cv
theorem CovAt.mono {H H' : Hp} {a : Addr} {cv : List Tb} {ps : List Addr} (x : CovAt H a cv ps) (k : ∀ b xs, H b = some (.tup xs) → H' b = some (.tup xs)) : CovAt H' a cv ps := ⟨k _ _ x.top, x.ts.mono (TbAt.mono k)⟩
theorem CovAt.same {H H' : Hp} {a : Addr} {cv : List Tb} {ps : List Addr} (x : CovAt H a cv ps) (s : Same H H') : CovAt H' a cv ps := x.mono fun b xs e => s _ _ e
inductive Need (n : Net) (cv : List Tb) : Nat → Prop
  | out {o : Nat} : o ∈ n.outs → n.many ≤ o → Need n cv o
  | step {t : Tb} {x : Nat} : t ∈ cv → Need n cv t.1 → x ∈ t.2 → n.many ≤ x → Need n cv x
theorem Need.more {n : Net} {cv cv' : List Tb} (s : ∀ t ∈ cv, t ∈ cv') {x : Nat} (h : Need n cv x) : Need n cv' x := by
  induction h with
  | out h1 h2 => exact .out h1 h2
  | step ht _ hx hm ih => exact .step (s _ ht) ih hx hm
structure CovOk (n : Net) (k : Nat) (cv : List Tb) : Prop where
  rise : cv.Pairwise (fun a b => a.1 < b.1)
  gt : ∀ t ∈ cv, n.many ≤ t.1 ∧ t.1 < n.many + n.gates.length
  cut : ∀ t ∈ cv, CutOk n t.1 t.2 ∧ t.2.length ≤ k
  outs : ∀ o ∈ n.outs, n.many ≤ o → ∃ t ∈ cv, t.1 = o
  clo : ∀ t ∈ cv, ∀ x ∈ t.2, n.many ≤ x → ∃ u ∈ cv, u.1 = x
theorem rise_uniq {cv : List Tb} (h : cv.Pairwise (fun a b => a.1 < b.1)) {t u : Tb} (ht : t ∈ cv) (hu : u ∈ cv) (e : t.1 = u.1) : t = u := by
  induction cv with
  | nil => cases ht
  | cons a r ih =>
    obtain ⟨h1, h2⟩ := List.pairwise_cons.mp h
    rcases List.mem_cons.mp ht with e1 | e1
    · rcases List.mem_cons.mp hu with e2 | e2
      · rw [e1, e2]
      · have := h1 u e2
        rw [e1] at e
        omega
    · rcases List.mem_cons.mp hu with e2 | e2
      · have := h1 t e1
        rw [e2] at e
        omega
      · exact ih h2 e1 e2
theorem CovOk.len {n : Net} (ok : n.Ok) {k : Nat} {cv : List Tb} (c : CovOk n k cv) : cv.length ≤ 24 := by
  have h1 : (cv.map fun t : Tb => t.1).Nodup := by
    rw [List.nodup_iff_pairwise_ne, List.pairwise_map]
    exact c.rise.imp fun h => Nat.ne_of_lt h
  have := nodup_lt (m := n.many + n.gates.length) h1 fun y hy => by
    obtain ⟨t, ht, rfl⟩ := List.mem_map.mp hy
    exact (c.gt t ht).2
  rw [List.length_map] at this
  have := ok.m8
  have := ok.g16
  omega
/-! ### a dict whose keys are these numbers -/
def nK (x : Nat) : L2.Key := .inl (x : Int)
theorem nK_inj {x y : Nat} (h : nK x = nK y) : x = y := by
  have := Sum.inl.inj h
  omega
def KeysAt (H : Hp) (d : Addr) (S : Nat → Prop) (b : Nat) : Prop := ∃ kvs : List (L2.Key × V), H d = some (.dK kvs) ∧ kvs.length ≤ b ∧ ∀ x : Nat, (valV kvs (nK x)).isSome = true ↔ S x
theorem KeysAt.nil {H : Hp} {d : Addr} (h : H d = some (.dK [])) : KeysAt H d (fun _ => False) 0 := ⟨[], h, Nat.le_refl _, fun x => by rw [valV_nil]; exact ⟨fun z => (by cases z), fun z => z.elim⟩⟩
theorem put_isSome (kvs : List (L2.Key × V)) (x y : Nat) (v : V) : (valV (putK kvs (nK x) v) (nK y)).isSome = true ↔ (y = x ∨ (valV kvs (nK y)).isSome = true) := by
  rw [valV_put]
  by_cases e : nK y = nK x
  · rw [if_pos e]
    exact ⟨fun _ => .inl (nK_inj e), fun _ => rfl⟩
  · rw [if_neg e]
    exact ⟨fun z => .inr z, fun z => by rcases z with z | z; exact absurd (by rw [z]) e; exact z⟩
end GX
set_option Elab.async false
set_option linter.all false
set_option maxRecDepth 100000
set_option maxHeartbeats 4000000
/-! The worth of a wire where some wires are held. -/
namespace GX
open PySem PySem.Spec PyProof.Rows L2
def gw (k a b : Nat) : Nat := k / 2 ^ (a + 2 * b) % 2
theorem gw_lt (k a b : Nat) : gw k a b < 2 := Nat.mod_lt _ (by decide)
/-- where a wire stands -/
def ixOf (x : Nat) : List Nat → Nat
  | [] => 0
  | y :: r => if y = x then 0 else ixOf x r + 1
theorem ixOf_get {ws : List Nat} (nd : ws.Nodup) : ∀ {j : Nat}, j < ws.length → ixOf (ws.getD j 0) ws = j := by
  induction ws with
  | nil => intro j h; exact absurd h (Nat.not_lt_zero _)
  | cons y r ih =>
    intro j h
    obtain ⟨n1, n2⟩ := List.nodup_cons.mp nd
    cases j with
    | zero =>
      show (if y = y then 0 else _) = 0
      rw [if_pos rfl]
    | succ j =>
      have hj : j < r.length := Nat.lt_of_succ_lt_succ h
      show (if y = r.getD j 0 then 0 else ixOf (r.getD j 0) r + 1) = j + 1
      rw [if_neg (fun e => n1 (by rw [e]; exact getD_mem hj)), ih n2 hj]
theorem ixOf_lt {ws : List Nat} {x : Nat} (h : x ∈ ws) : ixOf x ws < ws.length ∧ ws.getD (ixOf x ws) 0 = x := by
  induction ws with
  | nil => cases h
  | cons y r ih =>
    unfold ixOf
    by_cases e : y = x
    · rw [if_pos e]
      exact ⟨Nat.succ_pos _, e⟩
    · rw [if_neg e]
      rcases List.mem_cons.mp h with h | h
      · exact absurd h.symm e
      · obtain ⟨h1, h2⟩ := ih h
        exact ⟨Nat.succ_lt_succ h1, h2⟩
def bitIn (ws : List Nat) (r x : Nat) : Nat := r / 2 ^ ixOf x ws % 2
/-- what a wire has, by those ahead -/
def valOf (n : Net) (ws : List Nat) (r : Nat) (acc : List Nat) (x : Nat) : Nat :=
  if x ∈ ws then bitIn ws r x else if x < n.many then 0 else match n.gates[x - n.many]? with
    | some k => gw k.1 (acc.getD k.2.1 0) (acc.getD k.2.2 0)
    | none => 0
def evl (n : Net) (ws : List Nat) (r : Nat) : Nat → List Nat
  | 0 => []
  | m + 1 => evl n ws r m ++ [valOf n ws r (evl n ws r m) m]
theorem evl_len (n : Net) (ws : List Nat) (r : Nat) : ∀ m, (evl n ws r m).length = m
  | 0 => rfl
  | m + 1 => by
    show (evl n ws r m ++ [_]).length = m + 1
    rw [List.length_append, evl_len n ws r m]
    rfl
def ev (n : Net) (ws : List Nat) (r x : Nat) : Nat := valOf n ws r (evl n ws r x) x
theorem evl_at (n : Net) (ws : List Nat) (r : Nat) : ∀ m x, x < m → (evl n ws r m).getD x 0 = ev n ws r x
  | 0, x, h => absurd h (Nat.not_lt_zero _)
  | m + 1, x, h => by
    have hl := evl_len n ws r m
    show (evl n ws r m ++ [_]).getD x 0 = _
    by_cases e : x = m
    · subst e
      have := getLastN (xs := evl n ws r x) (x := valOf n ws r (evl n ws r x) x)
      rw [hl] at this
      exact this
    · rw [getSnoc (by omega)]
      exact evl_at n ws r m x (by omega)
theorem ev_in {n : Net} {ws : List Nat} {r x : Nat} (h : x ∈ ws) : ev n ws r x = bitIn ws r x := by
  unfold ev valOf
  rw [if_pos h]
theorem ev_gate {n : Net} (ok : n.Ok) {ws : List Nat} {r x : Nat} {k : Nat × Nat × Nat} (h : x ∉ ws) (hm : n.many ≤ x) (hk : n.gates[x - n.many]? = some k) : ev n ws r x = gw k.1 (ev n ws r k.2.1) (ev n ws r k.2.2) := by
  have h1 := place_lt ok hm hk (.inl rfl)
  have h2 := place_lt ok hm hk (.inr rfl)
  conv => lhs; unfold ev valOf
  rw [if_neg h, if_neg (by omega), hk]
  show gw k.1 ((evl n ws r x).getD k.2.1 0) ((evl n ws r x).getD k.2.2 0) = _
  rw [evl_at n ws r x _ h1, evl_at n ws r x _ h2]
theorem ev_lt {n : Net} (ws : List Nat) (r x : Nat) : ev n ws r x < 2 := by
  unfold ev valOf
  by_cases h : x ∈ ws
  · rw [if_pos h]
    exact Nat.mod_lt _ (by decide)
  · rw [if_neg h]
    by_cases h2 : x < n.many
    · rw [if_pos h2]
      decide
    · rw [if_neg h2]
      cases n.gates[x - n.many]? with
      | none => exact Nat.two_pos
      | some k => exact gw_lt _ _ _
/-- what can be told from the held ones -/
inductive Det (n : Net) (ws : List Nat) : Nat → Prop
  | held {x : Nat} : x ∈ ws → Det n ws x
  | gate {x : Nat} {k : Nat × Nat × Nat} : n.many ≤ x → n.gates[x - n.many]? = some k → Det n ws k.2.1 → Det n ws k.2.2 → Det n ws x
theorem det_of {n : Net} (ok : n.Ok) {ws : List Nat} {w : Nat} (hw : w < n.many + n.gates.length) (sep : Sep n w ws) : ∀ b y, y ≤ b → Rc n ws w n.many y → Det n ws y
  | b, y, hb, r => by
    have hm := sep y r
    have hy := r.le ok
    obtain ⟨k, hk⟩ : ∃ k, n.gates[y - n.many]? = some k := ⟨_, List.getElem?_eq_getElem (by omega)⟩
    have pl : ∀ p, (p = k.2.1 ∨ p = k.2.2) → Det n ws p := fun p hp => by
      by_cases e : p ∈ ws
      · exact .held e
      · have lt := place_lt ok hm hk hp
        cases b with
        | zero => omega
        | succ b => exact det_of ok hw sep b p (by omega) (.step r hm hm hk hp e)
    exact .gate hm hk (pl _ (.inl rfl)) (pl _ (.inr rfl))
termination_by b => b
theorem det_top {n : Net} (ok : n.Ok) {ws : List Nat} {w : Nat} (hw : w < n.many + n.gates.length) (sep : Sep n w ws) : Det n ws w := by
  by_cases e : w ∈ ws
  · exact .held e
  · exact det_of ok hw sep w w (Nat.le_refl _) (.here e)
/-- wider: a gate goes, its places come -/
theorem sep_wide {n : Net} {w h : Nat} {st st' : List Nat} {k : Nat × Nat × Nat} (sep : Sep n w st) (hm : n.many ≤ h) (hk : n.gates[h - n.many]? = some k) (keep : ∀ z ∈ st, z ≠ h → z ∈ st') (pl : ∀ z, (z = k.2.1 ∨ z = k.2.2) → z ∈ st') : Sep n w st' := by
  by_cases e : w ∈ st
  · by_cases e2 : w = h
    · subst e2
      exact sep_first hm hk pl
    · have hin := keep w e e2
      intro y r
      exfalso
      induction r with
      | here z => exact z hin
      | step _ _ _ _ _ _ ih => exact ih
  · exact sep_step sep e hm hk keep pl
/-- a content -/
def contOf (n : Net) (ws : List Nat) (w : Nat) : List Nat := (List.range (2 ^ ws.length)).map fun r => ev n ws r w
end GX
set_option Elab.async false
set_option linter.all false
set_option maxRecDepth 100000
set_option maxHeartbeats 4000000
/-! Contents at rows. -/
namespace GX
open PySem PySem.Spec PyProof.Rows L2
theorem sumCast : ∀ ms : List Nat, (ms.map fun n : Nat => (n : Int)).sum = ((ms.sum : Nat) : Int)
  | [] => rfl
  | x :: r => by
    rw [List.map_cons, List.sum_cons, List.sum_cons, sumCast r]
    omega
theorem sumSnoc (ms : List Nat) (x : Nat) : (ms ++ [x]).sum = ms.sum + x := by
  rw [List.sum_append]
  show ms.sum + (x + 0) = _
  rfl
theorem idxOf_bit {told : List Nat} (h : ∀ x, told.getD x 0 < 2) : ∀ (ws : List Nat) (j : Nat), j < ws.length → idxOf told ws / 2 ^ j % 2 = told.getD (ws.getD j 0) 0
  | [], j, hj => absurd hj (Nat.not_lt_zero _)
  | w :: r, 0, _ => by
    have := h w
    show (told.getD w 0 + 2 * idxOf told r) / 2 ^ 0 % 2 = told.getD w 0
    rw [Nat.pow_zero, Nat.div_one]
    omega
  | w :: r, j + 1, hj => by
    have := h w
    have ih := idxOf_bit h r j (Nat.lt_of_succ_lt_succ hj)
    show (told.getD w 0 + 2 * idxOf told r) / 2 ^ (j + 1) % 2 = told.getD (r.getD j 0) 0
    rw [← ih, Nat.pow_succ, Nat.mul_comm (2 ^ j) 2, ← Nat.div_div_eq_div_mul, show (told.getD w 0 + 2 * idxOf told r) / 2 = idxOf told r by omega]
theorem evl_bit (n : Net) (ws : List Nat) (r m x : Nat) : (evl n ws r m).getD x 0 < 2 := by
  by_cases h : x < m
  · rw [evl_at n ws r m x h]
    exact ev_lt ws r x
  · rw [List.getD_eq_getElem?_getD, List.getElem?_eq_none (by rw [evl_len]; omega)]
    exact Nat.two_pos
/-- held wires that have the worths of a row: so have all that they tell -/
theorem ev_through {n : Net} (ok : n.Ok) {ws is : List Nat} {r N : Nat} (hin : ∀ x ∈ ws, bitIn ws N x = ev n is r x) (hsmall : ∀ x ∈ is, x < n.many) {x : Nat} (d : Det n ws x) : ev n ws N x = ev n is r x := by
  induction d with
  | held h => rw [ev_in h, hin _ h]
  | @gate x k hm hk _ _ i1 i2 =>
    by_cases e : x ∈ ws
    · rw [ev_in e, hin _ e]
    · rw [ev_gate ok e hm hk, ev_gate ok (fun z => by have := hsmall _ z; omega) hm hk, i1, i2]
theorem ixOf_range {m x : Nat} (h : x < m) : ixOf x (List.range m) = x := by
  have := ixOf_get (List.nodup_range (n := m)) (j := x) (by rw [List.length_range]; exact h)
  rwa [show (List.range m).getD x 0 = x by rw [List.getD_eq_getElem?_getD, List.getElem?_range h]; rfl] at this
theorem det_all {n : Net} (ok : n.Ok) : ∀ b x, x ≤ b → x < n.many + n.gates.length → Det n (List.range n.many) x
  | b, x, hb, hx => by
    by_cases h : x < n.many
    · exact .held (List.mem_range.mpr h)
    · obtain ⟨k, hk⟩ : ∃ k, n.gates[x - n.many]? = some k := ⟨_, List.getElem?_eq_getElem (by omega)⟩
      have h1 := place_lt ok (by omega) hk (.inl rfl)
      have h2 := place_lt ok (by omega) hk (.inr rfl)
      cases b with
      | zero => omega
      | succ b => exact .gate (by omega) hk (det_all ok b _ (by omega) (by omega)) (det_all ok b _ (by omega) (by omega))
termination_by b => b
theorem sep_range {n : Net} (w : Nat) : Sep n w (List.range n.many) := fun y r => by
  have : y ∉ List.range n.many := by
    cases r with
    | here h => exact h
    | step _ _ _ _ _ h => exact h
  refine Classical.not_not.mp fun z => this (List.mem_range.mpr (by omega))
end GX
set_option Elab.async false
set_option linter.all false
set_option maxRecDepth 100000
set_option maxHeartbeats 4000000
/-! Contents with a place more, or one less. -/
namespace GX
open PySem PySem.Spec PyProof.Rows L2
def del (p n : Nat) : Nat := n / (2 * 2 ^ p) * 2 ^ p + n % 2 ^ p
def ins (p r : Nat) : Nat := r / 2 ^ p * (2 * 2 ^ p) + r % 2 ^ p
theorem two_pow (p : Nat) : 2 * 2 ^ p = 2 ^ (p + 1) := by rw [Nat.pow_succ, Nat.mul_comm]
theorem del_bit (p n j : Nat) : (del p n).testBit j = if j < p then n.testBit j else n.testBit (j + 1) := by
  unfold del
  rw [Nat.mul_comm _ (2 ^ p), Nat.testBit_two_pow_mul_add _ (Nat.mod_lt _ (Nat.pow_pos (by decide)))]
  by_cases h : j < p
  · rw [if_pos h, if_pos h, Nat.testBit_mod_two_pow, decide_eq_true h, Bool.true_and]
  · rw [if_neg h, if_neg h, two_pow, Nat.testBit_div_two_pow]
    congr 1
    omega
theorem ins_bit (p r j : Nat) : (ins p r).testBit j = if j < p then r.testBit j else if j = p then false else r.testBit (j - 1) := by
  unfold ins
  have hp : 0 < 2 ^ p := Nat.pow_pos (by decide)
  rw [two_pow, Nat.mul_comm _ (2 ^ (p + 1)), Nat.testBit_two_pow_mul_add _ (Nat.lt_of_lt_of_le (Nat.mod_lt _ hp) (Nat.pow_le_pow_right (by decide) (by omega)))]
  by_cases h : j < p
  · rw [if_pos (by omega), if_pos h, Nat.testBit_mod_two_pow, decide_eq_true h, Bool.true_and]
  · rw [if_neg h]
    by_cases h2 : j = p
    · rw [if_pos h2, if_pos (by omega), Nat.testBit_mod_two_pow, decide_eq_false h, Bool.false_and]
    · rw [if_neg h2, if_neg (by omega), Nat.testBit_div_two_pow]
      congr 1
      omega
theorem del_ins (p r : Nat) : del p (ins p r) = r := by
  apply Nat.eq_of_testBit_eq
  intro j
  rw [del_bit]
  by_cases h : j < p
  · rw [if_pos h, ins_bit, if_pos h]
  · rw [if_neg h, ins_bit, if_neg (by omega), if_neg (by omega), Nat.add_sub_cancel]
theorem ins_del {p n : Nat} (h0 : n / 2 ^ p % 2 = 0) : ins p (del p n) = n := by
  apply Nat.eq_of_testBit_eq
  intro j
  rw [ins_bit]
  by_cases h : j < p
  · rw [if_pos h, del_bit, if_pos h]
  · rw [if_neg h]
    by_cases h2 : j = p
    · rw [if_pos h2, h2, Nat.testBit_eq_decide_div_mod_eq, decide_eq_false (by omega)]
    · rw [if_neg h2, del_bit, if_neg (by omega)]
      congr 1
      omega
theorem del_xor (p n : Nat) : del p (n ^^^ 2 ^ p) = del p n := by
  apply Nat.eq_of_testBit_eq
  intro j
  rw [del_bit, del_bit]
  by_cases h : j < p
  · rw [if_pos h, if_pos h, Nat.testBit_xor, Nat.testBit_two_pow, decide_eq_false (by omega), Bool.xor_false]
  · rw [if_neg h, if_neg h, Nat.testBit_xor, Nat.testBit_two_pow, decide_eq_false (by omega), Bool.xor_false]
/-- a place behind p moves up by one -/
def mov (p q : Nat) : Nat := if q > p then q - 1 else q
theorem ins_xor {p q r : Nat} (h : q ≠ p) : ins p (r ^^^ 2 ^ mov p q) = ins p r ^^^ 2 ^ q := by
  apply Nat.eq_of_testBit_eq
  intro j
  unfold mov
  rw [Nat.testBit_xor, ins_bit, ins_bit, Nat.testBit_two_pow, Nat.testBit_xor, Nat.testBit_xor, Nat.testBit_two_pow, Nat.testBit_two_pow]
  by_cases hj : j < p
  · rw [if_pos hj, if_pos hj]
    congr 1
    by_cases hq : q > p
    · rw [if_pos hq, decide_eq_false (by omega), decide_eq_false (by omega)]
    · rw [if_neg hq]
  · rw [if_neg hj, if_neg hj]
    by_cases hj2 : j = p
    · rw [if_pos hj2, if_pos hj2, decide_eq_false (by omega)]
      rfl
    · rw [if_neg hj2, if_neg hj2]
      congr 1
      by_cases hq : q > p
      · rw [if_pos hq]
        by_cases e : q = j
        · rw [decide_eq_true (by omega), decide_eq_true e]
        · rw [decide_eq_false (by omega), decide_eq_false e]
      · rw [if_neg hq, decide_eq_false (by omega), decide_eq_false (by omega)]
theorem del_lt {p n m : Nat} (hn : n < 2 ^ (m + 1)) (hp : p ≤ m) : del p n < 2 ^ m := by
  apply Nat.lt_pow_two_of_testBit
  intro j hj
  rw [del_bit, if_neg (by omega)]
  exact Nat.testBit_lt_two_pow (Nat.lt_of_lt_of_le hn (Nat.pow_le_pow_right (by decide) (by omega)))
theorem ins_lt {p r m : Nat} (hr : r < 2 ^ m) (hp : p ≤ m) : ins p r < 2 ^ (m + 1) := by
  apply Nat.lt_pow_two_of_testBit
  intro j hj
  rw [ins_bit, if_neg (by omega), if_neg (by omega)]
  exact Nat.testBit_lt_two_pow (Nat.lt_of_lt_of_le hr (Nat.pow_le_pow_right (by decide) (by omega)))
theorem ins_mono {p r s : Nat} (h : r < s) : ins p r < ins p s := by
  unfold ins
  have hp : 0 < 2 ^ p := Nat.pow_pos (by decide)
  have e1 := Nat.div_add_mod r (2 ^ p)
  have e2 := Nat.div_add_mod s (2 ^ p)
  have b1 := Nat.mod_lt r hp
  have b2 := Nat.mod_lt s hp
  generalize r / 2 ^ p = a at e1 ⊢
  generalize s / 2 ^ p = c at e2 ⊢
  generalize r % 2 ^ p = b at e1 b1 ⊢
  generalize s % 2 ^ p = d at e2 b2 ⊢
  generalize 2 ^ p = X at *
  by_cases hac : a < c
  · have : a * (2 * X) + 2 * X ≤ c * (2 * X) := by
      rw [← Nat.succ_mul]
      exact Nat.mul_le_mul_right _ hac
    omega
  · by_cases hac2 : a = c
    · subst hac2
      omega
    · have : X * c + X ≤ X * a := by
        rw [← Nat.mul_succ]
        exact Nat.mul_le_mul_left _ (by omega)
      omega
theorem ins_low (p r : Nat) : ins p r / 2 ^ p % 2 = 0 := by
  have t : (ins p r).testBit p = false := by rw [ins_bit, if_neg (Nat.lt_irrefl _), if_pos rfl]
  rw [Nat.testBit_eq_decide_div_mod_eq] at t
  have := of_decide_eq_false t
  omega
theorem low_range {p m : Nat} (hp : p ≤ m) : ((List.range (2 ^ (m + 1))).filter fun n => decide (n / 2 ^ p % 2 = 0)) = (List.range (2 ^ m)).map (ins p) := by
  refine rise_eq (List.Pairwise.filter _ List.pairwise_lt_range) ?_ fun z => ?_
  · rw [List.pairwise_map]
    exact List.pairwise_lt_range.imp fun h => ins_mono h
  · rw [List.mem_filter, List.mem_range, List.mem_map]
    refine ⟨fun ⟨h1, h2⟩ => ⟨del p z, List.mem_range.mpr (del_lt h1 hp), ins_del (of_decide_eq_true h2)⟩, ?_⟩
    rintro ⟨r, hr, rfl⟩
    exact ⟨ins_lt (List.mem_range.mp hr) hp, decide_eq_true (ins_low p r)⟩
/-- with a place more -/
def wd (xs : List Nat) (p : Nat) : List Nat := (List.range (2 * xs.length)).map fun n => xs.getD (del p n) 0
/-- without a place -/
def wo (xs : List Nat) (p : Nat) : List Nat := ((List.range xs.length).filter fun n => decide (n / 2 ^ p % 2 = 0)).map fun n => xs.getD n 0
theorem wd_len (xs : List Nat) (p : Nat) : (wd xs p).length = 2 * xs.length := by unfold wd; rw [List.length_map, List.length_range]
theorem getD_map {f : Nat → Nat} {n i : Nat} (h : i < n) : ((List.range n).map f).getD i 0 = f i := by
  rw [List.getD_eq_getElem?_getD, List.getElem?_map, List.getElem?_range h]
  rfl
theorem wd_at {xs : List Nat} {p n : Nat} (h : n < 2 * xs.length) : (wd xs p).getD n 0 = xs.getD (del p n) 0 := getD_map h
theorem wo_eq {xs : List Nat} {p m : Nat} (hl : xs.length = 2 ^ (m + 1)) (hp : p ≤ m) : wo xs p = (List.range (2 ^ m)).map fun r => xs.getD (ins p r) 0 := by
  unfold wo
  rw [hl, low_range hp, List.map_map]
  rfl
theorem wo_len {xs : List Nat} {p m : Nat} (hl : xs.length = 2 ^ (m + 1)) (hp : p ≤ m) : (wo xs p).length = 2 ^ m := by rw [wo_eq hl hp, List.length_map, List.length_range]
theorem wo_at {xs : List Nat} {p m r : Nat} (hl : xs.length = 2 ^ (m + 1)) (hp : p ≤ m) (hr : r < 2 ^ m) : (wo xs p).getD r 0 = xs.getD (ins p r) 0 := by rw [wo_eq hl hp, getD_map hr]
theorem wd_idle {xs : List Nat} {p m : Nat} (hl : xs.length = 2 ^ m) (hp : p ≤ m) : idleAt (wd xs p) p = true := by
  rw [idleAt_iff]
  intro r hr
  rw [wd_len, hl, two_pow] at hr
  have lt : r ^^^ 2 ^ p < 2 ^ (m + 1) := Nat.xor_lt_two_pow hr (Nat.pow_lt_pow_right (by decide) (by omega))
  rw [wd_at (by rw [hl, two_pow]; exact hr), wd_at (by rw [hl, two_pow]; exact lt), del_xor]
theorem wo_wd {xs : List Nat} {p m : Nat} (hl : xs.length = 2 ^ m) (hp : p ≤ m) : wo (wd xs p) p = xs := by
  have h2 : (wd xs p).length = 2 ^ (m + 1) := by rw [wd_len, hl, two_pow]
  refine eqNats (by rw [wo_len h2 hp, hl]) fun r hr => ?_
  rw [wo_len h2 hp] at hr
  rw [wo_at h2 hp hr, wd_at (by rw [hl, two_pow]; exact ins_lt hr hp), del_ins]
theorem wo_idle {xs : List Nat} {p q m : Nat} (hl : xs.length = 2 ^ (m + 1)) (hp : p ≤ m) (hq : q ≤ m) (ne : q ≠ p) (h : idleAt xs q = true) : idleAt (wo xs p) (mov p q) = true := by
  rw [idleAt_iff] at h ⊢
  intro r hr
  rw [wo_len hl hp] at hr
  have hmq : mov p q < m := by
    unfold mov
    split <;> omega
  have lt : r ^^^ 2 ^ mov p q < 2 ^ m := Nat.xor_lt_two_pow hr (Nat.pow_lt_pow_right (by decide) hmq)
  rw [wo_at hl hp hr, wo_at hl hp lt, ins_xor ne]
  exact h _ (by rw [hl]; exact ins_lt hr hp)
theorem mov_lt {p q m : Nat} (hp : p ≤ m) (hq : q ≤ m) (ne : q ≠ p) : mov p q < m := by
  unfold mov
  split <;> omega
theorem mov_inj {p q r : Nat} (h1 : q ≠ p) (h2 : r ≠ p) (h : mov p q = mov p r) : q = r := by
  unfold mov at h
  split at h <;> split at h <;> omega
end GX
set_option Elab.async false
set_option linter.all false
set_option maxRecDepth 100000
set_option maxHeartbeats 4000000
/-! enumerate of a tuple, walked. -/
namespace GX
open PySem PySem.Spec PyProof.Rows L2
open AutoSeq1 (wpAny_loadPart')
theorem enumT_new (l : Addr) (items : Array Value) (n : Nat) (dct : Option Addr) (sl : Array (Option Value)) :
    Meets (Builtin.«enumerate.__new__» ⟨[.type "enumerate", .ref l], []⟩) (fun _ R s => s.heap.get? l = some { cls := .type "tuple", dict := dct, data := .seq items n, slots := sl } ∧
      R (.ok (.ret (.ref (s.heap.push { cls := .type "tuple_iterator", data := .fields #[.ref l, .int 0 0] }).objs.size)))
        { s with heap := (s.heap.push { cls := .type "tuple_iterator", data := .fields #[.ref l, .int 0 0] }).push { cls := .type "enumerate", data := .fields #[.none, .bool false, .ref s.heap.objs.size, rawInt 0, .none, .none] } }) :=
  .of_wp fun prog w A R s h => by
    obtain ⟨hp, g, d, tk, os⟩ := s
    obtain ⟨hl, h⟩ := h
    have hsub := sub_enumerate
    have hL : Heap.IsTuple (Shared.heap ⟨hp, g, d, tk, os⟩) l items := ⟨_, hl, rfl, n, rfl⟩
    wp_walk using wpAny_loadPart' hl
    refine wpAny_stack_any fun st => wpAny_pure ?_
    split
    · rename_i c _ _ _ _ _
      cases (c == Value.type "enumerate") <;>
      · wp_walk using wpAny_loadPart' hl, wpAny_pyIter_tuple hL
        exact ⟨_, rfl, h⟩
    · wp_walk using wpAny_loadPart' hl, wpAny_pyIter_tuple hL
      exact ⟨_, rfl, h⟩
section
variable {prog : Program} {w : World} {A : Around} {E : Value → Shared → Prop} {s : Shared}
theorem enumT_call {l : Addr} {items : Array Value} {Q : Value → Shared → Prop} (hL : s.heap.IsTuple l items)
    (h : ∀ h', IsEnum h' (s.heap.objs.size + 1) s.heap.objs.size 0 .none → h'.IsTupleIter s.heap.objs.size l 0 → (∀ b o, s.heap.get? b = some o → h'.get? b = some o) → Q (.ref (s.heap.objs.size + 1)) { s with heap := h' }) :
    wpAny (model prog w) A (call (.type "enumerate") [.ref l]) Q E s := by
  obtain ⟨⟨c, dct, dt, sl⟩, hl, hc, n, hd⟩ := hL
  replace hc : c = .type "tuple" := hc
  replace hd : dt = .seq items n := hd
  subst hc hd
  refine callType_new F.called_enumerate (by decide) (F.typeCall_enumerate_1 _) (F.newCall_enumerate_1 _) (fun obj => F.args_object_init_2 obj _) F.entry_enumerate_new (enumT_new l items n dct sl) ⟨hl, ?_⟩
  have hz : (s.heap.push { cls := .type "tuple_iterator", data := .fields #[.ref l, .int 0 0] }).objs.size = s.heap.objs.size + 1 := Heap.size_push ..
  show _ ∧ _
  rw [hz]
  have he : IsEnum ((s.heap.push { cls := .type "tuple_iterator", data := .fields #[.ref l, .int 0 0] }).push { cls := .type "enumerate", data := .fields #[.none, .bool false, .ref s.heap.objs.size, rawInt 0, .none, .none] }) (s.heap.objs.size + 1) s.heap.objs.size 0 .none := by
    have q := Heap.get?_push_size (s.heap.push { cls := .type "tuple_iterator", data := .fields #[.ref l, .int 0 0] }) (o := { cls := .type "enumerate", data := .fields #[.none, .bool false, .ref s.heap.objs.size, rawInt 0, .none, .none] }) rfl
    rw [hz] at q
    exact q
  exact ⟨⟨_, he, rfl⟩, h _ he ⟨_, Heap.get?_push_of_some _ (Heap.get?_push_size _ rfl), rfl, rfl⟩ fun b o x => Heap.get?_push_of_some _ (Heap.get?_push_of_some _ x)⟩
end
def Itet (K : PySem.W.Frag) (a : Addr) : It :=
  ⟨fun i H => ∃ (xs : List V) (x : V), SqT K H a xs ∧ xs[i]? = some x, fun i H v H' => ∃ T x, v = .ref T ∧ H T = none ∧ H' = upd H T (.tup [.int (i : Nat), x]) ∧ ∀ xs, SqT K H a xs → xs[i]? = some x, fun i H => ∃ xs : List V, SqT K H a xs ∧ xs.length = i⟩
theorem turn_enumT {P : Program} {w : World} {K : PySem.W.Frag} {elts : List Expr} {kk : Nat} {tpos : Pos} (a e it : Addr) :
    Turn P w K (.Tuple elts kk tpos) (Itet K a) [e, it] e (fun i h => (∃ old, IsEnum h e it ((i : Nat) : Int) old) ∧ h.IsTupleIter it a i ∧ e ≠ it ∧ a ≠ it ∧ a ≠ e) where
  mem := by simp
  obj := fun i h st b hb => by
    obtain ⟨⟨old, he⟩, ⟨o, ho, hc, hd⟩, _⟩ := st
    rcases (show b = e ∨ b = it by simpa using hb) with z | z
    · rw [z]; exact ⟨_, he, fun v q => nomatch q⟩
    · rw [z]; exact ⟨o, ho, fun v q => by rw [hd] at q; cases q⟩
  keep := fun i h h' st k => let ⟨⟨old, he⟩, hi, hne⟩ := st; ⟨⟨old, k e (by simp) _ he⟩, hi.at fun o q => k it (by simp) o q, hne⟩
  item := by
    intro X hP hw hK hc i pins s σ H E I hf st hg
    subst hP hw hK
    obtain ⟨⟨old, he⟩, hit, hne, hai, hae⟩ := st
    obtain ⟨xs, x, hq, hx⟩ := hg
    obtain ⟨its, rv, p, hz⟩ := I.tuple hq
    obtain ⟨u, hu, ru⟩ := rv.get hx
    have hel : e < s.heap.objs.size := Heap.lt_size he
    have hil : it < s.heap.objs.size := by obtain ⟨_, q, _⟩ := hit; exact Heap.lt_size q
    have hu' : its.toArray[i]? = some u := by simpa using hu
    refine wpAny_pyNext_enum_itemD (Draws.tuple (A := X.A.in1) (show X.A.in1.handled = none from I.ok.hd hc) it a hai its.toArray) he ⟨hit, p⟩ (Array.getElem?_eq_some_iff.mp hu').1 hne (by simp [hne, Ne.symm hae]) fun y h' tk hy ho hst hT hsz hk => ?_
    obtain rfl : u = y := Option.some.inj (hu'.symm.trans hy)
    refine ⟨_, rfl, wpAny_letOwnedTupleGo_enum (s := { s with heap := h', toks := tk + 1 }) ho fun h'' he' sb => ?_⟩
    have hT2 : h''.get? s.heap.objs.size = some { cls := .type "tuple", data := .seq #[.int i tk, u] } := (sb.2 _ (Nat.ne_of_gt hel)).trans hT
    have new : ObjOk X.prog X.w (upd H s.heap.objs.size (.tup [.int (i : Nat), x])) h'' s.heap.objs.size (.tup [.int (i : Nat), x]) :=
      ⟨by show 2 ≤ sizeLine; decide, [.int i tk, u], .cons ⟨_, rfl⟩ (.cons ru .nil), ⟨_, hT2, rfl, _, rfl⟩⟩
    have I1 : Inv X pins σ (upd H s.heap.objs.size (.tup [.int (i : Nat), x])) { s with heap := h'', toks := tk + 1 } :=
      I.turnedNew (ch := [e, it]) (fun b ob hb q => (sb.2 b (fun z => hb (by simp [z]))).trans (hk b ob (fun z => hb (by simp [z])) (fun z => hb (by simp [z])) q)) hf (Nat.le_refl _) new
    refine ⟨.ref s.heap.objs.size, _, I1, rfl, ⟨_, x, rfl, I.hok.fresh (Nat.le_refl _), rfl, fun ys hy => by rw [I.tuple_inj hy hq]; exact hx⟩, ⟨⟨u, ?_⟩, hst.1.at fun o q => (sb.2 it (Ne.symm hne)).trans q, hne, hai, hae⟩, fun b hb => ?_⟩
    · rw [show ((i + 1 : Nat) : Int) = (i : Int) + 1 by omega]
      exact he'
    · have hb' : b < s.heap.objs.size := by
        rcases (show b = e ∨ b = it by simpa using hb) with z | z
        · rw [z]; exact hel
        · rw [z]; exact hil
      rw [upd_ne (Nat.ne_of_lt hb')]
      exact (hf b hb).1
  done := by
    intro X hP hw hK hc i pins s σ H E I hf st hg
    subst hP hw hK
    obtain ⟨⟨old, he⟩, hit, hne, hai, hae⟩ := st
    obtain ⟨xs, hq, hx⟩ := hg
    obtain ⟨its, rv, p, hz⟩ := I.tuple hq
    obtain ⟨f0, f1, f2, f3, f4, f5⟩ := hf it (by simp)
    have hl : xs.length = its.length := rv.length
    have hs : its.toArray.size = i := by rw [List.size_toArray]; omega
    exact wpAny_pyNext_enum_endD (Draws.tuple (A := X.A.in1) (show X.A.in1.handled = none from I.ok.hd hc) it a hai its.toArray) he (by rw [hs]; exact ⟨hit, p⟩) fun h' eb => ⟨rfl, I.turned (t' := s.toks) (fun b o hb q => eb b o hb q) f0 f1 f3 f4 f5⟩
  self := fun A i s Q E st h => let ⟨⟨_, he⟩, _⟩ := st; wpAny_pyIter_enum he h
def iEnumT (K : PySem.W.Frag) (ta : TA) : TI := fun σ H R => ta σ H fun vs H1 => ∃ a xs, vs = [.ref a] ∧ SqT K H1 a xs ∧ R (Itet K a) H1
theorem pi_enumT {X : Cx} {e : Expr} {ta : TA} {p pos tpos : Pos} {elts : List Expr} {kk : Nat} (hg : Gl X "enumerate") (hm : X.mg "enumerate" = none) (ha : PA X [e] ta) (hs : starEach [e] X.env = [(false, eval e X.env)] := by rfl) :
    PI X (.Tuple elts kk tpos) (.Call (.Name "enumerate" p) [e] [] pos) (iEnumT X.K ta) := by
  refine ⟨fun pins s σ H R I h => ?_⟩
  refine Call_ (ld_blt I hg hm boot_enumerate (PyProof.Rows.callWith_type1 (thn (ha.run pos pins s σ H _ I h) fun us s1 ⟨vs, H1, I1, r1, q1⟩ => ?_) hs rfl))
  obtain ⟨a, xs, ex, hq, q⟩ := q1
  subst ex
  cases r1 with
  | cons r rr =>
    cases rr
    cases r
    obtain ⟨its, rv, p', hz⟩ := I1.tuple hq
    have hal : a < s1.heap.objs.size := IsTup.lt p'
    refine enumT_call (show s1.heap.IsTuple a its.toArray from p') fun h' he hit hk => wpAny_pyIter_enum he ?_
    have I2 : Inv X pins σ H1 { s1 with heap := h' } := I1.kept (t' := s1.toks) hk
    refine ⟨s1.heap.objs.size + 1, [s1.heap.objs.size + 1, s1.heap.objs.size], _, _, H1, rfl, I2, turn_enumT a (s1.heap.objs.size + 1) s1.heap.objs.size, ⟨⟨.none, he⟩, hit, Nat.succ_ne_self _, Nat.ne_of_lt hal, Nat.ne_of_lt (Nat.lt_succ_of_lt hal)⟩, fun b hb => ?_, q⟩
    have hle : s1.heap.objs.size ≤ b := by
      rcases (show b = s1.heap.objs.size + 1 ∨ b = s1.heap.objs.size by simpa using hb) with z | z
      · rw [z]; exact Nat.le_add_right _ _
      · rw [z]; exact Nat.le_refl _
    exact I1.fpOk hle (I1.hok.fresh hle)
theorem walk_enumT {K : PySem.W.Frag} {a : Addr} {xs : List V} : Walk (Itet K a) xs.length (fun H => SqT K H a xs) (YPair (fun i => some (.int (i : Nat))) (fun i => xs[i]?)) := by
  refine ⟨fun i _ hi q => ⟨xs, xs[i], q, by simp [hi]⟩, fun _ q => ⟨xs, q, rfl⟩, fun i H v H' _ q y => ?_⟩
  obtain ⟨T, x, h1, h2, h3, h4⟩ := y
  exact ⟨T, .int (i : Nat), x, h1, h2, h3, rfl, h4 xs q⟩
end GX
set_option Elab.async false
set_option linter.all false
set_option maxRecDepth 100000
set_option maxHeartbeats 4000000
/-! t[::-1] of a tuple. -/
namespace GX
open PySem PySem.Spec PyProof.Rows L2 HT
section
variable {prog : Program} {w : World} {A : Around} {E : Value → Shared → Prop} {s : Shared}
theorem adj_rev (n : Nat) : Builtin.Slice.sliceAdjust none none (-1) (n : Int) = ((n : Int) - 1, -1) := by
  unfold Builtin.Slice.sliceAdjust
  rfl
theorem plc_rev (n : Nat) : Builtin.Slice.slicePlaces ((n : Int) - 1) (-1) (-1) = n := by
  unfold Builtin.Slice.slicePlaces
  rw [if_neg (by decide), show (-(-1 : Int)) = 1 by decide, Int.ediv_one]
  split <;> omega
theorem applied_rev {sl : Addr} {vl vu vs : Value} {n : Nat} {Q : Int × Int × Nat → Shared → Prop} (hs : s.heap.IsSliceOf sl vl vu vs) (pl : IsPart vl none) (pu : IsPart vu none) (ps : IsPart vs (some (-1)))
    (h : Q ((n : Int) - 1, -1, n) s) : wpAny (model prog w) A (Builtin.Slice.sliceApplied (.ref sl) (pure (n : Int))) Q E s := by
  obtain ⟨os, hos, hcs, hds⟩ := id hs
  unfold Builtin.Slice.sliceApplied Builtin.Slice.sliceFields
  refine wpAny_bind (wpAny_bind (wpAny_field hos hds (x := vl) rfl (wpAny_bind (wpAny_field hos hds (x := vu) rfl (wpAny_bind (wpAny_field hos hds (x := vs) rfl (wpAny_pure ?_)))))))
  refine wpAny_bind (slicePart_ ps ?_)
  show wpAny _ _ (if ((-1 : Int) == 0) = true then _ else _) _ _ s
  rw [if_neg (by decide)]
  refine wpAny_bind (slicePart_ pl (wpAny_bind (slicePart_ pu (wpAny_bind (wpAny_pure ?_)))))
  show wpAny _ _ (match Builtin.Slice.sliceAdjust none none (-1) (n : Int) with | (lo, hi) => pure (lo, (-1 : Int), Builtin.Slice.slicePlaces lo hi (-1))) _ _ s
  rw [adj_rev n]
  show wpAny _ _ (pure ((n : Int) - 1, (-1 : Int), Builtin.Slice.slicePlaces ((n : Int) - 1) (-1) (-1))) _ _ s
  rw [plc_rev]
  exact wpAny_pure h
theorem fm_congr {α β : Type} {f g : α → Option β} : ∀ {l : List α}, (∀ x ∈ l, f x = g x) → l.filterMap f = l.filterMap g
  | [], _ => rfl
  | a :: r, h => by
    rw [List.filterMap_cons, List.filterMap_cons, h a List.mem_cons_self, fm_congr fun x hx => h x (List.mem_cons_of_mem _ hx)]
theorem pick_rev (xs : Array Value) : ((List.range xs.size).filterMap fun (k : Nat) => xs[((xs.size : Int) - 1 + (k : Int) * (-1)).toNat]?).toArray = xs.toList.reverse.toArray := by
  have e : ((List.range xs.size).filterMap fun (k : Nat) => xs[((xs.size : Int) - 1 + (k : Int) * (-1)).toNat]?) = (((List.range xs.size).map fun k => xs.size - 1 - k).filterMap (xs[·]?)) := by
    rw [List.filterMap_map]
    refine fm_congr fun k hk => ?_
    have hk' := List.mem_range.mp hk
    show xs[((xs.size : Int) - 1 + (k : Int) * (-1)).toNat]? = xs[xs.size - 1 - k]?
    rw [show ((xs.size : Int) - 1 + (k : Int) * (-1)).toNat = xs.size - 1 - k by omega]
  rw [e, PySem.W.krv_range, List.filterMap_reverse, PySem.W.krv_all]
theorem item_rev {t sl : Addr} {items : Array Value} {vl vu vs : Value} {Q : Value → Shared → Prop} (ht : IsTup s.heap t items) (hs : s.heap.IsSliceOf sl vl vu vs) (pl : IsPart vl none) (pu : IsPart vu none) (ps : IsPart vs (some (-1)))
    (h : Q (.ref s.heap.objs.size) { s with heap := s.heap.push { cls := .type "tuple", data := .seq items.toList.reverse.toArray } })
    (hsz : items.size ≤ sizeLine) : wpAny (model prog w) A (getItem (.ref t) (.ref sl)) Q E s := by
  have htake : sizeOk (.seq items.toList.reverse.toArray) := by
    show items.toList.reverse.toArray.size ≤ sizeLine
    rw [List.size_toArray, List.length_reverse, Array.length_toList]
    exact hsz
  obtain ⟨os, hos, hcs, hds⟩ := id hs
  have hTs : s.TypeIs (.ref sl) "slice" := ⟨os, hos, hcs⟩
  unfold getItem
  try with_reducible refine wpAny_holding ?_
  first | refine wpAny_bind (wpAny_pure ?_) | skip
  refine wpAny_bind (wpAny_sequenceKey ht.typeIs (by decide) ?_)
  refine wpAny_bind (wpAny_callSpecial?_slot (name := Str.ofString "__getitem__") ht.typeIs PyProof.Rows.slot_tuple_getitem
    (wpAny_call_entry PyProof.Rows.slot_tuple_getitem ht.typeIs entry_tuple_getitem ?_ (args_tuple_getitem _ _)))
  show wpAny _ _ (Builtin.Tuple.tupleItemsOf (.ref t) >>= _) _ _ s
  refine wpAny_bind (tupleItemsOf_ ht ?_)
  refine wpAny_bind (wpAny_typeOf hTs ?_)
  rw [if_pos (by decide)]
  refine wpAny_bind (applied_rev hs pl pu ps ?_)
  have hno : ¬ (((((items.size : Int) - 1) == 0 && (-1 : Int) == 1) && items.size == items.size) = true) := by simp
  show wpAny _ _ (if ((((items.size : Int) - 1) == 0 && (-1 : Int) == 1) && items.size == items.size) = true then _ else _) _ _ s
  rw [if_neg hno, pick_rev]
  first
    | exact wpAny_bind (m := Builtin.Tuple.tupleExact _) (wpAny_newObj_type (wpAny_pure ⟨_, rfl, wpAny_pure h⟩) htake)
    | exact wpAny_bind (m := Builtin.Tuple.tupleExact _) (wpAny_newObj_type (wpAny_bind (wpAny_pure (wpAny_pure ⟨_, rfl, wpAny_pure h⟩))) htake)
    | exact wpAny_bind (wpAny_bind (m := Builtin.Tuple.tupleExact _) (wpAny_newObj_type (wpAny_pure (wpAny_pure ⟨_, rfl, wpAny_pure h⟩)) htake))
    | exact wpAny_bind (wpAny_bind (m := Builtin.Tuple.tupleExact _) (wpAny_newObj_type (wpAny_pure ⟨_, rfl, wpAny_pure h⟩) htake))
end
def tRevT (K : PySem.W.Frag) (te : TE) : TE := fun σ H Q => te σ H fun x H1 => ∃ a xs, x = .ref a ∧ SqT K H1 a xs ∧ ∀ p, H1 p = none → Q (.ref p) (upd H1 p (.tup xs.reverse))
theorem pe_revT {X : Cx} {e : Expr} {te : TE} {k : Nat} {p1 p2 p3 pos : Pos} (he : PE X e te) : PE X (.Subscript e (.Slice none none (some (.UnaryOp .USub (.Constant (.int 1) k p1) p2)) p3) pos) (tRevT X.K te) := by
  refine ⟨fun pins s σ H Q I h => ?_⟩
  refine Subscript_ (thn (he.run pins s σ H _ I h) fun v s1 ⟨x, H1, I1, r1, q1⟩ => ?_)
  obtain ⟨a, xs, ex, hx, q⟩ := q1
  subst ex
  cases r1
  have hst : PO X (some (.UnaryOp .USub (.Constant (.int 1) k p1) p2)) (tPart (tUn (rU fun i => .int (-i)) (tC (.int 1)))) := po_some (pe_un un_neg pe_int)
  refine wpAny_Slice (thn (po_none.run pins s1 σ H1 (fun o H2 => o = none ∧ H2 = H1) I1 ⟨rfl, rfl⟩) fun vl s2 ⟨l, H2, I2, pl, el, e2⟩ => ?_)
  subst el e2
  refine thn (po_none.run pins s2 σ H2 (fun o H3 => o = none ∧ H3 = H2) I2 ⟨rfl, rfl⟩) fun vu s3 ⟨u, H3, I3, pu, eu, e3⟩ => ?_
  subst eu e3
  refine thn (hst.run pins s3 σ H3 (fun o H4 => o = some (-1) ∧ H4 = H3) I3 ⟨1, rfl, -1, rfl, rfl, rfl⟩) fun vs s4 ⟨o, H4, I4, ps, eo, e4⟩ => ?_
  subst eo e4
  have I5 : Inv X pins σ H4 { s4 with heap := s4.heap.push { cls := .type "slice", data := .fields #[vl, vu, vs] } } := I4.kept (t' := s4.toks) fun b ob q => Heap.get?_push_of_some _ q
  obtain ⟨its, r, ht, hz⟩ := I5.tuple hx
  have hlen := r.length
  show wpAny (model X.prog X.w) X.A (subscriptTail e (.Slice none none (some (.UnaryOp .USub (.Constant (.int 1) k p1) p2)) p3) (.ref a) (.ref s4.heap.objs.size)) (EP X pins σ Q) X.xe { s4 with heap := s4.heap.push { cls := .type "slice", data := .fields #[vl, vu, vs] } }
  refine tail_any (ops := [.ref a, .ref s4.heap.objs.size]) ht.typeIs (PyProof.Rows.slot_tuple_getitem.lookup) ?_ (by with_unfolding_all rfl)
  refine item_rev ht (Heap.IsSliceOf.new _ vl vu vs) pl pu ps ?_ (by rw [List.size_toArray]; omega)
  refine ⟨.ref _, _, I5.laid (t' := s4.toks) (o := .tup xs.reverse) (fun b ob q => Heap.get?_push_of_some _ q) (Nat.le_refl _) ?_, rfl, q _ (I5.hok.fresh (Nat.le_refl _))⟩
  exact ⟨by rw [List.length_reverse]; exact hz, _, r.reverse, ⟨_, Heap.get?_push_size _ rfl, rfl, _, rfl⟩⟩
end GX
set_option Elab.async false
set_option linter.all false
set_option maxRecDepth 100000
set_option maxHeartbeats 4000000
/-! Things of any make, as they stand in the heap, and what is a net of them. -/
namespace GX
open PySem PySem.Spec PyProof.Rows L2
theorem pg_tupK {X : Cx} {K : PySem.W.Frag} {es : List Expr} {k : Nat} {t : TGs} {n : Nat} {pos : _} (h : X.K = K) (hc : X.calm = true) (hh : PGs X es t) (hn : (assignEach es X.env).length = n := by rfl) (hst : (assignEach es X.env).findIdx? (·.1) = none := by rfl) : PG X (.Tuple es k pos) (gTup K n t) := by subst h; exact pg_tup hc hh hn hst
inductive Th where
  | non | bl (b : Bool) | int (i : Int) | str (x : Str) | oth (l : Bool) | tup (ts : List Th)
mutual
inductive Rep (H : Hp) : V → Th → Prop
  | non : Rep H .non .non
  | bl (b : Bool) : Rep H (.bl b) (.bl b)
  | int (i : Int) : Rep H (.int i) (.int i)
  | str (x : Str) : Rep H (.str x) (.str x)
  | lst {a : Addr} {xs : List V} (e : H a = some (.lst xs)) : Rep H (.ref a) (.oth true)
  | dic {a : Addr} {kvs : List (Key × V)} (e : H a = some (.dK kvs)) : Rep H (.ref a) (.oth false)
  | tup {a : Addr} {vs : List V} {ts : List Th} (e : H a = some (.tup vs)) (r : RepAll H vs ts) : Rep H (.ref a) (.tup ts)
inductive RepAll (H : Hp) : List V → List Th → Prop
  | nil : RepAll H [] []
  | cons {v : V} {vs : List V} {t : Th} {ts : List Th} : Rep H v t → RepAll H vs ts → RepAll H (v :: vs) (t :: ts)
end
/-- lists, dicts and tuples stand -/
def KeepT (H H' : Hp) : Prop := ∀ b o, H b = some o → (∀ ps, o ≠ .tbl ps) → H' b = some o
mutual
theorem Rep.mono {H H' : Hp} (k : KeepT H H') : ∀ {v : V} {t : Th}, Rep H v t → Rep H' v t
  | _, _, .non => .non
  | _, _, .bl b => .bl b
  | _, _, .int i => .int i
  | _, _, .str x => .str x
  | _, _, .lst e => .lst (k _ _ e fun _ z => by cases z)
  | _, _, .dic e => .dic (k _ _ e fun _ z => by cases z)
  | _, _, .tup e r => .tup (k _ _ e fun _ z => by cases z) (r.mono k)
theorem RepAll.mono {H H' : Hp} (k : KeepT H H') : ∀ {vs : List V} {ts : List Th}, RepAll H vs ts → RepAll H' vs ts
  | _, _, .nil => .nil
  | _, _, .cons a b => .cons (a.mono k) (b.mono k)
end
theorem KeepT.same {H H' : Hp} (s : Same H H') : KeepT H H' := fun b o e _ => s b o e
theorem KeepT.aft {Ts : List Addr} {H H' : Hp} (t : Tabs Ts H) (a : Aft Ts H H') : KeepT H H' := fun b o e n => a.kp b o e (t.nott e n)
theorem RepAll.length {H : Hp} : ∀ {vs : List V} {ts : List Th}, RepAll H vs ts → vs.length = ts.length
  | _, _, .nil => rfl
  | _, _, .cons _ b => by rw [List.length_cons, List.length_cons, b.length]
theorem RepAll.get {H : Hp} : ∀ {vs : List V} {ts : List Th} {i : Nat} {v : V}, RepAll H vs ts → vs[i]? = some v → ∃ t, ts[i]? = some t ∧ Rep H v t
  | _, _, _, _, .nil, h => by simp at h
  | _, _, 0, _, .cons a _, h => by cases h; exact ⟨_, rfl, a⟩
  | _, _, i + 1, _, .cons _ b, h => RepAll.get (i := i) b h
theorem RepAll.append {H : Hp} : ∀ {vs ws : List V} {ts us : List Th}, RepAll H vs ts → RepAll H ws us → RepAll H (vs ++ ws) (ts ++ us)
  | _, _, _, _, .nil, s => s
  | _, _, _, _, .cons a b, s => .cons a (b.append s)
theorem RepAll.drop {H : Hp} : ∀ {vs : List V} {ts : List Th} (n : Nat), RepAll H vs ts → RepAll H (vs.drop n) (ts.drop n)
  | _, _, 0, r => r
  | _, _, _ + 1, .nil => .nil
  | _, _, n + 1, .cons _ b => b.drop n
theorem RepAll.take {H : Hp} : ∀ {vs : List V} {ts : List Th} (n : Nat), RepAll H vs ts → RepAll H (vs.take n) (ts.take n)
  | _, _, 0, _ => .nil
  | _, _, _ + 1, .nil => .nil
  | _, _, n + 1, .cons a b => .cons a (b.take n)
theorem RepAll.reverse {H : Hp} : ∀ {vs : List V} {ts : List Th}, RepAll H vs ts → RepAll H vs.reverse ts.reverse
  | _, _, .nil => .nil
  | _, _, .cons a b => by
    rw [List.reverse_cons, List.reverse_cons]
    exact b.reverse.append (.cons a .nil)
def tyN : Th → String
  | .non => "NoneType"
  | .bl _ => "bool"
  | .int _ => "int"
  | .str _ => "str"
  | .oth true => "list"
  | .oth false => "dict"
  | .tup _ => "tuple"
theorem tyx {K : PySem.W.Frag} {H : Hp} {v : V} {t : Th} (r : Rep H v t) : TyX K H v (.type (tyN t)) := by
  cases r with
  | non => exact .base .non
  | bl b => exact .base (.bl b)
  | int i => exact .base (.int i)
  | str x => exact .base (.str x)
  | lst e => exact .base (.lst e)
  | dic e => exact .base (.dK e)
  | tup e _ => exact .base (.tup e)
def Th.kInt : Th → Bool
  | .bl _ => true
  | .int _ => true
  | _ => false
def Th.kBool : Th → Bool
  | .bl _ => true
  | _ => false
def Th.kTup : Th → Bool
  | .tup _ => true
  | _ => false
theorem kInt_ok : ∀ t : Th, kitB (tyN t) "int" = some t.kInt
  | .non => by decide +kernel
  | .bl _ => by show kitB "bool" "int" = some true; decide +kernel
  | .int _ => by show kitB "int" "int" = some true; decide +kernel
  | .str _ => by show kitB "str" "int" = some false; decide +kernel
  | .oth true => by show kitB "list" "int" = some false; decide +kernel
  | .oth false => by show kitB "dict" "int" = some false; decide +kernel
  | .tup _ => by show kitB "tuple" "int" = some false; decide +kernel
theorem kBool_ok : ∀ t : Th, kitB (tyN t) "bool" = some t.kBool
  | .non => by decide +kernel
  | .bl _ => by show kitB "bool" "bool" = some true; decide +kernel
  | .int _ => by show kitB "int" "bool" = some false; decide +kernel
  | .str _ => by show kitB "str" "bool" = some false; decide +kernel
  | .oth true => by show kitB "list" "bool" = some false; decide +kernel
  | .oth false => by show kitB "dict" "bool" = some false; decide +kernel
  | .tup _ => by show kitB "tuple" "bool" = some false; decide +kernel
theorem kTup_ok : ∀ t : Th, kitB (tyN t) "tuple" = some t.kTup
  | .non => by decide +kernel
  | .bl _ => by show kitB "bool" "tuple" = some false; decide +kernel
  | .int _ => by show kitB "int" "tuple" = some false; decide +kernel
  | .str _ => by show kitB "str" "tuple" = some false; decide +kernel
  | .oth true => by show kitB "list" "tuple" = some false; decide +kernel
  | .oth false => by show kitB "dict" "tuple" = some false; decide +kernel
  | .tup _ => by show kitB "tuple" "tuple" = some true; decide +kernel
/-! ### what is a net -/
def Th.whole : Th → Bool
  | .int _ => true
  | _ => false
def Th.isB (b : Int) : Th → Bool
  | .int i => decide (0 ≤ i) && decide (i < b)
  | _ => false
def Th.many : Th → Bool
  | .int i => decide (1 ≤ i) && decide (i ≤ 8)
  | _ => false
def Th.gate (w : Int) : Th → Bool
  | .tup [k, a, b] => k.isB 16 && a.isB w && b.isB w
  | _ => false
def gatesFrom (w : Int) : List Th → Bool
  | [] => true
  | t :: r => t.gate w && gatesFrom (w + 1) r
def Th.gates (m : Int) : Th → Bool
  | .tup ts => decide (ts.length ≤ 16) && gatesFrom m ts
  | _ => false
def Th.outs (c : Int) : Th → Bool
  | .tup ts => decide (1 ≤ ts.length) && decide (ts.length ≤ 8) && ts.all (Th.isB c)
  | _ => false
def Th.val : Th → Int
  | .int i => i
  | _ => 0
def Th.len : Th → Nat
  | .tup ts => ts.length
  | _ => 0
def Th.net : Th → Bool
  | .tup [m, g, o] => m.many && g.gates m.val && o.outs (m.val + g.len)
  | _ => false
theorem gatesFrom_split (w : Int) : ∀ (ts : List Th) (i : Nat), gatesFrom w ts = (gatesFrom w (ts.take i) && gatesFrom (w + min i ts.length) (ts.drop i))
  | [], i => by simp [gatesFrom]
  | t :: r, 0 => by simp [gatesFrom]
  | t :: r, i + 1 => by
    show (t.gate w && gatesFrom (w + 1) r) = ((t.gate w && gatesFrom (w + 1) (r.take i)) && gatesFrom (w + ((min (i + 1) (r.length + 1) : Nat) : Int)) (r.drop i))
    rw [gatesFrom_split (w + 1) r i, Bool.and_assoc, show (w + 1 + ((min i r.length : Nat) : Int)) = w + ((min (i + 1) (r.length + 1) : Nat) : Int) by omega]
theorem gatesFrom_snoc {w : Int} {ts : List Th} {i : Nat} {t : Th} (h : ts[i]? = some t) : gatesFrom w (ts.take (i + 1)) = (gatesFrom w (ts.take i) && t.gate (w + i)) := by
  obtain ⟨hl, _⟩ := List.getElem?_eq_some_iff.mp h
  rw [gatesFrom_split w (ts.take (i + 1)) i, List.take_take, Nat.min_eq_left (Nat.le_succ i)]
  congr 1
  rw [List.take_add_one, h, List.drop_append_of_le_length (by rw [List.length_take]; omega), List.drop_of_length_le (by rw [List.length_take]; omega), Option.toList_some, List.nil_append]
  show (t.gate _ && gatesFrom _ []) = _
  rw [show gatesFrom (w + ((min i (ts.take i ++ [t]).length : Nat) : Int) + 1) [] = true from rfl, Bool.and_true, List.length_append, List.length_take]
  congr 1
  simp only [List.length_cons, List.length_nil]
  omega
theorem gatesFrom_bad {w : Int} {ts : List Th} {i : Nat} {t : Th} (h : ts[i]? = some t) (hf : t.gate (w + i) = false) : gatesFrom w ts = false := by
  rw [gatesFrom_split w ts (i + 1), gatesFrom_snoc h, hf, Bool.and_false, Bool.false_and]
end GX
set_option Elab.async false
set_option linter.all false
set_option maxRecDepth 100000
set_option maxHeartbeats 4000000
/-! Things of whole numbers and tuples alone, no longer than n, no deeper than d. -/
namespace GX
open PySem PySem.Spec PyProof.Rows L2
def Th.pl (n : Nat) : Nat → Th → Bool
  | 0, _ => false
  | _ + 1, .int _ => true
  | d + 1, .tup ts => decide (ts.length ≤ n) && ts.all (Th.pl n d)
  | _ + 1, _ => false
/-- tuples stand -/
def KeepU (H H' : Hp) : Prop := ∀ b xs, H b = some (.tup xs) → H' b = some (.tup xs)
theorem KeepU.trans {H H1 H2 : Hp} (a : KeepU H H1) (b : KeepU H1 H2) : KeepU H H2 := fun c xs e => b c xs (a c xs e)
theorem KeepU.same {H H' : Hp} (s : Same H H') : KeepU H H' := fun b xs e => s b _ e
theorem KeepU.well {H H' : Hp} {W : Addr} (h : Wl H W) (k : Keep [W] H H') : KeepU H H' := k.tups h.nt
theorem pl_monoAll {H H' : Hp} {n d : Nat} (ih : ∀ v t, Th.pl n d t = true → Rep H v t → Rep H' v t) : ∀ {vs : List V} {ts : List Th}, ts.all (Th.pl n d) = true → RepAll H vs ts → RepAll H' vs ts
  | _, _, _, .nil => .nil
  | _, _, p, .cons a b => by
    rw [List.all_cons, Bool.and_eq_true] at p
    exact .cons (ih _ _ p.1 a) (pl_monoAll ih p.2 b)
theorem pl_mono {H H' : Hp} {n : Nat} (k : KeepU H H') : ∀ (d : Nat) (v : V) (t : Th), Th.pl n d t = true → Rep H v t → Rep H' v t
  | 0, _, _, p, _ => by cases p
  | d + 1, v, t, p, r => by
    cases r with
    | int i => exact .int i
    | @tup a vs ts e ra =>
      have p' : (decide (ts.length ≤ n) && ts.all (Th.pl n d)) = true := p
      rw [Bool.and_eq_true] at p'
      exact .tup (k _ _ e) (pl_monoAll (pl_mono k d) p'.2 ra)
    | _ => cases p
theorem pl_le {n m : Nat} (h : n ≤ m) : ∀ (d : Nat) (t : Th), Th.pl n d t = true → Th.pl m d t = true
  | 0, _, p => by cases p
  | d + 1, t, p => by
    cases t with
    | int i => rfl
    | tup ts =>
      have p' : (decide (ts.length ≤ n) && ts.all (Th.pl n d)) = true := p
      rw [Bool.and_eq_true] at p'
      show (decide (ts.length ≤ m) && ts.all (Th.pl m d)) = true
      rw [Bool.and_eq_true]
      refine ⟨decide_eq_true (Nat.le_trans (of_decide_eq_true p'.1) h), ?_⟩
      rw [List.all_eq_true]
      intro x hx
      exact pl_le h d x (List.all_eq_true.mp p'.2 x hx)
    | _ => cases p
theorem pl_dpAll {K : PySem.W.Frag} {H : Hp} {n d : Nat} (ih : ∀ v t, Th.pl n d t = true → Rep H v t → ∃ x, Dp K H v x ∧ x.canLay0 = true ∧ x.depth ≤ d) :
    ∀ {vs : List V} {ts : List Th}, ts.all (Th.pl n d) = true → RepAll H vs ts → ∃ xs, DpAll K H vs xs ∧ PyData.canLayAll0 xs = true ∧ PyData.depthAll xs ≤ d ∧ xs.length = vs.length
  | _, _, _, .nil => ⟨[], .nil, rfl, Nat.zero_le _, rfl⟩
  | _, _, p, .cons a b => by
    rw [List.all_cons, Bool.and_eq_true] at p
    obtain ⟨x, h1, h2, h3⟩ := ih _ _ p.1 a
    obtain ⟨xs, g1, g2, g3, g4⟩ := pl_dpAll ih p.2 b
    refine ⟨x :: xs, .cons h1 g1, ?_, ?_, by rw [List.length_cons, List.length_cons, g4]⟩
    · show (x.canLay0 && PyData.canLayAll0 xs) = true
      rw [h2, g2]
      rfl
    · show max x.depth (PyData.depthAll xs) ≤ d
      omega
theorem pl_dp {K : PySem.W.Frag} {H : Hp} {n : Nat} : ∀ (d : Nat) (v : V) (t : Th), Th.pl n d t = true → Rep H v t → ∃ x, Dp K H v x ∧ x.canLay0 = true ∧ x.depth ≤ d
  | 0, v, t, p, r => by cases p
  | d + 1, v, t, p, r => by
    cases r with
    | int i => exact ⟨.int i, .int i, rfl, Nat.zero_le _⟩
    | @tup a vs ts e ra =>
      have p' : (decide (ts.length ≤ n) && ts.all (Th.pl n d)) = true := p
      rw [Bool.and_eq_true] at p'
      obtain ⟨xs, g1, g2, g3, _⟩ := pl_dpAll (pl_dp d) p'.2 ra
      exact ⟨.tuple xs, .tup (SqT.of e) g1, g2, Nat.succ_le_succ g3⟩
    | _ => cases p
/-- things of the values: whole numbers and tuples -/
def Pl (n d : Nat) (H : Hp) (v : V) : Prop := ∃ t, Rep H v t ∧ Th.pl n d t = true
def PlAll (n d : Nat) (H : Hp) (vs : List V) : Prop := ∃ ts, RepAll H vs ts ∧ ts.all (Th.pl n d) = true
theorem Pl.mono {n d : Nat} {H H' : Hp} {v : V} (h : Pl n d H v) (k : KeepU H H') : Pl n d H' v := let ⟨t, r, p⟩ := h; ⟨t, pl_mono k d v t p r, p⟩
theorem PlAll.mono {n d : Nat} {H H' : Hp} {vs : List V} (h : PlAll n d H vs) (k : KeepU H H') : PlAll n d H' vs := let ⟨ts, r, p⟩ := h; ⟨ts, pl_monoAll (pl_mono k d) p r, p⟩
theorem all_sub {α : Type} {f : α → Bool} {xs ys : List α} (h : xs.all f = true) (s : ∀ x ∈ ys, x ∈ xs) : ys.all f = true := by
  rw [List.all_eq_true] at h ⊢
  exact fun x hx => h x (s x hx)
theorem PlAll.drop {n d : Nat} {H : Hp} {vs : List V} (i : Nat) (h : PlAll n d H vs) : PlAll n d H (vs.drop i) := let ⟨ts, r, p⟩ := h; ⟨ts.drop i, r.drop i, all_sub p fun _ hx => List.mem_of_mem_drop hx⟩
theorem PlAll.take {n d : Nat} {H : Hp} {vs : List V} (i : Nat) (h : PlAll n d H vs) : PlAll n d H (vs.take i) := let ⟨ts, r, p⟩ := h; ⟨ts.take i, r.take i, all_sub p fun _ hx => List.mem_of_mem_take hx⟩
theorem PlAll.cut {n d : Nat} {H : Hp} {vs : List V} (lo hi : Option Int) (h : PlAll n d H vs) : PlAll n d H (cutV vs lo hi) := by
  unfold cutV
  exact (h.drop _).take _
theorem PlAll.reverse {n d : Nat} {H : Hp} {vs : List V} (h : PlAll n d H vs) : PlAll n d H vs.reverse := let ⟨ts, r, p⟩ := h; ⟨ts.reverse, r.reverse, all_sub p fun _ hx => List.mem_reverse.mp hx⟩
theorem PlAll.append {n d : Nat} {H : Hp} {vs ws : List V} (h : PlAll n d H vs) (g : PlAll n d H ws) : PlAll n d H (vs ++ ws) := let ⟨ts, r, p⟩ := h; let ⟨us, s, q⟩ := g; ⟨ts ++ us, r.append s, by rw [List.all_append, p, q]; rfl⟩
theorem PlAll.one {n d : Nat} {H : Hp} {v : V} (h : Pl n d H v) : PlAll n d H [v] := let ⟨t, r, p⟩ := h; ⟨[t], .cons r .nil, by rw [List.all_cons, p]; rfl⟩
theorem PlAll.get {n d : Nat} {H : Hp} {vs : List V} {i : Nat} {v : V} (h : PlAll n d H vs) (e : vs[i]? = some v) : Pl n d H v := by
  obtain ⟨ts, r, p⟩ := h
  obtain ⟨t, ht, rt⟩ := r.get e
  exact ⟨t, rt, List.all_eq_true.mp p t (List.mem_of_getElem? ht)⟩
theorem PlAll.le {n m d : Nat} {H : Hp} {vs : List V} (h : PlAll n d H vs) (l : n ≤ m) : PlAll m d H vs := let ⟨ts, r, p⟩ := h; ⟨ts, r, by
  rw [List.all_eq_true] at p ⊢
  exact fun x hx => pl_le l d x (p x hx)⟩
theorem Pl.tup {n d : Nat} {H : Hp} {a : Addr} {vs : List V} (e : H a = some (.tup vs)) (hl : vs.length ≤ n) (h : PlAll n d H vs) : Pl n (d + 1) H (.ref a) := by
  obtain ⟨ts, r, p⟩ := h
  refine ⟨.tup ts, .tup e r, ?_⟩
  show (decide (ts.length ≤ n) && ts.all (Th.pl n d)) = true
  rw [p, Bool.and_true]
  exact decide_eq_true (by rw [← r.length]; exact hl)
theorem Pl.int {n d : Nat} {H : Hp} (i : Int) : Pl n (d + 1) H (.int i) := ⟨.int i, .int i, rfl⟩
/-- what it is: a number or a tuple -/
theorem Pl.inv {n d : Nat} {H : Hp} {v : V} (h : Pl n (d + 1) H v) : (∃ i, v = .int i) ∨ ∃ a vs, v = .ref a ∧ H a = some (.tup vs) ∧ vs.length ≤ n ∧ PlAll n d H vs := by
  obtain ⟨t, r, p⟩ := h
  cases r with
  | int i => exact .inl ⟨i, rfl⟩
  | @tup a vs ts e ra =>
    have p' : (decide (ts.length ≤ n) && ts.all (Th.pl n d)) = true := p
    rw [Bool.and_eq_true] at p'
    exact .inr ⟨a, vs, rfl, e, by rw [ra.length]; exact of_decide_eq_true p'.1, ts, ra, p'.2⟩
  | _ => cases p
theorem cut_len (xs : List V) (lo hi : Option Int) : (cutV xs lo hi).length ≤ xs.length := by
  unfold cutV
  rw [List.length_take, List.length_drop]
  omega
theorem PlAll.dp {K : PySem.W.Frag} {n d : Nat} {H : Hp} {vs : List V} (h : PlAll n d H vs) : ∃ xs, DpAll K H vs xs ∧ PyData.canLayAll0 xs = true ∧ PyData.depthAll xs ≤ d ∧ xs.length = vs.length := let ⟨_, r, p⟩ := h; pl_dpAll (pl_dp d) p r
theorem eqvAll_nil (xs : List PyData) : PyData.eqvAll xs [] = decide (xs.length = 0) := by
  cases xs with
  | nil => rfl
  | cons x r => rfl
/-- t == () and l == [] -/
theorem shaped_tup {xs : List PyData} {d : Nat} (h1 : PyData.canLayAll0 xs = true) (h2 : PyData.depthAll xs ≤ d) (h3 : d < 64) : SeqAt.shaped (.tuple xs) = true := by
  show (PyData.canLayAll0 xs && decide (PyData.depthAll xs + 1 ≤ 64)) = true
  rw [h1, decide_eq_true (by omega)]
  rfl
theorem shaped_lst {xs : List PyData} {d : Nat} (h1 : PyData.canLayAll0 xs = true) (h2 : PyData.depthAll xs ≤ d) (h3 : d < 64) : SeqAt.shaped (.list xs) = true := by
  show (PyData.canLayAll0 xs && decide (PyData.depthAll xs + 1 ≤ 64)) = true
  rw [h1, decide_eq_true (by omega)]
  rfl
end GX
set_option Elab.async false
set_option linter.all false
set_option maxRecDepth 100000
set_option maxHeartbeats 4000000
/-! Tables without their idle places. -/
namespace GX
open PySem PySem.Spec PyProof.Rows L2
/-- bit j of r goes to place K[j] -/
def spread : List Nat → Nat → Nat
  | [], _ => 0
  | k :: K, r => 2 ^ k * (r % 2) + spread K (r / 2)
/-- bit K[j] of N comes to place j -/
def pick : List Nat → Nat → Nat
  | [], _ => 0
  | k :: K, N => N / 2 ^ k % 2 + 2 * pick K N
theorem ins_low2 (p r : Nat) : ins (p + 1) r % 2 = r % 2 := by
  have h : (ins (p + 1) r).testBit 0 = r.testBit 0 := by rw [ins_bit, if_pos (Nat.succ_pos _)]
  rw [Nat.testBit_zero, Nat.testBit_zero] at h
  have h' := decide_eq_decide.mp h
  omega
theorem ins_half (p r : Nat) : ins (p + 1) r / 2 = ins p (r / 2) := by
  apply Nat.eq_of_testBit_eq
  intro j
  rw [← Nat.testBit_add_one, ins_bit, ins_bit]
  by_cases h : j < p
  · rw [if_pos (by omega), if_pos h, Nat.testBit_add_one]
  · rw [if_neg (by omega), if_neg h]
    by_cases e : j = p
    · rw [if_pos (by omega), if_pos e]
    · rw [if_neg (by omega), if_neg e, ← Nat.testBit_add_one]
      congr 1
      omega
theorem ins_zero (r : Nat) : ins 0 r = 2 * r := by
  unfold ins
  rw [Nat.pow_zero, Nat.div_one, Nat.mod_one]
  omega
theorem spread_ins : ∀ (K : List Nat) (p r : Nat), p < K.length → spread K (ins p r) = spread (K.eraseIdx p) r
  | [], p, r, h => absurd h (Nat.not_lt_zero _)
  | k :: K, 0, r, _ => by
    show 2 ^ k * (ins 0 r % 2) + spread K (ins 0 r / 2) = spread K r
    rw [ins_zero, Nat.mul_mod_right, Nat.mul_zero, Nat.zero_add, Nat.mul_div_cancel_left _ (by decide)]
  | k :: K, p + 1, r, h => by
    show 2 ^ k * (ins (p + 1) r % 2) + spread K (ins (p + 1) r / 2) = 2 ^ k * (r % 2) + spread (K.eraseIdx p) (r / 2)
    rw [ins_low2, ins_half, spread_ins K p (r / 2) (Nat.lt_of_succ_lt_succ h)]
theorem spread_range' : ∀ (m b r : Nat), r < 2 ^ m → spread (List.range' b m) r = 2 ^ b * r
  | 0, b, r, h => by
    have : r = 0 := by rw [Nat.pow_zero] at h; omega
    rw [this]
    rfl
  | m + 1, b, r, h => by
    rw [List.range'_succ]
    show 2 ^ b * (r % 2) + spread (List.range' (b + 1) m) (r / 2) = _
    rw [spread_range' m (b + 1) (r / 2) (by rw [Nat.pow_succ] at h; omega), Nat.pow_succ, Nat.mul_assoc, ← Nat.mul_add]
    congr 1
    omega
theorem spread_range {m r : Nat} (h : r < 2 ^ m) : spread (List.range m) r = r := by
  rw [List.range_eq_range', spread_range' m 0 r h, Nat.pow_zero, Nat.one_mul]
theorem spread_dvd : ∀ (K : List Nat) (b r : Nat), (∀ x ∈ K, b ≤ x) → ∃ T, spread K r = 2 ^ b * T
  | [], b, r, _ => ⟨0, rfl⟩
  | k :: K, b, r, h => by
    obtain ⟨T, e⟩ := spread_dvd K b (r / 2) fun x hx => h x (List.mem_cons_of_mem _ hx)
    obtain ⟨d, hd⟩ : ∃ d, k = b + d := ⟨k - b, by have := h k List.mem_cons_self; omega⟩
    refine ⟨2 ^ d * (r % 2) + T, ?_⟩
    show 2 ^ k * (r % 2) + spread K (r / 2) = _
    rw [e, hd, Nat.pow_add, Nat.mul_add, Nat.mul_assoc]
theorem spread_bit : ∀ (K : List Nat) (r j : Nat), K.Pairwise (· < ·) → (spread K r).testBit j = (decide (j ∈ K) && r.testBit (ixOf j K))
  | [], r, j, _ => by
    rw [decide_eq_false List.not_mem_nil, Bool.false_and]
    exact Nat.zero_testBit j
  | k :: K, r, j, h => by
    obtain ⟨h1, h2⟩ := List.pairwise_cons.mp h
    obtain ⟨T, eT⟩ := spread_dvd K (k + 1) (r / 2) fun x hx => h1 x hx
    have ih := spread_bit K (r / 2) j h2
    have e1 : spread (k :: K) r = 2 ^ k * (r % 2 + 2 * T) := by
      show 2 ^ k * (r % 2) + spread K (r / 2) = _
      rw [eT, Nat.pow_succ, Nat.mul_add, Nat.mul_assoc]
    rw [e1, Nat.testBit_two_pow_mul]
    rw [eT, Nat.testBit_two_pow_mul] at ih
    by_cases hj : j < k
    · rw [decide_eq_false (by omega), Bool.false_and, decide_eq_false, Bool.false_and]
      intro z
      rcases List.mem_cons.mp z with z | z
      · omega
      · have := h1 j z
        omega
    · rw [decide_eq_true (by omega), Bool.true_and]
      by_cases e : k = j
      · subst e
        rw [Nat.sub_self, Nat.testBit_zero, decide_eq_true List.mem_cons_self, Bool.true_and]
        show _ = r.testBit (if k = k then 0 else _)
        rw [if_pos rfl, Nat.testBit_zero, show (r % 2 + 2 * T) % 2 = r % 2 by omega]
      · obtain ⟨d, hd⟩ : ∃ d, j - k = d + 1 := ⟨j - k - 1, by omega⟩
        rw [hd, Nat.testBit_add_one, show (r % 2 + 2 * T) / 2 = T by omega]
        rw [decide_eq_true (by omega), Bool.true_and, show j - (k + 1) = d by omega] at ih
        rw [ih]
        show _ = (decide (j ∈ k :: K) && r.testBit (if k = j then 0 else ixOf j K + 1))
        rw [if_neg e, ← Nat.testBit_add_one]
        congr 1
        rw [decide_eq_decide]
        exact ⟨fun z => List.mem_cons_of_mem _ z, fun z => (List.mem_cons.mp z).resolve_left (Ne.symm e)⟩
theorem pick_lt : ∀ (K : List Nat) (N : Nat), pick K N < 2 ^ K.length
  | [], _ => Nat.one_pos
  | k :: K, N => by
    have := pick_lt K N
    show N / 2 ^ k % 2 + 2 * pick K N < 2 ^ (K.length + 1)
    rw [Nat.pow_succ]
    omega
theorem pick_bit : ∀ (K : List Nat) (N i : Nat), i < K.length → (pick K N).testBit i = N.testBit (K.getD i 0)
  | [], N, i, h => absurd h (Nat.not_lt_zero _)
  | k :: K, N, 0, _ => by
    show (N / 2 ^ k % 2 + 2 * pick K N).testBit 0 = N.testBit k
    rw [Nat.testBit_zero, Nat.testBit_eq_decide_div_mod_eq, show (N / 2 ^ k % 2 + 2 * pick K N) % 2 = N / 2 ^ k % 2 by omega]
  | k :: K, N, i + 1, h => by
    show (N / 2 ^ k % 2 + 2 * pick K N).testBit (i + 1) = N.testBit (K.getD i 0)
    rw [Nat.testBit_add_one, show (N / 2 ^ k % 2 + 2 * pick K N) / 2 = pick K N by omega]
    exact pick_bit K N i (Nat.lt_of_succ_lt_succ h)
theorem spread_pick {K : List Nat} (h : K.Pairwise (· < ·)) (N j : Nat) : (spread K (pick K N)).testBit j = (decide (j ∈ K) && N.testBit j) := by
  rw [spread_bit K _ j h]
  by_cases e : j ∈ K
  · obtain ⟨h1, h2⟩ := ixOf_lt e
    rw [pick_bit K N _ h1, h2]
  · rw [decide_eq_false e, Bool.false_and, Bool.false_and]
/-- what stays -/
def keptK (m : Nat) (bits : List Nat) : List Nat := (List.range m).filter fun p => !idleAt bits p
def trimK (m : Nat) (bits : List Nat) : List Nat := if keptK m bits = [] then [0] else keptK m bits
def selB (K bits : List Nat) : List Nat := (List.range (2 ^ K.length)).map fun r => bits.getD (spread K r) 0
def trimT (t : List Nat × List Nat) : List Nat × List Nat := ((trimK t.1.length t.2).map fun k => t.1.getD k 0, selB (trimK t.1.length t.2) t.2)
theorem selB_len (K bits : List Nat) : (selB K bits).length = 2 ^ K.length := by unfold selB; rw [List.length_map, List.length_range]
theorem selB_at {K bits : List Nat} {r : Nat} (h : r < 2 ^ K.length) : (selB K bits).getD r 0 = bits.getD (spread K r) 0 := getD_map h
theorem trimK_rise (m : Nat) (bits : List Nat) : (trimK m bits).Pairwise (· < ·) := by
  unfold trimK
  split
  · exact List.pairwise_singleton _ _
  · exact List.Pairwise.filter _ List.pairwise_lt_range
theorem trimK_lt {m : Nat} (hm : 1 ≤ m) (bits : List Nat) : ∀ x ∈ trimK m bits, x < m := by
  unfold trimK
  split
  · intro x hx
    rw [List.mem_singleton.mp hx]
    omega
  · intro x hx
    exact List.mem_range.mp (List.mem_filter.mp hx).1
theorem trimK_ne (m : Nat) (bits : List Nat) : 1 ≤ (trimK m bits).length := by
  unfold trimK
  split
  · exact Nat.le_refl _
  · rename_i h
    exact List.length_pos_iff.mpr h
theorem trimK_len {m : Nat} (hm : 1 ≤ m) (bits : List Nat) : (trimK m bits).length ≤ m := nodup_lt ((trimK_rise m bits).imp fun h => Nat.ne_of_lt h) (trimK_lt hm bits)
theorem idle_of {m : Nat} {bits : List Nat} {p : Nat} (hp : p < m) (h : p ∉ trimK m bits) : idleAt bits p = true := by
  unfold trimK at h
  cases e : idleAt bits p with
  | true => rfl
  | false =>
    exfalso
    have hk : p ∈ keptK m bits := List.mem_filter.mpr ⟨List.mem_range.mpr hp, by rw [e]; rfl⟩
    rw [if_neg (fun z => by rw [z] at hk; cases hk)] at h
    exact h hk
theorem idle_clrs {bits : List Nat} {m : Nat} (hl : bits.length = 2 ^ m) : ∀ (G : List Nat) (N : Nat), (∀ p ∈ G, idleAt bits p = true) → N < 2 ^ m → bits.getD N 0 = bits.getD (clrs G N) 0
  | [], N, _, _ => rfl
  | p :: G, N, h, hN => by
    show _ = bits.getD (clrs G (clr N p)) 0
    have hlt : clr N p < 2 ^ m := Nat.lt_of_le_of_lt (clr_le N p) hN
    rw [← idle_clrs hl G (clr N p) (fun x hx => h x (List.mem_cons_of_mem _ hx)) hlt]
    unfold clr
    by_cases e : N / 2 ^ p % 2 = 0
    · rw [e, Nat.zero_mul, Nat.sub_zero]
    · have := idleAt_iff.mp (h p List.mem_cons_self) N (by rw [hl]; exact hN)
      rw [xor_pow, if_neg e] at this
      rw [show N / 2 ^ p % 2 = 1 by omega, Nat.one_mul]
      exact this
theorem trim_val {bits : List Nat} {m N : Nat} (hl : bits.length = 2 ^ m) (hm : 1 ≤ m) (hN : N < 2 ^ m) : (selB (trimK m bits) bits).getD (pick (trimK m bits) N) 0 = bits.getD N 0 := by
  rw [selB_at (pick_lt _ _), idle_clrs hl ((List.range m).filter fun p => decide (p ∉ trimK m bits)) N (fun p hp => ?_) hN]
  · congr 1
    apply Nat.eq_of_testBit_eq
    intro j
    rw [spread_pick (trimK_rise m bits), clrs_bit]
    by_cases hj : j < m
    · by_cases e : j ∈ trimK m bits
      · rw [decide_eq_true e, Bool.true_and, decide_eq_true, Bool.and_true]
        intro z
        exact of_decide_eq_true (List.mem_filter.mp z).2 e
      · rw [decide_eq_false e, Bool.false_and, decide_eq_false, Bool.and_false]
        exact fun z => z (List.mem_filter.mpr ⟨List.mem_range.mpr hj, decide_eq_true e⟩)
    · rw [Nat.testBit_lt_two_pow (Nat.lt_of_lt_of_le hN (Nat.pow_le_pow_right (by decide) (by omega))), Bool.and_false, Bool.false_and]
  · obtain ⟨h1, h2⟩ := List.mem_filter.mp hp
    exact idle_of (List.mem_range.mp h1) (of_decide_eq_true h2)
theorem map_range_self (xs : List Nat) : (List.range xs.length).map (fun k => xs.getD k 0) = xs := by
  apply eqNats (by rw [List.length_map, List.length_range])
  intro i hi
  rw [List.length_map, List.length_range] at hi
  exact getD_map hi
theorem selB_range {bits : List Nat} {m : Nat} (hl : bits.length = 2 ^ m) : selB (List.range m) bits = bits := by
  apply eqNats (by rw [selB_len, List.length_range, hl])
  intro i hi
  rw [selB_len, List.length_range] at hi
  rw [selB_at (by rw [List.length_range]; exact hi), spread_range hi]
theorem pick_xor {K : List Nat} (h : K.Pairwise (· < ·)) {i : Nat} (hi : i < K.length) (N : Nat) : pick K (N ^^^ 2 ^ K.getD i 0) = pick K N ^^^ 2 ^ i := by
  have nd : K.Nodup := h.imp fun h => Nat.ne_of_lt h
  apply Nat.eq_of_testBit_eq
  intro j
  by_cases hj : j < K.length
  · rw [pick_bit K _ j hj, Nat.testBit_xor, Nat.testBit_xor, pick_bit K _ j hj, Nat.testBit_two_pow, Nat.testBit_two_pow]
    congr 1
    rw [decide_eq_decide]
    refine ⟨fun e => ?_, fun e => by rw [e]⟩
    have h1 := ixOf_get nd hi
    have h2 := ixOf_get nd hj
    rw [e] at h1
    omega
  · have p1 : ∀ M, (pick K M).testBit j = false := fun M => Nat.testBit_lt_two_pow (Nat.lt_of_lt_of_le (pick_lt K M) (Nat.pow_le_pow_right (by decide) (by omega)))
    rw [Nat.testBit_xor, p1, p1, Nat.testBit_two_pow, decide_eq_false (by omega)]
    rfl
theorem trimK_again {bits : List Nat} {m : Nat} (hl : bits.length = 2 ^ m) (hm : 1 ≤ m) : trimK (trimK m bits).length (selB (trimK m bits) bits) = List.range (trimK m bits).length := by
  by_cases e : keptK m bits = []
  · have e1 : trimK m bits = [0] := if_pos e
    rw [e1]
    show (if keptK 1 _ = [] then [0] else keptK 1 _) = [0]
    by_cases e2 : keptK 1 (selB [0] bits) = []
    · rw [if_pos e2]
    · rw [if_neg e2]
      unfold keptK at e2 ⊢
      rw [show List.range 1 = [0] from rfl] at e2 ⊢
      rw [List.filter_cons] at e2 ⊢
      split
      · rfl
      · rename_i h
        rw [if_neg h] at e2
        exact absurd rfl e2
  · have e1 : trimK m bits = keptK m bits := if_neg e
    have ri := trimK_rise m bits
    have ln := trimK_ne m bits
    have lt := trimK_lt hm bits
    have all : ∀ i, i < (trimK m bits).length → idleAt (selB (trimK m bits) bits) i = false := fun i hi => by
      cases hid : idleAt (selB (trimK m bits) bits) i with
      | false => rfl
      | true =>
        exfalso
        have hp := getD_mem hi
        have hpl := lt _ hp
        have hn : idleAt bits ((trimK m bits).getD i 0) = false := by
          have h3 := hp
          rw [e1] at h3
          have := (List.mem_filter.mp h3).2
          rw [← e1] at this
          cases h4 : idleAt bits ((trimK m bits).getD i 0) with
          | false => rfl
          | true => rw [h4] at this; cases this
        have : idleAt bits ((trimK m bits).getD i 0) = true := idleAt_iff.mpr fun N hN => by
          rw [hl] at hN
          have hN1 : N ^^^ 2 ^ (trimK m bits).getD i 0 < 2 ^ m := Nat.xor_lt_two_pow hN (Nat.pow_lt_pow_right (by decide) hpl)
          rw [← trim_val hl hm hN, ← trim_val hl hm hN1, pick_xor ri hi]
          exact idleAt_iff.mp hid _ (by rw [selB_len]; exact pick_lt _ _)
        rw [hn] at this
        cases this
    have ek : keptK (trimK m bits).length (selB (trimK m bits) bits) = List.range (trimK m bits).length := List.filter_eq_self.mpr fun i hi => by rw [all i (List.mem_range.mp hi)]; rfl
    have : trimK (trimK m bits).length (selB (trimK m bits) bits) = keptK (trimK m bits).length (selB (trimK m bits) bits) := if_neg (by rw [ek]; intro z; have := congrArg List.length z; rw [List.length_range, List.length_nil] at this; omega)
    rw [this, ek]
theorem trim_again {w : Nat} {t : List Nat × List Nat} (h : tabOk w t) : trimT (trimT t) = trimT t := by
  have ea := trimK_again h.len h.p1
  have e1 : (trimT t).1.length = (trimK t.1.length t.2).length := List.length_map _
  have e2 : trimK (trimT t).1.length (trimT t).2 = List.range (trimT t).1.length := by
    rw [e1]
    exact ea
  show (_, _) = _
  rw [e2, map_range_self, selB_range (by rw [e1]; exact selB_len _ _)]
theorem trim_ok {w : Nat} {t : List Nat × List Nat} (h : tabOk w t) : tabOk w (trimT t) := by
  have e1 : (trimT t).1.length = (trimK t.1.length t.2).length := List.length_map _
  have lt := trimK_lt h.p1 t.2
  refine ⟨by rw [e1]; exact trimK_ne _ _, by rw [e1]; exact Nat.le_trans (trimK_len h.p1 _) h.p4, fun x hx => ?_, ?_, by rw [e1]; exact selB_len _ _, fun x hx => ?_⟩
  · obtain ⟨k, hk, rfl⟩ := List.mem_map.mp hx
    exact h.lt _ (getD_mem (lt k hk))
  · show ((trimK t.1.length t.2).map fun k => t.1.getD k 0).Pairwise (· < ·)
    rw [List.pairwise_map]
    refine (trimK_rise _ _).imp_of_mem fun {a b} ha hb hab => ?_
    have la := lt a ha
    have lb := lt b hb
    rw [List.getD_eq_getElem?_getD, List.getD_eq_getElem?_getD, List.getElem?_eq_getElem la, List.getElem?_eq_getElem lb]
    exact List.pairwise_iff_getElem.mp h.rise a b la lb hab
  · obtain ⟨r, _, rfl⟩ := List.mem_map.mp hx
    by_cases e : spread (trimK t.1.length t.2) r < t.2.length
    · exact h.bit _ (getD_mem e)
    · rw [List.getD_eq_getElem?_getD, List.getElem?_eq_none (by omega)]
      exact Nat.two_pos
def trimL (l : Lay) : Lay := ⟨l.many, l.tabs.map trimT, l.outs⟩
theorem trimL_ok {l : Lay} (ok : l.Ok) : (trimL l).Ok := by
  refine ⟨ok.m1, ok.m8, by show (l.tabs.map trimT).length ≤ 16; rw [List.length_map]; exact ok.t16, fun i t ht => ?_, ok.o1, ok.o8, fun o ho => by show o < l.many + (l.tabs.map trimT).length; rw [List.length_map]; exact ok.os o ho⟩
  have ht' : (l.tabs.map trimT)[i]? = some t := ht
  rw [List.getElem?_map] at ht'
  cases e : l.tabs[i]? with
  | none => rw [e] at ht'; cases ht'
  | some u =>
    rw [e] at ht'
    cases ht'
    exact trim_ok (ok.ts i u e)
theorem trimL_again {l : Lay} (ok : l.Ok) : trimL (trimL l) = trimL l := by
  show Lay.mk l.many ((l.tabs.map trimT).map trimT) l.outs = Lay.mk l.many (l.tabs.map trimT) l.outs
  congr 1
  rw [List.map_map]
  apply List.map_congr_left
  intro t ht
  obtain ⟨i, hi⟩ := List.getElem?_of_mem ht
  exact trim_again (ok.ts i t hi)
theorem idx_pick {told : List Nat} (h : ∀ x, told.getD x 0 < 2) (ws : List Nat) : ∀ K : List Nat, (∀ k ∈ K, k < ws.length) → idxOf told (K.map fun k => ws.getD k 0) = pick K (idxOf told ws)
  | [], _ => rfl
  | k :: K, hk => by
    show told.getD (ws.getD k 0) 0 + 2 * idxOf told (K.map fun k => ws.getD k 0) = idxOf told ws / 2 ^ k % 2 + 2 * pick K (idxOf told ws)
    rw [idx_pick h ws K fun x hx => hk x (List.mem_cons_of_mem _ hx), idxOf_bit h ws k (hk k List.mem_cons_self)]
theorem getD_bit {told : List Nat} (h : ∀ x ∈ told, x < 2) (x : Nat) : told.getD x 0 < 2 := by
  by_cases e : x < told.length
  · exact h _ (getD_mem e)
  · rw [List.getD_eq_getElem?_getD, List.getElem?_eq_none (by omega)]
    exact Nat.two_pos
theorem tell_trim {w : Nat} {t : List Nat × List Nat} (h : tabOk w t) {told : List Nat} (hb : ∀ x ∈ told, x < 2) : tellL told (trimT t) = tellL told t := by
  unfold tellL
  have e1 := idx_pick (getD_bit hb) t.1 (trimK t.1.length t.2) (trimK_lt h.p1 t.2)
  show told ++ [(selB (trimK t.1.length t.2) t.2).getD (idxOf told ((trimK t.1.length t.2).map fun k => t.1.getD k 0)) 0] = _
  rw [e1, trim_val h.len h.p1 (idxOf_lt hb _)]
theorem told_trim : ∀ (ts : List (List Nat × List Nat)) (b : Nat) (row : List Nat), (∀ i t, ts[i]? = some t → tabOk (b + i) t) → (∀ x ∈ row, x < 2) → toldL row (ts.map trimT) = toldL row ts
  | [], _, _, _, _ => rfl
  | t :: ts, b, row, h, hb => by
    have h0 := h 0 t rfl
    show toldL (tellL row (trimT t)) (ts.map trimT) = toldL (tellL row t) ts
    rw [tell_trim h0 hb]
    refine told_trim ts (b + 1) _ (fun i u hu => ?_) (tellL_bit hb h0.bit h0.len)
    have := h (i + 1) u (by simpa using hu)
    rwa [show b + (i + 1) = b + 1 + i by omega] at this
theorem outs_trim {l : Lay} (ok : l.Ok) {row : List Nat} (hb : ∀ x ∈ row, x < 2) : outsL row (trimL l) = outsL row l := by
  unfold outsL
  show (l.outs.map fun o => (toldL row (l.tabs.map trimT)).getD o 0) = _
  rw [told_trim l.tabs l.many row ok.ts hb]
/-! ### how the program goes: from the last one down -/
theorem erase_range {m p : Nat} {f : Nat → Bool} (hp : p < m) (h : ∀ x, x ≤ p → f x = true) : ((List.range m).filter f).eraseIdx p = (List.range m).filter fun x => f x && decide (x ≠ p) := by
  obtain ⟨d, rfl⟩ : ∃ d, m = p + (1 + d) := ⟨m - p - 1, by omega⟩
  have e0 : List.range (p + (1 + d)) = List.range p ++ ([p] ++ (List.range d).map (p + 1 + ·)) := by
    rw [List.range_add, List.range_add, List.map_append]
    congr 1
    congr 1
    · rw [List.map_map]
      apply List.map_congr_left
      intro x _
      show p + (1 + x) = p + 1 + x
      omega
  rw [e0, List.filter_append, List.filter_append, List.filter_append, List.filter_append]
  have f1 : (List.range p).filter f = List.range p := List.filter_eq_self.mpr fun x hx => h x (Nat.le_of_lt (List.mem_range.mp hx))
  have f2 : [p].filter f = [p] := List.filter_eq_self.mpr fun x hx => h x (by rw [List.mem_singleton.mp hx]; exact Nat.le_refl _)
  have f3 : (List.range p).filter (fun x => f x && decide (x ≠ p)) = List.range p := List.filter_eq_self.mpr fun x hx => by
    have := List.mem_range.mp hx
    rw [h x (by omega), decide_eq_true (by omega)]
    rfl
  have f4 : [p].filter (fun x => f x && decide (x ≠ p)) = [] := List.filter_eq_nil_iff.mpr fun x hx => by
    rw [List.mem_singleton.mp hx, decide_eq_false (fun z => z rfl), Bool.and_false]
    exact Bool.false_ne_true
  have f5 : ((List.range d).map (p + 1 + ·)).filter (fun x => f x && decide (x ≠ p)) = ((List.range d).map (p + 1 + ·)).filter f := List.filter_congr fun x hx => by
    obtain ⟨y, _, rfl⟩ := List.mem_map.mp hx
    rw [decide_eq_true (by omega), Bool.and_true]
  rw [f1, f2, f3, f4, f5, List.eraseIdx_append_of_length_le (by rw [List.length_range]; exact Nat.le_refl _), List.length_range, Nat.sub_self]
  rfl
theorem wo_sel {K bits : List Nat} {p : Nat} (hp : p < K.length) : wo (selB K bits) p = selB (K.eraseIdx p) bits := by
  obtain ⟨m, hm⟩ : ∃ m, K.length = m + 1 := ⟨K.length - 1, by omega⟩
  have el : (K.eraseIdx p).length = m := by rw [List.length_eraseIdx_of_lt hp, hm]; rfl
  rw [wo_eq (m := m) (by rw [selB_len, hm]) (by omega)]
  unfold selB
  rw [el]
  apply List.map_congr_left
  intro r hr
  have hr' := List.mem_range.mp hr
  rw [getD_map (by rw [hm]; exact ins_lt hr' (by omega)), spread_ins K p r hp]
/-- those that go -/
def goG (m : Nat) (bits : List Nat) : List Nat := (List.range m).filter fun p => decide (p ∉ trimK m bits)
theorem go_rest (m : Nat) (bits : List Nat) (hm : 1 ≤ m) : ((List.range m).filter fun p => decide (p ∉ goG m bits)) = trimK m bits := by
  refine rise_eq (List.Pairwise.filter _ List.pairwise_lt_range) (trimK_rise m bits) fun z => ?_
  rw [List.mem_filter, decide_eq_true_iff, List.mem_range]
  unfold goG
  constructor
  · rintro ⟨h1, h2⟩
    refine Classical.not_not.mp fun h => h2 (List.mem_filter.mpr ⟨List.mem_range.mpr h1, decide_eq_true h⟩)
  · intro h
    exact ⟨trimK_lt hm bits z h, fun h2 => of_decide_eq_true (List.mem_filter.mp h2).2 h⟩
theorem go_idles {m : Nat} (bits : List Nat) (hm : 1 ≤ m) : goG m bits = if (idles bits m).length = m then (idles bits m).drop 1 else idles bits m := by
  have ei : idles bits m = (List.range m).filter fun p => idleAt bits p := rfl
  by_cases e : keptK m bits = []
  · have all : ∀ p ∈ List.range m, idleAt bits p = true := fun p hp => by
      have := List.filter_eq_nil_iff.mp e p hp
      cases h : idleAt bits p with
      | true => rfl
      | false => rw [h] at this; exact absurd rfl this
    have e2 : idles bits m = List.range m := by rw [ei]; exact List.filter_eq_self.mpr all
    have e1 : trimK m bits = [0] := if_pos e
    rw [e2, if_pos List.length_range]
    refine rise_eq (List.Pairwise.filter _ List.pairwise_lt_range) (List.Pairwise.drop List.pairwise_lt_range) fun z => ?_
    unfold goG
    rw [List.mem_filter, decide_eq_true_iff, e1, List.mem_singleton, List.mem_range]
    obtain ⟨d, rfl⟩ : ∃ d, m = 1 + d := ⟨m - 1, by omega⟩
    rw [List.range_add]
    show _ ↔ z ∈ (List.range d).map (1 + ·)
    rw [List.mem_map]
    constructor
    · rintro ⟨h1, h2⟩
      exact ⟨z - 1, List.mem_range.mpr (by omega), by omega⟩
    · rintro ⟨y, hy, rfl⟩
      have := List.mem_range.mp hy
      omega
  · have e1 : trimK m bits = keptK m bits := if_neg e
    have hne : (idles bits m).length ≠ m := fun z => by
      obtain ⟨p, hp⟩ := List.exists_mem_of_ne_nil _ e
      obtain ⟨h1, h2⟩ := List.mem_filter.mp hp
      have h3 : (List.range m).filter (fun p => idleAt bits p) = List.range m := List.Sublist.eq_of_length List.filter_sublist (by rw [← ei, z, List.length_range])
      have h4 := List.filter_eq_self.mp h3 p h1
      rw [h4] at h2
      cases h2
    rw [if_neg hne, ei]
    unfold goG
    apply List.filter_congr
    intro p hp
    rw [e1]
    unfold keptK
    cases h : idleAt bits p with
    | true => exact decide_eq_true fun z => by have := (List.mem_filter.mp z).2; rw [h] at this; cases this
    | false => exact decide_eq_false fun z => z (List.mem_filter.mpr ⟨hp, by rw [h]; rfl⟩)
theorem gone_step {m : Nat} {G : List Nat} (r : G.Pairwise (· < ·)) (lt : ∀ x ∈ G, x < m) {i pl : Nat} (hi : i < G.length) (hp : G[G.length - 1 - i]? = some pl) :
    ((List.range m).filter fun x => decide (x ∉ G.drop (G.length - i))).eraseIdx pl = ((List.range m).filter fun x => decide (x ∉ G.drop (G.length - (i + 1)))) ∧ pl < ((List.range m).filter fun x => decide (x ∉ G.drop (G.length - i))).length := by
  have ed : G.drop (G.length - (i + 1)) = pl :: G.drop (G.length - i) := by
    have h1 : G.length - (i + 1) < G.length := by omega
    rw [List.drop_eq_getElem_cons h1]
    rw [show G.length - 1 - i = G.length - (i + 1) by omega, List.getElem?_eq_getElem h1] at hp
    rw [Option.some.inj hp, show G.length - (i + 1) + 1 = G.length - i by omega]
  have hpw : (pl :: G.drop (G.length - i)).Pairwise (· < ·) := by rw [← ed]; exact r.drop
  have hgt := (List.pairwise_cons.mp hpw).1
  have plm : pl < m := lt pl (List.mem_of_getElem? hp)
  have hf : ∀ x, x ≤ pl → decide (x ∉ G.drop (G.length - i)) = true := fun x hx => decide_eq_true fun z => by have := hgt x z; omega
  refine ⟨?_, ?_⟩
  · rw [erase_range plm hf, ed]
    apply List.filter_congr
    intro x _
    rw [Bool.eq_iff_iff, Bool.and_eq_true, decide_eq_true_iff, decide_eq_true_iff, decide_eq_true_iff, List.mem_cons]
    exact ⟨fun h z => by rcases z with z | z; exact h.2 z; exact h.1 z, fun h => ⟨fun z => h (.inr z), fun z => h (.inl z)⟩⟩
  · have := nodup_len (ys := (List.range m).filter fun x => decide (x ∉ G.drop (G.length - i))) (List.nodup_range (n := pl + 1)) fun x hx => by
      have := List.mem_range.mp hx
      exact List.mem_filter.mpr ⟨List.mem_range.mpr (by omega), hf x (by omega)⟩
    rw [List.length_range] at this
    omega
theorem erase_map (f : Nat → Nat) (K : List Nat) (p : Nat) : (K.map f).take p ++ (K.map f).drop (p + 1) = (K.eraseIdx p).map f := by
  rw [List.eraseIdx_eq_take_drop_succ, List.map_append, List.map_take, List.map_drop]
theorem spread_snoc : ∀ (K : List Nat) (k r : Nat), spread (K ++ [k]) r = spread K r + 2 ^ k * (r / 2 ^ K.length % 2)
  | [], k, r => by
    show 2 ^ k * (r % 2) + 0 = 0 + 2 ^ k * (r / 2 ^ 0 % 2)
    rw [Nat.pow_zero, Nat.div_one]
    omega
  | x :: K, k, r => by
    show 2 ^ x * (r % 2) + spread (K ++ [k]) (r / 2) = 2 ^ x * (r % 2) + spread K (r / 2) + 2 ^ k * (r / 2 ^ (K.length + 1) % 2)
    rw [spread_snoc K k (r / 2), Nat.div_div_eq_div_mul, Nat.pow_succ, Nat.mul_comm 2, Nat.add_assoc]
theorem spread_lt {K : List Nat} {m : Nat} (h : K.Pairwise (· < ·)) (lt : ∀ x ∈ K, x < m) (r : Nat) : spread K r < 2 ^ m := by
  refine Nat.lt_of_not_le fun hge => ?_
  have ⟨j, hj, hb⟩ := Nat.exists_ge_and_testBit_of_ge_two_pow hge
  rw [spread_bit K r j h, Bool.and_eq_true, decide_eq_true_iff] at hb
  have := lt j hb.1
  omega
/-! ### layouts as data -/
def tabD (t : List Nat × List Nat) : PyData := .tuple [.tuple ((t.1.map fun n : Nat => (n : Int)).map PyData.int), .tuple ((t.2.map fun n : Nat => (n : Int)).map PyData.int)]
def layD (l : Lay) : List PyData := [.int ((l.many : Nat) : Int), .tuple (l.tabs.map tabD), .tuple ((l.outs.map fun n : Nat => (n : Int)).map PyData.int)]
theorem canIntsL : ∀ xs : List Int, PyData.canLayAll0 (xs.map PyData.int) = true ∧ PyData.depthAll (xs.map PyData.int) = 0
  | [] => ⟨rfl, rfl⟩
  | x :: r => by
    obtain ⟨h1, h2⟩ := canIntsL r
    refine ⟨?_, ?_⟩
    · show ((PyData.int x).canLay0 && PyData.canLayAll0 (r.map PyData.int)) = true
      rw [h1]
      rfl
    · show max (PyData.int x).depth (PyData.depthAll (r.map PyData.int)) = 0
      rw [h2]
      rfl
theorem tabsD_can : ∀ ts : List (List Nat × List Nat), PyData.canLayAll0 (ts.map tabD) = true ∧ PyData.depthAll (ts.map tabD) ≤ 2
  | [] => ⟨rfl, Nat.zero_le _⟩
  | t :: r => by
    obtain ⟨h1, h2⟩ := tabsD_can r
    obtain ⟨g1, g2⟩ := canIntsL (t.1.map fun n : Nat => (n : Int))
    obtain ⟨k1, k2⟩ := canIntsL (t.2.map fun n : Nat => (n : Int))
    refine ⟨?_, ?_⟩
    · show ((PyData.canLayAll0 ((t.1.map fun n : Nat => (n : Int)).map PyData.int) && (PyData.canLayAll0 ((t.2.map fun n : Nat => (n : Int)).map PyData.int) && true)) && PyData.canLayAll0 (r.map tabD)) = true
      rw [g1, k1, h1]
      rfl
    · show max (max (PyData.depthAll ((t.1.map fun n : Nat => (n : Int)).map PyData.int) + 1) (max (PyData.depthAll ((t.2.map fun n : Nat => (n : Int)).map PyData.int) + 1) 0) + 1) (PyData.depthAll (r.map tabD)) ≤ 2
      rw [g2, k2]
      omega
theorem layD_shaped (l : Lay) : SeqAt.shaped (.tuple (layD l)) = true := by
  obtain ⟨h1, h2⟩ := tabsD_can l.tabs
  obtain ⟨g1, g2⟩ := canIntsL (l.outs.map fun n : Nat => (n : Int))
  refine shaped_tup (d := 3) ?_ ?_ (by decide)
  · show (true && (PyData.canLayAll0 (l.tabs.map tabD) && (PyData.canLayAll0 ((l.outs.map fun n : Nat => (n : Int)).map PyData.int) && true))) = true
    rw [h1, g1]
    rfl
  · show max 0 (max (PyData.depthAll (l.tabs.map tabD) + 1) (max (PyData.depthAll ((l.outs.map fun n : Nat => (n : Int)).map PyData.int) + 1) 0)) ≤ 3
    rw [g2]
    omega
theorem layD_eq (l : Lay) : PyData.eqv (.tuple (layD l)) (.tuple (layD l)) = true := SeqAt.eqv_refl _ (SeqAt.canLay_of_shaped (layD_shaped l))
theorem tabsD_dp {K : PySem.W.Frag} {H : Hp} : ∀ {ps : List Addr} {ts : List (List Nat × List Nat)}, TabsAt H ps ts → DpAll K H (ps.map V.ref) (ts.map tabD)
  | [], ts, x => by
    have : ts = [] := List.length_eq_zero_iff.mp x.1.symm
    subst this
    exact .nil
  | p :: r, [], x => by cases x.1
  | p :: r, t :: ts, x => by
    obtain ⟨a, b, h0, h1, h2⟩ := x.2 0 p t rfl rfl
    exact .cons (.tup (SqT.of h0) (.cons (.tup (SqT.of h1) (dpNat K _ _)) (.cons (.tup (SqT.of h2) (dpNat K _ _)) .nil))) (tabsD_dp (K := K) (H := H) (ps := r) (ts := ts) ⟨by simpa using x.1, fun i p' t' e1 e2 => x.2 (i + 1) p' t' (by simpa using e1) (by simpa using e2)⟩)
theorem LayAt.dp {K : PySem.W.Frag} {H : Hp} {a g o : Addr} {l : Lay} {ps : List Addr} (x : LayAt H a l g o ps) : Dp K H (.ref a) (.tuple (layD l)) := .tup (SqT.of x.top) (.cons (.int _) (.cons (.tup (SqT.of x.gt) (tabsD_dp x.ts)) (.cons (.tup (SqT.of x.ot) (dpNat K _ _)) .nil)))
theorem LayAt.same {H H' : Hp} {a g o : Addr} {l : Lay} {ps : List Addr} (x : LayAt H a l g o ps) (s : Same H H') : LayAt H' a l g o ps := x.mono fun b xs e => s _ _ e
theorem LayAt.aft {Ts : List Addr} {H H' : Hp} {a g o : Addr} {l : Lay} {ps : List Addr} (x : LayAt H a l g o ps) (t : Tabs Ts H) (s : Aft Ts H H') : LayAt H' a l g o ps := x.mono fun b xs e => s.tup t e
end GX
set_option Elab.async false
set_option linter.all false
set_option maxRecDepth 100000
set_option maxHeartbeats 4000000
/-! A tuple times an int of one or more. -/
namespace GX
open PySem PySem.Spec PyProof.Rows L2
open AutoSeq1 (wpAny_loadPart')
theorem tuple_mul1 (l : Addr) (items : Array Value) (n : Nat) (dd : Option Addr) (sl : Array (Option Value)) (u : Tok) :
    Meets (Builtin.«tuple.__mul__» ⟨[.ref l, .int 1 u], []⟩) (fun _ R s => s.heap.get? l = some { cls := .type "tuple", dict := dd, data := .seq items n, slots := sl } ∧ R (.ok (.ret (Value.ref l))) s) :=
  .of_wp fun prog w A R s h => by
    obtain ⟨hp, g, d, tk, os⟩ := s
    obtain ⟨hl, h⟩ := h
    have f1 := AutoSeq1.idx_int
    have c1 : (items.isEmpty || (1 : Int) == 1) = true := by cases items.isEmpty <;> rfl
    wp_walk using wpAny_loadPart' hl
    repeat (first
      | (refine wpAny_ite_true (decide_eq_true c1) ?_; wp_walk using wpAny_loadPart' hl))
    exact ⟨_, rfl, h⟩
/-- .. times k: itself by one, else a new one -/
def rRepA (K : PySem.W.Frag) : R2 := fun x y H Q => ∃ l k xs, x = .ref l ∧ y = .int k ∧ SqT K H l xs ∧ xs ≠ [] ∧ 1 ≤ k ∧ k ≤ 1000 ∧ xs.length ≤ 1000 ∧ (k = 1 → Q (.ref l) H) ∧ (2 ≤ k → ∀ p, H p = none → Q (.ref p) (upd H p (.tup (List.replicate k.toNat xs).flatten)))
theorem op_repA {X : Cx} : OpR X (binaryOp .Mult) (rRepA X.K) := by
  intro pins s σ H x y v u Q I rx ry h
  obtain ⟨l, k, xs, rfl, rfl, hT, hne, h1, h2, hz, q1, q2⟩ := h
  by_cases hk : k = 1
  · subst hk
    cases rx
    obtain ⟨t, rfl⟩ := ry
    obtain ⟨its, r, ⟨⟨cls, dd, data, sl⟩, ho, hc, n, hd⟩, hs⟩ := I.tuple hT
    simp only at hc hd
    subst hc hd
    refine wpAny_binaryOp_repeat_ref (T := "tuple") (U := "int") (by decide) ⟨_, ho, rfl⟩ (fun s' => typeIs_int s' 1 t) noFill_tuple_mul F.fills_int_mul F.slot_int_rmul repeat_tuple F.slot_int_index.lookup
      (call_meets F.slot_int_rmul (typeIs_int s 1 t) F.entry_int_rmul (F.args_int_rmul_2 _ _) (int_rmul_tuple 1 t l its.toArray n dd sl)
        ⟨ho, rfl, ⟨_, ho, rfl⟩, call_meets F.slot_tuple_mul ⟨_, ho, rfl⟩ F.entry_tuple_mul (F.args_tuple_mul_2 _ _) (tuple_mul1 l its.toArray n dd sl t) ⟨ho, ?_⟩⟩)
    exact ⟨.ref l, H, I, rfl, q1 rfl⟩
  · exact op_repT pins s σ H _ _ v u Q I rx ry ⟨l, k, xs, rfl, rfl, hT, hne, by omega, h2, hz, q2 (by omega)⟩
end GX
set_option Elab.async false
set_option linter.all false
set_option maxRecDepth 100000
set_option maxHeartbeats 4000000
/-! Slices of tuples and tuples put together, whatever object they are. -/
namespace GX
open PySem PySem.Spec PyProof.Rows L2
theorem slA_any {K : PySem.W.Frag} {x : V} {lo hi : Option Int} {H : Hp} {Q : VK} {a : Addr} {xs ys : List V} (ex : x = .ref a) (hs : H a = some (.tup xs)) (hc : cutV xs lo hi = ys) (h : ∀ p H', Same H H' → H' p = some (.tup ys) → Q (.ref p) H') : rSlA K x lo hi H Q := by
  refine ⟨a, xs, ex, SqT.of hs, fun c => h a H (Same.refl _) ?_, fun _ p np => h p _ (Same.new np) (by rw [hc]; exact upd_same)⟩
  have : cutV xs lo hi = xs := by
    unfold cutV
    rw [c.1, c.2, Nat.sub_zero, List.drop_zero, List.take_length]
  rw [← hc, this]
  exact hs
theorem catA_any {K : PySem.W.Frag} {x y : V} {H : Hp} {Q : VK} {a b : Addr} {xs ys : List V} (ex : x = .ref a) (ey : y = .ref b) (hx : H a = some (.tup xs)) (hy : H b = some (.tup ys)) (hl : xs.length + ys.length ≤ sizeLine) (h : ∀ p H', Same H H' → H' p = some (.tup (xs ++ ys)) → Q (.ref p) H') : rCatA K x y H Q := by
  refine ⟨a, b, xs, ys, ex, ey, SqT.of hx, SqT.of hy, hl, fun e => h b H (Same.refl _) (by rw [e, List.nil_append]; exact hy), fun _ e => h a H (Same.refl _) (by rw [e, List.append_nil]; exact hx), fun _ _ p np => h p _ (Same.new np) upd_same⟩
theorem six_nat {L d s : Nat} (h : s ≤ L) : HT.sIx L d (some ((s : Nat) : Int)) = s := by
  have h0 : ¬ ((s : Nat) : Int) < 0 := by omega
  unfold HT.sIx
  simp [h0]
  omega
theorem cut_take {ws : List Nat} {s : Nat} (h : s ≤ ws.length) : cutV (ws.map nV) none (some ((s : Nat) : Int)) = (ws.take s).map nV := by
  unfold cutV
  rw [six_nat (by rw [List.length_map]; exact h), List.map_take]
  show List.take (s - 0) (List.drop 0 _) = _
  rw [Nat.sub_zero, List.drop_zero]
theorem cut_drop {ws : List Nat} {s : Nat} (h : s ≤ ws.length) : cutV (ws.map nV) (some ((s : Nat) : Int)) none = (ws.drop s).map nV := by
  unfold cutV
  rw [six_nat (by rw [List.length_map]; exact h), List.map_drop]
  show List.take ((ws.map nV).length - s) _ = _
  rw [← List.length_drop, List.take_length]
end GX
set_option Elab.async false
set_option linter.all false
set_option maxRecDepth 100000
set_option maxHeartbeats 4000000
namespace K50
open PySem PySem.Spec PyProof.Rows L2 GX
open C8 (Cal pe_c pe_gc)
def topS (i : Nat) : Stmt := PySem.Challenge.pw_tablecover_k50_layouts_trimmed.main.body.getD i (.Pass ⟨0, 0, 0, 0⟩)
abbrev s_is_idle : Stmt := topS 1
theorem sc_is_idle : FnScope ["content", "place", "number", "worth"] ["content", "place"] (defScope s_is_idle) := ⟨rfl, rfl, rfl, by decide +kernel, rfl, by decide +kernel, by decide +kernel⟩
abbrev s_idle : Stmt := topS 2
theorem sc_idle : FnScope ["content", "places", "place"] ["content"] (defScope s_idle) := ⟨rfl, rfl, rfl, by decide +kernel, rfl, by decide +kernel, by decide +kernel⟩
abbrev s_without : Stmt := topS 3
theorem sc_without : FnScope ["content", "place", "number", "worth"] ["content", "place"] (defScope s_without) := ⟨rfl, rfl, rfl, by decide +kernel, rfl, by decide +kernel, by decide +kernel⟩
abbrev s_layout_outs : Stmt := topS 5
theorem sc_layout_outs : FnScope ["layout", "row", "many", "tables", "outs", "told", "places", "held", "at", "wire", "out"] ["layout", "row"] (defScope s_layout_outs) := ⟨rfl, rfl, rfl, by decide +kernel, rfl, by decide +kernel, by decide +kernel⟩
abbrev s_trimmed_table : Stmt := topS 6
theorem sc_trimmed_table : FnScope ["table", "places", "held", "going", "place"] ["table"] (defScope s_trimmed_table) := ⟨rfl, rfl, rfl, by decide +kernel, rfl, by decide +kernel, by decide +kernel⟩
abbrev s_trimmed : Stmt := topS 7
theorem sc_trimmed : FnScope ["layout", "many", "tables", "outs", "table"] ["layout"] (defScope s_trimmed) := ⟨rfl, rfl, rfl, by decide +kernel, rfl, by decide +kernel, by decide +kernel⟩
abbrev s__law_well : Stmt := topS 9
theorem sc__law_well : FnScope ["_law_script", "_law_k", "_law_cell"] ["_law_script", "_law_k"] (defScope s__law_well) := ⟨rfl, rfl, rfl, by decide +kernel, rfl, by decide +kernel, by decide +kernel⟩
abbrev s__law_take : Stmt := topS 10
theorem sc__law_take : FnScope ["_law_well_here", "_law_many", "_law_digit", "_law_number"] ["_law_well_here", "_law_many"] (defScope s__law_take) := ⟨rfl, rfl, rfl, by decide +kernel, rfl, by decide +kernel, by decide +kernel⟩
abbrev s__law_layout : Stmt := topS 11
theorem sc__law_layout : FnScope ["_law_well_here", "_law_way", "_law_many", "_law_count", "_law_tables", "_law_wire", "_law_size", "_law_places", "_law_place", "_law_bits", "_law_number", "_law_period", "_law_made", "_law_wires", "_law_outs", "_law_turn"] ["_law_well_here"] (defScope s__law_layout) := ⟨rfl, rfl, rfl, by decide +kernel, rfl, by decide +kernel, by decide +kernel⟩
abbrev s__law_is_number : Stmt := topS 12
theorem sc__law_is_number : FnScope ["_law_thing", "_law_bound"] ["_law_thing", "_law_bound"] (defScope s__law_is_number) := ⟨rfl, rfl, rfl, by decide +kernel, rfl, by decide +kernel, by decide +kernel⟩
abbrev s__law_is_table : Stmt := topS 13
theorem sc__law_is_table : FnScope ["_law_thing", "_law_wire", "_law_places", "_law_bits", "_law_place", "_law_one"] ["_law_thing", "_law_wire"] (defScope s__law_is_table) := ⟨rfl, rfl, rfl, by decide +kernel, rfl, by decide +kernel, by decide +kernel⟩
abbrev s__law_is_layout : Stmt := topS 14
theorem sc__law_is_layout : FnScope ["_law_thing", "_law_many", "_law_tables", "_law_outs", "_law_at", "_law_wire"] ["_law_thing"] (defScope s__law_is_layout) := ⟨rfl, rfl, rfl, by decide +kernel, rfl, by decide +kernel, by decide +kernel⟩
abbrev s__law_idle : Stmt := topS 15
theorem sc__law_idle : FnScope ["_law_bits", "_law_at", "_law_step", "_law_number"] ["_law_bits", "_law_at"] (defScope s__law_idle) := ⟨rfl, rfl, rfl, by decide +kernel, rfl, by decide +kernel, by decide +kernel⟩
abbrev s__law_table : Stmt := topS 16
theorem sc__law_table : FnScope ["_law_places", "_law_bits", "_law_kept", "_law_at", "_law_found", "_law_number", "_law_old", "_law_k"] ["_law_places", "_law_bits"] (defScope s__law_table) := ⟨rfl, rfl, rfl, by decide +kernel, rfl, by decide +kernel, by decide +kernel⟩
abbrev s_law : Stmt := topS 17
theorem sc_law : FnScope ["_law_script", "_law_k", "_law_well_here", "_law_layout_here", "_law_many", "_law_tables", "_law_outs", "_law_due", "_law_places", "_law_bits", "_law_found", "_law_turn", "_law_row", "_law_place"] ["_law_script"] (defScope s_law) := ⟨rfl, rfl, rfl, by decide +kernel, rfl, by decide +kernel, by decide +kernel⟩
structure Txt (mg : Str → Option Value) : Prop where
  b_all : mg "all" = none
  b_bool : mg "bool" = none
  b_enumerate : mg "enumerate" = none
  b_int : mg "int" = none
  b_isinstance : mg "isinstance" = none
  b_len : mg "len" = none
  b_list : mg "list" = none
  b_max : mg "max" = none
  b_min : mg "min" = none
  b_range : mg "range" = none
  b_reversed : mg "reversed" = none
  b_set : mg "set" = none
  b_sorted : mg "sorted" = none
  b_sum : mg "sum" = none
  b_tuple : mg "tuple" = none
section
variable {P : Program} {w : World} {K : PySem.W.Frag} {mg : Str → Option Value} {base : Heap}
/-! ### the draws -/
def spTake : Sp := fun vs H Q _ => ∃ (W : Addr) (m : Int), vs = [.ref W, .int m] ∧ Wl H W ∧ 0 < m ∧ m < 1073741824 ∧ ∀ d H', 0 ≤ d → d < m → Wl H' W → Keep [W] H H' → Q (.int d) H'
theorem ok_take {f c : Addr} (D : Dfn K mg "_law_take" s__law_take f c) : Cal P w K mg base 1 "_law_take" spTake [] := by
  refine cal D (fun _ _ _ _ _ _ us hl => match us, hl with | [_, _], _ => rfl) sc__law_take (fun vs H Q E h => ?_) (fun A outer s H vs Q E hr h => ?_)
  · obtain ⟨W, m, rfl, _⟩ := h
    rfl
  · obtain ⟨W, m, rfl, ⟨a, b, c, hW⟩, hm0, hm1, q⟩ := h
    refine ⟨_, (pss_cons (ps_if (pt_cmpR op_gt (pe_ix ix_list (pv 0) pe_int (fun _ _ => rfl)) pe_int (nomark _)) (pss_cons (ps_set (i := 2) sc__law_take.nd rfl (by first | exact Or.inl rfl | exact Or.inr rfl) (pe_op op_mod (pe_ix ix_list (pv 0) pe_int (fun _ _ => rfl)) (pv 1)))
      (pss_cons (ps_asg (pe_op op_fdiv (pe_ix ix_list (pv 0) pe_int (fun _ _ => rfl)) (pv 1)) (pg_sub (pv 0) pe_int set_list))
      (pss_one (ps_ret (pv 2))))) pss_nil)
      (pss_cons (ps_asg (pe_op op_add (pe_ix ix_list (pv 0) pe_int (fun _ _ => rfl)) pe_int) (pg_sub (pv 0) pe_int set_list))
      (pss_cons (ps_set (i := 3) sc__law_take.nd rfl (by first | exact Or.inl rfl | exact Or.inr rfl) (pe_op op_mod (pe_op op_mul (pe_op op_add (pe_ix ix_list (pv 0) pe_int (fun _ _ => rfl)) (pe_op op_mul pe_int (pe_ix ix_list (pv 0) pe_int (fun _ _ => rfl)))) pe_int) pe_int))
      (pss_cons (ps_set (i := 3) sc__law_take.nd rfl (by first | exact Or.inl rfl | exact Or.inr rfl) (pe_op op_mod (pe_op op_mul (pv 3) (pe_op op_add (pv 3) pe_int)) pe_int))
      (pss_one (ps_ret (pe_op op_mod (pe_op op_fdiv (pe_op op_mul (pe_op op_mod (pe_op op_add (pe_op op_mul (pv 3) (pv 3)) (pe_op op_mul pe_int (pe_ix ix_list (pv 0) pe_int (fun _ _ => rfl)))) pe_int) pe_int) pe_int) (pv 1)))))))), ?_⟩
    refine ⟨_, rfl, W, _, 0, _, rfl, rfl, SqL.of hW, at0, _, _, rfl, rfl, _, rfl, ite2 (fun g => ?_) (fun g => ?_)⟩
    · refine ⟨_, rfl, W, _, 0, _, rfl, rfl, SqL.of hW, at0, _, rfl, _, _, rfl, rfl, hm0, ?_⟩
      refine ⟨_, rfl, W, _, 0, _, rfl, rfl, SqL.of hW, at0, _, rfl, _, _, rfl, rfl, ⟨hm0, hm1⟩, _, rfl, W, _, 0, 0, rfl, rfl, hW, rfl, ?_⟩
      refine ⟨_, rfl, ?_⟩
      exact q _ _ (Int.emod_nonneg _ (by omega)) (Int.emod_lt_of_pos _ hm0) ⟨_, _, _, upd_same⟩ (Keep.put (List.mem_singleton.mpr rfl))
    · refine ⟨_, rfl, W, _, 2, _, rfl, rfl, SqL.of hW, at2, _, _, rfl, rfl, _, rfl, W, _, 2, 2, rfl, rfl, hW, rfl, ?_⟩
      have hW2 : (upd H W (.lst [.int a, .int b, .int (c + 1)])) W = some (.lst [.int a, .int b, .int (c + 1)]) := upd_same
      refine ⟨_, rfl, W, _, 1, _, rfl, rfl, SqL.of hW2, at1, _, rfl, W, _, 2, _, rfl, rfl, SqL.of hW2, at2, _, _, rfl, rfl, .inl (by omega), _, _, rfl, rfl, _, _, rfl, rfl, .inr (by omega), _, _, rfl, rfl, (by show (0 : Int) < 2147483647; decide), ?_⟩
      have b1 := Int.emod_nonneg ((b + 7919 * (c + 1)) * 48271) (show (2147483647 : Int) ≠ 0 by decide)
      have b2 := Int.emod_lt_of_pos ((b + 7919 * (c + 1)) * 48271) (show (0 : Int) < 2147483647 by decide)
      generalize ((b + 7919 * (c + 1)) * 48271) % 2147483647 = n1 at b1 b2 ⊢
      refine ⟨_, rfl, _, rfl, _, _, rfl, rfl, _, _, rfl, rfl, .inl (by omega), _, _, rfl, rfl, (by show (0 : Int) < 2147483629; decide), ?_⟩
      have b3 := Int.emod_nonneg (n1 * (n1 + 69621)) (show (2147483629 : Int) ≠ 0 by decide)
      have b4 := Int.emod_lt_of_pos (n1 * (n1 + 69621)) (show (0 : Int) < 2147483629 by decide)
      generalize (n1 * (n1 + 69621)) % 2147483629 = n2 at b3 b4 ⊢
      refine ⟨_, rfl, _, rfl, _, _, rfl, rfl, .inl (by omega), _, rfl, W, _, 2, _, rfl, rfl, SqL.of hW2, at2, _, _, rfl, rfl, .inl (by omega), _, _, rfl, rfl, _, _, rfl, rfl, (by show (0 : Int) < 2147483587; decide), _, _, rfl, rfl, .inr (by omega), _, _, rfl, rfl, ⟨by decide, by decide⟩, _, rfl, _, _, rfl, rfl, hm0, ?_⟩
      exact q _ _ (Int.emod_nonneg _ (by omega)) (Int.emod_lt_of_pos _ hm0) ⟨_, _, _, upd_same⟩ (Keep.put (List.mem_singleton.mpr rfl))
def spWell (K : PySem.W.Frag) : Sp := fun vs H Q _ => ∃ (a : Addr) (ns : List Int) (k : Nat), vs = [.ref a, .int k] ∧ SqL K H a (ns.map V.int) ∧ ∀ p H', H p = none → Wl H' p → Keep [] H H' → Q (.ref p) H'
theorem ok_well {f c : Addr} (D : Dfn K mg "_law_well" s__law_well f c) (T : Txt mg) : Cal P w K mg base 1 "_law_well" (spWell K) [] := by
  refine cal D (fun _ _ _ _ _ _ us hl => match us, hl with | [_, _], _ => rfl) sc__law_well (fun vs H Q E h => ?_) (fun A outer s H vs Q E hr h => ?_)
  · obtain ⟨a, ns, k, rfl, _⟩ := h
    rfl
  · obtain ⟨a, ns, k, rfl, hS, q⟩ := h
    refine ⟨_, (pss_cons (ps_set (i := 2) sc__law_well.nd rfl (by first | exact Or.inl rfl | exact Or.inr rfl) pe_int)
      (pss_cons (ps_if (pt_cmpR op_lt (pv 1) (pe_callB call_len_seq (by rfl) T.b_len (by decide +kernel) (pa_cons (pv 0) pa_nil)) (nomark _)) (pss_one (ps_set (i := 2) sc__law_well.nd rfl (by first | exact Or.inl rfl | exact Or.inr rfl) (pe_ix ix_list (pv 0) (pv 1) (fun _ _ => rfl)))) pss_nil)
      (pss_one (ps_ret (pe_lst (pa_cons (pe_op op_mul (pv 2) (pe_callTy call_int1 (by rfl) T.b_int (by decide +kernel) (pa_cons (pe_cmpR op_ge (pv 2) (pe_op op_pow pe_int pe_int) (nomark _)) pa_nil))) (pa_cons (pe_op op_add (pe_op op_mod (pv 2) pe_int) (pe_op op_mul pe_int (pv 1))) (pa_cons pe_int pa_nil)))))))), ?_⟩
    refine ⟨_, rfl, _, rfl, a, _, rfl, .inl hS, _, _, rfl, rfl, _, rfl, ite2 (fun g => ?_) (fun g => ?_)⟩
    · have hk : k < ns.length := by
        have := of_decide_eq_true g
        rw [List.length_map] at this
        omega
      have hx : (ns.map V.int)[k]? = some (.int ns[k]) := by rw [List.getElem?_map, List.getElem?_eq_getElem hk]; rfl
      refine ⟨_, rfl, _, rfl, a, _, _, _, rfl, rfl, hS, atI_nat hx, ?_⟩
      refine ⟨_, rfl, _, rfl, _, _, rfl, rfl, ⟨by decide, by decide, by decide⟩, _, _, rfl, rfl, .inr ⟨_, rfl, _, _, rfl, rfl, .inr (by split <;> decide), _, rfl, _, _, rfl, rfl, (by show (0 : Int) < 2147483647; decide), _, rfl, _, _, rfl, rfl, .inl (by omega), _, _, rfl, rfl, small 3, fun p hp => ?_⟩⟩
      exact q p _ hp ⟨_, _, _, upd_same⟩ (Keep.new hp)
    · refine ⟨_, rfl, _, rfl, _, _, rfl, rfl, ⟨by decide, by decide, by decide⟩, _, _, rfl, rfl, .inr ⟨_, rfl, _, _, rfl, rfl, .inr (by split <;> decide), _, rfl, _, _, rfl, rfl, (by show (0 : Int) < 2147483647; decide), _, rfl, _, _, rfl, rfl, .inl (by omega), _, _, rfl, rfl, small 3, fun p hp => ?_⟩⟩
      exact q p _ hp ⟨_, _, _, upd_same⟩ (Keep.new hp)
end
section
variable {P : Program} {w : World} {K : PySem.W.Frag} {mg : Str → Option Value} {base : Heap} {Ts : List Addr}
theorem sum_cast : ∀ ms : List Nat, (ms.map fun n : Nat => (n : Int)).sum = ((ms.sum : Nat) : Int)
  | [] => rfl
  | x :: r => by
    rw [List.map_cons, List.sum_cons, List.sum_cons, sum_cast r]
    omega
theorem sum_snoc (ms : List Nat) (x : Nat) : (ms ++ [x]).sum = ms.sum + x := by
  rw [List.sum_append]
  show ms.sum + (x + 0) = _
  rfl
/-! ### layouts by the program -/
def spLOuts (Ts : List Addr) : Sp := fun vs H Q _ => ∃ (a r : Addr) (l : Lay) (g o : Addr) (ps : List Addr) (row : List Nat), vs = [.ref a, .ref r] ∧ LayAt H a l g o ps ∧ l.Ok ∧ H r = some (.tup (row.map nV)) ∧ row.length = l.many ∧ (∀ x ∈ row, x < 2) ∧ Tabs Ts H ∧ ∀ p H', Aft Ts H H' → H' p = some (.tup ((outsL row l).map nV)) → Q (.ref p) H'
theorem ok_louts {f c PG : Addr} (D : Dfn K mg "layout_outs" s_layout_outs f c) (T : Txt mg) (TB_layout_outs : GxR.TabB base mg c PG) (hP : PG ∈ Ts) : Cal P w K mg base 1 "layout_outs" (spLOuts Ts) [] := by
  refine cal D (fun _ _ _ _ _ _ us hl => match us, hl with | [_, _], _ => rfl) sc_layout_outs (fun vs H Q E h => ?_) (fun A outer s H vs Q E hr h => ?_)
  · obtain ⟨a, r, l, g, o, ps, row, rfl, _⟩ := h
    rfl
  · obtain ⟨a, r, l, g, o, ps, row, rfl, N, ok, hr', hrl, hrb, tb, q⟩ := h
    have m8 := ok.m8
    have t16 := ok.t16
    refine ⟨_, (pss_cons (ps_asg (pv 0) (pg_tup rfl (pgs_cons (pg_name (i := 2) sc_layout_outs.nd rfl (by first | exact Or.inl rfl | exact Or.inr rfl)) (pgs_cons (pg_name (i := 3) sc_layout_outs.nd rfl (by first | exact Or.inl rfl | exact Or.inr rfl)) (pgs_cons (pg_name (i := 4) sc_layout_outs.nd rfl (by first | exact Or.inl rfl | exact Or.inr rfl)) pgs_nil)))))
      (pss_cons (ps_set (i := 5) sc_layout_outs.nd rfl (by first | exact Or.inl rfl | exact Or.inr rfl) (pe_callTy call_list_of (by rfl) T.b_list (by decide +kernel) (pa_cons (pv 1) pa_nil)))
      (pss_cons (ps_for PassesOwn.never rfl (pi_tup (pv 3)) (pg_tup rfl (pgs_cons (pg_name (i := 6) sc_layout_outs.nd rfl (by first | exact Or.inl rfl | exact Or.inr rfl)) (pgs_cons (pg_name (i := 7) sc_layout_outs.nd rfl (by first | exact Or.inl rfl | exact Or.inr rfl)) pgs_nil)))
        (pss_one (ps_expr (pe_bm PySem.F.plainAttrs_list PySem.F.slot_list_append PySem.F.type_list_append mt_append (pv 5) (pa_cons (pe_ix ix_tup (pv 7) (pe_callB (cr_sum rfl) (by rfl) T.b_sum (by decide +kernel) (pa_cons (pe_lc (own := [("at", 8), ("wire", 9)])  (tt := tYes) rfl sc_layout_outs.nd (pi_enumT (by rfl) T.b_enumerate (pa_cons (pv 6) pa_nil)) (blkOk_by (own := [("at", 8), ("wire", 9)]) (N := ["layout", "row", "many", "tables", "outs", "told", "places", "held", "at", "wire", "out"]) (sc := defScope s_layout_outs) (by decide +kernel)) (fun _ _ _ _ _ => (pg_tupK (K := K) (n := 2) rfl rfl (pgs_cons (pg_name (i := 8) sc_layout_outs.nd rfl (by first | exact Or.inl rfl | exact Or.inr rfl)) (pgs_cons (pg_name (i := 9) sc_layout_outs.nd rfl (by first | exact Or.inl rfl | exact Or.inr rfl)) pgs_nil)))) (fun _ _ _ _ _ => pts_nil) (fun _ _ _ _ _ => (pe_op op_shl (pe_ix (ix_listK (K := K)) (pv 5) (pv 9) (fun _ _ => rfl)) (pv 8)))) pa_nil)) (fun _ _ => rfl)) pa_nil)))))
      (pss_one (ps_ret (pe_tupG (own := [("out", 10)]) hr (by rfl) T.b_tuple TB_layout_outs rfl (gxOk_by (N := ["layout", "row", "many", "tables", "outs", "told", "places", "held", "at", "wire", "out"]) (sc := defScope s_layout_outs) (own := [("out", 10)]) (by decide +kernel)) sc_layout_outs.nd (pi_tup (pv 4)) (fun _ _ _ _ => (pg_name (i := 10) sc_layout_outs.nd rfl (by first | exact Or.inl rfl | exact Or.inr rfl))) (fun _ _ _ _ => pts_nil) (fun _ _ _ _ => (pe_ix (ix_listK (K := K)) (pv 5) (pv 10) (fun _ _ => rfl))))))))), ?_⟩
    refine ⟨_, rfl, a, _, rfl, SqT.of N.top, rfl, _, _, rfl, _, _, rfl, _, _, rfl, rfl, ?_⟩
    refine ⟨_, rfl, r, _, rfl, .inr (SqT.of hr'), fun L nL => ?_⟩
    have s1 := Same.new (o := .lst (row.map nV)) nL
    refine ⟨_, rfl, g, rfl, ⟨_, SqT.of (s1 _ _ N.gt)⟩, ?_⟩
    refine for_tup (K := K) (a := g) (xs := ps.map V.ref) (fun i σ H' => ∃ x6 x7 x8 x9 x10, σ = [some (.ref a), some (.ref r), some (nV l.many), some (.ref g), some (.ref o), some (.ref L), x6, x7, x8, x9, x10] ∧ Own H H' L ((toldL row (l.tabs.take i)).map nV)) ⟨none, none, none, none, none, rfl, s1, upd_same, nL⟩ ?_ ?_ ?_
    · rintro i σ H1 _ ⟨_, _, _, _, _, _, o1⟩
      exact SqT.of (o1.sm _ _ N.gt)
    · rintro i x σ H1 hx ⟨x6, x7, x8, x9, x10, rfl, o1⟩
      obtain ⟨p, t, rfl, ht, ta, tb', hp, hpa, hpb⟩ := (N.ts.mono fun b xs e => o1.sm _ _ e).at_ hx
      have tok := ok.ts _ _ ht
      have hi : i < l.tabs.length := (List.getElem?_eq_some_iff.mp ht).1
      have hbit := toldL_bit ok hrb i (by omega)
      have hlen : (toldL row (l.tabs.take i)).length = l.many + i := by rw [toldL_len, List.length_take, hrl]; omega
      rw [toldL_take ht]
      generalize toldL row (l.tabs.take i) = told at hbit hlen o1 ⊢
      have p4 := tok.p4
      refine ⟨p, _, rfl, SqT.of hp, rfl, _, _, rfl, _, _, rfl, rfl, ?_⟩
      refine ⟨_, rfl, .inl ⟨rfl, _, SqL.of o1.at_⟩, _, rfl, _, rfl, ta, _, rfl, SqT.of hpa, fun M nM => ?_⟩
      refine lc_it (walk_enumT (xs := t.1.map nV)) (fun j H' => ∃ ms : List Nat, Own H1 H' M (ms.map nV) ∧ ms.sum = idxOf told (t.1.take j) ∧ ms.length = j) ⟨[], ⟨Same.new nM, upd_same, nM⟩, rfl, rfl⟩ (fun k H' _ hp' => by obtain ⟨ms, o', _⟩ := hp'; exact SqT.of (o'.sm _ _ hpa)) ?_ ?_
      · rintro j x H2 H3 hj ⟨ms, o2, hs, hml⟩ ⟨T', v1, v2, rfl, nT, rfl, e1, e2⟩
        cases e1
        rw [List.length_map] at hj
        have e2' : (t.1.map nV)[j]? = some v2 := e2
        rw [natAt hj] at e2'
        cases e2'
        have hw : t.1.getD j 0 < told.length := by
          rw [hlen]
          exact tok.lt _ (getD_mem hj)
        have s3 := Same.new (o := .tup [.int ((j : Nat) : Int), nV (t.1.getD j 0)]) nT
        have o3 : Own H1 _ M (ms.map nV) := ⟨o2.sm.trans s3, s3 _ _ o2.at_, o2.nw⟩
        refine ⟨T', _, rfl, SqT.of upd_same, rfl, _, _, rfl, _, _, rfl, rfl, rfl, ?_⟩
        unfold tYes
        refine iteT ?_
        have hb := hbit _ (getD_mem hw)
        refine ⟨_, rfl, _, rfl, L, _, _, _, rfl, rfl, SqL.of (o3.sm _ _ o1.at_), atI_nat (natAt hw), _, rfl, _, _, rfl, rfl, ⟨by omega, by show ((j : Nat) : Int) ≤ 1000000; omega, by omega⟩, ?_⟩
        dsimp -proj only
        rw [shl_of']
        refine ⟨_, o3.at_, by rw [List.length_map]; exact small256 (by omega), ms ++ [told.getD (t.1.getD j 0) 0 * 2 ^ j], ?_, ?_, by rw [List.length_append, hml]; rfl⟩
        · rw [List.map_append]
          exact o3.app
        · rw [sum_snoc, hs, List.take_add_one, List.getElem?_eq_getElem hj, Option.toList_some, idxOf_snoc, List.length_take, Nat.min_eq_left (by omega)]
          congr 3
          rw [List.getD_eq_getElem?_getD, List.getElem?_eq_getElem hj]
          rfl
      · rintro H2 ⟨ms, o2, hs, hml⟩
        rw [List.length_map, List.take_length] at hs
        refine ⟨M, ms.map fun n : Nat => (n : Int), rfl, (by rw [mapV]; exact SqL.of o2.at_), ?_⟩
        rw [sum_cast, hs]
        have hlt : idxOf told t.1 < t.2.length := by
          rw [tok.len]
          exact idxOf_lt hbit _
        have hL2 := o2.sm _ _ o1.at_
        refine ⟨tb', _, _, _, rfl, rfl, SqT.of (o2.sm _ _ hpb), atI_nat (natAt hlt), L, _, _, rfl, rfl, hL2, by rw [List.length_map, hlen]; exact small256 (by omega), _, _, _, _, _, rfl, ?_⟩
        unfold tellL
        rw [List.map_append]
        exact Own.app ⟨o1.sm.trans o2.sm, hL2, o1.nw⟩
    · rintro σ H1 ⟨x6, x7, x8, x9, x10, rfl, o1⟩
      rw [List.length_map, N.ts.1, List.take_length] at o1
      have a1 := Aft.ofSame tb o1.sm
      have ho1 := o1.sm _ _ N.ot
      refine ⟨_, rfl, o, rfl, ⟨_, SqT.of ho1⟩, a1.tb PG hP, fun H2 ht => ?_⟩
      have a2 : Aft Ts H1 H2 := ⟨Keep.tabbed hP ht, a1.tb.tabbed ht⟩
      have tl : (toldL row l.tabs).length = l.many + l.tabs.length := by rw [toldL_len, hrl]
      have o8 := ok.o8
      refine turns_it (walk_tup (xs := l.outs.map nV)) (fun i ys H' => ys = ((l.outs.take i).map fun o => (toldL row l.tabs).getD o 0).map nV ∧ Aft Ts H1 H') ⟨rfl, a2⟩ (fun i ys H' _ hp' => SqT.of (hp'.2.tup a1.tb ho1)) ?_ ?_
      · rintro i x ys H4 H5 hi ⟨rfl, a4⟩ ⟨rfl, hx⟩
        rw [List.length_map] at hi
        rw [natAt hi] at hx
        cases hx
        have hw : l.outs.getD i 0 < (toldL row l.tabs).length := by
          rw [tl]
          exact ok.os _ (getD_mem hi)
        refine ⟨rfl, ?_⟩
        unfold tYes
        refine iteT ?_
        refine ⟨_, rfl, _, rfl, L, _, _, _, rfl, rfl, SqL.of (a4.lst a1.tb o1.at_), atI_nat (natAt hw), ?_, fun _ => ⟨?_, a4⟩⟩
        · show (List.map nV _).length < sizeLine
          rw [List.length_map, List.length_map, List.length_take]
          exact small256 (by omega)
        · rw [List.take_add_one, List.getElem?_eq_getElem hi, Option.toList_some, List.map_append, List.map_append]
          congr 2
          show nV _ = nV _
          congr 2
          rw [List.getD_eq_getElem?_getD, List.getElem?_eq_getElem hi]
          rfl
      · rintro ys H4 ⟨rfl, a4⟩
        rw [List.length_map, List.take_length]
        refine ⟨?_, fun p hp => ?_⟩
        · rw [List.length_map, List.length_map]
          exact small _ (by omega)
        · exact q p _ ((a1.trans a4).trans (Aft.new a4.tb hp)) upd_same
end
section
variable {P : Program} {w : World} {K : PySem.W.Frag} {mg : Str → Option Value} {base : Heap} {Ts : List Addr}
/-! ### idle places by the program -/
def spIsIdle (Ts : List Addr) : Sp := fun vs H Q _ => ∃ (a : Addr) (p m : Nat) (xs : List Nat), vs = [.ref a, nV p] ∧ H a = some (.tup (xs.map nV)) ∧ xs.length = 2 ^ m ∧ p < m ∧ m ≤ 8 ∧ Tabs Ts H ∧ ∀ H', Aft Ts H H' → Q (.bl (idleAt xs p)) H'
theorem ok_isidle {f c PG : Addr} (D : Dfn K mg "is_idle" s_is_idle f c) (T : Txt mg) (TB_is_idle : GxR.TabB base mg c PG) (hP : PG ∈ Ts) : Cal P w K mg base 1 "is_idle" (spIsIdle Ts) [] := by
  refine cal D (fun _ _ _ _ _ _ us hl => match us, hl with | [_, _], _ => rfl) sc_is_idle (fun vs H Q E h => ?_) (fun A outer s H vs Q E hr h => ?_)
  · obtain ⟨a, p, m, xs, rfl, _⟩ := h
    rfl
  · obtain ⟨a, p, m, xs, rfl, ha, hl, hp, hm, tb, q⟩ := h
    refine ⟨_, (pss_one (ps_ret (pe_allG (own := [("number", 2), ("worth", 3)]) hr (by rfl) T.b_all TB_is_idle rfl (gxOk_by (N := ["content", "place", "number", "worth"]) (sc := defScope s_is_idle) (own := [("number", 2), ("worth", 3)]) (by decide +kernel)) sc_is_idle.nd (pi_enumT (by rfl) T.b_enumerate (pa_cons (pv 0) pa_nil)) (fun _ _ _ _ => (pg_tupK (K := K) (n := 2) rfl rfl (pgs_cons (pg_name (i := 2) sc_is_idle.nd rfl (by first | exact Or.inl rfl | exact Or.inr rfl)) (pgs_cons (pg_name (i := 3) sc_is_idle.nd rfl (by first | exact Or.inl rfl | exact Or.inr rfl)) pgs_nil)))) (fun _ _ _ _ => pts_nil) (fun _ _ _ _ => (pe_cmpR op_eq (pv 3) (pe_ix (ix_tupK (K := K)) (pv 0) (pe_op op_xor (pv 2) (pe_op op_shl pe_int (pv 1))) (fun _ _ => rfl)) (nomark _)))))), ?_⟩
    refine ⟨_, rfl, a, _, rfl, SqT.of ha, tb PG hP, fun H2 ht => ?_⟩
    have a2 : Aft Ts H H2 := ⟨Keep.tabbed hP ht, tb.tabbed ht⟩
    refine turns_it (walk_enumT (xs := xs.map nV)) (fun i ys H' => (∀ r, r < i → xs.getD r 0 = xs.getD (r ^^^ 2 ^ p) 0) ∧ Aft Ts H H') ⟨fun r hr => absurd hr (Nat.not_lt_zero _), a2⟩ (fun i ys H' _ hp => SqT.of (hp.2.tup tb ha)) ?_ ?_
    · rintro i x ys H3 H4 hi ⟨hg, a3⟩ ⟨T', v1, v2, rfl, nT, rfl, e1, e2⟩
      cases e1
      rw [List.length_map] at hi
      have e2' : (xs.map nV)[i]? = some v2 := e2
      rw [natAt hi] at e2'
      cases e2'
      have a4 := a3.trans (Aft.new (o := .tup [.int (i : Nat), nV (xs.getD i 0)]) a3.tb nT)
      have lt : i ^^^ 2 ^ p < xs.length := by
        rw [hl] at hi ⊢
        exact Nat.xor_lt_two_pow hi (Nat.pow_lt_pow_right (by decide) hp)
      refine ⟨T', _, rfl, SqT.of upd_same, rfl, _, _, rfl, _, _, rfl, rfl, rfl, ?_⟩
      unfold tYes
      refine iteT ?_
      refine ⟨_, rfl, _, rfl, _, rfl, _, rfl, _, _, rfl, rfl, ⟨by omega, by show ((p : Nat) : Int) ≤ 1000000; omega, by decide⟩, _, _, rfl, rfl, ?_⟩
      dsimp only
      rw [shl_of, xor_of]
      refine ⟨a, _, _, _, rfl, rfl, SqT.of (a4.tup tb ha), atI_nat (natAt lt), rfl, ?_⟩
      refine ⟨⟨_, rfl, fun hf => ?_⟩, fun hc => ⟨fun r hr => ?_, a4⟩⟩
      · have hne : ¬ (xs.getD i 0 = xs.getD (i ^^^ 2 ^ p) 0) := fun z => by
          rw [z] at hf
          have := of_decide_eq_false hf
          exact this rfl
        have q' := q _ a4
        have e : idleAt xs p = false := by
          cases e : idleAt xs p with
          | false => rfl
          | true => exact absurd (idleAt_iff.mp e i hi) hne
        rw [e] at q'
        exact q'
      · by_cases hri : r = i
        · subst hri
          have := of_decide_eq_true (V.bl.inj hc)
          have := V.int.inj this
          omega
        · exact hg r (by omega)
    · rintro ys H3 ⟨hg, a3⟩
      rw [List.length_map] at hg
      have q' := q _ a3
      rw [idleAt_iff.mpr hg] at q'
      exact q'
def spIdle (Ts : List Addr) : Sp := fun vs H Q _ => ∃ (a : Addr) (m : Nat) (xs : List Nat), vs = [.ref a] ∧ H a = some (.tup (xs.map nV)) ∧ xs.length = 2 ^ m ∧ m ≤ 8 ∧ Tabs Ts H ∧ ∀ p H', Aft Ts H H' → H' p = some (.tup ((idles xs m).map nV)) → Q (.ref p) H'
theorem idles_snoc (xs : List Nat) (i : Nat) : ((List.range (i + 1)).filter fun p => idleAt xs p) = ((List.range i).filter fun p => idleAt xs p) ++ (if idleAt xs i = true then [i] else []) := by
  rw [List.range_succ, List.filter_append, List.filter_cons]
  rfl
theorem ok_idle {f c PG : Addr} (D : Dfn K mg "idle" s_idle f c) (T : Txt mg) (c_is_idle : Cal P w K mg base 1 "is_idle" (spIsIdle Ts) []) (TB_idle : GxR.TabB base mg c PG) (hP : PG ∈ Ts) : Cal P w K mg base 3 "idle" (spIdle Ts) [] := by
  refine cal D (fun _ _ _ _ _ _ us hl => match us, hl with | [_], _ => rfl) sc_idle (fun vs H Q E h => ?_) (fun A outer s H vs Q E hr h => ?_)
  · obtain ⟨a, m, xs, rfl, _⟩ := h
    rfl
  · obtain ⟨a, m, xs, rfl, ha, hl, hm, tb, q⟩ := h
    refine ⟨_, (pss_cons (ps_set (i := 1) sc_idle.nd rfl (by first | exact Or.inl rfl | exact Or.inr rfl) (pe_op op_sub (pe_bits (pe_callB call_len_seq (by rfl) T.b_len (by decide +kernel) (pa_cons (pv 0) pa_nil))) pe_int))
      (pss_one (ps_ret (pe_tupG (own := [("place", 2)]) hr (by rfl) T.b_tuple TB_idle rfl (gxOk_by (N := ["content", "places", "place"]) (sc := defScope s_idle) (own := [("place", 2)]) (by decide +kernel)) sc_idle.nd (pi_range1 (by rfl) T.b_range (pa_cons (pv 1) pa_nil)) (fun _ _ _ _ => (pg_name (i := 2) sc_idle.nd rfl (by first | exact Or.inl rfl | exact Or.inr rfl))) (fun _ _ _ _ => (pts_one (pt_val (pe_c c_is_idle (GX.Room.gx4 hr) (by decide) (by rfl) (pa_cons (pv 0) (pa_cons (pv 2) pa_nil)))))) (fun _ _ _ _ => (pv 2)))))), ?_⟩
    refine ⟨_, rfl, a, _, rfl, .inr (SqT.of ha), _, rfl, _, _, rfl, rfl, ?_⟩
    have eb : ((Builtin.Int.intBits (((xs.map nV).length : Nat) : Int) : Nat) : Int) - 1 = ((m : Nat) : Int) := by
      rw [List.length_map, hl, bits_pow]
      omega
    dsimp only
    rw [eb]
    refine ⟨_, rfl, _, rfl, by omega, by omega, tb PG hP, fun H2 ht => ?_⟩
    have a2 : Aft Ts H H2 := ⟨Keep.tabbed hP ht, tb.tabbed ht⟩
    refine turns_it (walk_range (lo := 0) (n := ((m : Nat) : Int).toNat)) (fun i ys H' => ys = ((List.range i).filter fun p => idleAt xs p).map nV ∧ Aft Ts H H') ⟨rfl, a2⟩ (fun i ys H' _ _ => trivial) ?_ ?_
    · rintro i x ys H3 H4 hi ⟨rfl, a3⟩ ⟨rfl, rfl⟩
      rw [Int.toNat_natCast] at hi
      refine ⟨rfl, _, rfl, _, rfl, a, i, m, xs, (by show [V.ref a, V.int (0 + (i : Int))] = [V.ref a, V.int (i : Int)]; rw [Int.zero_add]), a3.tup tb ha, hl, hi, hm, a3.tb, fun H5 a5 => ⟨_, rfl, ite2 (fun hb => ?_) (fun hb => ?_)⟩⟩
      · refine ⟨_, rfl, ?_, fun _ => ⟨?_, a3.trans a5⟩⟩
        · show (List.map nV _).length < sizeLine
          rw [List.length_map]
          exact Nat.lt_of_le_of_lt (List.length_filter_le _ _) (by rw [List.length_range]; exact small256 (by omega))
        · rw [idles_snoc, if_pos hb, List.map_append]
          show _ ++ [V.int (0 + (i : Int))] = _ ++ [V.int (i : Int)]
          rw [Int.zero_add]
      · refine ⟨?_, a3.trans a5⟩
        rw [idles_snoc, if_neg hb, List.append_nil]
    · rintro ys H3 ⟨rfl, a3⟩
      rw [Int.toNat_natCast]
      refine ⟨?_, fun p hp => ?_⟩
      · rw [List.length_map]
        exact Nat.le_trans (List.length_filter_le _ _) (by rw [List.length_range]; exact small _ (by omega))
      · exact q p _ (a3.trans (Aft.new a3.tb hp)) upd_same
end
section
variable {P : Program} {w : World} {K : PySem.W.Frag} {mg : Str → Option Value} {base : Heap} {Ts : List Addr}
def spWithout (Ts : List Addr) : Sp := fun vs H Q _ => ∃ (a : Addr) (p : Nat) (xs : List Nat), vs = [.ref a, nV p] ∧ H a = some (.tup (xs.map nV)) ∧ xs.length ≤ 256 ∧ Tabs Ts H ∧ ∀ r H', Aft Ts H H' → H' r = some (.tup ((wo xs p).map nV)) → Q (.ref r) H'
theorem wo_snoc (xs : List Nat) (p i : Nat) : (((List.range (i + 1)).filter fun n => decide (n / 2 ^ p % 2 = 0)).map fun n => xs.getD n 0) = (((List.range i).filter fun n => decide (n / 2 ^ p % 2 = 0)).map fun n => xs.getD n 0) ++ (if i / 2 ^ p % 2 = 0 then [xs.getD i 0] else []) := by
  rw [List.range_succ, List.filter_append, List.map_append, List.filter_cons]
  by_cases h : i / 2 ^ p % 2 = 0
  · rw [if_pos h, if_pos (decide_eq_true h)]
    rfl
  · rw [if_neg h, if_neg (by rw [decide_eq_false h]; exact Bool.false_ne_true)]
    rfl
theorem ok_without {f c PG : Addr} (D : Dfn K mg "without" s_without f c) (T : Txt mg) (TB_without : GxR.TabB base mg c PG) (hP : PG ∈ Ts) : Cal P w K mg base 1 "without" (spWithout Ts) [] := by
  refine cal D (fun _ _ _ _ _ _ us hl => match us, hl with | [_, _], _ => rfl) sc_without (fun vs H Q E h => ?_) (fun A outer s H vs Q E hr h => ?_)
  · obtain ⟨a, p, xs, rfl, _⟩ := h
    rfl
  · obtain ⟨a, p, xs, rfl, ha, hl, tb, q⟩ := h
    refine ⟨_, (pss_one (ps_ret (pe_tupG (own := [("number", 2), ("worth", 3)]) hr (by rfl) T.b_tuple TB_without rfl (gxOk_by (N := ["content", "place", "number", "worth"]) (sc := defScope s_without) (own := [("number", 2), ("worth", 3)]) (by decide +kernel)) sc_without.nd (pi_enumT (by rfl) T.b_enumerate (pa_cons (pv 0) pa_nil)) (fun _ _ _ _ => (pg_tupK (K := K) (n := 2) rfl rfl (pgs_cons (pg_name (i := 2) sc_without.nd rfl (by first | exact Or.inl rfl | exact Or.inr rfl)) (pgs_cons (pg_name (i := 3) sc_without.nd rfl (by first | exact Or.inl rfl | exact Or.inr rfl)) pgs_nil)))) (fun _ _ _ _ => (pts_one (pt_not (pt_truthK (K := K) (pe_op op_and (pe_op op_shr (pv 2) (pv 1)) pe_int) (by intro _; rfl))))) (fun _ _ _ _ => (pv 3))))), ?_⟩
    refine ⟨_, rfl, a, _, rfl, SqT.of ha, tb PG hP, fun H2 ht => ?_⟩
    have a2 : Aft Ts H H2 := ⟨Keep.tabbed hP ht, tb.tabbed ht⟩
    refine turns_it (walk_enumT (xs := xs.map nV)) (fun i ys H' => ys = (((List.range i).filter fun n => decide (n / 2 ^ p % 2 = 0)).map fun n => xs.getD n 0).map nV ∧ Aft Ts H H') ⟨rfl, a2⟩ (fun i ys H' _ hp => SqT.of (hp.2.tup tb ha)) ?_ ?_
    · rintro i x ys H3 H4 hi ⟨rfl, a3⟩ ⟨T', v1, v2, rfl, nT, rfl, e1, e2⟩
      cases e1
      rw [List.length_map] at hi
      have e2' : (xs.map nV)[i]? = some v2 := e2
      rw [natAt hi] at e2'
      cases e2'
      have a4 := a3.trans (Aft.new (o := .tup [.int (i : Nat), nV (xs.getD i 0)]) a3.tb nT)
      refine ⟨T', _, rfl, SqT.of upd_same, rfl, _, _, rfl, _, _, rfl, rfl, rfl, ?_⟩
      refine ⟨_, rfl, _, rfl, _, _, rfl, rfl, by omega, _, _, rfl, rfl, ?_⟩
      dsimp -proj only
      rw [bit_of]
      refine ⟨_, rfl, ?_⟩
      have ev : (!(((i / 2 ^ p % 2 : Nat) : Int) != 0)) = decide (i / 2 ^ p % 2 = 0) := by
        by_cases h : i / 2 ^ p % 2 = 0
        · rw [h]
          rfl
        · rw [decide_eq_false h, show i / 2 ^ p % 2 = 1 by omega]
          rfl
      rw [ev]
      refine ite2 (fun h0 => ?_) (fun h0 => ?_)
      · have h0' := of_decide_eq_true h0
        refine ⟨_, rfl, ?_, fun _ => ⟨?_, a4⟩⟩
        · show (List.map nV _).length < sizeLine
          rw [List.length_map, List.length_map]
          exact Nat.lt_of_le_of_lt (List.length_filter_le _ _) (by rw [List.length_range]; exact small256 (by omega))
        · rw [wo_snoc, if_pos h0', List.map_append]
          rfl
      · refine ⟨?_, a4⟩
        rw [wo_snoc, if_neg (fun z => h0 (decide_eq_true z)), List.append_nil]
    · rintro ys H3 ⟨rfl, a3⟩
      rw [List.length_map]
      refine ⟨?_, fun r hr => ?_⟩
      · rw [List.length_map, List.length_map]
        exact Nat.le_trans (List.length_filter_le _ _) (by rw [List.length_range]; exact small _ (by omega))
      · exact q r _ (a3.trans (Aft.new a3.tb hr)) upd_same
end
end K50
set_option Elab.async false
set_option linter.all false
set_option maxRecDepth 100000
set_option maxHeartbeats 4000000
namespace K50
open PySem PySem.Spec PyProof.Rows L2 GX
open C8 (Cal pe_c pe_gc)
/-- how far it is to a free number, round about -/
def gap (v m p : Nat) : Nat := if p ≤ v then v - p else v + m - p
theorem gap_less {v m p : Nat} (hv : v < m) (hp : p < m) (ne : p ≠ v) : gap v m ((p + 1) % m) < gap v m p := by
  unfold gap
  by_cases h : p + 1 < m
  · rw [Nat.mod_eq_of_lt h]
    split <;> split <;> omega
  · have e : p + 1 = m := by omega
    rw [e, Nat.mod_self]
    split <;> split <;> omega
theorem free_num {qs : List Nat} {m : Nat} (h : qs.length < m) : ∃ v, v < m ∧ v ∉ qs := by
  refine Classical.not_not.mp fun z => ?_
  have := nodup_len (ys := qs) (List.nodup_range (n := m)) fun x hx => Classical.not_not.mp fun y => z ⟨x, List.mem_range.mp hx, y⟩
  rw [List.length_range] at this
  omega
theorem sorted_nats {xs : List Nat} {ns : List Int} (pm : ns.Perm (xs.map fun n : Nat => (n : Int))) (pw : ns.Pairwise (· ≤ ·)) (nd : xs.Nodup) : ∃ ys : List Nat, ns = (ys.map fun n : Nat => (n : Int)) ∧ ys.Pairwise (· < ·) ∧ (∀ z, z ∈ ys ↔ z ∈ xs) ∧ ys.length = xs.length := by
  have hnn : ∀ i ∈ ns, 0 ≤ i := fun i hi => by
    obtain ⟨x, _, rfl⟩ := List.mem_map.mp (pm.mem_iff.mp hi)
    omega
  have e : ns = ((ns.map Int.toNat).map fun n : Nat => (n : Int)) := by
    rw [List.map_map]
    conv => lhs; rw [← List.map_id ns]
    refine List.map_congr_left fun i hi => ?_
    show i = ((i.toNat : Nat) : Int)
    rw [Int.toNat_of_nonneg (hnn i hi)]
  have ndn : ns.Nodup := pm.nodup_iff.mpr (List.Pairwise.map _ (fun a b h z => h (by omega)) nd)
  refine ⟨ns.map Int.toNat, e, ?_, fun z => ?_, ?_⟩
  · rw [List.pairwise_map]
    refine List.Pairwise.imp_of_mem (R := fun a b => a ≤ b ∧ a ≠ b) (fun {a b} ha hb h => ?_) (pw.and ndn)
    have := hnn a ha
    have := hnn b hb
    omega
  · refine ⟨fun h => ?_, fun h => ?_⟩
    · obtain ⟨i, hi, rfl⟩ := List.mem_map.mp h
      obtain ⟨x, hx, rfl⟩ := List.mem_map.mp (pm.mem_iff.mp hi)
      rw [Int.toNat_natCast]
      exact hx
    · exact List.mem_map.mpr ⟨(z : Int), pm.mem_iff.mpr (List.mem_map.mpr ⟨z, h, rfl⟩), Int.toNat_natCast z⟩
  · rw [List.length_map, pm.length_eq, List.length_map]
section
variable {P : Program} {w : World} {K : PySem.W.Frag} {mg : Str → Option Value} {base : Heap} {Ts : List Addr}
def spLayout : Sp := fun vs H Q _ => ∃ (W : Addr), vs = [.ref W] ∧ Wl H W ∧ ∀ a l g o ps H', LayAt H' a l g o ps → l.Ok → Wk W H H' → Q (.ref a) H'
theorem ok_layout {f c : Addr} (D : Dfn K mg "_law_layout" s__law_layout f c) (T : Txt mg) (c__law_take : Cal P w K mg base 1 "_law_take" spTake []) : Cal P w K mg base 2 "_law_layout" spLayout [] := by
  refine cal D (fun _ _ _ _ _ _ us hl => match us, hl with | [_], _ => rfl) sc__law_layout (fun vs H Q E h => ?_) (fun A outer s H vs Q E hr h => ?_)
  · obtain ⟨W, rfl, _⟩ := h
    rfl
  · obtain ⟨W, rfl, wl, q⟩ := h
    refine ⟨_, (pss_cons (ps_set (i := 1) sc__law_layout.nd rfl (by first | exact Or.inl rfl | exact Or.inr rfl) (pe_c c__law_take hr (by decide) (by rfl) (pa_cons (pv 0) (pa_cons pe_int pa_nil))))
      (pss_cons (ps_set (i := 2) sc__law_layout.nd rfl (by first | exact Or.inl rfl | exact Or.inr rfl) (pe_op op_add pe_int (pe_c c__law_take hr (by decide) (by rfl) (pa_cons (pv 0) (pa_cons pe_int pa_nil)))))
      (pss_cons (ps_set (i := 3) sc__law_layout.nd rfl (by first | exact Or.inl rfl | exact Or.inr rfl) (pe_ix ix_list (pe_lst (pa_cons (pe_c c__law_take hr (by decide) (by rfl) (pa_cons (pv 0) (pa_cons pe_int pa_nil))) (pa_cons pe_int pa_nil))) (pe_callTy call_int1 (by rfl) T.b_int (by decide +kernel) (pa_cons (pe_cmpR op_eq (pv 1) pe_int (nomark _)) pa_nil)) (fun _ _ => rfl)))
      (pss_cons (ps_set (i := 4) sc__law_layout.nd rfl (by first | exact Or.inl rfl | exact Or.inr rfl) (pe_tup pa_nil))
      (pss_cons (ps_for PassesOwn.never rfl (pi_range2 (by rfl) T.b_range (pa_cons (pv 2) (pa_cons (pe_op op_add (pv 2) (pv 3)) pa_nil))) (pg_name (i := 5) sc__law_layout.nd rfl (by first | exact Or.inl rfl | exact Or.inr rfl))
        (pss_cons (ps_set (i := 6) sc__law_layout.nd rfl (by first | exact Or.inl rfl | exact Or.inr rfl) (pe_callB (call_min2 rfl) (by rfl) T.b_min (by decide +kernel) (pa_cons (pv 5) (pa_cons (pe_ix ix_list (pe_lst (pa_cons (pe_op op_add pe_int (pe_c c__law_take hr (by decide) (by rfl) (pa_cons (pv 0) (pa_cons pe_int pa_nil)))) (pa_cons pe_int pa_nil))) (pe_callTy call_int1 (by rfl) T.b_int (by decide +kernel) (pa_cons (pe_cmpR op_eq (pv 1) pe_int (nomark _)) pa_nil)) (fun _ _ => rfl)) pa_nil))))
      (pss_cons (ps_set (i := 7) sc__law_layout.nd rfl (by first | exact Or.inl rfl | exact Or.inr rfl) (pe_op op_rep (pe_lst (pa_cons (pe_op op_sub (pv 5) pe_int) pa_nil)) (pe_callTy call_int1 (by rfl) T.b_int (by decide +kernel) (pa_cons (pe_cmpR op_eq (pv 1) pe_int (nomark _)) pa_nil))))
      (pss_cons (ps_while PassesOwn.never (pt_cmpR op_lt (pe_callB call_len_seq (by rfl) T.b_len (by decide +kernel) (pa_cons (pv 7) pa_nil)) (pv 6) (nomark _)) (pss_cons (ps_set (i := 8) sc__law_layout.nd rfl (by first | exact Or.inl rfl | exact Or.inr rfl) (pe_c c__law_take hr (by decide) (by rfl) (pa_cons (pv 0) (pa_cons (pv 5) pa_nil))))
      (pss_cons (ps_while PassesOwn.never (pt_cmpR op_in_seq (pv 8) (pv 7) (by rfl)) (pss_one (ps_set (i := 8) sc__law_layout.nd rfl (by first | exact Or.inl rfl | exact Or.inr rfl) (pe_op op_mod (pe_op op_add (pv 8) pe_int) (pv 5)))))
      (pss_one (ps_expr (pe_bm PySem.F.plainAttrs_list PySem.F.slot_list_append PySem.F.type_list_append mt_append (pv 7) (pa_cons (pv 8) pa_nil)))))))
      (pss_cons (ps_set (i := 9) sc__law_layout.nd rfl (by first | exact Or.inl rfl | exact Or.inr rfl) (pe_lc (own := [("_law_number", 10)]) (g := gName 10) (tt := tYes) rfl sc__law_layout.nd (pi_range1 (by rfl) T.b_range (pa_cons pe_int pa_nil)) (blkOk_by (own := [("_law_number", 10)]) (N := ["_law_well_here", "_law_way", "_law_many", "_law_count", "_law_tables", "_law_wire", "_law_size", "_law_places", "_law_place", "_law_bits", "_law_number", "_law_period", "_law_made", "_law_wires", "_law_outs", "_law_turn"]) (sc := defScope s__law_layout) (by decide +kernel)) (fun _ _ _ _ _ => (pg_name (i := 10) sc__law_layout.nd rfl (by first | exact Or.inl rfl | exact Or.inr rfl))) (fun _ _ _ _ _ => pts_nil) (fun _ _ _ _ _ => (pe_c c__law_take hr (by decide) (by rfl) (pa_cons (pv 0) (pa_cons pe_int pa_nil))))))
      (pss_cons (ps_set (i := 11) sc__law_layout.nd rfl (by first | exact Or.inl rfl | exact Or.inr rfl) (pe_ix ix_list (pe_lst (pa_cons pe_int (pa_cons pe_int (pa_cons (pe_ix ix_list (pe_lst (pa_cons pe_int (pa_cons pe_int (pa_cons pe_int (pa_cons pe_int pa_nil))))) (pe_c c__law_take hr (by decide) (by rfl) (pa_cons (pv 0) (pa_cons pe_int pa_nil))) (fun _ _ => rfl)) (pa_cons pe_int pa_nil))))) (pv 1) (fun _ _ => rfl)))
      (pss_cons (ps_set (i := 12) sc__law_layout.nd rfl (by first | exact Or.inl rfl | exact Or.inr rfl) (pe_callTy call_tuple_of (by rfl) T.b_tuple (by decide +kernel) (pa_cons (pe_lc (own := [("_law_number", 10)]) (g := gName 10) (tt := tYes) rfl sc__law_layout.nd (pi_range1 (by rfl) T.b_range (pa_cons (pe_ix ix_list (pe_lst (pa_cons pe_int (pa_cons pe_int (pa_cons pe_int (pa_cons pe_int pa_nil))))) (pe_op op_sub (pe_callB call_len_seq (by rfl) T.b_len (by decide +kernel) (pa_cons (pv 7) pa_nil)) pe_int) (fun _ _ => rfl)) pa_nil)) (blkOk_by (own := [("_law_number", 10)]) (N := ["_law_well_here", "_law_way", "_law_many", "_law_count", "_law_tables", "_law_wire", "_law_size", "_law_places", "_law_place", "_law_bits", "_law_number", "_law_period", "_law_made", "_law_wires", "_law_outs", "_law_turn"]) (sc := defScope s__law_layout) (by decide +kernel)) (fun _ _ _ _ _ => (pg_name (i := 10) sc__law_layout.nd rfl (by first | exact Or.inl rfl | exact Or.inr rfl))) (fun _ _ _ _ _ => pts_nil) (fun _ _ _ _ _ => (pe_ix (ix_listK (K := K)) (pv 9) (pe_op op_mod (pv 10) (pv 11)) (fun _ _ => rfl)))) pa_nil)))
      (pss_one (ps_set (i := 4) sc__law_layout.nd rfl (by first | exact Or.inl rfl | exact Or.inr rfl) (pe_op op_catA (pv 4) (pe_tup (pa_cons (pe_tup (pa_cons (pe_callTy call_tuple_of (by rfl) T.b_tuple (by decide +kernel) (pa_cons (pe_callB cr_sortedI (by rfl) T.b_sorted (by decide +kernel) (pa_cons (pv 7) pa_nil)) pa_nil)) (pa_cons (pv 12) pa_nil))) pa_nil))))))))))))
      (pss_cons (ps_set (i := 13) sc__law_layout.nd rfl (by first | exact Or.inl rfl | exact Or.inr rfl) (pe_op op_add (pv 2) (pv 3)))
      (pss_cons (ps_set (i := 14) sc__law_layout.nd rfl (by first | exact Or.inl rfl | exact Or.inr rfl) (pe_op op_catA (pe_tup (pa_cons (pe_op op_sub (pv 13) pe_int) pa_nil)) (pe_callTy call_tuple_of (by rfl) T.b_tuple (by decide +kernel) (pa_cons (pe_lc (own := [("_law_turn", 15)]) (g := gName 15) (tt := tYes) rfl sc__law_layout.nd (pi_range1 (by rfl) T.b_range (pa_cons (pe_c c__law_take hr (by decide) (by rfl) (pa_cons (pv 0) (pa_cons pe_int pa_nil))) pa_nil)) (blkOk_by (own := [("_law_turn", 15)]) (N := ["_law_well_here", "_law_way", "_law_many", "_law_count", "_law_tables", "_law_wire", "_law_size", "_law_places", "_law_place", "_law_bits", "_law_number", "_law_period", "_law_made", "_law_wires", "_law_outs", "_law_turn"]) (sc := defScope s__law_layout) (by decide +kernel)) (fun _ _ _ _ _ => (pg_name (i := 15) sc__law_layout.nd rfl (by first | exact Or.inl rfl | exact Or.inr rfl))) (fun _ _ _ _ _ => pts_nil) (fun _ _ _ _ _ => (pe_c c__law_take hr (by decide) (by rfl) (pa_cons (pv 0) (pa_cons (pv 13) pa_nil))))) pa_nil))))
      (pss_one (ps_ret (pe_tup (pa_cons (pv 2) (pa_cons (pv 4) (pa_cons (pe_revT (pv 14)) pa_nil))))))))))))), ?_⟩
    refine ⟨_, rfl, W, 4, rfl, wl, by decide, by decide, fun way H1 y0 y1 w1 k1 => ?_⟩
    have d1 : Wk W H H1 := ⟨w1, k1⟩
    refine ⟨_, rfl, W, 8, rfl, w1, by decide, by decide, fun mn H2 m0 m1 w2 k2 => ⟨_, _, rfl, rfl, ?_⟩⟩
    have d2 := d1.nxt w2 k2
    obtain ⟨m, em, hm1, hm8⟩ : ∃ m : Nat, 1 + mn = ((m : Nat) : Int) ∧ 1 ≤ m ∧ m ≤ 8 := ⟨(1 + mn).toNat, by omega, by omega, by omega⟩
    dsimp -proj only
    rw [em]
    refine ⟨_, rfl, W, 17, rfl, w2, by decide, by decide, fun cd H3 c0 c1 w3 k3 => ⟨small 2, fun z nz => ⟨_, rfl, rfl, ?_⟩⟩⟩
    have d3 := (d2.nxt w3 k3).new (o := .lst [.int cd, .int 16]) nz
    obtain ⟨ct, hct, ct16⟩ : ∃ ct : Nat, (if (decide (V.int way = V.int 1)) = true then V.int 16 else V.int cd) = nV ct ∧ ct ≤ 16 := by
      cases decide (V.int way = V.int 1)
      · exact ⟨cd.toNat, by show V.int cd = V.int ((cd.toNat : Nat) : Int); rw [Int.toNat_of_nonneg c0], by omega⟩
      · exact ⟨16, rfl, by decide⟩
    refine .inr ⟨_, rfl, z, _, _, nV ct, rfl, rfl, SqL.of upd_same, (by rw [atIf]; exact congrArg some hct), ?_⟩
    refine ⟨small 0, fun tp0 ntp => ?_⟩
    have s4 := Same.new (o := .tup []) ntp
    have d4 := d3.same s4
    have ht4 : upd (upd H3 z (.lst [.int cd, .int 16])) tp0 (.tup []) tp0 = some (.tup (([] : List Addr).map V.ref)) := upd_same
    generalize upd (upd H3 z (.lst [.int cd, .int 16])) tp0 (.tup []) = H4 at d4 ht4 ⊢
    refine ⟨_, rfl, _, rfl, _, rfl, _, _, rfl, rfl, _, _, rfl, ⟨by omega, by omega, by show -(2 ^ 62) ≤ ((m : Nat) : Int) + ((ct : Nat) : Int); omega, by show ((m : Nat) : Int) + ((ct : Nat) : Int) < 2 ^ 62; omega⟩, ?_⟩
    refine for_range (lo := ((m : Nat) : Int)) (n := (((m : Nat) : Int) + ((ct : Nat) : Int) - ((m : Nat) : Int)).toNat) (fun i σ H' => ∃ tp ps ts x5 x6 x7 x8 x9 x10 x11 x12, σ = [some (.ref W), some (.int way), some (nV m), some (nV ct), some (.ref tp), x5, x6, x7, x8, x9, x10, x11, x12, none, none, none] ∧ Wk W H H' ∧ H' tp = some (.tup (ps.map V.ref)) ∧ TabsAt H' ps ts ∧ ts.length = i ∧ ∀ (j : Nat) (t : List Nat × List Nat), ts[j]? = some t → tabOk (m + j) t) ⟨tp0, [], [], none, none, none, none, none, none, none, none, rfl, d4, ht4, TabsAt.nil _, rfl, fun j t h => by simp at h⟩ ?_ ?_
    · rintro i σ H5 hi ⟨tp, ps, ts, x5, x6, x7, x8, x9, x10, x11, x12, rfl, d5, ht5, hts5, tl, tok⟩
      have hi' : i < ct := by omega
      have pl := hts5.1
      show gName 5 (V.int (((m : Nat) : Int) + ((i : Nat) : Int))) _ _ _
      obtain ⟨wr, ewr, hwr1, hwr⟩ : ∃ wr : Nat, ((m : Nat) : Int) + ((i : Nat) : Int) = ((wr : Nat) : Int) ∧ 1 ≤ wr ∧ wr = m + i := ⟨m + i, by omega, by omega, rfl⟩
      rw [ewr]
      have hwl : wr ≤ 24 := by omega
      -- size
      refine ⟨_, rfl, _, rfl, W, 4, rfl, d5.wl, by decide, by decide, fun sd H6 s0 s1 w6 k6 => ⟨_, _, rfl, rfl, small 2, fun z6 nz6 => ⟨_, rfl, rfl, ?_⟩⟩⟩
      have d6 := (d5.nxt w6 k6).new (o := .lst [.int (1 + sd), .int 1]) nz6
      have s6 := Same.new (o := .lst [.int (1 + sd), .int 1]) nz6
      have t6 : ∀ b xs, H5 b = some (.tup xs) → upd H6 z6 (.lst [.int (1 + sd), .int 1]) b = some (.tup xs) := fun b xs e => s6 _ _ (k6.tups d5.wl.nt b xs e)
      obtain ⟨sz0, hsz0, sz01, sz04⟩ : ∃ sz0 : Nat, (if (decide (V.int way = V.int 3)) = true then V.int 1 else V.int (1 + sd)) = nV sz0 ∧ 1 ≤ sz0 ∧ sz0 ≤ 4 := by
        cases decide (V.int way = V.int 3)
        · exact ⟨(1 + sd).toNat, by show V.int (1 + sd) = V.int (((1 + sd).toNat : Nat) : Int); rw [Int.toNat_of_nonneg (by omega)], by omega, by omega⟩
        · exact ⟨1, rfl, by decide, by decide⟩
      refine .inr ⟨_, rfl, z6, _, _, nV sz0, rfl, rfl, SqL.of upd_same, (by rw [atIf]; exact congrArg some hsz0), _, _, rfl, ?_⟩
      have ht6 := t6 _ _ ht5
      have hts6 := hts5.mono t6
      generalize upd H6 z6 (.lst [.int (1 + sd), .int 1]) = H7 at d6 ht6 hts6 ⊢
      obtain ⟨sz, esz, hsz1, hsz4, hszw⟩ : ∃ sz : Nat, (if ((sz0 : Nat) : Int) < ((wr : Nat) : Int) then ((sz0 : Nat) : Int) else ((wr : Nat) : Int)) = ((sz : Nat) : Int) ∧ 1 ≤ sz ∧ sz ≤ 4 ∧ sz ≤ wr := by
        by_cases h : ((sz0 : Nat) : Int) < ((wr : Nat) : Int)
        · exact ⟨sz0, if_pos h, sz01, sz04, by omega⟩
        · exact ⟨wr, if_neg h, hwr1, by omega, Nat.le_refl _⟩
      rw [esz]
      -- places
      refine ⟨_, rfl, _, _, rfl, rfl, small 1, fun z7 nz7 => ⟨_, rfl, rfl, .inr ⟨_, rfl, ?_⟩⟩⟩
      have s7 := Same.new (o := .lst [.int (((wr : Nat) : Int) - 1)]) nz7
      obtain ⟨r, hr', q0, hq0, hr0, hr1, q0l, q0n, q0w⟩ : ∃ r : Int, (if (decide (V.int way = V.int 1)) = true then (1 : Int) else 0) = r ∧ ∃ q0 : List Nat, (List.replicate r.toNat [V.int (((wr : Nat) : Int) - 1)]).flatten = q0.map nV ∧ 0 ≤ r ∧ r ≤ 1 ∧ q0.length ≤ 1 ∧ q0.Nodup ∧ ∀ x ∈ q0, x < wr := by
        cases decide (V.int way = V.int 1)
        · exact ⟨0, rfl, [], rfl, by decide, by decide, by decide, List.nodup_nil, fun x hx => (by cases hx)⟩
        · refine ⟨1, rfl, [wr - 1], ?_, by decide, by decide, Nat.le_refl _, List.nodup_cons.mpr ⟨fun z => (by cases z), List.nodup_nil⟩, fun x hx => by rw [List.mem_singleton.mp hx]; omega⟩
          show [V.int (((wr : Nat) : Int) - 1)] = [V.int ((wr - 1 : Nat) : Int)]
          rw [show (((wr : Nat) : Int) - 1) = ((wr - 1 : Nat) : Int) by omega]
      rw [hr']
      refine ⟨z7, r, _, rfl, rfl, upd_same, by omega, by omega, by show 1 * r.toNat ≤ sizeLine; exact small _ (by omega), fun l nl => ?_⟩
      rw [hq0]
      have d7 := d6.same s7
      obtain ⟨l0, lW⟩ := Wk.was' d7 nl
      have s8 := Same.new (o := .lst (q0.map nV)) nl
      have d8 := d7.same s8
      have ht8 := s8 _ _ (s7 _ _ ht6)
      have hts8 := hts6.mono fun b xs e => s8 _ _ (s7 _ _ e)
      have hl8 : upd (upd H7 z7 (.lst [.int (((wr : Nat) : Int) - 1)])) l (.lst (q0.map nV)) l = some (.lst (q0.map nV)) := upd_same
      generalize upd (upd H7 z7 (.lst [.int (((wr : Nat) : Int) - 1)])) l (.lst (q0.map nV)) = H8 at d8 ht8 hts8 hl8 ⊢
      refine while_at (fun σ H' => ∃ x8 qs, σ = [some (.ref W), some (.int way), some (nV m), some (nV ct), some (.ref tp), some (nV wr), some (nV sz), some (.ref l), x8, x9, x10, x11, x12, none, none, none] ∧ Wk W H H' ∧ H' tp = some (.tup (ps.map V.ref)) ∧ TabsAt H' ps ts ∧ H' l = some (.lst (qs.map nV)) ∧ qs.length ≤ sz ∧ qs.Nodup ∧ ∀ x ∈ qs, x < wr) (fun σ H' => sz - lenOf σ H' 7) ⟨x8, q0, rfl, d8, ht8, hts8, hl8, by omega, q0n, q0w⟩ ?_
      rintro σ H9 ⟨x8, qs, rfl, d9, ht9, hts9, hl9, ql, qn, qw⟩
      have emu : lenOf [some (.ref W), some (.int way), some (nV m), some (nV ct), some (.ref tp), some (nV wr), some (nV sz), some (.ref l), x8, x9, x10, x11, x12, none, none, none] H9 7 = qs.length := by
        show (match H9 l with | some (HO.lst xs) => xs.length | _ => 0) = _
        rw [hl9]
        exact List.length_map _
      rw [emu]
      refine ⟨_, rfl, l, _, rfl, .inl (SqL.of hl9), _, rfl, _, _, rfl, rfl, _, rfl, ite2 (fun g => ?_) (fun g => ?_)⟩
      · have g' : qs.length < sz := by
          have := of_decide_eq_true g
          rw [List.length_map] at this
          omega
        refine ⟨_, whN, ?_⟩
        refine ⟨_, rfl, _, rfl, W, _, rfl, d9.wl, by omega, by omega, fun pd H10 p0 p1 w10 k10 => ?_⟩
        obtain ⟨p, rfl⟩ := Int.eq_ofNat_of_zero_le p0
        have d10 := d9.nxt w10 k10
        have hl10 := Wk.ats k10 lW hl9
        have ht10 := d9.wl.tup k10 ht9
        have hts10 := hts9.mono (k10.tups d9.wl.nt)
        obtain ⟨v, hv, hvn⟩ := free_num (m := wr) (qs := qs) (by omega)
        refine while_at (fun σ H' => ∃ p, σ = [some (.ref W), some (.int way), some (nV m), some (nV ct), some (.ref tp), some (nV wr), some (nV sz), some (.ref l), some (nV p), x9, x10, x11, x12, none, none, none] ∧ H' = H10 ∧ p < wr) (fun σ H' => gap v wr (natOf σ 8)) ⟨p, rfl, rfl, by omega⟩ ?_
        rintro σ H11 ⟨p, rfl, rfl, hp⟩
        have emu2 : natOf [some (.ref W), some (.int way), some (nV m), some (nV ct), some (.ref tp), some (nV wr), some (nV sz), some (.ref l), some (nV p), x9, x10, x11, x12, none, none, none] 8 = p := Int.toNat_natCast p
        rw [emu2]
        refine ⟨_, rfl, _, rfl, l, _, rfl, .inl (SqL.of hl10), rfl, flat_ns _, _, rfl, ?_⟩
        rw [if_neg (by decide), inV_n]
        refine ite2 (fun hin => ?_) (fun hin => ?_)
        · have hin' := of_decide_eq_true hin
          refine ⟨_, whN, ?_⟩
          refine ⟨_, rfl, _, _, rfl, rfl, _, rfl, _, _, rfl, rfl, by omega, ?_⟩
          have e : V.int ((((p : Nat) : Int) + 1) % ((wr : Nat) : Int)) = nV ((p + 1) % wr) := by
            show V.int _ = V.int _
            congr 1
          dsimp -proj only
          rw [e]
          refine ⟨⟨(p + 1) % wr, rfl, rfl, Nat.mod_lt _ (by omega)⟩, ?_⟩
          show gap v wr (((((p + 1) % wr : Nat) : Int)).toNat) < _
          rw [Int.toNat_natCast]
          exact gap_less hv hp fun z => hvn (z ▸ hin')
        · have hin' : p ∉ qs := fun z => hin (decide_eq_true z)
          refine ⟨_, rfl, .inl ⟨rfl, _, SqL.of hl10⟩, _, rfl, l, _, _, rfl, rfl, hl10, by rw [List.length_map]; exact small256 (by omega), ?_⟩
          refine ⟨⟨_, qs ++ [p], rfl, Wk.put' d10 l0 lW, tupPut hl10 _ _ ht10, hts10.mono (tupPut hl10), by rw [upd_same, List.map_append]; rfl, by rw [List.length_append]; show qs.length + 1 ≤ sz; omega, nodup_snoc qn hin', fun x hx => ?_⟩, ?_⟩
          · rcases List.mem_append.mp hx with h | h
            · exact qw x h
            · rw [List.mem_singleton.mp h]
              exact hp
          · show sz - (match upd H11 l (HO.lst (qs.map nV ++ [nV p])) l with | some (HO.lst xs) => xs.length | _ => 0) < _
            rw [upd_same]
            show sz - (qs.map nV ++ [nV p]).length < sz - qs.length
            rw [List.length_append, List.length_map]
            show sz - (qs.length + 1) < _
            omega
      · have g' : qs.length = sz := by
          have : ¬ (qs.length < sz) := fun z => g (decide_eq_true (by rw [List.length_map]; show ((qs.length : Nat) : Int) < ((sz : Nat) : Int); omega))
          omega
        -- bits
        refine ⟨16, rfl, by decide, by decide, fun B nB => ?_⟩
        obtain ⟨B0, BW⟩ := Wk.was' d9 nB
        have lB : l ≠ B := fun z => by rw [z, nB] at hl9; cases hl9
        refine lc_range (lo := 0) (n := (16 : Int).toNat) (fun i H' => ∃ bs : List Nat, Wk W H H' ∧ H' tp = some (.tup (ps.map V.ref)) ∧ TabsAt H' ps ts ∧ H' l = some (.lst (qs.map nV)) ∧ H' B = some (.lst (bs.map nV)) ∧ bs.length = i ∧ ∀ x ∈ bs, x < 2) ⟨[], d9.new nB, Same.new nB _ _ ht9, hts9.mono (fun b xs e => Same.new nB _ _ e), Same.new nB _ _ hl9, upd_same, rfl, fun x hx => by (cases hx)⟩ ?_ ?_
        · rintro i' H10 hi10 ⟨bs, d10, ht10, hts10, hl10, hB10, bl, bb⟩
          refine ⟨rfl, ?_⟩
          unfold tYes
          refine iteT ?_
          refine ⟨_, rfl, W, 2, rfl, d10.wl, by decide, by decide, fun d H11 e0 e1 w11 k11 => ?_⟩
          obtain ⟨y, rfl⟩ := Int.eq_ofNat_of_zero_le e0
          have hB11 := Wk.ats k11 BW hB10
          refine ⟨_, hB11, by rw [List.length_map]; exact small256 (by have : i' < 16 := hi10; omega), bs ++ [y], Wk.put' (d10.nxt w11 k11) B0 BW, tupPut hB11 _ _ (d10.wl.tup k11 ht10), (hts10.mono (k11.tups d10.wl.nt)).mono (tupPut hB11), by rw [upd_ne lB]; exact Wk.ats k11 lW hl10, by rw [upd_same, List.map_append]; rfl, by rw [List.length_append, bl]; rfl, fun x hx => ?_⟩
          rcases List.mem_append.mp hx with h | h
          · exact bb x h
          · rw [List.mem_singleton.mp h]
            omega
        · rintro H10 ⟨bs, d10, ht10, hts10, hl10, hB10, bl, bb⟩
          have bl' : bs.length = 16 := bl
          -- period
          refine ⟨small 4, fun z11 nz11 => ⟨_, rfl, W, 4, rfl, ((d10.new nz11).wl), by decide, by decide, fun pd H12 p0 p1 w12 k12 => ?_⟩⟩
          have s11 := Same.new (o := .lst [.int 1, .int 2, .int 4, .int 8]) nz11
          have d11 := d10.same s11
          obtain ⟨_, zW⟩ := Wk.was' d10 nz11
          have d12 := d11.nxt w12 k12
          have hz12 := Wk.ats k12 zW (upd_same (H := H10) (a := z11) (o := .lst [.int 1, .int 2, .int 4, .int 8]))
          obtain ⟨pv, hpv, pv1, pv16⟩ : ∃ pv : Nat, atI [V.int 1, V.int 2, V.int 4, V.int 8] pd = some (nV pv) ∧ 1 ≤ pv ∧ pv ≤ 16 := by
            have : pd = 0 ∨ pd = 1 ∨ pd = 2 ∨ pd = 3 := by omega
            rcases this with rfl | rfl | rfl | rfl
            · exact ⟨1, rfl, by decide, by decide⟩
            · exact ⟨2, rfl, by decide, by decide⟩
            · exact ⟨4, rfl, by decide, by decide⟩
            · exact ⟨8, rfl, by decide, by decide⟩
          refine ⟨z11, _, _, _, rfl, rfl, SqL.of hz12, hpv, small 4, fun z13 nz13 => ⟨_, rfl, ?_⟩⟩
          have s13 := Same.new (o := .lst [.int 16, .int 16, nV pv, .int 2]) nz13
          have d13 := d12.same s13
          obtain ⟨pe, hpe, pe1, pe16⟩ : ∃ pe : Nat, atI [V.int 16, V.int 16, nV pv, V.int 2] way = some (nV pe) ∧ 1 ≤ pe ∧ pe ≤ 16 := by
            have : way = 0 ∨ way = 1 ∨ way = 2 ∨ way = 3 := by omega
            rcases this with rfl | rfl | rfl | rfl
            · exact ⟨16, rfl, by decide, by decide⟩
            · exact ⟨16, rfl, by decide, by decide⟩
            · exact ⟨pv, rfl, pv1, pv16⟩
            · exact ⟨2, rfl, by decide, by decide⟩
          refine ⟨z13, _, _, _, rfl, rfl, SqL.of upd_same, hpe, ?_⟩
          have tt : ∀ b xs, H10 b = some (.tup xs) → upd H12 z13 (.lst [.int 16, .int 16, nV pv, .int 2]) b = some (.tup xs) := fun b xs e => s13 _ _ (d11.wl.tup k12 (s11 _ _ e))
          have ht13 := tt _ _ ht10
          have hts13 := hts10.mono tt
          have hl13 : upd H12 z13 (.lst [.int 16, .int 16, nV pv, .int 2]) l = some (.lst (qs.map nV)) := s13 _ _ (Wk.ats k12 lW (s11 _ _ hl10))
          have hB13 : upd H12 z13 (.lst [.int 16, .int 16, nV pv, .int 2]) B = some (.lst (bs.map nV)) := s13 _ _ (Wk.ats k12 BW (s11 _ _ hB10))
          show gName 11 (nV pe) _ (upd H12 z13 (.lst [.int 16, .int 16, nV pv, .int 2])) _
          generalize upd H12 z13 (.lst [.int 16, .int 16, nV pv, .int 2]) = H13 at d13 ht13 hts13 hl13 hB13 ⊢
          -- made
          refine ⟨small 4, fun z14 nz14 => ⟨_, rfl, l, _, rfl, .inl (SqL.of (Same.new nz14 _ _ hl13)), _, _, rfl, rfl, ?_⟩⟩
          have s14 := Same.new (o := .lst [.int 2, .int 4, .int 8, .int 16]) nz14
          have hpw : atI [V.int 2, V.int 4, V.int 8, V.int 16] ((((qs.map nV).length : Nat) : Int) - 1) = some (nV (2 ^ sz)) := by
            rw [List.length_map, g']
            have : sz = 1 ∨ sz = 2 ∨ sz = 3 ∨ sz = 4 := by omega
            rcases this with rfl | rfl | rfl | rfl <;> rfl
          have h16 : 2 ^ sz ≤ 16 := Nat.le_trans (Nat.pow_le_pow_right (n := 2) (i := sz) (j := 4) (by decide) (by omega)) (by decide)
          refine ⟨z14, _, _, _, rfl, rfl, SqL.of upd_same, hpw, _, rfl, by show -(2 ^ 62) ≤ ((2 ^ sz : Nat) : Int); have := Int.natCast_nonneg (2 ^ sz); omega, by show ((2 ^ sz : Nat) : Int) < 2 ^ 62; omega, fun M nM => ?_⟩
          have d14 := d13.same s14
          have hB14 := s14 _ _ hB13
          have hl14 := s14 _ _ hl13
          have ht14 := s14 _ _ ht13
          have hts14 := hts13.mono fun b xs e => s14 _ _ e
          generalize upd H13 z14 (.lst [.int 2, .int 4, .int 8, .int 16]) = H14 at d14 hB14 hl14 ht14 hts14 nM ⊢
          refine lc_range (lo := 0) (n := ((2 ^ sz : Nat) : Int).toNat) (fun i H' => ∃ ms : List Nat, Own H14 H' M (ms.map nV) ∧ ms.length = i ∧ ∀ x ∈ ms, x < 2) ⟨[], ⟨Same.new nM, upd_same, nM⟩, rfl, fun x hx => by (cases hx)⟩ ?_ ?_
          · rintro j H15 hj ⟨ms, o15, ml, mb⟩
            rw [Int.toNat_natCast] at hj
            refine ⟨rfl, ?_⟩
            unfold tYes
            refine iteT ?_
            have hlt : j % pe < bs.length := by
              have := Nat.mod_lt j (show pe > 0 by omega)
              omega
            refine ⟨_, rfl, _, rfl, _, rfl, _, _, rfl, rfl, by omega, B, _, ((j % pe : Nat) : Int), _, rfl, ?_, SqL.of (o15.sm _ _ hB14), atI_nat (natAt hlt), _, o15.at_, by rw [List.length_map]; exact small256 (by omega), ms ++ [bs.getD (j % pe) 0], by rw [List.map_append]; exact o15.app, by rw [List.length_append, ml]; rfl, fun x hx => ?_⟩
            · show V.int ((0 + ((j : Nat) : Int)) % ((pe : Nat) : Int)) = _
              rw [Int.zero_add]
              rfl
            · rcases List.mem_append.mp hx with h | h
              · exact mb x h
              · rw [List.mem_singleton.mp h]
                exact bb _ (getD_mem hlt)
          · rintro H15 ⟨ms, o15, ml, mb⟩
            rw [Int.toNat_natCast] at ml
            refine ⟨M, _, rfl, .inl ⟨SqL.of o15.at_, fun mt nmt => ?_⟩⟩
            have s16 := o15.sm.trans (Same.new (o := .tup (ms.map nV)) nmt)
            have hmt : upd H15 mt (.tup (ms.map nV)) mt = some (.tup (ms.map nV)) := upd_same
            have d16 := d14.same s16
            have hl16 := s16 _ _ hl14
            have ht16 := s16 _ _ ht14
            have hts16 := hts14.mono fun b xs e => s16 _ _ e
            generalize upd H15 mt (.tup (ms.map nV)) = H16 at s16 hmt d16 hl16 ht16 hts16 ⊢
            refine ⟨_, rfl, _, rfl, l, qs.map (fun n : Nat => (n : Int)), rfl, (by rw [mapV]; exact SqL.of hl16), fun ns p17 pm pw np17 => ?_⟩
            obtain ⟨ys, rfl, yr, ym, yl⟩ := sorted_nats pm pw qn
            rw [mapV]
            have s17 := Same.new (o := .lst (ys.map nV)) np17
            refine ⟨p17, _, rfl, .inl ⟨SqL.of upd_same, fun p18 np18 => ⟨_, rfl, small 2, fun p19 np19 => ⟨small 1, fun p20 np20 => ?_⟩⟩⟩⟩
            have s18 := Same.new (o := .tup (ys.map nV)) np18
            have s19 := Same.new (o := .tup [.ref p18, .ref mt]) np19
            have s20 := Same.new (o := .tup [.ref p19]) np20
            have s1720 := ((s17.trans s18).trans s19).trans s20
            have tab : TabAt (upd (upd (upd (upd H16 p17 (.lst (ys.map nV))) p18 (.tup (ys.map nV))) p19 (.tup [.ref p18, .ref mt])) p20 (.tup [.ref p19])) p19 (ys, ms) := ⟨p18, mt, s20 _ _ upd_same, s20 _ _ (s19 _ _ upd_same), s1720 _ _ hmt⟩
            refine catA (s1720 _ _ ht16) upd_same (by rw [List.length_map, pl, tl]; show i + 1 ≤ sizeLine; exact small _ (by omega)) fun r21 H21 s21 h21 => ?_
            refine ⟨r21, ps ++ [p19], ts ++ [(ys, ms)], _, _, _, _, _, _, _, _, rfl, d16.same (s1720.trans s21), by rw [h21, List.map_append]; rfl, TabsAt.push (hts16.mono fun b xs e => s21 _ _ (s1720 _ _ e)) (tab.mono fun b xs e => s21 _ _ e), by rw [List.length_append, tl]; rfl, fun j t ht => ?_⟩
            by_cases hj : j < ts.length
            · rw [List.getElem?_append_left hj] at ht
              exact tok j t ht
            · rw [List.getElem?_append_right (by omega)] at ht
              have hz : j - ts.length = 0 := by
                obtain ⟨h1, _⟩ := List.getElem?_eq_some_iff.mp ht
                simp at h1
                omega
              rw [hz] at ht
              cases ht
              have ej : j = i := by omega
              subst ej
              rw [← hwr]
              exact ⟨by show 1 ≤ ys.length; omega, by show ys.length ≤ 4; omega, fun x hx => qw x ((ym x).mp hx), yr, by show ms.length = 2 ^ ys.length; rw [ml, yl, g'], mb⟩
    · rintro σ H5 ⟨tp, ps, ts, x5, x6, x7, x8, x9, x10, x11, x12, rfl, d5, ht5, hts5, tl, tok⟩
      have tl' : ts.length = ct := by omega
      refine ⟨_, rfl, _, rfl, _, _, rfl, rfl, ?_⟩
      refine ⟨_, rfl, _, _, rfl, rfl, small 1, fun p6 np6 => ?_⟩
      have s6 := Same.new (o := .tup [.int (((m : Nat) : Int) + ((ct : Nat) : Int) - 1)]) np6
      have d6 := d5.same s6
      refine ⟨_, rfl, W, 8, rfl, d6.wl, by decide, by decide, fun nd H7 n0 n1 w7 k7 => ⟨_, rfl, by omega, by omega, fun L nL => ?_⟩⟩
      have d7 := d6.nxt w7 k7
      obtain ⟨L0, LW⟩ := Wk.was' d7 nL
      have tt : ∀ b xs, upd H5 p6 (.tup [.int (((m : Nat) : Int) + ((ct : Nat) : Int) - 1)]) b = some (.tup xs) → H7 b = some (.tup xs) := fun b xs e => d6.wl.tup k7 e
      have hp7 := tt _ _ (upd_same (H := H5) (a := p6) (o := .tup [.int (((m : Nat) : Int) + ((ct : Nat) : Int) - 1)]))
      have ht7 := tt _ _ (s6 _ _ ht5)
      have hts7 := (hts5.mono fun b xs e => s6 _ _ e).mono tt
      refine lc_range (lo := 0) (n := nd.toNat) (fun i H' => ∃ os : List Nat, Wk W H H' ∧ H' p6 = some (.tup [.int (((m : Nat) : Int) + ((ct : Nat) : Int) - 1)]) ∧ H' tp = some (.tup (ps.map V.ref)) ∧ TabsAt H' ps ts ∧ H' L = some (.lst (os.map nV)) ∧ os.length = i ∧ ∀ x ∈ os, x < m + ct) ⟨[], d7.new nL, Same.new nL _ _ hp7, Same.new nL _ _ ht7, hts7.mono (fun b xs e => Same.new nL _ _ e), upd_same, rfl, fun x hx => by (cases hx)⟩ ?_ ?_
      · rintro i H8 hi ⟨os, d8, hp8, ht8, hts8, hL8, ol, ob⟩
        refine ⟨rfl, ?_⟩
        unfold tYes
        refine iteT ?_
        refine ⟨_, rfl, _, rfl, W, _, rfl, d8.wl, by omega, by omega, fun d H9 e0 e1 w9 k9 => ?_⟩
        obtain ⟨y, rfl⟩ := Int.eq_ofNat_of_zero_le e0
        have hL9 := Wk.ats k9 LW hL8
        have t9 := k9.tups d8.wl.nt
        refine ⟨_, hL9, by rw [List.length_map]; exact small256 (by omega), os ++ [y], Wk.put' (d8.nxt w9 k9) L0 LW, tupPut hL9 _ _ (t9 _ _ hp8), tupPut hL9 _ _ (t9 _ _ ht8), (hts8.mono t9).mono (tupPut hL9), by rw [upd_same, List.map_append]; rfl, by rw [List.length_append, ol]; rfl, fun x hx => ?_⟩
        rcases List.mem_append.mp hx with h | h
        · exact ob x h
        · rw [List.mem_singleton.mp h]
          omega
      · rintro H8 ⟨os, d8, hp8, ht8, hts8, hL8, ol, ob⟩
        refine ⟨L, _, rfl, .inl ⟨SqL.of hL8, fun p9 np9 => ?_⟩⟩
        have s9 := Same.new (o := .tup (os.map nV)) np9
        refine catA (s9 _ _ hp8) upd_same (by rw [List.length_map]; show 1 + os.length ≤ sizeLine; exact small _ (by omega)) fun r10 H10 s10 h10 => ?_
        have h10' : H10 r10 = some (.tup (((m + ct - 1) :: os).map nV)) := by
          rw [h10]
          show some (HO.tup ([V.int (((m : Nat) : Int) + ((ct : Nat) : Int) - 1)] ++ _)) = some (HO.tup (V.int ((m + ct - 1 : Nat) : Int) :: _))
          rw [show (((m : Nat) : Int) + ((ct : Nat) : Int) - 1) = ((m + ct - 1 : Nat) : Int) by omega]
          rfl
        refine ⟨_, rfl, _, rfl, _, rfl, r10, _, rfl, SqT.of h10', fun r11 nr11 => ⟨small 3, fun a na => ?_⟩⟩
        have s11 := Same.new (o := .tup (((m + ct - 1) :: os).map nV).reverse) nr11
        have s12 := Same.new (o := .tup [nV m, .ref tp, .ref r11]) na
        have sm := ((s9.trans s10).trans s11).trans s12
        refine q a ⟨m, ts, ((m + ct - 1) :: os).reverse⟩ tp r11 ps _ ⟨upd_same, sm _ _ ht8, hts8.mono fun b xs e => sm _ _ e, ?_⟩ ⟨hm1, hm8, by show ts.length ≤ 16; omega, fun i t h => tok i t h, ?_, ?_, fun o ho => ?_⟩ (d8.same sm)
        · rw [s12 _ _ upd_same, List.map_reverse]
        · show 1 ≤ (((m + ct - 1) :: os).reverse).length
          rw [List.length_reverse]
          exact Nat.succ_le_succ (Nat.zero_le _)
        · show (((m + ct - 1) :: os).reverse).length ≤ 8
          rw [List.length_reverse]
          show os.length + 1 ≤ 8
          omega
        · show o < m + ts.length
          rcases List.mem_cons.mp (List.mem_reverse.mp ho) with h | h
          · omega
          · have := ob o h
            omega
end
end K50
set_option Elab.async false
set_option linter.all false
set_option maxRecDepth 100000
set_option maxHeartbeats 4000000
namespace K50
open PySem PySem.Spec PyProof.Rows L2 GX
open C8 (Cal pe_c pe_gc)
section
variable {P : Program} {w : World} {K : PySem.W.Frag} {mg : Str → Option Value} {base : Heap} {Ts : List Addr}
def spTTable (Ts : List Addr) : Sp := fun vs H Q _ => ∃ (p : Addr) (t : List Nat × List Nat) (wr : Nat), vs = [.ref p] ∧ TabAt H p t ∧ tabOk wr t ∧ Tabs Ts H ∧ ∀ r H', Aft Ts H H' → TabAt H' r (trimT t) → Q (.ref r) H'
theorem gone0 {m : Nat} {G : List Nat} : ((List.range m).filter fun x => decide (x ∉ G.drop (G.length - 0))) = List.range m := by
  rw [Nat.sub_zero, List.drop_length]
  exact List.filter_eq_self.mpr fun x _ => decide_eq_true List.not_mem_nil
theorem ok_ttable {f c : Addr} (D : Dfn K mg "trimmed_table" s_trimmed_table f c) (T : Txt mg) (c_idle : Cal P w K mg base 3 "idle" (spIdle Ts) []) (c_without : Cal P w K mg base 1 "without" (spWithout Ts) []) : Cal P w K mg base 4 "trimmed_table" (spTTable Ts) [] := by
  refine cal D (fun _ _ _ _ _ _ us hl => match us, hl with | [_], _ => rfl) sc_trimmed_table (fun vs H Q E h => ?_) (fun A outer s H vs Q E hr h => ?_)
  · obtain ⟨p, t, wr, rfl, _⟩ := h
    rfl
  · obtain ⟨p, t, wr, rfl, ⟨pa, pb, hp, hpa, hpb⟩, tok, tb, q⟩ := h
    have p1 := tok.p1
    have p4 := tok.p4
    refine ⟨_, (pss_cons (ps_asg (pv 0) (pg_tup rfl (pgs_cons (pg_name (i := 1) sc_trimmed_table.nd rfl (by first | exact Or.inl rfl | exact Or.inr rfl)) (pgs_cons (pg_name (i := 2) sc_trimmed_table.nd rfl (by first | exact Or.inl rfl | exact Or.inr rfl)) pgs_nil))))
      (pss_cons (ps_set (i := 3) sc_trimmed_table.nd rfl (by first | exact Or.inl rfl | exact Or.inr rfl) (pe_c c_idle hr (by decide) (by rfl) (pa_cons (pv 2) pa_nil)))
      (pss_cons (ps_if (pt_cmpR op_eq (pe_callB call_len_seq (by rfl) T.b_len (by decide +kernel) (pa_cons (pv 3) pa_nil)) (pe_callB call_len_seq (by rfl) T.b_len (by decide +kernel) (pa_cons (pv 1) pa_nil)) (nomark _)) (pss_one (ps_set (i := 3) sc_trimmed_table.nd rfl (by first | exact Or.inl rfl | exact Or.inr rfl) (pe_slice sl_tupA (pv 3) (po_some pe_int) po_none))) pss_nil)
      (pss_cons (ps_for PassesOwn.never rfl (RT.pi_revA (by rfl) T.b_reversed (pv 3)) (pg_name (i := 4) sc_trimmed_table.nd rfl (by first | exact Or.inl rfl | exact Or.inr rfl))
        (pss_cons (ps_set (i := 1) sc_trimmed_table.nd rfl (by first | exact Or.inl rfl | exact Or.inr rfl) (pe_op op_catA (pe_slice sl_tupA (pv 1) po_none (po_some (pv 4))) (pe_slice sl_tupA (pv 1) (po_some (pe_op op_add (pv 4) pe_int)) po_none)))
      (pss_one (ps_set (i := 2) sc_trimmed_table.nd rfl (by first | exact Or.inl rfl | exact Or.inr rfl) (pe_c c_without hr (by decide) (by rfl) (pa_cons (pv 2) (pa_cons (pv 4) pa_nil)))))))
      (pss_one (ps_ret (pe_tup (pa_cons (pv 1) (pa_cons (pv 2) pa_nil))))))))), ?_⟩
    refine ⟨_, rfl, p, _, rfl, SqT.of hp, rfl, _, _, rfl, _, _, rfl, rfl, ?_⟩
    refine ⟨_, rfl, pb, t.1.length, t.2, rfl, hpb, tok.len, by omega, tb, fun gp H1 a1 hgp => ?_⟩
    have hpa1 := a1.tup tb hpa
    have hpb1 := a1.tup tb hpb
    generalize hm : t.1.length = m at hgp p1 p4
    have hlm : t.2.length = 2 ^ m := by rw [← hm]; exact tok.len
    have ego := go_idles t.2 p1
    have go_rise : (goG m t.2).Pairwise (· < ·) := List.Pairwise.filter _ List.pairwise_lt_range
    have go_lt : ∀ x ∈ goG m t.2, x < m := fun x hx => List.mem_range.mp (List.mem_filter.mp hx).1
    refine ⟨_, rfl, gp, _, rfl, .inr (SqT.of hgp), _, rfl, pa, _, rfl, .inr (SqT.of hpa1), rfl, _, rfl, ite2 (fun hc => ?_) (fun hc => ?_)⟩
    · have hc' : (idles t.2 m).length = m := by
        have := Int.ofNat_inj.mp (V.int.inj (of_decide_eq_true hc))
        rwa [List.length_map, List.length_map, hm] at this
      refine ⟨_, rfl, 1, rfl, ?_⟩
      try unfold tNoPart
      refine slA (lo := some (1 : Int)) (hi := none) hgp fun g2 H2 s2 h2 => ?_
      have hgx : H2 g2 = some (.tup ((goG m t.2).map nV)) := by rw [h2, show (some (1 : Int)) = some ((1 : Nat) : Int) from rfl, cut_lo, ego, if_pos hc', List.map_drop]
      have hpx : H2 pa = some (.tup (((List.range m).map fun k => t.1.getD k 0).map nV)) := by rw [← hm, map_range_self t.1]; exact s2 _ _ hpa1
      have hbx : H2 pb = some (.tup ((selB (List.range m) t.2).map nV)) := by rw [selB_range hlm]; exact s2 _ _ hpb1
      have ax := a1.trans (Aft.ofSame a1.tb s2)
      generalize H2 = Hx at ax hgx hpx hbx ⊢
      refine ⟨_, rfl, g2, _, rfl, .inr ⟨SqT.of hgx, ?_⟩⟩
      refine RT.for_ItvT (K := K) (a := g2) (xs := (goG m t.2).map nV) (fun i σ H' => ∃ (x4 : Option V) (pa pb : Addr), σ = [some (.ref p), some (.ref pa), some (.ref pb), some (.ref g2), x4] ∧ Aft Ts Hx H' ∧ H' pa = some (.tup ((((List.range m).filter fun x => decide (x ∉ (goG m t.2).drop ((goG m t.2).length - i))).map fun k => t.1.getD k 0).map nV)) ∧ H' pb = some (.tup ((selB ((List.range m).filter fun x => decide (x ∉ (goG m t.2).drop ((goG m t.2).length - i))) t.2).map nV))) ⟨_, pa, pb, rfl, Aft.refl ax.tb, by rw [gone0]; exact hpx, by rw [gone0]; exact hbx⟩ ?_ ?_ ?_
      · rintro i σ H3 ⟨_, _, _, _, a3, _⟩
        exact SqT.of (a3.tup ax.tb hgx)
      · rintro i x σ H3 hi hx ⟨x4, pa, pb, rfl, a3, hpa3, hpb3⟩
        rw [List.length_map] at hi hx
        have hi2 : (goG m t.2).length - 1 - i < (goG m t.2).length := by omega
        rw [natAt hi2] at hx
        cases hx
        have hpl : (goG m t.2)[(goG m t.2).length - 1 - i]? = some ((goG m t.2).getD ((goG m t.2).length - 1 - i) 0) := by rw [List.getD_eq_getElem?_getD, List.getElem?_eq_getElem hi2]; rfl
        obtain ⟨gs1, gs2⟩ := gone_step go_rise go_lt hi hpl
        rw [← gs1]
        have kcl : ((List.range m).filter fun x => decide (x ∉ (goG m t.2).drop ((goG m t.2).length - i))).length ≤ 4 := Nat.le_trans (List.length_filter_le _ _) (by rw [List.length_range]; exact p4)
        generalize ((List.range m).filter fun x => decide (x ∉ (goG m t.2).drop ((goG m t.2).length - i))) = Kc at hpa3 hpb3 gs2 kcl ⊢
        generalize (goG m t.2).getD ((goG m t.2).length - 1 - i) 0 = pl at gs2 ⊢
        have ml : (Kc.map fun k => t.1.getD k 0).length = Kc.length := List.length_map _
        refine ⟨_, rfl, _, rfl, _, rfl, slA_any rfl hpa3 (cut_take (by rw [ml]; omega)) fun q1 HA sA hA => ⟨_, rfl, _, rfl, _, _, rfl, rfl, _, rfl, ?_⟩⟩
        try unfold tNoPart
        refine slA_any rfl (sA _ _ hpa3) (cut_drop (s := pl + 1) (by rw [ml]; omega)) fun q2 HB sB hB => ?_
        refine catA_any rfl rfl (sB _ _ hA) hB (by rw [List.length_map, List.length_map, List.length_take, List.length_drop, ml]; exact Nat.le_of_lt (small256 (by omega))) fun q3 HC sC hC => ?_
        rw [← List.map_append, erase_map] at hC
        have sABC := (sA.trans sB).trans sC
        have aC := a3.trans (Aft.ofSame a3.tb sABC)
        refine ⟨_, rfl, _, rfl, pb, pl, _, rfl, sABC _ _ hpb3, by rw [selB_len]; exact pow8 (by omega), aC.tb, fun r HD aD hr => ?_⟩
        rw [wo_sel gs2] at hr
        exact ⟨_, q3, r, rfl, aC.trans aD, aD.tup aC.tb hC, hr⟩
      · rintro σ H3 ⟨x4, pa, pb, rfl, a3, hpa3, hpb3⟩
        rw [List.length_map, Nat.sub_self, List.drop_zero, go_rest m t.2 p1] at hpa3 hpb3
        refine ⟨_, rfl, _, rfl, small 2, fun r nr => ?_⟩
        have s4 := Same.new (o := .tup [.ref pa, .ref pb]) nr
        refine q r _ ((ax.trans a3).trans (Aft.ofSame a3.tb s4)) ⟨pa, pb, upd_same, s4 _ _ ?_, s4 _ _ ?_⟩
        · show _ = some (HO.tup (((trimK t.1.length t.2).map fun k => t.1.getD k 0).map nV))
          rw [hm]
          exact hpa3
        · show _ = some (HO.tup ((selB (trimK t.1.length t.2) t.2).map nV))
          rw [hm]
          exact hpb3
    · have hc' : ¬ (idles t.2 m).length = m := fun z => hc (decide_eq_true (by
        show V.int ((((idles t.2 m).map nV).length : Nat) : Int) = V.int (((t.1.map nV).length : Nat) : Int)
        rw [List.length_map, List.length_map, hm, z]))
      have hgx : H1 gp = some (.tup ((goG m t.2).map nV)) := by rw [hgp, ego, if_neg hc']
      have hpx : H1 pa = some (.tup (((List.range m).map fun k => t.1.getD k 0).map nV)) := by rw [← hm, map_range_self t.1]; exact hpa1
      have hbx : H1 pb = some (.tup ((selB (List.range m) t.2).map nV)) := by rw [selB_range hlm]; exact hpb1
      have ax := a1
      generalize H1 = Hx at ax hgx hpx hbx ⊢
      refine ⟨_, rfl, gp, _, rfl, .inr ⟨SqT.of hgx, ?_⟩⟩
      refine RT.for_ItvT (K := K) (a := gp) (xs := (goG m t.2).map nV) (fun i σ H' => ∃ (x4 : Option V) (pa pb : Addr), σ = [some (.ref p), some (.ref pa), some (.ref pb), some (.ref gp), x4] ∧ Aft Ts Hx H' ∧ H' pa = some (.tup ((((List.range m).filter fun x => decide (x ∉ (goG m t.2).drop ((goG m t.2).length - i))).map fun k => t.1.getD k 0).map nV)) ∧ H' pb = some (.tup ((selB ((List.range m).filter fun x => decide (x ∉ (goG m t.2).drop ((goG m t.2).length - i))) t.2).map nV))) ⟨_, pa, pb, rfl, Aft.refl ax.tb, by rw [gone0]; exact hpx, by rw [gone0]; exact hbx⟩ ?_ ?_ ?_
      · rintro i σ H3 ⟨_, _, _, _, a3, _⟩
        exact SqT.of (a3.tup ax.tb hgx)
      · rintro i x σ H3 hi hx ⟨x4, pa, pb, rfl, a3, hpa3, hpb3⟩
        rw [List.length_map] at hi hx
        have hi2 : (goG m t.2).length - 1 - i < (goG m t.2).length := by omega
        rw [natAt hi2] at hx
        cases hx
        have hpl : (goG m t.2)[(goG m t.2).length - 1 - i]? = some ((goG m t.2).getD ((goG m t.2).length - 1 - i) 0) := by rw [List.getD_eq_getElem?_getD, List.getElem?_eq_getElem hi2]; rfl
        obtain ⟨gs1, gs2⟩ := gone_step go_rise go_lt hi hpl
        rw [← gs1]
        have kcl : ((List.range m).filter fun x => decide (x ∉ (goG m t.2).drop ((goG m t.2).length - i))).length ≤ 4 := Nat.le_trans (List.length_filter_le _ _) (by rw [List.length_range]; exact p4)
        generalize ((List.range m).filter fun x => decide (x ∉ (goG m t.2).drop ((goG m t.2).length - i))) = Kc at hpa3 hpb3 gs2 kcl ⊢
        generalize (goG m t.2).getD ((goG m t.2).length - 1 - i) 0 = pl at gs2 ⊢
        have ml : (Kc.map fun k => t.1.getD k 0).length = Kc.length := List.length_map _
        refine ⟨_, rfl, _, rfl, _, rfl, slA_any rfl hpa3 (cut_take (by rw [ml]; omega)) fun q1 HA sA hA => ⟨_, rfl, _, rfl, _, _, rfl, rfl, _, rfl, ?_⟩⟩
        try unfold tNoPart
        refine slA_any rfl (sA _ _ hpa3) (cut_drop (s := pl + 1) (by rw [ml]; omega)) fun q2 HB sB hB => ?_
        refine catA_any rfl rfl (sB _ _ hA) hB (by rw [List.length_map, List.length_map, List.length_take, List.length_drop, ml]; exact Nat.le_of_lt (small256 (by omega))) fun q3 HC sC hC => ?_
        rw [← List.map_append, erase_map] at hC
        have sABC := (sA.trans sB).trans sC
        have aC := a3.trans (Aft.ofSame a3.tb sABC)
        refine ⟨_, rfl, _, rfl, pb, pl, _, rfl, sABC _ _ hpb3, by rw [selB_len]; exact pow8 (by omega), aC.tb, fun r HD aD hr => ?_⟩
        rw [wo_sel gs2] at hr
        exact ⟨_, q3, r, rfl, aC.trans aD, aD.tup aC.tb hC, hr⟩
      · rintro σ H3 ⟨x4, pa, pb, rfl, a3, hpa3, hpb3⟩
        rw [List.length_map, Nat.sub_self, List.drop_zero, go_rest m t.2 p1] at hpa3 hpb3
        refine ⟨_, rfl, _, rfl, small 2, fun r nr => ?_⟩
        have s4 := Same.new (o := .tup [.ref pa, .ref pb]) nr
        refine q r _ ((ax.trans a3).trans (Aft.ofSame a3.tb s4)) ⟨pa, pb, upd_same, s4 _ _ ?_, s4 _ _ ?_⟩
        · show _ = some (HO.tup (((trimK t.1.length t.2).map fun k => t.1.getD k 0).map nV))
          rw [hm]
          exact hpa3
        · show _ = some (HO.tup ((selB (trimK t.1.length t.2) t.2).map nV))
          rw [hm]
          exact hpb3
def spTrimmed (Ts : List Addr) : Sp := fun vs H Q _ => ∃ (a : Addr) (l : Lay) (g o : Addr) (ps : List Addr), vs = [.ref a] ∧ LayAt H a l g o ps ∧ l.Ok ∧ Tabs Ts H ∧ ∀ r g' ps' H', Aft Ts H H' → LayAt H' r (trimL l) g' o ps' → Q (.ref r) H'
theorem ok_trimmed {f c PT : Addr} (D : Dfn K mg "trimmed" s_trimmed f c) (T : Txt mg) (c_trimmed_table : Cal P w K mg base 4 "trimmed_table" (spTTable Ts) []) (TB_trimmed : GxR.TabB base mg c PT) (hP : PT ∈ Ts) : Cal P w K mg base 6 "trimmed" (spTrimmed Ts) [] := by
  refine cal D (fun _ _ _ _ _ _ us hl => match us, hl with | [_], _ => rfl) sc_trimmed (fun vs H Q E h => ?_) (fun A outer s H vs Q E hr h => ?_)
  · obtain ⟨a, l, g, o, ps, rfl, _⟩ := h
    rfl
  · obtain ⟨a, l, g, o, ps, rfl, L, ok, tb, q⟩ := h
    have t16 := ok.t16
    refine ⟨_, (pss_cons (ps_asg (pv 0) (pg_tup rfl (pgs_cons (pg_name (i := 1) sc_trimmed.nd rfl (by first | exact Or.inl rfl | exact Or.inr rfl)) (pgs_cons (pg_name (i := 2) sc_trimmed.nd rfl (by first | exact Or.inl rfl | exact Or.inr rfl)) (pgs_cons (pg_name (i := 3) sc_trimmed.nd rfl (by first | exact Or.inl rfl | exact Or.inr rfl)) pgs_nil)))))
      (pss_one (ps_ret (pe_tup (pa_cons (pv 1) (pa_cons (pe_tupG (own := [("table", 4)]) hr (by rfl) T.b_tuple TB_trimmed rfl (gxOk_by (N := ["layout", "many", "tables", "outs", "table"]) (sc := defScope s_trimmed) (own := [("table", 4)]) (by decide +kernel)) sc_trimmed.nd (pi_tup (pv 2)) (fun _ _ _ _ => (pg_name (i := 4) sc_trimmed.nd rfl (by first | exact Or.inl rfl | exact Or.inr rfl))) (fun _ _ _ _ => pts_nil) (fun _ _ _ _ => (pe_c c_trimmed_table (GX.Room.gx4 hr) (by decide) (by rfl) (pa_cons (pv 4) pa_nil)))) (pa_cons (pv 3) pa_nil))))))), ?_⟩
    refine ⟨_, rfl, a, _, rfl, SqT.of L.top, rfl, _, _, rfl, _, _, rfl, _, _, rfl, rfl, ?_⟩
    refine ⟨_, rfl, _, rfl, g, rfl, ⟨_, SqT.of L.gt⟩, tb PT hP, fun H2 ht => ?_⟩
    have a2 : Aft Ts H H2 := ⟨Keep.tabbed hP ht, tb.tabbed ht⟩
    refine turns_it (walk_tup (xs := ps.map V.ref)) (fun i ys H' => ∃ rs : List Addr, ys = rs.map V.ref ∧ TabsAt H' rs ((l.tabs.take i).map trimT) ∧ Aft Ts H H') ⟨[], rfl, TabsAt.nil _, a2⟩ (fun i ys H' _ ⟨_, _, _, a'⟩ => SqT.of (a'.tup tb L.gt)) ?_ ?_
    · rintro i x ys H3 H4 hi ⟨rs, rfl, ts3, a3⟩ ⟨rfl, hx⟩
      have L3 := L.mono fun b xs e => a3.tup tb e
      obtain ⟨q', t, rfl, ht', tat⟩ := L3.ts.at_ hx
      have rl : rs.length ≤ 16 := by rw [ts3.1, List.length_map, List.length_take]; omega
      refine ⟨rfl, ?_⟩
      unfold tYes
      refine iteT ?_
      refine ⟨_, rfl, q', t, _, rfl, tat, ok.ts i t ht', a3.tb, fun r H5 a5 hr5 => ⟨?_, fun _ => ⟨rs ++ [r], ?_, ?_, a3.trans a5⟩⟩⟩
      · show (List.map V.ref rs).length < sizeLine
        rw [List.length_map]
        exact small256 (by omega)
      · rw [List.map_append]
        rfl
      · rw [List.take_add_one, ht', Option.toList_some, List.map_append]
        exact TabsAt.push (ts3.mono fun b xs e => a5.tup a3.tb e) hr5
    · rintro ys H3 ⟨rs, rfl, ts3, a3⟩
      rw [List.length_map, L.ts.1, List.take_length] at ts3
      have rl : rs.length ≤ 16 := by rw [ts3.1, List.length_map]; exact t16
      refine ⟨by rw [List.length_map]; exact small _ (by omega), fun g' ng => ⟨_, rfl, small 3, fun r nr => ?_⟩⟩
      have s4 := Same.new (o := .tup (rs.map V.ref)) ng
      have s5 := s4.trans (Same.new (o := .tup [nV l.many, .ref g', .ref o]) nr)
      refine q r g' rs _ (a3.trans (Aft.ofSame a3.tb s5)) ⟨upd_same, Same.new nr _ _ upd_same, ts3.mono fun b xs e => s5 _ _ e, s5 _ _ (a3.tup tb L.ot)⟩
end
end K50
set_option Elab.async false
set_option linter.all false
set_option maxRecDepth 100000
set_option maxHeartbeats 4000000
namespace K50
open PySem PySem.Spec PyProof.Rows L2 GX
open C8 (Cal pe_c pe_gc)
section
variable {P : Program} {w : World} {K : PySem.W.Frag} {mg : Str → Option Value} {base : Heap} {Ts : List Addr}
def spIsNum : Sp := fun vs H Q _ => ∃ x b : Nat, vs = [nV x, nV b] ∧ Q (.bl (decide (x < b))) H
theorem ok_isnum {f c : Addr} (D : Dfn K mg "_law_is_number" s__law_is_number f c) (T : Txt mg) : Cal P w K mg base 1 "_law_is_number" spIsNum [] := by
  refine cal D (fun _ _ _ _ _ _ us hl => match us, hl with | [_, _], _ => rfl) sc__law_is_number (fun vs H Q E h => ?_) (fun A outer s H vs Q E hr h => ?_)
  · obtain ⟨x, b, rfl, _⟩ := h
    rfl
  · obtain ⟨x, b, rfl, q⟩ := h
    refine ⟨_, (pss_one (ps_ret (pe_and (pe_callB call_isi (by rfl) T.b_isinstance (by decide +kernel) (pa_cons (pv 0) (pa_cons (pe_bltn (v := .ty "int") (by rfl) T.b_int (by decide +kernel) rfl) pa_nil))) (pe_and (pe_not (pe_callB call_isi (by rfl) T.b_isinstance (by decide +kernel) (pa_cons (pv 0) (pa_cons (pe_bltn (v := .ty "bool") (by rfl) T.b_bool (by decide +kernel) rfl) pa_nil)))) (pe_and (pe_cmpR op_le pe_int (pv 0) (nomark _)) (pe_one (pe_cmpR op_lt (pv 0) (pv 1) (nomark _)))))))), ?_⟩
    refine ⟨_, rfl, _, _, _, _, true, rfl, .ty "int", .base (.int _), kit_ty (by decide +kernel), true, rfl, iteT ?_⟩
    refine ⟨_, rfl, _, _, _, _, false, rfl, .ty "bool", .base (.int _), kit_ty (by decide +kernel), false, rfl, true, rfl, iteT ?_⟩
    refine ⟨_, rfl, _, _, rfl, rfl, true, ?_, iteT ⟨_, rfl, _, rfl, _, _, rfl, rfl, ?_⟩⟩
    · show V.bl (decide ((0 : Int) ≤ ((x : Nat) : Int))) = V.bl true
      rw [decide_eq_true (by omega)]
    · show Q (V.bl (decide (((x : Nat) : Int) < ((b : Nat) : Int)))) H
      rw [show decide (((x : Nat) : Int) < ((b : Nat) : Int)) = decide (x < b) from decide_eq_decide.mpr (by omega)]
      exact q
theorem at8 {p : Nat} (h : p < 4) : atI [V.int 1, V.int 2, V.int 4, V.int 8] ((p : Nat) : Int) = some (nV (2 ^ p)) := by
  rcases (show p = 0 ∨ p = 1 ∨ p = 2 ∨ p = 3 by omega) with rfl | rfl | rfl | rfl <;> rfl
theorem at16 {p : Nat} (h : p < 5) : atI [V.int 1, V.int 2, V.int 4, V.int 8, V.int 16] ((p : Nat) : Int) = some (nV (2 ^ p)) := by
  rcases (show p = 0 ∨ p = 1 ∨ p = 2 ∨ p = 3 ∨ p = 4 by omega) with rfl | rfl | rfl | rfl | rfl <;> rfl
def spLIdle : Sp := fun vs H Q _ => ∃ (b : Addr) (bits : List Nat) (m p : Nat), vs = [.ref b, nV p] ∧ H b = some (.tup (bits.map nV)) ∧ bits.length = 2 ^ m ∧ p < m ∧ m ≤ 4 ∧ ∀ H', Same H H' → Q (.bl (idleAt bits p)) H'
theorem ok_lidle {f c : Addr} (D : Dfn K mg "_law_idle" s__law_idle f c) (T : Txt mg) : Cal P w K mg base 1 "_law_idle" spLIdle [] := by
  refine cal D (fun _ _ _ _ _ _ us hl => match us, hl with | [_, _], _ => rfl) sc__law_idle (fun vs H Q E h => ?_) (fun A outer s H vs Q E hr h => ?_)
  · obtain ⟨b, bits, m, p, rfl, _⟩ := h
    rfl
  · obtain ⟨b, bits, m, p, rfl, hb, hl, hp, hm, q⟩ := h
    have h16 : 2 ^ m ≤ 16 := Nat.le_trans (Nat.pow_le_pow_right (n := 2) (j := 4) (by decide) hm) (by decide)
    have hq0 : 0 < 2 ^ p := Nat.pow_pos (by decide)
    have hq8 : 2 ^ p ≤ 8 := Nat.le_trans (Nat.pow_le_pow_right (n := 2) (j := 3) (by decide) (by omega)) (by decide)
    refine ⟨_, (pss_cons (ps_set (i := 2) sc__law_idle.nd rfl (by first | exact Or.inl rfl | exact Or.inr rfl) (pe_ix ix_list (pe_lst (pa_cons pe_int (pa_cons pe_int (pa_cons pe_int (pa_cons pe_int pa_nil))))) (pv 1) (fun _ _ => rfl)))
      (pss_cons (ps_for PassesOwn.never rfl (pi_range1 (by rfl) T.b_range (pa_cons (pe_callB call_len_seq (by rfl) T.b_len (by decide +kernel) (pa_cons (pv 0) pa_nil)) pa_nil)) (pg_name (i := 3) sc__law_idle.nd rfl (by first | exact Or.inl rfl | exact Or.inr rfl))
        (pss_one (ps_if (PW.pt (pw_and (pt_cmpR op_eq (pe_op op_mod (pe_op op_fdiv (pv 3) (pv 2)) pe_int) pe_int (nomark _)) (pw_and1 (pt_cmpR op_ne (pe_ix ix_tup (pv 0) (pv 3) (fun _ _ => rfl)) (pe_ix ix_tup (pv 0) (pe_op op_add (pv 3) (pv 2)) (fun _ _ => rfl)) (nomark _))))) (pss_one (ps_ret pe_bl)) pss_nil)))
      (pss_one (ps_ret pe_bl)))), ?_⟩
    refine ⟨small 4, fun z nz => ⟨_, rfl, z, _, _, _, rfl, rfl, SqL.of upd_same, at8 (by omega), ?_⟩⟩
    have s1 := Same.new (o := .lst [.int 1, .int 2, .int 4, .int 8]) nz
    generalize upd H z (.lst [.int 1, .int 2, .int 4, .int 8]) = H1 at s1 ⊢
    have hb1 := s1 _ _ hb
    refine ⟨_, rfl, b, _, rfl, .inr (SqT.of hb1), _, rfl, by omega, by rw [List.length_map]; omega, ?_⟩
    rw [List.length_map]
    refine for_range (lo := 0) (n := ((bits.length : Nat) : Int).toNat) (fun i σ H' => ∃ (x3 : Option V), σ = [some (.ref b), some (nV p), some (nV (2 ^ p)), x3] ∧ H' = H1 ∧ ∀ r, r < i → r / 2 ^ p % 2 = 0 → bits.getD r 0 = bits.getD (r + 2 ^ p) 0) ⟨none, rfl, rfl, fun r hr => absurd hr (Nat.not_lt_zero _)⟩ ?_ ?_
    · rintro i σ H2 hi ⟨x3, rfl, rfl, inv⟩
      rw [Int.toNat_natCast] at hi
      have stay : (i / 2 ^ p % 2 = 0 → bits.getD i 0 = bits.getD (i + 2 ^ p) 0) → ∀ r, r < i + 1 → r / 2 ^ p % 2 = 0 → bits.getD r 0 = bits.getD (r + 2 ^ p) 0 := fun h r hr h0 => by
        by_cases e : r = i
        · rw [e] at h0 ⊢
          exact h h0
        · exact inv r (by omega) h0
      refine ⟨_, rfl, _, rfl, _, _, rfl, rfl, ⟨by show (0 : Int) < ((2 ^ p : Nat) : Int); omega, by show ((2 ^ p : Nat) : Int) < 1073741824; omega⟩, _, _, rfl, rfl, (by show (0 : Int) < 2; decide), rfl, _, rfl, ?_⟩
      have ev : (0 + ((i : Nat) : Int)) / ((2 ^ p : Nat) : Int) % 2 = ((i / 2 ^ p % 2 : Nat) : Int) := by
        rw [Int.zero_add, Int.natCast_emod, Int.natCast_ediv]
        rfl
      refine ite2 (fun hz => ?_) (fun hz => ?_)
      · have hz' : i / 2 ^ p % 2 = 0 := by
          have h' : (0 + ((i : Nat) : Int)) / ((2 ^ p : Nat) : Int) % 2 = 0 := V.int.inj (of_decide_eq_true hz)
          rw [ev] at h'
          omega
        have hi2 : i + 2 ^ p < bits.length := by rw [hl] at hi ⊢; exact add_pow_lt hi hp hz'
        refine ⟨_, rfl, _, rfl, b, _, ((i : Nat) : Int), _, rfl, (by show V.int (0 + ((i : Nat) : Int)) = _; rw [Int.zero_add]), SqT.of hb1, atI_nat (natAt hi), _, rfl, _, rfl, _, rfl, _, _, rfl, rfl, b, _, ((i + 2 ^ p : Nat) : Int), _, rfl, (by show V.int (0 + ((i : Nat) : Int) + ((2 ^ p : Nat) : Int)) = _; rw [Int.zero_add, Int.natCast_add]), SqT.of hb1, atI_nat (natAt hi2), rfl, _, rfl, ?_⟩
        by_cases e : bits.getD i 0 = bits.getD (i + 2 ^ p) 0
        · rw [e, decide_eq_true rfl]
          refine iteF ?_
          exact ⟨_, rfl, rfl, stay fun _ => e⟩
        · rw [decide_eq_false (p := nV (bits.getD i 0) = nV (bits.getD (i + 2 ^ p) 0)) (fun z => e (Int.ofNat_inj.mp (V.int.inj z)))]
          refine iteT ?_
          have : idleAt bits p = false := by
            cases h : idleAt bits p with
            | false => rfl
            | true => exact absurd ((idleAt_low hl hp).mp h i hi hz') e
          have q' := q H2 s1
          rw [this] at q'
          exact q'
      · have hz' : ¬ i / 2 ^ p % 2 = 0 := fun z => hz (decide_eq_true (by
          show V.int ((0 + ((i : Nat) : Int)) / ((2 ^ p : Nat) : Int) % 2) = V.int 0
          rw [ev, z]
          rfl))
        refine iteF ?_
        exact ⟨_, rfl, rfl, stay fun h => absurd h hz'⟩
    · rintro σ H2 ⟨x3, rfl, rfl, inv⟩
      rw [Int.toNat_natCast] at inv
      have : idleAt bits p = true := (idleAt_low hl hp).mpr fun r hr h0 => inv r hr h0
      have q' := q H2 s1
      rw [this] at q'
      exact q'
def spLTable : Sp := fun vs H Q _ => ∃ (pa pb : Addr) (t : List Nat × List Nat) (wr : Nat), vs = [.ref pa, .ref pb] ∧ H pa = some (.tup (t.1.map nV)) ∧ H pb = some (.tup (t.2.map nV)) ∧ tabOk wr t ∧ ∀ r H', Same H H' → TabAt H' r (trimT t) → Q (.ref r) H'
theorem ok_ltable {f c : Addr} (D : Dfn K mg "_law_table" s__law_table f c) (T : Txt mg) (c__law_idle : Cal P w K mg base 1 "_law_idle" spLIdle []) : Cal P w K mg base 2 "_law_table" spLTable [] := by
  refine cal D (fun _ _ _ _ _ _ us hl => match us, hl with | [_, _], _ => rfl) sc__law_table (fun vs H Q E h => ?_) (fun A outer s H vs Q E hr h => ?_)
  · obtain ⟨pa, pb, t, wr, rfl, _⟩ := h
    rfl
  · obtain ⟨pa, pb, t, wr, rfl, hpa, hpb, tok, q⟩ := h
    have p1 := tok.p1
    have p4 := tok.p4
    have hlm := tok.len
    generalize hm : t.1.length = m at p1 p4 hlm
    refine ⟨_, (pss_cons (ps_setLc (i := 2) (own := [("_law_at", 3)]) (g := gName 3)  rfl sc__law_table.nd rfl rfl (sw_true rfl rfl rfl (by decide +kernel)) (pi_range1 (by rfl) T.b_range (pa_cons (pe_callB call_len_seq (by rfl) T.b_len (by decide +kernel) (pa_cons (pv 0) pa_nil)) pa_nil)) (blkOk_by (own := [("_law_at", 3)]) (N := ["_law_places", "_law_bits", "_law_kept", "_law_at", "_law_found", "_law_number", "_law_old", "_law_k"]) (sc := defScope s__law_table) (by decide +kernel)) (fun _ _ _ _ _ => (pg_name (i := 3) sc__law_table.nd rfl (by first | exact Or.inl rfl | exact Or.inr rfl))) (fun _ _ _ _ _ => (pts_one (pt_not (pt_val (pe_c c__law_idle hr (by decide) (by rfl) (pa_cons (pv 1) (pa_cons (pv 3) pa_nil))))))) (fun _ _ _ _ _ => (pv 3)))
      (pss_cons (ps_if (pt_cmpR (op_eqD hr.units) (pv 2) (pe_lst pa_nil) (nomark _)) (pss_one (ps_set (i := 2) sc__law_table.nd rfl (by first | exact Or.inl rfl | exact Or.inr rfl) (pe_lst (pa_cons pe_int pa_nil)))) pss_nil)
      (pss_cons (ps_set (i := 4) sc__law_table.nd rfl (by first | exact Or.inl rfl | exact Or.inr rfl) (pe_lst pa_nil))
      (pss_cons (ps_for PassesOwn.never rfl (pi_range1 (by rfl) T.b_range (pa_cons (pe_ix ix_list (pe_lst (pa_cons pe_int (pa_cons pe_int (pa_cons pe_int (pa_cons pe_int (pa_cons pe_int pa_nil)))))) (pe_callB call_len_seq (by rfl) T.b_len (by decide +kernel) (pa_cons (pv 2) pa_nil)) (fun _ _ => rfl)) pa_nil)) (pg_name (i := 5) sc__law_table.nd rfl (by first | exact Or.inl rfl | exact Or.inr rfl))
        (pss_cons (ps_set (i := 6) sc__law_table.nd rfl (by first | exact Or.inl rfl | exact Or.inr rfl) pe_int)
      (pss_cons (ps_for PassesOwn.never rfl (pi_range1 (by rfl) T.b_range (pa_cons (pe_callB call_len_seq (by rfl) T.b_len (by decide +kernel) (pa_cons (pv 2) pa_nil)) pa_nil)) (pg_name (i := 7) sc__law_table.nd rfl (by first | exact Or.inl rfl | exact Or.inr rfl))
        (pss_one (ps_set (i := 6) sc__law_table.nd rfl (by first | exact Or.inl rfl | exact Or.inr rfl) (pe_op op_add (pv 6) (pe_op op_mul (pe_ix ix_list (pe_lst (pa_cons pe_int (pa_cons pe_int (pa_cons pe_int (pa_cons pe_int pa_nil))))) (pe_ix ix_list (pv 2) (pv 7) (fun _ _ => rfl)) (fun _ _ => rfl)) (pe_op op_mod (pe_op op_fdiv (pv 5) (pe_ix ix_list (pe_lst (pa_cons pe_int (pa_cons pe_int (pa_cons pe_int (pa_cons pe_int pa_nil))))) (pv 7) (fun _ _ => rfl))) pe_int))))))
      (pss_one (ps_expr (pe_bm PySem.F.plainAttrs_list PySem.F.slot_list_append PySem.F.type_list_append mt_append (pv 4) (pa_cons (pe_ix ix_tup (pv 1) (pv 6) (fun _ _ => rfl)) pa_nil)))))))
      (pss_one (ps_ret (pe_tup (pa_cons (pe_callTy call_tuple_of (by rfl) T.b_tuple (by decide +kernel) (pa_cons (pe_lc (own := [("_law_at", 3)]) (g := gName 3) (tt := tYes) rfl sc__law_table.nd (pi_list (pv 2)) (blkOk_by (own := [("_law_at", 3)]) (N := ["_law_places", "_law_bits", "_law_kept", "_law_at", "_law_found", "_law_number", "_law_old", "_law_k"]) (sc := defScope s__law_table) (by decide +kernel)) (fun _ _ _ _ _ => (pg_name (i := 3) sc__law_table.nd rfl (by first | exact Or.inl rfl | exact Or.inr rfl))) (fun _ _ _ _ _ => pts_nil) (fun _ _ _ _ _ => (pe_ix (ix_tupK (K := K)) (pv 0) (pv 3) (fun _ _ => rfl)))) pa_nil)) (pa_cons (pe_callTy call_tuple_of (by rfl) T.b_tuple (by decide +kernel) (pa_cons (pv 4) pa_nil)) pa_nil))))))))), ?_⟩
    refine ⟨_, rfl, pa, _, rfl, .inr (SqT.of hpa), _, rfl, by omega, by rw [List.length_map]; omega, fun S nS => ?_⟩
    rw [List.length_map, hm]
    refine lc_range (lo := 0) (n := ((m : Nat) : Int).toNat) (fun i H' => Own H H' S (((List.range i).filter fun p => !idleAt t.2 p).map nV)) ⟨Same.new nS, upd_same, nS⟩ ?_ ?_
    · rintro i H1 hi o1
      rw [Int.toNat_natCast] at hi
      have ef : (List.range (i + 1)).filter (fun p => !idleAt t.2 p) = (List.range i).filter (fun p => !idleAt t.2 p) ++ (if (!idleAt t.2 i) = true then [i] else []) := by
        rw [List.range_succ, List.filter_append, List.filter_cons]
        rfl
      refine ⟨rfl, _, rfl, _, rfl, pb, t.2, m, i, (by show [V.ref pb, V.int (0 + ((i : Nat) : Int))] = _; rw [Int.zero_add]; rfl), o1.sm _ _ hpb, hlm, hi, p4, fun H2 s2 => ⟨_, rfl, ?_⟩⟩
      have o2 := Own.same' o1 s2
      cases hid : idleAt t.2 i with
      | false =>
        refine iteT ?_
        refine ⟨_, rfl, _, o2.at_, ?_, ?_⟩
        · rw [List.length_map]
          exact Nat.lt_of_le_of_lt (List.length_filter_le _ _) (by rw [List.length_range]; exact small256 (by omega))
        · rw [ef, hid, if_pos (show (!false) = true from rfl), List.map_append, Int.zero_add]
          exact o2.app
      | true =>
        refine iteF ?_
        show Own H H2 S _
        rw [ef, hid, if_neg (by decide), List.append_nil]
        exact o2
    · rintro H1 o1
      rw [Int.toNat_natCast] at o1
      have ol : ((List.range m).filter fun p => !idleAt t.2 p).length ≤ 4 := Nat.le_trans (List.length_filter_le _ _) (by rw [List.length_range]; exact p4)
      have ek : keptK m t.2 = (List.range m).filter fun p => !idleAt t.2 p := rfl
      rw [← ek] at o1 ol
      refine ⟨_, rfl, small 0, fun z nz => ?_⟩
      have s2 := Same.new (o := .lst []) nz
      refine ⟨.list (((keptK m t.2).map fun n : Nat => (n : Int)).map PyData.int), .list [], .lst (SqL.of (s2 _ _ o1.at_)) (dpNat K _ _), .lst (SqL.of upd_same) .nil, PySem.W.ke_shaped_ints _, by decide, _, rfl, ?_⟩
      have ee : PyData.eqv (.list (((keptK m t.2).map fun n : Nat => (n : Int)).map PyData.int)) (.list []) = decide ((keptK m t.2).length = 0) := by
        show PyData.eqvAll _ [] = _
        rw [eqvAllN, List.length_map, List.length_map]
      rw [ee]
      have s12 := o1.sm.trans s2
      have hS2 := s2 _ _ o1.at_
      generalize upd H1 z (.lst []) = H2 at s12 hS2 ⊢
      refine ite2 (fun hc => ?_) (fun hc => ?_)
      · have hc' : trimK m t.2 = [0] := if_pos (List.length_eq_zero_iff.mp (of_decide_eq_true hc))
        refine ⟨small 1, fun z3 nz3 => ?_⟩
        have hKx : (upd H2 z3 (.lst [.int 0])) z3 = some (.lst ((trimK m t.2).map nV)) := by rw [hc']; exact upd_same
        have sx : Same H (upd H2 z3 (.lst [.int 0])) := s12.trans (Same.new nz3)
        generalize upd H2 z3 (.lst [.int 0]) = Hx at hKx sx ⊢
        have kr := trimK_rise m t.2
        have kl := trimK_len p1 t.2
        have klt := trimK_lt p1 t.2
        have hw : 2 ^ (trimK m t.2).length ≤ 16 := Nat.le_trans (Nat.pow_le_pow_right (n := 2) (j := 4) (by decide) (by omega)) (by decide)
        refine ⟨small 0, fun F nF => ?_⟩
        have F0 : H F = none := Same.was sx nF
        have s1 := sx.trans (Same.new (o := .lst []) nF)
        have hK1 : upd Hx F (.lst []) z3 = some (.lst ((trimK m t.2).map nV)) := Same.new nF _ _ hKx
        have hF1 : upd Hx F (.lst []) F = some (.lst (([] : List Nat).map nV)) := upd_same
        have FK : F ≠ z3 := fun z => by rw [z, hKx] at nF; cases nF
        generalize upd Hx F (.lst []) = H1 at s1 hK1 hF1 ⊢
        refine ⟨small 5, fun z5 nz5 => ⟨_, rfl, z3, _, rfl, .inl (SqL.of (Same.new nz5 _ _ hK1)), z5, _, _, _, rfl, rfl, SqL.of upd_same, (by rw [List.length_map]; exact at16 (by omega)), ?_⟩⟩
        have s2 := s1.trans (Same.new (o := .lst [.int 1, .int 2, .int 4, .int 8, .int 16]) nz5)
        have hK2 : upd H1 z5 (.lst [.int 1, .int 2, .int 4, .int 8, .int 16]) z3 = _ := Same.new nz5 _ _ hK1
        have hF2 : upd H1 z5 (.lst [.int 1, .int 2, .int 4, .int 8, .int 16]) F = _ := Same.new nz5 _ _ hF1
        generalize upd H1 z5 (.lst [.int 1, .int 2, .int 4, .int 8, .int 16]) = H2 at s2 hK2 hF2 ⊢
        refine ⟨_, rfl, by have := Int.natCast_nonneg (2 ^ (trimK m t.2).length); omega, by omega, ?_⟩
        refine for_range (lo := 0) (n := ((2 ^ (trimK m t.2).length : Nat) : Int).toNat) (fun i σ H' => ∃ (x3 x5 x6 x7 : Option V), σ = [some (.ref pa), some (.ref pb), some (.ref z3), x3, some (.ref F), x5, x6, x7] ∧ Same H H' ∧ H' z3 = some (.lst ((trimK m t.2).map nV)) ∧ H' F = some (.lst (((List.range i).map fun r => t.2.getD (spread (trimK m t.2) r) 0).map nV))) ⟨_, _, _, _, rfl, s2, hK2, hF2⟩ ?_ ?_
        · rintro i σ H3 hi ⟨x3, x5, x6, x7, rfl, s3, hK3, hF3⟩
          rw [Int.toNat_natCast] at hi
          refine ⟨_, rfl, z3, _, rfl, .inl (SqL.of hK3), _, rfl, by omega, by rw [List.length_map]; omega, ?_⟩
          rw [List.length_map]
          refine for_range (lo := 0) (n := (((trimK m t.2).length : Nat) : Int).toNat) (fun j σ H' => ∃ (x7 : Option V), σ = [some (.ref pa), some (.ref pb), some (.ref z3), x3, some (.ref F), some (.int (0 + (i : Int))), some (nV (spread ((trimK m t.2).take j) i)), x7] ∧ Same H3 H') ⟨_, rfl, Same.refl _⟩ ?_ ?_
          · rintro j σ H4 hj ⟨x7, rfl, s4⟩
            rw [Int.toNat_natCast] at hj
            have hkj := klt _ (getD_mem hj)
            have et : (trimK m t.2).take (j + 1) = (trimK m t.2).take j ++ [(trimK m t.2).getD j 0] := by
              rw [List.take_add_one, List.getElem?_eq_getElem hj, List.getD_eq_getElem?_getD, List.getElem?_eq_getElem hj]
              rfl
            have tl : ((trimK m t.2).take j).length = j := by rw [List.length_take]; omega
            refine ⟨_, rfl, small 4, fun z6 nz6 => ?_⟩
            have s5 := Same.new (o := .lst [.int 1, .int 2, .int 4, .int 8]) nz6
            refine ⟨_, rfl, _, rfl, z3, _, ((j : Nat) : Int), _, rfl, (by show V.int (0 + ((j : Nat) : Int)) = _; rw [Int.zero_add]), SqL.of (s5 _ _ (s4 _ _ hK3)), atI_nat (natAt hj), z6, _, _, _, rfl, rfl, SqL.of upd_same, at8 (by omega), ?_⟩
            refine ⟨_, rfl, small 4, fun z7 nz7 => ⟨_, rfl, z7, _, ((j : Nat) : Int), _, rfl, (by show V.int (0 + ((j : Nat) : Int)) = _; rw [Int.zero_add]), SqL.of upd_same, at8 (by omega), ?_⟩⟩
            have s6 := s5.trans (Same.new (o := .lst [.int 1, .int 2, .int 4, .int 8]) nz7)
            have hp0 : 0 < 2 ^ j := Nat.pow_pos (by decide)
            have hq0 : 0 < 2 ^ (trimK m t.2).getD j 0 := Nat.pow_pos (by decide)
            have hp8 : 2 ^ j ≤ 8 := Nat.le_trans (Nat.pow_le_pow_right (n := 2) (j := 3) (by decide) (by omega)) (by decide)
            have hq8 : 2 ^ (trimK m t.2).getD j 0 ≤ 8 := Nat.le_trans (Nat.pow_le_pow_right (n := 2) (j := 3) (by decide) (by omega)) (by decide)
            refine ⟨_, _, rfl, rfl, ⟨by show (0 : Int) < ((2 ^ j : Nat) : Int); omega, by show ((2 ^ j : Nat) : Int) < 1073741824; omega⟩, _, _, rfl, rfl, (by show (0 : Int) < 2; decide), _, _, rfl, rfl, .inl ⟨by omega, by omega⟩, _, _, rfl, rfl, ?_⟩
            have ev : V.int (((spread ((trimK m t.2).take j) i : Nat) : Int) + ((2 ^ (trimK m t.2).getD j 0 : Nat) : Int) * ((0 + ((i : Nat) : Int)) / ((2 ^ j : Nat) : Int) % 2)) = nV (spread ((trimK m t.2).take (j + 1)) i) := by
              rw [et, spread_snoc, tl, Int.zero_add]
              show _ = V.int ((spread ((trimK m t.2).take j) i + 2 ^ (trimK m t.2).getD j 0 * (i / 2 ^ j % 2) : Nat) : Int)
              rw [Int.natCast_add, Int.natCast_mul, Int.natCast_emod, Int.natCast_ediv]
              rfl
            dsimp -proj only
            rw [ev]
            exact ⟨_, rfl, s4.trans s6⟩
          · rintro σ H4 ⟨x7, rfl, s4⟩
            rw [Int.toNat_natCast, List.take_length]
            have hF4 := s4 _ _ hF3
            have hsp : spread (trimK m t.2) i < t.2.length := by rw [hlm]; exact spread_lt kr klt i
            refine ⟨_, rfl, .inl ⟨rfl, _, SqL.of hF4⟩, _, rfl, _, rfl, pb, _, _, _, rfl, rfl, SqT.of ((s3.trans s4) _ _ hpb), atI_nat (natAt hsp), F, _, _, rfl, rfl, hF4, by rw [List.length_map, List.length_map, List.length_range]; exact small256 (by omega), ?_⟩
            refine ⟨_, _, _, _, rfl, fun b u e => ?_, ?_, ?_⟩
            · rw [upd_ne (ne_of_none e F0)]
              exact (s3.trans s4) b u e
            · rw [upd_ne (Ne.symm FK)]
              exact s4 _ _ hK3
            · rw [upd_same, List.range_succ, List.map_append, List.map_append]
              rfl
        · rintro σ H3 ⟨x3, x5, x6, x7, rfl, s3, hK3, hF3⟩
          rw [Int.toNat_natCast] at hF3
          refine ⟨_, rfl, z3, rfl, ⟨_, SqL.of hK3⟩, fun M nM => ?_⟩
          refine lc_list (K := K) (a := z3) (xs := (trimK m t.2).map nV) (fun i H' => Own H3 H' M ((((trimK m t.2).take i).map fun k => t.1.getD k 0).map nV)) ⟨Same.new nM, upd_same, nM⟩ (fun i H' _ o' => SqL.of (o'.sm _ _ hK3)) ?_ ?_
          · rintro i x H4 hx o4
            have hi : i < (trimK m t.2).length := by
              have := (List.getElem?_eq_some_iff.mp hx).1
              rwa [List.length_map] at this
            rw [natAt hi] at hx
            cases hx
            have hki := klt _ (getD_mem hi)
            have et : (trimK m t.2).take (i + 1) = (trimK m t.2).take i ++ [(trimK m t.2).getD i 0] := by
              rw [List.take_add_one, List.getElem?_eq_getElem hi, List.getD_eq_getElem?_getD, List.getElem?_eq_getElem hi]
              rfl
            refine ⟨rfl, ?_⟩
            unfold tYes
            refine iteT ?_
            refine ⟨_, rfl, _, rfl, pa, _, _, _, rfl, rfl, SqT.of ((s3.trans o4.sm) _ _ hpa), atI_nat (natAt (by rw [hm]; exact hki)), _, o4.at_, by rw [List.length_map, List.length_map, List.length_take]; exact small256 (by omega), ?_⟩
            rw [et, List.map_append, List.map_append]
            exact o4.app
          · rintro H4 o4
            rw [List.length_map, List.take_length] at o4
            refine ⟨M, _, rfl, .inl ⟨SqL.of o4.at_, fun q1 n1 => ?_⟩⟩
            have s5 := Same.new (o := .tup (((trimK m t.2).map fun k => t.1.getD k 0).map nV)) n1
            refine ⟨_, rfl, F, _, rfl, .inl ⟨SqL.of ((o4.sm.trans s5) _ _ hF3), fun q2 n2 => ⟨small 2, fun r nr => ?_⟩⟩⟩
            have s6 := Same.new (o := .tup (((List.range (2 ^ (trimK m t.2).length)).map fun r => t.2.getD (spread (trimK m t.2) r) 0).map nV)) n2
            have s7 := Same.new (o := .tup [.ref q1, .ref q2]) nr
            refine q r _ ((((s3.trans o4.sm).trans s5).trans s6).trans s7) ⟨q1, q2, upd_same, s7 _ _ (s6 _ _ ?_), s7 _ _ ?_⟩
            · show _ = some (HO.tup (((trimK t.1.length t.2).map fun k => t.1.getD k 0).map nV))
              rw [hm]
              exact upd_same
            · show _ = some (HO.tup ((selB (trimK t.1.length t.2) t.2).map nV))
              rw [hm]
              exact upd_same
      · have hc' : trimK m t.2 = keptK m t.2 := if_neg fun z => hc (decide_eq_true (by rw [z]; rfl))
        have hKx : (H2) S = some (.lst ((trimK m t.2).map nV)) := by rw [hc']; exact hS2
        have sx : Same H (H2) := s12
        generalize H2 = Hx at hKx sx ⊢
        have kr := trimK_rise m t.2
        have kl := trimK_len p1 t.2
        have klt := trimK_lt p1 t.2
        have hw : 2 ^ (trimK m t.2).length ≤ 16 := Nat.le_trans (Nat.pow_le_pow_right (n := 2) (j := 4) (by decide) (by omega)) (by decide)
        refine ⟨small 0, fun F nF => ?_⟩
        have F0 : H F = none := Same.was sx nF
        have s1 := sx.trans (Same.new (o := .lst []) nF)
        have hK1 : upd Hx F (.lst []) S = some (.lst ((trimK m t.2).map nV)) := Same.new nF _ _ hKx
        have hF1 : upd Hx F (.lst []) F = some (.lst (([] : List Nat).map nV)) := upd_same
        have FK : F ≠ S := fun z => by rw [z, hKx] at nF; cases nF
        generalize upd Hx F (.lst []) = H1 at s1 hK1 hF1 ⊢
        refine ⟨small 5, fun z5 nz5 => ⟨_, rfl, S, _, rfl, .inl (SqL.of (Same.new nz5 _ _ hK1)), z5, _, _, _, rfl, rfl, SqL.of upd_same, (by rw [List.length_map]; exact at16 (by omega)), ?_⟩⟩
        have s2 := s1.trans (Same.new (o := .lst [.int 1, .int 2, .int 4, .int 8, .int 16]) nz5)
        have hK2 : upd H1 z5 (.lst [.int 1, .int 2, .int 4, .int 8, .int 16]) S = _ := Same.new nz5 _ _ hK1
        have hF2 : upd H1 z5 (.lst [.int 1, .int 2, .int 4, .int 8, .int 16]) F = _ := Same.new nz5 _ _ hF1
        generalize upd H1 z5 (.lst [.int 1, .int 2, .int 4, .int 8, .int 16]) = H2 at s2 hK2 hF2 ⊢
        refine ⟨_, rfl, by have := Int.natCast_nonneg (2 ^ (trimK m t.2).length); omega, by omega, ?_⟩
        refine for_range (lo := 0) (n := ((2 ^ (trimK m t.2).length : Nat) : Int).toNat) (fun i σ H' => ∃ (x3 x5 x6 x7 : Option V), σ = [some (.ref pa), some (.ref pb), some (.ref S), x3, some (.ref F), x5, x6, x7] ∧ Same H H' ∧ H' S = some (.lst ((trimK m t.2).map nV)) ∧ H' F = some (.lst (((List.range i).map fun r => t.2.getD (spread (trimK m t.2) r) 0).map nV))) ⟨_, _, _, _, rfl, s2, hK2, hF2⟩ ?_ ?_
        · rintro i σ H3 hi ⟨x3, x5, x6, x7, rfl, s3, hK3, hF3⟩
          rw [Int.toNat_natCast] at hi
          refine ⟨_, rfl, S, _, rfl, .inl (SqL.of hK3), _, rfl, by omega, by rw [List.length_map]; omega, ?_⟩
          rw [List.length_map]
          refine for_range (lo := 0) (n := (((trimK m t.2).length : Nat) : Int).toNat) (fun j σ H' => ∃ (x7 : Option V), σ = [some (.ref pa), some (.ref pb), some (.ref S), x3, some (.ref F), some (.int (0 + (i : Int))), some (nV (spread ((trimK m t.2).take j) i)), x7] ∧ Same H3 H') ⟨_, rfl, Same.refl _⟩ ?_ ?_
          · rintro j σ H4 hj ⟨x7, rfl, s4⟩
            rw [Int.toNat_natCast] at hj
            have hkj := klt _ (getD_mem hj)
            have et : (trimK m t.2).take (j + 1) = (trimK m t.2).take j ++ [(trimK m t.2).getD j 0] := by
              rw [List.take_add_one, List.getElem?_eq_getElem hj, List.getD_eq_getElem?_getD, List.getElem?_eq_getElem hj]
              rfl
            have tl : ((trimK m t.2).take j).length = j := by rw [List.length_take]; omega
            refine ⟨_, rfl, small 4, fun z6 nz6 => ?_⟩
            have s5 := Same.new (o := .lst [.int 1, .int 2, .int 4, .int 8]) nz6
            refine ⟨_, rfl, _, rfl, S, _, ((j : Nat) : Int), _, rfl, (by show V.int (0 + ((j : Nat) : Int)) = _; rw [Int.zero_add]), SqL.of (s5 _ _ (s4 _ _ hK3)), atI_nat (natAt hj), z6, _, _, _, rfl, rfl, SqL.of upd_same, at8 (by omega), ?_⟩
            refine ⟨_, rfl, small 4, fun z7 nz7 => ⟨_, rfl, z7, _, ((j : Nat) : Int), _, rfl, (by show V.int (0 + ((j : Nat) : Int)) = _; rw [Int.zero_add]), SqL.of upd_same, at8 (by omega), ?_⟩⟩
            have s6 := s5.trans (Same.new (o := .lst [.int 1, .int 2, .int 4, .int 8]) nz7)
            have hp0 : 0 < 2 ^ j := Nat.pow_pos (by decide)
            have hq0 : 0 < 2 ^ (trimK m t.2).getD j 0 := Nat.pow_pos (by decide)
            have hp8 : 2 ^ j ≤ 8 := Nat.le_trans (Nat.pow_le_pow_right (n := 2) (j := 3) (by decide) (by omega)) (by decide)
            have hq8 : 2 ^ (trimK m t.2).getD j 0 ≤ 8 := Nat.le_trans (Nat.pow_le_pow_right (n := 2) (j := 3) (by decide) (by omega)) (by decide)
            refine ⟨_, _, rfl, rfl, ⟨by show (0 : Int) < ((2 ^ j : Nat) : Int); omega, by show ((2 ^ j : Nat) : Int) < 1073741824; omega⟩, _, _, rfl, rfl, (by show (0 : Int) < 2; decide), _, _, rfl, rfl, .inl ⟨by omega, by omega⟩, _, _, rfl, rfl, ?_⟩
            have ev : V.int (((spread ((trimK m t.2).take j) i : Nat) : Int) + ((2 ^ (trimK m t.2).getD j 0 : Nat) : Int) * ((0 + ((i : Nat) : Int)) / ((2 ^ j : Nat) : Int) % 2)) = nV (spread ((trimK m t.2).take (j + 1)) i) := by
              rw [et, spread_snoc, tl, Int.zero_add]
              show _ = V.int ((spread ((trimK m t.2).take j) i + 2 ^ (trimK m t.2).getD j 0 * (i / 2 ^ j % 2) : Nat) : Int)
              rw [Int.natCast_add, Int.natCast_mul, Int.natCast_emod, Int.natCast_ediv]
              rfl
            dsimp -proj only
            rw [ev]
            exact ⟨_, rfl, s4.trans s6⟩
          · rintro σ H4 ⟨x7, rfl, s4⟩
            rw [Int.toNat_natCast, List.take_length]
            have hF4 := s4 _ _ hF3
            have hsp : spread (trimK m t.2) i < t.2.length := by rw [hlm]; exact spread_lt kr klt i
            refine ⟨_, rfl, .inl ⟨rfl, _, SqL.of hF4⟩, _, rfl, _, rfl, pb, _, _, _, rfl, rfl, SqT.of ((s3.trans s4) _ _ hpb), atI_nat (natAt hsp), F, _, _, rfl, rfl, hF4, by rw [List.length_map, List.length_map, List.length_range]; exact small256 (by omega), ?_⟩
            refine ⟨_, _, _, _, rfl, fun b u e => ?_, ?_, ?_⟩
            · rw [upd_ne (ne_of_none e F0)]
              exact (s3.trans s4) b u e
            · rw [upd_ne (Ne.symm FK)]
              exact s4 _ _ hK3
            · rw [upd_same, List.range_succ, List.map_append, List.map_append]
              rfl
        · rintro σ H3 ⟨x3, x5, x6, x7, rfl, s3, hK3, hF3⟩
          rw [Int.toNat_natCast] at hF3
          refine ⟨_, rfl, S, rfl, ⟨_, SqL.of hK3⟩, fun M nM => ?_⟩
          refine lc_list (K := K) (a := S) (xs := (trimK m t.2).map nV) (fun i H' => Own H3 H' M ((((trimK m t.2).take i).map fun k => t.1.getD k 0).map nV)) ⟨Same.new nM, upd_same, nM⟩ (fun i H' _ o' => SqL.of (o'.sm _ _ hK3)) ?_ ?_
          · rintro i x H4 hx o4
            have hi : i < (trimK m t.2).length := by
              have := (List.getElem?_eq_some_iff.mp hx).1
              rwa [List.length_map] at this
            rw [natAt hi] at hx
            cases hx
            have hki := klt _ (getD_mem hi)
            have et : (trimK m t.2).take (i + 1) = (trimK m t.2).take i ++ [(trimK m t.2).getD i 0] := by
              rw [List.take_add_one, List.getElem?_eq_getElem hi, List.getD_eq_getElem?_getD, List.getElem?_eq_getElem hi]
              rfl
            refine ⟨rfl, ?_⟩
            unfold tYes
            refine iteT ?_
            refine ⟨_, rfl, _, rfl, pa, _, _, _, rfl, rfl, SqT.of ((s3.trans o4.sm) _ _ hpa), atI_nat (natAt (by rw [hm]; exact hki)), _, o4.at_, by rw [List.length_map, List.length_map, List.length_take]; exact small256 (by omega), ?_⟩
            rw [et, List.map_append, List.map_append]
            exact o4.app
          · rintro H4 o4
            rw [List.length_map, List.take_length] at o4
            refine ⟨M, _, rfl, .inl ⟨SqL.of o4.at_, fun q1 n1 => ?_⟩⟩
            have s5 := Same.new (o := .tup (((trimK m t.2).map fun k => t.1.getD k 0).map nV)) n1
            refine ⟨_, rfl, F, _, rfl, .inl ⟨SqL.of ((o4.sm.trans s5) _ _ hF3), fun q2 n2 => ⟨small 2, fun r nr => ?_⟩⟩⟩
            have s6 := Same.new (o := .tup (((List.range (2 ^ (trimK m t.2).length)).map fun r => t.2.getD (spread (trimK m t.2) r) 0).map nV)) n2
            have s7 := Same.new (o := .tup [.ref q1, .ref q2]) nr
            refine q r _ ((((s3.trans o4.sm).trans s5).trans s6).trans s7) ⟨q1, q2, upd_same, s7 _ _ (s6 _ _ ?_), s7 _ _ ?_⟩
            · show _ = some (HO.tup (((trimK t.1.length t.2).map fun k => t.1.getD k 0).map nV))
              rw [hm]
              exact upd_same
            · show _ = some (HO.tup ((selB (trimK t.1.length t.2) t.2).map nV))
              rw [hm]
              exact upd_same
end
end K50
set_option Elab.async false
set_option linter.all false
set_option maxRecDepth 100000
set_option maxHeartbeats 4000000
/-! set(xs) of whole numbers, xs a list or a tuple; sorted of it. -/
namespace GX
open PySem PySem.Spec PyProof.Rows L2
/-- a set as it is made, empty -/
def fset (w : World) : Obj := { cls := .type "set", dict := none, data := .set #[] 0 (.fresh 0 0 (!w.params.followText "set-order")) }
section
variable {P : Program} {w : World} {A : Around} {E : Value → Shared → Prop} {s : Shared}
/-- what set(l) leaves: the set of ns at the next address -/
def Left (w : World) (s : Shared) (ns : List Int) (r : Value) (t : Shared) : Prop :=
  r = .none ∧ ∃ g tk c, t = { s with heap := g, toks := tk } ∧ SetR w g s.heap.objs.size (fun j => decide (j ∈ ns)) c ∧ c ≤ ns.length ∧ ∀ b o, s.heap.get? b = some o → g.get? b = some o
theorem init_list {l : Addr} {its : Array Value} {ns : List Int} (hh : A.handled = none) (hl : s.heap.IsList l its) (hi : IntsAre its.toList ns) (hb : ns.length + 1 < scanBound) :
    codeAny (model P w) A (.call (.builtin "set.__init__") ⟨[.ref s.heap.objs.size, .ref l], []⟩) (wants (Left w s ns) E) { s with heap := s.heap.push (fset w) } := by
  have eN : its.size = ns.length := by
    have z := IntsAre.length hi
    rwa [Array.length_toList] at z
  have atS : (s.heap.push (fset w)).get? s.heap.objs.size = some (fset w) := Heap.get?_push_size _ rfl
  refine codeAny_call_builtin F.called_set.init.plain F.entry_set_init (check_set_init_1 ⟨_, atS, rfl⟩ ?_)
  obtain ⟨⟨k1, k2, k3, k4⟩, hol, e1, m, e2⟩ := hl
  dsimp only at e1 e2
  subst e1
  subst e2
  have on : (s.heap.push (fset w)).get? l = some ⟨.type "list", k2, .seq its m, k4⟩ := Heap.get?_push_of_some _ hol
  have u1 := F.sub_list_set
  have u2 := F.sub_list_frozenset
  have u3 : (Value.type "list" == Value.type "dict") = false := by decide
  have isL : (s.heap.push (fset w)).IsList l its := ⟨_, on, rfl, m, rfl⟩
  unfold Builtin.«set.__init__» noKeywords Builtin.Frozenset.updateFrom
  generalize eP : pyIter = PI
  wp_walk
  subst eP
  refine wpAny_pyIter_list isL (wpAny_bind (wpAny_runValue ?_))
  have lt : l < s.heap.objs.size := Heap.lt_size hol
  have zz : (s.heap.push (fset w)).objs.size = s.heap.objs.size + 1 := Heap.size_push ..
  have ne1 : l ≠ (s.heap.push (fset w)).objs.size := by rw [zz]; exact Nat.ne_of_lt (Nat.lt_succ_of_lt lt)
  have ne2 : s.heap.objs.size ∉ [(s.heap.push (fset w)).objs.size, l] := by
    intro z
    rcases List.mem_cons.mp z with z | z
    · rw [zz] at z
      exact Nat.ne_of_lt (Nat.lt_succ_self _) z
    · exact Nat.ne_of_gt lt (List.mem_singleton.mp z)
  have vals : ∀ (i : Nat) (v : Value), its[i]? = some v → ∃ k t, ns[i]? = some k ∧ v = .int k t := fun i v hv => by
    have hlt : i < ns.length := by rw [← eN]; exact (Array.getElem?_eq_some_iff.mp hv).1
    obtain ⟨t, e⟩ := IntsAre.int_at hi i v (by rw [Array.getElem?_toList]; exact hv)
    refine ⟨ns[i], t, List.getElem?_eq_getElem hlt, e.trans ?_⟩
    show Value.int (ns.getD i 0) t = _
    rw [List.getD_eq_getElem?_getD, List.getElem?_eq_getElem hlt]
    rfl
  have h3 : A.in1.in1.handled = none := by simp [hh]
  refine set_update_ints (Walks.list h3 _ l ne1 its).toS s.heap.objs.size ne2 ns eN hb vals (its.size - 0) 0 _ (by omega) (Nat.zero_le _) ?st ?s0 ?rest
  case st => exact ⟨⟨_, Heap.get?_push_size _ rfl, rfl, rfl⟩, isL.push _⟩
  case s0 => exact ⟨0, Nat.le_refl 0, setR_new_at (Heap.get?_push_of_some _ atS)⟩
  intro t c mv hc hS
  obtain ⟨h', g2, d2, tk, o2⟩ := t
  obtain rfl : g2 = s.gens := mv.gens
  obtain rfl : d2 = s.drawn := mv.drawn
  obtain rfl : o2 = s.os := mv.os
  show wpAny _ _ _ _ _ _
  refine wpAny_pure ?_
  show wpAny _ _ (ret Value.none) _ _ _
  refine wpAny_pure ⟨rfl, h', tk, c, rfl, hS, by omega, fun b o e => ?_⟩
  have lb : b < s.heap.objs.size := Heap.lt_size e
  refine mv.heap b o (fun z => ?_) (Heap.get?_push_of_some _ (Heap.get?_push_of_some _ e))
  rcases List.mem_cons.mp z with z | z
  · exact Nat.ne_of_lt lb z
  · have z' := List.mem_singleton.mp z
    rw [zz] at z'
    exact Nat.ne_of_lt (Nat.lt_succ_of_lt lb) z'
theorem call_set_of {l : Addr} {ns : List Int} {Q : Value → Shared → Prop}
    (hin : codeAny (model P w) A.in1 (.call (.builtin "set.__init__") ⟨[.ref s.heap.objs.size, .ref l], []⟩) (wants (Left w s ns) E) { s with heap := s.heap.push (fset w) })
    (h : ∀ g tk c, SetR w g s.heap.objs.size (fun j => decide (j ∈ ns)) c → c ≤ ns.length → (∀ b o, s.heap.get? b = some o → g.get? b = some o) → Q (.ref s.heap.objs.size) { s with heap := g, toks := tk }) :
    wpAny (model P w) A (call (.type "set") [.ref l]) Q E s := by
  obtain ⟨c, tl, q1⟩ := F.called_set.mro
  have q2 := F.called_set.made
  have q3 := F.called_set.sub
  refine wpAny_call (codeAny_of_tree ?_)
  show wpAny _ _ (callAny (.type "set") ⟨[.ref l], []⟩) _ _ s
  refine wpAny_pure ⟨Code.quiet_builtin _ (by decide +kernel), codeAny_builtin F.entry_type_call ?_⟩
  rw [Around.under_plain (weight_type_call_type "set" [.ref l] []) rfl]
  have q4 := F.called_set.notType
  have q5 := F.called_set.canCreate
  have q6 := F.typeCall_set_1 (.ref l)
  repeat (any_goals (first | assumption | wp_step))
  refine codeAny_mono (code_set_led1 (.ref l) (E := E) (Q₁ := fun v t => v = .ref s.heap.objs.size ∧ t = { s with heap := s.heap.push (fset w) }) ⟨rfl, rfl⟩) fun r t hr => ?_
  cases r with
  | error e => exact hr
  | ok f =>
    cases f with
    | ret v =>
      obtain ⟨rfl, rfl⟩ := hr
      have q7 : Shared.TypeIs { s with heap := s.heap.push (fset w) } (.ref s.heap.objs.size) "set" := ⟨fset w, Heap.get?_push_size _ rfl, rfl⟩
      have q8 := F.called_set.init.lookup
      have q9 := F.called_set.init.bind (.ref s.heap.objs.size)
      repeat (any_goals (first | assumption | wp_step))
      refine codeAny_mono hin fun r2 t2 hr2 => ?_
      cases r2 with
      | error e => exact hr2
      | ok f2 =>
        cases f2 with
        | ret v2 =>
          obtain ⟨rfl, g, tk, c2, rfl, k1, k2, k3⟩ := hr2
          repeat (any_goals (first | assumption | wp_step))
          exact h g tk c2 k1 k2 k3
        | _ => exact hr2.elim
    | _ => exact hr.elim
theorem set_of_list {l : Addr} {its : Array Value} {ns : List Int} {Q : Value → Shared → Prop} (hh : A.handled = none) (hl : s.heap.IsList l its) (hi : IntsAre its.toList ns) (hb : ns.length + 1 < scanBound)
    (h : ∀ g tk c, SetR w g s.heap.objs.size (fun j => decide (j ∈ ns)) c → c ≤ ns.length → (∀ b o, s.heap.get? b = some o → g.get? b = some o) → Q (.ref s.heap.objs.size) { s with heap := g, toks := tk }) :
    wpAny (model P w) A (call (.type "set") [.ref l]) Q E s := call_set_of (init_list (by simp [hh]) hl hi hb) h
end
/-- set(xs) -/
def rSetN (K : PySem.W.Frag) (w : World) : List V → Hp → VK → Prop := fun xs H Q => ∃ (p : Addr) (ns : List Nat), xs = [.ref p] ∧ (SqL K H p (ns.map nV) ∨ SqT K H p (ns.map nV)) ∧ ns.length ≤ 60 ∧
  ∀ (q : Addr) (c : Nat), H q = none → c ≤ ns.length → Q (.ref q) (upd H q (SetO w q (fun j => decide (j ∈ ns.map fun n : Nat => (n : Int))) c))
theorem vals_n : ∀ {ns : List Nat} {us : List Value}, Vals (ns.map nV) us → IntsAre us (ns.map fun n : Nat => (n : Int))
  | [], _, .nil => .nil
  | n :: ns, _, .cons r t => by
    obtain ⟨k, rfl⟩ := r
    exact .cons n k (vals_n t)
theorem cr_setN {X : Cx} (hc : X.calm = true) : CallR X (.type "set") (rSetN X.K X.w) := by
  intro pins s σ H xs us Q I r h
  obtain ⟨p, ns, rfl, hq, hn, q⟩ := h
  rw [Vals.ref1 r]
  have hln : (ns.map fun n : Nat => (n : Int)).length = ns.length := List.length_map ..
  have hb : (ns.map fun n : Nat => (n : Int)).length + 1 < scanBound := by rw [hln]; unfold scanBound; omega
  have fin : ∀ (g : Heap) (tk c : Nat), SetR X.w g s.heap.objs.size (fun j => decide (j ∈ ns.map fun n : Nat => (n : Int))) c → c ≤ (ns.map fun n : Nat => (n : Int)).length → (∀ b o, s.heap.get? b = some o → g.get? b = some o) →
      EP X pins σ Q (.ref s.heap.objs.size) { s with heap := g, toks := tk } := fun g tk c hS hcl hk =>
    ⟨.ref s.heap.objs.size, _, I.laid (t' := tk) (o := SetO X.w s.heap.objs.size (fun j => decide (j ∈ ns.map fun n : Nat => (n : Int))) c) hk (Nat.le_refl _) (setO_new hS), rfl, q _ _ (I.hok.fresh (Nat.le_refl _)) (by rw [← hln]; exact hcl)⟩
  rcases hq with hq | hq
  · obtain ⟨its, rv, p1, _⟩ := I.list hq
    exact set_of_list (I.ok.hd hc) p1.isList (by simpa using vals_n rv) hb fin
  · obtain ⟨its, rv, p1, _⟩ := I.tuple hq
    exact call_set_tupI _ (I.ok.hd hc) p1 (by simpa using vals_n rv) hb fin
/-- sorted(set(xs)): the unlike ones, rising -/
theorem sorted_set_nat {ns : List Nat} {out : List Int} (pw : out.Pairwise (· < ·)) (hm : ∀ k : Int, k ∈ out ↔ decide (k ∈ ns.map fun n : Nat => (n : Int)) = true) : ∃ ys : List Nat, out = (ys.map fun n : Nat => (n : Int)) ∧ ys.Pairwise (· < ·) ∧ ∀ z, z ∈ ys ↔ z ∈ ns := by
  have hm' : ∀ k : Int, k ∈ out ↔ k ∈ ns.map fun n : Nat => (n : Int) := fun k => (hm k).trans decide_eq_true_iff
  have hnn : ∀ i ∈ out, 0 ≤ i := fun i hi => by
    obtain ⟨x, _, rfl⟩ := List.mem_map.mp ((hm' i).mp hi)
    omega
  refine ⟨out.map Int.toNat, ?_, ?_, fun z => ⟨fun h => ?_, fun h => ?_⟩⟩
  · rw [List.map_map]
    conv => lhs; rw [← List.map_id out]
    refine List.map_congr_left fun i hi => ?_
    show i = ((i.toNat : Nat) : Int)
    rw [Int.toNat_of_nonneg (hnn i hi)]
  · rw [List.pairwise_map]
    refine List.Pairwise.imp_of_mem (fun {a b} ha hb h => ?_) pw
    have := hnn a ha
    have := hnn b hb
    omega
  · obtain ⟨i, hi, rfl⟩ := List.mem_map.mp h
    obtain ⟨x, hx, rfl⟩ := List.mem_map.mp ((hm' i).mp hi)
    rw [Int.toNat_natCast]
    exact hx
  · exact List.mem_map.mpr ⟨(z : Int), (hm' _).mpr (List.mem_map.mpr ⟨z, h, rfl⟩), Int.toNat_natCast z⟩
end GX
set_option Elab.async false
set_option linter.all false
set_option maxRecDepth 100000
set_option maxHeartbeats 4000000
namespace K50
open PySem PySem.Spec PyProof.Rows L2 GX
open C8 (Cal pe_c pe_gc)
section
variable {P : Program} {w : World} {K : PySem.W.Frag} {mg : Str → Option Value} {base : Heap} {Ts : List Addr}
def spIsTable : Sp := fun vs H Q _ => ∃ (p : Addr) (t : List Nat × List Nat) (wr : Nat), vs = [.ref p, nV wr] ∧ TabAt H p t ∧ tabOk wr t ∧ ∀ H', Same H H' → Q (.bl true) H'
theorem ok_istable {f c : Addr} (D : Dfn K mg "_law_is_table" s__law_is_table f c) (T : Txt mg) (c__law_is_number : Cal P w K mg base 1 "_law_is_number" spIsNum []) : Cal P w K mg base 2 "_law_is_table" spIsTable [] := by
  refine cal D (fun _ _ _ _ _ _ us hl => match us, hl with | [_, _], _ => rfl) sc__law_is_table (fun vs H Q E h => ?_) (fun A outer s H vs Q E hr h => ?_)
  · obtain ⟨p, t, wr, rfl, _⟩ := h
    rfl
  · obtain ⟨p, t, wr, rfl, ⟨pa, pb, hp, hpa, hpb⟩, tok, q⟩ := h
    have p1 := tok.p1
    have p4 := tok.p4
    have h16 : t.2.length ≤ 16 := by rw [tok.len]; exact Nat.le_trans (Nat.pow_le_pow_right (n := 2) (j := 4) (by decide) p4) (by decide)
    refine ⟨_, (pss_cons (ps_if (PW.pt (pw_or (pt_not (pt_val (pe_callB call_isi (by rfl) T.b_isinstance (by decide +kernel) (pa_cons (pv 0) (pa_cons (pe_bltn (v := .ty "tuple") (by rfl) T.b_tuple (by decide +kernel) rfl) pa_nil))))) (pw_or1 (pt_cmpR op_ne (pe_callB call_len_seq (by rfl) T.b_len (by decide +kernel) (pa_cons (pv 0) pa_nil)) pe_int (nomark _))))) (pss_one (ps_ret pe_bl)) pss_nil)
      (pss_cons (ps_asg (pv 0) (pg_tup rfl (pgs_cons (pg_name (i := 2) sc__law_is_table.nd rfl (by first | exact Or.inl rfl | exact Or.inr rfl)) (pgs_cons (pg_name (i := 3) sc__law_is_table.nd rfl (by first | exact Or.inl rfl | exact Or.inr rfl)) pgs_nil))))
      (pss_cons (ps_if (PW.pt (pw_or (pt_not (pt_val (pe_callB call_isi (by rfl) T.b_isinstance (by decide +kernel) (pa_cons (pv 2) (pa_cons (pe_bltn (v := .ty "tuple") (by rfl) T.b_tuple (by decide +kernel) rfl) pa_nil))))) (pw_or (pt_not (pt_val (pe_callB call_isi (by rfl) T.b_isinstance (by decide +kernel) (pa_cons (pv 3) (pa_cons (pe_bltn (v := .ty "tuple") (by rfl) T.b_tuple (by decide +kernel) rfl) pa_nil))))) (pw_or1 (pt_cmpR op_notIn_seq (pe_callB call_len_seq (by rfl) T.b_len (by decide +kernel) (pa_cons (pv 2) pa_nil)) (pe_tup (pa_cons pe_int (pa_cons pe_int (pa_cons pe_int (pa_cons pe_int pa_nil))))) (by rfl)))))) (pss_one (ps_ret pe_bl)) pss_nil)
      (pss_cons (ps_if (PW.pt (pw_or (pt_cmpR (op_neD hr.units) (pe_lc (own := [("_law_place", 4)]) (g := gName 4)  rfl sc__law_is_table.nd (pi_tup (pv 2)) (blkOk_by (own := [("_law_place", 4)]) (N := ["_law_thing", "_law_wire", "_law_places", "_law_bits", "_law_place", "_law_one"]) (sc := defScope s__law_is_table) (by decide +kernel)) (fun _ _ _ _ _ => (pg_name (i := 4) sc__law_is_table.nd rfl (by first | exact Or.inl rfl | exact Or.inr rfl))) (fun _ _ _ _ _ => (pts_one (pt_not (pt_val (pe_c c__law_is_number hr (by decide) (by rfl) (pa_cons (pv 4) (pa_cons (pv 1) pa_nil))))))) (fun _ _ _ _ _ => (pv 4))) (pe_lst pa_nil) (nomark _)) (pw_or1 (pt_cmpR (op_neD hr.units) (pe_callTy call_list_of (by rfl) T.b_list (by decide +kernel) (pa_cons (pv 2) pa_nil)) (pe_callB (cr_sortedSet rfl) (by rfl) T.b_sorted (by decide +kernel) (pa_cons (pe_callTy (cr_setN rfl) (by rfl) T.b_set (by decide +kernel) (pa_cons (pv 2) pa_nil)) pa_nil)) (nomark _))))) (pss_one (ps_ret pe_bl)) pss_nil)
      (pss_one (ps_ret (pe_and (pe_cmpR op_eq (pe_callB call_len_seq (by rfl) T.b_len (by decide +kernel) (pa_cons (pv 3) pa_nil)) (pe_ix ix_list (pe_lst (pa_cons pe_int (pa_cons pe_int (pa_cons pe_int (pa_cons pe_int pa_nil))))) (pe_op op_sub (pe_callB call_len_seq (by rfl) T.b_len (by decide +kernel) (pa_cons (pv 2) pa_nil)) pe_int) (fun _ _ => rfl)) (nomark _)) (pe_one (pe_callB (cr_all rfl) (by rfl) T.b_all (by decide +kernel) (pa_cons (pe_lc (own := [("_law_one", 5)]) (g := gName 5) (tt := tYes) rfl sc__law_is_table.nd (pi_tup (pv 3)) (blkOk_by (own := [("_law_one", 5)]) (N := ["_law_thing", "_law_wire", "_law_places", "_law_bits", "_law_place", "_law_one"]) (sc := defScope s__law_is_table) (by decide +kernel)) (fun _ _ _ _ _ => (pg_name (i := 5) sc__law_is_table.nd rfl (by first | exact Or.inl rfl | exact Or.inr rfl))) (fun _ _ _ _ _ => pts_nil) (fun _ _ _ _ _ => (pe_c c__law_is_number hr (by decide) (by rfl) (pa_cons (pv 5) (pa_cons pe_int pa_nil))))) pa_nil)))))))))), ?_⟩
    refine ⟨_, rfl, _, _, _, _, true, rfl, .ty "tuple", .base (.tup hp), kit_ty (by decide +kernel), _, rfl, ?_⟩
    refine iteF ?_
    refine ⟨_, rfl, p, _, rfl, .inr (SqT.of hp), rfl, _, rfl, ?_⟩
    refine iteF ?_
    refine ⟨_, rfl, p, _, rfl, SqT.of hp, rfl, _, _, rfl, _, _, rfl, rfl, ?_⟩
    refine ⟨_, rfl, _, _, _, _, true, rfl, .ty "tuple", .base (.tup hpa), kit_ty (by decide +kernel), _, rfl, ?_⟩
    refine iteF ?_
    refine ⟨_, rfl, _, _, _, _, true, rfl, .ty "tuple", .base (.tup hpb), kit_ty (by decide +kernel), _, rfl, ?_⟩
    refine iteF ?_
    refine ⟨_, rfl, pa, _, rfl, .inr (SqT.of hpa), small 4, fun z1 nz1 => ?_⟩
    have s1 := Same.new (o := .tup [.int 1, .int 2, .int 3, .int 4]) nz1
    refine ⟨z1, _, rfl, .inr (SqT.of upd_same), rfl, rfl, _, rfl, ?_⟩
    have e1 : inV (V.int (((t.1.map nV).length : Nat) : Int)) [V.int 1, V.int 2, V.int 3, V.int 4] = true := by
      rw [List.length_map]
      rcases (show t.1.length = 1 ∨ t.1.length = 2 ∨ t.1.length = 3 ∨ t.1.length = 4 by omega) with h | h | h | h <;> rw [h] <;> rfl
    rw [if_pos rfl, e1]
    refine iteF ?_
    generalize upd H z1 (.tup [.int 1, .int 2, .int 3, .int 4]) = H1 at s1 ⊢
    have hpa1 := s1 _ _ hpa
    have hpb1 := s1 _ _ hpb
    refine ⟨_, rfl, pa, rfl, ⟨_, SqT.of hpa1⟩, fun M nM => ?_⟩
    refine lc_tup (K := K) (a := pa) (xs := t.1.map nV) (fun k H' => Own H1 H' M []) ⟨Same.new nM, upd_same, nM⟩ (fun k H' _ o' => SqT.of (o'.sm _ _ hpa1)) ?_ ?_
    · rintro k x H2 hx o2
      have hk : k < t.1.length := by
        have := (List.getElem?_eq_some_iff.mp hx).1
        rwa [List.length_map] at this
      rw [natAt hk] at hx
      cases hx
      refine ⟨rfl, _, rfl, _, rfl, _, wr, rfl, _, rfl, ?_⟩
      rw [decide_eq_true (tok.lt _ (getD_mem hk))]
      exact iteF o2
    · rintro H2 o2
      refine ⟨small 0, fun z nz => ?_⟩
      have e3 := Same.new (o := .lst []) nz
      refine ⟨.list [], .list [], .lst (SqL.of (e3 _ _ o2.at_)) .nil, .lst (SqL.of upd_same) .nil, rfl, rfl, _, rfl, ?_⟩
      refine iteF ?_
      have s3 := (s1.trans o2.sm).trans e3
      generalize upd H2 z (.lst []) = H3 at s3 ⊢
      have hpa3 := s3 _ _ hpa
      have hpb3 := s3 _ _ hpb
      refine ⟨_, rfl, pa, _, rfl, .inr (SqT.of hpa3), fun L nL => ?_⟩
      have s4 := Same.new (o := .lst (t.1.map nV)) nL
      have hL4 : upd H3 L (.lst (t.1.map nV)) L = some (.lst (t.1.map nV)) := upd_same
      refine ⟨_, rfl, pa, t.1, rfl, .inr (SqT.of (s4 _ _ hpa3)), by omega, fun sq cc nsq hc => ?_⟩
      have s5 := Same.new (o := SetO w sq (fun j => decide (j ∈ t.1.map fun n : Nat => (n : Int))) cc) nsq
      refine ⟨sq, _, cc, rfl, upd_same, by omega, fun out l pw hmm hl nl => ?_⟩
      obtain ⟨ys, rfl, yr, ym⟩ := sorted_set_nat pw hmm
      rw [mapV]
      have ey : ys = t.1 := rise_eq yr tok.rise ym
      have s6 := Same.new (o := .lst (ys.map nV)) nl
      have hL6 := s6 _ _ (s5 _ _ hL4)
      refine ⟨.list ((t.1.map fun n : Nat => (n : Int)).map PyData.int), .list ((t.1.map fun n : Nat => (n : Int)).map PyData.int), .lst (SqL.of hL6) (dpNat K _ _), .lst (SqL.of (by rw [upd_same, ey])) (dpNat K _ _), PySem.W.ke_shaped_ints _, PySem.W.ke_shaped_ints _, _, rfl, ?_⟩
      have ee : PyData.eqv (.list ((t.1.map fun n : Nat => (n : Int)).map PyData.int)) (.list ((t.1.map fun n : Nat => (n : Int)).map PyData.int)) = true := SeqAt.eqv_refl _ (SeqAt.canLay_of_shaped (PySem.W.ke_shaped_ints _))
      rw [ee]
      refine iteF ?_
      have s7 := ((s3.trans s4).trans s5).trans s6
      have hpa7 := s7 _ _ hpa
      have hpb7 := s7 _ _ hpb
      refine ⟨_, rfl, pb, _, rfl, .inr (SqT.of hpb7), small 4, fun z8 nz8 => ?_⟩
      have s8 := Same.new (o := .lst [.int 2, .int 4, .int 8, .int 16]) nz8
      refine ⟨_, rfl, pa, _, rfl, .inr (SqT.of (s8 _ _ hpa7)), _, _, rfl, rfl, z8, _, _, nV t.2.length, rfl, rfl, SqL.of upd_same, ?_, ?_⟩
      · rw [List.length_map, tok.len]
        rcases (show t.1.length = 1 ∨ t.1.length = 2 ∨ t.1.length = 3 ∨ t.1.length = 4 by omega) with h | h | h | h <;> rw [h] <;> rfl
      · rw [List.length_map]
        refine ⟨rfl, true, ?_, iteT ?_⟩
        · show V.bl (decide (nV t.2.length = nV t.2.length)) = V.bl true
          rw [decide_eq_true rfl]
        · have hpb8 := s8 _ _ hpb7
          refine ⟨_, rfl, pb, rfl, ⟨_, SqT.of hpb8⟩, fun M2 nM2 => ?_⟩
          refine lc_tup (K := K) (a := pb) (xs := t.2.map nV) (fun k H' => Own (upd (upd (upd (upd H3 L (.lst (t.1.map nV))) sq (SetO w sq (fun j => decide (j ∈ t.1.map fun n : Nat => (n : Int))) cc)) l (.lst (ys.map nV))) z8 (.lst [.int 2, .int 4, .int 8, .int 16])) H' M2 ((List.replicate k true).map V.bl)) ⟨Same.new nM2, upd_same, nM2⟩ (fun k H' _ o' => SqT.of (o'.sm _ _ hpb8)) ?_ ?_
          · rintro k x H9 hx o9
            have hk : k < t.2.length := by
              have := (List.getElem?_eq_some_iff.mp hx).1
              rwa [List.length_map] at this
            rw [natAt hk] at hx
            cases hx
            refine ⟨rfl, ?_⟩
            unfold tYes
            refine iteT ?_
            refine ⟨_, rfl, _, 2, rfl, ?_⟩
            rw [decide_eq_true (tok.bit _ (getD_mem hk))]
            refine ⟨_, o9.at_, by rw [List.length_map, List.length_replicate]; exact small256 (by omega), ?_⟩
            rw [List.replicate_succ', List.map_append]
            exact o9.app
          · rintro H9 o9
            refine ⟨M2, _, rfl, SqL.of o9.at_, ?_⟩
            have ea : (List.replicate (t.2.map nV).length true).all id = true := List.all_eq_true.mpr fun x hx => List.eq_of_mem_replicate hx
            rw [ea]
            exact q H9 ((s7.trans s8).trans o9.sm)
def spIsLay : Sp := fun vs H Q _ => ∃ (a : Addr) (l : Lay) (g o : Addr) (ps : List Addr), vs = [.ref a] ∧ LayAt H a l g o ps ∧ l.Ok ∧ ∀ H', Same H H' → Q (.bl true) H'
theorem ok_islay {f c : Addr} (D : Dfn K mg "_law_is_layout" s__law_is_layout f c) (T : Txt mg) (c__law_is_number : Cal P w K mg base 1 "_law_is_number" spIsNum []) (c__law_is_table : Cal P w K mg base 2 "_law_is_table" spIsTable []) : Cal P w K mg base 3 "_law_is_layout" spIsLay [] := by
  refine cal D (fun _ _ _ _ _ _ us hl => match us, hl with | [_], _ => rfl) sc__law_is_layout (fun vs H Q E h => ?_) (fun A outer s H vs Q E hr h => ?_)
  · obtain ⟨a, l, g, o, ps, rfl, _⟩ := h
    rfl
  · obtain ⟨a, l, g, o, ps, rfl, L, ok, q⟩ := h
    have m1 := ok.m1
    have m8 := ok.m8
    have t16 := ok.t16
    have o1 := ok.o1
    have o8 := ok.o8
    have pl : ps.length = l.tabs.length := L.ts.1
    refine ⟨_, (pss_cons (ps_if (PW.pt (pw_or (pt_not (pt_val (pe_callB call_isi (by rfl) T.b_isinstance (by decide +kernel) (pa_cons (pv 0) (pa_cons (pe_bltn (v := .ty "tuple") (by rfl) T.b_tuple (by decide +kernel) rfl) pa_nil))))) (pw_or (pt_cmpR op_ne (pe_callB call_len_seq (by rfl) T.b_len (by decide +kernel) (pa_cons (pv 0) pa_nil)) pe_int (nomark _)) (pw_or (pt_not (pt_val (pe_c c__law_is_number hr (by decide) (by rfl) (pa_cons (pe_ix ix_tup (pv 0) pe_int (fun _ _ => rfl)) (pa_cons pe_int pa_nil))))) (pw_or1 (pt_cmpR op_eq (pe_ix ix_tup (pv 0) pe_int (fun _ _ => rfl)) pe_int (nomark _))))))) (pss_one (ps_ret pe_bl)) pss_nil)
      (pss_cons (ps_asg (pv 0) (pg_tup rfl (pgs_cons (pg_name (i := 1) sc__law_is_layout.nd rfl (by first | exact Or.inl rfl | exact Or.inr rfl)) (pgs_cons (pg_name (i := 2) sc__law_is_layout.nd rfl (by first | exact Or.inl rfl | exact Or.inr rfl)) (pgs_cons (pg_name (i := 3) sc__law_is_layout.nd rfl (by first | exact Or.inl rfl | exact Or.inr rfl)) pgs_nil)))))
      (pss_cons (ps_if (PW.pt (pw_or (pt_not (pt_val (pe_callB call_isi (by rfl) T.b_isinstance (by decide +kernel) (pa_cons (pv 2) (pa_cons (pe_bltn (v := .ty "tuple") (by rfl) T.b_tuple (by decide +kernel) rfl) pa_nil))))) (pw_or (pt_not (pt_val (pe_callB call_isi (by rfl) T.b_isinstance (by decide +kernel) (pa_cons (pv 3) (pa_cons (pe_bltn (v := .ty "tuple") (by rfl) T.b_tuple (by decide +kernel) rfl) pa_nil))))) (pw_or1 (pt_cmpR op_gt (pe_callB call_len_seq (by rfl) T.b_len (by decide +kernel) (pa_cons (pv 2) pa_nil)) pe_int (nomark _)))))) (pss_one (ps_ret pe_bl)) pss_nil)
      (pss_cons (ps_for PassesOwn.never rfl (pi_range1 (by rfl) T.b_range (pa_cons (pe_callB call_len_seq (by rfl) T.b_len (by decide +kernel) (pa_cons (pv 2) pa_nil)) pa_nil)) (pg_name (i := 4) sc__law_is_layout.nd rfl (by first | exact Or.inl rfl | exact Or.inr rfl))
        (pss_one (ps_if (pt_not (pt_val (pe_c c__law_is_table hr (by decide) (by rfl) (pa_cons (pe_ix ix_tup (pv 2) (pv 4) (fun _ _ => rfl)) (pa_cons (pe_op op_add (pv 1) (pv 4)) pa_nil))))) (pss_one (ps_ret pe_bl)) pss_nil)))
      (pss_cons (ps_if (PW.pt (pw_or (pt_cmpR op_eq (pe_callB call_len_seq (by rfl) T.b_len (by decide +kernel) (pa_cons (pv 3) pa_nil)) pe_int (nomark _)) (pw_or1 (pt_cmpR op_gt (pe_callB call_len_seq (by rfl) T.b_len (by decide +kernel) (pa_cons (pv 3) pa_nil)) pe_int (nomark _))))) (pss_one (ps_ret pe_bl)) pss_nil)
      (pss_one (ps_ret (pe_cmpR (op_eqD hr.units) (pe_lc (own := [("_law_wire", 5)]) (g := gName 5)  rfl sc__law_is_layout.nd (pi_tup (pv 3)) (blkOk_by (own := [("_law_wire", 5)]) (N := ["_law_thing", "_law_many", "_law_tables", "_law_outs", "_law_at", "_law_wire"]) (sc := defScope s__law_is_layout) (by decide +kernel)) (fun _ _ _ _ _ => (pg_name (i := 5) sc__law_is_layout.nd rfl (by first | exact Or.inl rfl | exact Or.inr rfl))) (fun _ _ _ _ _ => (pts_one (pt_not (pt_val (pe_c c__law_is_number hr (by decide) (by rfl) (pa_cons (pv 5) (pa_cons (pe_op op_add (pv 1) (pe_callB (len_seqK (K := K)) (by rfl) T.b_len (by decide +kernel) (pa_cons (pv 2) pa_nil))) pa_nil))))))) (fun _ _ _ _ _ => (pv 5))) (pe_lst pa_nil) (nomark _))))))))), ?_⟩
    refine ⟨_, rfl, _, _, _, _, true, rfl, .ty "tuple", .base (.tup L.top), kit_ty (by decide +kernel), _, rfl, ?_⟩
    refine iteF ?_
    refine ⟨_, rfl, a, _, rfl, .inr (SqT.of L.top), rfl, _, rfl, ?_⟩
    refine iteF ?_
    refine ⟨_, rfl, a, _, 0, _, rfl, rfl, SqT.of L.top, at0, l.many, 9, rfl, _, rfl, ?_⟩
    rw [decide_eq_true (show l.many < 9 by omega)]
    refine iteF ?_
    refine ⟨_, rfl, a, _, 0, _, rfl, rfl, SqT.of L.top, at0, rfl, _, rfl, ?_⟩
    rw [decide_eq_false (p := nV l.many = V.int 0) (fun z => by have := V.int.inj z; omega)]
    refine iteF ?_
    refine ⟨_, rfl, a, _, rfl, SqT.of L.top, rfl, _, _, rfl, _, _, rfl, _, _, rfl, rfl, ?_⟩
    refine ⟨_, rfl, _, _, _, _, true, rfl, .ty "tuple", .base (.tup L.gt), kit_ty (by decide +kernel), _, rfl, ?_⟩
    refine iteF ?_
    refine ⟨_, rfl, _, _, _, _, true, rfl, .ty "tuple", .base (.tup L.ot), kit_ty (by decide +kernel), _, rfl, ?_⟩
    refine iteF ?_
    refine ⟨_, rfl, g, _, rfl, .inr (SqT.of L.gt), _, _, rfl, rfl, _, rfl, ?_⟩
    rw [List.length_map, pl, decide_eq_false (show ¬ (16 : Int) < ((l.tabs.length : Nat) : Int) by omega)]
    refine iteF ?_
    refine ⟨_, rfl, g, _, rfl, .inr (SqT.of L.gt), _, rfl, by omega, by rw [List.length_map, pl]; omega, ?_⟩
    rw [List.length_map, pl]
    refine for_range (lo := 0) (n := ((l.tabs.length : Nat) : Int).toNat) (fun i σ H' => ∃ (x4 x5 : Option V), σ = [some (.ref a), some (nV l.many), some (.ref g), some (.ref o), x4, x5] ∧ Same H H') ⟨none, none, rfl, Same.refl _⟩ ?_ ?_
    · rintro i σ H1 hi ⟨x4, x5, rfl, s1⟩
      rw [Int.toNat_natCast] at hi
      have L1 := L.same s1
      obtain ⟨t, ht⟩ : ∃ t, l.tabs[i]? = some t := ⟨_, List.getElem?_eq_getElem hi⟩
      have hil : i < ps.length := by rw [pl]; exact hi
      have tat := L1.ts.2 i ps[i] t (List.getElem?_eq_getElem hil) ht
      have g1 : (ps.map V.ref)[i]? = some (.ref ps[i]) := by rw [List.getElem?_map, List.getElem?_eq_getElem hil]; rfl
      refine ⟨_, rfl, _, rfl, g, _, ((i : Nat) : Int), _, rfl, (by show V.int (0 + ((i : Nat) : Int)) = _; rw [Int.zero_add]), SqT.of L1.gt, atI_nat g1, _, rfl, _, rfl, _, _, rfl, rfl, ps[i], t, l.many + i, ?_, tat, ok.ts i t ht, fun H2 s2 => ⟨_, rfl, ?_⟩⟩
      · show [V.ref ps[i], V.int (((l.many : Nat) : Int) + (0 + ((i : Nat) : Int)))] = [V.ref ps[i], V.int ((l.many + i : Nat) : Int)]
        rw [Int.zero_add, Int.natCast_add]
      · refine iteF ?_
        exact ⟨_, _, rfl, s1.trans s2⟩
    · rintro σ H1 ⟨x4, x5, rfl, s1⟩
      have L1 := L.same s1
      refine ⟨_, rfl, o, _, rfl, .inr (SqT.of L1.ot), rfl, _, rfl, ?_⟩
      rw [List.length_map, decide_eq_false (p := V.int ((l.outs.length : Nat) : Int) = V.int 0) (fun z => by have := V.int.inj z; omega)]
      refine iteF ?_
      refine ⟨_, rfl, o, _, rfl, .inr (SqT.of L1.ot), _, _, rfl, rfl, _, rfl, ?_⟩
      rw [List.length_map, decide_eq_false (show ¬ (8 : Int) < ((l.outs.length : Nat) : Int) by omega)]
      refine iteF ?_
      refine ⟨_, rfl, o, rfl, ⟨_, SqT.of L1.ot⟩, fun M nM => ?_⟩
      refine lc_tup (K := K) (a := o) (xs := l.outs.map nV) (fun k H' => Own H1 H' M []) ⟨Same.new nM, upd_same, nM⟩ (fun k H' _ o' => SqT.of (o'.sm _ _ L1.ot)) ?_ ?_
      · rintro k x H2 hx o2
        have hk : k < l.outs.length := by
          have := (List.getElem?_eq_some_iff.mp hx).1
          rwa [List.length_map] at this
        rw [natAt hk] at hx
        cases hx
        refine ⟨rfl, _, rfl, _, rfl, _, rfl, g, _, rfl, .inr (SqT.of (o2.sm _ _ L1.gt)), _, _, rfl, rfl, l.outs.getD k 0, l.many + l.tabs.length, ?_, _, rfl, ?_⟩
        · show [nV (l.outs.getD k 0), V.int (((l.many : Nat) : Int) + (((ps.map V.ref).length : Nat) : Int))] = [nV (l.outs.getD k 0), V.int ((l.many + l.tabs.length : Nat) : Int)]
          rw [List.length_map, pl, Int.natCast_add]
        · rw [decide_eq_true (ok.os _ (getD_mem hk))]
          exact iteF o2
      · rintro H2 o2
        refine ⟨small 0, fun z nz => ?_⟩
        have e3 := Same.new (o := .lst []) nz
        refine ⟨.list [], .list [], .lst (SqL.of (e3 _ _ o2.at_)) .nil, .lst (SqL.of upd_same) .nil, rfl, rfl, ?_⟩
        exact q _ ((s1.trans o2.sm).trans e3)
end
end K50
set_option Elab.async false
set_option linter.all false
set_option maxRecDepth 100000
set_option maxHeartbeats 4000000
namespace K50
open PySem PySem.Spec PyProof.Rows L2 GX
open C8 (Cal pe_c pe_gc)
section
variable {P : Program} {w : World} {K : PySem.W.Frag} {mg : Str → Option Value} {base : Heap} {Ts : List Addr}
def spLaw (K : PySem.W.Frag) (Ts : List Addr) : Sp := fun vs H Q _ => ∃ (a : Addr) (ns : List Int), vs = [.ref a] ∧ SqL K H a (ns.map V.int) ∧ ns.length ≤ 63 ∧ Tabs Ts H ∧ ∀ H', Q (.bl true) H'
theorem ok_law {f c : Addr} {oc kV doc pm ct : Value} {od an : Option Addr} {osl : Array (Option Value)}
    (lk : K.lookup f = some ⟨oc, od, .func (PySem.W.fnOf "law" "law" (defArgs s_law) (defBody s_law) (defScope s_law) .none kV doc pm an (.ref c) ct), osl⟩) (hcd : PySem.W.codeIn K (.ref c) "law" = true) (T : Txt mg)
    (c__law_well : Cal P w K mg base 1 "_law_well" (spWell K) []) (c__law_take : Cal P w K mg base 1 "_law_take" spTake []) (c__law_layout : Cal P w K mg base 2 "_law_layout" spLayout []) (c__law_table : Cal P w K mg base 2 "_law_table" spLTable []) (c__law_is_layout : Cal P w K mg base 3 "_law_is_layout" spIsLay []) (c_trimmed : Cal P w K mg base 6 "trimmed" (spTrimmed Ts) []) (c_layout_outs : Cal P w K mg base 1 "layout_outs" (spLOuts Ts) []) :
    FnOk P w K mg base L2.CX0 7 f (PySem.W.fnOf "law" "law" (defArgs s_law) (defBody s_law) (defScope s_law) .none kV doc pm an (.ref c) ct) ["_law_script"] (spLaw K Ts) := by
  refine fnok lk hcd sc_law (fun vs H Q E h => ?_) (fun A outer s H vs Q E hr h => ?_)
  · obtain ⟨a, ns, rfl, _⟩ := h
    rfl
  · obtain ⟨a, ns, rfl, hS, hlen, tb, q⟩ := h
    refine ⟨_, (pss_cons (ps_for PassesOwn.never rfl (pi_range1 (by rfl) T.b_range (pa_cons (pe_callB (call_max2 rfl) (by rfl) T.b_max (by decide +kernel) (pa_cons pe_int (pa_cons (pe_callB (call_min2 rfl) (by rfl) T.b_min (by decide +kernel) (pa_cons (pe_callB call_len_seq (by rfl) T.b_len (by decide +kernel) (pa_cons (pv 0) pa_nil)) (pa_cons pe_int pa_nil))) pa_nil))) pa_nil)) (pg_name (i := 1) sc_law.nd rfl (by first | exact Or.inl rfl | exact Or.inr rfl))
        (pss_cons (ps_set (i := 2) sc_law.nd rfl (by first | exact Or.inl rfl | exact Or.inr rfl) (pe_c c__law_well hr (by decide) (by rfl) (pa_cons (pv 0) (pa_cons (pv 1) pa_nil))))
      (pss_cons (ps_set (i := 3) sc_law.nd rfl (by first | exact Or.inl rfl | exact Or.inr rfl) (pe_c c__law_layout hr (by decide) (by rfl) (pa_cons (pv 2) pa_nil)))
      (pss_cons (ps_asg (pv 3) (pg_tup rfl (pgs_cons (pg_name (i := 4) sc_law.nd rfl (by first | exact Or.inl rfl | exact Or.inr rfl)) (pgs_cons (pg_name (i := 5) sc_law.nd rfl (by first | exact Or.inl rfl | exact Or.inr rfl)) (pgs_cons (pg_name (i := 6) sc_law.nd rfl (by first | exact Or.inl rfl | exact Or.inr rfl)) pgs_nil)))))
      (pss_cons (ps_set (i := 7) sc_law.nd rfl (by first | exact Or.inl rfl | exact Or.inr rfl) (pe_tup (pa_cons (pv 4) (pa_cons (pe_callTy call_tuple_of (by rfl) T.b_tuple (by decide +kernel) (pa_cons (pe_lc (own := [("_law_places", 8), ("_law_bits", 9)])  (tt := tYes) rfl sc_law.nd (pi_tup (pv 5)) (blkOk_by (own := [("_law_places", 8), ("_law_bits", 9)]) (N := ["_law_script", "_law_k", "_law_well_here", "_law_layout_here", "_law_many", "_law_tables", "_law_outs", "_law_due", "_law_places", "_law_bits", "_law_found", "_law_turn", "_law_row", "_law_place"]) (sc := defScope s_law) (by decide +kernel)) (fun _ _ _ _ _ => (pg_tupK (K := K) (n := 2) rfl rfl (pgs_cons (pg_name (i := 8) sc_law.nd rfl (by first | exact Or.inl rfl | exact Or.inr rfl)) (pgs_cons (pg_name (i := 9) sc_law.nd rfl (by first | exact Or.inl rfl | exact Or.inr rfl)) pgs_nil)))) (fun _ _ _ _ _ => pts_nil) (fun _ _ _ _ _ => (pe_c c__law_table hr (by decide) (by rfl) (pa_cons (pv 8) (pa_cons (pv 9) pa_nil))))) pa_nil)) (pa_cons (pv 6) pa_nil)))))
      (pss_cons (ps_set (i := 10) sc_law.nd rfl (by first | exact Or.inl rfl | exact Or.inr rfl) (pe_c c_trimmed hr (by decide) (by rfl) (pa_cons (pv 3) pa_nil)))
      (pss_cons (ps_if (PW.pt (pw_or (pt_cmpR (op_neD hr.units) (pv 10) (pv 7) (nomark _)) (pw_or (pt_not (pt_val (pe_c c__law_is_layout hr (by decide) (by rfl) (pa_cons (pv 10) pa_nil)))) (pw_or (pt_cmpR (op_neD hr.units) (pe_c c_trimmed hr (by decide) (by rfl) (pa_cons (pv 10) pa_nil)) (pv 7) (nomark _)) (pw_or1 (pt_cmpR (op_neD hr.units) (pe_c c_trimmed hr (by decide) (by rfl) (pa_cons (pv 3) pa_nil)) (pv 7) (nomark _))))))) (pss_one (ps_ret pe_bl)) pss_nil)
      (pss_one (ps_for PassesOwn.never rfl (pi_range1 (by rfl) T.b_range (pa_cons pe_int pa_nil)) (pg_name (i := 11) sc_law.nd rfl (by first | exact Or.inl rfl | exact Or.inr rfl))
        (pss_cons (ps_set (i := 12) sc_law.nd rfl (by first | exact Or.inl rfl | exact Or.inr rfl) (pe_callTy call_tuple_of (by rfl) T.b_tuple (by decide +kernel) (pa_cons (pe_lc (own := [("_law_place", 13)]) (g := gName 13) (tt := tYes) rfl sc_law.nd (pi_range1 (by rfl) T.b_range (pa_cons (pv 4) pa_nil)) (blkOk_by (own := [("_law_place", 13)]) (N := ["_law_script", "_law_k", "_law_well_here", "_law_layout_here", "_law_many", "_law_tables", "_law_outs", "_law_due", "_law_places", "_law_bits", "_law_found", "_law_turn", "_law_row", "_law_place"]) (sc := defScope s_law) (by decide +kernel)) (fun _ _ _ _ _ => (pg_name (i := 13) sc_law.nd rfl (by first | exact Or.inl rfl | exact Or.inr rfl))) (fun _ _ _ _ _ => pts_nil) (fun _ _ _ _ _ => (pe_c c__law_take hr (by decide) (by rfl) (pa_cons (pv 2) (pa_cons pe_int pa_nil))))) pa_nil)))
      (pss_one (ps_if (pt_cmpR (op_neD hr.units) (pe_c c_layout_outs hr (by decide) (by rfl) (pa_cons (pv 10) (pa_cons (pv 12) pa_nil))) (pe_c c_layout_outs hr (by decide) (by rfl) (pa_cons (pv 3) (pa_cons (pv 12) pa_nil))) (nomark _)) (pss_one (ps_ret pe_bl)) pss_nil))))))))))))
      (pss_one (ps_ret pe_bl))), ?_⟩
    refine ⟨_, rfl, a, _, rfl, .inl hS, _, _, rfl, _, _, rfl, _, rfl, ?_, ?_, ?_⟩
    · split <;> split <;> omega
    · rw [List.length_map]
      split <;> split <;> omega
    refine for_range (lo := 0) (fun i σ H' => ∃ x1 x2 x3 x4 x5 x6 x7 x8 x9 x10 x11 x12 x13, σ = [some (.ref a), x1, x2, x3, x4, x5, x6, x7, x8, x9, x10, x11, x12, x13] ∧ SqL K H' a (ns.map V.int) ∧ Tabs Ts H') ⟨none, none, none, none, none, none, none, none, none, none, none, none, none, rfl, hS, tb⟩ ?_ ?_
    · rintro i σ H1 hi ⟨x1, x2, x3, x4, x5, x6, x7, x8, x9, x10, x11, x12, x13, rfl, hS1, tb1⟩
      refine ⟨_, rfl, _, rfl, a, ns, i, (by rw [Int.zero_add]; rfl), hS1, fun W H2 nW w2 k2 => ?_⟩
      have d2 : Dk W Ts H1 H2 := ⟨w2, tb1.keep k2 (fun b hb => by cases hb), k2.mono fun b hb => by cases hb⟩
      refine ⟨_, rfl, W, rfl, w2, fun la l g o ps H3 L ok k3 => ?_⟩
      have d3 := d2.draw k3
      have m8 := ok.m8
      have m1 := ok.m1
      have t16 := ok.t16
      have pl : ps.length = l.tabs.length := L.ts.1
      refine ⟨_, rfl, la, _, rfl, SqT.of L.top, rfl, _, _, rfl, _, _, rfl, _, _, rfl, rfl, ?_⟩
      -- what is due
      refine ⟨_, rfl, _, rfl, g, rfl, ⟨_, SqT.of L.gt⟩, fun M nM => ?_⟩
      refine lc_tup (K := K) (a := g) (xs := ps.map V.ref) (fun i H' => ∃ rs : List Addr, Own H3 H' M (rs.map V.ref) ∧ TabsAt H' rs ((l.tabs.take i).map trimT)) ⟨[], ⟨Same.new nM, upd_same, nM⟩, TabsAt.nil _⟩ (fun i H' _ ⟨_, o', _⟩ => SqT.of (o'.sm _ _ L.gt)) ?_ ?_
      · rintro j x H4 hx ⟨rs, o4, ts4⟩
        have L4 := L.same o4.sm
        obtain ⟨q', t, rfl, ht, pa, pb, h0, h1, h2⟩ := L4.ts.at_ hx
        have rl : rs.length ≤ 16 := by rw [ts4.1, List.length_map, List.length_take]; omega
        refine ⟨q', _, rfl, SqT.of h0, rfl, _, _, rfl, _, _, rfl, rfl, rfl, ?_⟩
        unfold tYes
        refine iteT ?_
        refine ⟨_, rfl, _, rfl, pa, pb, t, _, rfl, h1, h2, ok.ts j t ht, fun r H5 s5 hr => ?_⟩
        have hM5 := s5 _ _ o4.at_
        have mo : ∀ b xs, H4 b = some (.tup xs) → upd H5 M (.lst (rs.map V.ref ++ [.ref r])) b = some (.tup xs) := fun b xs e => tupPut hM5 _ _ (s5 _ _ e)
        refine ⟨_, hM5, by rw [List.length_map]; exact small256 (by omega), rs ++ [r], ⟨fun b u e => ?_, ?_, o4.nw⟩, ?_⟩
        · rw [upd_ne (ne_of_none e o4.nw)]
          exact s5 _ _ (o4.sm _ _ e)
        · rw [upd_same, List.map_append]
          rfl
        · rw [List.take_add_one, ht, Option.toList_some, List.map_append]
          exact TabsAt.push (ts4.mono mo) (hr.mono (tupPut hM5))
      · rintro H4 ⟨rs, o4, ts4⟩
        rw [List.length_map, pl, List.take_length] at ts4
        refine ⟨M, _, rfl, .inl ⟨SqL.of o4.at_, fun g' ng' => ⟨_, rfl, small 3, fun du ndu => ?_⟩⟩⟩
        have s5 := Same.new (o := .tup (rs.map V.ref)) ng'
        have s6 := Same.new (o := .tup [nV l.many, .ref g', .ref o]) ndu
        have s46 := (o4.sm.trans s5).trans s6
        have due : LayAt (upd (upd H4 g' (.tup (rs.map V.ref))) du (.tup [nV l.many, .ref g', .ref o])) du (trimL l) g' o rs := ⟨upd_same, s6 _ _ upd_same, ts4.mono fun b xs e => (s5.trans s6) _ _ e, s46 _ _ L.ot⟩
        have d6 := d3.same s46
        have L6 := L.same s46
        generalize upd (upd H4 g' (.tup (rs.map V.ref))) du (.tup [nV l.many, .ref g', .ref o]) = H6 at s46 due d6 L6 ⊢
        have lok := trimL_ok ok
        refine ⟨_, rfl, la, l, g, o, ps, rfl, L6, ok, d6.tb, fun fo gf pf H7 a7 F7 => ?_⟩
        have d7 := d6.aft a7
        have due7 := due.aft d6.tb a7
        have L7 := L6.aft d6.tb a7
        refine ⟨_, rfl, _, rfl, .tuple (layD (trimL l)), .tuple (layD (trimL l)), F7.dp, due7.dp, layD_shaped _, layD_shaped _, _, rfl, ?_⟩
        rw [layD_eq]
        refine iteF ?_
        refine ⟨_, rfl, fo, trimL l, gf, o, pf, rfl, F7, lok, fun H8 s8 => ⟨_, rfl, ?_⟩⟩
        refine iteF ?_
        have d8 := d7.same s8
        have due8 := due7.same s8
        have F8 := F7.same s8
        have L8 := L7.same s8
        refine ⟨_, rfl, fo, trimL l, gf, o, pf, rfl, F8, lok, d8.tb, fun f2 gf2 pf2 H9 a9 G9 => ?_⟩
        rw [trimL_again ok] at G9
        have d9 := d8.aft a9
        have due9 := due8.aft d8.tb a9
        have F9 := F8.aft d8.tb a9
        have L9 := L8.aft d8.tb a9
        refine ⟨_, rfl, .tuple (layD (trimL l)), .tuple (layD (trimL l)), G9.dp, due9.dp, layD_shaped _, layD_shaped _, _, rfl, ?_⟩
        rw [layD_eq]
        refine iteF ?_
        refine ⟨_, rfl, la, l, g, o, ps, rfl, L9, ok, d9.tb, fun f3 gf3 pf3 H10 a10 G10 => ?_⟩
        have d10 := d9.aft a10
        have due10 := due9.aft d9.tb a10
        have F10 := F9.aft d9.tb a10
        have L10 := L9.aft d9.tb a10
        refine ⟨_, rfl, .tuple (layD (trimL l)), .tuple (layD (trimL l)), G10.dp, due10.dp, layD_shaped _, layD_shaped _, _, rfl, ?_⟩
        rw [layD_eq]
        refine iteF ?_
        refine ⟨_, rfl, by decide, by decide, ?_⟩
        refine for_range (lo := 0) (n := (12 : Int).toNat) (fun j σ H' => ∃ x8 x9 x11 x12 x13, σ = [some (.ref a), some (.int (0 + (i : Int))), some (.ref W), some (.ref la), some (nV l.many), some (.ref g), some (.ref o), some (.ref du), x8, x9, some (.ref fo), x11, x12, x13] ∧ Dk W Ts H1 H' ∧ LayAt H' la l g o ps ∧ LayAt H' fo (trimL l) gf o pf) ⟨_, _, _, _, _, rfl, d10, L10, F10⟩ ?_ ?_
        · rintro j σ H11 hj ⟨x8, x9, x11, x12, x13, rfl, d11, L11, F11⟩
          refine ⟨_, rfl, _, rfl, by omega, by omega, fun M nM => ?_⟩
          obtain ⟨M1, MW⟩ := d11.was nM
          refine lc_range (lo := 0) (n := ((l.many : Nat) : Int).toNat) (fun i H' => ∃ ms : List Nat, Dk W Ts H1 H' ∧ LayAt H' la l g o ps ∧ LayAt H' fo (trimL l) gf o pf ∧ H' M = some (.lst (ms.map nV)) ∧ ms.length = i ∧ ∀ x ∈ ms, x < 2) ⟨[], d11.same (Same.new nM), L11.same (Same.new nM), F11.same (Same.new nM), upd_same, rfl, fun x hx => by (cases hx)⟩ ?_ ?_
          · rintro k H12 hk ⟨ms, d12, L12, F12, hM12, ml, mb⟩
            rw [Int.toNat_natCast] at hk
            refine ⟨rfl, ?_⟩
            unfold tYes
            refine iteT ?_
            refine ⟨_, rfl, W, 2, rfl, d12.wl, by decide, by decide, fun d H13 e0 e1 w13 k13 => ?_⟩
            obtain ⟨y, rfl⟩ := Int.eq_ofNat_of_zero_le e0
            have hM13 := Wk.ats k13 MW hM12
            have t13 := k13.tups d12.wl.nt
            refine ⟨_, hM13, by rw [List.length_map]; exact small256 (by omega), ms ++ [y], (d12.draw ⟨w13, k13⟩).put M1 hM13 MW, (L12.mono t13).mono (tupPut hM13), (F12.mono t13).mono (tupPut hM13), by rw [upd_same, List.map_append]; rfl, by rw [List.length_append, ml]; rfl, fun x hx => ?_⟩
            rcases List.mem_append.mp hx with h | h
            · exact mb x h
            · rw [List.mem_singleton.mp h]
              omega
          · rintro H12 ⟨ms, d12, L12, F12, hM12, ml, mb⟩
            rw [Int.toNat_natCast] at ml
            refine ⟨M, _, rfl, .inl ⟨SqL.of hM12, fun p np => ?_⟩⟩
            have s13 := Same.new (o := .tup (ms.map nV)) np
            have d13 := d12.same s13
            have L13 := L12.same s13
            have F13 := F12.same s13
            have hp13 : upd H12 p (.tup (ms.map nV)) p = some (.tup (ms.map nV)) := upd_same
            generalize upd H12 p (.tup (ms.map nV)) = H13 at d13 L13 F13 hp13 ⊢
            refine ⟨_, rfl, _, rfl, fo, p, trimL l, gf, o, pf, ms, rfl, F13, lok, hp13, ml, mb, d13.tb, fun o1 H14 a14 ho1 => ?_⟩
            rw [outs_trim ok mb] at ho1
            have L14 := L13.aft d13.tb a14
            have F14 := F13.aft d13.tb a14
            have d14 := d13.aft a14
            refine ⟨_, rfl, _, rfl, la, p, l, g, o, ps, ms, rfl, L14, ok, a14.tup d13.tb hp13, ml, mb, d14.tb, fun o2 H15 a15 ho2 => ?_⟩
            have ho15 := a15.tup d14.tb ho1
            generalize outsL ms l = ol at ho15 ho2
            refine ⟨_, _, .tup (SqT.of ho15) (dpNat K _ _), .tup (SqT.of ho2) (dpNat K _ _), PySem.W.ke_shaped_ints _, PySem.W.ke_shaped_ints _, _, rfl, ?_⟩
            have ee : PyData.eqv (.tuple ((ol.map fun n : Nat => (n : Int)).map PyData.int)) (.tuple ((ol.map fun n : Nat => (n : Int)).map PyData.int)) = true := SeqAt.eqv_refl _ (SeqAt.canLay_of_shaped (PySem.W.ke_shaped_ints _))
            rw [ee]
            refine iteF ?_
            exact ⟨_, _, _, _, _, rfl, d14.aft a15, L14.aft d14.tb a15, F14.aft d14.tb a15⟩
        · rintro σ H11 ⟨x8, x9, x11, x12, x13, rfl, d11, L11, F11⟩
          exact ⟨_, _, _, _, _, _, _, _, _, _, _, _, _, rfl, sq_keep hS1 tb1 d11.kp nW, d11.tb⟩
    · rintro σ H1 _
      exact q H1
end
/-! ### what the top has written -/
theorem all_mk {l : PySem.W.OpenLaw} {w : World} {K : PySem.W.Frag} {h : Heap} {mg : Str → Option Value} {fa : Addr} (X : K.In h) (G : h.Ns mainGlobals mg) (hfa : mg "law" = some (.ref fa))
    {f0 c0 : Addr} {od0 an0 : Option Addr} {sl0 : Array (Option Value)} {oc0 kV0 dc0 pm0 ct0 : Value}
    (a0 : PySem.W.nsIn K mainGlobals "is_idle" = some (some (.ref f0))) (l0 : K.lookup f0 = some ⟨oc0, od0, .func (PySem.W.fnOf "is_idle" "is_idle" (defArgs s_is_idle) (defBody s_is_idle) (defScope s_is_idle) .none kV0 dc0 pm0 an0 (.ref c0) ct0), sl0⟩) (e0 : PySem.W.codeIn K (.ref c0) "is_idle" = true) (k0 : PySem.W.keepIn K (.ref f0) = true)
    {P0 : Addr} {dd0 : Option Addr} {vs0 : Array Value} {ls0 : Array (Option Value)} {fl0 : Str} {tf0 tg0 tt0 : Tok} {fg0 tx0 : Int} {iF0 : Bool}
    (o0 : K.lookup c0 = some ⟨.type "code", dd0, .fields vs0, ls0⟩) (h0 : vs0[11]? = some (.ref P0) ∧ vs0.getD 11 .none = .ref P0 ∧ vs0.getD 18 .none = .str fl0 tf0 ∧ vs0.getD 7 .none = .int fg0 tg0 ∧ vs0.getD 9 .none = .bool iF0 ∧ vs0.getD 10 .none = .int tx0 tt0 ∧ c0 ≠ P0) (n0 : K.lookup P0 = none) (y0 : TabOf K mg h "is_idle")
    {f1 c1 : Addr} {od1 an1 : Option Addr} {sl1 : Array (Option Value)} {oc1 kV1 dc1 pm1 ct1 : Value}
    (a1 : PySem.W.nsIn K mainGlobals "idle" = some (some (.ref f1))) (l1 : K.lookup f1 = some ⟨oc1, od1, .func (PySem.W.fnOf "idle" "idle" (defArgs s_idle) (defBody s_idle) (defScope s_idle) .none kV1 dc1 pm1 an1 (.ref c1) ct1), sl1⟩) (e1 : PySem.W.codeIn K (.ref c1) "idle" = true) (k1 : PySem.W.keepIn K (.ref f1) = true)
    {P1 : Addr} {dd1 : Option Addr} {vs1 : Array Value} {ls1 : Array (Option Value)} {fl1 : Str} {tf1 tg1 tt1 : Tok} {fg1 tx1 : Int} {iF1 : Bool}
    (o1 : K.lookup c1 = some ⟨.type "code", dd1, .fields vs1, ls1⟩) (h1 : vs1[11]? = some (.ref P1) ∧ vs1.getD 11 .none = .ref P1 ∧ vs1.getD 18 .none = .str fl1 tf1 ∧ vs1.getD 7 .none = .int fg1 tg1 ∧ vs1.getD 9 .none = .bool iF1 ∧ vs1.getD 10 .none = .int tx1 tt1 ∧ c1 ≠ P1) (n1 : K.lookup P1 = none) (y1 : TabOf K mg h "idle")
    {f2 c2 : Addr} {od2 an2 : Option Addr} {sl2 : Array (Option Value)} {oc2 kV2 dc2 pm2 ct2 : Value}
    (a2 : PySem.W.nsIn K mainGlobals "without" = some (some (.ref f2))) (l2 : K.lookup f2 = some ⟨oc2, od2, .func (PySem.W.fnOf "without" "without" (defArgs s_without) (defBody s_without) (defScope s_without) .none kV2 dc2 pm2 an2 (.ref c2) ct2), sl2⟩) (e2 : PySem.W.codeIn K (.ref c2) "without" = true) (k2 : PySem.W.keepIn K (.ref f2) = true)
    {P2 : Addr} {dd2 : Option Addr} {vs2 : Array Value} {ls2 : Array (Option Value)} {fl2 : Str} {tf2 tg2 tt2 : Tok} {fg2 tx2 : Int} {iF2 : Bool}
    (o2 : K.lookup c2 = some ⟨.type "code", dd2, .fields vs2, ls2⟩) (h2 : vs2[11]? = some (.ref P2) ∧ vs2.getD 11 .none = .ref P2 ∧ vs2.getD 18 .none = .str fl2 tf2 ∧ vs2.getD 7 .none = .int fg2 tg2 ∧ vs2.getD 9 .none = .bool iF2 ∧ vs2.getD 10 .none = .int tx2 tt2 ∧ c2 ≠ P2) (n2 : K.lookup P2 = none) (y2 : TabOf K mg h "without")
    {f3 c3 : Addr} {od3 an3 : Option Addr} {sl3 : Array (Option Value)} {oc3 kV3 dc3 pm3 ct3 : Value}
    (a3 : PySem.W.nsIn K mainGlobals "layout_outs" = some (some (.ref f3))) (l3 : K.lookup f3 = some ⟨oc3, od3, .func (PySem.W.fnOf "layout_outs" "layout_outs" (defArgs s_layout_outs) (defBody s_layout_outs) (defScope s_layout_outs) .none kV3 dc3 pm3 an3 (.ref c3) ct3), sl3⟩) (e3 : PySem.W.codeIn K (.ref c3) "layout_outs" = true) (k3 : PySem.W.keepIn K (.ref f3) = true)
    {P3 : Addr} {dd3 : Option Addr} {vs3 : Array Value} {ls3 : Array (Option Value)} {fl3 : Str} {tf3 tg3 tt3 : Tok} {fg3 tx3 : Int} {iF3 : Bool}
    (o3 : K.lookup c3 = some ⟨.type "code", dd3, .fields vs3, ls3⟩) (h3 : vs3[11]? = some (.ref P3) ∧ vs3.getD 11 .none = .ref P3 ∧ vs3.getD 18 .none = .str fl3 tf3 ∧ vs3.getD 7 .none = .int fg3 tg3 ∧ vs3.getD 9 .none = .bool iF3 ∧ vs3.getD 10 .none = .int tx3 tt3 ∧ c3 ≠ P3) (n3 : K.lookup P3 = none) (y3 : TabOf K mg h "layout_outs")
    {f4 c4 : Addr} {od4 an4 : Option Addr} {sl4 : Array (Option Value)} {oc4 kV4 dc4 pm4 ct4 : Value}
    (a4 : PySem.W.nsIn K mainGlobals "trimmed_table" = some (some (.ref f4))) (l4 : K.lookup f4 = some ⟨oc4, od4, .func (PySem.W.fnOf "trimmed_table" "trimmed_table" (defArgs s_trimmed_table) (defBody s_trimmed_table) (defScope s_trimmed_table) .none kV4 dc4 pm4 an4 (.ref c4) ct4), sl4⟩) (e4 : PySem.W.codeIn K (.ref c4) "trimmed_table" = true) (k4 : PySem.W.keepIn K (.ref f4) = true)
    {f5 c5 : Addr} {od5 an5 : Option Addr} {sl5 : Array (Option Value)} {oc5 kV5 dc5 pm5 ct5 : Value}
    (a5 : PySem.W.nsIn K mainGlobals "trimmed" = some (some (.ref f5))) (l5 : K.lookup f5 = some ⟨oc5, od5, .func (PySem.W.fnOf "trimmed" "trimmed" (defArgs s_trimmed) (defBody s_trimmed) (defScope s_trimmed) .none kV5 dc5 pm5 an5 (.ref c5) ct5), sl5⟩) (e5 : PySem.W.codeIn K (.ref c5) "trimmed" = true) (k5 : PySem.W.keepIn K (.ref f5) = true)
    {P5 : Addr} {dd5 : Option Addr} {vs5 : Array Value} {ls5 : Array (Option Value)} {fl5 : Str} {tf5 tg5 tt5 : Tok} {fg5 tx5 : Int} {iF5 : Bool}
    (o5 : K.lookup c5 = some ⟨.type "code", dd5, .fields vs5, ls5⟩) (h5 : vs5[11]? = some (.ref P5) ∧ vs5.getD 11 .none = .ref P5 ∧ vs5.getD 18 .none = .str fl5 tf5 ∧ vs5.getD 7 .none = .int fg5 tg5 ∧ vs5.getD 9 .none = .bool iF5 ∧ vs5.getD 10 .none = .int tx5 tt5 ∧ c5 ≠ P5) (n5 : K.lookup P5 = none) (y5 : TabOf K mg h "trimmed")
    {f6 c6 : Addr} {od6 an6 : Option Addr} {sl6 : Array (Option Value)} {oc6 kV6 dc6 pm6 ct6 : Value}
    (a6 : PySem.W.nsIn K mainGlobals "_law_well" = some (some (.ref f6))) (l6 : K.lookup f6 = some ⟨oc6, od6, .func (PySem.W.fnOf "_law_well" "_law_well" (defArgs s__law_well) (defBody s__law_well) (defScope s__law_well) .none kV6 dc6 pm6 an6 (.ref c6) ct6), sl6⟩) (e6 : PySem.W.codeIn K (.ref c6) "_law_well" = true) (k6 : PySem.W.keepIn K (.ref f6) = true)
    {f7 c7 : Addr} {od7 an7 : Option Addr} {sl7 : Array (Option Value)} {oc7 kV7 dc7 pm7 ct7 : Value}
    (a7 : PySem.W.nsIn K mainGlobals "_law_take" = some (some (.ref f7))) (l7 : K.lookup f7 = some ⟨oc7, od7, .func (PySem.W.fnOf "_law_take" "_law_take" (defArgs s__law_take) (defBody s__law_take) (defScope s__law_take) .none kV7 dc7 pm7 an7 (.ref c7) ct7), sl7⟩) (e7 : PySem.W.codeIn K (.ref c7) "_law_take" = true) (k7 : PySem.W.keepIn K (.ref f7) = true)
    {f8 c8 : Addr} {od8 an8 : Option Addr} {sl8 : Array (Option Value)} {oc8 kV8 dc8 pm8 ct8 : Value}
    (a8 : PySem.W.nsIn K mainGlobals "_law_layout" = some (some (.ref f8))) (l8 : K.lookup f8 = some ⟨oc8, od8, .func (PySem.W.fnOf "_law_layout" "_law_layout" (defArgs s__law_layout) (defBody s__law_layout) (defScope s__law_layout) .none kV8 dc8 pm8 an8 (.ref c8) ct8), sl8⟩) (e8 : PySem.W.codeIn K (.ref c8) "_law_layout" = true) (k8 : PySem.W.keepIn K (.ref f8) = true)
    {f9 c9 : Addr} {od9 an9 : Option Addr} {sl9 : Array (Option Value)} {oc9 kV9 dc9 pm9 ct9 : Value}
    (a9 : PySem.W.nsIn K mainGlobals "_law_is_number" = some (some (.ref f9))) (l9 : K.lookup f9 = some ⟨oc9, od9, .func (PySem.W.fnOf "_law_is_number" "_law_is_number" (defArgs s__law_is_number) (defBody s__law_is_number) (defScope s__law_is_number) .none kV9 dc9 pm9 an9 (.ref c9) ct9), sl9⟩) (e9 : PySem.W.codeIn K (.ref c9) "_law_is_number" = true) (k9 : PySem.W.keepIn K (.ref f9) = true)
    {f10 c10 : Addr} {od10 an10 : Option Addr} {sl10 : Array (Option Value)} {oc10 kV10 dc10 pm10 ct10 : Value}
    (a10 : PySem.W.nsIn K mainGlobals "_law_is_table" = some (some (.ref f10))) (l10 : K.lookup f10 = some ⟨oc10, od10, .func (PySem.W.fnOf "_law_is_table" "_law_is_table" (defArgs s__law_is_table) (defBody s__law_is_table) (defScope s__law_is_table) .none kV10 dc10 pm10 an10 (.ref c10) ct10), sl10⟩) (e10 : PySem.W.codeIn K (.ref c10) "_law_is_table" = true) (k10 : PySem.W.keepIn K (.ref f10) = true)
    {f11 c11 : Addr} {od11 an11 : Option Addr} {sl11 : Array (Option Value)} {oc11 kV11 dc11 pm11 ct11 : Value}
    (a11 : PySem.W.nsIn K mainGlobals "_law_is_layout" = some (some (.ref f11))) (l11 : K.lookup f11 = some ⟨oc11, od11, .func (PySem.W.fnOf "_law_is_layout" "_law_is_layout" (defArgs s__law_is_layout) (defBody s__law_is_layout) (defScope s__law_is_layout) .none kV11 dc11 pm11 an11 (.ref c11) ct11), sl11⟩) (e11 : PySem.W.codeIn K (.ref c11) "_law_is_layout" = true) (k11 : PySem.W.keepIn K (.ref f11) = true)
    {f12 c12 : Addr} {od12 an12 : Option Addr} {sl12 : Array (Option Value)} {oc12 kV12 dc12 pm12 ct12 : Value}
    (a12 : PySem.W.nsIn K mainGlobals "_law_idle" = some (some (.ref f12))) (l12 : K.lookup f12 = some ⟨oc12, od12, .func (PySem.W.fnOf "_law_idle" "_law_idle" (defArgs s__law_idle) (defBody s__law_idle) (defScope s__law_idle) .none kV12 dc12 pm12 an12 (.ref c12) ct12), sl12⟩) (e12 : PySem.W.codeIn K (.ref c12) "_law_idle" = true) (k12 : PySem.W.keepIn K (.ref f12) = true)
    {f13 c13 : Addr} {od13 an13 : Option Addr} {sl13 : Array (Option Value)} {oc13 kV13 dc13 pm13 ct13 : Value}
    (a13 : PySem.W.nsIn K mainGlobals "_law_table" = some (some (.ref f13))) (l13 : K.lookup f13 = some ⟨oc13, od13, .func (PySem.W.fnOf "_law_table" "_law_table" (defArgs s__law_table) (defBody s__law_table) (defScope s__law_table) .none kV13 dc13 pm13 an13 (.ref c13) ct13), sl13⟩) (e13 : PySem.W.codeIn K (.ref c13) "_law_table" = true) (k13 : PySem.W.keepIn K (.ref f13) = true)
    {f14 c14 : Addr} {od14 an14 : Option Addr} {sl14 : Array (Option Value)} {oc14 kV14 dc14 pm14 ct14 : Value}
    (a14 : PySem.W.nsIn K mainGlobals "law" = some (some (.ref f14))) (l14 : K.lookup f14 = some ⟨oc14, od14, .func (PySem.W.fnOf "law" "law" (defArgs s_law) (defBody s_law) (defScope s_law) .none kV14 dc14 pm14 an14 (.ref c14) ct14), sl14⟩) (e14 : PySem.W.codeIn K (.ref c14) "law" = true) (k14 : PySem.W.keepIn K (.ref f14) = true)
    (z_all : PySem.W.nsIn K mainGlobals "all" = some none) (z_bool : PySem.W.nsIn K mainGlobals "bool" = some none) (z_enumerate : PySem.W.nsIn K mainGlobals "enumerate" = some none) (z_int : PySem.W.nsIn K mainGlobals "int" = some none) (z_isinstance : PySem.W.nsIn K mainGlobals "isinstance" = some none) (z_len : PySem.W.nsIn K mainGlobals "len" = some none) (z_list : PySem.W.nsIn K mainGlobals "list" = some none) (z_max : PySem.W.nsIn K mainGlobals "max" = some none) (z_min : PySem.W.nsIn K mainGlobals "min" = some none) (z_range : PySem.W.nsIn K mainGlobals "range" = some none) (z_reversed : PySem.W.nsIn K mainGlobals "reversed" = some none) (z_set : PySem.W.nsIn K mainGlobals "set" = some none) (z_sorted : PySem.W.nsIn K mainGlobals "sorted" = some none) (z_sum : PySem.W.nsIn K mainGlobals "sum" = some none) (z_tuple : PySem.W.nsIn K mainGlobals "tuple" = some none) : LamX.LawAtS l w K L2.CX0 7 63 "_law_script" mg fa h := by
  have e := hfa.symm.trans (PySem.W.mg_of X G a14)
  cases e
  have D_is_idle : Dfn K mg "is_idle" s_is_idle f0 c0 := ⟨⟨_, _, _, _, _, _, _, _, l0⟩, e0, k0, PySem.W.mg_of X G a0⟩
  have D_idle : Dfn K mg "idle" s_idle f1 c1 := ⟨⟨_, _, _, _, _, _, _, _, l1⟩, e1, k1, PySem.W.mg_of X G a1⟩
  have D_without : Dfn K mg "without" s_without f2 c2 := ⟨⟨_, _, _, _, _, _, _, _, l2⟩, e2, k2, PySem.W.mg_of X G a2⟩
  have D_layout_outs : Dfn K mg "layout_outs" s_layout_outs f3 c3 := ⟨⟨_, _, _, _, _, _, _, _, l3⟩, e3, k3, PySem.W.mg_of X G a3⟩
  have D_trimmed_table : Dfn K mg "trimmed_table" s_trimmed_table f4 c4 := ⟨⟨_, _, _, _, _, _, _, _, l4⟩, e4, k4, PySem.W.mg_of X G a4⟩
  have D_trimmed : Dfn K mg "trimmed" s_trimmed f5 c5 := ⟨⟨_, _, _, _, _, _, _, _, l5⟩, e5, k5, PySem.W.mg_of X G a5⟩
  have D__law_well : Dfn K mg "_law_well" s__law_well f6 c6 := ⟨⟨_, _, _, _, _, _, _, _, l6⟩, e6, k6, PySem.W.mg_of X G a6⟩
  have D__law_take : Dfn K mg "_law_take" s__law_take f7 c7 := ⟨⟨_, _, _, _, _, _, _, _, l7⟩, e7, k7, PySem.W.mg_of X G a7⟩
  have D__law_layout : Dfn K mg "_law_layout" s__law_layout f8 c8 := ⟨⟨_, _, _, _, _, _, _, _, l8⟩, e8, k8, PySem.W.mg_of X G a8⟩
  have D__law_is_number : Dfn K mg "_law_is_number" s__law_is_number f9 c9 := ⟨⟨_, _, _, _, _, _, _, _, l9⟩, e9, k9, PySem.W.mg_of X G a9⟩
  have D__law_is_table : Dfn K mg "_law_is_table" s__law_is_table f10 c10 := ⟨⟨_, _, _, _, _, _, _, _, l10⟩, e10, k10, PySem.W.mg_of X G a10⟩
  have D__law_is_layout : Dfn K mg "_law_is_layout" s__law_is_layout f11 c11 := ⟨⟨_, _, _, _, _, _, _, _, l11⟩, e11, k11, PySem.W.mg_of X G a11⟩
  have D__law_idle : Dfn K mg "_law_idle" s__law_idle f12 c12 := ⟨⟨_, _, _, _, _, _, _, _, l12⟩, e12, k12, PySem.W.mg_of X G a12⟩
  have D__law_table : Dfn K mg "_law_table" s__law_table f13 c13 := ⟨⟨_, _, _, _, _, _, _, _, l13⟩, e13, k13, PySem.W.mg_of X G a13⟩
  have T : Txt mg := ⟨PySem.W.mg_none_of X G z_all, PySem.W.mg_none_of X G z_bool, PySem.W.mg_none_of X G z_enumerate, PySem.W.mg_none_of X G z_int, PySem.W.mg_none_of X G z_isinstance, PySem.W.mg_none_of X G z_len, PySem.W.mg_none_of X G z_list, PySem.W.mg_none_of X G z_max, PySem.W.mg_none_of X G z_min, PySem.W.mg_none_of X G z_range, PySem.W.mg_none_of X G z_reversed, PySem.W.mg_none_of X G z_set, PySem.W.mg_none_of X G z_sorted, PySem.W.mg_none_of X G z_sum, PySem.W.mg_none_of X G z_tuple⟩
  refine ⟨(PySem.W.fnOf "law" "law" (defArgs s_law) (defBody s_law) (defScope s_law) .none kV14 dc14 pm14 an14 (.ref c14) ct14), [(c0, P0), (c1, P1), (c2, P2), (c3, P3), (c5, P5)], spLaw K ([(c0, P0), (c1, P1), (c2, P2), (c3, P3), (c5, P5)].map (·.2)), ?t0, ?t1, ?t2, fun s v => .of_eq rfl, fun H a ns hl _ hH hS => ⟨a, ns, rfl, hS, hl, fun p hp => ?t3, fun _ => rfl⟩, fun base _ _ TB => ?t4⟩
  case t0 => 
    intro p hp
    simp only [List.mem_cons, List.not_mem_nil, or_false] at hp
    rcases hp with rfl | rfl | rfl | rfl | rfl
    · exact y0 f0 c0 P0 _ _ _ _ _ _ (PySem.W.mg_of X G a0) l0 rfl rfl o0 h0.1
    · exact y1 f1 c1 P1 _ _ _ _ _ _ (PySem.W.mg_of X G a1) l1 rfl rfl o1 h1.1
    · exact y2 f2 c2 P2 _ _ _ _ _ _ (PySem.W.mg_of X G a2) l2 rfl rfl o2 h2.1
    · exact y3 f3 c3 P3 _ _ _ _ _ _ (PySem.W.mg_of X G a3) l3 rfl rfl o3 h3.1
    · exact y5 f5 c5 P5 _ _ _ _ _ _ (PySem.W.mg_of X G a5) l5 rfl rfl o5 h5.1
  case t1 => 
    intro p hp
    simp only [List.mem_cons, List.not_mem_nil, or_false] at hp
    rcases hp with rfl | rfl | rfl | rfl | rfl
    · exact n0
    · exact n1
    · exact n2
    · exact n3
    · exact n5
  case t2 => 
    intro p hp
    simp only [List.mem_cons, List.not_mem_nil, or_false] at hp
    rcases hp with rfl | rfl | rfl | rfl | rfl
    · exact codeHd_of X o0 h0
    · exact codeHd_of X o1 h1
    · exact codeHd_of X o2 h2
    · exact codeHd_of X o3 h3
    · exact codeHd_of X o5 h5
  case t3 =>
    obtain ⟨pr, hpr, rfl⟩ := List.mem_map.mp hp
    exact ⟨#[], hH pr hpr, trivial⟩
  case t4 =>
    have ctake := ok_take (P := l.prog) (w := w) (base := base) D__law_take
    have clouts := ok_louts (P := l.prog) (w := w) (base := base) (Ts := [(c0, P0), (c1, P1), (c2, P2), (c3, P3), (c5, P5)].map (·.2)) D_layout_outs T (tabB_of (TB (c3, P3) (by simp))) (by simp)
    have cisidle := ok_isidle (P := l.prog) (w := w) (base := base) (Ts := [(c0, P0), (c1, P1), (c2, P2), (c3, P3), (c5, P5)].map (·.2)) D_is_idle T (tabB_of (TB (c0, P0) (by simp))) (by simp)
    have cidle := ok_idle D_idle T cisidle (tabB_of (TB (c1, P1) (by simp))) (by simp)
    have cwithout := ok_without (P := l.prog) (w := w) (base := base) (Ts := [(c0, P0), (c1, P1), (c2, P2), (c3, P3), (c5, P5)].map (·.2)) D_without T (tabB_of (TB (c2, P2) (by simp))) (by simp)
    have ctt := ok_ttable D_trimmed_table T cidle cwithout
    have ctrim := ok_trimmed D_trimmed T ctt (tabB_of (TB (c5, P5) (by simp))) (by simp)
    have cnum := ok_isnum (P := l.prog) (w := w) (base := base) D__law_is_number T
    exact ok_law l14 e14 T (ok_well D__law_well T) ctake (ok_layout D__law_layout T ctake) (ok_ltable D__law_table T (ok_lidle D__law_idle T)) (ok_islay D__law_is_layout T cnum (ok_istable D__law_is_table T cnum)) ctrim clouts
end K50
open PySem PySem.W PyProof.Rows
set_option maxRecDepth 100000 in
set_option maxHeartbeats 0 in
theorem PySem.Challenge.cw_tablecover_k50_layouts_trimmed_holds : PySem.Challenge.rw_tablecover_k50_layouts_trimmed.Holds := by
  w_on; o_law; k_head; (case hw => w_witness2)
  k_fill
  refine GX.walk_defs (l := PySem.Challenge.rw_tablecover_k50_layouts_trimmed) (n := 63) (k := 7) (x := "_law_script") (CX := fun _ => L2.CX0) rfl (by decide) rfl ⟨rfl, by decide, by decide⟩ (fun w h Y => PySem.W.kIn_of Y) ?F (fun _ _ _ _ _ h => h)
  case F =>
    intro w mg fa h Y KX G hmg TF
    refine' K50.all_mk KX G hmg ?a0 ?l0 ?e0 ?k0 ?o0 ?h0 ?n0 ?y0 ?a1 ?l1 ?e1 ?k1 ?o1 ?h1 ?n1 ?y1 ?a2 ?l2 ?e2 ?k2 ?o2 ?h2 ?n2 ?y2 ?a3 ?l3 ?e3 ?k3 ?o3 ?h3 ?n3 ?y3 ?a4 ?l4 ?e4 ?k4 ?a5 ?l5 ?e5 ?k5 ?o5 ?h5 ?n5 ?y5 ?a6 ?l6 ?e6 ?k6 ?a7 ?l7 ?e7 ?k7 ?a8 ?l8 ?e8 ?k8 ?a9 ?l9 ?e9 ?k9 ?a10 ?l10 ?e10 ?k10 ?a11 ?l11 ?e11 ?k11 ?a12 ?l12 ?e12 ?k12 ?a13 ?l13 ?e13 ?k13 ?a14 ?l14 ?e14 ?k14 ?z_all ?z_bool ?z_enumerate ?z_int ?z_isinstance ?z_len ?z_list ?z_max ?z_min ?z_range ?z_reversed ?z_set ?z_sorted ?z_sum ?z_tuple
    (case a0 => k_is)
    (case l0 => k_is)
    (case e0 => k_is)
    (case k0 => k_is)
    (case o0 => k_is)
    (case h0 => exact ⟨rfl, rfl, rfl, rfl, rfl, rfl, by decide⟩)
    (case n0 => rfl)
    (case y0 => exact TF _ (by decide +kernel))
    (case a1 => k_is)
    (case l1 => k_is)
    (case e1 => k_is)
    (case k1 => k_is)
    (case o1 => k_is)
    (case h1 => exact ⟨rfl, rfl, rfl, rfl, rfl, rfl, by decide⟩)
    (case n1 => rfl)
    (case y1 => exact TF _ (by decide +kernel))
    (case a2 => k_is)
    (case l2 => k_is)
    (case e2 => k_is)
    (case k2 => k_is)
    (case o2 => k_is)
    (case h2 => exact ⟨rfl, rfl, rfl, rfl, rfl, rfl, by decide⟩)
    (case n2 => rfl)
    (case y2 => exact TF _ (by decide +kernel))
    (case a3 => k_is)
    (case l3 => k_is)
    (case e3 => k_is)
    (case k3 => k_is)
    (case o3 => k_is)
    (case h3 => exact ⟨rfl, rfl, rfl, rfl, rfl, rfl, by decide⟩)
    (case n3 => rfl)
    (case y3 => exact TF _ (by decide +kernel))
    (case a4 => k_is)
    (case l4 => k_is)
    (case e4 => k_is)
    (case k4 => k_is)
    (case a5 => k_is)
    (case l5 => k_is)
    (case e5 => k_is)
    (case k5 => k_is)
    (case o5 => k_is)
    (case h5 => exact ⟨rfl, rfl, rfl, rfl, rfl, rfl, by decide⟩)
    (case n5 => rfl)
    (case y5 => exact TF _ (by decide +kernel))
    (case a6 => k_is)
    (case l6 => k_is)
    (case e6 => k_is)
    (case k6 => k_is)
    (case a7 => k_is)
    (case l7 => k_is)
    (case e7 => k_is)
    (case k7 => k_is)
    (case a8 => k_is)
    (case l8 => k_is)
    (case e8 => k_is)
    (case k8 => k_is)
    (case a9 => k_is)
    (case l9 => k_is)
    (case e9 => k_is)
    (case k9 => k_is)
    (case a10 => k_is)
    (case l10 => k_is)
    (case e10 => k_is)
    (case k10 => k_is)
    (case a11 => k_is)
    (case l11 => k_is)
    (case e11 => k_is)
    (case k11 => k_is)
    (case a12 => k_is)
    (case l12 => k_is)
    (case e12 => k_is)
    (case k12 => k_is)
    (case a13 => k_is)
    (case l13 => k_is)
    (case e13 => k_is)
    (case k13 => k_is)
    (case a14 => k_is)
    (case l14 => k_is)
    (case e14 => k_is)
    (case k14 => k_is)
    (case z_all => k_is)
    (case z_bool => k_is)
    (case z_enumerate => k_is)
    (case z_int => k_is)
    (case z_isinstance => k_is)
    (case z_len => k_is)
    (case z_list => k_is)
    (case z_max => k_is)
    (case z_min => k_is)
    (case z_range => k_is)
    (case z_reversed => k_is)
    (case z_set => k_is)
    (case z_sorted => k_is)
    (case z_sum => k_is)
    (case z_tuple => k_is)
