import PyProof.Rows.All
import Wide.All
import OpenK.AllK
import Wide.FinOn
import HandS.ForMost
import HandS.GenList
import HandS.AnyAll
import HandS.Strs
import HandS.SetKeys
import PyProof.EnumMake
import PyProof.Draws
import KE.GoesMore
import HandS.IsInst
import HandS.EndTab
import HandS.Codes
import HandS.TupAny
import HandS.TryOnly
import HandS.Conv
import HandS.TupMul
import HandS.TupLe
import HandS.HeadHook4
import HandS.HeadWalk
import HandS.Head0
import HandS.Head1
import HandS.Head2
import HandS.HeadEnd
import PySem.Challenge.RW_closestfit_k01_whole_signatures
set_option Elab.async false
set_option linter.all false
set_option maxRecDepth 100000
set_option maxHeartbeats 0
namespace GA
open PySem PySem.Spec PyProof.Rows L2 GenW GxR

/-- the context of a generator expression's own frame -/
abbrev gxc (X : Cx) (A : Around) (s : Shared) (H : Hp) (cenv : Env) (fp : List Addr) (pn : List (Addr × Obj)) : Cx :=
  { X with A := A, s_0 := s, H_0 := H, env := cenv, outer := X.stack, stack := cenv :: X.stack, ex := fp, fn := fun _ => false, calm := true, pn := pn, xe := fun _ _ => False }

abbrev gEnv (X : Cx) (scope : Scope) (C : Addr) (code : Value) : Env := genEnv scope (cloFrom X.env.cells scope.names []) C code builtinsNs X.env

section
variable {X : Cx} {pins : List (Addr × Obj)} {σ : L2.St} {H : Hp} {s : Shared}

theorem gx_start {A : Around} {scope : Scope} {own : List (Str × Nat)} {fp : List Addr} {code : Value} {h' : Heap} {g' : Array GenState} {tk : Nat} {pn : List (Addr × Obj)} {itv : Value}
    (I : Inv X pins σ H s) (ok : BlkOk X.N X.env.scope scope own) (hcell : ∀ y ∈ scope.names, y.2 ≠ .cell) (hN : X.N.Nodup) (hfp : ∀ b ∈ fp, FpOk X pins H b ∧ b < s.heap.objs.size)
    (hA : A.handled = none) (hfr : A.frames = some (gEnv X scope s.heap.objs.size code :: X.stack)) (hg : AllBare g')
    (hn : h'.Ns s.heap.objs.size (fun y => if y = ".0" then some itv else none))
    (hk : ∀ b o, s.heap.get? b = some o → h'.get? b = some o)
    (hpn : ∀ p ∈ pn, h'.get? p.1 = some p.2 ∧ s.heap.objs.size < p.1 ∧ ∀ v, p.2.data ≠ .cell v) :
    Inv (gxc X A s H (gEnv X scope s.heap.objs.size code) fp pn) [] (wipe σ (own.map (·.2))) H { s with heap := h', gens := g', toks := tk } := by
  have hfree : ∀ y ∈ scope.names, y.2 = .free → ∃ c, X.env.cells.lookup y.1 = some c := fun y hy e => by
    rcases ok.free y hy e with k | k
    · exact I.ok.has _ (.inl k)
    · exact I.ok.has _ (.inr k)
  generalize hcenv : gEnv X scope s.heap.objs.size code = cenv at hfr ⊢
  have hL : cenv.locals = s.heap.objs.size := by rw [← hcenv]; rfl
  have hcl : cenv.cells = cloFrom X.env.cells scope.names [] := by rw [← hcenv]; rfl
  have hsc : cenv.scope = scope := by rw [← hcenv]; rfl
  have cm : ∀ {y c}, (y, c) ∈ cloFrom X.env.cells scope.names [] → X.env.cells.lookup y = some c ∧ c < s.heap.objs.size := fun {y c} hm => by
    rcases cloFrom_mem hm with hm | ⟨h1, rfl⟩
    · cases hm
    · obtain ⟨c, hc⟩ := hfree _ h1 rfl
      rw [hc]
      obtain ⟨w, z⟩ := I.cell _ _ hc
      exact ⟨rfl, z.lt⟩
  have mem : ∀ {y c}, cenv.cells.lookup y = some c → X.env.cells.lookup y = some c ∧ c < s.heap.objs.size := fun {y c} e => by
    rw [hcl] at e
    exact cm (PySem.mem_of_lookup e)
  have look : ∀ {y}, scope.names.lookup y = some .free → ∃ c, cenv.cells.lookup y = some c ∧ X.env.cells.lookup y = some c := fun {y} hl => by
    have hy : (y, NameKind.free) ∈ scope.names := PySem.mem_of_lookup hl
    obtain ⟨c', e'⟩ := mem_lookup (cloFrom_has (cells := X.env.cells) (acc := []) hy)
    rw [← hcl] at e'
    exact ⟨c', e', (mem e').1⟩
  have okG : (gxc X A s H cenv fp pn).Ok := by
    refine ⟨I.ok.mod, by show cenv.scope.kind = _; rw [hsc]; exact ok.kind, by show cenv.globals = _; rw [← hcenv]; exact I.ok.glob, by show cenv.builtins = _; rw [← hcenv]; rfl, by show s.heap.objs.size ≤ cenv.locals; rw [hL]; exact Nat.le_refl _,
      fun y z c e1 e2 => ?_, fun y hy => ?_, fun y c z e => ?_, fun _ => hA, hfr, .inr ⟨rfl, by rw [hL, ← hcenv]; rfl⟩, fun b hb => ⟨?_, fun y c e z => ?_⟩, I.bs, Nat.le_trans I.ok.bsz I.sz, fun b o e hb => ?_, fun b hb z => ?_, I.stack, I.stkFree⟩
    · exact I.ok.inj y z c (mem e1).1 (mem e2).1
    · have key : ∀ k, scope.names.lookup y = some k → (k = .cell ∨ k = .free) → ∃ c, cenv.cells.lookup y = some c := fun k hk hk' => by
        rcases hk' with rfl | rfl
        · exact absurd rfl (hcell _ (PySem.mem_of_lookup hk))
        · obtain ⟨c, h1, _⟩ := look hk
          exact ⟨c, h1⟩
      rcases hy with hy | hy
      · exact key _ (by rw [← hsc]; exact hy) (.inl rfl)
      · exact key _ (by rw [← hsc]; exact hy) (.inr rfl)
    · cases z
    · show b ≠ cenv.locals
      rw [hL]; exact Nat.ne_of_lt (hfp b hb).2
    · exact (hfp b hb).1.2.2.2.2.1 y c (mem e).1 z
    · rcases (hfp b hb).1.2.2.2.1 with z | z
      · exact I.ok.noex b o e z
      · exact absurd (Nat.lt_of_lt_of_le (Heap.lt_size e) (Nat.le_trans I.ok.bsz z)) (Nat.lt_irrefl _)
    · rcases List.mem_cons.mp (I.stkSub b z) with z | z
      · exact (hfp b hb).1.2.1 z
      · exact (hfp b hb).1.2.2.1 z
  refine ⟨okG, rfl, hg, Un.kept hk, ⟨_, by show h'.Ns cenv.locals _; rw [hL]; exact hn, fun i y av e1 e2 e3 => ?_⟩, fun y c e => ?_, ?_, fun y c e => ?_, fun p hp => ?_, I.hok.kept hk, by rw [wipe_length]; exact I.len⟩
  · obtain ⟨e2, hne⟩ := wipe_some e2
    have hfr : scope.names.lookup y = some .free := by
      have key : ∀ k, scope.names.lookup y = some k → k = .local ∨ k = .cell ∨ k = .free → scope.names.lookup y = some .free := fun k hk hk' => by
        have no : ¬ (k = .local ∨ k = .cell) := fun hh => by
          rcases ok.own _ (PySem.mem_of_lookup hk) hh with e' | e'
          · obtain ⟨p, hp, hpy⟩ := List.mem_map.mp e'
            have e3 := ok.ix p hp
            have : p.1 = y := hpy
            rw [this] at e3
            exact hne (List.mem_map.mpr ⟨p, hp, nodup_ix hN e3 e1⟩)
          · exact e' (List.mem_of_getElem? e1)
        rcases hk' with rfl | rfl | rfl
        · exact absurd (.inl rfl) no
        · exact absurd (.inr rfl) no
        · exact hk
      have e3 : Vis cenv.scope y := e3
      rw [hsc] at e3
      rcases e3 with e3 | e3 | e3
      · exact key _ e3 (.inl rfl)
      · exact key _ e3 (.inr (.inl rfl))
      · exact key _ e3 (.inr (.inr rfl))
    obtain ⟨m, hn, hl⟩ := I.loc
    have hvis : Vis X.env.scope y := (ok.free _ (PySem.mem_of_lookup hfr) rfl).elim (fun k => .inr (.inl k)) (fun k => .inr (.inr k))
    obtain ⟨w, r, q⟩ := hl i y av e1 e2 hvis
    refine ⟨w, r, .inr ⟨.inr (by show cenv.scope.names.lookup y = _; rw [hsc]; exact hfr), ?_⟩⟩
    obtain ⟨c, h1, h2⟩ := look hfr
    rcases q with ⟨k, _⟩ | ⟨_, c', e', z⟩
    · have k : X.env.scope.names.lookup y = some .local := k
      rcases ok.free _ (PySem.mem_of_lookup hfr) rfl with k' | k' <;> rw [show X.env.scope.names.lookup y = _ from k'] at k <;> cases k
    · rw [h2] at e'; cases e'
      exact ⟨c, h1, z.keeps hk⟩
  · obtain ⟨w, z⟩ := I.cell y c (mem e).1
    exact ⟨w, z.keeps hk⟩
  · show H cenv.locals = none
    rw [hL]; exact I.hok.fresh (Nat.le_refl _)
  · exact I.freeC y c (mem e).1
  · rw [List.append_nil] at hp
    obtain ⟨q1, q2, q3⟩ := hpn p hp
    refine ⟨q1, I.hok.fresh (Nat.le_of_lt q2), ?_, ?_, q3⟩
    · show p.1 ≠ cenv.locals
      rw [hL]; exact Nat.ne_of_gt q2
    · intro z
      rcases List.mem_cons.mp (I.stkSub p.1 z) with z | z
      · have := I.lt
        rw [← z] at this
        exact absurd (Nat.lt_trans this q2) (Nat.lt_irrefl _)
      · exact I.nofs (Nat.le_of_lt q2) z
end
end GA
namespace GA
open PySem PySem.Spec PyProof.Rows L2 GenW GxR

def GaR (X' : Cx) (Q : VK) : GenEnd := fun n s₀ r s1 =>
  ((r = .ok (.ret .none) ∨ r = .ok .next) ∧ ∃ σ' H', Inv X' [] σ' H' s1 ∧ Q (.bl true) H') ∨ ∃ e, r = .error e ∧ False
def GaY (X' : Cx) (Q : VK) : Protocol := fun n s₀ v s1 kap =>
  ∃ (b : Bool) (σ' : L2.St) (H' : Hp), v = .bool b ∧ Inv X' [] σ' H' s1 ∧ ((b = true ∧ ∀ s', s'.os = s1.os → s'.heap = s1.heap → AllBare s'.gens → kap (.send .none) s') ∨ (b = false ∧ Q (.bl false) H'))

/-- what a turn of all(elt for tg in ..) asks -/
def AllTurn (J : It) (g : TG) (te : TE) (vs : List Nat) (σ : L2.St) (Q : VK) (W : Nat → Nat → Hp → Prop) : Prop :=
  ∀ i m H, W i m H → (J.stop i H ∧ Q (.bl true) H) ∨ (J.go i H ∧ ∀ x H', J.yld i H x H' → g x (wipe σ vs) H' fun σ2 H2 => wipe σ2 vs = wipe σ vs ∧ te σ2 H2 fun y H3 =>
    ∃ b, y = .bl b ∧ if b = true then ∃ m', m' < m ∧ W (i + 1) m' H3 else Q (.bl false) H3)
def tAllG (wi : TI) (g : TG) (te : TE) (vs : List Nat) (P : Addr) : TE := fun σ H Q => wi σ H fun J H1 => TabG H1 P ∧ ∀ H2, Tabbed P H1 H2 → ∃ W : Nat → Nat → Hp → Prop, (∃ m, W 0 m H2) ∧ AllTurn J g te vs σ Q W

theorem inv_woke {X : Cx} {pins : List (Addr × Obj)} {σ : L2.St} {H : Hp} {s s' : Shared} (I : Inv X pins σ H s) (ho : s'.os = s.os) (hk : ∀ b o, s.heap.get? b = some o → s'.heap.get? b = some o) (hg : AllBare s'.gens) : Inv X pins σ H s' :=
  I.call' (ch := []) ho (Un.kept hk) (I.hok.kept hk) hg fun b z => by simp at z

theorem ga_seg {X : Cx} {A : Around} {s : Shared} {H : Hp} {cenv : Env} {fp : List Addr} {pn : List (Addr × Obj)} {elt tg iter : Expr} {scope : Scope} {pos : Pos} {it : Addr} {J : It} {tn : Nat → Heap → Prop} {g : TG} {te : TE} {vs : List Nat} {σ : L2.St} {Q : VK} {W : Nat → Nat → Hp → Prop}
    (hpn : ∀ p ∈ pn, p.1 ∉ fp) (hco : cenv.scope.isCoroutine = false)
    (pg : PG (gxc X (A.over (.compLoop (.GeneratorExp elt [⟨tg, iter, [], 0⟩] scope pos) 0 (.ref it) .none cenv) []) s H cenv fp pn) tg g)
    (pe : PE (gxc X (A.over (.compLoop (.GeneratorExp elt [⟨tg, iter, [], 0⟩] scope pos) 0 (.ref it) .none cenv) []) s H cenv fp pn) elt te)
    (T : Turn X.prog X.w X.K tg J fp it tn) (turn : AllTurn J g te vs σ Q W) :
    ∀ (n i m : Nat) (H1 : Hp) (s0 s1 : Shared), m ≤ n → W i m H1 → Inv (gxc X (A.over (.compLoop (.GeneratorExp elt [⟨tg, iter, [], 0⟩] scope pos) 0 (.ref it) .none cenv) []) s H cenv fp pn) [] (wipe σ vs) H1 s1 → tn i s1.heap → (∀ b ∈ fp, H1 b = none) →
      Seg (model X.prog X.w) A (GaR (gxc X (A.over (.compLoop (.GeneratorExp elt [⟨tg, iter, [], 0⟩] scope pos) 0 (.ref it) .none cenv) []) s H cenv fp pn) Q) (GaY (gxc X (A.over (.compLoop (.GeneratorExp elt [⟨tg, iter, [], 0⟩] scope pos) 0 (.ref it) .none cenv) []) s H cenv fp pn) Q) (n + 1) s0
        (.compLoop (.GeneratorExp elt [⟨tg, iter, [], 0⟩] scope pos) 0 (.ref it) .none cenv)
        ((model X.prog X.w).den (.compLoop (.GeneratorExp elt [⟨tg, iter, [], 0⟩] scope pos) 0 (.ref it) .none cenv)) [] s1 := by
  generalize hXe : gxc X (A.over (.compLoop (.GeneratorExp elt [⟨tg, iter, [], 0⟩] scope pos) 0 (.ref it) .none cenv) []) s H cenv fp pn = X' at pg pe ⊢
  have eA : X'.A = A.over (.compLoop (.GeneratorExp elt [⟨tg, iter, [], 0⟩] scope pos) 0 (.ref it) .none cenv) [] := by rw [← hXe]
  have eP : X'.prog = X.prog := by rw [← hXe]
  have ew : X'.w = X.w := by rw [← hXe]
  have eK : X'.K = X.K := by rw [← hXe]
  have ec : X'.calm = true := by rw [← hXe]
  have eE : X'.env = cenv := by rw [← hXe]
  have ex : X'.ex = fp := by rw [← hXe]
  have epn : X'.pn = pn := by rw [← hXe]
  have exe : X'.xe = fun _ _ => False := by rw [← hXe]
  clear hXe
  have stat : ∀ {σ' : L2.St} {H' : Hp} {s' : Shared}, Inv X' [] σ' H' s' → (∀ b ∈ fp, H' b = none) → ∀ b ∈ fp, FpOk X' [] H' b := fun {σ' H' s'} I' hn b hb => by
    have hb' : b ∈ X'.ex := by rw [ex]; exact hb
    refine ⟨hn b hb, (I'.ok.exf b hb').1, I'.ok.exfs b hb', .inl hb', fun x c e => (I'.ok.exf b hb').2 x c e, fun p hp => ?_⟩
    rw [List.append_nil, epn] at hp
    intro z
    exact hpn p hp (by rw [z]; exact hb)
  have hy : ∀ v, yieldOut cenv v = yieldValue v := fun v => by simp only [yieldOut, hco, Bool.false_eq_true, if_false]
  intro n
  induction n using Nat.strongRecOn with
  | ind n ih =>
    intro i m H1 s0 s1 hm w1 I1 st1 n1
    show Seg _ A _ _ _ s0 _ ((compTurn (.GeneratorExp elt [⟨tg, iter, [], 0⟩] scope pos) 0 (.ref it) .none cenv).onRaise (leaving cenv)) [] s1
    rw [compTurn_gen, Sem.onRaise_eq_wrap]
    refine seg_bind_wrap (wpAny_standAt ?_)
    rcases turn i m H1 w1 with ⟨stop, q⟩ | ⟨go, step⟩
    · refine seg_bind_wrap ?_
      rw [← eA]
      have td := T.done X' eP ew eK ec i [] s1 _ H1 (fun _ _ => False) I1 (stat I1 n1) st1 stop
      refine wpAny_mono td (fun r s6 ⟨hr, I6⟩ => ?_) (fun _ _ z => z.elim)
      subst hr
      exact seg_end (.ok .next) (.inl ⟨.inr rfl, _, H1, I6, q⟩)
    · refine seg_bind_wrap ?_
      rw [← eA]
      refine wpAny_mono (T.item X' eP ew eK ec i [] s1 _ H1 (fun _ _ => False) I1 (stat I1 n1) st1 go) (fun r s6 ⟨u, hr, h6⟩ => ?_) (fun _ _ z => z.elim)
      subst hr
      refine seg_bind_wrap ?_
      rw [← eA]
      refine wpAny_mono h6 (fun _ s7 ⟨x, H7, I7, r7, y7, st7, n7⟩ => ?_) (fun _ _ z => z.elim)
      have I7' := I7.pinned (stat I7 n7) (T.obj _ _ st7)
      refine seg_bind_wrap ?_
      rw [← eA]
      have pgr := pg.run _ s7 _ H7 x u _ I7' r7 (step x H7 y7)
      rw [eE, eP, ew, exe] at pgr
      refine wpAny_mono pgr (fun _ s8 ⟨σ8, H8, I8, hw8, q8⟩ => ?_) (fun _ _ z => z.elim)
      refine seg_bind_wrap (wpAny_of_eq (a := true) (by rw [List.forIn_nil]) ?_)
      simp only [if_true, hy]
      rw [Sem.bind_eq_wrap', Sem.bind_eq_wrap', Sem.wrap_wrap, Sem.wrap_wrap]
      refine seg_wrap ?_
      rw [← eA]
      have per := pe.run _ s8 σ8 H8 _ I8 q8
      rw [eE, eP, ew, exe] at per
      refine wpAny_mono per (fun yv s9 ⟨y, H9, I9, r9, b, hb, q9⟩ => ?_) (fun _ _ z => z.elim)
      subst hb
      cases r9
      refine seg_at (seg_yield rfl rfl rfl ⟨b, σ8, H9, rfl, I9.unpinned, ?_⟩)
      cases b with
      | false => exact .inr ⟨rfl, by simpa using q9⟩
      | true =>
        refine .inl ⟨rfl, fun s' ho hk hg => ?_⟩
        obtain ⟨m', hm', w'⟩ : ∃ m', m' < m ∧ W (i + 1) m' H9 := by simpa using q9
        obtain ⟨n', rfl⟩ : ∃ n', n = n' + 1 := ⟨n - 1, by omega⟩
        have pin' : ∀ b ∈ fp, ∀ o, s7.heap.get? b = some o → s9.heap.get? b = some o ∧ H9 b = none := fun b hb o e =>
          let z := I9.pin (b, o) (List.mem_append_right _ (List.mem_append_right _ (mem_pinsAt hb e)))
          ⟨z.1, z.2.1⟩
        have hl : (wipe σ vs).length = σ8.length := by rw [← hw8, wipe_length]
        have I10 : Inv X' [] (wipe σ vs) H9 s9 := (I9.unpinned (pins := [])).weak hl (fun j v e => by
          rw [← hw8] at e
          exact (wipe_some e).1)
        refine seg_again rfl (ih n' (by omega) (i + 1) m' H9 s' s' (by omega) w' (inv_woke I10 ho (fun b o e => by rw [hk]; exact e) hg) (T.keep _ _ _ st7 fun b hb o e => by rw [hk]; exact (pin' b hb o e).1) fun b hb => ?_)
        obtain ⟨o, e, _⟩ := T.obj _ _ st7 b hb
        exact (pin' b hb o e).2
end GA
namespace GA
open PySem PySem.Spec PyProof.Rows L2 GenW GxR

theorem ga_start {X : Cx} {A : Around} {cenv : Env} {fp : List Addr} {elt tg iter : Expr} {scope : Scope} {pos : Pos} {it : Addr} {J : It} {tn : Nat → Heap → Prop} {R : GenEnd} {Y : Protocol} {n : Nat} {s0 s1 : Shared}
    (T : Turn X.prog X.w X.K tg J fp it tn) (st1 : tn 0 s1.heap)
    (loop : Seg (model X.prog X.w) A R Y n s0 (.compLoop (.GeneratorExp elt [⟨tg, iter, [], 0⟩] scope pos) 0 (.ref it) .none cenv)
        ((model X.prog X.w).den (.compLoop (.GeneratorExp elt [⟨tg, iter, [], 0⟩] scope pos) 0 (.ref it) .none cenv)) [] s1) :
    Seg (model X.prog X.w) A R Y n s0 (.compStart (.GeneratorExp elt [⟨tg, iter, [], 0⟩] scope pos) 0 (.ref it) .none cenv)
        ((model X.prog X.w).den (.compStart (.GeneratorExp elt [⟨tg, iter, [], 0⟩] scope pos) 0 (.ref it) .none cenv)) [] s1 := by
  show Seg _ A _ _ _ s0 _ ((compStart (.GeneratorExp elt [⟨tg, iter, [], 0⟩] scope pos) 0 (.ref it) .none cenv).onRaise (leaving cenv)) [] s1
  unfold compStart
  rw [Sem.onRaise_eq_wrap]
  show Seg _ A _ _ _ s0 _ ((ask >>= _).wrap _ _ _ _) [] s1
  refine seg_bind_wrap (wpAny_askSetting ?_)
  split
  · exact seg_again rfl loop
  · first
      | exact seg_bind_wrap (wpAny_rule (seg_bind_wrap (wpAny_standAt (seg_bind_wrap (T.self _ 0 s1 _ _ st1 (seg_again rfl loop))))))
      | (refine seg_bind_wrap (wpAny_rule ?_); show Seg _ A _ _ _ s0 _ ((standAt iter.pos >>= _).wrap _ _ _ _) [] s1; exact seg_bind_wrap (wpAny_standAt (seg_bind_wrap (T.self _ 0 s1 _ _ st1 (seg_again rfl loop)))))

theorem ga_all {X' : Cx} {A : Around} {R : Result → Shared → Prop} {Q : VK} {a : Addr} {g : Nat}
    (hh : A.handled = none) (hd : A.depth < recursionLimit)
    (hgen : ∀ σ' H' s', Inv X' [] σ' H' s' → s'.heap.IsGen a g)
    (hfin : ∀ (b : Bool) σ' H' s1 s', Inv X' [] σ' H' s1 → Q (.bl b) H' → s'.os = s1.os → (∀ b o, s1.heap.get? b = some o → s'.heap.get? b = some o) → AllBare s'.gens → R (.ok (.ret (.bool b))) s') :
    ∀ (m : Nat) (s : Shared), s.heap.IsGen a g → s.heap.NoLimit →
      (∃ gs, s.gens[g]? = some gs ∧ gs.Goes (model X'.prog X'.w) A.in1.in1 (GaR X' Q) (GaY X' Q) m (.send .none) (s.setGen g .running)) →
      codeAny (model X'.prog X'.w) A (.builtin "all.loop" ⟨[.ref a], []⟩) R s := by
  have goes : ∀ {gs : GenState} {B : Around} {n : Nat} {r : Resume} {s : Shared}, gs.Goes (model X'.prog X'.w) B (GaR X' Q) (GaY X' Q) n r s →
      gs.Goes (model X'.prog X'.w) B (fun n s₀ r s1 => ((r = .ok (.ret .none) ∨ r = .ok .next) ∧ (∃ σ' H', Inv X' [] σ' H' s1 ∧ Q (.bl true) H')) ∨
        ∃ e, r = .error e ∧ False) (GaY X' Q) n r s := fun h => h
  intro m
  induction m with
  | zero =>
    intro s hg hl ⟨gs, hgs, hgo⟩
    refine codeAny_builtin PySem.F.entry_all_loop ?_
    rw [Around.under_plainId PySem.F.plain_all_loop _]
    show wpAny _ A.in1 (pyNext (.ref a) >>= _) _ _ s
    refine wpAny_bind (next_genG (A := A.in1) hh hl hd hg hgs (goes hgo) (fun v s₁ gs' hbare hv => ?_) (fun s₁ hp h' hk => ?_) fun e s₁ he => he.elim)
    · obtain ⟨b, σ', H', rfl, I, hv⟩ := hv
      rcases hv with ⟨rfl, hk⟩ | ⟨rfl, q⟩
      · exact (hk s₁ rfl rfl I.bare).elim
      · refine wpAny_bind (wpAny_holding (wpAny_truthy_bool ?_))
        refine wpAny_bind (wpAny_letGo ?_)
        simp only [Bool.false_eq_true, if_false]
        exact wpAny_bind (wpAny_rule (wpAny_pure (hfin false σ' H' s₁ _ I q rfl (fun _ _ e => e) (allBare_setGen I.bare hbare))))
    · obtain ⟨σ', H', I, q⟩ := hp
      exact wpAny_bind (wpAny_rule (wpAny_pure (hfin true σ' H' s₁ _ I q rfl hk (allBare_setGen I.bare rfl))))
  | succ m ih =>
    intro s hg hl ⟨gs, hgs, hgo⟩
    have hgl : g < s.gens.size := (Array.getElem?_eq_some_iff.mp hgs).1
    refine codeAny_builtin PySem.F.entry_all_loop ?_
    rw [Around.under_plainId PySem.F.plain_all_loop _]
    show wpAny _ A.in1 (pyNext (.ref a) >>= _) _ _ s
    refine wpAny_bind (wpAny_gsz (n := g + 1) hgl (next_genG (A := A.in1) hh hl hd hg hgs (goes hgo) (fun v s₁ gs' hbare hv => ?_) (fun s₁ hp h' hk => ?_) fun e s₁ he => he.elim))
    · intro hsz
      obtain ⟨b, σ', H', rfl, I, hv⟩ := hv
      rcases hv with ⟨rfl, hk⟩ | ⟨rfl, q⟩
      · refine wpAny_bind (wpAny_holding (wpAny_truthy_bool ?_))
        refine wpAny_bind (wpAny_letGo ?_)
        simp only [if_true]
        have hsz1 : g < s₁.gens.size := by
          have q : (s₁.setGen g gs').gens.size = s₁.gens.size := setGen_size _ _ _
          have hsz' : g + 1 ≤ (s₁.setGen g gs').gens.size := hsz
          omega
        refine wpAny_pure ⟨plainId_quiet PySem.F.plain_all_loop _, ih (s₁.setGen g gs') (show s₁.heap.IsGen a g from hgen _ _ s₁ I) (show s₁.heap.NoLimit from I.nolimit) ⟨gs', setGen_at hsz1, ?_⟩⟩
        exact hk _ rfl rfl (allBare_setGen (s := s₁.setGen g gs') (allBare_setGen I.bare hbare) rfl)
      · refine wpAny_bind (wpAny_holding (wpAny_truthy_bool ?_))
        refine wpAny_bind (wpAny_letGo ?_)
        simp only [Bool.false_eq_true, if_false]
        exact wpAny_bind (wpAny_rule (wpAny_pure (hfin false σ' H' s₁ _ I q rfl (fun _ _ e => e) (allBare_setGen I.bare hbare))))
    · intro hsz
      obtain ⟨σ', H', I, q⟩ := hp
      exact wpAny_bind (wpAny_rule (wpAny_pure (hfin true σ' H' s₁ _ I q rfl hk (allBare_setGen I.bare rfl))))
end GA
namespace GA
open PySem PySem.Spec PyProof.Rows L2 GenW GxR

theorem pe_allG {X : Cx} {c P : Addr} {elt iter tg : Expr} {p pos gpos : Pos} {scope : Scope} {own : List (Str × Nat)} {wi : TI} {g : TG} {te : TE} {k : Nat}
    (hr : Room (k + 3) X.A) (hgl : Gl X "all") (hm : X.mg "all" = none) (hb : bootBuiltins "all" = some (.builtin "all")) (TB : TabB X.base X.mg c P) (hcode : X.env.code = .ref c) (hN : X.N.Nodup)
    (hi : PI X tg iter wi) (ok : BlkOk X.N X.env.scope scope own) (hco : scope.isCoroutine = false) (hcell : ∀ y ∈ scope.names, y.2 ≠ .cell) (hdot : scope.names.lookup (".0" : Str) = some NameKind.local)
    (hpg : ∀ (A : Around) (s : Shared) (H : Hp) (C : Addr) (code : Value) (fp : List Addr) (pn : List (Addr × Obj)), PG (gxc X A s H (gEnv X scope C code) fp pn) tg g)
    (hpe : ∀ (A : Around) (s : Shared) (H : Hp) (C : Addr) (code : Value) (fp : List Addr) (pn : List (Addr × Obj)), Room k A → PE (gxc X A s H (gEnv X scope C code) fp pn) elt te)
    (hs : ∀ v, genFold iter X.env v = pure v)
    (he : starEach [.GeneratorExp elt [⟨tg, iter, [], 0⟩] scope gpos] X.env = (false, eval (.GeneratorExp elt [⟨tg, iter, [], 0⟩] scope gpos) X.env) :: starEach [] X.env := by rfl) :
    PE X (.Call (.Name "all" p) [.GeneratorExp elt [⟨tg, iter, [], 0⟩] scope gpos] [] pos) (tAllG wi g te (own.map (·.2)) P) := by
  refine ⟨fun pins s σ H Q I h => ?_⟩
  have hfree : ∀ y ∈ scope.names, y.2 = .free → ∃ c, X.env.cells.lookup y.1 = some c := fun y hy e => by
    rcases ok.free y hy e with k | k
    · exact I.ok.has _ (.inl k)
    · exact I.ok.has _ (.inr k)
  refine wpAny_Call_Name_kw (ld_blt I hgl hm hb ?_)
  refine PyProof.Rows.callWith_builtin1 ?_ he (by rfl)
  rw [he]
  show wpAny _ _ (spliced ((false, eval (.GeneratorExp elt [⟨tg, iter, [], 0⟩] scope gpos) X.env) :: backTo pos (starEach [] X.env))) _ _ s
  refine Calls.spliced_cons ?_
  refine wpAny_GeneratorExp_make hco (closure_ok hfree) hcell hdot ok.kind (by have := hr.dp; omega) ?_ hs
  refine thn (hi.run pins s σ H _ I h) fun xv s1 hx => thn hx fun itv s2 h2 => ?_
  obtain ⟨it, fp, tn, J, H1, e, I1, T, st2, f2, ⟨ps, hP, ht⟩, q1⟩ := h2
  subst e
  have hPs : s2.heap.get? P = some { cls := .none, data := .fields ps } := I1.hok P _ hP
  have hPlt : P < s2.heap.objs.size := Heap.lt_size hPs
  have cd : PySem.W.CodeHd s2.heap c P := TB.code.keeps fun b u e => I1.bk b u e
  have cont : ∀ (code : Value) (h3 : Heap) (tk : Nat) (ps' : Array Value), Heap.ExtBut P s2.heap h3 → s2.heap.objs.size ≤ h3.objs.size → h3.get? P = some { cls := .none, data := .fields ps' } → (∃ more, ps' = ps ++ more) → TriplesOk ps'.toList →
      wpAny (model X.prog X.w) X.A (builtinsFor X.env.globals X.env.builtins) (fun bi s₄ =>
        ∀ h', h'.Ns s₄.heap.objs.size (fun y => if y = ".0" then some (.ref it) else none) → Heap.SameBut s₄.heap.objs.size (s₄.heap.push { cls := .type "frame", data := .dict #[] }) h' →
          wpAny (model X.prog X.w) X.A (spliced (backTo pos (starEach [] X.env))) (fun vs s' => wpAny (model X.prog X.w) X.A (call (.builtin "all") (.ref h'.objs.size :: vs)) (EP X pins σ Q) X.xe s') X.xe { s₄ with
            gens := s₄.gens.push (.fresh (.compStart (.GeneratorExp elt [⟨tg, iter, [], 0⟩] scope gpos) 0 (.ref it) .none (genEnv scope (cloFrom X.env.cells scope.names []) s₄.heap.objs.size code bi X.env))),
            toks := s₄.toks + 1 + 1 + 1,
            heap := h'.push { cls := .type "generator", data := .fields #[.int s₄.gens.size 0, .str "<genexpr>" (s₄.toks + 1), .str (X.env.qual ++ "<genexpr>") (s₄.toks + 1 + 1)] } }) X.xe { s2 with heap := h3, toks := tk } := by
    intro code h3 tk ps' hx hsz hP3 hmore ht3
    obtain ⟨bm, ob, e1, e2, e3, e4, e5, e6, e7, e8⟩ := TB.bm
    obtain ⟨more, em⟩ := hmore
    have keep3 : ∀ b u, b ≠ P → s2.heap.get? b = some u → h3.get? b = some u := fun b u hb e => hx b u hb e
    refine wpAny_builtinsFor (m := X.mg) (by rw [I1.ok.glob]; exact (I1.mod.glob.keeps I1.bk).extBut hx TB.gP) e1 e2 (keep3 _ _ e4 (I1.bk _ _ e5)) e6 e7 e8 ?_
    intro h' hn' hs'
    -- the state behind the code's making
    have I4 : Inv X pins σ (upd H1 P (.tbl (ps ++ more))) { s2 with heap := h3, toks := tk } :=
      inv_tab (g' := s2.gens) (d' := s2.drawn) I1 hP (fun b u hb e => keep3 b u hb e) (by rw [← em]; exact hP3) I1.bare
    generalize hs4 : ({ s2 with heap := h3, toks := tk } : Shared) = s4 at I4 ⊢
    have h4 : s4.heap = h3 := by rw [← hs4]
    have g4 : s4.gens = s2.gens := by rw [← hs4]
    have hn' : h'.Ns s4.heap.objs.size (fun y => if y = ".0" then some (.ref it) else none) := by rw [h4]; exact hn'
    have hs' : Heap.SameBut s4.heap.objs.size (s4.heap.push { cls := .type "frame", data := .dict #[] }) h' := by rw [h4]; exact hs'
    have hT : Tabbed P H1 (upd H1 P (.tbl (ps ++ more))) := ⟨⟨ps ++ more, upd_same, by rw [← em]; exact ht3⟩, fun b hb => upd_ne hb⟩
    obtain ⟨W, ⟨m0, w0⟩, turn⟩ := q1 _ hT
    generalize hH4 : upd H1 P (.tbl (ps ++ more)) = H4 at I4 w0 hT
    have hsz' : h'.objs.size = s4.heap.objs.size + 1 := by rw [hs'.1, Heap.size_push]
    have keep' : ∀ b o, s4.heap.get? b = some o → h'.get? b = some o := fun b o e => hs'.extBut b o (Nat.ne_of_lt (Heap.lt_size e)) (Heap.get?_push_of_some _ e)
    generalize hgo : ({ cls := .type "generator", data := .fields #[.int s4.gens.size 0, .str "<genexpr>" (s4.toks + 1), .str (X.env.qual ++ "<genexpr>") (s4.toks + 1 + 1)] } : Obj) = go
    have hgo' : ∀ h : Heap, h.get? h'.objs.size = some go → h.IsGen h'.objs.size s4.gens.size := fun h e => ⟨go, .str "<genexpr>" (s4.toks + 1), .str (X.env.qual ++ "<genexpr>") (s4.toks + 1 + 1), e, by rw [← hgo] <;> rfl, by rw [← hgo] <;> rfl, by rw [← hgo] <;> rfl⟩
    have hpush : (h'.push go).get? h'.objs.size = some go := Heap.get?_push_size _ (by rw [← hgo] <;> rfl)
    have hfpn : ∀ b ∈ fp, H4 b = none := fun b hb => by
      have hne : b ≠ P := fun z => by
        have q := (f2 b hb).1
        rw [z, hP] at q; cases q
      rw [← hH4, upd_ne hne]
      exact (f2 b hb).1
    have tn4 : tn 0 s4.heap := T.keep _ _ _ st2 fun b hb o e => by
      have hne : b ≠ P := fun z => by
        have q := (f2 b hb).1
        rw [z, hP] at q; cases q
      rw [h4]
      exact keep3 b o hne e
    have hfp4 : ∀ b ∈ fp, FpOk X pins H4 b ∧ b < s4.heap.objs.size := fun b hb => by
      obtain ⟨o, e, _⟩ := T.obj _ _ tn4 b hb
      exact ⟨⟨hfpn b hb, (f2 b hb).2⟩, Heap.lt_size e⟩
    have hpnf : ∀ p ∈ [(h'.objs.size, go)], p.1 ∉ fp := fun p hp hb => by
      rw [List.mem_singleton.mp hp] at hb
      have := (hfp4 _ hb).2
      rw [hsz'] at this
      exact absurd (Nat.lt_trans (Nat.lt_succ_self _) this) (Nat.lt_irrefl _)
    have keep5 : ∀ b o, s4.heap.get? b = some o → (h'.push go).get? b = some o := fun b o e => Heap.get?_push_of_some _ (keep' b o e)
    have bare5 : ∀ cc, AllBare (s4.gens.push (.fresh cc)) := fun cc => AllBare.push I4.bare rfl
    refine Calls.spliced_nil ?_
    refine call_function_tree PySem.F.kind_all PySem.F.plain_all PySem.F.entry_all (PySem.F.args_all1 _) ?_
    unfold Builtin.«all»
    refine wpAny_bind (m := oneArg "all" _) (wpAny_pure ?_)
    refine wpAny_bind (wpAny_pyIter_gen (s := { s4 with gens := _, toks := _, heap := h'.push go }) (hgo' _ hpush) ?_)
    refine wpAny_pure ⟨plainId_quiet PySem.F.plain_all_loop _, ?_⟩
    generalize hC0 : (Code.compLoop (.GeneratorExp elt [⟨tg, iter, [], 0⟩] scope gpos) 0 (.ref it) .none (gEnv X scope s4.heap.objs.size code)) = c0
    have I5 : Inv (gxc X (X.A.in1.in1.over c0 []) s4 H4 (gEnv X scope s4.heap.objs.size code) fp [(h'.objs.size, go)]) [] (wipe σ (own.map (·.2))) H4
        { s4 with heap := h'.push go, gens := s4.gens.push (.fresh (.compStart (.GeneratorExp elt [⟨tg, iter, [], 0⟩] scope gpos) 0 (.ref it) .none (gEnv X scope s4.heap.objs.size code))), toks := s4.toks + 1 + 1 + 1 } := by
      refine gx_start I4 ok hcell hN hfp4 ?_ ?_ (bare5 _) (hn'.push _) keep5 fun p hp => ?_
      · rw [← hC0]; exact hr.hd
      · rw [← hC0]
        have hf : X.A.in1.in1.frames = some X.stack := I4.ok.frames
        unfold Around.over
        rw [hf]
        rfl
      · rw [List.mem_singleton.mp hp]
        refine ⟨hpush, by show _ < h'.objs.size; rw [hsz']; exact Nat.lt_succ_self _, fun v q => ?_⟩
        rw [← hgo] at q
        cases q
    have hroom : Room k (X.A.in1.in1.over c0 []) := by
      rw [← hC0]
      refine ⟨hr.hd, ?_, ?_⟩
      · have := hr.dp
        show X.A.depth + 1 + 3 * k + 5 < _
        omega
      · have := hr.un
        show X.A.units + 1 + 1 + 3 + 16 * k + 200 < _
        omega
    have I6 := I5
    generalize hXe : gxc X (X.A.in1.in1.over c0 []) s4 H4 (gEnv X scope s4.heap.objs.size code) fp [(h'.objs.size, go)] = X' at I6
    have eP : X'.prog = X.prog := by rw [← hXe]
    have ew : X'.w = X.w := by rw [← hXe]
    have hgenI : ∀ σ' H' s', Inv X' [] σ' H' s' → s'.heap.IsGen h'.objs.size s4.gens.size := fun σ' H' s' I' =>
      hgo' _ (I'.pin (h'.objs.size, go) (List.mem_append_left _ (by rw [← hXe]; exact List.mem_singleton.mpr rfl))).1
    have hbare5 := bare5 (.compStart (.GeneratorExp elt [⟨tg, iter, [], 0⟩] scope gpos) 0 (.ref it) .none (gEnv X scope s4.heap.objs.size code))
    have hseg : Seg (model X'.prog X'.w) X.A.in1.in1 (GaR X' Q) (GaY X' Q) (m0 + 1)
        ({ s4 with heap := h'.push go, gens := s4.gens.push (.fresh (.compStart (.GeneratorExp elt [⟨tg, iter, [], 0⟩] scope gpos) 0 (.ref it) .none (gEnv X scope s4.heap.objs.size code))), toks := s4.toks + 1 + 1 + 1 } |>.setGen s4.gens.size .running)
        (.compStart (.GeneratorExp elt [⟨tg, iter, [], 0⟩] scope gpos) 0 (.ref it) .none (gEnv X scope s4.heap.objs.size code))
        ((model X'.prog X'.w).den (.compStart (.GeneratorExp elt [⟨tg, iter, [], 0⟩] scope gpos) 0 (.ref it) .none (gEnv X scope s4.heap.objs.size code))) []
        ({ s4 with heap := h'.push go, gens := s4.gens.push (.fresh (.compStart (.GeneratorExp elt [⟨tg, iter, [], 0⟩] scope gpos) 0 (.ref it) .none (gEnv X scope s4.heap.objs.size code))), toks := s4.toks + 1 + 1 + 1 } |>.setGen s4.gens.size .running) := by
      have I7 := inv_woke (s' := { s4 with heap := h'.push go, gens := s4.gens.push (.fresh (.compStart (.GeneratorExp elt [⟨tg, iter, [], 0⟩] scope gpos) 0 (.ref it) .none (gEnv X scope s4.heap.objs.size code))), toks := s4.toks + 1 + 1 + 1 } |>.setGen s4.gens.size .running) I5 rfl (fun _ _ e => e) (allBare_setGen hbare5 rfl)
      rw [eP, ew, ← hXe, ← hC0]
      rw [← hC0] at I7
      have st5 : tn 0 (h'.push go) := T.keep _ _ _ tn4 fun b _ o e => keep5 b o e
      refine ga_start (s1 := { s4 with heap := h'.push go, gens := s4.gens.push (.fresh (.compStart (.GeneratorExp elt [⟨tg, iter, [], 0⟩] scope gpos) 0 (.ref it) .none (gEnv X scope s4.heap.objs.size code))), toks := s4.toks + 1 + 1 + 1 } |>.setGen s4.gens.size .running) T st5 ?_
      exact ga_seg (σ := σ) hpnf hco (hpg _ _ _ _ _ _ _) (hpe _ _ _ _ _ _ _ (by rw [hC0]; exact hroom)) T turn m0 0 m0 H4 _ _ (Nat.le_refl _) w0 I7 st5 hfpn
    have key := ga_all (X' := X') (A := X.A) (Q := Q) (a := h'.objs.size) (g := s4.gens.size) (R := fun r s' => match r with | .ok (.ret v) => EP X pins σ Q v s' | _ => False) hr.hd (by have := hr.dp; omega) hgenI
      (fun b σ' H' s1' s' I' q' ho hk hg => by
        have J : Inv X pins σ H' s1' := by
          have hu : Un (frs X.stack) fp H4 H' s4.heap s1'.heap := by have := I'.base; rw [← hXe] at this; exact this
          have ho' : s1'.os = s4.os := by have := I'.os; rw [← hXe] at this; exact this
          have hok : HOk X.prog X.w H' s1'.heap := by have := I'.hok; rw [← hXe] at this; exact this
          exact I4.call' (ch := fp) ho' hu hok I'.bare fun b hb => ⟨(hfp4 b hb).1.2.2.2.1, (hfp4 b hb).1.2.1, (hfp4 b hb).1.2.2.2.2.1, (hfp4 b hb).1.2.2.2.2.2⟩
        exact ⟨.bl b, H', inv_woke J ho hk hg, rfl, q'⟩)
      (m0 + 1) _ (hgo' _ hpush) I6.nolimit ⟨_, Array.getElem?_push_size .., rfl, hseg⟩
    rw [eP, ew] at key
    refine codeAny_mono key fun r s' h => ?_
    cases r with
    | error e => exact h.elim
    | ok f => cases f with
      | ret v => exact h
      | _ => exact h.elim
  refine ⟨I1.nolimit, ?_⟩
  cases hf : codeAmong gpos ps.toList with
  | none =>
    refine wpAny_genexprCodeX hcode (cd.code hPs ht) (cd.tab hPs) hf fun c' h' tk hx hge hlt hco' _ htab' _ => ?_
    obtain ⟨o1, vs, f1, tf, fl, tg, inF, tx, tt, op, _, _, _, _, _, _, _, _, _, htr, _⟩ := hco'
    exact cont _ h' tk _ hx (Nat.le_trans hge (Nat.le_of_lt hlt)) htab'.2 ⟨_, rfl⟩ htr
  | some cv =>
    refine wpAny_genexprCode_hit hcode (cd.code hPs ht) hf ?_
    exact cont cv s2.heap s2.toks ps (Heap.ExtBut.refl _ _) (Nat.le_refl _) hPs ⟨#[], by simp⟩ ht
end GA
namespace SL
open PySem PySem.Spec PyProof.Rows L2

/-- how many different ones are among the first i -/
def nDiff (xs : List Str) : Nat → Nat
  | 0 => 0
  | i + 1 => if (xs.take i).any (· == xs.getD i Str.empty) = true then nDiff xs i else nDiff xs i + 1
theorem nDiff_le (xs : List Str) : ∀ i, nDiff xs i ≤ i
  | 0 => Nat.le_refl _
  | i + 1 => by
    have := nDiff_le xs i
    unfold nDiff
    split <;> omega
theorem take_any (xs : List Str) (i : Nat) (h : i < xs.length) (k : Str) : ((xs.take i).any (· == k) || decide (k = xs.getD i Str.empty)) = (xs.take (i + 1)).any (· == k) := by
  have e1 : xs.getD i Str.empty = xs[i] := by rw [List.getD_eq_getElem?_getD, List.getElem?_eq_getElem h]; rfl
  rw [e1, List.take_succ, List.getElem?_eq_getElem h, List.any_append]
  congr 1
  show _ = (xs[i] == k || false)
  rw [Bool.or_false]
  by_cases e : k = xs[i]
  · rw [decide_eq_true e, e]; simp
  · rw [decide_eq_false e]; symm; rw [beq_eq_false_iff_ne]; exact fun z => e z.symm

abbrev newSet (led : Bool) : Obj := { cls := .type "set", dict := none, data := .set #[] 0 (.fresh 0 0 led) }
abbrev SetAt (prog : Program) (w : World) (h : Heap) (S : Addr) (xs : List Str) (i : Nat) : Prop := h.SetOf (PySem.strKind prog w) S (fun k => (xs.take i).any (· == k)) (nDiff xs i)
theorem SetAt.kept {prog : Program} {w : World} {h h' : Heap} {S : Addr} {xs : List Str} {i : Nat} (x : SetAt prog w h S xs i) (k : ∀ o, h.get? S = some o → h'.get? S = some o) : SetAt prog w h' S xs i := by
  obtain ⟨o, es, ep, t, ho, r⟩ := x
  exact ⟨o, es, ep, t, k o ho, r⟩

section
variable {prog : Program} {w : World} {A : Around} {R : Result → Shared → Prop} {I : Addr} {fp wr : List Addr} {G : Array GenState → Array GenState → Prop} {n : Nat} {P : Nat → Value → Prop} {St : Nat → Shared → Prop}
theorem fill (W : WalksS prog w A.in1 I fp wr G n P St) (S : Addr) (hS0 : S ∉ fp) (xs : List Str) (hn : xs.length = n) (hb : n + 1 < scanBound)
    (hv : ∀ i v, P i v → ∃ t, v = .str (xs.getD i Str.empty) t) :
    ∀ (k i : Nat) (s : Shared), n - i = k → i ≤ n → St i s → SetAt prog w s.heap S xs i →
      (∀ s', Moved (S :: wr) G s s' → SetAt prog w s'.heap S xs n → R (.ok (.ret .none)) s') →
      codeAny (model prog w) A (.builtin "set.update.loop" ⟨[.ref S, .ref I], []⟩) R s := by
  have nwr : S ∉ wr := fun h => hS0 (W.sub _ h)
  have up : ∀ b ∈ wr, b ∈ S :: wr := fun b z => List.mem_cons_of_mem _ z
  intro k
  induction k with
  | zero =>
    intro i s hk hi hst hS hR
    have e : i = n := by omega
    subst e
    refine codeAny_builtin PyProof.Rows.F.entry_set_update_loop ?_
    rw [Around.under_plainId PyProof.Rows.F.plain_set_update_loop _]
    show wpAny _ A.in1 (pyNext (.ref I) >>= _) _ _ s
    refine wpAny_bind (W.done s _ _ hst fun s' hm => ?_)
    show wpAny _ A.in1 (ret Value.none) _ _ s'
    exact wpAny_pure (hR s' (hm.mono up) (hS.kept fun o e => hm.heap S o nwr e))
  | succ k ih =>
    intro i s hk hi hst hS hR
    have lt : i < n := by omega
    refine codeAny_builtin PyProof.Rows.F.entry_set_update_loop ?_
    rw [Around.under_plainId PyProof.Rows.F.plain_set_update_loop _]
    show wpAny _ A.in1 (pyNext (.ref I) >>= _) _ _ s
    refine wpAny_bind (W.item i s _ _ lt hst fun v s' hP hst' hm => ?_)
    obtain ⟨t, rfl⟩ := hv i v hP
    have hS' := hS.kept (h' := s'.heap) fun o e => hm.heap S o nwr e
    show wpAny _ A.in1 (holding [Value.str (xs.getD i Str.empty) t] (setAdd S (.str (xs.getD i Str.empty) t)) >>= _) _ _ s'
    refine wpAny_bind (wpAny_holding ?_)
    unfold setAdd
    refine wpAny_holding (wpAny_bind ((PySem.strKind prog w).pyHash (k := xs.getD i Str.empty) (strKind_is _ _ _ _) ?_))
    have room : nDiff xs i + 1 < scanBound := by have := nDiff_le xs i; omega
    refine wpAny_setAddHashed_of (knd := PySem.strKind prog w) (s := { s' with toks := s'.toks + 1 }) (strKind_is _ _ _ _) rfl hS' room fun h' sb hS2 => ?_
    have hS3 : SetAt prog w h' S xs (i + 1) := PyProof.Rows.SetOf_congr hS2 (fun k' => take_any xs i (by omega) k') rfl
    have nS : ∀ b, b ∉ S :: wr → b ≠ S := fun b z e => z (by rw [e]; exact List.mem_cons_self)
    refine wpAny_pure ⟨plainId_quiet PyProof.Rows.F.plain_set_update_loop _, ih (i + 1) _ (by omega) lt (W.frame _ s' _ _ hst' (Nat.le_succ _) fun b z o e => (sb.2 b fun q => hS0 (q ▸ z)).trans e) hS3 fun s'' hm2 hS4 => ?_⟩
    exact hR s'' (Moved.trans W.gtrans ((hm.mono up).then_heap (Nat.le_succ _) fun b o z e => (sb.2 b (nS b z)).trans e) hm2) hS4
end
end SL
namespace SL
open PySem PySem.Spec PyProof.Rows L2

section
variable {prog : Program} {w : World} {A : Around} {E : Value → Shared → Prop} {s : Shared}
theorem call_set {l : Addr} {items : Array Value} {xs : List Str} {Q : Value → Shared → Prop}
    (hh : A.handled = none) (hl : s.heap.IsList l items) (hi : PyProof.Rows.StrsAre items.toList xs) (hb : xs.length + 1 < scanBound)
    (h : ∀ (h' : Heap) (tk : Nat), SetAt prog w h' s.heap.objs.size xs xs.length →
      (∀ b o, b < s.heap.objs.size → s.heap.get? b = some o → h'.get? b = some o) → Q (.ref s.heap.objs.size) { s with heap := h', toks := tk }) :
    wpAny (model prog w) A (call (.type "set") [.ref l]) Q E s := by
  have hsz : xs.length = items.size := by rw [← StrsAre.len_eq hi, Array.length_toList]
  obtain ⟨c, tl, hmro⟩ := PySem.F.called_set.mro
  have a1 := PySem.F.called_set.made
  have a2 := PySem.F.called_set.sub
  have a3 := PySem.F.called_set.notType
  have a4 := PySem.F.called_set.canCreate
  have a5 := PySem.F.typeCall_set_1 (.ref l)
  refine wpAny_call (codeAny_of_tree ?_)
  show wpAny _ _ (callAny (.type "set") _) _ _ _
  refine wpAny_pure ⟨Code.quiet_builtin _ (by decide +kernel), codeAny_builtin PySem.F.entry_type_call ?_⟩
  rw [Around.under_plain (weight_type_call_type "set" [.ref l] []) rfl]
  repeat (any_goals (first | assumption | wp_step))
  refine codeAny_mono (code_set_new_1 (.ref l) (E := E) (Q₁ := fun o s₁ => ∃ led : Bool, o = .ref s.heap.objs.size ∧ s₁ = { s with heap := s.heap.push (newSet led) }) fun led => ⟨led, rfl, rfl⟩) fun r s₁ hr => ?_
  rcases r with e | fl
  · exact hr
  cases fl with
  | ret o =>
    obtain ⟨led, rfl, rfl⟩ := hr
    generalize hD : s.heap.objs.size = D at *
    have gD : (s.heap.push (newSet led)).get? D = some (newSet led) := by rw [← hD]; exact Heap.get?_push_size _ rfl
    have tD : Shared.TypeIs { s with heap := s.heap.push (newSet led) } (.ref D) "set" := ⟨_, gD, rfl⟩
    have b1 := PySem.F.called_set.init.lookup
    have b2 := PySem.F.called_set.init.bind (.ref D)
    repeat (any_goals (first | assumption | wp_step))
    refine codeAny_mono (codeAny_call_builtin (R := wants (fun r s₂ => r = .none ∧ ∃ h' tk, s₂ = { s with heap := h', toks := tk } ∧ SetAt prog w h' D xs xs.length ∧
        (∀ b o, b < D → s.heap.get? b = some o → h'.get? b = some o)) E) PySem.F.called_set.init.plain PySem.F.entry_set_init (check_set_init_1 tD ?_)) fun r₂ s₂ hr₂ => ?_
    · obtain ⟨⟨c1, c2, c3, c4⟩, hol, d1, nl, d2⟩ := hl
      simp only at d1 d2
      subst d1; subst d2
      have hol' : (s.heap.push (newSet led)).get? l = some ⟨.type "list", c2, .seq items nl, c4⟩ := Heap.get?_push_of_some _ hol
      have e1 := PySem.F.sub_list_set
      have e2 := PySem.F.sub_list_frozenset
      have e3 : (Value.type "list" == Value.type "dict") = false := by decide
      have hl1 : (s.heap.push (newSet led)).IsList l items := ⟨_, hol', rfl, nl, rfl⟩
      unfold Builtin.«set.__init__» noKeywords Builtin.Frozenset.updateFrom
      generalize hPI : pyIter = PI
      wp_walk
      subst hPI
      refine wpAny_pyIter_list hl1 (wpAny_bind (wpAny_runValue ?_))
      have lt1 : l < D := by rw [← hD]; exact Heap.lt_size hol
      have sz1 : (s.heap.push (newSet led)).objs.size = D + 1 := by rw [Heap.size_push, hD]
      rw [sz1]
      have n1 : l ≠ D + 1 := Nat.ne_of_lt (Nat.lt_succ_of_lt lt1)
      refine fill ((Walks.list (by simp [hh]) (D + 1) l n1 items).toS) D (by simp only [List.mem_cons, List.not_mem_nil, or_false, not_or]; exact ⟨Nat.ne_of_lt (Nat.lt_succ_self _), Nat.ne_of_gt lt1⟩) xs hsz (by omega) (fun i v hv => SS.strs_at hi i v (by rw [Array.getElem?_toList]; exact hv))
        (items.size - 0) 0 _ (by omega) (Nat.zero_le _) ⟨⟨_, by rw [← sz1]; exact Heap.get?_push_size _ rfl, rfl, rfl⟩, hl1.push _⟩ ?h0 ?hR
      case h0 =>
        have g2 : ((s.heap.push (newSet led)).push { cls := .type "list_iterator", data := .fields #[.ref l, .int 0 0] }).get? D = some (newSet led) := Heap.get?_push_of_some _ gD
        exact PyProof.Rows.SetOf_congr ((PyProof.Rows.setObjOf_fresh (knd := PySem.strKind prog w) led).setOf g2 (by unfold scanBound; omega)) (fun _ => rfl) rfl
      case hR =>
        intro s' hm hS'
        obtain ⟨h', g', d', tk', os'⟩ := s'
        have f1 : g' = s.gens := hm.gens
        have f2 : d' = s.drawn := hm.drawn
        have f3 : os' = s.os := hm.os
        subst f1 f2 f3
        show wpAny _ _ _ _ _ _
        refine wpAny_pure ?_
        show wpAny _ _ (ret Value.none) _ _ _
        refine wpAny_pure ⟨rfl, h', tk', rfl, by rw [hsz]; exact hS', fun b o z e => ?_⟩
        exact hm.heap b o (by simp only [List.mem_cons, List.not_mem_nil, or_false, not_or]; exact ⟨Nat.ne_of_lt z, Nat.ne_of_lt (Nat.lt_succ_of_lt z)⟩) (Heap.get?_push_of_some _ (Heap.get?_push_of_some _ e))
    · rcases r₂ with e | f2
      · exact hr₂
      cases f2 with
      | ret r =>
        obtain ⟨rfl, h', tk, rfl, z1, z2⟩ := hr₂
        repeat (any_goals (first | assumption | wp_step))
        exact h _ _ z1 z2
      | _ => exact hr₂.elim
  | _ => exact hr.elim
end

/-- len(set(xs)), xs a list of texts -/
def tLenSetL (K : PySem.W.Frag) (ta : TE) : TE := fun σ H Q => ta σ H fun x H1 => ∃ (l : Addr) (xs : List Str), x = .ref l ∧ SqL K H1 l (xs.map V.str) ∧ xs.length ≤ 4000 ∧ Q (.int (nDiff xs xs.length : Nat)) H1
theorem strsOf : ∀ {ys : List Str} {us : List Value}, Vals (ys.map V.str) us → StrsAre us ys
  | [], _, .nil => .nil
  | y :: ys, _, .cons r t => by
    obtain ⟨k, rfl⟩ := r
    exact .cons y k (strsOf t)
theorem pe_lenSetL {X : Cx} {a : Expr} {ta : TE} {p p2 q pos : Pos} (hg : Gl X "len") (hm : X.mg "len" = none) (hg2 : Gl X "set") (hm2 : X.mg "set" = none) (ha : PE X a ta) (hc : X.calm = true := by rfl)
    (na : starEach [a] X.env = (false, eval a X.env) :: starEach [] X.env := by rfl) : PE X (.Call (.Name "len" p) [.Call (.Name "set" p2) [a] [] q] [] pos) (tLenSetL X.K ta) := by
  refine ⟨fun pins s σ H Q I h => ?_⟩
  refine Call_ (ld_blt I hg hm boot_len (PyProof.Rows.callWith_builtin1 (PyProof.Rows.args_cons ?_ rfl) rfl rfl))
  refine Call_ (ld_blt I hg2 hm2 boot_set (PyProof.Rows.callWith_type1 (PyProof.Rows.args_cons (thn (ha.run pins s σ H _ I h) fun v s1 ⟨x, H1, I1, r1, q1⟩ => PyProof.Rows.args_nil ?_) na) na rfl))
  obtain ⟨l, xs, rfl, hq, hl, q1⟩ := q1
  cases r1
  obtain ⟨its, r, pl, hz⟩ := I1.list hq
  refine call_set (I1.ok.hd hc) pl.isList (by simpa using strsOf r) (by unfold scanBound; omega) fun h' tk hS hk => ?_
  refine PyProof.Rows.args_nil ?_
  obtain ⟨o, es, ep, t, ho, hex, hd, _, _, _, hf, hn⟩ := hS
  have I2 : Inv X pins σ H1 { s1 with heap := h', toks := tk } := I1.kept fun b o e => hk b o (Heap.lt_size e) e
  have := nDiff_le xs xs.length
  exact call_len_set ho hex hd hf (by rw [hn]; omega) ⟨.int (nDiff xs xs.length : Nat), H1, I2.tok _, ⟨_, by rw [hn]⟩, q1⟩
end SL
namespace EN
open PySem PySem.Spec PyProof.Rows L2
open Sem (wp)
open AutoSeq1 (wpAny_loadPart')

theorem meets_enumT (l : Addr) (items : Array Value) (n : Nat) (dct : Option Addr) (sl : Array (Option Value)) :
    Meets (Builtin.«enumerate.__new__» ⟨[.type "enumerate", .ref l], []⟩) (fun _ R s => s.heap.get? l = some { cls := .type "tuple", dict := dct, data := .seq items n, slots := sl } ∧
      R (.ok (.ret (.ref (s.heap.push { cls := .type "tuple_iterator", data := .fields #[.ref l, .int 0 0] }).objs.size)))
        { s with heap := (s.heap.push { cls := .type "tuple_iterator", data := .fields #[.ref l, .int 0 0] }).push { cls := .type "enumerate", data := .fields #[.none, .bool false, .ref s.heap.objs.size, rawInt 0, .none, .none] } }) :=
  .of_wp fun prog w A R s h => by
    obtain ⟨hp, g, d, tk, os⟩ := s
    obtain ⟨hl, h⟩ := h
    have hsub := PySem.sub_enumerate
    have hL : Heap.IsTuple (Shared.heap ⟨hp, g, d, tk, os⟩) l items := ⟨_, hl, rfl, n, rfl⟩
    wp_walk using wpAny_loadPart' hl
    refine wpAny_stack_any fun st => wpAny_pure ?_
    split
    · rename_i c _ _ _ _ _
      cases (c == Value.type "enumerate") <;> (wp_walk using wpAny_loadPart' hl, wpAny_pyIter_tuple hL; exact ⟨_, rfl, h⟩)
    · wp_walk using wpAny_loadPart' hl, wpAny_pyIter_tuple hL
      exact ⟨_, rfl, h⟩
end EN
namespace EN
open PySem PySem.Spec PyProof.Rows L2
open Sem (wp)

theorem call_enumT {prog : Program} {w : World} {A : Around} {E : Value → Shared → Prop} {s : Shared} {l : Addr} {items : Array Value} {Q : Value → Shared → Prop} (hL : s.heap.IsTuple l items)
    (h : ∀ h', IsEnum h' (s.heap.objs.size + 1) s.heap.objs.size 0 .none → h'.IsTupleIter s.heap.objs.size l 0 → h'.objs.size = s.heap.objs.size + 2 →
      (∀ b o, s.heap.get? b = some o → h'.get? b = some o) → Q (.ref (s.heap.objs.size + 1)) { s with heap := h' }) :
    wpAny (model prog w) A (call (.type "enumerate") [.ref l]) Q E s := by
  obtain ⟨⟨c, dct, dt, sl⟩, hl, hc, n, hd⟩ := hL
  obtain rfl : c = .type "tuple" := hc
  obtain rfl : dt = .seq items n := hd
  refine callType_new PySem.F.called_enumerate (by decide) (PySem.F.typeCall_enumerate_1 _) (PySem.F.newCall_enumerate_1 _) (fun obj => PySem.F.args_object_init_2 obj _) PySem.F.entry_enumerate_new
    (meets_enumT l items n dct sl) ⟨hl, ?_⟩
  generalize hit : ({ cls := .type "tuple_iterator", data := .fields #[.ref l, .int 0 0] } : Obj) = it
  have nf : it.isFreed = false := by rw [← hit]; rfl
  have hz : (s.heap.push it).objs.size = s.heap.objs.size + 1 := Heap.size_push ..
  show _ ∧ _
  rw [hz]
  have he : IsEnum ((s.heap.push it).push { cls := .type "enumerate", data := .fields #[.none, .bool false, .ref s.heap.objs.size, rawInt 0, .none, .none] }) (s.heap.objs.size + 1) s.heap.objs.size 0 .none := by
    have := Heap.get?_push_size (s.heap.push it) (o := { cls := .type "enumerate", data := .fields #[.none, .bool false, .ref s.heap.objs.size, rawInt 0, .none, .none] }) rfl
    rw [hz] at this
    exact this
  refine ⟨⟨_, he, rfl⟩, h _ he ⟨it, Heap.get?_push_of_some _ (Heap.get?_push_size _ nf), by rw [← hit], by rw [← hit]; rfl⟩ (by rw [Heap.size_push, hz]) fun b o x => Heap.get?_push_of_some _ (Heap.get?_push_of_some _ x)⟩

/-- the tuple at a, its items in new pairs with their numbers -/
def IteT (K : PySem.W.Frag) (a : Addr) : It :=
  ⟨fun i H => ∃ (xs : List V) (x : V), SqT K H a xs ∧ xs[i]? = some x, fun i H v H' => ∃ T x, v = .ref T ∧ H T = none ∧ H' = upd H T (.tup [.int (i : Nat), x]) ∧ ∀ xs, SqT K H a xs → xs[i]? = some x, fun i H => ∃ xs : List V, SqT K H a xs ∧ xs.length ≤ i⟩
theorem turn_enumT {P : Program} {w : World} {K : PySem.W.Frag} {elts : List Expr} {kk : Nat} {tpos : Pos} (a e it : Addr) :
    Turn P w K (.Tuple elts kk tpos) (IteT K a) [e, it] e (fun i h => (∃ old, IsEnum h e it ((i : Nat) : Int) old) ∧ h.IsTupleIter it a i ∧ e ≠ it ∧ a ≠ it ∧ e ≠ a) where
  mem := by simp
  obj := fun i h st b hb => by
    obtain ⟨⟨old, he⟩, ⟨o, ho, hc, hd⟩, _⟩ := st
    rcases List.mem_cons.mp hb with z | z
    · rw [z]; exact ⟨_, he, fun v q => nomatch q⟩
    · rw [List.mem_singleton.mp z]; exact ⟨o, ho, fun v q => by rw [hd] at q; cases q⟩
  keep := fun i h h' st k => by
    obtain ⟨⟨old, he⟩, hi, r⟩ := st
    exact ⟨⟨old, k e (by simp) _ he⟩, hi.at fun o q => k it (by simp) o q, r⟩
  item := by
    intro X hP hw hK hc i pins s σ H E I hf st hg
    subst hP hw hK
    obtain ⟨⟨old, he⟩, hit, hne, hai, hea⟩ := st
    obtain ⟨xs, x, hq, hx⟩ := hg
    obtain ⟨its, rv, p, hz⟩ := I.tuple hq
    obtain ⟨u, hu, ru⟩ := rv.get hx
    have hel : e < s.heap.objs.size := Heap.lt_size he
    have hil : it < s.heap.objs.size := by obtain ⟨_, q, _⟩ := hit; exact Heap.lt_size q
    have pT : s.heap.IsTuple a its.toArray := p
    have lt : i < its.toArray.size := by have := (List.getElem?_eq_some_iff.mp hu).1; simpa using this
    refine wpAny_pyNext_enum_itemD (Draws.tuple (A := X.A.in1) (I.ok.hd hc) it a hai its.toArray) he ⟨hit, pT⟩ lt hne (by simp only [List.mem_cons, List.not_mem_nil, or_false, not_or]; exact ⟨hne, hea⟩) fun u' h' tk hPx ho hst' hT hsz hk => ?_
    have eu : u' = u := by
      have z : its.toArray[i]? = some u := by simpa using hu
      rw [z] at hPx
      exact (Option.some.inj hPx).symm
    subst eu
    refine ⟨_, rfl, wpAny_letOwnedTupleGo_enum (s := { s with heap := h', toks := tk + 1 }) ho fun h'' he' sb => ?_⟩
    have hT2 : h''.get? s.heap.objs.size = some { cls := .type "tuple", data := .seq #[.int i tk, u'] } := (sb.2 _ (Nat.ne_of_gt hel)).trans hT
    have new : ObjOk X.prog X.w (upd H s.heap.objs.size (.tup [.int (i : Nat), x])) h'' s.heap.objs.size (.tup [.int (i : Nat), x]) :=
      ⟨by show 2 ≤ sizeLine; decide, [.int i tk, u'], .cons ⟨_, rfl⟩ (.cons ru .nil), ⟨_, hT2, rfl, _, rfl⟩⟩
    have I1 : Inv X pins σ (upd H s.heap.objs.size (.tup [.int (i : Nat), x])) { s with heap := h'', toks := tk + 1 } :=
      I.turnedNew (ch := [e, it]) (fun b ob hb q => (sb.2 b (fun z => hb (by simp [z]))).trans (hk b ob (fun z => hb (by simp [z])) (fun z => hb (by simp [z])) q)) hf (Nat.le_refl _) new
    refine ⟨.ref s.heap.objs.size, _, I1, rfl, ⟨_, x, rfl, I.hok.fresh (Nat.le_refl _), rfl, fun ys hy => by rw [I.tuple_inj hy hq]; exact hx⟩, ⟨⟨u', ?_⟩, hst'.1.at fun o q => (sb.2 it (Ne.symm hne)).trans q, hne, hai, hea⟩, fun b hb => ?_⟩
    · have e1 : ((i + 1 : Nat) : Int) = (i : Int) + 1 := by omega
      rw [e1]
      exact he'
    · have hb' : b < s.heap.objs.size := by
        rcases List.mem_cons.mp hb with z | z
        · rw [z]; exact hel
        · rw [List.mem_singleton.mp z]; exact hil
      rw [upd_ne (Nat.ne_of_lt hb')]
      exact (hf b hb).1
  done := by
    intro X hP hw hK hc i pins s σ H E I hf st hg
    subst hP hw hK
    obtain ⟨⟨old, he⟩, hit, hne, hai, hea⟩ := st
    obtain ⟨xs, hq, hx⟩ := hg
    obtain ⟨its, rv, p, hz⟩ := I.tuple hq
    have hl := rv.length
    obtain ⟨f0, f1, f2, f3, f4, f5⟩ := hf it (by simp)
    have pT : s.heap.IsTuple a its.toArray := p
    have hn : its.toArray[i]? = none := by simp; omega
    have hT : s.TypeIs (.ref e) "enumerate" := ⟨_, he, rfl⟩
    unfold pyNext
    refine wpAny_bind (wpAny_attempt (wpAny_callSpecial?_slot (name := Str.ofString "__next__") hT PySem.F.slot_enumerate_next
      (wpAny_call_entry PySem.F.slot_enumerate_next hT PySem.F.entry_enumerate_next ?_ (PySem.F.args_enumerate_next_1 _))))
    show wpAny _ _ (field (.ref e) 2 >>= _) _ _ _
    refine wpAny_bind (wpAny_field he rfl (x := .ref it) rfl ?_)
    refine wpAny_bind (wpAny_nextOf_tuple_end (A := X.A.in1) (I.ok.hd hc) hit pT hn fun h' x he' hx' => ?_)
    obtain ⟨o, ho, hc'⟩ := hx'
    refine wpAny_bind (wpAny_isInstance (T := "StopIteration") (b := true) ⟨o, ho, hc'⟩ isSubtype_stop ?_)
    exact wpAny_pure ⟨rfl, I.turned (t' := s.toks) (fun b o hb q => he' b o hb q) f0 f1 f3 f4 f5⟩
  self := fun A i s Q E st h => by
    obtain ⟨⟨_, he⟩, _⟩ := st
    exact wpAny_pyIter_enum he h
def iEnumT (K : PySem.W.Frag) (ta : TA) : TI := fun σ H R => ta σ H fun vs H1 => ∃ a xs, vs = [.ref a] ∧ SqT K H1 a xs ∧ R (IteT K a) H1
theorem pi_enumT {X : Cx} {e : Expr} {ta : TA} {p pos tpos : Pos} {elts : List Expr} {kk : Nat} (hg : Gl X "enumerate") (hm : X.mg "enumerate" = none) (ha : PA X [e] ta) (hs : starEach [e] X.env = [(false, eval e X.env)] := by rfl) :
    PI X (.Tuple elts kk tpos) (.Call (.Name "enumerate" p) [e] [] pos) (iEnumT X.K ta) := by
  refine ⟨fun pins s σ H R I h => ?_⟩
  refine Call_ (ld_blt I hg hm boot_enumerate (PyProof.Rows.callWith_type1 (thn (ha.run pos pins s σ H _ I h) fun us s1 ⟨vs, H1, I1, r1, q1⟩ => ?_) hs rfl))
  obtain ⟨a, xs, ex, hq, q⟩ := q1
  subst ex
  rcases r1 with _ | ⟨r, rr⟩
  cases rr
  cases r
  obtain ⟨its, rv, p', hz⟩ := I1.tuple hq
  have pT : s1.heap.IsTuple a its.toArray := p'
  have hal : a < s1.heap.objs.size := by obtain ⟨o, ho, _⟩ := pT; exact Heap.lt_size ho
  refine call_enumT pT fun h' he hit hsz hk => wpAny_pyIter_enum he ?_
  have I2 : Inv X pins σ H1 { s1 with heap := h' } := I1.kept (t' := s1.toks) hk
  refine ⟨s1.heap.objs.size + 1, [s1.heap.objs.size + 1, s1.heap.objs.size], _, _, H1, rfl, I2, turn_enumT a (s1.heap.objs.size + 1) s1.heap.objs.size, ⟨⟨.none, he⟩, hit, Nat.succ_ne_self _, Nat.ne_of_lt hal, Nat.ne_of_gt (Nat.lt_succ_of_lt hal)⟩, fun b hb => ?_, q⟩
  have hle : s1.heap.objs.size ≤ b := by
    rcases List.mem_cons.mp hb with z | z
    · rw [z]; exact Nat.le_succ _
    · rw [List.mem_singleton.mp z]; exact Nat.le_refl _
  exact I1.fpOk hle (I1.hok.fresh hle)
end EN
/-! data as trees, and how the heap bears them -/
namespace FW
open PySem PySem.Spec PyProof.Rows L2 GxR

inductive T where
  | non | bl (b : Bool) | int (i : Int) | str (s : Str) | tup (l : List T) | lst (l : List T) | dct

mutual
/-- the value v is the tree; no list of it stands at an address of N -/
def Den (K : PySem.W.Frag) (N : Addr → Prop) (H : Hp) : T → V → Prop
  | .non, v => v = .non
  | .bl b, v => v = .bl b
  | .int i, v => v = .int i
  | .str s, v => v = .str s ∧ s.length ≤ sizeLine
  | .tup ts, v => ∃ a xs, v = .ref a ∧ SqT K H a xs ∧ DenL K N H ts xs
  | .lst ts, v => ∃ a xs, v = .ref a ∧ H a = some (.lst xs) ∧ ¬ N a ∧ DenL K N H ts xs
  | .dct, v => ∃ a, v = .ref a ∧ H a = some (.dK []) ∧ ¬ N a
def DenL (K : PySem.W.Frag) (N : Addr → Prop) (H : Hp) : List T → List V → Prop
  | [], xs => xs = []
  | t :: ts, xs => ∃ x r, xs = x :: r ∧ Den K N H t x ∧ DenL K N H ts r
end

/-- all but the tables and what stands at N is as it was -/
structure Kp (N : Addr → Prop) (H H' : Hp) : Prop where
  keep : ∀ a o, H a = some o → (∀ q, o ≠ .tbl q) → ¬ N a → H' a = some o
  tups : ∀ a xs, H a = some (.tup xs) → H' a = some (.tup xs)
  frz : ∀ a o u, H a = some (.frz o u) → H' a = some (.frz o u)
  stay : ∀ a, H' a = none → H a = none
def TOk (cs : List (Addr × Addr)) (H : Hp) : Prop := ∀ p ∈ cs, TabG H p.2
structure Ex (cs : List (Addr × Addr)) (N : Addr → Prop) (H H' : Hp) : Prop extends Kp N H H' where
  tok : TOk cs H'
abbrev N0 : Addr → Prop := fun _ => False
abbrev N1 (S : Addr) : Addr → Prop := fun a => a = S

section
variable {K : PySem.W.Frag} {N N' : Addr → Prop} {cs : List (Addr × Addr)} {H H' H1 H2 : Hp} {a p : Addr} {o u : HO} {xs ys : List V} {v x : V} {t : T} {ts : List T}
theorem Kp.refl : Kp N H H := ⟨fun _ _ e _ _ => e, fun _ _ e => e, fun _ _ _ e => e, fun _ e => e⟩
theorem Kp.trans (x : Kp N H H1) (y : Kp N H1 H2) : Kp N H H2 :=
  ⟨fun a o e h n => y.keep a o (x.keep a o e h n) h n, fun a xs e => y.tups a xs (x.tups a xs e), fun a o u e => y.frz a o u (x.frz a o u e), fun a e => x.stay a (y.stay a e)⟩
theorem Kp.mono (x : Kp N H H') (h : ∀ a, N a → N' a) : Kp N' H H' := ⟨fun a o e q n => x.keep a o e q fun z => n (h a z), x.tups, x.frz, x.stay⟩
theorem Kp.new (e : H p = none) : Kp N H (upd H p o) :=
  ⟨fun a o e1 _ _ => by rw [upd_ne (ne_of_none e1 e)]; exact e1, fun a xs e1 => by rw [upd_ne (ne_of_none e1 e)]; exact e1, fun a o u e1 => by rw [upd_ne (ne_of_none e1 e)]; exact e1, fun a e1 => by
    by_cases z : a = p
    · rw [z]; exact e
    · rw [upd_ne z] at e1; exact e1⟩
theorem Kp.put (e : H p = some (.lst xs)) (n : N p) : Kp N H (upd H p o) :=
  ⟨fun a o e1 _ h => by rw [upd_ne (fun z => h (by rw [z]; exact n))]; exact e1, fun a xs e1 => by rw [upd_ne (ne_of e1 e (by intro z; cases z))]; exact e1, fun a o u e1 => by rw [upd_ne (ne_of e1 e (by intro z; cases z))]; exact e1, fun a e1 => by
    by_cases z : a = p
    · rw [z, upd_same] at e1; cases e1
    · rw [upd_ne z] at e1; exact e1⟩
theorem TOk.new (k : TOk cs H) (e : H p = none) : TOk cs (upd H p o) := fun q hq => by
  obtain ⟨ps, e1, e2⟩ := k q hq
  exact ⟨ps, by rw [upd_ne (ne_of_none e1 e)]; exact e1, e2⟩
theorem TOk.put (k : TOk cs H) (e : H p = some u) (h : ∀ q, u ≠ .tbl q) : TOk cs (upd H p o) := fun q hq => by
  obtain ⟨ps, e1, e2⟩ := k q hq
  exact ⟨ps, by rw [upd_ne (ne_of e1 e fun z => h ps z.symm)]; exact e1, e2⟩
theorem Ex.refl (k : TOk cs H) : Ex cs N H H := ⟨Kp.refl, k⟩
theorem Ex.trans (x : Ex cs N H H1) (y : Ex cs N H1 H2) : Ex cs N H H2 := ⟨x.toKp.trans y.toKp, y.tok⟩
theorem Ex.mono (x : Ex cs N H H') (h : ∀ a, N a → N' a) : Ex cs N' H H' := ⟨x.toKp.mono h, x.tok⟩
theorem Ex.of0 (x : Ex cs N0 H H') : Ex cs N H H' := x.mono fun _ z => z.elim
theorem Ex.new (k : TOk cs H) (e : H p = none) : Ex cs N H (upd H p o) := ⟨Kp.new e, k.new e⟩
theorem Ex.tab {q : Addr × Addr} (k : TOk cs H) (hq : q ∈ cs) (h : Tabbed q.2 H H') : Ex cs N H H' := by
  obtain ⟨ps, e1, e2⟩ := k q hq
  have ne : ∀ b o, H b = some o → (∀ r, o ≠ .tbl r) → b ≠ q.2 := fun b o e n z => by rw [z, e1] at e; cases e; exact n ps rfl
  refine ⟨⟨fun b o e n _ => by rw [h.2 b (ne b o e n)]; exact e, fun b xs e => ?_, fun b o u e => ?_, fun b e => ?_⟩, fun r hr => ?_⟩
  · rw [h.2 b (ne b _ e fun r z => by cases z)]; exact e
  · rw [h.2 b (ne b _ e fun r z => by cases z)]; exact e
  · by_cases z : b = q.2
    · obtain ⟨ps', e3, _⟩ := h.1
      rw [z, e3] at e; cases e
    · rw [h.2 b z] at e; exact e
  · by_cases z : r.2 = q.2
    · rw [z]; exact h.1
    · obtain ⟨ps', e3, e4⟩ := k r hr
      exact ⟨ps', by rw [h.2 _ z]; exact e3, e4⟩
theorem Kp.sqT (k : Kp N H H') (h : SqT K H a xs) : SqT K H' a xs := by
  rcases h with (h | ⟨o, h⟩) | h
  · exact .inl (.inl (k.tups _ _ h))
  · exact .inl (.inr ⟨o, k.frz _ _ _ h⟩)
  · exact .inr h
theorem Kp.sqL (k : Kp N H H') (h : SqL K H a xs) (n : ¬ N a) : SqL K H' a xs := by
  rcases h with (h | ⟨o, h⟩) | h
  · exact .inl (.inl (k.keep _ _ h (fun q z => by cases z) n))
  · exact .inl (.inr ⟨o, k.frz _ _ _ h⟩)
  · exact .inr h
mutual
theorem Den.kp (k : Kp N H H') : ∀ (t : T) (v : V), Den K N H t v → Den K N H' t v
  | .non, v, h => by unfold Den at h ⊢; exact h
  | .bl b, v, h => by unfold Den at h ⊢; exact h
  | .int i, v, h => by unfold Den at h ⊢; exact h
  | .str s, v, h => by unfold Den at h ⊢; exact h
  | .tup ts, v, h => by
    unfold Den at h ⊢
    obtain ⟨a, xs, e, q, r⟩ := h
    exact ⟨a, xs, e, k.sqT q, DenL.kp k ts xs r⟩
  | .lst ts, v, h => by
    unfold Den at h ⊢
    obtain ⟨a, xs, e, q, n, r⟩ := h
    exact ⟨a, xs, e, k.keep _ _ q (fun r z => by cases z) n, n, DenL.kp k ts xs r⟩
  | .dct, v, h => by
    unfold Den at h ⊢
    obtain ⟨a, e, q, n⟩ := h
    exact ⟨a, e, k.keep _ _ q (fun r z => by cases z) n, n⟩
theorem DenL.kp (k : Kp N H H') : ∀ (ts : List T) (xs : List V), DenL K N H ts xs → DenL K N H' ts xs
  | [], xs, h => by unfold DenL at h ⊢; exact h
  | t :: ts, xs, h => by
    unfold DenL at h ⊢
    obtain ⟨x, r, e, h1, h2⟩ := h
    exact ⟨x, r, e, Den.kp k t x h1, DenL.kp k ts r h2⟩
end
mutual
theorem Den.less (k : ∀ a, N' a → N a) : ∀ (t : T) (v : V), Den K N H t v → Den K N' H t v
  | .non, v, h => by unfold Den at h ⊢; exact h
  | .bl b, v, h => by unfold Den at h ⊢; exact h
  | .int i, v, h => by unfold Den at h ⊢; exact h
  | .str s, v, h => by unfold Den at h ⊢; exact h
  | .tup ts, v, h => by
    unfold Den at h ⊢
    obtain ⟨a, xs, e, q, r⟩ := h
    exact ⟨a, xs, e, q, DenL.less k ts xs r⟩
  | .lst ts, v, h => by
    unfold Den at h ⊢
    obtain ⟨a, xs, e, q, n, r⟩ := h
    exact ⟨a, xs, e, q, fun z => n (k a z), DenL.less k ts xs r⟩
  | .dct, v, h => by
    unfold Den at h ⊢
    obtain ⟨a, e, q, n⟩ := h
    exact ⟨a, e, q, fun z => n (k a z)⟩
theorem DenL.less (k : ∀ a, N' a → N a) : ∀ (ts : List T) (xs : List V), DenL K N H ts xs → DenL K N' H ts xs
  | [], xs, h => by unfold DenL at h ⊢; exact h
  | t :: ts, xs, h => by
    unfold DenL at h ⊢
    obtain ⟨x, r, e, h1, h2⟩ := h
    exact ⟨x, r, e, Den.less k t x h1, DenL.less k ts r h2⟩
end
mutual
/-- nothing of it stands at a free address -/
theorem Den.avoid (k : ∀ a, N' a → N a ∨ H a = none) : ∀ (t : T) (v : V), Den K N H t v → Den K N' H t v
  | .non, v, h => by unfold Den at h ⊢; exact h
  | .bl b, v, h => by unfold Den at h ⊢; exact h
  | .int i, v, h => by unfold Den at h ⊢; exact h
  | .str s, v, h => by unfold Den at h ⊢; exact h
  | .tup ts, v, h => by
    unfold Den at h ⊢
    obtain ⟨a, xs, e, q, r⟩ := h
    exact ⟨a, xs, e, q, DenL.avoid k ts xs r⟩
  | .lst ts, v, h => by
    unfold Den at h ⊢
    obtain ⟨a, xs, e, q, n, r⟩ := h
    refine ⟨a, xs, e, q, fun z => ?_, DenL.avoid k ts xs r⟩
    rcases k a z with z | z
    · exact n z
    · rw [q] at z; cases z
  | .dct, v, h => by
    unfold Den at h ⊢
    obtain ⟨a, e, q, n⟩ := h
    refine ⟨a, e, q, fun z => ?_⟩
    rcases k a z with z | z
    · exact n z
    · rw [q] at z; cases z
theorem DenL.avoid (k : ∀ a, N' a → N a ∨ H a = none) : ∀ (ts : List T) (xs : List V), DenL K N H ts xs → DenL K N' H ts xs
  | [], xs, h => by unfold DenL at h ⊢; exact h
  | t :: ts, xs, h => by
    unfold DenL at h ⊢
    obtain ⟨x, r, e, h1, h2⟩ := h
    exact ⟨x, r, e, Den.avoid k t x h1, DenL.avoid k ts r h2⟩
end
theorem Den.ex (e : Ex cs N H H') (h : Den K N H t v) : Den K N H' t v := Den.kp e.toKp t v h
theorem Den.ex0 (e : Ex cs N0 H H') (h : Den K N H t v) : Den K N H' t v := Den.kp (e.toKp.mono fun _ z => z.elim) t v h
theorem DenL.ex (e : Ex cs N H H') (h : DenL K N H ts xs) : DenL K N H' ts xs := DenL.kp e.toKp ts xs h
theorem DenL.ex0 (e : Ex cs N0 H H') (h : DenL K N H ts xs) : DenL K N H' ts xs := DenL.kp (e.toKp.mono fun _ z => z.elim) ts xs h
theorem DenL.len : ∀ {ts : List T} {xs : List V}, DenL K N H ts xs → xs.length = ts.length
  | [], xs, h => by unfold DenL at h; rw [h]; rfl
  | t :: ts, xs, h => by
    unfold DenL at h
    obtain ⟨x, r, rfl, _, h2⟩ := h
    rw [List.length_cons, List.length_cons, DenL.len h2]
theorem DenL.get : ∀ {ts : List T} {xs : List V} {i : Nat} {x : V}, DenL K N H ts xs → xs[i]? = some x → ∃ t, ts[i]? = some t ∧ Den K N H t x
  | [], xs, i, x, h, e => by unfold DenL at h; subst h; simp at e
  | t :: ts, xs, i, x, h, e => by
    unfold DenL at h
    obtain ⟨y, r, rfl, h1, h2⟩ := h
    cases i with
    | zero => simp at e; subst e; exact ⟨t, rfl, h1⟩
    | succ i => simp at e; obtain ⟨t', e1, e2⟩ := DenL.get h2 e; exact ⟨t', by simpa using e1, e2⟩
theorem DenL.get' : ∀ {ts : List T} {xs : List V} {i : Nat} {t : T}, DenL K N H ts xs → ts[i]? = some t → ∃ x, xs[i]? = some x ∧ Den K N H t x
  | [], xs, i, t, h, e => by simp at e
  | t :: ts, xs, i, u, h, e => by
    unfold DenL at h
    obtain ⟨y, r, rfl, h1, h2⟩ := h
    cases i with
    | zero => simp at e; subst e; exact ⟨y, rfl, h1⟩
    | succ i => simp at e; obtain ⟨t', e1, e2⟩ := DenL.get' h2 e; exact ⟨t', by simpa using e1, e2⟩
theorem DenL.nil : DenL K N H [] [] := by unfold DenL; rfl
theorem DenL.cons (h : Den K N H t v) (r : DenL K N H ts xs) : DenL K N H (t :: ts) (v :: xs) := by unfold DenL; exact ⟨v, xs, rfl, h, r⟩
theorem DenL.append : ∀ {ts us : List T} {xs ys : List V}, DenL K N H ts xs → DenL K N H us ys → DenL K N H (ts ++ us) (xs ++ ys)
  | [], us, xs, ys, h, r => by unfold DenL at h; subst h; exact r
  | t :: ts, us, xs, ys, h, r => by
    unfold DenL at h
    obtain ⟨x, z, rfl, h1, h2⟩ := h
    exact DenL.cons h1 (DenL.append h2 r)
theorem Den.int_ (i : Int) : Den K N H (.int i) (.int i) := by unfold Den; rfl
theorem Den.bl_ (b : Bool) : Den K N H (.bl b) (.bl b) := by unfold Den; rfl
theorem Den.str_ (s : Str) (h : s.length ≤ sizeLine) : Den K N H (.str s) (.str s) := by unfold Den; exact ⟨rfl, h⟩
theorem Den.non_ : Den K N H .non .non := by unfold Den; rfl
theorem Den.tup_ (h : SqT K H a xs) (r : DenL K N H ts xs) : Den K N H (.tup ts) (.ref a) := by unfold Den; exact ⟨a, xs, rfl, h, r⟩
theorem Den.lst_ (h : H a = some (.lst xs)) (n : ¬ N a) (r : DenL K N H ts xs) : Den K N H (.lst ts) (.ref a) := by unfold Den; exact ⟨a, xs, rfl, h, n, r⟩
theorem Den.dct_ (h : H a = some (.dK [])) (n : ¬ N a) : Den K N H .dct (.ref a) := by unfold Den; exact ⟨a, rfl, h, n⟩

/-! ### isinstance -/
def tyName : T → String
  | .non => "NoneType" | .bl _ => "bool" | .int _ => "int" | .str _ => "str" | .tup _ => "tuple" | .lst _ => "list" | .dct => "dict"
theorem Den.tyx (h : Den K N H t v) : TyX K H v (.type (tyName t)) := by
  cases t with
  | non => unfold Den at h; subst h; exact .base .non
  | bl b => unfold Den at h; subst h; exact .base (.bl b)
  | int i => unfold Den at h; subst h; exact .base (.int i)
  | str s => unfold Den at h; obtain ⟨rfl, _⟩ := h; exact .base (.str s)
  | tup ts =>
    unfold Den at h
    obtain ⟨a, xs, rfl, q, _⟩ := h
    rcases q with (q | ⟨o, q⟩) | ⟨o, vs, n, q, c, r⟩
    · exact .base (.tup q)
    · exact .fTuple q
    · exact .kTuple q c
  | lst ts =>
    unfold Den at h
    obtain ⟨a, xs, rfl, q, _⟩ := h
    exact .base (.lst q)
  | dct =>
    unfold Den at h
    obtain ⟨a, rfl, q, _⟩ := h
    exact .base (.dK q)
def isiB (t : T) (b : String) : Bool := (kitB (tyName t) b).getD false
theorem isi {Q : VK} (h : Den K N H t v) {b : String} (hb : (kitB (tyName t) b).isSome = true) (q : Q (.bl (isiB t b)) H) : rIsi K [v, .ty b] H Q := by
  obtain ⟨r, e⟩ := Option.isSome_iff_exists.mp hb
  have e2 : isiB t b = r := by unfold isiB; rw [e]; rfl
  rw [e2] at q
  exact ⟨v, .ty b, _, _, _, rfl, .ty b, h.tyx, kit_ty e, q⟩
theorem kb_NoneType_int : kitB "NoneType" "int" = some false := by decide +kernel
theorem kb_bool_int : kitB "bool" "int" = some true := by decide +kernel
theorem kb_int_int : kitB "int" "int" = some true := by decide +kernel
theorem kb_str_int : kitB "str" "int" = some false := by decide +kernel
theorem kb_tuple_int : kitB "tuple" "int" = some false := by decide +kernel
theorem kb_list_int : kitB "list" "int" = some false := by decide +kernel
theorem kb_dict_int : kitB "dict" "int" = some false := by decide +kernel
theorem kb_NoneType_bool : kitB "NoneType" "bool" = some false := by decide +kernel
theorem kb_bool_bool : kitB "bool" "bool" = some true := by decide +kernel
theorem kb_int_bool : kitB "int" "bool" = some false := by decide +kernel
theorem kb_str_bool : kitB "str" "bool" = some false := by decide +kernel
theorem kb_tuple_bool : kitB "tuple" "bool" = some false := by decide +kernel
theorem kb_list_bool : kitB "list" "bool" = some false := by decide +kernel
theorem kb_dict_bool : kitB "dict" "bool" = some false := by decide +kernel
theorem kb_NoneType_str : kitB "NoneType" "str" = some false := by decide +kernel
theorem kb_bool_str : kitB "bool" "str" = some false := by decide +kernel
theorem kb_int_str : kitB "int" "str" = some false := by decide +kernel
theorem kb_str_str : kitB "str" "str" = some true := by decide +kernel
theorem kb_tuple_str : kitB "tuple" "str" = some false := by decide +kernel
theorem kb_list_str : kitB "list" "str" = some false := by decide +kernel
theorem kb_dict_str : kitB "dict" "str" = some false := by decide +kernel
theorem kb_NoneType_tuple : kitB "NoneType" "tuple" = some false := by decide +kernel
theorem kb_bool_tuple : kitB "bool" "tuple" = some false := by decide +kernel
theorem kb_int_tuple : kitB "int" "tuple" = some false := by decide +kernel
theorem kb_str_tuple : kitB "str" "tuple" = some false := by decide +kernel
theorem kb_tuple_tuple : kitB "tuple" "tuple" = some true := by decide +kernel
theorem kb_list_tuple : kitB "list" "tuple" = some false := by decide +kernel
theorem kb_dict_tuple : kitB "dict" "tuple" = some false := by decide +kernel
theorem kb_NoneType_list : kitB "NoneType" "list" = some false := by decide +kernel
theorem kb_bool_list : kitB "bool" "list" = some false := by decide +kernel
theorem kb_int_list : kitB "int" "list" = some false := by decide +kernel
theorem kb_str_list : kitB "str" "list" = some false := by decide +kernel
theorem kb_tuple_list : kitB "tuple" "list" = some false := by decide +kernel
theorem kb_list_list : kitB "list" "list" = some true := by decide +kernel
theorem kb_dict_list : kitB "dict" "list" = some false := by decide +kernel
theorem isiOk (t : T) (b : String) (h : b ∈ ["int", "bool", "str", "tuple", "list"]) : (kitB (tyName t) b).isSome = true := by
  simp only [List.mem_cons, List.not_mem_nil, or_false] at h
  rcases h with rfl | rfl | rfl | rfl | rfl <;> cases t <;> simp only [tyName, kb_NoneType_int, kb_NoneType_bool, kb_NoneType_str, kb_NoneType_tuple, kb_NoneType_list, kb_bool_int, kb_bool_bool, kb_bool_str, kb_bool_tuple, kb_bool_list, kb_int_int, kb_int_bool, kb_int_str, kb_int_tuple, kb_int_list, kb_str_int, kb_str_bool, kb_str_str, kb_str_tuple, kb_str_list, kb_tuple_int, kb_tuple_bool, kb_tuple_str, kb_tuple_tuple, kb_tuple_list, kb_list_int, kb_list_bool, kb_list_str, kb_list_tuple, kb_list_list, kb_dict_int, kb_dict_bool, kb_dict_str, kb_dict_tuple, kb_dict_list, Option.isSome_some]
theorem isi_int (t : T) : isiB t "int" = match t with | .int _ => true | .bl _ => true | _ => false := by
  cases t <;> simp only [isiB, tyName, kb_NoneType_int, kb_bool_int, kb_int_int, kb_str_int, kb_tuple_int, kb_list_int, kb_dict_int, Option.getD_some]
theorem isi_bool (t : T) : isiB t "bool" = match t with | .bl _ => true | _ => false := by
  cases t <;> simp only [isiB, tyName, kb_NoneType_bool, kb_bool_bool, kb_int_bool, kb_str_bool, kb_tuple_bool, kb_list_bool, kb_dict_bool, Option.getD_some]
theorem isi_str (t : T) : isiB t "str" = match t with | .str _ => true | _ => false := by
  cases t <;> simp only [isiB, tyName, kb_NoneType_str, kb_bool_str, kb_int_str, kb_str_str, kb_tuple_str, kb_list_str, kb_dict_str, Option.getD_some]
theorem isi_tuple (t : T) : isiB t "tuple" = match t with | .tup _ => true | _ => false := by
  cases t <;> simp only [isiB, tyName, kb_NoneType_tuple, kb_bool_tuple, kb_int_tuple, kb_str_tuple, kb_tuple_tuple, kb_list_tuple, kb_dict_tuple, Option.getD_some]
theorem isi_list (t : T) : isiB t "list" = match t with | .lst _ => true | _ => false := by
  cases t <;> simp only [isiB, tyName, kb_NoneType_list, kb_bool_list, kb_int_list, kb_str_list, kb_tuple_list, kb_list_list, kb_dict_list, Option.getD_some]
theorem isiKit {K : PySem.W.Frag} (t : T) (b : String) (h : b ∈ ["int", "bool", "str", "tuple", "list"] := by decide) : PySem.W.kitOne K (.type (tyName t)) (.type b) = some (isiB t b) := by
  obtain ⟨r, e⟩ := Option.isSome_iff_exists.mp (isiOk t b h)
  have e2 : isiB t b = r := by unfold isiB; rw [e]; rfl
  rw [e2]
  exact kit_ty e
end
end FW
namespace FW
open PySem PySem.Spec PyProof.Rows L2 GxR GA

/-- a def that stands, its code object at c -/
structure FunC (K : PySem.W.Frag) (x qual : Str) (st : Stmt) (f : Addr) (fd : FuncData) (c : Addr) : Prop where
  ex : ∃ (oc : Value) (od : Option Addr) (kV doc pm : Value) (an : Option Addr) (ct : Value) (osl : Array (Option Value)),
    fd = PySem.W.fnOf x qual (defArgs st) (defBody st) (defScope st) .none kV doc pm an (.ref c) ct ∧ K.lookup f = some ⟨oc, od, .func fd, osl⟩ ∧ PySem.W.codeIn K (.ref c) qual = true
  kp : PySem.W.keepIn K (.ref f) = true
section
variable {P : Program} {w : World} {K : PySem.W.Frag} {mg : Str → Option Value} {base : Heap}
theorem FunC.ok {x qual : Str} {st : Stmt} {f c : Addr} {fd : FuncData} {N ps : List Str} {k : Nat} {sp : Sp} (F : FunC K x qual st f fd c) (S : FnScope N ps (defScope st)) (len : ∀ vs H Q E, sp vs H Q E → vs.length = ps.length)
    (hbody : ∀ (A : Around) (outer : List Env) (s : Shared) (H : Hp) (vs : List V) (Q : VK) (E : XK), Room k (A.deeper (envOfC qual (defScope st) s.heap.objs.size f (.ref c))) → sp vs H Q E →
      ∃ t, PSs (cxOf CX0 P w K mg base N qual (defScope st) f (.ref c) A outer s H E).nox (defBody st) t ∧ t { nx := fun _ H' => Q .non H', rt := Q } (start N vs) H) : FnOk P w K mg base CX0 (k + 1) f fd ps sp := by
  obtain ⟨oc, od, kV, doc, pm, an, ct, osl, rfl, lk, hcd⟩ := F.ex
  refine fn_of lk hcd S len fun A outer s H vs Q E hr hsp => ?_
  obtain ⟨t, h, q⟩ := hbody A outer s H vs Q E hr hsp
  exact ⟨t, h.nox, q⟩
end

section
variable {K : PySem.W.Frag} {N : Addr → Prop} {cs : List (Addr × Addr)} {a : Addr} {xs : List V} {ts : List T} {g : TG} {te : TE} {vs : List Nat} {σ : L2.St} {H2 : Hp} {Q : VK}
/-- all(..) over a tuple of trees, the test a mirror r -/
theorem all_den (r : T → Bool) (hS : SqT K H2 a xs) (hD : DenL K N H2 ts xs) (tok : TOk cs H2)
    (hs : ∀ x t H, t ∈ ts → Den K N H t x → TOk cs H → ∀ Q' : VK, (∀ H', Ex cs N0 H H' → Q' (.bl (r t)) H') → g x (wipe σ vs) H fun σ2 H3 => wipe σ2 vs = wipe σ vs ∧ te σ2 H3 Q')

    (k : ∀ H', Ex cs N0 H2 H' → Q (.bl (ts.all r)) H') : ∃ W : Nat → Nat → Hp → Prop, (∃ m, W 0 m H2) ∧ AllTurn (Itt K a) g te vs σ Q W := by
  have hlen := hD.len
  refine ⟨fun i m H => m = xs.length - i ∧ i ≤ xs.length ∧ Ex cs N0 H2 H ∧ (ts.take i).all r = true, ⟨xs.length, by simp, Nat.zero_le _, Ex.refl tok, by simp⟩, ?_⟩
  rintro i m H ⟨rfl, hi, e, ha⟩
  have q := (e.toKp.mono (N' := N) fun _ z => z.elim).sqT hS
  by_cases hlt : i < xs.length
  · refine .inr ⟨⟨xs, xs[i], q, by simp [hlt]⟩, fun x H' y => ?_⟩
    obtain ⟨rfl, y⟩ := y
    obtain ⟨t, ht, hdt⟩ := (hD.ex0 e).get (y xs q)
    refine hs x t _ (List.mem_of_getElem? ht) hdt e.tok _ fun H' e' => ⟨r t, rfl, ?_⟩
    have tk : ts.take (i + 1) = ts.take i ++ [t] := by rw [List.take_add_one, ht]; rfl
    refine ite2 (fun c => ⟨xs.length - (i + 1), by omega, rfl, hlt, e.trans e', by rw [tk, List.all_append, ha, List.all_cons, c]; rfl⟩) fun c => ?_
    have c : r t = false := by rw [Bool.not_eq_true] at c; exact c
    have := k H' (e.trans e')
    have al : ts.all r = false := by
      rw [← List.take_append_drop (i + 1) ts, tk, List.all_append, List.all_append, List.all_cons, c]
      simp
    rw [al] at this
    exact this
  · have e1 : i = xs.length := by omega
    subst e1
    refine .inl ⟨⟨xs, q, Nat.le_refl _⟩, ?_⟩
    have := k H e
    rw [hlen, List.take_length] at ha
    rw [ha] at this
    exact this
/-- all(..) over the signs of a text, nothing else happens -/
theorem all_signs {x : Str} (r : Nat → Bool)
    (hs : ∀ c (Q' : VK), Q' (.bl (r c)) H2 → g (.str ⟨#[c]⟩) (wipe σ vs) H2 fun σ2 H3 => wipe σ2 vs = wipe σ vs ∧ te σ2 H3 Q')
    (k : Q (.bl (x.cps.toList.all r)) H2) : ∃ W : Nat → Nat → Hp → Prop, (∃ m, W 0 m H2) ∧ AllTurn (Its x) g te vs σ Q W := by
  have hsz : x.cps.toList.length = x.cps.size := by simp
  refine ⟨fun i m H => H = H2 ∧ m = x.cps.size - i ∧ i ≤ x.cps.size ∧ (x.cps.toList.take i).all r = true, ⟨x.cps.size, rfl, by simp, Nat.zero_le _, by simp⟩, ?_⟩
  rintro i m H ⟨rfl, rfl, hi, ha⟩
  by_cases hlt : i < x.cps.size
  · refine .inr ⟨hlt, fun v H' y => ?_⟩
    obtain ⟨rfl, c, hc, rfl⟩ := y
    refine hs c _ ⟨r c, rfl, ?_⟩
    have hc' : x.cps.toList[i]? = some c := by simpa using hc
    have tk : x.cps.toList.take (i + 1) = x.cps.toList.take i ++ [c] := by rw [List.take_add_one, hc']; rfl
    refine ite2 (fun z => ⟨x.cps.size - (i + 1), by omega, rfl, rfl, hlt, by rw [tk, List.all_append, ha, List.all_cons, z]; rfl⟩) fun z => ?_
    have z : r c = false := by rw [Bool.not_eq_true] at z; exact z
    have al : x.cps.toList.all r = false := by
      rw [← List.take_append_drop (i + 1) x.cps.toList, tk, List.all_append, List.all_append, List.all_cons, z]
      simp
    rw [al] at k
    exact k
  · have e1 : i = x.cps.size := by omega
    subst e1
    refine .inl ⟨Nat.le_refl _, ?_⟩
    rw [← hsz, List.take_length] at ha
    rw [ha] at k
    exact k

/-- [e for x in ts], ts a tuple of trees, the item f of the tree -/
theorem lc_map {D : Addr} {Qd : Hp → Prop} {H1 : Hp} (f : T → V) (hS : SqT K H1 a xs) (hD : DenL K N H1 ts xs) (tok : TOk cs H1) (hn : H1 D = none) (hl : ts.length < sizeLine)
    (hs : ∀ x t H acc, t ∈ ts → Den K (fun b => N b ∨ b = D) H t x → TOk cs H → H D = some (.lst acc) → Kp (N1 D) H1 H → ∀ Q' : VK, (∀ H', Ex cs N0 H H' → Q' (f t) H') → g x (wipe σ vs) H fun σ2 H3 => wipe σ2 vs = wipe σ vs ∧ te σ2 H3 Q')
    (hd : ∀ H', TOk cs H' → Kp N0 H1 H' → H' D = some (.lst (ts.map f)) → Qd H') :
    ∃ W : Nat → Nat → Hp → Prop, (∃ m, W 0 m (upd H1 D (.lst []))) ∧ ∀ i m H, W i m H →
      ((Itt K a).stop i H ∧ Qd H) ∨ ((Itt K a).go i H ∧ ∃ Nx : Hp → Prop, (∀ H', Nx H' → ∃ m', m' < m ∧ W (i + 1) m' H') ∧ ∀ x H', (Itt K a).yld i H x H' → g x (wipe σ vs) H' fun σ2 H2 => wipe σ2 vs = wipe σ vs ∧ tYes σ2 H2 fun b H3 =>
        if b = true then te σ2 H3 fun y H4 => ∃ acc, H4 D = some (.lst acc) ∧ acc.length < sizeLine ∧ Nx (upd H4 D (.lst (acc ++ [y]))) else Nx H3) := by
  have hlen := hD.len
  have hD' : DenL K (fun b => N b ∨ b = D) H1 ts xs := DenL.avoid (fun b z => z.elim .inl fun z => .inr (by rw [z]; exact hn)) _ _ hD
  have k0 : ∀ {H}, Kp (N1 D) H1 H → Kp N0 H1 H := fun k => ⟨fun b o e q _ => k.keep b o e q (fun z => by rw [show b = D from z, hn] at e; cases e), k.tups, k.frz, k.stay⟩
  refine lc_tup (K := K) (a := a) (xs := xs) (fun i H => TOk cs H ∧ Kp (N1 D) H1 H ∧ H D = some (.lst ((ts.take i).map f))) ⟨tok.new hn, Kp.new hn, upd_same⟩ (fun i H _ p => (k0 p.2.1).sqT hS) (fun i x H hx p => ?_) fun H p => ?_
  · obtain ⟨p1, p2, p3⟩ := p
    obtain ⟨t, ht, _⟩ := hD.get hx
    have hdt : Den K (fun b => N b ∨ b = D) H t x := by
      obtain ⟨t', ht', h⟩ := (DenL.kp (p2.mono fun b z => .inr z) _ _ hD').get hx
      rw [ht] at ht'
      cases ht'
      exact h
    have := hs x t H _ (List.mem_of_getElem? ht) hdt p1 p3 p2 (fun y H4 => ∃ acc, H4 D = some (.lst acc) ∧ acc.length < sizeLine ∧ (TOk cs (upd H4 D (.lst (acc ++ [y]))) ∧ Kp (N1 D) H1 (upd H4 D (.lst (acc ++ [y]))) ∧ (upd H4 D (.lst (acc ++ [y]))) D = some (.lst ((ts.take (i + 1)).map f)))) fun H' e => ?_
    · exact this
    · have e1 : H' D = some (.lst ((ts.take i).map f)) := e.keep _ _ p3 (fun q z => by cases z) fun z => z
      have hi : i < ts.length := (List.getElem?_eq_some_iff.mp ht).1
      refine ⟨_, e1, ?_, e.tok.put e1 (fun q z => by cases z), (p2.trans (e.toKp.mono fun _ z => z.elim)).trans (Kp.put e1 rfl), ?_⟩
      · rw [List.length_map, List.length_take]; omega
      · rw [upd_same, List.take_add_one, ht, List.map_append]; rfl
  · obtain ⟨p1, p2, p3⟩ := p
    rw [hlen, List.take_length] at p3
    exact hd H p1 (k0 p2) p3
end
end FW
namespace LW
open PySem PySem.Spec PyProof.Rows L2 GxR FW GA

def top (i : Nat) : Stmt := PySem.Challenge.pw_closestfit_k01_whole_signatures.main.body.getD i (.Pass ⟨0, 0, 0, 0⟩)
abbrev s_is_integer : Stmt := top 1
abbrev N_is_integer : List Str := ["value"]
abbrev P_is_integer : List Str := ["value"]
theorem sc_is_integer : FnScope N_is_integer P_is_integer (defScope s_is_integer) := ⟨rfl, rfl, rfl, by decide +kernel, rfl, by decide +kernel, by decide +kernel⟩
abbrev s_is_index : Stmt := top 2
abbrev N_is_index : List Str := ["value", "many"]
abbrev P_is_index : List Str := ["value", "many"]
theorem sc_is_index : FnScope N_is_index P_is_index (defScope s_is_index) := ⟨rfl, rfl, rfl, by decide +kernel, rfl, by decide +kernel, by decide +kernel⟩
abbrev s_is_tuple_of : Stmt := top 3
abbrev N_is_tuple_of : List Str := ["value", "least", "most"]
abbrev P_is_tuple_of : List Str := ["value", "least", "most"]
theorem sc_is_tuple_of : FnScope N_is_tuple_of P_is_tuple_of (defScope s_is_tuple_of) := ⟨rfl, rfl, rfl, by decide +kernel, rfl, by decide +kernel, by decide +kernel⟩
abbrev s_is_name : Stmt := top 8
abbrev N_is_name : List Str := ["value", "letter"]
abbrev P_is_name : List Str := ["value"]
theorem sc_is_name : FnScope N_is_name P_is_name (defScope s_is_name) := ⟨rfl, rfl, rfl, by decide +kernel, rfl, by decide +kernel, by decide +kernel⟩
abbrev s_are_parts : Stmt := top 9
abbrev N_are_parts : List Str := ["value", "many", "kind"]
abbrev P_are_parts : List Str := ["value", "many"]
theorem sc_are_parts : FnScope N_are_parts P_are_parts (defScope s_are_parts) := ⟨rfl, rfl, rfl, by decide +kernel, rfl, by decide +kernel, by decide +kernel⟩
abbrev s_is_constructor : Stmt := top 10
abbrev N_is_constructor : List Str := ["value", "many"]
abbrev P_is_constructor : List Str := ["value", "many"]
theorem sc_is_constructor : FnScope N_is_constructor P_is_constructor (defScope s_is_constructor) := ⟨rfl, rfl, rfl, by decide +kernel, rfl, by decide +kernel, by decide +kernel⟩
abbrev s_is_kind_form : Stmt := top 11
abbrev N_is_kind_form : List Str := ["value", "many", "how", "constructors", "constructor"]
abbrev P_is_kind_form : List Str := ["value", "many"]
theorem sc_is_kind_form : FnScope N_is_kind_form P_is_kind_form (defScope s_is_kind_form) := ⟨rfl, rfl, rfl, by decide +kernel, rfl, by decide +kernel, by decide +kernel⟩
abbrev s_kinds_with_values : Stmt := top 12
abbrev N_kinds_with_values : List Str := ["signature", "found", "_", "kind", "how", "constructors", "parts", "part"]
abbrev P_kinds_with_values : List Str := ["signature"]
theorem sc_kinds_with_values : FnScope N_kinds_with_values P_kinds_with_values (defScope s_kinds_with_values) := ⟨rfl, rfl, rfl, by decide +kernel, rfl, by decide +kernel, by decide +kernel⟩
abbrev s_is_signature_form : Stmt := top 13
abbrev N_is_signature_form : List Str := ["value", "many", "names", "kind", "_", "constructors", "name"]
abbrev P_is_signature_form : List Str := ["value"]
theorem sc_is_signature_form : FnScope N_is_signature_form P_is_signature_form (defScope s_is_signature_form) := ⟨rfl, rfl, rfl, by decide +kernel, rfl, by decide +kernel, by decide +kernel⟩
abbrev s_is_signature : Stmt := top 15
abbrev N_is_signature : List Str := ["value"]
abbrev P_is_signature : List Str := ["value"]
theorem sc_is_signature : FnScope N_is_signature P_is_signature (defScope s_is_signature) := ⟨rfl, rfl, rfl, by decide +kernel, rfl, by decide +kernel, by decide +kernel⟩
abbrev s__law_stream : Stmt := top 17
abbrev N__law_stream : List Str := ["script"]
abbrev P__law_stream : List Str := ["script"]
theorem sc__law_stream : FnScope N__law_stream P__law_stream (defScope s__law_stream) := ⟨rfl, rfl, rfl, by decide +kernel, rfl, by decide +kernel, by decide +kernel⟩
abbrev s__law_next : Stmt := top 18
abbrev N__law_next : List Str := ["stream", "many", "k", "cell", "digit"]
abbrev P__law_next : List Str := ["stream", "many"]
theorem sc__law_next : FnScope N__law_next P__law_next (defScope s__law_next) := ⟨rfl, rfl, rfl, by decide +kernel, rfl, by decide +kernel, by decide +kernel⟩
abbrev s__law_pick : Stmt := top 19
abbrev N__law_pick : List Str := ["stream", "rows"]
abbrev P__law_pick : List Str := ["stream", "rows"]
theorem sc__law_pick : FnScope N__law_pick P__law_pick (defScope s__law_pick) := ⟨rfl, rfl, rfl, by decide +kernel, rfl, by decide +kernel, by decide +kernel⟩
abbrev s__law_order : Stmt := top 20
abbrev N__law_order : List Str := ["stream", "many", "found", "k", "at"]
abbrev P__law_order : List Str := ["stream", "many"]
theorem sc__law_order : FnScope N__law_order P__law_order (defScope s__law_order) := ⟨rfl, rfl, rfl, by decide +kernel, rfl, by decide +kernel, by decide +kernel⟩
abbrev s__law_is_integer : Stmt := top 21
abbrev N__law_is_integer : List Str := ["actual"]
abbrev P__law_is_integer : List Str := ["actual"]
theorem sc__law_is_integer : FnScope N__law_is_integer P__law_is_integer (defScope s__law_is_integer) := ⟨rfl, rfl, rfl, by decide +kernel, rfl, by decide +kernel, by decide +kernel⟩
abbrev s__law_same : Stmt := top 22
abbrev N__law_same : List Str := ["actual", "due", "left", "turn", "one", "other", "at"]
abbrev P__law_same : List Str := ["actual", "due"]
theorem sc__law_same : FnScope N__law_same P__law_same (defScope s__law_same) := ⟨rfl, rfl, rfl, by decide +kernel, rfl, by decide +kernel, by decide +kernel⟩
abbrev s__law_word : Stmt := top 23
abbrev N__law_word : List Str := ["stream", "least", "most", "letters", "word", "at"]
abbrev P__law_word : List Str := ["stream", "least", "most"]
theorem sc__law_word : FnScope N__law_word P__law_word (defScope s__law_word) := ⟨rfl, rfl, rfl, by decide +kernel, rfl, by decide +kernel, by decide +kernel⟩
abbrev s__law_names : Stmt := top 24
abbrev N__law_names : List Str := ["stream", "many", "least", "letters", "base", "at", "turn", "found", "k", "word", "options", "letter", "option"]
abbrev P__law_names : List Str := ["stream", "many", "least"]
theorem sc__law_names : FnScope N__law_names P__law_names (defScope s__law_names) := ⟨rfl, rfl, rfl, by decide +kernel, rfl, by decide +kernel, by decide +kernel⟩
abbrev s__law_any_signature : Stmt := top 25
abbrev N__law_any_signature : List Str := ["stream", "many", "opens", "counts", "names", "good", "found", "at", "kind", "ground", "rows", "place", "menu", "parts", "turn"]
abbrev P__law_any_signature : List Str := ["stream"]
theorem sc__law_any_signature : FnScope N__law_any_signature P__law_any_signature (defScope s__law_any_signature) := ⟨rfl, rfl, rfl, by decide +kernel, rfl, by decide +kernel, by decide +kernel⟩
abbrev s__law_rich_signature : Stmt := top 26
abbrev N__law_rich_signature : List Str := ["stream", "step", "flag", "other", "names", "flags", "steps", "types", "found"]
abbrev P__law_rich_signature : List Str := ["stream"]
theorem sc__law_rich_signature : FnScope N__law_rich_signature P__law_rich_signature (defScope s__law_rich_signature) := ⟨rfl, rfl, rfl, by decide +kernel, rfl, by decide +kernel, by decide +kernel⟩
abbrev s__law_signature : Stmt := top 27
abbrev N__law_signature : List Str := ["stream"]
abbrev P__law_signature : List Str := ["stream"]
theorem sc__law_signature : FnScope N__law_signature P__law_signature (defScope s__law_signature) := ⟨rfl, rfl, rfl, by decide +kernel, rfl, by decide +kernel, by decide +kernel⟩
abbrev s__law_loose_signature : Stmt := top 28
abbrev N__law_loose_signature : List Str := ["stream", "many", "counts", "names", "found", "kind", "rows", "place", "parts", "turn"]
abbrev P__law_loose_signature : List Str := ["stream"]
theorem sc__law_loose_signature : FnScope N__law_loose_signature P__law_loose_signature (defScope s__law_loose_signature) := ⟨rfl, rfl, rfl, by decide +kernel, rfl, by decide +kernel, by decide +kernel⟩
abbrev s__law_all_have_values : Stmt := top 29
abbrev N__law_all_have_values : List Str := ["signature", "good", "turn", "kind", "name", "parts", "row", "part"]
abbrev P__law_all_have_values : List Str := ["signature"]
theorem sc__law_all_have_values : FnScope N__law_all_have_values P__law_all_have_values (defScope s__law_all_have_values) := ⟨rfl, rfl, rfl, by decide +kernel, rfl, by decide +kernel, by decide +kernel⟩
abbrev s__law_fresh : Stmt := top 30
abbrev N__law_fresh : List Str := ["signature", "used", "how", "rows", "row", "name", "letter"]
abbrev P__law_fresh : List Str := ["signature"]
theorem sc__law_fresh : FnScope N__law_fresh P__law_fresh (defScope s__law_fresh) := ⟨rfl, rfl, rfl, by decide +kernel, rfl, by decide +kernel, by decide +kernel⟩
abbrev s__law_with_kind : Stmt := top 31
abbrev N__law_with_kind : List Str := ["signature", "kind", "row"]
abbrev P__law_with_kind : List Str := ["signature", "kind", "row"]
theorem sc__law_with_kind : FnScope N__law_with_kind P__law_with_kind (defScope s__law_with_kind) := ⟨rfl, rfl, rfl, by decide +kernel, rfl, by decide +kernel, by decide +kernel⟩
abbrev s__law_put_in : Stmt := top 32
abbrev N__law_put_in : List Str := ["stream", "rows", "row", "at"]
abbrev P__law_put_in : List Str := ["stream", "rows", "row"]
theorem sc__law_put_in : FnScope N__law_put_in P__law_put_in (defScope s__law_put_in) := ⟨rfl, rfl, rfl, by decide +kernel, rfl, by decide +kernel, by decide +kernel⟩
abbrev s__law_spoilt_kind : Stmt := top 33
abbrev N__law_spoilt_kind : List Str := ["stream", "signature", "kind", "how", "rows", "names", "more", "options", "at"]
abbrev P__law_spoilt_kind : List Str := ["stream", "signature"]
theorem sc__law_spoilt_kind : FnScope N__law_spoilt_kind P__law_spoilt_kind (defScope s__law_spoilt_kind) := ⟨rfl, rfl, rfl, by decide +kernel, rfl, by decide +kernel, by decide +kernel⟩
abbrev s__law_spoilt_constructor : Stmt := top 34
abbrev N__law_spoilt_constructor : List Str := ["stream", "signature", "kind", "how", "rows", "name", "wrong", "parts", "options", "used", "other", "one", "row"]
abbrev P__law_spoilt_constructor : List Str := ["stream", "signature"]
theorem sc__law_spoilt_constructor : FnScope N__law_spoilt_constructor P__law_spoilt_constructor (defScope s__law_spoilt_constructor) := ⟨rfl, rfl, rfl, by decide +kernel, rfl, by decide +kernel, by decide +kernel⟩
abbrev s__law_spoilt : Stmt := top 35
abbrev N__law_spoilt : List Str := ["stream", "signature", "deed", "more"]
abbrev P__law_spoilt : List Str := ["stream", "signature"]
theorem sc__law_spoilt : FnScope N__law_spoilt P__law_spoilt (defScope s__law_spoilt) := ⟨rfl, rfl, rfl, by decide +kernel, rfl, by decide +kernel, by decide +kernel⟩
abbrev s_law : Stmt := top 36
abbrev N_law : List Str := ["script", "stream", "turn", "signature", "other", "loose", "deep"]
abbrev P_law : List Str := ["script"]
theorem sc_law : FnScope N_law P_law (defScope s_law) := ⟨rfl, rfl, rfl, by decide +kernel, rfl, by decide +kernel, by decide +kernel⟩
/-- the built-in names that the text reads are not the module's own -/
structure Glo (mg : Str → Option Value) : Prop where
  abs : mg "abs" = none
  all : mg "all" = none
  any : mg "any" = none
  bool : mg "bool" = none
  enumerate : mg "enumerate" = none
  int : mg "int" = none
  isinstance : mg "isinstance" = none
  len : mg "len" = none
  list : mg "list" = none
  max : mg "max" = none
  range : mg "range" = none
  set : mg "set" = none
  str : mg "str" = none
  sum : mg "sum" = none
  tuple : mg "tuple" = none
  c_MOST_CONSTRUCTORS : ∃ u, mg "MOST_CONSTRUCTORS" = some u ∧ RelV (.int 4) u
  c_MOST_KINDS : ∃ u, mg "MOST_KINDS" = some u ∧ RelV (.int 3) u
  c_MOST_PARTS : ∃ u, mg "MOST_PARTS" = some u ∧ RelV (.int 2) u
end LW
namespace LW
open PySem PySem.Spec PyProof.Rows L2 GxR FW GA

/-- a def that stands, its name, its promise -/
def Df (P : Program) (w : World) (K : PySem.W.Frag) (mg : Str → Option Value) (base : Heap) (k : Nat) (x : Str) (ps : List Str) (sp : Sp) : Prop :=
  ∃ f fd, FnOk P w K mg base CX0 k f fd ps sp ∧ mg x = some (.ref f) ∧ PySem.W.keepIn K (.ref f) = true ∧ Binds K fd ps []
section
variable {X : Cx} {k j : Nat} {x : Str} {ps : List Str} {sp : Sp} {e : Expr} {es : List Expr} {t : TA} {p pos : Pos}
theorem pe_df (D : Df X.prog X.w X.K X.mg X.base k x ps sp) (hr : Room j X.A) (ha : PA X (e :: es) t) (hk : k ≤ j := by decide) (hg : Gl X x := by rfl) (hdb : (x == ("__debug__" : Str)) = false := by decide)
    (he : starEach (e :: es) X.env = (false, eval e X.env) :: starEach es X.env := by rfl) (hpl : (backTo pos (starEach es X.env)).any (·.1) = false := by rfl) :
    PE X (.Call (.Name x p) (e :: es) [] pos) (tCall sp [] E0 t) := by
  obtain ⟨f, fd, F, m, kp, b⟩ := D
  exact pe_call F (hr.mono hk) hg m kp b .nil pass0 ha hdb he hpl
end

/-! ### the mirrors -/
def isIntT : T → Bool
  | .int _ => true
  | _ => false
def isIndexT (t : T) (n : Int) : Bool := match t with
  | .int i => decide (0 ≤ i) && decide (i < n)
  | _ => false
def isTupT (t : T) (lo hi : Int) : Bool := match t with
  | .tup l => decide (lo ≤ (l.length : Int)) && decide ((l.length : Int) ≤ hi)
  | _ => false

/-- promises of defs that read trees and hand back a bool; nothing changes but the tables -/
abbrev Fin_ (cs : List (Addr × Addr)) (H : Hp) (r : V) (Q : VK) : Prop := ∀ H', Ex cs N0 H H' → Q r H'
def spT1 (K : PySem.W.Frag) (cs : List (Addr × Addr)) (r : T → Bool) : Sp := fun vs H Q _ => ∃ v t N, vs = [v] ∧ Den K N H t v ∧ TOk cs H ∧ Fin_ cs H (.bl (r t)) Q
def spT2 (K : PySem.W.Frag) (cs : List (Addr × Addr)) (r : T → Int → Bool) : Sp := fun vs H Q _ => ∃ v t N n, vs = [v, .int n] ∧ Den K N H t v ∧ TOk cs H ∧ Fin_ cs H (.bl (r t n)) Q
def spT3 (K : PySem.W.Frag) (cs : List (Addr × Addr)) (r : T → Int → Int → Bool) : Sp := fun vs H Q _ => ∃ v t N n m, vs = [v, .int n, .int m] ∧ Den K N H t v ∧ TOk cs H ∧ Fin_ cs H (.bl (r t n m)) Q

section
variable {P : Program} {w : World} {K : PySem.W.Frag} {mg : Str → Option Value} {base : Heap} {cs : List (Addr × Addr)}
theorem ok_is_integer {f : Addr} {fd : FuncData} (F : Fun K "is_integer" "is_integer" s_is_integer f fd) (G : Glo mg) : FnOk P w K mg base CX0 1 f fd P_is_integer (spT1 K cs isIntT) := by
  refine F.ok sc_is_integer (fun vs H Q E h => ?_) (fun cdv A outer s H vs Q E hr h => ?_)
  · obtain ⟨v, t, N, rfl, _⟩ := h
    rfl
  · obtain ⟨v, t, N, rfl, hd, ho, k⟩ := h
    refine ⟨_, pss_one (ps_ret (pe_and (pe_callB call_isi (by rfl) G.isinstance (by decide +kernel) (pa_cons (pv 0) (pa_cons (pe_bltn (v := .ty "int") (by rfl) G.int (by decide +kernel) rfl) pa_nil)))
      (pe_one (pe_not (pe_callB call_isi (by rfl) G.isinstance (by decide +kernel) (pa_cons (pv 0) (pa_cons (pe_bltn (v := .ty "bool") (by rfl) G.bool (by decide +kernel) rfl) pa_nil))))))), ?_⟩
    refine ⟨v, rfl, v, .ty "int", _, _, _, rfl, .ty _, hd.tyx, isiKit t "int", _, rfl, ?_⟩
    have q := k H (Ex.refl ho)
    rw [isi_int]
    have go : ∀ b : Bool, b = (!isiB t "bool") → Q (.bl b) H → tNotV (tCB (rIsi K) (tCons (tVar 0) (tCons (tC (V.ty "bool")) tNil))) (L2.start N_is_integer [v]) H Q := fun b e q => by
      refine ⟨v, rfl, v, .ty "bool", _, _, _, rfl, .ty _, hd.tyx, isiKit t "bool", _, rfl, ?_⟩
      rw [← e]
      exact q
    cases t with
    | int i => exact iteT (go true (by rw [isi_bool]; rfl) q)
    | bl b => exact iteT (go false (by rw [isi_bool]; rfl) q)
    | _ => exact iteF q

theorem ok_is_index {f : Addr} {fd : FuncData} (F : Fun K "is_index" "is_index" s_is_index f fd) (D1 : Df P w K mg base 1 "is_integer" P_is_integer (spT1 K cs isIntT)) : FnOk P w K mg base CX0 2 f fd P_is_index (spT2 K cs isIndexT) := by
  refine F.ok sc_is_index (fun vs H Q E h => ?_) (fun cdv A outer s H vs Q E hr h => ?_)
  · obtain ⟨v, t, N, n, rfl, _⟩ := h
    rfl
  · obtain ⟨v, t, N, n, rfl, hd, ho, k⟩ := h
    refine ⟨_, pss_one (ps_ret (pe_and (pe_df D1 hr (pa_cons (pv 0) pa_nil)) (pe_one (pe_chain op_le op_lt pe_int (pv 0) (pv 1))))), ?_⟩
    refine ⟨v, rfl, v, t, N, rfl, hd, ho, fun H1 e1 => ⟨_, rfl, ?_⟩⟩
    have q := k H1 e1
    cases t with
    | int i =>
      refine iteT ?_
      unfold Den at hd
      subst hd
      have q : Q (.bl (decide (0 ≤ i) && decide (i < n))) H1 := q
      refine ⟨_, rfl, _, _, rfl, rfl, _, rfl, ite2 (fun c => ?_) fun c => ?_⟩
      · refine ⟨_, rfl, _, _, rfl, rfl, ?_⟩
        rw [c, Bool.true_and] at q
        exact q
      · unfold isIndexT at q
        rw [Bool.not_eq_true] at c
        rw [c, Bool.false_and] at q
        exact q
    | _ => exact iteF q

theorem ok_is_tuple_of {f : Addr} {fd : FuncData} (F : Fun K "is_tuple_of" "is_tuple_of" s_is_tuple_of f fd) (G : Glo mg) : FnOk P w K mg base CX0 1 f fd P_is_tuple_of (spT3 K cs isTupT) := by
  refine F.ok sc_is_tuple_of (fun vs H Q E h => ?_) (fun cdv A outer s H vs Q E hr h => ?_)
  · obtain ⟨v, t, N, n, m, rfl, _⟩ := h
    rfl
  · obtain ⟨v, t, N, n, m, rfl, hd, ho, k⟩ := h
    refine ⟨_, pss_one (ps_ret (pe_and (pe_callB call_isi (by rfl) G.isinstance (by decide +kernel) (pa_cons (pv 0) (pa_cons (pe_bltn (v := .ty "tuple") (by rfl) G.tuple (by decide +kernel) rfl) pa_nil)))
      (pe_one (pe_chain op_le op_le (pv 1) (pe_callB call_len_seq (by rfl) G.len boot_len (pa_cons (pv 0) pa_nil)) (pv 2))))), ?_⟩
    refine ⟨v, rfl, v, .ty "tuple", _, _, _, rfl, .ty _, hd.tyx, isiKit t "tuple", _, rfl, ?_⟩
    have q := k H (Ex.refl ho)
    rw [isi_tuple]
    cases t with
    | tup l =>
      refine iteT ?_
      have hl := hd
      unfold Den at hl
      obtain ⟨a, xs, rfl, hS, hD⟩ := hl
      have e := hD.len
      have q : Q (.bl (decide (n ≤ (l.length : Int)) && decide ((l.length : Int) ≤ m))) H := q
      rw [← e] at q
      refine ⟨_, rfl, _, rfl, a, xs, rfl, .inr hS, _, _, rfl, rfl, _, rfl, ite2 (fun c => ?_) fun c => ?_⟩
      · refine ⟨_, rfl, _, _, rfl, rfl, ?_⟩
        rw [c, Bool.true_and] at q
        exact q
      · rw [Bool.not_eq_true] at c
        rw [c, Bool.false_and] at q
        exact q
    | _ => exact iteF q
end
end LW
namespace LW
open PySem PySem.Spec PyProof.Rows L2 GxR FW GA

def letterB (c : Nat) : Bool := decide (97 ≤ c) && decide (c ≤ 122)
def nameB (s : Str) : Bool := decide (2 ≤ (s.length : Int)) && decide ((s.length : Int) ≤ 8) && s.cps.toList.all letterB
def isNameT : T → Bool
  | .str s => nameB s
  | _ => false
theorem letter_lo (c : Nat) : (!decide ((⟨#[c]⟩ : Str).cps.toList < ("a" : Str).cps.toList)) = decide (97 ≤ c) := by
  have e : ("a" : Str).cps.toList = [97] := by decide +kernel
  rw [e]
  show (!decide ([c] < [97])) = _
  by_cases h : 97 ≤ c
  · rw [decide_eq_true h, decide_eq_false]; rfl
    intro z
    have := (List.cons_lt_cons_iff.mp z)
    rcases this with z | ⟨_, z⟩
    · omega
    · cases z
  · rw [decide_eq_false h, decide_eq_true]; rfl
    exact List.cons_lt_cons_iff.mpr (.inl (by omega))
theorem letter_hi (c : Nat) : (!decide (("z" : Str).cps.toList < (⟨#[c]⟩ : Str).cps.toList)) = decide (c ≤ 122) := by
  have e : ("z" : Str).cps.toList = [122] := by decide +kernel
  rw [e]
  show (!decide ([122] < [c])) = _
  by_cases h : c ≤ 122
  · rw [decide_eq_true h, decide_eq_false]; rfl
    intro z
    have := (List.cons_lt_cons_iff.mp z)
    rcases this with z | ⟨_, z⟩
    · omega
    · cases z
  · rw [decide_eq_false h, decide_eq_true]; rfl
    exact List.cons_lt_cons_iff.mpr (.inl (by omega))

section
variable {P : Program} {w : World} {K : PySem.W.Frag} {mg : Str → Option Value} {base : Heap} {cs : List (Addr × Addr)}
theorem ok_is_name {f c q : Addr} {fd : FuncData} (F : FunC K "is_name" "is_name" s_is_name f fd c) (TB : TabB base mg c q) (hcs : (c, q) ∈ cs) (G : Glo mg) : FnOk P w K mg base CX0 6 f fd P_is_name (spT1 K cs isNameT) := by
  refine F.ok sc_is_name (fun vs H Q E h => ?_) (fun A outer s H vs Q E hr h => ?_)
  · obtain ⟨v, t, N, rfl, _⟩ := h
    rfl
  · obtain ⟨v, t, N, rfl, hd, ho, k⟩ := h
    refine ⟨_, pss_cons (ps_if (PW.pt (pw_or (pt_not (pt_val (pe_callB call_isi (by rfl) G.isinstance (by decide +kernel) (pa_cons (pv 0) (pa_cons (pe_bltn (v := .ty "str") (by rfl) G.str (by decide +kernel) rfl) pa_nil)))))
        (pw_or1 (pt_not (pt_chain op_le op_le pe_int (pe_callB call_len_str (by rfl) G.len boot_len (pa_cons (pv 0) pa_nil)) pe_int))))) (pss_one (ps_ret pe_bl)) pss_nil)
      (pss_one (ps_ret (pe_allG (k := 2) (own := [("letter", 1)]) (g := gName 1) (hr.mono (by decide)) (by rfl) G.all (by decide +kernel) TB rfl sc_is_name.nd (pi_str (pv 0)) (blkOk_by (N := N_is_name) (sc := defScope s_is_name) (by decide +kernel)) rfl (by decide +kernel) (by decide +kernel)
        (fun _ _ _ _ _ _ _ => pg_name (i := 1) sc_is_name.nd rfl (Or.inl rfl)) (fun _ _ _ _ _ _ _ _ => pe_chain op_le_str op_le_str pe_str (pv 1) pe_str) (fun _ => rfl)))), ?_⟩
    refine ⟨v, rfl, v, .ty "str", _, _, _, rfl, .ty _, hd.tyx, isiKit t "str", _, rfl, ?_⟩
    rw [isi_str]
    have q0 := k H (Ex.refl ho)
    cases t with
    | str s =>
      unfold Den at hd
      obtain ⟨rfl, hz⟩ := hd
      refine iteF ⟨_, rfl, _, rfl, hz, _, _, rfl, rfl, _, rfl, ?_⟩
      have fin : (decide (2 ≤ (s.length : Int)) && decide ((s.length : Int) ≤ 8)) = false → Q (.bl false) H := fun e => by
        have e2 : isNameT (.str s) = false := by show (_ && _ && _) = _; rw [e]; rfl
        rw [e2] at q0
        exact q0
      refine ite2 (fun c1 => ?_) (fun c1 => ?_)
      · refine ⟨_, _, rfl, rfl, _, rfl, ?_⟩
        by_cases c2 : (s.length : Int) ≤ 8
        · rw [decide_eq_true c2]
          refine iteF ⟨_, rfl, s, rfl, ?_⟩
          obtain ⟨ps, hP, ht⟩ := ho _ hcs
          refine ⟨⟨ps, hP, ht⟩, fun H2 tb => ?_⟩
          have e := Ex.tab (N := N0) ho hcs tb
          have q1 := k H2 e
          refine all_signs letterB (fun c Q' z => ⟨rfl, ?_⟩) ?_
          · refine ⟨_, rfl, _, _, rfl, rfl, _, rfl, ?_⟩
            rw [letter_lo]
            refine ite2 (fun d => ?_) fun d => ?_
            · refine ⟨_, _, rfl, rfl, ?_⟩
              rw [letter_hi]
              unfold letterB at z
              rw [d, Bool.true_and] at z
              exact z
            · rw [Bool.not_eq_true] at d
              unfold letterB at z
              rw [d, Bool.false_and] at z
              exact z
          · have e2 : isNameT (.str s) = s.cps.toList.all letterB := by
              show (_ && _ && _) = _
              rw [c1, decide_eq_true c2, Bool.true_and, Bool.true_and]
            rw [e2] at q1
            exact q1
        · rw [decide_eq_false c2]
          exact iteT (fin (by rw [decide_eq_false c2, Bool.and_false]))
      · rw [Bool.not_eq_true] at c1
        exact ⟨false, rfl, iteT (fin (by rw [c1, Bool.false_and]))⟩
    | _ => exact iteT q0
end
end LW
namespace LW
open PySem PySem.Spec PyProof.Rows L2 GxR FW GA

def arePartsT (t : T) (n : Int) : Bool := match t with
  | .tup l => isTupT (.tup l) 0 2 && l.all fun u => isIndexT u n
  | _ => false
def isConsT (t : T) (n : Int) : Bool := match t with
  | .tup [a, b] => isNameT a && arePartsT b n
  | _ => false
def howB (s : Str) : Bool := s == "closed" || s == "open"
def isKindT (t : T) (n : Int) : Bool := match t with
  | .tup [.str s, .tup l] => howB s && (isTupT (.tup l) 0 4 && l.all fun u => isConsT u n)
  | _ => false

section
variable {P : Program} {w : World} {K : PySem.W.Frag} {mg : Str → Option Value} {base : Heap} {cs : List (Addr × Addr)}
theorem ok_are_parts {f c q : Addr} {fd : FuncData} (F : FunC K "are_parts" "are_parts" s_are_parts f fd c) (TB : TabB base mg c q) (hcs : (c, q) ∈ cs) (G : Glo mg)
    (D1 : Df P w K mg base 1 "is_tuple_of" P_is_tuple_of (spT3 K cs isTupT)) (D2 : Df P w K mg base 2 "is_index" P_is_index (spT2 K cs isIndexT)) : FnOk P w K mg base CX0 6 f fd P_are_parts (spT2 K cs arePartsT) := by
  refine F.ok sc_are_parts (fun vs H Q E h => ?_) (fun A outer s H vs Q E hr h => ?_)
  · obtain ⟨v, t, N, n, rfl, _⟩ := h
    rfl
  · obtain ⟨v, t, N, n, rfl, hd, ho, k⟩ := h
    refine ⟨_, pss_one (ps_ret (pe_and (pe_df D1 hr (pa_cons (pv 0) (pa_cons pe_int (pa_cons (C8.pe_gc rfl G.c_MOST_PARTS) pa_nil))))
      (pe_one (pe_allG (k := 2) (own := [("kind", 2)]) (g := gName 2) (hr.mono (by decide)) (by rfl) G.all (by decide +kernel) TB rfl sc_are_parts.nd (pi_tup (pv 0)) (blkOk_by (N := N_are_parts) (sc := defScope s_are_parts) (by decide +kernel)) rfl (by decide +kernel) (by decide +kernel)
        (fun _ _ _ _ _ _ _ => pg_name (i := 2) sc_are_parts.nd rfl (Or.inl rfl)) (fun _ _ _ _ _ _ _ hrr => pe_df D2 hrr (pa_cons (pv 2) (pa_cons (pv 1) pa_nil))) (fun _ => rfl))))), ?_⟩
    refine ⟨v, rfl, v, t, N, _, _, rfl, hd, ho, fun H1 e1 => ⟨_, rfl, ?_⟩⟩
    have q1 := k H1 e1
    cases t with
    | tup l =>
      have q1 : Q (.bl (isTupT (.tup l) 0 2 && l.all fun u => isIndexT u n)) H1 := q1
      refine ite2 (fun c1 => ?_) fun c1 => ?_
      · obtain ⟨a, xs, rfl, hS, hD⟩ := (show ∃ a xs, v = .ref a ∧ SqT K H1 a xs ∧ DenL K N H1 l xs from by have := hd.ex0 e1; unfold Den at this; exact this)
        obtain ⟨ps, hP, ht⟩ := e1.tok _ hcs
        refine ⟨_, rfl, a, rfl, ⟨_, hS⟩, ⟨ps, hP, ht⟩, fun H2 tb => ?_⟩
        have e2 := Ex.tab (N := N0) e1.tok hcs tb
        refine all_den (fun u => isIndexT u n) (e2.toKp.sqT hS) (hD.ex0 e2) e2.tok (fun x u H3 hu hx tk Q' z => ⟨rfl, ?_⟩) fun H3 e3 => ?_
        · exact ⟨_, rfl, _, rfl, x, u, N, n, rfl, hx, tk, z⟩
        · have := k H3 (e1.trans (e2.trans e3))
          have e4 : arePartsT (.tup l) n = l.all fun u => isIndexT u n := by
            show (_ && _) = _
            rw [c1, Bool.true_and]
          rw [e4] at this
          exact this
      · rw [Bool.not_eq_true] at c1
        rw [c1, Bool.false_and] at q1
        exact q1
    | _ => exact iteF q1

theorem den_pair {N : Addr → Prop} {H : Hp} {a b : T} {v : V} (h : Den K N H (.tup [a, b]) v) : ∃ p x y, v = .ref p ∧ SqT K H p [x, y] ∧ Den K N H a x ∧ Den K N H b y := by
  unfold Den at h
  obtain ⟨p, xs, rfl, hS, hD⟩ := h
  unfold DenL at hD
  obtain ⟨x, r, rfl, hx, hD⟩ := hD
  unfold DenL at hD
  obtain ⟨y, r, rfl, hy, hD⟩ := hD
  unfold DenL at hD
  subst hD
  exact ⟨p, x, y, rfl, hS, hx, hy⟩
theorem pair_of {t : T} (h : isTupT t 2 2 = true) : ∃ a b, t = .tup [a, b] := by
  cases t with
  | tup l =>
    have h : (decide ((2 : Int) ≤ (l.length : Int)) && decide ((l.length : Int) ≤ 2)) = true := h
    rw [Bool.and_eq_true, decide_eq_true_eq, decide_eq_true_eq] at h
    match l, h with
    | [a, b], _ => exact ⟨a, b, rfl⟩
    | [], h => simp at h
    | [_], h => simp at h
    | _ :: _ :: _ :: _, h => simp at h; omega
  | _ => cases h

theorem ok_is_constructor {f : Addr} {fd : FuncData} (F : Fun K "is_constructor" "is_constructor" s_is_constructor f fd)
    (D1 : Df P w K mg base 1 "is_tuple_of" P_is_tuple_of (spT3 K cs isTupT)) (D2 : Df P w K mg base 6 "is_name" P_is_name (spT1 K cs isNameT)) (D3 : Df P w K mg base 6 "are_parts" P_are_parts (spT2 K cs arePartsT)) :
    FnOk P w K mg base CX0 7 f fd P_is_constructor (spT2 K cs isConsT) := by
  refine F.ok sc_is_constructor (fun vs H Q E h => ?_) (fun cdv A outer s H vs Q E hr h => ?_)
  · obtain ⟨v, t, N, n, rfl, _⟩ := h
    rfl
  · obtain ⟨v, t, N, n, rfl, hd, ho, k⟩ := h
    refine ⟨_, pss_one (ps_ret (pe_and (pe_df D1 hr (pa_cons (pv 0) (pa_cons pe_int (pa_cons pe_int pa_nil))))
      (pe_and (pe_df D2 hr (pa_cons (pe_ix ix_tup (pv 0) pe_int (fun _ _ => rfl)) pa_nil)) (pe_one (pe_df D3 hr (pa_cons (pe_ix ix_tup (pv 0) pe_int (fun _ _ => rfl)) (pa_cons (pv 1) pa_nil))))))), ?_⟩
    refine ⟨v, rfl, v, t, N, _, _, rfl, hd, ho, fun H1 e1 => ⟨_, rfl, ite2 (fun c1 => ?_) fun c1 => ?_⟩⟩
    · obtain ⟨a, b, rfl⟩ := pair_of c1
      obtain ⟨p, x, y, rfl, hS, hx, hy⟩ := den_pair (hd.ex0 e1)
      refine ⟨_, rfl, p, _, _, x, rfl, rfl, hS, atI_nat (j := 0) rfl, x, a, N, rfl, hx, e1.tok, fun H2 e2 => ⟨_, rfl, ite2 (fun c2 => ?_) fun c2 => ?_⟩⟩
      · refine ⟨_, rfl, p, _, _, y, rfl, rfl, e2.toKp.sqT hS, atI_nat (j := 1) rfl, _, rfl, y, b, N, n, rfl, hy.ex0 e2, e2.tok, fun H3 e3 => ?_⟩
        have q := k H3 (e1.trans (e2.trans e3))
        have e4 : isConsT (.tup [a, b]) n = arePartsT b n := by
          show (_ && _) = _
          rw [c2, Bool.true_and]
        rw [e4] at q
        exact q
      · have q := k H2 (e1.trans e2)
        rw [Bool.not_eq_true] at c2
        have e4 : isConsT (.tup [a, b]) n = false := by
          show (_ && _) = _
          rw [c2, Bool.false_and]
        rw [e4] at q
        exact q
    · have q := k H1 e1
      have e4 : isConsT t n = false := by
        unfold isConsT
        split
        · exact absurd (show isTupT (.tup _) 2 2 = true by rfl) c1
        · rfl
      rw [e4] at q
      exact q
end
end LW
namespace LW
open PySem PySem.Spec PyProof.Rows L2 GxR FW GA

section
variable {P : Program} {w : World} {K : PySem.W.Frag} {mg : Str → Option Value} {base : Heap} {cs : List (Addr × Addr)}
theorem inV_two (s : Str) : inV (.str s) [.str "closed", .str "open"] = howB s := by
  show ((("closed" : Str) == s) || ((("open" : Str) == s) || false)) = _
  unfold howB
  rw [Bool.or_false, Bool.beq_comm (a := s), Bool.beq_comm (a := s)]
theorem ok_is_kind_form {f c q : Addr} {fd : FuncData} (F : FunC K "is_kind_form" "is_kind_form" s_is_kind_form f fd c) (TB : TabB base mg c q) (hcs : (c, q) ∈ cs) (G : Glo mg)
    (D1 : Df P w K mg base 1 "is_tuple_of" P_is_tuple_of (spT3 K cs isTupT)) (D2 : Df P w K mg base 7 "is_constructor" P_is_constructor (spT2 K cs isConsT)) : FnOk P w K mg base CX0 11 f fd P_is_kind_form (spT2 K cs isKindT) := by
  refine F.ok sc_is_kind_form (fun vs H Q E h => ?_) (fun A outer s H vs Q E hr h => ?_)
  · obtain ⟨v, t, N, n, rfl, _⟩ := h
    rfl
  · obtain ⟨v, t, N, n, rfl, hd, ho, k⟩ := h
    refine ⟨_, pss_cons (ps_if (pt_not (pt_val (pe_df D1 hr (pa_cons (pv 0) (pa_cons pe_int (pa_cons pe_int pa_nil)))))) (pss_one (ps_ret pe_bl)) pss_nil)
      (pss_cons (ps_asg (pv 0) (pg_tup rfl (pgs_cons (pg_name (i := 2) sc_is_kind_form.nd rfl (.inl rfl)) (pgs_cons (pg_name (i := 3) sc_is_kind_form.nd rfl (.inl rfl)) pgs_nil))))
      (pss_cons (ps_if (PW.pt (pw_or (pt_not (pt_val (pe_callB call_isi (by rfl) G.isinstance (by decide +kernel) (pa_cons (pv 2) (pa_cons (pe_bltn (v := .ty "str") (by rfl) G.str (by decide +kernel) rfl) pa_nil)))))
        (pw_or1 (pt_cmpR op_notIn_seq (pv 2) (pe_tup (pa_cons pe_str (pa_cons pe_str pa_nil))) (by rfl))))) (pss_one (ps_ret pe_bl)) pss_nil)
      (pss_cons (ps_if (pt_not (pt_val (pe_df D1 hr (pa_cons (pv 3) (pa_cons pe_int (pa_cons (C8.pe_gc rfl G.c_MOST_CONSTRUCTORS) pa_nil)))))) (pss_one (ps_ret pe_bl)) pss_nil)
      (pss_one (ps_ret (pe_allG (k := 7) (own := [("constructor", 4)]) (g := gName 4) (hr.mono (by decide)) (by rfl) G.all (by decide +kernel) TB rfl sc_is_kind_form.nd (pi_tup (pv 3)) (blkOk_by (N := N_is_kind_form) (sc := defScope s_is_kind_form) (by decide +kernel)) rfl (by decide +kernel) (by decide +kernel)
        (fun _ _ _ _ _ _ _ => pg_name (i := 4) sc_is_kind_form.nd rfl (Or.inl rfl)) (fun _ _ _ _ _ _ _ hrr => pe_df D2 hrr (pa_cons (pv 4) (pa_cons (pv 1) pa_nil))) (fun _ => rfl))))))), ?_⟩
    refine ⟨v, rfl, v, t, N, _, _, rfl, hd, ho, fun H1 e1 => ⟨_, rfl, ?_⟩⟩
    have q1 := k H1 e1
    by_cases c1 : isTupT t 2 2 = true
    · rw [c1]
      obtain ⟨a, b, rfl⟩ := pair_of c1
      obtain ⟨p, x, y, rfl, hS, hx, hy⟩ := den_pair (hd.ex0 e1)
      refine iteF ⟨_, rfl, p, _, rfl, hS, rfl, x, _, rfl, y, _, rfl, rfl, ?_⟩
      refine ⟨x, rfl, x, .ty "str", _, _, _, rfl, .ty _, hx.tyx, isiKit a "str", _, rfl, ?_⟩
      rw [isi_str]
      cases a with
      | str z =>
        unfold Den at hx
        obtain ⟨rfl, hz⟩ := hx
        refine iteF ⟨_, rfl, (by show 2 ≤ sizeLine; decide), fun T hT => ?_⟩
        have e2 : Ex cs N0 H1 (upd H1 T (.tup [.str "closed", .str "open"])) := Ex.new e1.tok hT
        have q2 := k _ (e1.trans e2)
        refine ⟨T, _, rfl, .inr (SqT.of upd_same), rfl, rfl, _, rfl, ?_⟩
        rw [if_pos rfl, inV_two]
        by_cases c2 : howB z = true
        · rw [c2]
          refine iteF ⟨y, rfl, y, b, N, _, _, rfl, hy.ex0 e2, e2.tok, fun H3 e3 => ⟨_, rfl, ?_⟩⟩
          have q3 := k H3 (e1.trans (e2.trans e3))
          by_cases c3 : isTupT b 0 4 = true
          · rw [c3]
            cases b with
            | tup l =>
              obtain ⟨pa, xs, rfl, hSl, hDl⟩ := (show ∃ a xs, y = .ref a ∧ SqT K H3 a xs ∧ DenL K N H3 l xs from by have := (hy.ex0 e2).ex0 e3; unfold Den at this; exact this)
              obtain ⟨ps, hP, ht⟩ := e3.tok _ hcs
              refine iteF ⟨_, rfl, pa, rfl, ⟨_, hSl⟩, ⟨ps, hP, ht⟩, fun H4 tb => ?_⟩
              have e4 := Ex.tab (N := N0) e3.tok hcs tb
              refine all_den (fun u => isConsT u n) (e4.toKp.sqT hSl) (hDl.ex0 e4) e4.tok (fun x u H5 hu hx tk Q' z => ⟨rfl, ?_⟩) fun H5 e5 => ?_
              · exact ⟨_, rfl, _, rfl, x, u, N, n, rfl, hx, tk, z⟩
              · have := k H5 (e1.trans (e2.trans (e3.trans (e4.trans e5))))
                have e6 : isKindT (.tup [.str z, .tup l]) n = l.all fun u => isConsT u n := by
                  show (_ && (_ && _)) = _
                  rw [c2, c3, Bool.true_and, Bool.true_and]
                rw [e6] at this
                exact this
            | _ => cases c3
          · rw [Bool.not_eq_true] at c3
            rw [c3]
            have e6 : isKindT (.tup [.str z, b]) n = false := by
              cases b with
              | tup l => show (_ && (_ && _)) = _; rw [c3, Bool.false_and, Bool.and_false]
              | _ => rfl
            rw [e6] at q3
            exact iteT q3
        · rw [Bool.not_eq_true] at c2
          rw [c2]
          have e6 : isKindT (.tup [.str z, b]) n = false := by
            cases b with
            | tup l => show (_ && (_ && _)) = _; rw [c2, Bool.false_and]
            | _ => rfl
          rw [e6] at q2
          exact iteT q2
      | _ =>
        refine iteT ?_
        exact q1
    · have e6 : isKindT t n = false := by
        unfold isKindT
        split
        · exact absurd (show isTupT (.tup _) 2 2 = true by rfl) c1
        · rfl
      rw [Bool.not_eq_true] at c1
      rw [c1]
      rw [e6] at q1
      exact iteT q1
end
end LW
namespace EN
open PySem PySem.Spec PyProof.Rows L2
theorem for_enumT {K : PySem.W.Frag} {a : Addr} {xs : List V} {g : TG} {tb : TS} {D : Ends} {σ : L2.St} {H : Hp} (Pv : Nat → L2.St → Hp → Prop) (h0 : Pv 0 σ H) (hl : ∀ i σ H, i ≤ xs.length → Pv i σ H → SqT K H a xs)
    (hs : ∀ i x σ H T, xs[i]? = some x → Pv i σ H → H T = none → g (.ref T) σ (upd H T (.tup [.int (i : Nat), x])) fun σ2 H2 => tb { D with nx := Pv (i + 1), ct := Pv (i + 1), bk := D.nx } σ2 H2) (hd : ∀ σ H, Pv xs.length σ H → D.nx σ H) :
    ∃ W : Nat → Nat → L2.St → Hp → Prop, (∃ m, W 0 m σ H) ∧ ∀ i m σ H, W i m σ H →
      ((IteT K a).stop i H ∧ D.nx σ H) ∨ ((IteT K a).go i H ∧ ∃ N : L2.St → Hp → Prop, (∀ σ' H', N σ' H' → ∃ m', m' < m ∧ W (i + 1) m' σ' H') ∧ ∀ x H', (IteT K a).yld i H x H' → g x σ H' fun σ2 H2 => tb { D with nx := N, ct := N, bk := D.nx } σ2 H2) := by
  refine ⟨fun i m σ H => m = xs.length - i ∧ i ≤ xs.length ∧ Pv i σ H, ⟨xs.length, by simp, Nat.zero_le _, h0⟩, ?_⟩
  rintro i m σ H ⟨rfl, hi, p⟩
  have q := hl i σ H hi p
  by_cases hlt : i < xs.length
  · refine .inr ⟨⟨xs, xs[i], q, by simp [hlt]⟩, Pv (i + 1), fun σ' H' p' => ⟨xs.length - (i + 1), by omega, rfl, hlt, p'⟩, fun v H' y => ?_⟩
    obtain ⟨T, x, rfl, hT, rfl, y⟩ := y
    exact hs i x σ H T (y xs q) p hT
  · have e : i = xs.length := by omega
    subst e
    exact .inl ⟨⟨xs, q, Nat.le_refl _⟩, hd σ H p⟩
end EN
namespace LW
open PySem PySem.Spec PyProof.Rows L2 GxR FW GA

def kOpenT : T → Bool
  | .tup [.str s, _] => s == "open"
  | _ => false
def kConsT : T → List T
  | .tup [_, .tup l] => l
  | _ => []
def cNameT : T → Str
  | .tup [.str s, _] => s
  | _ => Str.empty
def cPartsT : T → List T
  | .tup [_, .tup l] => l
  | _ => []
def inF (f : List Int) : T → Bool
  | .int p => decide (p ∈ f)
  | _ => false
def condK (f : List Int) (t : T) : Bool := kOpenT t || (kConsT t).any fun c => (cPartsT c).all (inF f)
def addF (f : List Int) (i : Int) : List Int := if i ∈ f then f else f ++ [i]
/-- one kind after another -/
def passK (ks : List T) : Nat → List Int → List Int
  | 0, f => f
  | i + 1, f => match ks[i]? with
    | some t => if condK (passK ks i f) t = true then addF (passK ks i f) i else passK ks i f
    | none => passK ks i f
def kwv (ks : List T) : Nat → List Int
  | 0 => []
  | i + 1 => passK ks ks.length (kwv ks i)
abbrev dk (f : List Int) : List (Key × V) := f.map fun i => ((Sum.inl i : Key), V.bl true)
theorem valV_dk : ∀ (f : List Int) (p : Int), (valV (dk f) (Sum.inl p : Key)).isSome = decide (p ∈ f)
  | [], p => rfl
  | a :: r, p => by
    have ih := valV_dk r p
    show (valV (((Sum.inl a : Key), V.bl true) :: dk r) (Sum.inl p : Key)).isSome = _
    by_cases e : a = p
    · subst e
      rw [valV_pos rfl]; simp
    · rw [valV_neg (fun z => e (Sum.inl.inj z)), ih]
      have : p ≠ a := fun z => e z.symm
      simp [this]
theorem map_dk : ∀ (f : List Int) (p : Int), (dk f).map (fun kv => if kv.1 = (Sum.inl p : Key) then (kv.1, V.bl true) else kv) = dk f
  | [], p => rfl
  | a :: r, p => by
    have ih := map_dk r p
    show (if (Sum.inl a : Key) = Sum.inl p then ((Sum.inl a : Key), V.bl true) else (Sum.inl a, V.bl true)) :: (dk r).map _ = _ :: dk r
    rw [ih, ite_self]
theorem putK_dk (f : List Int) (p : Int) : putK (dk f) (Sum.inl p : Key) (.bl true) = dk (addF f p) := by
  unfold putK addF
  rw [valV_any, valV_dk]
  by_cases e : p ∈ f
  · rw [decide_eq_true e, if_pos rfl, if_pos e, map_dk]
  · rw [decide_eq_false e, if_neg (by decide), if_neg e]
    show _ = (f ++ [p]).map _
    rw [List.map_append]
    rfl
theorem addF_len (f : List Int) (i : Int) : (addF f i).length ≤ f.length + 1 := by unfold addF; split <;> simp
theorem kindForm {t : T} {n : Int} (h : isKindT t n = true) : ∃ s l, t = .tup [.str s, .tup l] ∧ (s = "closed" ∨ s = "open") ∧ l.length ≤ 4 ∧ ∀ c ∈ l, isConsT c n = true := by
  unfold isKindT at h
  split at h
  · rename_i s l
    rw [Bool.and_eq_true, Bool.and_eq_true, List.all_eq_true] at h
    obtain ⟨h1, h2, h3⟩ := h
    refine ⟨s, l, rfl, ?_, ?_, h3⟩
    · unfold howB at h1
      rw [Bool.or_eq_true, beq_iff_eq, beq_iff_eq] at h1
      exact h1
    · have h2 : (decide ((0 : Int) ≤ (l.length : Int)) && decide ((l.length : Int) ≤ 4)) = true := h2
      rw [Bool.and_eq_true, decide_eq_true_eq, decide_eq_true_eq] at h2
      omega
  · cases h
theorem consForm {t : T} {n : Int} (h : isConsT t n = true) : ∃ s l, t = .tup [.str s, .tup l] ∧ nameB s = true ∧ l.length ≤ 2 ∧ ∀ p ∈ l, isIndexT p n = true := by
  unfold isConsT at h
  split at h
  · rename_i a b
    rw [Bool.and_eq_true] at h
    obtain ⟨h1, h2⟩ := h
    cases a with
    | str s =>
      cases b with
      | tup l =>
        have h2 : ((decide ((0 : Int) ≤ (l.length : Int)) && decide ((l.length : Int) ≤ 2)) && l.all fun u => isIndexT u n) = true := h2
        rw [Bool.and_eq_true, Bool.and_eq_true, decide_eq_true_eq, decide_eq_true_eq, List.all_eq_true] at h2
        exact ⟨s, l, rfl, h1, by omega, h2.2⟩
      | _ => cases h2
    | _ => cases h1
  · cases h
theorem idxForm {t : T} {n : Int} (h : isIndexT t n = true) : ∃ i, t = .int i ∧ 0 ≤ i ∧ i < n := by
  cases t with
  | int i =>
    have h : (decide (0 ≤ i) && decide (i < n)) = true := h
    rw [Bool.and_eq_true, decide_eq_true_eq, decide_eq_true_eq] at h
    exact ⟨i, rfl, h⟩
  | _ => cases h
end LW
namespace LW
open PySem PySem.Spec PyProof.Rows L2 GxR FW GA EN

section
variable {P : Program} {w : World} {K : PySem.W.Frag} {mg : Str → Option Value} {base : Heap} {cs : List (Addr × Addr)}
/-- handed a tuple of kinds of the right form: a new dict with the kinds that have a value -/
def spKwv (K : PySem.W.Frag) (cs : List (Addr × Addr)) : Sp := fun vs H Q _ => ∃ v ks N n, vs = [v] ∧ Den K N H (.tup ks) v ∧ (∀ t ∈ ks, isKindT t n = true) ∧ ks.length ≤ 3 ∧ TOk cs H ∧
  ∀ d H', Ex cs N0 H H' → H d = none → H' d = some (.dK (dk (kwv ks ks.length))) → Q (.ref d) H'
theorem passK_len (ks : List T) : ∀ (j : Nat) (f : List Int), (passK ks j f).length ≤ f.length + j
  | 0, f => Nat.le_refl _
  | j + 1, f => by
    have ih := passK_len ks j f
    unfold passK
    split
    · split
      · have := addF_len (passK ks j f) j; omega
      · omega
    · omega
theorem kwv_len (ks : List T) : ∀ i, (kwv ks i).length ≤ i * ks.length
  | 0 => Nat.zero_le _
  | i + 1 => by
    have ih := kwv_len ks i
    have := passK_len ks ks.length (kwv ks i)
    unfold kwv
    rw [Nat.succ_mul]
    omega
theorem ok_kinds_with_values {f : Addr} {fd : FuncData} (F : Fun K "kinds_with_values" "kinds_with_values" s_kinds_with_values f fd) (G : Glo mg) : FnOk P w K mg base CX0 1 f fd P_kinds_with_values (spKwv K cs) := by
  refine F.ok sc_kinds_with_values (fun vs H Q E h => ?_) (fun cdv A outer s H vs Q E hr h => ?_)
  · obtain ⟨v, ks, N, n, rfl, _⟩ := h
    rfl
  · obtain ⟨v, ks, N, n, rfl, hd, hk, h3, ho, k⟩ := h
    have hu := hu_of hr
    refine ⟨_, pss_cons (ps_set (i := 1) sc_kinds_with_values.nd rfl (Or.inr rfl) pe_dnewK)
      (pss_cons (ps_for PassesOwn.never rfl (pi_tup (pv 0)) (pg_name (i := 2) sc_kinds_with_values.nd rfl (.inl rfl))
        (pss_one (ps_for PassesOwn.never rfl (pi_enumT (by rfl) G.enumerate (pa_cons (pv 0) pa_nil)) (pg_tup rfl (pgs_cons (pg_name (i := 3) sc_kinds_with_values.nd rfl (.inl rfl)) (pgs_cons (pg_tup rfl (pgs_cons (pg_name (i := 4) sc_kinds_with_values.nd rfl (.inl rfl)) (pgs_cons (pg_name (i := 5) sc_kinds_with_values.nd rfl (.inl rfl)) pgs_nil))) pgs_nil)))
          (pss_one (ps_if (PW.pt (pw_or (pt_cmpR op_eq (pv 4) pe_str (nomark _)) (pw_or1 (pt_val (pe_callB (cr_any rfl) (by rfl) G.any boot_any (pa_cons
              (pe_lc (own := [("_", 2), ("parts", 6)]) (g := gTup K 2 (gCons (gName 2) (gCons (gName 6) gNil))) (tt := tYes) (te := tCB (rAll K) (tCons (tLc (iTup K (tVar 6)) (gName 7) tYes (tDIn (tVar 7) (tVar 1)) [7]) tNil)) rfl sc_kinds_with_values.nd (pi_tup (pv 5)) (blkOk_by (N := N_kinds_with_values) (sc := defScope s_kinds_with_values) (by decide +kernel))
                (fun _ _ _ _ _ => pg_tup rfl (pgs_cons (pg_name (i := 2) sc_kinds_with_values.nd rfl (.inl rfl)) (pgs_cons (pg_name (i := 6) sc_kinds_with_values.nd rfl (.inl rfl)) pgs_nil)))
                (fun _ _ _ _ _ => pts_nil)
                (fun _ _ _ _ _ => pe_callB (cr_all rfl) (by rfl) G.all boot_all (pa_cons
                  (pe_lc (own := [("part", 7)]) (g := gName 7) (tt := tYes) rfl sc_kinds_with_values.nd (pi_tup (pv 6)) (blkOk_by (N := N_kinds_with_values) (sc := relS _ (defScope s_kinds_with_values)) (by decide +kernel))
                    (fun _ _ _ _ _ => pg_name (i := 7) sc_kinds_with_values.nd rfl (.inl rfl)) (fun _ _ _ _ _ => pts_nil)
                    (fun _ _ _ _ _ => pe_cmp (pc_din hu (pv 7) (pv 1)))) pa_nil))) pa_nil))))))
            (pss_one (ps_dput hu (pv 1) (pv 3) pe_bl rfl)) pss_nil)))))
      (pss_one (ps_ret (pv 1)))), ?_⟩
    obtain ⟨a, xs, rfl, hS, hD⟩ := (show ∃ a xs, v = .ref a ∧ SqT K H a xs ∧ DenL K N H ks xs from by unfold Den at hd; exact hd)
    have hlen := hD.len
    intro d hd0
    have k0 : ∀ {H'}, Kp (N1 d) H H' → Kp N0 H H' := fun k => ⟨fun b o e q _ => k.keep b o e q (fun z => by rw [show b = d from z, hd0] at e; cases e), k.tups, k.frz, k.stay⟩
    refine ⟨_, rfl, a, rfl, ⟨_, (Kp.new (N := N0) hd0).sqT hS⟩, for_tup (xs := xs) (fun i σ Hc => ∃ x2 x3 x4 x5, σ = [some (.ref a), some (.ref d), x2, x3, x4, x5, none, none] ∧ TOk cs Hc ∧ Kp (N1 d) H Hc ∧ Hc d = some (.dK (dk (kwv ks i))))
      ⟨none, none, none, none, rfl, ho.new hd0, Kp.new hd0, upd_same⟩ (fun i σ Hc _ p => ?_) (fun i x σ Hc hx p => ?_) fun σ Hc p => ?_⟩
    · obtain ⟨_, _, _, _, _, _, p2, _⟩ := p
      exact (k0 p2).sqT hS
    · obtain ⟨x2, x3, x4, x5, rfl, p1, p2, p3⟩ := p
      refine ⟨_, rfl, a, xs, rfl, (k0 p2).sqT hS, for_enumT (xs := xs) (fun j σ Hc => ∃ x2 x3 x4 x5, σ = [some (.ref a), some (.ref d), x2, x3, x4, x5, none, none] ∧ TOk cs Hc ∧ Kp (N1 d) H Hc ∧ Hc d = some (.dK (dk (passK ks j (kwv ks i)))))
        ⟨_, x3, x4, x5, rfl, p1, p2, p3⟩ (fun j σ Hc _ p => ?_) (fun j x σ Hc T hx p hT => ?_) fun σ Hc p => ?_⟩
      · obtain ⟨_, _, _, _, _, _, p2, _⟩ := p
        exact (k0 p2).sqT hS
      · obtain ⟨x2, x3, x4, x5, rfl, q1, q2, q3⟩ := p
        obtain ⟨t, ht, hdt⟩ := (DenL.kp ((k0 q2).mono (N' := N) fun _ z => z.elim) _ _ hD).get hx
        obtain ⟨s, l, rfl, hs, hl4, hc⟩ := kindForm (hk t (List.mem_of_getElem? ht))
        have hdT : Hc d = some (.dK (dk (passK ks j (kwv ks i)))) := q3
        obtain ⟨p, y1, y2, rfl, hp, hy1, hy2⟩ := den_pair hdt
        unfold Den at hy1
        obtain ⟨rfl, hz⟩ := hy1
        have kT : Kp N0 Hc (upd Hc T (.tup [.int (j : Nat), .ref p])) := Kp.new hT
        refine ⟨T, _, rfl, SqT.of upd_same, rfl, _, _, rfl, _, _, rfl, p, _, rfl, kT.sqT hp, rfl, _, _, rfl, _, _, rfl, rfl, rfl, ?_⟩
        generalize hH1 : upd Hc T (HO.tup [.int (j : Nat), .ref p]) = Hc1 at kT
        have tok1 : TOk cs Hc1 := by rw [← hH1]; exact q1.new hT
        have d1 : Hc1 d = some (.dK (dk (passK ks j (kwv ks i)))) := kT.keep _ _ q3 (fun q z => by cases z) fun z => z
        have hy2' : Den K N Hc1 (.tup l) y2 := Den.kp (kT.mono fun _ z => z.elim) _ _ hy2
        have hi : i < 3 := by have := (List.getElem?_eq_some_iff.mp ‹xs[i]? = some _›).1; omega
        have hj : j < 3 := by have := (List.getElem?_eq_some_iff.mp ht).1; omega
        generalize hf : passK ks j (kwv ks i) = f' at d1 q3 hdT
        have fl : f'.length ≤ 20 := by
          have a1 := passK_len ks j (kwv ks i)
          have a2 := kwv_len ks i
          have a3 : i * ks.length ≤ 2 * 3 := Nat.mul_le_mul (by omega) h3
          rw [← hf]; omega
        have ep : passK ks (j + 1) (kwv ks i) = if condK f' (.tup [.str s, .tup l]) = true then addF f' j else f' := by
          show (match ks[j]? with | some t => _ | none => _) = _
          rw [ht, ← hf]
        have put : ∀ H2, condK f' (.tup [.str s, .tup l]) = true → TOk cs H2 → Kp (N1 d) H H2 → H2 d = some (.dK (dk f')) → ∃ b H4, V.ref d = .ref b ∧ DPut H2 b (.int (j : Nat)) (.bl true) H4 ∧ (∃ x2' x3 x4 x5, [some (V.ref a), some (V.ref d), x2, some (V.int (j : Nat)), some (V.str s), some y2, none, none] = [some (V.ref a), some (V.ref d), x2', x3, x4, x5, none, none] ∧ TOk cs H4 ∧ Kp (N1 d) H H4 ∧ H4 d = some (.dK (dk (passK ks (j + 1) (kwv ks i))))) := fun H2 hc1 z1 z2 z3 => by
          refine ⟨d, _, rfl, DPut.k (k := Sum.inl (j : Int)) z3 (small1000 (by rw [List.length_map]; omega)), _, _, _, _, rfl, z1.put z3 (fun q z => by cases z), ⟨fun b o e q n => ?_, fun b xs e => ?_, fun b o u e => ?_, fun b e => ?_⟩, ?_⟩
          · rw [upd_ne (fun z => n z)]; exact z2.keep b o e q n
          · have e' := z2.tups b xs e
            rw [upd_ne (ne_of e' z3 (by intro z; cases z))]; exact e'
          · have e' := z2.frz b o u e
            rw [upd_ne (ne_of e' z3 (by intro z; cases z))]; exact e'
          · by_cases z : b = d
            · rw [z, upd_same] at e; cases e
            · rw [upd_ne z] at e; exact z2.stay b e
          · rw [upd_same, putK_dk, ep, if_pos hc1]
        have skip : condK f' (.tup [.str s, .tup l]) = false → ∀ H2, TOk cs H2 → Kp (N1 d) H H2 → H2 d = some (.dK (dk f')) → ∃ x2' x3 x4 x5, [some (V.ref a), some (V.ref d), x2, some (V.int (j : Nat)), some (V.str s), some y2, none, none] = [some (V.ref a), some (V.ref d), x2', x3, x4, x5, none, none] ∧ TOk cs H2 ∧ Kp (N1 d) H H2 ∧ H2 d = some (.dK (dk (passK ks (j + 1) (kwv ks i)))) := fun hc0 H2 z1 z2 z3 =>
          ⟨_, _, _, _, rfl, z1, z2, by rw [ep, hc0, if_neg Bool.false_ne_true]; exact z3⟩
        have kH1 : Kp (N1 d) H Hc1 := q2.trans (kT.mono fun _ z => z.elim)
        refine ⟨_, rfl, rfl, _, rfl, ?_⟩
        by_cases ho : s = "open"
        · rw [decide_eq_true (congrArg V.str ho)]
          have hc1 : condK f' (.tup [.str s, .tup l]) = true := by
            unfold condK kOpenT
            rw [ho]; rfl
          refine iteT (iteT ⟨_, rfl, _, rfl, put Hc1 hc1 tok1 kH1 d1⟩)
        · rw [decide_eq_false (fun z => ho (V.str.inj z))]
          have eo : condK f' (.tup [.str s, .tup l]) = l.any fun c => (cPartsT c).all (inF f') := by
            show (s == "open" || l.any fun c => (cPartsT c).all (inF f')) = _
            have : (s == "open") = false := by rw [beq_eq_false_iff_ne]; exact ho
            rw [this, Bool.false_or]
          obtain ⟨ac, xs2, rfl, hS2, hD2⟩ := (show ∃ a xs, y2 = .ref a ∧ SqT K Hc1 a xs ∧ DenL K N Hc1 l xs from by unfold Den at hy2'; exact hy2')
          refine iteF ⟨_, rfl, ac, rfl, ⟨_, hS2⟩, fun D hDn => lc_map (fun c => .bl ((cPartsT c).all (inF f'))) hS2 hD2 tok1 hDn (small1000 (by omega)) (fun x c H2 acc hcl hdc tk hDl kpD Q' z => ?_) fun H2 tk kp2 hDl => ?_⟩
          · obtain ⟨sn, pl, rfl, hn, hpl, hidx⟩ := consForm (hc c hcl)
            obtain ⟨pc, z1, z2, rfl, hpc, hz1, hz2⟩ := den_pair hdc
            have hD0 : d ≠ D := ne_of_none d1 hDn
            have d2 : H2 d = some (.dK (dk f')) := kpD.keep _ _ d1 (fun q z => by cases z) hD0
            refine ⟨pc, _, rfl, hpc, rfl, _, _, rfl, _, _, rfl, rfl, rfl, ?_⟩
            obtain ⟨ap, xs3, rfl, hS3, hD3⟩ := (show ∃ a xs, z2 = .ref a ∧ SqT K H2 a xs ∧ DenL K _ H2 pl xs from by unfold Den at hz2; exact hz2)
            refine ⟨_, rfl, ap, rfl, ⟨_, hS3⟩, fun D2 hDn2 => lc_map (fun u => .bl (inF f' u)) hS3 hD3 tk hDn2 (small1000 (by omega)) (fun x3 u H3 acc3 hu hdu tk3 hDl3 kp3 Q3 w3 => ⟨rfl, ?_⟩) fun H3 tk3 kp3 hDl3 => ?_⟩
            · obtain ⟨iu, rfl, _, _⟩ := idxForm (hidx u hu)
              unfold Den at hdu
              subst hdu
              have d3 : H3 d = some (.dK (dk f')) := kp3.keep _ _ d2 (fun q z => by cases z) (ne_of_none d2 hDn2)
              refine ⟨_, rfl, _, rfl, d, _, rfl, DGet.k (k := Sum.inl iu) d3, ?_⟩
              rw [valV_dk]
              exact w3 H3 (Ex.refl tk3)
            · refine ⟨D2, pl.map (inF f'), rfl, SqL.of (by rw [hDl3, List.map_map]; rfl), ?_⟩
              have e9 : (pl.map (inF f')).all id = (cPartsT (.tup [.str sn, .tup pl])).all (inF f') := by
                show _ = pl.all (inF f')
                rw [List.all_map]; rfl
              rw [e9]
              exact z H3 ⟨kp3, tk3⟩
          · refine ⟨D, l.map (fun c => (cPartsT c).all (inF f')), rfl, SqL.of (by rw [hDl, List.map_map]; rfl), _, rfl, ?_⟩
            have e9 : (l.map (fun c => (cPartsT c).all (inF f'))).any id = condK f' (.tup [.str s, .tup l]) := by
              rw [eo, List.any_map]; rfl
            rw [e9]
            have d2 : H2 d = some (.dK (dk f')) := kp2.keep _ _ d1 (fun q z => by cases z) fun z => z
            have kH2 : Kp (N1 d) H H2 := kH1.trans (kp2.mono fun _ z => z.elim)
            by_cases hcc : condK f' (.tup [.str s, .tup l]) = true
            · rw [hcc]
              exact iteT ⟨_, rfl, _, rfl, put H2 hcc tk kH2 d2⟩
            · rw [Bool.not_eq_true] at hcc
              rw [hcc]
              exact iteF (skip hcc H2 tk kH2 d2)
      · obtain ⟨x2, x3, x4, x5, rfl, q1, q2, q3⟩ := p
        rw [hlen] at q3
        exact ⟨_, _, _, _, rfl, q1, q2, q3⟩
    · obtain ⟨x2, x3, x4, x5, rfl, q1, q2, q3⟩ := p
      rw [hlen] at q3
      exact ⟨_, rfl, k d Hc ⟨k0 q2, q1⟩ hd0 q3⟩
end
end LW
namespace LW
open PySem PySem.Spec PyProof.Rows L2 GxR FW GA EN SL

def namesT (ks : List T) : List Str := ks.flatMap fun k => (kConsT k).map cNameT
def isSigT (t : T) : Bool := match t with
  | .tup ks => isTupT (.tup ks) 1 3 && ((ks.all fun u => isKindT u ks.length) && (!decide (((nDiff (namesT ks) (namesT ks).length : Nat) : Int) < ((namesT ks).length : Int)) && decide ((((kwv ks ks.length).length : Nat) : Int) = (ks.length : Int))))
  | _ => false
section
variable {P : Program} {w : World} {K : PySem.W.Frag} {mg : Str → Option Value} {base : Heap} {cs : List (Addr × Addr)}
/-- [name for _, constructors in kinds for name, _ in constructors], ended -/
theorem names_lc {a D : Addr} {xs : List V} {ks : List T} {N : Addr → Prop} {n : Int} {Qd : Hp → Prop} {H1 : Hp} {g g1 : TG} {wi1 : TI} {te : TE} {vs vs1 : List Nat} {σ : L2.St}
    (hS : SqT K H1 a xs) (hD : DenL K N H1 ks xs) (tok : TOk cs H1) (hn : H1 D = none) (hk : ∀ t ∈ ks, isKindT t n = true) (h3 : ks.length ≤ 3)
    (step : ∀ (x : V) (s : Str) (l : List T) (H : Hp) (acc : List V) (R : Hp → Prop), Den K (fun b => N b ∨ b = D) H (.tup [.str s, .tup l]) x → (∀ c ∈ l, isConsT c n = true) → l.length ≤ 4 → acc.length ≤ 12 → TOk cs H → Kp (N1 D) H1 H → H D = some (.lst acc) →
      (∀ H', TOk cs H' → Kp (N1 D) H1 H' → H' D = some (.lst (acc ++ (l.map cNameT).map V.str)) → R H') →
      g x (wipe σ vs) H fun σ2 H2 => wipe σ2 vs = wipe σ vs ∧ tYes σ2 H2 fun b H3 => if b = true then wi1 σ2 H3 fun J1 H4 => ∃ W1 : Nat → Nat → Hp → Prop, (∃ m, W1 0 m H4) ∧ ∀ j k H, W1 j k H →
        (J1.stop j H ∧ R H) ∨ (J1.go j H ∧ ∃ Nx1 : Hp → Prop, (∀ H', Nx1 H' → ∃ k', k' < k ∧ W1 (j + 1) k' H') ∧ ∀ x H', J1.yld j H x H' → g1 x (wipe σ2 vs1) H' fun σ3 H5 => wipe σ3 vs1 = wipe σ2 vs1 ∧ tYes σ3 H5 fun b H6 =>
          if b = true then te σ3 H6 fun y H7 => ∃ acc, H7 D = some (.lst acc) ∧ acc.length < sizeLine ∧ Nx1 (upd H7 D (.lst (acc ++ [y]))) else Nx1 H6) else R H3)
    (hd : ∀ H', TOk cs H' → Kp N0 H1 H' → H' D = some (.lst ((namesT ks).map V.str)) → Qd H') :
    ∃ W : Nat → Nat → Hp → Prop, (∃ m, W 0 m (upd H1 D (.lst []))) ∧ ∀ i m H, W i m H →
      ((Itt K a).stop i H ∧ Qd H) ∨ ((Itt K a).go i H ∧ ∃ Nx : Hp → Prop, (∀ H', Nx H' → ∃ m', m' < m ∧ W (i + 1) m' H') ∧ ∀ x H', (Itt K a).yld i H x H' → g x (wipe σ vs) H' fun σ2 H2 => wipe σ2 vs = wipe σ vs ∧ tYes σ2 H2 fun b H3 =>
        if b = true then wi1 σ2 H3 fun J1 H4 => ∃ W1 : Nat → Nat → Hp → Prop, (∃ m, W1 0 m H4) ∧ ∀ j k H, W1 j k H →
          (J1.stop j H ∧ Nx H) ∨ (J1.go j H ∧ ∃ Nx1 : Hp → Prop, (∀ H', Nx1 H' → ∃ k', k' < k ∧ W1 (j + 1) k' H') ∧ ∀ x H', J1.yld j H x H' → g1 x (wipe σ2 vs1) H' fun σ3 H5 => wipe σ3 vs1 = wipe σ2 vs1 ∧ tYes σ3 H5 fun b H6 =>
            if b = true then te σ3 H6 fun y H7 => ∃ acc, H7 D = some (.lst acc) ∧ acc.length < sizeLine ∧ Nx1 (upd H7 D (.lst (acc ++ [y]))) else Nx1 H6)
        else Nx H3) := by
  have hlen := hD.len
  have hD' : DenL K (fun b => N b ∨ b = D) H1 ks xs := DenL.avoid (fun b z => z.elim .inl fun z => .inr (by rw [z]; exact hn)) _ _ hD
  have k0 : ∀ {H}, Kp (N1 D) H1 H → Kp N0 H1 H := fun k => ⟨fun b o e q _ => k.keep b o e q (fun z => by rw [show b = D from z, hn] at e; cases e), k.tups, k.frz, k.stay⟩
  refine ⟨fun i m H => m = xs.length - i ∧ i ≤ xs.length ∧ TOk cs H ∧ Kp (N1 D) H1 H ∧ H D = some (.lst ((namesT (ks.take i)).map V.str)) ∧ (namesT (ks.take i)).length ≤ 4 * i, ⟨xs.length, by simp, Nat.zero_le _, tok.new hn, Kp.new hn, upd_same, Nat.zero_le _⟩, ?_⟩
  rintro i m H ⟨rfl, hi, p1, p2, p3, p4⟩
  have q := (k0 p2).sqT hS
  by_cases hlt : i < xs.length
  · obtain ⟨t, ht, hdt⟩ := (DenL.kp (p2.mono fun b z => .inr z) _ _ hD').get (show xs[i]? = some xs[i] by simp [hlt])
    obtain ⟨s, l, rfl, _, hl4, hc⟩ := kindForm (hk t (List.mem_of_getElem? ht))
    have tk : ks.take (i + 1) = ks.take i ++ [.tup [.str s, .tup l]] := by rw [List.take_add_one, ht]; rfl
    have nm : namesT (ks.take (i + 1)) = namesT (ks.take i) ++ l.map cNameT := by
      rw [tk]
      unfold namesT
      rw [List.flatMap_append, List.flatMap_cons, List.flatMap_nil, List.append_nil]
      rfl
    refine .inr ⟨⟨xs, xs[i], q, by simp [hlt]⟩, fun H => TOk cs H ∧ Kp (N1 D) H1 H ∧ H D = some (.lst ((namesT (ks.take (i + 1))).map V.str)), fun H' p => ⟨xs.length - (i + 1), by omega, rfl, hlt, p.1, p.2.1, p.2.2, ?_⟩, fun x H' y => ?_⟩
    · rw [nm, List.length_append, List.length_map]; omega
    · obtain ⟨rfl, y⟩ := y
      have ex : x = xs[i] := by have := y xs q; rw [List.getElem?_eq_getElem hlt] at this; exact (Option.some.inj this).symm
      subst ex
      refine step xs[i] s l H' _ _ hdt hc hl4 (by rw [List.length_map]; omega) p1 p2 p3 fun H'' z1 z2 z3 => ⟨z1, z2, ?_⟩
      rw [z3, nm, List.map_append]
  · have e : i = xs.length := by omega
    subst e
    rw [hlen, List.take_length] at p3
    exact .inl ⟨⟨xs, q, Nat.le_refl _⟩, hd H p1 (k0 p2) p3⟩
theorem ok_is_signature_form {f c q : Addr} {fd : FuncData} (F : FunC K "is_signature_form" "is_signature_form" s_is_signature_form f fd c) (TB : TabB base mg c q) (hcs : (c, q) ∈ cs) (G : Glo mg)
    (D1 : Df P w K mg base 1 "is_tuple_of" P_is_tuple_of (spT3 K cs isTupT)) (D2 : Df P w K mg base 11 "is_kind_form" P_is_kind_form (spT2 K cs isKindT)) (D3 : Df P w K mg base 1 "kinds_with_values" P_kinds_with_values (spKwv K cs)) :
    FnOk P w K mg base CX0 15 f fd P_is_signature_form (spT1 K cs isSigT) := by
  refine F.ok sc_is_signature_form (fun vs H Q E h => ?_) (fun A outer s H vs Q E hr h => ?_)
  · obtain ⟨v, t, N, rfl, _⟩ := h
    rfl
  · obtain ⟨v, t, N, rfl, hd, ho, k⟩ := h
    refine ⟨_, pss_cons (ps_if (pt_not (pt_val (pe_df D1 hr (pa_cons (pv 0) (pa_cons pe_int (pa_cons (C8.pe_gc rfl G.c_MOST_KINDS) pa_nil)))))) (pss_one (ps_ret pe_bl)) pss_nil)
      (pss_cons (ps_set (i := 1) sc_is_signature_form.nd rfl (Or.inr rfl) (pe_callB call_len_seq (by rfl) G.len boot_len (pa_cons (pv 0) pa_nil)))
      (pss_cons (ps_if (pt_not (pt_val (pe_allG (k := 11) (own := [("kind", 3)]) (g := gName 3) (hr.mono (by decide)) (by rfl) G.all (by decide +kernel) TB rfl sc_is_signature_form.nd (pi_tup (pv 0)) (blkOk_by (N := N_is_signature_form) (sc := defScope s_is_signature_form) (by decide +kernel)) rfl (by decide +kernel) (by decide +kernel)
        (fun _ _ _ _ _ _ _ => pg_name (i := 3) sc_is_signature_form.nd rfl (Or.inl rfl)) (fun _ _ _ _ _ _ _ hrr => pe_df D2 hrr (pa_cons (pv 3) (pa_cons (pv 1) pa_nil))) (fun _ => rfl)))) (pss_one (ps_ret pe_bl)) pss_nil)
      (pss_cons (ps_setLc2 (i := 2) (own := [("_", 4), ("constructors", 5), ("name", 6)]) (vs1 := [6, 4]) (wi1 := iTup K (tVar 5)) (g := gTup K 2 (gCons (gName 4) (gCons (gName 5) gNil))) (g1 := gTup K 2 (gCons (gName 6) (gCons (gName 4) gNil))) (tt := tYes) (tt1 := tYes) (te := tVar 6)
        rfl sc_is_signature_form.nd rfl rfl (sw_true rfl rfl rfl (by decide +kernel)) (pi_tup (pv 0)) (blkOk_by (N := N_is_signature_form) (sc := defScope s_is_signature_form) (by decide +kernel)) (by decide)
        (fun _ _ _ _ _ => pg_tup rfl (pgs_cons (pg_name (i := 4) sc_is_signature_form.nd rfl (.inl rfl)) (pgs_cons (pg_name (i := 5) sc_is_signature_form.nd rfl (.inl rfl)) pgs_nil)))
        (fun _ _ _ _ _ => pts_nil) (fun _ _ _ _ _ => pi_tup (pv 5))
        (fun _ _ _ _ _ => pg_tup rfl (pgs_cons (pg_name (i := 6) sc_is_signature_form.nd rfl (.inl rfl)) (pgs_cons (pg_name (i := 4) sc_is_signature_form.nd rfl (.inl rfl)) pgs_nil)))
        (fun _ _ _ _ _ => pts_nil) (fun _ _ _ _ _ => pv 6))
      (pss_cons (ps_if (pt_cmpR op_lt (pe_lenSetL (by rfl) G.len (by rfl) G.set (pv 2)) (pe_callB call_len_seq (by rfl) G.len boot_len (pa_cons (pv 2) pa_nil)) (nomark _)) (pss_one (ps_ret pe_bl)) pss_nil)
      (pss_one (ps_ret (pe_cmpR op_eq (pe_callB call_lenD (by rfl) G.len boot_len (pa_cons (pe_df D3 hr (pa_cons (pv 0) pa_nil)) pa_nil)) (pv 1) (nomark _)))))))), ?_⟩
    refine ⟨v, rfl, v, t, N, _, _, rfl, hd, ho, fun H1 e1 => ⟨_, rfl, ?_⟩⟩
    by_cases c1 : isTupT t 1 3 = true
    · rw [c1]
      cases t with
      | tup ks =>
        obtain ⟨a, xs, rfl, hS, hD⟩ := (show ∃ a xs, v = .ref a ∧ SqT K H1 a xs ∧ DenL K N H1 ks xs from by have := hd.ex0 e1; unfold Den at this; exact this)
        have hlen := hD.len
        have h3 : 1 ≤ ks.length ∧ ks.length ≤ 3 := by
          have c1 : (decide ((1 : Int) ≤ (ks.length : Int)) && decide ((ks.length : Int) ≤ 3)) = true := c1
          rw [Bool.and_eq_true, decide_eq_true_eq, decide_eq_true_eq] at c1
          omega
        obtain ⟨ps, hP, ht⟩ := e1.tok _ hcs
        refine iteF ⟨_, rfl, a, xs, rfl, .inr hS, _, rfl, a, rfl, ⟨_, hS⟩, ⟨ps, hP, ht⟩, fun H2 tb => ?_⟩
        have e2 := Ex.tab (N := N0) e1.tok hcs tb
        rw [hlen]
        refine all_den (fun u => isKindT u ks.length) (e2.toKp.sqT hS) (hD.ex0 e2) e2.tok (fun x u H5 hu hx tk Q' z => ⟨rfl, ?_⟩) fun H3 e3 => ⟨_, rfl, ?_⟩
        · exact ⟨_, rfl, _, rfl, x, u, N, _, rfl, hx, tk, z⟩
        have e13 := e1.trans (e2.trans e3)
        by_cases c2 : (ks.all fun u => isKindT u ks.length) = true
        · rw [c2]
          have hk : ∀ t ∈ ks, isKindT t (ks.length : Int) = true := List.all_eq_true.mp c2
          have hS3 := (e2.trans e3).toKp.sqT hS
          have hD3 := hD.ex0 (e2.trans e3)
          refine iteF ⟨_, rfl, a, rfl, ⟨_, hS3⟩, fun D hDn => ?_⟩
          refine names_lc (cs := cs) (n := ks.length) hS3 hD3 e3.tok hDn hk h3.2 ?_ ?_
          · intro x s l Hc acc R hx hc hl4 hacc tk kp hDacc fin
            obtain ⟨p, y1, y2, rfl, hp, hy1, hy2⟩ := den_pair hx
            obtain ⟨ac, ys, rfl, hSy, hDy⟩ := (show ∃ a xs, y2 = .ref a ∧ SqT K Hc a xs ∧ DenL K (fun b => N b ∨ b = D) Hc l xs from by unfold Den at hy2; exact hy2)
            have hly := hDy.len
            refine ⟨p, _, rfl, hp, rfl, _, _, rfl, _, _, rfl, rfl, rfl, ?_⟩
            unfold tYes
            dsimp only
            rw [if_pos rfl]
            refine ⟨_, rfl, ac, rfl, ⟨_, hSy⟩, ?_⟩
            have k1 : ∀ {H'}, Kp (N1 D) Hc H' → Kp (fun b => N b ∨ b = D) Hc H' := fun z => z.mono fun b e => .inr e
            refine ⟨fun j m H' => m = ys.length - j ∧ j ≤ ys.length ∧ TOk cs H' ∧ Kp (N1 D) Hc H' ∧ H' D = some (.lst (acc ++ ((l.take j).map cNameT).map V.str)), ⟨ys.length, by simp, Nat.zero_le _, tk, Kp.refl, by simpa using hDacc⟩, ?_⟩
            rintro j m H' ⟨rfl, hj, p1, p2, p3⟩
            by_cases hlt : j < ys.length
            · refine .inr ⟨⟨ys, ys[j], p2.sqT hSy, by simp [hlt]⟩, fun H'' => TOk cs H'' ∧ Kp (N1 D) Hc H'' ∧ H'' D = some (.lst (acc ++ ((l.take (j + 1)).map cNameT).map V.str)), fun H'' z => ⟨ys.length - (j + 1), by omega, rfl, hlt, z⟩, fun z H'' yz => ?_⟩
              obtain ⟨rfl, yz⟩ := yz
              obtain ⟨c, hcj, hdc⟩ := (DenL.kp (k1 p2) _ _ hDy).get (yz ys (p2.sqT hSy))
              obtain ⟨sn, pl, rfl, _, _, _⟩ := consForm (hc c (List.mem_of_getElem? hcj))
              obtain ⟨pc, z1, z2, rfl, hpc, hz1, hz2⟩ := den_pair hdc
              unfold Den at hz1
              obtain ⟨rfl, _⟩ := hz1
              refine ⟨pc, _, rfl, hpc, rfl, _, _, rfl, _, _, rfl, rfl, rfl, ?_⟩
              rw [if_pos rfl]
              refine ⟨_, rfl, _, p3, small1000 ?_, p1.put p3 (fun q z => by cases z), p2.trans (Kp.put p3 rfl), ?_⟩
              · rw [List.length_append, List.length_map, List.length_map, List.length_take]; omega
              · rw [upd_same, List.take_add_one, hcj, List.map_append, List.map_append, List.append_assoc]; rfl
            · have e : j = ys.length := by omega
              subst e
              rw [hly, List.take_length] at p3
              exact .inl ⟨⟨ys, p2.sqT hSy, Nat.le_refl _⟩, fin H' p1 (kp.trans p2) p3⟩
          · intro H4 tk4 kp4 hD4
            have nl : (namesT ks).length ≤ 12 := by
              have : ∀ (us : List T), (∀ t ∈ us, isKindT t (ks.length : Int) = true) → (namesT us).length ≤ 4 * us.length := fun us => by
                induction us with
                | nil => intro _; exact Nat.le_refl _
                | cons u us ih =>
                  intro hu
                  have h1 := ih fun t ht => hu t (List.mem_cons_of_mem _ ht)
                  obtain ⟨s, l, rfl, _, hl4, _⟩ := kindForm (hu u List.mem_cons_self)
                  show (l.map cNameT ++ namesT us).length ≤ _
                  rw [List.length_append, List.length_map, List.length_cons]; omega
              have := this ks hk
              omega
            have ex4 : Ex cs N0 H3 H4 := ⟨kp4, tk4⟩
            have q4 := k H4 (e13.trans ex4)
            have eS : isSigT (.tup ks) = (!decide (((nDiff (namesT ks) (namesT ks).length : Nat) : Int) < ((namesT ks).length : Int)) && decide ((((kwv ks ks.length).length : Nat) : Int) = (ks.length : Int))) := by
              show (_ && (_ && _)) = _
              rw [c1, c2, Bool.true_and, Bool.true_and]
            refine ⟨_, rfl, D, namesT ks, rfl, SqL.of hD4, by omega, _, rfl, D, _, rfl, .inl (SqL.of hD4), _, _, rfl, rfl, _, rfl, ?_⟩
            rw [List.length_map]
            by_cases c3 : (((nDiff (namesT ks) (namesT ks).length : Nat) : Int) < ((namesT ks).length : Int))
            · rw [decide_eq_true c3] at eS ⊢
              rw [eS] at q4
              exact iteT q4
            · rw [decide_eq_false c3] at eS ⊢
              have hd4 : Den K N H4 (.tup ks) (.ref a) := Den.tup_ (kp4.sqT hS3) (hD3.ex0 ex4)
              refine iteF ⟨_, rfl, .ref a, ks, N, _, rfl, hd4, hk, h3.2, tk4, fun d H5 e5 hd0 hd5 => ⟨d, _, rfl, hd5, _, rfl, rfl, ?_⟩⟩
              have q5 := k H5 (e13.trans (ex4.trans e5))
              rw [eS] at q5
              have e6 : decide (V.int ((dk (kwv ks ks.length)).length : Int) = V.int (ks.length : Int)) = (!false && decide ((((kwv ks ks.length).length : Nat) : Int) = (ks.length : Int))) := by
                rw [List.length_map]
                show _ = decide _
                by_cases c4 : (((kwv ks ks.length).length : Nat) : Int) = (ks.length : Int)
                · rw [decide_eq_true c4, decide_eq_true (congrArg V.int c4)]
                · rw [decide_eq_false c4, decide_eq_false fun z => c4 (V.int.inj z)]
              rw [← e6] at q5
              exact q5
        · rw [Bool.not_eq_true] at c2
          rw [c2]
          have q3 := k H3 e13
          have e4 : isSigT (.tup ks) = false := by
            show (_ && (_ && _)) = _
            rw [c2, Bool.false_and, Bool.and_false]
          rw [e4] at q3
          exact iteT q3
      | _ => cases c1
    · have q1 := k H1 e1
      rw [Bool.not_eq_true] at c1
      rw [c1]
      have e4 : isSigT t = false := by
        cases t with
        | tup ks => show (_ && (_ && _)) = _; rw [show isTupT (.tup ks) 1 3 = false from c1, Bool.false_and]
        | _ => rfl
      rw [e4] at q1
      exact iteT q1
end
end LW
namespace LW
open PySem PySem.Spec PyProof.Rows L2 GxR FW GA EN SL

/-- the law's stream of draws stands at S -/
def StOk (H : Hp) (S : Addr) : Prop := ∃ (a : Addr) (ns : List Int) (c k : Int), H S = some (.lst [.ref a, .int c, .int k]) ∧ H a = some (.lst (ns.map V.int)) ∧ 0 ≤ c ∧ 0 ≤ k ∧ a ≠ S
theorem StOk.ex0 {cs : List (Addr × Addr)} {H H' : Hp} {S : Addr} (h : StOk H S) (e : Ex cs N0 H H') : StOk H' S := by
  obtain ⟨a, ns, c, k, h1, h2, h3⟩ := h
  exact ⟨a, ns, c, k, e.keep _ _ h1 (fun q z => by cases z) fun z => z, e.keep _ _ h2 (fun q z => by cases z) fun z => z, h3⟩
/-- behind a draw: the stream has turned, nothing else -/
structure Dr (cs : List (Addr × Addr)) (S : Addr) (H H' : Hp) : Prop extends Ex cs (N1 S) H H' where
  st : StOk H' S
  same : ∀ a o1 o2, H S = some (.lst [.ref a, o1, o2]) → ∃ o3 o4, H' S = some (.lst [.ref a, o3, o4])
theorem Dr.trans {cs : List (Addr × Addr)} {S : Addr} {H H1 H2 : Hp} (x : Dr cs S H H1) (y : Dr cs S H1 H2) : Dr cs S H H2 := ⟨x.toEx.trans y.toEx, y.st, fun a o1 o2 e => by obtain ⟨o3, o4, e2⟩ := x.same a o1 o2 e; exact y.same a o3 o4 e2⟩
theorem Dr.of0 {cs : List (Addr × Addr)} {S : Addr} {H H1 : Hp} (h : StOk H S) (x : Ex cs N0 H H1) : Dr cs S H H1 := ⟨x.of0, h.ex0 x, fun a o1 o2 e => ⟨o1, o2, x.keep _ _ e (fun q z => by cases z) fun z => z⟩⟩
theorem Dr.new {cs : List (Addr × Addr)} {S p : Addr} {H : Hp} {o : HO} (h : StOk H S) (k : TOk cs H) (e : H p = none) : Dr cs S H (upd H p o) := Dr.of0 h (Ex.new k e)
theorem StOk.ne {H : Hp} {S D : Addr} (h : StOk H S) (e : H D = none) : D ≠ S := fun z => by
  obtain ⟨a, ns, c, k, h1, _⟩ := h
  rw [z, h1] at e; cases e
/-- a list that is new since H changes -/
theorem Dr.put {cs : List (Addr × Addr)} {S D : Addr} {H H' : Hp} {o : HO} {xs : List V} (dr : Dr cs S H H') (h : StOk H S) (hD : H D = none) (e : H' D = some (.lst xs)) : Dr cs S H (upd H' D o) := by
  refine ⟨⟨⟨fun b o e q n => ?_, fun b xs e => ?_, fun b o u e => ?_, fun b e => ?_⟩, dr.tok.put e fun q z => by cases z⟩, ?_, fun a o1 o2 e2 => ?_⟩
  · rw [upd_ne (fun z => by rw [z, hD] at e; cases e)]; exact dr.keep b o e q n
  · rw [upd_ne (fun z => by rw [z, hD] at e; cases e)]; exact dr.tups b xs e
  · rw [upd_ne (fun z => by rw [z, hD] at e; cases e)]; exact dr.frz b o u e
  · by_cases z : b = D
    · rw [z]; exact hD
    · rw [upd_ne z] at e; exact dr.stay b e
  · obtain ⟨a, ns, c, k, h1, h2, _⟩ := h
    obtain ⟨o3, o4, h3⟩ := dr.same a _ _ h1
    obtain ⟨a', ns', c', k', h1', h2', h4⟩ := dr.st
    rw [h3] at h1'
    have ea : a = a' := by
      have := HO.lst.inj (Option.some.inj h1')
      exact V.ref.inj (List.cons.inj this).1
    subst ea
    rw [h1'] at h3
    have nS : S ≠ D := fun z => by rw [z, hD] at h1; cases h1
    have na : a ≠ D := fun z => by rw [z, hD] at h2; cases h2
    refine ⟨a, ns', c', k', ?_, ?_, h4⟩
    · rw [upd_ne nS]; exact h3
    · rw [upd_ne na]; exact h2'
  · have nS : S ≠ D := fun z => by rw [z, hD] at e2; cases e2
    rw [upd_ne nS]
    exact dr.same a o1 o2 e2

def spStream (K : PySem.W.Frag) (cs : List (Addr × Addr)) : Sp := fun vs H Q _ => ∃ (a : Addr) (ns : List Int), vs = [.ref a] ∧ SqL K H a (ns.map V.int) ∧ TOk cs H ∧ ∀ S H', Ex cs N0 H H' → H S = none → StOk H' S → Q (.ref S) H'
def spNext (cs : List (Addr × Addr)) : Sp := fun vs H Q _ => ∃ S n, vs = [.ref S, .int n] ∧ StOk H S ∧ TOk cs H ∧ 0 < n ∧ n < 1000000 ∧ ∀ d H', 0 ≤ d → d < n → Dr cs S H H' → Q (.int d) H'
def spPick (K : PySem.W.Frag) (cs : List (Addr × Addr)) : Sp := fun vs H Q _ => ∃ S r xs, vs = [.ref S, .ref r] ∧ StOk H S ∧ TOk cs H ∧ ((H r = some (.lst xs) ∧ r ≠ S) ∨ SqT K H r xs) ∧ xs ≠ [] ∧ xs.length ≤ 1000 ∧
  ∀ v H', v ∈ xs → Dr cs S H H' → Q v H'

section
variable {P : Program} {w : World} {K : PySem.W.Frag} {mg : Str → Option Value} {base : Heap} {cs : List (Addr × Addr)}
theorem ok__law_stream {f : Addr} {fd : FuncData} (F : Fun K "_law_stream" "_law_stream" s__law_stream f fd) (G : Glo mg) : FnOk P w K mg base CX0 1 f fd P__law_stream (spStream K cs) := by
  refine F.ok sc__law_stream (fun vs H Q E h => ?_) (fun cdv A outer s H vs Q E hr h => ?_)
  · obtain ⟨a, ns, rfl, _⟩ := h
    rfl
  · obtain ⟨a, ns, rfl, hS, ho, k⟩ := h
    refine ⟨_, pss_one (ps_ret (pe_lst (pa_cons (pe_callTy call_list_of (by rfl) G.list (by decide +kernel) (pa_cons (pv 0) pa_nil)) (pa_cons pe_int (pa_cons pe_int pa_nil))))), ?_⟩
    refine ⟨_, rfl, a, _, rfl, .inl hS, fun l hl => ⟨by show 3 ≤ sizeLine; decide, fun S hSn => ?_⟩⟩
    have e1 : Ex cs N0 H (upd H l (.lst (ns.map V.int))) := Ex.new ho hl
    have nl : l ≠ S := fun z => by rw [← z, upd_same] at hSn; cases hSn
    have hSn' : H S = none := by rw [upd_ne (Ne.symm nl)] at hSn; exact hSn
    exact k S _ (e1.trans (Ex.new e1.tok hSn)) hSn' ⟨l, ns, 0, 0, upd_same, by rw [upd_ne nl, upd_same], by omega, by omega, nl⟩

theorem ok__law_next {f : Addr} {fd : FuncData} (F : Fun K "_law_next" "_law_next" s__law_next f fd) (G : Glo mg) : FnOk P w K mg base CX0 1 f fd P__law_next (spNext cs) := by
  refine F.ok sc__law_next (fun vs H Q E h => ?_) (fun cdv A outer s H vs Q E hr h => ?_)
  · obtain ⟨S, n, rfl, _⟩ := h
    rfl
  · obtain ⟨S, n, rfl, hst, ho, n0, n1, k⟩ := h
    refine ⟨_, C8.pss_cut (ps_if (pt_cmpR op_eq (pe_ix ix_list (pv 0) pe_int (fun _ _ => rfl)) pe_int (nomark _))
        (pss_cons (ps_set (i := 2) sc__law_next.nd rfl (.inl rfl) (pe_ix ix_list (pv 0) pe_int (fun _ _ => rfl)))
        (pss_cons (ps_set (i := 3) sc__law_next.nd rfl (.inl rfl) (pe_op op_add pe_int (pv 2)))
        (C8.pss_cut (ps_if (pt_cmpR op_lt (pv 2) (pe_callB call_len_seq (by rfl) G.len boot_len (pa_cons (pe_ix ix_list (pv 0) pe_int (fun _ _ => rfl)) pa_nil)) (nomark _))
          (pss_one (ps_set (i := 3) sc__law_next.nd rfl (.inl rfl) (pe_callB call_abs (by rfl) G.abs (by decide +kernel) (pa_cons (pe_ix ix_list (pe_ix ix_list (pv 0) pe_int (fun _ _ => rfl)) (pv 2) (fun _ _ => rfl)) pa_nil)))) pss_nil)
        (C8.pss_cut (ps_if (pt_cmpR op_lt (pv 3) (pe_op op_pow pe_int pe_int) (nomark _))
          (pss_cons (ps_set (i := 3) sc__law_next.nd rfl (.inl rfl) (pe_op op_mod (pe_callTy call_int1 (by rfl) G.int (by decide +kernel) (pa_cons (pe_op op_add (pe_op op_add (pe_op op_mul (pv 3) pe_int) (pe_op op_mul (pv 2) pe_int)) pe_int) pa_nil)) pe_int))
          (pss_one (ps_set (i := 3) sc__law_next.nd rfl (.inl rfl) (pe_op op_add (pe_op op_mul (pe_op op_mod (pe_callTy call_int1 (by rfl) G.int (by decide +kernel) (pa_cons (pe_op op_add (pe_op op_mul (pv 3) pe_int) pe_int) pa_nil)) pe_int) pe_int) (pv 3))))) pss_nil)
        (pss_cons (ps_asg (pv 3) (pg_sub (pv 0) pe_int set_list))
        (pss_one (ps_asg (pe_op op_add (pv 2) pe_int) (pg_sub (pv 0) pe_int set_list)))))))) pss_nil)
      (pss_cons (ps_set (i := 4) sc__law_next.nd rfl (.inl rfl) (pe_op op_mod (pe_callTy call_int1 (by rfl) G.int (by decide +kernel) (pa_cons (pe_ix ix_list (pv 0) pe_int (fun _ _ => rfl)) pa_nil)) (pv 1)))
      (pss_cons (ps_asg (pe_op op_fdiv (pe_ix ix_list (pv 0) pe_int (fun _ _ => rfl)) (pv 1)) (pg_sub (pv 0) pe_int set_list))
      (pss_one (ps_ret (pv 4))))), ?_⟩
    obtain ⟨a, ns, c, k', h1, h2, c0, k0, nS⟩ := hst
    refine ⟨fun σ H' => ∃ x2 x3 c1 k1, σ = [some (.ref S), some (.int n), x2, x3, none] ∧ Ex cs (N1 S) H H' ∧ H' S = some (.lst [.ref a, .int c1, .int k1]) ∧ 0 ≤ c1 ∧ 0 ≤ k1, ?_, ?_⟩
    · refine ⟨_, rfl, S, _, _, _, rfl, rfl, SqL.of h1, atI_nat (j := 1) rfl, rfl, _, rfl, ite2 (fun _ => ?_) fun _ => ?_⟩
      · refine ⟨_, rfl, S, _, _, _, rfl, rfl, SqL.of h1, atI_nat (j := 2) rfl, _, rfl, _, _, rfl, rfl, ?_⟩
        refine ⟨fun σ H' => ∃ c1, σ = [some (.ref S), some (.int n), some (.int k'), some (.int c1), none] ∧ H' = H ∧ 0 ≤ c1, ?_, ?_⟩
        · refine ⟨_, rfl, _, rfl, S, _, _, _, rfl, rfl, SqL.of h1, atI_nat (j := 0) rfl, a, _, rfl, .inl (SqL.of h2), _, _, rfl, rfl, _, rfl, ite2 (fun lt => ?_) fun _ => ⟨7 + k', rfl, rfl, by omega⟩⟩
          rw [decide_eq_true_eq, List.length_map] at lt
          obtain ⟨j, rfl⟩ := Int.eq_ofNat_of_zero_le k0
          have hj : j < ns.length := by omega
          refine ⟨_, rfl, S, _, _, _, rfl, rfl, SqL.of h1, atI_nat (j := 0) rfl, _, rfl, a, _, _, .int ns[j], rfl, rfl, SqL.of h2, atI_nat (by simp [hj]), ns[j], rfl, _, rfl, rfl, ?_⟩
          split <;> omega
        · rintro σ H' ⟨c1, rfl, rfl, p1⟩
          refine ⟨fun σ H'' => ∃ c1, σ = [some (.ref S), some (.int n), some (.int k'), some (.int c1), none] ∧ H'' = H' ∧ 0 ≤ c1, ?_, ?_⟩
          · refine ⟨_, rfl, _, _, rfl, rfl, ⟨by omega, by omega, by decide⟩, _, _, rfl, rfl, _, rfl, ite2 (fun _ => ?_) fun _ => ⟨c1, rfl, rfl, p1⟩⟩
            refine ⟨_, rfl, _, _, rfl, rfl, .inr ⟨by decide, by decide⟩, _, rfl, _, _, rfl, rfl, .inr ⟨by decide, by decide⟩, _, _, rfl, rfl, _, _, rfl, rfl, .inl ⟨_, rfl, _, _, rfl, rfl, (by show (0 : Int) < 2147483647; decide), ?_⟩⟩
            refine ⟨_, rfl, _, _, rfl, rfl, .inr ⟨by decide, by decide⟩, _, _, rfl, rfl, .inl ⟨_, rfl, _, _, rfl, rfl, (by show (0 : Int) < 2147483647; decide), _, _, rfl, rfl, .inr ⟨by decide, by decide⟩, _, rfl, _, _, rfl, rfl, _, rfl, rfl, ?_⟩⟩
            have a1 := Int.emod_nonneg (c1 * 48271 + k' * 69621 + 11) (show (2147483647 : Int) ≠ 0 by decide)
            have a2 := Int.emod_nonneg ((c1 * 48271 + k' * 69621 + 11) % 2147483647 * 16807 + 13) (show (2147483647 : Int) ≠ 0 by decide)
            omega
          · rintro σ H'' ⟨c1, rfl, rfl, p1⟩
            have kp : ∀ o, Ex cs (N1 S) H'' (upd H'' S o) := fun o => ⟨Kp.put h1 rfl, ho.put h1 fun q z => by cases z⟩
            refine ⟨_, rfl, _, rfl, S, _, _, 1, rfl, rfl, h1, rfl, _, rfl, _, _, rfl, rfl, _, rfl, S, _, _, 2, rfl, rfl, upd_same, rfl, _, _, c1, k' + 1, rfl, ?_, upd_same, p1, by omega⟩
            exact ⟨(kp _).toKp.trans (Kp.put upd_same rfl), (kp _).tok.put upd_same fun q z => by cases z⟩
      · exact ⟨_, _, c, k', rfl, Ex.refl ho, h1, c0, k0⟩
    · rintro σ H1 ⟨x2, x3, c1, k1, rfl, e1, p1, p2, p3⟩
      have hd1 := Int.emod_nonneg c1 (show n ≠ 0 by omega)
      have hd2 := Int.emod_lt_of_pos c1 n0
      refine ⟨_, rfl, S, _, _, _, rfl, rfl, SqL.of p1, atI_nat (j := 1) rfl, .inl ⟨_, rfl, _, rfl, _, _, rfl, rfl, n0, ?_⟩⟩
      refine ⟨_, rfl, S, _, _, _, rfl, rfl, SqL.of p1, atI_nat (j := 1) rfl, _, rfl, _, _, rfl, rfl, ⟨n0, by omega⟩, _, rfl, S, _, _, 1, rfl, rfl, p1, rfl, _, rfl, ?_⟩
      have h2' : H1 a = some (.lst (ns.map V.int)) := e1.keep _ _ h2 (fun q z => by cases z) nS
      refine k (c1 % n) _ hd1 hd2 ⟨e1.trans ⟨Kp.put p1 rfl, e1.tok.put p1 fun q z => by cases z⟩, ⟨a, ns, c1 / n, k1, upd_same, ?_, Int.ediv_nonneg p2 (by omega), p3, nS⟩, fun a2 o1 o2 e2 => ?_⟩
      · rw [upd_ne nS]
        exact h2'
      · rw [h1] at e2
        have := (List.cons.inj (HO.lst.inj (Option.some.inj e2))).1
        rw [← V.ref.inj this]
        exact ⟨_, _, upd_same⟩
end
end LW
namespace LW
open PySem PySem.Spec PyProof.Rows L2 GxR FW GA EN SL

theorem cut_lo (xs : List V) (i : Nat) (h : i ≤ xs.length) : cutV xs none (some (i : Int)) = xs.take i := by
  unfold cutV
  rw [HT.sIx_none, HT.sIx_nat, Nat.sub_zero, List.drop_zero, Nat.min_eq_left h]
theorem cut_hi (xs : List V) (i : Nat) (h : i ≤ xs.length) : cutV xs (some (i : Int)) none = xs.drop i := by
  unfold cutV
  rw [HT.sIx_none, HT.sIx_nat, Nat.min_eq_left h, List.take_of_length_le (by rw [List.length_drop]; exact Nat.le_refl _)]

/-- any order of 0 .. n - 1 -/
def spOrder (cs : List (Addr × Addr)) : Sp := fun vs H Q _ => ∃ S n, vs = [.ref S, .int n] ∧ StOk H S ∧ TOk cs H ∧ 0 ≤ n ∧ n ≤ 100 ∧
  ∀ D (ns : List Int) H', ns.Perm ((List.range n.toNat).map fun (i : Nat) => (i : Int)) → H D = none → Dr cs S H H' → H' D = some (.lst (ns.map V.int)) → Q (.ref D) H'
def spSame (cs : List (Addr × Addr)) : Sp := fun vs H Q _ => ∃ a b, vs = [.bl a, .bl b] ∧ TOk cs H ∧ ∀ H', Ex cs N0 H H' → Q (.bl (a == b)) H'

section
variable {P : Program} {w : World} {K : PySem.W.Frag} {mg : Str → Option Value} {base : Heap} {cs : List (Addr × Addr)}
theorem ok__law_pick {f : Addr} {fd : FuncData} (F : Fun K "_law_pick" "_law_pick" s__law_pick f fd) (G : Glo mg) (D1 : Df P w K mg base 1 "_law_next" P__law_next (spNext cs)) : FnOk P w K mg base CX0 2 f fd P__law_pick (spPick K cs) := by
  refine F.ok sc__law_pick (fun vs H Q E h => ?_) (fun cdv A outer s H vs Q E hr h => ?_)
  · obtain ⟨S, r, xs, rfl, _⟩ := h
    rfl
  · obtain ⟨S, r, xs, rfl, hst, ho, hx, ne, hl, k⟩ := h
    refine ⟨_, pss_one (ps_ret (pe_ix ix_seq (pv 1) (pe_df D1 hr (pa_cons (pv 0) (pa_cons (pe_callB call_len_seq (by rfl) G.len boot_len (pa_cons (pv 1) pa_nil)) pa_nil))) (fun _ _ => rfl))), ?_⟩
    have h0 : 0 < xs.length := List.length_pos_iff.mpr ne
    refine ⟨_, rfl, _, rfl, _, rfl, r, xs, rfl, hx.elim (fun h => .inl (SqL.of h.1)) .inr, S, _, rfl, hst, ho, by omega, by omega, fun d H' d0 d1 dr => ?_⟩
    obtain ⟨j, rfl⟩ := Int.eq_ofNat_of_zero_le d0
    have hj : j < xs.length := by omega
    have q := k xs[j] H' (List.getElem_mem hj) dr
    rcases hx with ⟨hx, nS⟩ | hx
    · exact .inl ⟨r, xs, _, _, rfl, rfl, SqL.of (dr.keep _ _ hx (fun q z => by cases z) nS), atI_nat (by simp [hj]), q⟩
    · exact .inr (.inl ⟨r, xs, _, _, rfl, rfl, dr.toKp.sqT hx, atI_nat (by simp [hj]), q⟩)

theorem ok__law_order {f : Addr} {fd : FuncData} (F : Fun K "_law_order" "_law_order" s__law_order f fd) (G : Glo mg) (D1 : Df P w K mg base 1 "_law_next" P__law_next (spNext cs)) : FnOk P w K mg base CX0 2 f fd P__law_order (spOrder cs) := by
  refine F.ok sc__law_order (fun vs H Q E h => ?_) (fun cdv A outer s H vs Q E hr h => ?_)
  · obtain ⟨S, n, rfl, _⟩ := h
    rfl
  · obtain ⟨S, n, rfl, hst, ho, n0, n1, k⟩ := h
    refine ⟨_, pss_cons (ps_set (i := 2) sc__law_order.nd rfl (.inl rfl) (pe_lst pa_nil))
      (pss_cons (ps_for PassesOwn.never rfl (pi_range1 rfl G.range (pa_cons (pv 1) pa_nil)) (pg_name (i := 3) sc__law_order.nd rfl (.inl rfl))
        (pss_cons (ps_set (i := 4) sc__law_order.nd rfl (.inl rfl) (pe_df D1 hr (pa_cons (pv 0) (pa_cons (pe_op op_add (pv 3) pe_int) pa_nil))))
        (pss_one (ps_set (i := 2) sc__law_order.nd rfl (.inl rfl) (pe_op op_cat (pe_op op_cat (pe_slice sl_list (pv 2) po_none (po_some (pv 4))) (pe_lst (pa_cons (pv 3) pa_nil))) (pe_slice sl_list (pv 2) (po_some (pv 4)) po_none))))))
      (pss_one (ps_ret (pv 2)))), ?_⟩
    refine ⟨Nat.zero_le _, fun D0 hD0 => ?_⟩
    have hnS : ∀ {H' : Hp} {D : Addr}, StOk H' S → H' D = none → D ≠ S := fun h e z => by
      obtain ⟨a, ns, c, k, h1, _⟩ := h
      rw [z, h1] at e; cases e
    refine ⟨_, rfl, n, rfl, by omega, by omega, for_range (n := n.toNat) (fun i σ H' => ∃ (D : Addr) (x3 x4 : Option V) (ns : List Int), σ = [some (.ref S), some (.int n), some (.ref D), x3, x4] ∧ H D = none ∧ D ≠ S ∧ Dr cs S H H' ∧ H' D = some (.lst (ns.map V.int)) ∧ ns.Perm ((List.range i).map fun (i : Nat) => (i : Int)))
      ⟨D0, none, none, [], rfl, hD0, hnS hst hD0, Dr.new hst ho hD0, upd_same, .refl _⟩ (fun i σ H' hi p => ?_) fun σ H' p => ?_⟩
    · obtain ⟨D, x3, x4, ns, rfl, hD, nD, dr, hl, pm⟩ := p
      have len : ns.length = i := by rw [pm.length_eq, List.length_map, List.length_range]
      refine ⟨_, rfl, _, rfl, _, _, rfl, rfl, S, _, rfl, dr.st, dr.tok, by omega, by omega, fun d H2 d0 d1 dr2 => ?_⟩
      obtain ⟨j, rfl⟩ := Int.eq_ofNat_of_zero_le d0
      have hj : j ≤ (ns.map V.int).length := by rw [List.length_map]; omega
      have hl2 := dr2.keep _ _ hl (fun q z => by cases z) nD
      refine ⟨_, rfl, _, rfl, _, rfl, D, _, rfl, SqL.of hl2, fun p1 hp1 => ⟨_, rfl, by show 1 ≤ sizeLine; decide, fun p2 hp2 => ?_⟩⟩
      have n12 : p1 ≠ p2 := fun z => by rw [← z, upd_same] at hp2; cases hp2
      refine ⟨p1, p2, _, _, rfl, rfl, by rw [upd_ne n12]; exact upd_same, upd_same, by show _ + 1 ≤ sizeLine; have := cutV_length (ns.map V.int) none (some (j : Int)); rw [List.length_map] at this; have : sizeLine = 16777216 := sizeLine_eq; omega, fun p3 hp3 => ?_⟩
      have n23 : p2 ≠ p3 := fun z => by rw [← z, upd_same] at hp3; cases hp3
      have n13 : p1 ≠ p3 := fun z => by rw [← z, upd_ne n12, upd_same] at hp3; cases hp3
      have nDp1 : D ≠ p1 := fun z => by rw [← z, hl2] at hp1; cases hp1
      have nDp2 : D ≠ p2 := fun z => by rw [← z, upd_ne nDp1, hl2] at hp2; cases hp2
      have nDp3 : D ≠ p3 := fun z => by rw [← z, upd_ne nDp2, upd_ne nDp1, hl2] at hp3; cases hp3
      refine ⟨_, rfl, _, rfl, _, rfl, D, _, rfl, SqL.of (by rw [upd_ne nDp3, upd_ne nDp2, upd_ne nDp1]; exact hl2), fun p4 hp4 => ?_⟩
      have n34 : p3 ≠ p4 := fun z => by rw [← z, upd_same] at hp4; cases hp4
      refine ⟨p3, p4, _, _, rfl, rfl, by rw [upd_ne n34]; exact upd_same, upd_same, ?_, fun p5 hp5 => ?_⟩
      · have : sizeLine = 16777216 := sizeLine_eq
        have l1 := cutV_length (ns.map V.int) none (some (j : Int))
        have l2 := cutV_length (ns.map V.int) (some (j : Int)) none
        rw [List.length_map] at l1 l2
        rw [List.length_append]
        show _ + 1 + _ ≤ _
        omega
      have a1 : Dr cs S H2 (upd H2 p1 (.lst (cutV (ns.map V.int) none (some (j : Int))))) := Dr.new dr2.st dr2.tok hp1
      have a2 := a1.trans (Dr.new (o := .lst [.int (0 + (i : Int))]) a1.st a1.tok hp2)
      have a3 := a2.trans (Dr.new (o := .lst (cutV (ns.map V.int) none (some (j : Int)) ++ [.int (0 + (i : Int))])) a2.st a2.tok hp3)
      have a4 := a3.trans (Dr.new (o := .lst (cutV (ns.map V.int) (some (j : Int)) none)) a3.st a3.tok hp4)
      have a5 := a4.trans (Dr.new (o := .lst (cutV (ns.map V.int) none (some (j : Int)) ++ [.int (0 + (i : Int))] ++ cutV (ns.map V.int) (some (j : Int)) none)) a4.st a4.tok hp5)
      have fr : H p5 = none := dr.stay _ (dr2.stay _ (a4.stay _ hp5))
      refine ⟨p5, _, _, ns.take j ++ [(i : Int)] ++ ns.drop j, rfl, fr, hnS a4.st hp5, dr.trans (dr2.trans a5), ?_, ?_⟩
      · rw [upd_same, cut_lo _ _ hj, cut_hi _ _ hj, List.map_append, List.map_append, List.map_take, List.map_drop, Int.zero_add]; rfl
      · rw [List.range_succ, List.map_append]
        have p1 : (ns.take j ++ [(i : Int)] ++ ns.drop j).Perm (ns ++ [(i : Int)]) := by
          have : (ns.take j ++ [(i : Int)] ++ ns.drop j).Perm (ns.take j ++ (ns.drop j ++ [(i : Int)])) := by
            rw [List.append_assoc]
            exact List.Perm.append_left _ List.perm_append_comm
          rw [← List.append_assoc, List.take_append_drop] at this
          exact this
        exact p1.trans (List.Perm.append_right _ pm)
    · obtain ⟨D, x3, x4, ns, rfl, hD, nD, dr, hl, pm⟩ := p
      exact ⟨_, rfl, k D ns H' pm hD dr hl⟩
end
end LW
namespace LW
open PySem PySem.Spec PyProof.Rows L2 GxR FW GA EN SL

section
variable {P : Program} {w : World} {K : PySem.W.Frag} {mg : Str → Option Value} {base : Heap} {cs : List (Addr × Addr)}
theorem ok__law_same {f : Addr} {fd : FuncData} (F : Fun K "_law_same" "_law_same" s__law_same f fd) (G : Glo mg) : FnOk P w K mg base CX0 1 f fd P__law_same (spSame cs) := by
  refine F.ok sc__law_same (fun vs H Q E h => ?_) (fun cdv A outer s H vs Q E hr h => ?_)
  · obtain ⟨a, b, rfl, _⟩ := h
    rfl
  · obtain ⟨a, b, rfl, ho, k⟩ := h
    refine ⟨_, pss_cons (ps_set (i := 2) sc__law_same.nd rfl (Or.inl rfl) (pe_lst (pa_cons (pe_tup (pa_cons (pv 0) (pa_cons (pv 1) pa_nil))) pa_nil)))
      (pss_cons (ps_for PassesOwn.never rfl (pi_range1 rfl G.range (pa_cons (pe_op op_pow pe_int pe_int) pa_nil)) (pg_name (i := 3) sc__law_same.nd rfl (.inl rfl))
        (pss_cons (ps_if (pt_cmpR op_eq (pe_callB call_len_seq (by rfl) G.len boot_len (pa_cons (pv 2) pa_nil)) pe_int (nomark _)) (pss_one (ps_ret pe_bl)) pss_nil)
        (pss_cons (ps_asg (pe_bm0 PySem.F.plainAttrs_list PySem.F.slot_list_pop PySem.F.type_list_pop mt_pop (pv 2)) (pg_tup rfl (pgs_cons (pg_name (i := 4) sc__law_same.nd rfl (Or.inr rfl)) (pgs_cons (pg_name (i := 5) sc__law_same.nd rfl (Or.inr rfl)) pgs_nil))))
        (pss_one (ps_if (PW.pt (pw_or (pt_val (pe_callB call_isi (by rfl) G.isinstance (by decide +kernel) (pa_cons (pv 5) (pa_cons (pe_bltn (v := .ty "tuple") (by rfl) G.tuple (by decide +kernel) rfl) pa_nil))))
            (pw_or1 (pt_val (pe_callB call_isi (by rfl) G.isinstance (by decide +kernel) (pa_cons (pv 5) (pa_cons (pe_bltn (v := .ty "list") (by rfl) G.list (by decide +kernel) rfl) pa_nil))))))) pss_never
          (pss_one (ps_if (pt_val (pe_callB call_isi (by rfl) G.isinstance (by decide +kernel) (pa_cons (pv 5) (pa_cons (pe_bltn (v := .ty "bool") (by rfl) G.bool (by decide +kernel) rfl) pa_nil))))
            (pss_one (ps_if (PW.pt (pw_or (pt_not (pt_val (pe_callB call_isi (by rfl) G.isinstance (by decide +kernel) (pa_cons (pv 4) (pa_cons (pe_bltn (v := .ty "bool") (by rfl) G.bool (by decide +kernel) rfl) pa_nil)))))
              (pw_or1 (pt_cmpR op_ne (pv 4) (pv 5) (nomark _))))) (pss_one (ps_ret pe_bl)) pss_nil)) pss_never)))))))
      (pss_one (ps_ret pe_bl))), ?_⟩
    refine ⟨_, rfl, _, rfl, by show 2 ≤ sizeLine; decide, fun p hp => ⟨by show 1 ≤ sizeLine; decide, fun L hL => ?_⟩⟩
    have npL : p ≠ L := fun z => by rw [← z, upd_same] at hL; cases hL
    have x1 : Ex cs N0 H (upd H p (.tup [.bl a, .bl b])) := Ex.new ho hp
    have x2 := x1.trans (Ex.new (o := .lst [.ref p]) x1.tok hL)
    have fr : H L = none := x1.stay _ hL
    have n1 : ∀ {H1 : Hp} {o : HO} {xs : List V}, Kp N0 H H1 → H1 L = some (.lst xs) → Kp N0 H (upd H1 L o) := fun {H1 o xs} k1 e => ⟨fun c u e1 q n => by
        have ne : c ≠ L := fun z => by rw [z, fr] at e1; cases e1
        rw [upd_ne ne]; exact k1.keep c u e1 q n, fun c ys e1 => by rw [upd_ne (fun z => by rw [z, fr] at e1; cases e1)]; exact k1.tups c ys e1,
        fun c ob u e1 => by rw [upd_ne (fun z => by rw [z, fr] at e1; cases e1)]; exact k1.frz c ob u e1, fun c e1 => by
          by_cases z : c = L
          · rw [z]; exact fr
          · rw [upd_ne z] at e1; exact k1.stay c e1⟩
    refine ⟨_, _, rfl, rfl, ⟨by decide, by decide, by decide⟩, _, rfl, by decide, by decide, for_range (n := ((10 : Int) ^ (9 : Int).toNat).toNat) (fun i σ H' => ∃ (x3 x4 x5 x6 : Option V), σ = [some (.bl a), some (.bl b), some (.ref L), x3, x4, x5, x6] ∧ Ex cs N0 H H' ∧
        ((i = 0 ∧ H' L = some (.lst [.ref p]) ∧ H' p = some (.tup [.bl a, .bl b])) ∨ (i = 1 ∧ H' L = some (.lst []) ∧ a = b)))
      ⟨none, none, none, none, rfl, x2, .inl ⟨rfl, upd_same, by rw [upd_ne npL]; exact upd_same⟩⟩ (fun i σ H' hi q => ?_) fun σ H' q => ?_⟩
    · obtain ⟨x3, x4, x5, x6, rfl, e, ⟨rfl, h1, h2⟩ | ⟨rfl, h1, h2⟩⟩ := q
      · refine ⟨_, rfl, L, _, rfl, .inl (SqL.of h1), rfl, _, rfl, iteF ?_⟩
        refine ⟨_, rfl, .inl ⟨rfl, _, .inl (.inl h1)⟩, L, _, _, rfl, rfl, h1, rfl, p, _, rfl, SqT.of (by rw [upd_ne npL]; exact h2), rfl, _, _, rfl, _, _, rfl, rfl, ?_⟩
        have kb : ∀ (T : String) (h : T ∈ ["int", "bool", "str", "tuple", "list"]) (c : Bool), PySem.W.kitOne K (.type "bool") (.type T) = some (isiB (.bl c) T) := fun T h c => isiKit (.bl c) T h
        refine ⟨_, rfl, _, .ty "tuple", _, _, _, rfl, .ty _, .base (.bl _), kb "tuple" (by decide) b, _, rfl, ?_⟩
        rw [isi_tuple]
        refine iteF ⟨_, rfl, _, .ty "list", _, _, _, rfl, .ty _, .base (.bl _), kb "list" (by decide) b, _, rfl, ?_⟩
        rw [isi_list]
        refine iteF ⟨_, rfl, _, .ty "bool", _, _, _, rfl, .ty _, .base (.bl _), kb "bool" (by decide) b, _, rfl, ?_⟩
        rw [isi_bool]
        refine iteT ⟨_, rfl, _, .ty "bool", _, _, _, rfl, .ty _, .base (.bl _), kb "bool" (by decide) a, _, rfl, ?_⟩
        rw [isi_bool]
        refine iteF ⟨_, rfl, _, rfl, rfl, _, rfl, ?_⟩
        have x3 : Ex cs N0 H (upd H' L (.lst [])) := ⟨n1 e.toKp h1, e.tok.put h1 fun q z => by cases z⟩
        by_cases c : a = b
        · rw [decide_eq_true (congrArg V.bl c)]
          exact iteF ⟨_, _, _, _, rfl, x3, .inr ⟨rfl, upd_same, c⟩⟩
        · rw [decide_eq_false (fun z => c (V.bl.inj z))]
          have q := k _ x3
          rw [show (a == b) = false from by rw [beq_eq_false_iff_ne]; exact c] at q
          exact iteT q
      · refine ⟨_, rfl, L, _, rfl, .inl (SqL.of h1), rfl, _, rfl, iteT ?_⟩
        have q := k _ e
        rw [show (a == b) = true from by rw [beq_iff_eq]; exact h2] at q
        exact q
    · obtain ⟨x3, x4, x5, x6, rfl, e, ⟨z, _⟩ | ⟨z, _⟩⟩ := q
      · exact absurd z (by decide)
      · exact absurd z (by decide)
end
end LW
namespace LW
open PySem PySem.Spec PyProof.Rows L2 GxR FW GA EN SL

theorem str_app (x y : Str) : (x ++ y).cps.toList = x.cps.toList ++ y.cps.toList := by
  show (Array.append x.cps y.cps).toList = _
  simp
theorem str_len (x : Str) : x.length = x.cps.toList.length := by
  show x.cps.size = _
  simp
theorem app_len (x y : Str) : (x ++ y).length = x.length + y.length := by rw [str_len, str_app, List.length_append, ← str_len, ← str_len]
abbrev letters : Str := "abcdefghijklmnopqrstuvwxyz"
theorem letters_eq : letters.cps.toList = List.range' 97 26 := by decide +kernel
theorem letter_at {d : Int} (h0 : 0 ≤ d) (h1 : d < 26) : ∃ c, atI letters.cps.toList d = some c ∧ c = 97 + d.toNat ∧ letterB c = true := by
  obtain ⟨j, rfl⟩ := Int.eq_ofNat_of_zero_le h0
  have hj : j < 26 := by omega
  refine ⟨97 + j, ?_, by simp, ?_⟩
  · rw [letters_eq]
    refine atI_nat ?_
    rw [List.getElem?_range' hj]
    simp
  · unfold letterB
    rw [decide_eq_true (by omega), decide_eq_true (by omega)]; rfl
def wordB (s : Str) : Bool := s.cps.toList.all letterB
def spWord (cs : List (Addr × Addr)) : Sp := fun vs H Q _ => ∃ S lo hi, vs = [.ref S, .int lo, .int hi] ∧ StOk H S ∧ TOk cs H ∧ 0 ≤ lo ∧ lo ≤ hi ∧ hi ≤ 100 ∧
  ∀ (s : Str) H', lo ≤ (s.length : Int) → (s.length : Int) ≤ hi → wordB s = true → Dr cs S H H' → Q (.str s) H'
section
variable {P : Program} {w : World} {K : PySem.W.Frag} {mg : Str → Option Value} {base : Heap} {cs : List (Addr × Addr)}
theorem ok__law_word {f : Addr} {fd : FuncData} (F : Fun K "_law_word" "_law_word" s__law_word f fd) (G : Glo mg) (D1 : Df P w K mg base 1 "_law_next" P__law_next (spNext cs)) : FnOk P w K mg base CX0 2 f fd P__law_word (spWord cs) := by
  refine F.ok sc__law_word (fun vs H Q E h => ?_) (fun cdv A outer s H vs Q E hr h => ?_)
  · obtain ⟨S, lo, hi, rfl, _⟩ := h
    rfl
  · obtain ⟨S, lo, hi, rfl, hst, ho, l0, l1, l2, k⟩ := h
    refine ⟨_, pss_cons (ps_set (i := 3) sc__law_word.nd rfl (.inl rfl) pe_str)
      (pss_cons (ps_set (i := 4) sc__law_word.nd rfl (.inl rfl) pe_str)
      (pss_cons (ps_for PassesOwn.never rfl (pi_range1 rfl G.range (pa_cons (pe_op op_add (pv 1) (pe_df D1 hr (pa_cons (pv 0) (pa_cons (pe_op op_add (pe_op op_sub (pv 2) (pv 1)) pe_int) pa_nil)))) pa_nil)) (pg_name (i := 5) sc__law_word.nd rfl (.inl rfl))
        (pss_one (ps_set (i := 4) sc__law_word.nd rfl (.inl rfl) (pe_op op_add_str (pv 4) (pe_ix ix_str (pv 3) (pe_df D1 hr (pa_cons (pv 0) (pa_cons pe_int pa_nil))) (fun _ _ => rfl))))))
      (pss_one (ps_ret (pv 4))))), ?_⟩
    refine ⟨_, rfl, _, rfl, _, rfl, _, rfl, _, _, rfl, rfl, _, _, rfl, rfl, S, _, rfl, hst, ho, by omega, by omega, fun d H1 d0 d1 dr => ⟨_, _, rfl, rfl, _, rfl, by omega, by omega, ?_⟩⟩
    refine for_range (n := (lo + d).toNat) (fun i σ H' => ∃ (x5 : Option V) (z : Str), σ = [some (.ref S), some (.int lo), some (.int hi), some (.str letters), some (.str z), x5] ∧ Dr cs S H H' ∧ z.length = i ∧ wordB z = true)
      ⟨none, _, rfl, dr, rfl, rfl⟩ (fun i σ H' hi p => ?_) fun σ H' p => ?_
    · obtain ⟨x5, z, rfl, dr', hz, hw⟩ := p
      refine ⟨_, rfl, _, rfl, _, rfl, S, _, rfl, dr'.st, dr'.tok, by omega, by omega, fun e H2 e0 e1 dr2 => ?_⟩
      obtain ⟨c, hc, _, hl⟩ := letter_at e0 e1
      refine ⟨_, _, _, rfl, rfl, by decide, hc, _, _, rfl, rfl, ?_, ?_⟩
      · have : sizeLine = 16777216 := sizeLine_eq
        show z.length + 1 ≤ _
        omega
      · refine ⟨_, _, rfl, dr'.trans dr2, by rw [app_len, hz]; rfl, ?_⟩
        unfold wordB
        rw [str_app, List.all_append]
        unfold wordB at hw
        rw [hw]
        show (letterB c && true) = true
        rw [hl]; rfl
    · obtain ⟨x5, z, rfl, dr', hz, hw⟩ := p
      exact ⟨_, rfl, k z H' (by omega) (by omega) hw dr'⟩
end
end LW
namespace FW
open PySem PySem.Spec PyProof.Rows L2 GxR GA
section
variable {K : PySem.W.Frag} {cs : List (Addr × Addr)} {g : TG} {te : TE} {tt : TT} {vs : List Nat} {σ : L2.St}
theorem kp_out {D : Addr} {H1 H : Hp} (hn : H1 D = none) (k : Kp (N1 D) H1 H) : Kp N0 H1 H :=
  ⟨fun b o e q _ => k.keep b o e q (fun z => by rw [show b = D from z, hn] at e; cases e), k.tups, k.frz, k.stay⟩
/-- [e for k in range(n)] -/
theorem lc_rng {D : Addr} {n : Nat} {Qd : Hp → Prop} {H1 : Hp} (f : Nat → V) (tok : TOk cs H1) (hn : H1 D = none) (hl : n < sizeLine)
    (hs : ∀ (i : Nat) H acc, i < n → TOk cs H → H D = some (.lst acc) → Kp (N1 D) H1 H → ∀ Q' : VK, (∀ H', Ex cs N0 H H' → Q' (f i) H') → g (.int (0 + (i : Int))) (wipe σ vs) H fun σ2 H3 => wipe σ2 vs = wipe σ vs ∧ te σ2 H3 Q')
    (hd : ∀ H', TOk cs H' → Kp N0 H1 H' → H' D = some (.lst ((List.range n).map f)) → Qd H') :
    ∃ W : Nat → Nat → Hp → Prop, (∃ m, W 0 m (upd H1 D (.lst []))) ∧ ∀ i m H, W i m H →
      ((Itr 0 n).stop i H ∧ Qd H) ∨ ((Itr 0 n).go i H ∧ ∃ Nx : Hp → Prop, (∀ H', Nx H' → ∃ m', m' < m ∧ W (i + 1) m' H') ∧ ∀ x H', (Itr 0 n).yld i H x H' → g x (wipe σ vs) H' fun σ2 H2 => wipe σ2 vs = wipe σ vs ∧ tYes σ2 H2 fun b H3 =>
        if b = true then te σ2 H3 fun y H4 => ∃ acc, H4 D = some (.lst acc) ∧ acc.length < sizeLine ∧ Nx (upd H4 D (.lst (acc ++ [y]))) else Nx H3) := by
  refine lc_range (lo := 0) (n := n) (fun i H => TOk cs H ∧ Kp (N1 D) H1 H ∧ H D = some (.lst ((List.range i).map f))) ⟨tok.new hn, Kp.new hn, upd_same⟩ (fun i H hi p => ?_) fun H p => ?_
  · obtain ⟨p1, p2, p3⟩ := p
    have := hs i H _ hi p1 p3 p2 (fun y H4 => ∃ acc, H4 D = some (.lst acc) ∧ acc.length < sizeLine ∧ (TOk cs (upd H4 D (.lst (acc ++ [y]))) ∧ Kp (N1 D) H1 (upd H4 D (.lst (acc ++ [y]))) ∧ (upd H4 D (.lst (acc ++ [y]))) D = some (.lst ((List.range (i + 1)).map f)))) fun H' e => ?_
    · exact this
    · have e1 : H' D = some (.lst ((List.range i).map f)) := e.keep _ _ p3 (fun q z => by cases z) fun z => z
      refine ⟨_, e1, ?_, e.tok.put e1 (fun q z => by cases z), (p2.trans (e.toKp.mono fun _ z => z.elim)).trans (Kp.put e1 rfl), ?_⟩
      · rw [List.length_map, List.length_range]; omega
      · rw [upd_same, List.range_succ, List.map_append]; rfl
  · obtain ⟨p1, p2, p3⟩ := p
    exact hd H p1 (kp_out hn p2) p3
/-- [e for c in text] -/
theorem lc_txt {D : Addr} {z : Str} {Qd : Hp → Prop} {H1 : Hp} (f : Nat → V) (tok : TOk cs H1) (hn : H1 D = none) (hl : z.cps.size < sizeLine)
    (hs : ∀ (c : Nat) H acc, c ∈ z.cps.toList → TOk cs H → H D = some (.lst acc) → Kp (N1 D) H1 H → ∀ Q' : VK, (∀ H', Ex cs N0 H H' → Q' (f c) H') → g (.str ⟨#[c]⟩) (wipe σ vs) H fun σ2 H3 => wipe σ2 vs = wipe σ vs ∧ te σ2 H3 Q')
    (hd : ∀ H', TOk cs H' → Kp N0 H1 H' → H' D = some (.lst (z.cps.toList.map f)) → Qd H') :
    ∃ W : Nat → Nat → Hp → Prop, (∃ m, W 0 m (upd H1 D (.lst []))) ∧ ∀ i m H, W i m H →
      ((Its z).stop i H ∧ Qd H) ∨ ((Its z).go i H ∧ ∃ Nx : Hp → Prop, (∀ H', Nx H' → ∃ m', m' < m ∧ W (i + 1) m' H') ∧ ∀ x H', (Its z).yld i H x H' → g x (wipe σ vs) H' fun σ2 H2 => wipe σ2 vs = wipe σ vs ∧ tYes σ2 H2 fun b H3 =>
        if b = true then te σ2 H3 fun y H4 => ∃ acc, H4 D = some (.lst acc) ∧ acc.length < sizeLine ∧ Nx (upd H4 D (.lst (acc ++ [y]))) else Nx H3) := by
  have hsz : z.cps.toList.length = z.cps.size := by simp
  refine ⟨fun i m H => m = z.cps.size - i ∧ i ≤ z.cps.size ∧ TOk cs H ∧ Kp (N1 D) H1 H ∧ H D = some (.lst ((z.cps.toList.take i).map f)), ⟨z.cps.size, by simp, Nat.zero_le _, tok.new hn, Kp.new hn, upd_same⟩, ?_⟩
  rintro i m H ⟨rfl, hi, p1, p2, p3⟩
  by_cases hlt : i < z.cps.size
  · refine .inr ⟨hlt, fun H => TOk cs H ∧ Kp (N1 D) H1 H ∧ H D = some (.lst ((z.cps.toList.take (i + 1)).map f)), fun H' p => ⟨z.cps.size - (i + 1), by omega, rfl, hlt, p⟩, fun x H' y => ?_⟩
    obtain ⟨rfl, c, hc, rfl⟩ := y
    have hc' : z.cps.toList[i]? = some c := by simpa using hc
    refine hs c _ _ (List.mem_of_getElem? hc') p1 p3 p2 (fun y H4 => ∃ acc, H4 D = some (.lst acc) ∧ acc.length < sizeLine ∧ (TOk cs (upd H4 D (.lst (acc ++ [y]))) ∧ Kp (N1 D) H1 (upd H4 D (.lst (acc ++ [y]))) ∧ (upd H4 D (.lst (acc ++ [y]))) D = some (.lst ((z.cps.toList.take (i + 1)).map f)))) fun H'' e => ?_
    have e1 : H'' D = some (.lst ((z.cps.toList.take i).map f)) := e.keep _ _ p3 (fun q z => by cases z) fun z => z
    refine ⟨_, e1, ?_, e.tok.put e1 (fun q z => by cases z), (p2.trans (e.toKp.mono fun _ z => z.elim)).trans (Kp.put e1 rfl), ?_⟩
    · rw [List.length_map, List.length_take]; omega
    · rw [upd_same, List.take_add_one, hc', List.map_append]; rfl
  · have e : i = z.cps.size := by omega
    subst e
    rw [← hsz, List.take_length] at p3
    exact .inl ⟨Nat.le_refl _, hd H p1 (kp_out hn p2) p3⟩
/-- [x for x in l if p(x)], l a list of texts -/
theorem lc_flt {D a : Addr} {ss : List Str} {Qd : Hp → Prop} {H1 : Hp} (p : Str → Bool) (hS : H1 a = some (.lst (ss.map V.str))) (tok : TOk cs H1) (hn : H1 D = none) (hl : ss.length < sizeLine)
    (hs : ∀ (s : Str) H acc (R1 R0 : Hp → Prop), s ∈ ss → TOk cs H → H D = some (.lst acc) → Kp (N1 D) H1 H → (p s = true → ∀ H', Ex cs N0 H H' → ∃ acc, H' D = some (.lst acc) ∧ acc.length < sizeLine ∧ R1 (upd H' D (.lst (acc ++ [.str s])))) → (p s = false → ∀ H', Ex cs N0 H H' → R0 H') →
      (∀ H', R0 H' → R1 H') → g (.str s) (wipe σ vs) H fun σ2 H2 => wipe σ2 vs = wipe σ vs ∧ tt σ2 H2 fun b H3 => if b = true then te σ2 H3 fun y H4 => ∃ acc, H4 D = some (.lst acc) ∧ acc.length < sizeLine ∧ R1 (upd H4 D (.lst (acc ++ [y]))) else R1 H3)
    (hd : ∀ H', TOk cs H' → Kp N0 H1 H' → H' D = some (.lst ((ss.filter p).map V.str)) → Qd H') :
    ∃ W : Nat → Nat → Hp → Prop, (∃ m, W 0 m (upd H1 D (.lst []))) ∧ ∀ i m H, W i m H →
      ((Itl K a).stop i H ∧ Qd H) ∨ ((Itl K a).go i H ∧ ∃ Nx : Hp → Prop, (∀ H', Nx H' → ∃ m', m' < m ∧ W (i + 1) m' H') ∧ ∀ x H', (Itl K a).yld i H x H' → g x (wipe σ vs) H' fun σ2 H2 => wipe σ2 vs = wipe σ vs ∧ tt σ2 H2 fun b H3 =>
        if b = true then te σ2 H3 fun y H4 => ∃ acc, H4 D = some (.lst acc) ∧ acc.length < sizeLine ∧ Nx (upd H4 D (.lst (acc ++ [y]))) else Nx H3) := by
  have naD : a ≠ D := fun z => by rw [z, hn] at hS; cases hS
  refine lc_list (K := K) (a := a) (xs := ss.map V.str) (fun i H => TOk cs H ∧ Kp (N1 D) H1 H ∧ H D = some (.lst (((ss.take i).filter p).map V.str))) ⟨tok.new hn, Kp.new hn, upd_same⟩ (fun i H _ q => SqL.of (q.2.1.keep _ _ hS (fun q z => by cases z) naD)) (fun i x H hx q => ?_) fun H q => ?_
  · obtain ⟨p1, p2, p3⟩ := q
    rw [List.getElem?_map] at hx
    cases hsi : ss[i]? with
    | none => rw [hsi] at hx; cases hx
    | some s =>
      rw [hsi] at hx
      obtain rfl : V.str s = x := Option.some.inj hx
      have hi : i < ss.length := (List.getElem?_eq_some_iff.mp hsi).1
      have tk : ss.take (i + 1) = ss.take i ++ [s] := by rw [List.take_add_one, hsi]; rfl
      refine hs s H _ _ (fun H => TOk cs H ∧ Kp (N1 D) H1 H ∧ H D = some (.lst (((ss.take (i + 1)).filter p).map V.str))) (List.mem_of_getElem? hsi) p1 p3 p2 (fun hp H' e => ?_) (fun hp H' e => ?_) fun _ z => z
      · have e1 := e.keep _ _ p3 (fun q z => by cases z) fun z => z
        refine ⟨_, e1, ?_, e.tok.put e1 (fun q z => by cases z), (p2.trans (e.toKp.mono fun _ z => z.elim)).trans (Kp.put e1 rfl), ?_⟩
        · have := List.length_filter_le p (ss.take i)
          rw [List.length_take] at this
          rw [List.length_map]; omega
        · rw [upd_same, tk, List.filter_append, List.filter_cons_of_pos hp, List.map_append]; rfl
      · have e1 := e.keep _ _ p3 (fun q z => by cases z) fun z => z
        refine ⟨e.tok, p2.trans (e.toKp.mono fun _ z => z.elim), ?_⟩
        rw [e1, tk, List.filter_append, List.filter_cons_of_neg (by rw [hp]; decide), List.filter_nil, List.append_nil]
  · obtain ⟨p1, p2, p3⟩ := q
    rw [List.length_map, List.take_length] at p3
    exact hd H p1 (kp_out hn p2) p3

/-! ### tuples joined and cut -/
theorem cat_rd {a b : Addr} {xs ys : List V} {H : Hp} {Q : VK} (ha : SqT K H a xs) (hb : SqT K H b ys) (tok : TOk cs H) (hl : xs.length + ys.length ≤ sizeLine)
    (k : ∀ p H', Ex cs N0 H H' → SqT K H' p (xs ++ ys) → Q (.ref p) H') : rCatA K (.ref a) (.ref b) H Q := by
  refine ⟨a, b, xs, ys, rfl, rfl, ha, hb, hl, fun e => ?_, fun _ e => ?_, fun _ _ p hp => ?_⟩
  · subst e; exact k b H (Ex.refl tok) hb
  · subst e; exact k a H (Ex.refl tok) (by rw [List.append_nil]; exact ha)
  · exact k p _ (Ex.new tok hp) (SqT.of upd_same)
theorem cut_rd {a : Addr} {xs : List V} {lo hi : Option Int} {H : Hp} {Q : VK} (ha : SqT K H a xs) (tok : TOk cs H)
    (k : ∀ p H', Ex cs N0 H H' → SqT K H' p (cutV xs lo hi) → Q (.ref p) H') : rSlA K (.ref a) lo hi H Q := by
  refine ⟨a, xs, rfl, ha, fun e => ?_, fun _ p hp => ?_⟩
  · refine k a H (Ex.refl tok) ?_
    have : cutV xs lo hi = xs := by
      unfold cutV
      rw [e.1, e.2, List.drop_zero, Nat.sub_zero, List.take_length]
    rw [this]; exact ha
  · exact k p _ (Ex.new tok hp) (SqT.of upd_same)
end
end FW
namespace LW
open PySem PySem.Spec PyProof.Rows L2 GxR FW GA EN SL

/-! ### texts as lists of signs -/
abbrev cp (s : Str) : List Nat := s.cps.toList
theorem cp_inj {s t : Str} (h : cp s = cp t) : s = t := by
  cases s with | mk a => cases t with | mk b => exact congrArg Str.mk (Array.toList_inj.mp h)
theorem cp_one (c : Nat) : cp ⟨#[c]⟩ = [c] := rfl
theorem cp_hi (z : Str) (i : Nat) (h : i ≤ z.length) : cp (cutS z none (some (i : Int))) = (cp z).take i := by
  unfold cutS
  rw [HT.sIx_none, HT.sIx_nat, Nat.min_eq_left h]
  show ((z.cps.toList.drop 0).take (i - 0)) = _
  rw [List.drop_zero, Nat.sub_zero]
theorem cp_lo (z : Str) (i : Nat) (h : i ≤ z.length) : cp (cutS z (some (i : Int)) none) = (cp z).drop i := by
  unfold cutS
  rw [HT.sIx_none, HT.sIx_nat, Nat.min_eq_left h]
  show ((z.cps.toList.drop i).take (z.length - i)) = _
  refine List.take_of_length_le ?_
  rw [List.length_drop, str_len]
  exact Nat.le_refl _
theorem cp_last (z : Str) (h : 1 ≤ z.length) : cp (cutS z none (some (-1))) = (cp z).take (z.length - 1) := by
  unfold cutS
  have e : HT.sIx z.length z.length (some (-1)) = z.length - 1 := by
    show (if (-1 : Int) < 0 then ((-1 : Int) + (z.length : Int)).toNat else min (-1 : Int).toNat z.length) = _
    rw [if_pos (by decide)]
    omega
  rw [e]
  show ((z.cps.toList.drop 0).take (z.length - 1 - 0)) = _
  rw [List.drop_zero, Nat.sub_zero]
theorem inV_str (s : Str) (ss : List Str) : inV (.str s) (ss.map V.str) = decide (s ∈ ss) := by
  unfold inV
  rw [List.any_map]
  by_cases h : s ∈ ss
  · rw [decide_eq_true h, List.any_eq_true]
    exact ⟨s, h, beq_self_eq_true s⟩
  · rw [decide_eq_false h, List.any_eq_false]
    intro y hy e
    exact h ((beq_iff_eq.mp (show (y == s) = true from e)) ▸ hy)
theorem flat_str (ss : List Str) : (ss.map V.str).all flatV = true := by
  rw [List.all_map]
  exact List.all_eq_true.mpr fun _ _ => rfl

/-- the word with another sign at a place -/
def swapAt (b : Str) (i c : Nat) : List Nat := (cp b).take i ++ [c] ++ (cp b).drop (i + 1)
theorem swap_len (b : Str) (i c : Nat) (h : i < b.length) : (swapAt b i c).length = b.length := by
  unfold swapAt
  rw [List.length_append, List.length_append, List.length_take, List.length_drop, ← str_len]
  show _ + 1 + _ = _
  omega
theorem swap_at (b : Str) (i c : Nat) (h : i < b.length) : (swapAt b i c)[i]? = some c := by
  unfold swapAt
  have : ((cp b).take i).length = i := by rw [List.length_take, ← str_len]; omega
  rw [List.append_assoc, List.getElem?_append_right (by omega), this, Nat.sub_self]
  rfl
theorem swap_all (b : Str) (i c : Nat) (h : wordB b = true) (hc : letterB c = true) : (swapAt b i c).all letterB = true := by
  unfold wordB at h
  rw [List.all_eq_true] at h ⊢
  intro x hx
  unfold swapAt at hx
  rcases List.mem_append.mp hx with hx | hx
  · rcases List.mem_append.mp hx with hx | hx
    · exact h x (List.mem_of_mem_take hx)
    · rw [List.mem_singleton.mp hx]; exact hc
  · exact h x (List.mem_of_mem_drop hx)
/-- a pigeon hole: of more different texts than stand there one is not there -/
theorem out_of {α : Type} [DecidableEq α] : ∀ (f : List α) (ss : List α), ss.Nodup → f.length < ss.length → ∃ s ∈ ss, s ∉ f
  | [], [], _, h => absurd h (Nat.lt_irrefl _)
  | [], s :: ss, _, _ => ⟨s, List.mem_cons_self, by simp⟩
  | x :: f, ss, nd, h => by
    obtain ⟨s, hs, hn⟩ := out_of f (ss.erase x) (nd.erase x) (by
      have : ss.length ≤ (ss.erase x).length + 1 := by
        rw [List.length_erase]; split <;> omega
      rw [List.length_cons] at h; omega)
    have := (List.Nodup.mem_erase_iff nd).mp hs
    exact ⟨s, this.2, fun z => (List.mem_cons.mp z).elim this.1 hn⟩
/-- good names: 2 to 8 letters, all different -/
def NamesOk (ss : List Str) : Prop := (∀ s ∈ ss, nameB s = true) ∧ ss.Nodup
theorem name_of {s : Str} (h2 : 2 ≤ s.length) (h8 : s.length ≤ 8) (h : wordB s = true) : nameB s = true := by
  unfold nameB
  rw [decide_eq_true (show (2 : Int) ≤ (s.length : Int) by omega), decide_eq_true (show (s.length : Int) ≤ 8 by omega)]
  exact h
theorem of_name {s : Str} (h : nameB s = true) : 2 ≤ s.length ∧ s.length ≤ 8 ∧ wordB s = true := by
  unfold nameB at h
  rw [Bool.and_eq_true, Bool.and_eq_true, decide_eq_true_eq, decide_eq_true_eq] at h
  exact ⟨by omega, by omega, h.2⟩
/-- the k-th of the names that differ at one place -/
def nthName (b : Str) (i t k : Nat) : Str := ⟨(swapAt b i (97 + (t + k) % 26)).toArray⟩
theorem nth_cp (b : Str) (i t k : Nat) : cp (nthName b i t k) = swapAt b i (97 + (t + k) % 26) := by unfold nthName; exact List.toList_toArray
theorem nth_ok (b : Str) (i t n : Nat) (h2 : 2 ≤ b.length) (h8 : b.length ≤ 8) (h : wordB b = true) (hi : i < b.length) (hn : n ≤ 26) : NamesOk ((List.range n).map (nthName b i t)) := by
  refine ⟨fun s hs => ?_, ?_⟩
  · obtain ⟨k, hk, rfl⟩ := List.mem_map.mp hs
    have hl : (nthName b i t k).length = b.length := by rw [str_len]; show (cp _).length = _; rw [nth_cp, swap_len _ _ _ hi]
    refine name_of (by omega) (by omega) ?_
    unfold wordB
    show (cp _).all _ = _
    rw [nth_cp]
    refine swap_all _ _ _ h ?_
    unfold letterB
    rw [decide_eq_true (by omega), decide_eq_true (by omega)]; rfl
  · unfold List.Nodup
    rw [List.pairwise_map]
    refine List.Pairwise.imp_of_mem (R := fun a b => a < b) (fun {x y} hx hy lt e => ?_) List.pairwise_lt_range
    have := congrArg (fun s => (cp s)[i]?) e
    simp only [nth_cp] at this
    rw [swap_at _ _ _ hi, swap_at _ _ _ hi] at this
    have := Option.some.inj this
    have hx := List.mem_range.mp hx
    have hy := List.mem_range.mp hy
    omega
/-- the options behind a word -/
def optOf (z : Str) (c : Nat) : Str := ⟨((cp z).take (z.length - 1) ++ [c]).toArray⟩
theorem opt_cp (z : Str) (c : Nat) : cp (optOf z c) = (cp z).take (z.length - 1) ++ [c] := by unfold optOf; exact List.toList_toArray
def optsOf (z : Str) : List Str := z :: (cp letters).map (optOf z)
theorem opts_names (z : Str) (h : nameB z = true) : ∀ s ∈ optsOf z, nameB s = true := by
  intro s hs
  rcases List.mem_cons.mp hs with rfl | hs
  · exact h
  · obtain ⟨c, hc, rfl⟩ := List.mem_map.mp hs
    obtain ⟨a1, a2, a3⟩ := of_name h
    have hl : (optOf z c).length = z.length := by
      rw [str_len]; show (cp _).length = _
      rw [opt_cp, List.length_append, List.length_take, ← str_len]
      show _ + 1 = _
      omega
    refine name_of (by omega) (by omega) ?_
    unfold wordB at a3 ⊢
    show (cp _).all _ = _
    rw [opt_cp]
    rw [List.all_eq_true] at a3 ⊢
    intro x hx
    rcases List.mem_append.mp hx with hx | hx
    · exact a3 x (List.mem_of_mem_take hx)
    · rw [List.mem_singleton.mp hx]
      rw [show cp letters = List.range' 97 26 from letters_eq] at hc
      have := List.mem_range'_1.mp hc
      unfold letterB
      rw [decide_eq_true (by omega), decide_eq_true (by omega)]; rfl
theorem opts_out (z : Str) (f : List Str) (hf : f.length < 26) : (optsOf z).filter (fun s => !decide (s ∈ f)) ≠ [] := by
  have nd : ((cp letters).map (optOf z)).Nodup := by
    unfold List.Nodup
    rw [List.pairwise_map]
    have : (cp letters).Nodup := by rw [show cp letters = List.range' 97 26 from letters_eq]; exact List.nodup_range'
    refine List.Pairwise.imp (fun {x y} ne e => ?_) this
    have := congrArg cp e
    rw [opt_cp, opt_cp] at this
    have := List.append_cancel_left this
    exact ne (List.cons.inj this).1
  obtain ⟨s, hs, hn⟩ := out_of f _ nd (by rw [List.length_map, show cp letters = List.range' 97 26 from letters_eq, List.length_range']; exact hf)
  intro e
  have : s ∈ (optsOf z).filter (fun s => !decide (s ∈ f)) := List.mem_filter.mpr ⟨List.mem_cons_of_mem _ hs, by rw [decide_eq_false hn]; rfl⟩
  rw [e] at this
  cases this
end LW
namespace LW
open PySem PySem.Spec PyProof.Rows L2 GxR FW GA EN SL

def spNames (cs : List (Addr × Addr)) : Sp := fun vs H Q _ => ∃ S m, vs = [.ref S, .int m, .int 2] ∧ StOk H S ∧ TOk cs H ∧ 0 ≤ m ∧ m ≤ 12 ∧
  ∀ D ss H', (ss.length : Int) = m → NamesOk ss → H D = none → Dr cs S H H' → H' D = some (.lst (ss.map V.str)) → Q (.ref D) H'
section
variable {P : Program} {w : World} {K : PySem.W.Frag} {mg : Str → Option Value} {base : Heap} {cs : List (Addr × Addr)}
theorem ok__law_names {f : Addr} {fd : FuncData} (F : Fun K "_law_names" "_law_names" s__law_names f fd) (G : Glo mg) (D1 : Df P w K mg base 1 "_law_next" P__law_next (spNext cs)) (D2 : Df P w K mg base 2 "_law_word" P__law_word (spWord cs)) :
    FnOk P w K mg base CX0 3 f fd P__law_names (spNames cs) := by
  refine F.ok sc__law_names (fun vs H Q E h => ?_) (fun cdv A outer s H vs Q E hr h => ?_)
  · obtain ⟨S, m, rfl, _⟩ := h
    rfl
  · obtain ⟨S, m, rfl, hst, ho, m0, m1, k⟩ := h
    refine ⟨_, pss_cons (ps_set (i := 3) sc__law_names.nd rfl (.inr rfl) pe_str)
      (pss_cons (ps_if (pt_cmpR op_eq (pe_df D1 hr (pa_cons (pv 0) (pa_cons pe_int pa_nil))) pe_int (nomark _))
        (pss_cons (ps_set (i := 4) sc__law_names.nd rfl (.inr rfl) (pe_df D2 hr (pa_cons (pv 0) (pa_cons (pv 2) (pa_cons pe_int pa_nil)))))
        (pss_cons (ps_set (i := 5) sc__law_names.nd rfl (.inr rfl) (pe_df D1 hr (pa_cons (pv 0) (pa_cons (pe_callB call_len_str (by rfl) G.len boot_len (pa_cons (pv 4) pa_nil)) pa_nil))))
        (pss_cons (ps_set (i := 6) sc__law_names.nd rfl (.inr rfl) (pe_df D1 hr (pa_cons (pv 0) (pa_cons pe_int pa_nil))))
        (pss_one (ps_ret (pe_lc (own := [("k", 8)]) (g := gName 8) (tt := tYes) rfl sc__law_names.nd (pi_range1 rfl G.range (pa_cons (pv 1) pa_nil)) (blkOk_by (N := N__law_names) (sc := defScope s__law_names) (by decide +kernel))
          (fun _ _ _ _ _ => pg_name (i := 8) sc__law_names.nd rfl (.inl rfl)) (fun _ _ _ _ _ => pts_nil)
          (fun _ _ _ _ _ => pe_op op_add_str (pe_op op_add_str (pe_slice sl_str (pv 4) po_none (po_some (pv 5))) (pe_ix ix_str (pv 3) (pe_op op_mod (pe_callTy call_int1 (by rfl) G.int (by decide +kernel) (pa_cons (pe_op op_add (pv 6) (pv 8)) pa_nil)) pe_int) (fun _ _ => rfl)))
            (pe_slice sl_str (pv 4) (po_some (pe_op op_add (pv 5) pe_int)) po_none)))))))) pss_nil)
      (pss_cons (ps_set (i := 7) sc__law_names.nd rfl (.inr rfl) (pe_lst pa_nil))
      (pss_cons (ps_for PassesOwn.never rfl (pi_range1 rfl G.range (pa_cons (pv 1) pa_nil)) (pg_name (i := 8) sc__law_names.nd rfl (.inl rfl))
        (pss_cons (ps_set (i := 9) sc__law_names.nd rfl (.inr rfl) (pe_df D2 hr (pa_cons (pv 0) (pa_cons (pv 2) (pa_cons pe_int pa_nil)))))
        (pss_cons (ps_set (i := 10) sc__law_names.nd rfl (.inl rfl) (pe_op op_cat (pe_lst (pa_cons (pv 9) pa_nil))
          (pe_lc (own := [("letter", 11)]) (g := gName 11) (tt := tYes) rfl sc__law_names.nd (pi_str (pv 3)) (blkOk_by (N := N__law_names) (sc := defScope s__law_names) (by decide +kernel))
            (fun _ _ _ _ _ => pg_name (i := 11) sc__law_names.nd rfl (.inl rfl)) (fun _ _ _ _ _ => pts_nil)
            (fun _ _ _ _ _ => pe_op op_add_str (pe_slice sl_str (pv 9) po_none (po_some (pe_un un_neg pe_int))) (pv 11)))))
        (pss_one (ps_expr (pe_bm PySem.F.plainAttrs_list PySem.F.slot_list_append PySem.F.type_list_append mt_append (pv 7) (pa_cons (pe_ix ix_list
          (pe_lc (own := [("option", 12)]) (g := gName 12) (tt := tTest (tOp (rIn K true) (tVar 12) (tVar 7))) rfl sc__law_names.nd (pi_list (pv 10)) (blkOk_by (N := N__law_names) (sc := defScope s__law_names) (by decide +kernel))
            (fun _ _ _ _ _ => pg_name (i := 12) sc__law_names.nd rfl (.inl rfl)) (fun _ _ _ _ _ => pts_one (pt_cmpR (r := rIn K true) op_notIn_seq (pv 12) (pv 7) (by with_unfolding_all rfl)))
            (fun _ _ _ _ _ => pv 12)) pe_int (fun _ _ => rfl)) pa_nil)))))))
      (pss_one (ps_ret (pv 7)))))), ?_⟩
    refine ⟨_, rfl, S, _, rfl, hst, ho, by decide, by decide, fun d H1 _ _ dr1 => ⟨rfl, _, rfl, ite2 (fun _ => ?_) fun _ => ?_⟩⟩
    · refine ⟨_, rfl, _, rfl, S, 2, 8, rfl, dr1.st, dr1.tok, by decide, by decide, by decide, fun b H2 b2 b8 bw dr2 => ?_⟩
      have hz : b.length ≤ sizeLine := by have : sizeLine = 16777216 := sizeLine_eq; omega
      refine ⟨_, rfl, _, rfl, _, rfl, hz, S, _, rfl, dr2.st, dr2.tok, by omega, by omega, fun at_ H3 at0 at1 dr3 => ?_⟩
      obtain ⟨i, rfl⟩ := Int.eq_ofNat_of_zero_le at0
      refine ⟨_, rfl, S, _, rfl, dr3.st, dr3.tok, by decide, by decide, fun tn H4 t0 t1 dr4 => ?_⟩
      obtain ⟨t, rfl⟩ := Int.eq_ofNat_of_zero_le t0
      have dr := dr1.trans (dr2.trans (dr3.trans dr4))
      have hi : i < b.length := by omega
      refine ⟨_, rfl, m, rfl, by omega, by omega, fun D hD => lc_rng (n := m.toNat) (fun k => .str (nthName b i t k)) dr4.tok hD (by have : sizeLine = 16777216 := sizeLine_eq; omega) (fun k H5 acc hk tk hl kp Q' z => ⟨rfl, ?_⟩) fun H5 tk kp hl => ?_⟩
      · obtain ⟨c, hc, hc2, _⟩ := letter_at (d := ((t : Int) + (0 + (k : Int))) % 26) (Int.emod_nonneg _ (by decide)) (Int.emod_lt_of_pos _ (by decide))
        refine ⟨_, rfl, _, rfl, _, rfl, b, rfl, hz, _, rfl, _, rfl, _, rfl, _, _, rfl, rfl, .inl ⟨_, rfl, _, _, rfl, rfl, (show (0 : Int) < 26 by decide), letters, _, c, rfl, rfl, by decide, hc, _, _, rfl, rfl, ?_, _, rfl, _, rfl, _, _, rfl, rfl, _, rfl, b, rfl, hz, _, _, rfl, rfl, ?_, ?_⟩⟩
        · have l1 := cutS_length b none (some (i : Int))
          have : sizeLine = 16777216 := sizeLine_eq
          show _ + 1 ≤ _
          omega
        · have l1 := cutS_length b none (some (i : Int))
          have l2 := cutS_length b (some ((i : Int) + 1)) none
          have : sizeLine = 16777216 := sizeLine_eq
          rw [app_len]
          show _ + 1 + _ ≤ _
          omega
        · have e : (cutS b none (some (i : Int)) ++ ⟨#[c]⟩) ++ cutS b (some ((i : Int) + 1)) none = nthName b i t k := by
            refine cp_inj ?_
            rw [nth_cp]
            show (cp _) = _
            unfold cp
            rw [str_app, str_app]
            rw [show (cutS b none (some (i : Int))).cps.toList = _ from cp_hi b i (by omega), show (cutS b (some ((i : Int) + 1)) none).cps.toList = _ from cp_lo b (i + 1) (by omega)]
            unfold swapAt
            rw [hc2]
            have : ((t : Int) + (0 + (k : Int))) % 26 = (((t + k) % 26 : Nat) : Int) := by omega
            rw [this, Int.toNat_natCast]
          have z2 := z H5 (Ex.refl tk)
          rw [← e] at z2
          exact z2
      · have e0 : Ex cs N0 H4 H5 := ⟨kp, tk⟩
        refine k D ((List.range m.toNat).map (nthName b i t)) H5 ?_ (nth_ok b i t _ (by omega) (by omega) bw hi (by omega)) (dr.stay _ hD) (dr.trans (Dr.of0 dr.st e0)) ?_
        · rw [List.length_map, List.length_range]; omega
        · rw [hl, List.map_map]; rfl
    · refine ⟨Nat.zero_le _, fun D0 hD0 => ?_⟩
      have dr1' := dr1.trans (Dr.new (o := .lst []) dr1.st dr1.tok hD0)
      refine ⟨_, rfl, m, rfl, by omega, by omega, for_range (n := m.toNat) (fun i σ H' => ∃ (D : Addr) (x8 x9 x10 : Option V) (ss : List Str), σ = [some (.ref S), some (.int m), some (.int 2), some (.str letters), none, none, none, some (.ref D), x8, x9, x10, none, none] ∧ H D = none ∧ D ≠ S ∧ Dr cs S H H' ∧ H' D = some (.lst (ss.map V.str)) ∧ ss.length = i ∧ NamesOk ss)
        ⟨D0, none, none, none, [], rfl, dr1.stay _ hD0, dr1.st.ne hD0, dr1', upd_same, rfl, ⟨fun _ z => (by cases z), List.nodup_nil⟩⟩ (fun i σ H' hi p => ?_) fun σ H' p => ?_⟩
      · obtain ⟨D, x8, x9, x10, ss, rfl, hD, nD, dr, hl, len, nok⟩ := p
        refine ⟨_, rfl, _, rfl, S, 2, 8, rfl, dr.st, dr.tok, by decide, by decide, by decide, fun z H2 z2 z8 zw dr2 => ?_⟩
        have zn : nameB z = true := name_of (by omega) (by omega) zw
        have hz : z.length ≤ sizeLine := by have : sizeLine = 16777216 := sizeLine_eq; omega
        have hl2 := dr2.keep _ _ hl (fun q z => by cases z) nD
        refine ⟨_, rfl, by show 1 ≤ sizeLine; decide, fun p1 hp1 => ⟨_, rfl, letters, rfl, fun p2 hp2 => ?_⟩⟩
        have a1 : Ex cs N0 H2 (upd H2 p1 (.lst [.str z])) := Ex.new dr2.tok hp1
        refine lc_txt (fun c => .str (optOf z c)) a1.tok hp2 (by decide) (fun c H3 acc hc tk hl3 kp Q' w => ⟨rfl, ?_⟩) fun H3 tk3 kp3 hl3 => ?_
        · refine ⟨_, rfl, _, rfl, _, rfl, z, rfl, hz, _, rfl, _, _, rfl, rfl, ?_, ?_⟩
          · have l1 := cutS_length z none (some (-1))
            have : sizeLine = 16777216 := sizeLine_eq
            show _ + 1 ≤ _
            omega
          · have e : cutS z none (some (-1)) ++ ⟨#[c]⟩ = optOf z c := by
              refine cp_inj ?_
              rw [opt_cp]
              unfold cp
              rw [str_app, show (cutS z none (some (-1))).cps.toList = _ from cp_last z (by omega)]
            have w2 := w H3 (Ex.refl tk)
            rw [← e] at w2
            exact w2
        · have a3 : Ex cs N0 H2 H3 := a1.trans ⟨kp3, tk3⟩
          have hp13 : H3 p1 = some (.lst [.str z]) := kp3.keep _ _ upd_same (fun q z => by cases z) fun z => z
          refine ⟨p1, p2, _, _, rfl, rfl, hp13, hl3, ?_, fun p3 hp3 => ?_⟩
          · rw [List.length_map, letters_eq, List.length_range']; show 1 + 26 ≤ _; decide
          have e4 : [V.str z] ++ letters.cps.toList.map (fun c => V.str (optOf z c)) = (optsOf z).map V.str := by
            show _ = V.str z :: _
            rw [List.map_map]; rfl
          rw [e4]
          have a4 : Ex cs N0 H2 (upd H3 p3 (.lst ((optsOf z).map V.str))) := a3.trans (Ex.new tk3 hp3)
          have hD4 := a4.keep _ _ hl2 (fun q z => by cases z) fun z => z
          refine ⟨_, rfl, .inl ⟨rfl, _, .inl (.inl hD4)⟩, _, rfl, p3, rfl, ⟨_, SqL.of upd_same⟩, fun p4 hp4 => ?_⟩
          refine lc_flt (ss := optsOf z) (fun s => !decide (s ∈ ss)) upd_same a4.tok hp4 (by unfold optsOf; rw [List.length_cons, List.length_map, show cp letters = List.range' 97 26 from letters_eq, List.length_range']; decide) (fun s H5 acc R1 R0 hs tk5 hl5 kp5 h1 h0 h01 => ⟨rfl, ?_⟩) fun H5 tk5 kp5 hl5 => ?_
          · have hD5 := kp5.keep _ _ hD4 (fun q z => by cases z) (ne_of_none hD4 hp4)
            refine ⟨_, rfl, _, rfl, D, _, rfl, .inl (SqL.of hD5), rfl, flat_str _, _, rfl, ?_⟩
            show if (!inV (.str s) (ss.map V.str)) = true then _ else _
            rw [inV_str]
            by_cases c : s ∈ ss
            · rw [decide_eq_true c] at h0 ⊢
              exact iteF (h01 _ (h0 rfl H5 (Ex.refl tk5)))
            · rw [decide_eq_false c] at h1 ⊢
              exact iteT ⟨_, rfl, h1 rfl H5 (Ex.refl tk5)⟩
          · have ne := opts_out z ss (by omega)
            generalize hF : (optsOf z).filter (fun s => !decide (s ∈ ss)) = F at ne hl5
            cases F with
            | nil => exact absurd rfl ne
            | cons s F =>
              have hs : s ∈ (optsOf z).filter (fun s => !decide (s ∈ ss)) := by rw [hF]; exact List.mem_cons_self
              obtain ⟨hs1, hs2⟩ := List.mem_filter.mp hs
              have hs2 : s ∉ ss := by
                intro c
                rw [decide_eq_true c] at hs2
                cases hs2
              have a5 : Ex cs N0 H2 H5 := a4.trans ⟨kp5, tk5⟩
              have hD5 := a5.keep _ _ hl2 (fun q z => by cases z) fun z => z
              refine ⟨p4, _, _, _, rfl, rfl, SqL.of hl5, atI_nat (j := 0) rfl, D, _, _, rfl, rfl, hD5, ?_, ?_⟩
              · rw [List.length_map]; exact small1000 (by omega)
              · have dr5 := dr.trans (dr2.trans (Dr.of0 dr2.st a5))
                refine ⟨D, _, _, _, ss ++ [s], rfl, hD, nD, dr5.put hst hD hD5, ?_, ?_, ?_, ?_⟩
                · rw [upd_same, List.map_append]; rfl
                · rw [List.length_append, len]; rfl
                · intro t ht
                  rcases List.mem_append.mp ht with ht | ht
                  · exact nok.1 t ht
                  · rw [List.mem_singleton.mp ht]; exact opts_names z zn s hs1
                · rw [List.nodup_append]
                  exact ⟨nok.2, List.nodup_cons.mpr ⟨by simp, List.nodup_nil⟩, fun a ha b hb e => hs2 (by rw [← List.mem_singleton.mp hb, ← e]; exact ha)⟩
      · obtain ⟨D, x8, x9, x10, ss, rfl, hD, nD, dr, hl, len, nok⟩ := p
        exact ⟨_, rfl, k D ss H' (by omega) nok hD dr hl⟩
end
end LW
namespace LW
open PySem PySem.Spec PyProof.Rows L2 GxR FW GA EN SL

/-! ### different texts -/
theorem nd_any (xs : List Str) (x : Str) : xs.any (· == x) = decide (x ∈ xs) := by
  by_cases h : x ∈ xs
  · rw [decide_eq_true h, List.any_eq_true]; exact ⟨x, h, beq_self_eq_true x⟩
  · rw [decide_eq_false h, List.any_eq_false]
    intro y hy e
    exact h ((beq_iff_eq.mp e) ▸ hy)
theorem nDiff_iff (xs : List Str) : ∀ i, i ≤ xs.length → (nDiff xs i = i ↔ (xs.take i).Nodup)
  | 0, _ => by simp [nDiff]
  | i + 1, h => by
    have ih := nDiff_iff xs i (by omega)
    have hle := nDiff_le xs i
    have hx : xs[i]? = some (xs.getD i Str.empty) := by
      rw [List.getD_eq_getElem?_getD, List.getElem?_eq_getElem (by omega)]; rfl
    unfold nDiff
    rw [nd_any, List.take_add_one, hx]
    show _ ↔ (xs.take i ++ [xs.getD i Str.empty]).Nodup
    generalize xs.getD i Str.empty = x
    rw [List.nodup_append]
    by_cases c : x ∈ xs.take i
    · rw [decide_eq_true c, if_pos rfl]
      refine ⟨fun e => by omega, fun e => absurd rfl (e.2.2 x c x List.mem_cons_self)⟩
    · rw [decide_eq_false c, if_neg Bool.false_ne_true]
      refine ⟨fun e => ⟨ih.mp (by omega), List.nodup_cons.mpr ⟨by simp, List.nodup_nil⟩, fun a ha b hb e => c (by rw [← List.mem_singleton.mp hb, ← e]; exact ha)⟩, fun e => by rw [ih.mpr e.1]⟩
theorem nDiff_all (xs : List Str) : (!decide (((nDiff xs xs.length : Nat) : Int) < (xs.length : Int))) = decide (xs.Nodup) := by
  have h := nDiff_iff xs xs.length (Nat.le_refl _)
  have hle := nDiff_le xs xs.length
  rw [List.take_length] at h
  by_cases c : xs.Nodup
  · rw [decide_eq_true c, h.mpr c, decide_eq_false (by omega)]; rfl
  · have : nDiff xs xs.length ≠ xs.length := fun e => c (h.mp e)
    rw [decide_eq_false c, decide_eq_true (by omega)]; rfl

/-! ### kinds that have a value -/
inductive Gd (ks : List T) : Nat → Prop
  | op {k : Nat} {t : T} : ks[k]? = some t → kOpenT t = true → Gd ks k
  | cl {k : Nat} {t c : T} : ks[k]? = some t → c ∈ kConsT t → (∀ p ∈ cPartsT c, ∃ i : Nat, p = .int i) → (∀ i : Nat, T.int i ∈ cPartsT c → Gd ks i) → Gd ks k
theorem passK_pre (ks : List T) : ∀ (j : Nat) (f : List Int), ∃ r, passK ks j f = f ++ r
  | 0, f => ⟨[], by rw [List.append_nil]; rfl⟩
  | j + 1, f => by
    obtain ⟨r, e⟩ := passK_pre ks j f
    unfold passK
    split
    · split
      · unfold addF
        split
        · exact ⟨r, e⟩
        · exact ⟨r ++ [(j : Int)], by rw [e, List.append_assoc]⟩
      · exact ⟨r, e⟩
    · exact ⟨r, e⟩
theorem passK_nd (ks : List T) : ∀ (j : Nat) (f : List Int), f.Nodup → (passK ks j f).Nodup
  | 0, f, h => h
  | j + 1, f, h => by
    have ih := passK_nd ks j f h
    unfold passK
    split
    · split
      · unfold addF
        split
        · exact ih
        · rename_i c
          rw [List.nodup_append]
          exact ⟨ih, List.nodup_cons.mpr ⟨by simp, List.nodup_nil⟩, fun a ha b hb e => c (by rw [← List.mem_singleton.mp hb, ← e]; exact ha)⟩
      · exact ih
    · exact ih
theorem kwv_nd (ks : List T) : ∀ m, (kwv ks m).Nodup
  | 0 => List.nodup_nil
  | m + 1 => passK_nd ks _ _ (kwv_nd ks m)
def Sd (ks : List T) (f : List Int) : Prop := ∀ i ∈ f, ∃ k : Nat, i = k ∧ k < ks.length ∧ Gd ks k
theorem inF_int {f : List Int} {p : T} (h : inF f p = true) : ∃ i, p = .int i ∧ i ∈ f := by
  cases p with
  | int i => exact ⟨i, rfl, of_decide_eq_true h⟩
  | _ => cases h
theorem condK_gd {ks : List T} {f : List Int} {k : Nat} {t : T} (hk : ks[k]? = some t) (hs : Sd ks f) (h : condK f t = true) : Gd ks k := by
  unfold condK at h
  rw [Bool.or_eq_true] at h
  rcases h with h | h
  · exact .op hk h
  · obtain ⟨c, hc, ha⟩ := List.any_eq_true.mp h
    rw [List.all_eq_true] at ha
    refine .cl hk hc (fun p hp => ?_) fun i hi => ?_
    · obtain ⟨i, rfl, hi⟩ := inF_int (ha p hp)
      obtain ⟨k, rfl, _⟩ := hs i hi
      exact ⟨k, rfl⟩
    · obtain ⟨j, e, hj⟩ := inF_int (ha _ hi)
      obtain ⟨k, e2, _, g⟩ := hs j hj
      have : (i : Int) = j := T.int.inj e
      have : i = k := by omega
      rw [this]; exact g
theorem passK_sd (ks : List T) : ∀ (j : Nat) (f : List Int), Sd ks f → Sd ks (passK ks j f)
  | 0, f, h => h
  | j + 1, f, h => by
    have ih := passK_sd ks j f h
    unfold passK
    split
    · rename_i t ht
      split
      · rename_i c
        unfold addF
        split
        · exact ih
        · intro i hi
          rcases List.mem_append.mp hi with hi | hi
          · exact ih i hi
          · rw [List.mem_singleton.mp hi]
            exact ⟨j, rfl, (List.getElem?_eq_some_iff.mp ht).1, condK_gd ht ih c⟩
      · exact ih
    · exact ih
theorem kwv_sd (ks : List T) : ∀ m, Sd ks (kwv ks m)
  | 0 => fun _ h => by cases h
  | m + 1 => passK_sd ks _ _ (kwv_sd ks m)
/-- nothing comes any more: all that have a value are there -/
theorem closed_gd {ks : List T} {f : List Int} (h : passK ks ks.length f = f) {k : Nat} (g : Gd ks k) : (k : Int) ∈ f := by
  have mono : ∀ d j, j + d = ks.length → passK ks j f = f := by
    intro d
    induction d with
    | zero => intro j e; rw [show j = ks.length by omega]; exact h
    | succ d ih =>
      intro j e
      have h1 := ih (j + 1) (by omega)
      obtain ⟨r, e1⟩ := passK_pre ks j f
      have : ∃ r', passK ks (j + 1) f = passK ks j f ++ r' := by
        conv => enter [1, r', 1]; unfold passK
        split
        · split
          · unfold addF
            split
            · exact ⟨[], by rw [List.append_nil]⟩
            · exact ⟨_, rfl⟩
          · exact ⟨[], by rw [List.append_nil]⟩
        · exact ⟨[], by rw [List.append_nil]⟩
      obtain ⟨r', e2⟩ := this
      rw [h1, e1, List.append_assoc] at e2
      have := congrArg List.length e2
      rw [List.length_append, List.length_append] at this
      have : r = [] := List.length_eq_zero_iff.mp (by omega)
      rw [e1, this, List.append_nil]
  have cond : ∀ (k : Nat) t, ks[k]? = some t → condK f t = true → (k : Int) ∈ f := fun k t ht c => by
    have hk := (List.getElem?_eq_some_iff.mp ht).1
    have h1 := mono (ks.length - (k + 1)) (k + 1) (by omega)
    have h0 := mono (ks.length - k) k (by omega)
    have : passK ks (k + 1) f = if condK (passK ks k f) t = true then addF (passK ks k f) k else passK ks k f := by
      show (match ks[k]? with | some t => _ | none => _) = _
      rw [ht]
    rw [h1, h0, if_pos c] at this
    unfold addF at this
    by_cases z : (k : Int) ∈ f
    · exact z
    · rw [if_neg z] at this
      have := congrArg List.length this
      rw [List.length_append] at this
      exact absurd this (by show ¬ _ = _ + 1; omega)
  induction g with
  | op ht ho => exact cond _ _ ht (by unfold condK; rw [ho]; rfl)
  | @cl k t c ht hc h1 h2 ih =>
    refine cond _ _ ht ?_
    unfold condK
    rw [Bool.or_eq_true]
    refine .inr (List.any_eq_true.mpr ⟨c, hc, List.all_eq_true.mpr fun p hp => ?_⟩)
    obtain ⟨i, rfl⟩ := h1 p hp
    exact decide_eq_true (ih i hp)
/-- different numbers beneath n are at most n; n of them are all -/
abbrev rgI (n : Nat) : List Int := (List.range n).map fun k : Nat => (k : Int)
theorem rg_len (n : Nat) : (rgI n).length = n := by rw [List.length_map, List.length_range]
theorem rg_nd (n : Nat) : (rgI n).Nodup := by
  unfold List.Nodup
  rw [List.pairwise_map]
  exact List.Pairwise.imp (fun {x y} lt e => by omega) List.pairwise_lt_range
theorem sub_len {f : List Int} {n : Nat} (nd : f.Nodup) (h : ∀ i ∈ f, ∃ k : Nat, i = k ∧ k < n) : f.length ≤ n := by
  refine Nat.le_of_not_lt fun lt => ?_
  obtain ⟨s, hs, hn⟩ := out_of (rgI n) f nd (by rw [rg_len]; exact lt)
  obtain ⟨k, rfl, hk⟩ := h s hs
  exact hn (List.mem_map.mpr ⟨k, List.mem_range.mpr hk, rfl⟩)
theorem sub_all {f : List Int} {n : Nat} (nd : f.Nodup) (h : ∀ i ∈ f, ∃ k : Nat, i = k ∧ k < n) (hl : n ≤ f.length) {k : Nat} (hk : k < n) : (k : Int) ∈ f := by
  refine Classical.byContradiction fun c => ?_
  obtain ⟨s, hs, hn⟩ := out_of (rgI n) ((k : Int) :: f) (List.nodup_cons.mpr ⟨c, nd⟩) (by rw [rg_len, List.length_cons]; omega)
  have : ∃ k : Nat, s = k ∧ k < n := (List.mem_cons.mp hs).elim (fun e => ⟨k, e, hk⟩) (h s)
  obtain ⟨k, rfl, hk⟩ := this
  exact hn (List.mem_map.mpr ⟨k, List.mem_range.mpr hk, rfl⟩)
theorem all_len {f : List Int} {n : Nat} (h : ∀ k : Nat, k < n → (k : Int) ∈ f) : n ≤ f.length := by
  refine Nat.le_of_not_lt fun lt => ?_
  obtain ⟨s, hs, hn⟩ := out_of f (rgI n) (rg_nd n) (by rw [rg_len]; exact lt)
  obtain ⟨k, hk, rfl⟩ := List.mem_map.mp hs
  exact hn (h k (List.mem_range.mp hk))
theorem kwv_iff (ks : List T) : (kwv ks ks.length).length = ks.length ↔ ∀ k < ks.length, Gd ks k := by
  have nd := kwv_nd ks ks.length
  have sd := kwv_sd ks ks.length
  have sd' : ∀ i ∈ kwv ks ks.length, ∃ k : Nat, i = k ∧ k < ks.length := fun i hi => by
    obtain ⟨k, a, b, _⟩ := sd i hi
    exact ⟨k, a, b⟩
  have step : ∀ m, m ≤ (kwv ks m).length ∨ passK ks ks.length (kwv ks m) = kwv ks m := by
    intro m
    induction m with
    | zero => exact .inl (Nat.zero_le _)
    | succ m ih =>
      rcases ih with ih | ih
      · obtain ⟨r, e⟩ := passK_pre ks ks.length (kwv ks m)
        cases r with
        | nil =>
          rw [List.append_nil] at e
          refine .inr ?_
          show passK ks _ (passK ks _ (kwv ks m)) = passK ks _ (kwv ks m)
          rw [e, e]
        | cons x r =>
          refine .inl ?_
          show _ ≤ (passK ks _ (kwv ks m)).length
          rw [e, List.length_append, List.length_cons]
          omega
      · refine .inr ?_
        show passK ks _ (passK ks _ (kwv ks m)) = passK ks _ (kwv ks m)
        rw [ih, ih]
  constructor
  · intro e k hk
    have := sub_all nd sd' (by omega) hk
    obtain ⟨j, e2, _, g⟩ := sd _ this
    rw [show k = j by omega]; exact g
  · intro h
    have le := sub_len nd sd'
    rcases step ks.length with s | s
    · omega
    · have := all_len (n := ks.length) (f := kwv ks ks.length) fun k hk => closed_gd s (h k hk)
      omega
theorem isSig_eq {ks : List T} (h1 : 1 ≤ ks.length) (h3 : ks.length ≤ 3) (hk : ∀ t ∈ ks, isKindT t ks.length = true) (nd : (namesT ks).Nodup) : isSigT (.tup ks) = decide (((kwv ks ks.length).length : Nat) = ks.length) := by
  show (isTupT (.tup ks) 1 3 && ((ks.all fun u => isKindT u ks.length) && (!decide (((nDiff (namesT ks) (namesT ks).length : Nat) : Int) < ((namesT ks).length : Int)) && decide ((((kwv ks ks.length).length : Nat) : Int) = (ks.length : Int))))) = _
  have e1 : isTupT (.tup ks) 1 3 = true := by
    show (decide ((1 : Int) ≤ (ks.length : Int)) && decide ((ks.length : Int) ≤ 3)) = true
    rw [decide_eq_true (by omega), decide_eq_true (by omega)]; rfl
  rw [e1, List.all_eq_true.mpr hk, nDiff_all, decide_eq_true nd, Bool.true_and, Bool.true_and, Bool.true_and]
  by_cases c : (kwv ks ks.length).length = ks.length
  · rw [decide_eq_true c, decide_eq_true (by omega)]
  · rw [decide_eq_false c, decide_eq_false (by omega)]
theorem isSig_true {ks : List T} (h1 : 1 ≤ ks.length) (h3 : ks.length ≤ 3) (hk : ∀ t ∈ ks, isKindT t ks.length = true) (nd : (namesT ks).Nodup) (g : ∀ k < ks.length, Gd ks k) : isSigT (.tup ks) = true := by
  rw [isSig_eq h1 h3 hk nd, decide_eq_true ((kwv_iff ks).mpr g)]
theorem of_isSig {t : T} (h : isSigT t = true) : ∃ ks, t = .tup ks ∧ 1 ≤ ks.length ∧ ks.length ≤ 3 ∧ (∀ t ∈ ks, isKindT t ks.length = true) ∧ (namesT ks).Nodup ∧ ∀ k < ks.length, Gd ks k := by
  cases t with
  | tup ks =>
    have h : (isTupT (.tup ks) 1 3 && ((ks.all fun u => isKindT u ks.length) && (!decide (((nDiff (namesT ks) (namesT ks).length : Nat) : Int) < ((namesT ks).length : Int)) && decide ((((kwv ks ks.length).length : Nat) : Int) = (ks.length : Int))))) = true := h
    rw [nDiff_all, Bool.and_eq_true, Bool.and_eq_true, Bool.and_eq_true] at h
    obtain ⟨a, b, c, d⟩ := h
    have a : (decide ((1 : Int) ≤ (ks.length : Int)) && decide ((ks.length : Int) ≤ 3)) = true := a
    rw [Bool.and_eq_true, decide_eq_true_eq, decide_eq_true_eq] at a
    have d := of_decide_eq_true d
    exact ⟨ks, rfl, by omega, by omega, List.all_eq_true.mp b, of_decide_eq_true c, (kwv_iff ks).mp (by omega)⟩
  | _ => cases h
end LW
/-! expressions that make a tree -/
namespace FW
open PySem PySem.Spec PyProof.Rows L2 GxR GA
def Mk (K : PySem.W.Frag) (cs : List (Addr × Addr)) (N : Addr → Prop) (te : TE) (σ : L2.St) (H0 : Hp) (t : T) : Prop :=
  ∀ H, Ex cs N0 H0 H → ∀ Q : VK, (∀ v H', Ex cs N0 H H' → Den K N H' t v → Q v H') → te σ H Q
def MkA (K : PySem.W.Frag) (cs : List (Addr × Addr)) (N : Addr → Prop) (ta : TA) (σ : L2.St) (H0 : Hp) (ts : List T) : Prop :=
  ∀ H, Ex cs N0 H0 H → ∀ Q : List V → Hp → Prop, (∀ xs H', Ex cs N0 H H' → DenL K N H' ts xs → Q xs H') → ta σ H Q
section
variable {K : PySem.W.Frag} {cs : List (Addr × Addr)} {N : Addr → Prop} {σ : L2.St} {H0 H1 : Hp} {t : T} {ts us : List T} {te tf : TE} {ta tr : TA}
theorem Mk.ex (h : Mk K cs N te σ H0 t) (e : Ex cs N0 H0 H1) : Mk K cs N te σ H1 t := fun H e1 => h H (e.trans e1)
theorem mk_var {i : Nat} {v : V} (hs : σ[i]? = some (some v)) (hd : Den K N H0 t v) : Mk K cs N (tVar i) σ H0 t :=
  fun H e Q k => ⟨v, hs, k v H (Ex.refl e.tok) (hd.ex0 e)⟩
theorem mk_c {v : V} (hd : Den K N H0 t v) : Mk K cs N (tC v) σ H0 t := fun H e Q k => k v H (Ex.refl e.tok) (hd.ex0 e)
theorem mk_int {i : Int} : Mk K cs N (tC (.int i)) σ H0 (.int i) := mk_c (Den.int_ i)
theorem mk_bl {b : Bool} : Mk K cs N (tC (.bl b)) σ H0 (.bl b) := mk_c (Den.bl_ b)
theorem mk_non : Mk K cs N (tC .non) σ H0 .non := mk_c Den.non_
theorem mk_str {s : Str} (h : s.length ≤ sizeLine := by decide) : Mk K cs N (tC (.str s)) σ H0 (.str s) := mk_c (Den.str_ s h)
theorem mk_nil : MkA K cs N tNil σ H0 [] := fun H e Q k => k [] H (Ex.refl e.tok) DenL.nil
theorem mk_cons (h : Mk K cs N te σ H0 t) (r : MkA K cs N tr σ H0 ts) : MkA K cs N (tCons te tr) σ H0 (t :: ts) :=
  fun H e Q k => h H e _ fun v H1 e1 d1 => r H1 (e.trans e1) _ fun xs H2 e2 d2 => k (v :: xs) H2 (e1.trans e2) (DenL.cons (d1.ex0 e2) d2)
theorem mk_tup (h : MkA K cs N ta σ H0 ts) (hl : ts.length ≤ 1000 := by decide) : Mk K cs N (tTup ta) σ H0 (.tup ts) :=
  fun H e Q k => h H e _ fun xs H1 e1 d1 => ⟨by rw [d1.len]; exact Nat.le_of_lt (small1000 hl), fun p hp => k _ _ (e1.trans (Ex.new e1.tok hp)) (Den.tup_ (SqT.of upd_same) (d1.ex0 (Ex.new e1.tok hp)))⟩
theorem mk_lst (hN : ∀ a, N a → H0 a ≠ none) (h : MkA K cs N ta σ H0 ts) (hl : ts.length ≤ 1000 := by decide) : Mk K cs N (tLst ta) σ H0 (.lst ts) :=
  fun H e Q k => h H e _ fun xs H1 e1 d1 => ⟨by rw [d1.len]; exact Nat.le_of_lt (small1000 hl), fun p hp =>
    k _ _ (e1.trans (Ex.new e1.tok hp)) (Den.lst_ upd_same (fun n => hN p n (e.stay _ (e1.stay _ hp))) (d1.ex0 (Ex.new e1.tok hp)))⟩
theorem mk_dct (hN : ∀ a, N a → H0 a ≠ none) : Mk K cs N tDNewK σ H0 .dct :=
  fun H e Q k p hp => k _ _ (Ex.new e.tok hp) (Den.dct_ upd_same fun n => hN p n (e.stay _ hp))
/-- a list and a list -/
theorem mk_cat (hN : ∀ a, N a → H0 a ≠ none) (h1 : Mk K cs N te σ H0 (.lst ts)) (h2 : Mk K cs N tf σ H0 (.lst us)) (hl : ts.length + us.length ≤ 1000 := by decide) : Mk K cs N (tOp rCat te tf) σ H0 (.lst (ts ++ us)) :=
  fun H e Q k => h1 H e _ fun v H1 e1 d1 => h2 H1 (e.trans e1) _ fun u H2 e2 d2 => by
    have d1 := d1.ex0 e2
    unfold Den at d1 d2
    obtain ⟨a, xs, rfl, ha, na, dl⟩ := d1
    obtain ⟨b, ys, rfl, hb, nb, dm⟩ := d2
    refine ⟨a, b, xs, ys, rfl, rfl, ha, hb, by rw [dl.len, dm.len]; exact Nat.le_of_lt (small1000 hl), fun p hp => ?_⟩
    have ex := Ex.new (N := N0) (o := .lst (xs ++ ys)) e2.tok hp
    exact k _ _ (e1.trans (e2.trans ex)) (Den.lst_ upd_same (fun n => hN p n (e.stay _ (e1.stay _ (e2.stay _ hp)))) ((dl.ex0 ex).append (dm.ex0 ex)))
/-- l[i], l a list of trees -/
theorem mk_ixL {i : Nat} (h1 : Mk K cs N te σ H0 (.lst ts)) (h2 : Mk K cs N tf σ H0 (.int i)) (hi : ts[i]? = some t) : Mk K cs N (tOp (rIxL K) te tf) σ H0 t :=
  fun H e Q k => h1 H e _ fun v H1 e1 d1 => h2 H1 (e.trans e1) _ fun u H2 e2 d2 => by
    have d1 := d1.ex0 e2
    unfold Den at d2
    subst d2
    unfold Den at d1
    obtain ⟨a, xs, rfl, ha, na, dl⟩ := d1
    obtain ⟨x, hx, dx⟩ := dl.get' hi
    exact ⟨a, xs, _, x, rfl, rfl, SqL.of ha, atI_nat hx, k x H2 (e1.trans e2) dx⟩
end
end FW
namespace LW
open PySem PySem.Spec PyProof.Rows L2 GxR FW GA EN SL

theorem fm_congr {α β : Type} {f g : α → List β} : ∀ {l : List α}, (∀ x ∈ l, f x = g x) → l.flatMap f = l.flatMap g
  | [], _ => rfl
  | a :: l, h => by rw [List.flatMap_cons, List.flatMap_cons, h a List.mem_cons_self, fm_congr fun x hx => h x (List.mem_cons_of_mem _ hx)]
abbrev kindT (s : Str) (rows : List T) : T := .tup [.str s, .tup rows]
abbrev rowT (s : Str) (pl : List Int) : T := .tup [.str s, .tup (pl.map T.int)]
def howS (b : Bool) : Str := if b = true then "open" else "closed"
theorem isKind_of {s : Str} {rows : List T} {n : Int} (h : s = "closed" ∨ s = "open") (hl : rows.length ≤ 4) (hc : ∀ c ∈ rows, isConsT c n = true) : isKindT (kindT s rows) n = true := by
  show (howB s && (isTupT (.tup rows) 0 4 && rows.all fun u => isConsT u n)) = true
  have e1 : howB s = true := by
    unfold howB
    rcases h with rfl | rfl <;> decide
  have e2 : isTupT (.tup rows) 0 4 = true := by
    show (decide ((0 : Int) ≤ (rows.length : Int)) && decide ((rows.length : Int) ≤ 4)) = true
    rw [decide_eq_true (by omega), decide_eq_true (by omega)]; rfl
  rw [e1, e2, List.all_eq_true.mpr hc]; rfl
theorem isCons_of {s : Str} {pl : List Int} {n : Int} (h : nameB s = true) (hl : pl.length ≤ 2) (hp : ∀ p ∈ pl, 0 ≤ p ∧ p < n) : isConsT (rowT s pl) n = true := by
  show (nameB s && ((decide ((0 : Int) ≤ ((pl.map T.int).length : Int)) && decide (((pl.map T.int).length : Int) ≤ 2)) && (pl.map T.int).all fun u => isIndexT u n)) = true
  rw [h, List.length_map, decide_eq_true (by omega), decide_eq_true (by omega), Bool.true_and, Bool.true_and, Bool.true_and, List.all_eq_true]
  intro t ht
  obtain ⟨p, hp1, rfl⟩ := List.mem_map.mp ht
  obtain ⟨a, b⟩ := hp p hp1
  show (decide (0 ≤ p) && decide (p < n)) = true
  rw [decide_eq_true a, decide_eq_true b]; rfl
theorem namesT_range (ts : List T) : namesT ts = (List.range ts.length).flatMap fun k => (match ts[k]? with | some t => (kConsT t).map cNameT | none => []) := by
  unfold namesT
  induction ts with
  | nil => rfl
  | cons t ts ih =>
    rw [List.flatMap_cons, ih, List.length_cons, List.range_succ_eq_map, List.flatMap_cons, List.flatMap_map]
    rfl
def nmAt (ts : List T) (k : Int) : List Str := match ts[k.toNat]? with | some t => (kConsT t).map cNameT | none => []
def cntA (cn : List Nat) (k : Int) : Nat := cn.getD k.toNat 0
def atN (cn : List Nat) (ns : List Int) (i : Nat) : Nat := ((ns.take i).map (cntA cn)).sum
/-- how far a drawn signature is -/
structure AM (n : Nat) (os : List Bool) (cn : List Nat) (ss : List Str) (ns : List Int) (i : Nat) (gs : List Int) (ts : List T) : Prop where
  len : ts.length = n
  done : ∀ j < i, ∀ k : Nat, ns[j]? = some (k : Int) → ∃ b rows, os[k]? = some b ∧ ts[k]? = some (kindT (howS b) rows) ∧ rows.length ≤ 4 ∧ (∀ r ∈ rows, isConsT r n = true) ∧
    (b = false → ∃ r ∈ rows, ∀ p ∈ cPartsT r, ∃ m : Nat, p = .int m ∧ m < n ∧ (os[m]? = some true ∨ ∃ j' < j, ns[j']? = some (m : Int)))
  names : (ns.take i).flatMap (nmAt ts) = ss.take (atN cn ns i)
  good : ∀ g ∈ gs, ∃ m : Nat, g = m ∧ m < n ∧ (os[m]? = some true ∨ ∃ j' < i, ns[j']? = some (m : Int))
theorem perm_get {n : Nat} {ns : List Int} (pm : ns.Perm (rgI n)) {k : Nat} (hk : k < n) : ∃ j < n, ns[j]? = some (k : Int) := by
  have : (k : Int) ∈ ns := pm.mem_iff.mpr (List.mem_map.mpr ⟨k, List.mem_range.mpr hk, rfl⟩)
  obtain ⟨j, hj⟩ := List.mem_iff_getElem?.mp this
  have h := (List.getElem?_eq_some_iff.mp hj).1
  rw [pm.length_eq, rg_len] at h
  exact ⟨j, h, hj⟩
theorem perm_nat {n : Nat} {ns : List Int} (pm : ns.Perm (rgI n)) {j : Nat} {x : Int} (h : ns[j]? = some x) : ∃ k : Nat, x = k ∧ k < n := by
  have : x ∈ rgI n := pm.mem_iff.mp (List.mem_of_getElem? h)
  obtain ⟨k, hk, rfl⟩ := List.mem_map.mp this
  exact ⟨k, rfl, List.mem_range.mp hk⟩
theorem AM.sig {n : Nat} {os : List Bool} {cn : List Nat} {ss : List Str} {ns : List Int} {gs : List Int} {ts : List T} (h : AM n os cn ss ns n gs ts) (pm : ns.Perm (rgI n)) (nd : ss.Nodup) (n1 : 1 ≤ n) (n3 : n ≤ 3) : isSigT (.tup ts) = true := by
  have fm : ∀ k < n, ∃ j < n, ns[j]? = some (k : Int) := fun k hk => perm_get pm hk
  refine isSig_true (by rw [h.len]; exact n1) (by rw [h.len]; exact n3) (fun t ht => ?_) ?_ fun k hk => ?_
  · obtain ⟨k, hk⟩ := List.mem_iff_getElem?.mp ht
    have hkn := (List.getElem?_eq_some_iff.mp hk).1
    rw [h.len] at hkn
    obtain ⟨j, hj, e⟩ := fm k hkn
    obtain ⟨b, rows, _, e1, l4, hc, _⟩ := h.done j hj k e
    rw [hk] at e1
    rw [Option.some.inj e1, h.len]
    exact isKind_of (by unfold howS; cases b <;> simp) l4 hc
  · have hp : (namesT ts).Perm (ns.flatMap (nmAt ts)) := by
      rw [namesT_range, h.len]
      have : ((List.range n).flatMap fun k => (match ts[k]? with | some t => (kConsT t).map cNameT | none => [])) = (rgI n).flatMap (nmAt ts) := by
        unfold rgI
        rw [List.flatMap_map]
        rfl
      rw [this]
      exact (pm.flatMap_right _).symm
    have e := h.names
    have ln : ns.length = n := by rw [pm.length_eq, rg_len]
    rw [← ln, List.take_length] at e
    rw [hp.nodup_iff, e]
    exact (List.take_sublist _ _).nodup nd
  · rw [h.len] at hk
    have opens : ∀ m : Nat, m < n → os[m]? = some true → Gd ts m := fun m hm ho => by
      obtain ⟨j, hj, e⟩ := fm m hm
      obtain ⟨b, rows, e0, e1, _⟩ := h.done j hj m e
      rw [ho] at e0
      cases e0
      exact .op e1 (show (howS true == ("open" : Str)) = true by decide)
    have all : ∀ j, ∀ k : Nat, j < n → ns[j]? = some (k : Int) → Gd ts k := by
      intro j
      induction j using Nat.strongRecOn with
      | _ j ih =>
        intro k hj e
        obtain ⟨b, rows, e0, e1, _, _, g⟩ := h.done j hj k e
        cases b with
        | true => exact opens k (by obtain ⟨k', e2, h2⟩ := perm_nat pm e; omega) e0
        | false =>
          obtain ⟨r, hr, hp⟩ := g rfl
          refine .cl e1 hr (fun p hp' => by obtain ⟨m, e, _⟩ := hp p hp'; exact ⟨m, e⟩) fun i hi => ?_
          obtain ⟨m, e, hm, z⟩ := hp _ hi
          have : i = m := by have := T.int.inj e; omega
          subst this
          rcases z with z | ⟨j', hj', z⟩
          · exact opens _ hm z
          · exact ih j' hj' _ (by omega) z
    obtain ⟨j, hj, e⟩ := fm k hk
    exact all j k hj e
theorem AM.next {n : Nat} {os : List Bool} {cn : List Nat} {ss : List Str} {ns : List Int} {gs : List Int} {ts : List T} {i k : Nat} {b : Bool} {rows : List T} (h : AM n os cn ss ns i gs ts) (pm : ns.Perm (rgI n)) (hi : ns[i]? = some (k : Int)) (hb : os[k]? = some b)
    (l4 : rows.length ≤ 4) (hc : ∀ r ∈ rows, isConsT r n = true) (hnm : rows.map cNameT = (ss.drop (atN cn ns i)).take (cntA cn k))
    (ground : b = false → ∃ r ∈ rows, ∀ p ∈ cPartsT r, ∃ m : Nat, p = .int m ∧ m < n ∧ (os[m]? = some true ∨ ∃ j' < i, ns[j']? = some (m : Int))) :
    AM n os cn ss ns (i + 1) (if b = true then gs else gs ++ [(k : Int)]) (ts.set k (kindT (howS b) rows)) := by
  have kn : k < n := by obtain ⟨k', e, h2⟩ := perm_nat pm hi; omega
  have nd : ns.Nodup := pm.nodup_iff.mpr (rg_nd n)
  have tk : ns.take (i + 1) = ns.take i ++ [(k : Int)] := by rw [List.take_add_one, hi]; rfl
  have ne : ∀ x ∈ ns.take i, x ≠ (k : Int) := fun x hx e => by
    have : (ns.take (i + 1)).Nodup := (List.take_sublist _ _).nodup nd
    rw [tk, List.nodup_append] at this
    exact this.2.2 x hx _ List.mem_cons_self e
  refine ⟨by rw [List.length_set]; exact h.len, fun j hj m hm => ?_, ?_, fun g hg => ?_⟩
  · by_cases e : j = i
    · subst e
      rw [hi] at hm
      have : k = m := by have := Option.some.inj hm; omega
      subst this
      exact ⟨b, rows, hb, by rw [List.getElem?_set_self (by rw [h.len]; exact kn)], l4, hc, ground⟩
    · obtain ⟨b', rows', e0, e1, e2, e3, e4⟩ := h.done j (by omega) m hm
      have : (m : Int) ≠ k := ne _ (by
        refine List.mem_of_getElem? (i := j) ?_
        rw [List.getElem?_take, if_pos (by omega)]; exact hm)
      exact ⟨b', rows', e0, by rw [List.getElem?_set_ne (by omega)]; exact e1, e2, e3, e4⟩
  · have e1 : (ns.take i).flatMap (nmAt (ts.set k (kindT (howS b) rows))) = (ns.take i).flatMap (nmAt ts) := by
      refine fm_congr fun x hx => ?_
      have hx2 := ne x hx
      obtain ⟨j, hj⟩ := List.mem_iff_getElem?.mp hx
      rw [List.getElem?_take] at hj
      split at hj
      · obtain ⟨k', rfl, _⟩ := perm_nat pm hj
        unfold nmAt
        rw [Int.toNat_natCast, List.getElem?_set_ne (by omega)]
      · cases hj
    have e2 : nmAt (ts.set k (kindT (howS b) rows)) (k : Int) = rows.map cNameT := by
      unfold nmAt
      rw [Int.toNat_natCast, List.getElem?_set_self (by rw [h.len]; exact kn)]
      rfl
    have e3 : atN cn ns (i + 1) = atN cn ns i + cntA cn k := by
      unfold atN
      rw [tk, List.map_append, List.sum_append]
      rfl
    rw [tk, List.flatMap_append, List.flatMap_cons, List.flatMap_nil, List.append_nil, e1, e2, e3, h.names, hnm, List.take_add]
  · have old : ∀ g ∈ gs, ∃ m : Nat, g = m ∧ m < n ∧ (os[m]? = some true ∨ ∃ j' < i + 1, ns[j']? = some (m : Int)) := fun g hg => by
      obtain ⟨m, a, b, c⟩ := h.good g hg
      exact ⟨m, a, b, c.imp id fun ⟨j, x, y⟩ => ⟨j, by omega, y⟩⟩
    cases b with
    | true => exact old g hg
    | false =>
      rcases List.mem_append.mp hg with hg | hg
      · exact old g hg
      · exact ⟨k, List.mem_singleton.mp hg, kn, .inr ⟨i, by omega, hi⟩⟩
theorem atN_le {cn : List Nat} {ns : List Int} {n : Nat} (pm : ns.Perm (rgI n)) (hl : cn.length = n) (i : Nat) (hi : i < n) {k : Nat} (e : ns[i]? = some (k : Int)) : atN cn ns i + cntA cn k ≤ cn.sum := by
  have tk : ns.take (i + 1) = ns.take i ++ [(k : Int)] := by rw [List.take_add_one, e]; rfl
  have e3 : atN cn ns (i + 1) = atN cn ns i + cntA cn k := by
    unfold atN
    rw [tk, List.map_append, List.sum_append]
    rfl
  rw [← e3]
  have e4 : (ns.map (cntA cn)).sum = cn.sum := by
    have : (ns.map (cntA cn)).Perm ((rgI n).map (cntA cn)) := pm.map _
    rw [this.sum_nat]
    unfold rgI
    rw [List.map_map]
    have : (List.range n).map (cntA cn ∘ fun k : Nat => (k : Int)) = cn := by
      refine List.ext_getElem? fun j => ?_
      rw [List.getElem?_map]
      by_cases hj : j < n
      · rw [List.getElem?_range hj]
        show some (cn.getD (j : Int).toNat 0) = _
        rw [Int.toNat_natCast, List.getD_eq_getElem?_getD, List.getElem?_eq_getElem (by omega)]; rfl
      · rw [List.getElem?_eq_none (by rw [List.length_range]; omega), List.getElem?_eq_none (by omega)]; rfl
    rw [this]
  rw [← e4]
  unfold atN
  have : (ns.map (cntA cn)).sum = ((ns.take (i + 1)).map (cntA cn)).sum + ((ns.drop (i + 1)).map (cntA cn)).sum := by
    rw [← List.sum_append, ← List.map_append, List.take_append_drop]
  omega
end LW
namespace LW
open PySem PySem.Spec PyProof.Rows L2 GxR FW GA EN SL
/-- no list in it -/
abbrev NT : Addr → Prop := fun _ => True
section
variable {K : PySem.W.Frag} {cs : List (Addr × Addr)} {S D a p : Addr} {H H1 H2 : Hp} {xs ys : List V} {t : T} {ts : List T} {v : V} {N : Addr → Prop} {o : HO}
theorem Den.nt (k : Kp N H1 H2) (h : Den K NT H1 t v) : Den K NT H2 t v := Den.kp (k.mono fun _ _ => trivial) t v h
theorem DenL.nt (k : Kp N H1 H2) (h : DenL K NT H1 ts xs) : DenL K NT H2 ts xs := DenL.kp (k.mono fun _ _ => trivial) ts xs h
theorem Den.any (h : Den K NT H1 t v) : Den K N H1 t v := Den.less (fun _ _ => trivial) t v h
theorem DenL.any (h : DenL K NT H1 ts xs) : DenL K N H1 ts xs := DenL.less (fun _ _ => trivial) ts xs h
theorem Dr.refl (h : StOk H S) (k : TOk cs H) : Dr cs S H H := Dr.of0 h (Ex.refl k)
theorem Dr.keepL (d : Dr cs S H1 H2) (e : H1 a = some (.lst xs)) (n : a ≠ S) : H2 a = some (.lst xs) := d.keep _ _ e (fun q z => by cases z) n
theorem Dr.nw (d : Dr cs S H H1) (e : H1 p = none) : Dr cs S H (upd H1 p o) := d.trans (Dr.new d.st d.tok e)
theorem Dr.e0 (d : Dr cs S H H1) (e : Ex cs N0 H1 H2) : Dr cs S H H2 := d.trans (Dr.of0 d.st e)
theorem ixN_nat {n k : Nat} (h : k < n) : ixN n (k : Int) = some k := by
  unfold ixN
  rw [if_pos (Int.natCast_nonneg k), if_pos (by omega), Int.toNat_natCast]
theorem small {n : Nat} (h : n ≤ 1000) : n ≤ sizeLine := Nat.le_of_lt (small1000 h)
theorem ite_tc {b : Bool} {x y : V} {σ : L2.St} {Q : VK} (h : Q (if b = true then x else y) H) : if b = true then tC x σ H Q else tC y σ H Q := by cases b <;> exact h
theorem shaped_ints (ms : List Int) : SeqAt.shaped (.list (ms.map PyData.int)) = true := by
  have h1 : ∀ l : List Int, PyData.canLayAll0 (l.map PyData.int) = true := fun l => by
    induction l with
    | nil => rfl
    | cons x l ih => show (true && _) = true; rw [ih]; rfl
  have h2 : ∀ l : List Int, PyData.depthAll (l.map PyData.int) = 0 := fun l => by
    induction l with
    | nil => rfl
    | cons x l ih => show max 0 _ = 0; rw [ih]; rfl
  show (PyData.canLayAll0 _ && decide (PyData.depthAll _ + 1 ≤ 64)) = true
  rw [h1, h2]; rfl
theorem dp_ints : ∀ ms : List Int, DpAll K H (ms.map V.int) (ms.map PyData.int)
  | [] => .nil
  | m :: ms => .cons (.int m) (dp_ints ms)
theorem den_nons : ∀ n : Nat, DenL K NT H (List.replicate n T.non) (List.replicate n V.non)
  | 0 => DenL.nil
  | n + 1 => DenL.cons Den.non_ (den_nons n)
theorem DenL.set : ∀ {ts : List T} {xs : List V} (i : Nat), DenL K N H ts xs → Den K N H t v → DenL K N H (ts.set i t) (xs.set i v)
  | [], xs, i, h, _ => by unfold DenL at h; subst h; exact DenL.nil
  | u :: ts, xs, i, h, hv => by
    unfold DenL at h
    obtain ⟨y, r, rfl, h1, h2⟩ := h
    cases i with
    | zero => exact DenL.cons hv h2
    | succ i => exact DenL.cons h1 (DenL.set i h2 hv)
theorem DenL.ints : ∀ l : List Int, DenL K N H (l.map T.int) (l.map V.int)
  | [] => DenL.nil
  | i :: l => DenL.cons (Den.int_ i) (DenL.ints l)
theorem vals_bl : ∀ {xs : List V}, (∀ v ∈ xs, ∃ b, v = .bl b) → ∃ os : List Bool, xs = os.map V.bl
  | [], _ => ⟨[], rfl⟩
  | x :: xs, h => by
    obtain ⟨b, rfl⟩ := h x List.mem_cons_self
    obtain ⟨os, rfl⟩ := vals_bl fun v hv => h v (List.mem_cons_of_mem _ hv)
    exact ⟨b :: os, rfl⟩
theorem vals_nat : ∀ {xs : List V}, (∀ v ∈ xs, ∃ c : Nat, v = .int c) → ∃ cn : List Nat, xs = cn.map fun c : Nat => V.int c
  | [], _ => ⟨[], rfl⟩
  | x :: xs, h => by
    obtain ⟨b, rfl⟩ := h x List.mem_cons_self
    obtain ⟨os, rfl⟩ := vals_nat fun v hv => h v (List.mem_cons_of_mem _ hv)
    exact ⟨b :: os, rfl⟩
/-- [e for k in range(n)], each item drawn -/
theorem lc_drw {g : TG} {te : TE} {vs : List Nat} {σ : L2.St} {n : Nat} {Qd : Hp → Prop} (R : Nat → V → Prop) (hst : StOk H1 S) (tok : TOk cs H1) (hn : H1 D = none) (hl : n < sizeLine)
    (hs : ∀ (i : Nat) H', i < n → Dr cs S H1 H' → ∀ Q' : VK, (∀ v H'', R i v → Dr cs S H' H'' → Q' v H'') → g (.int (0 + (i : Int))) (wipe σ vs) H' fun σ2 H3 => wipe σ2 vs = wipe σ vs ∧ te σ2 H3 Q')
    (hd : ∀ H' xs, Dr cs S H1 H' → H' D = some (.lst xs) → xs.length = n → (∀ i v, xs[i]? = some v → R i v) → Qd H') :
    ∃ W : Nat → Nat → Hp → Prop, (∃ m, W 0 m (upd H1 D (.lst []))) ∧ ∀ i m H, W i m H →
      ((Itr 0 n).stop i H ∧ Qd H) ∨ ((Itr 0 n).go i H ∧ ∃ Nx : Hp → Prop, (∀ H', Nx H' → ∃ m', m' < m ∧ W (i + 1) m' H') ∧ ∀ x H', (Itr 0 n).yld i H x H' → g x (wipe σ vs) H' fun σ2 H2 => wipe σ2 vs = wipe σ vs ∧ tYes σ2 H2 fun b H3 =>
        if b = true then te σ2 H3 fun y H4 => ∃ acc, H4 D = some (.lst acc) ∧ acc.length < sizeLine ∧ Nx (upd H4 D (.lst (acc ++ [y]))) else Nx H3) := by
  have nS := hst.ne hn
  refine lc_range (lo := 0) (n := n) (fun i H => Dr cs S H1 H ∧ ∃ xs, H D = some (.lst xs) ∧ xs.length = i ∧ (∀ i v, xs[i]? = some v → R i v)) ⟨Dr.new hst tok hn, [], upd_same, rfl, fun i v e => by simp at e⟩ (fun i H hi p => ?_) fun H p => ?_
  · obtain ⟨p1, xs, p2, p3, p4⟩ := p
    refine hs i H hi p1 (fun y H4 => ∃ acc, H4 D = some (.lst acc) ∧ acc.length < sizeLine ∧ (Dr cs S H1 (upd H4 D (.lst (acc ++ [y]))) ∧ ∃ xs, (upd H4 D (.lst (acc ++ [y]))) D = some (.lst xs) ∧ xs.length = i + 1 ∧ (∀ i v, xs[i]? = some v → R i v))) fun v H'' r d => ?_
    have e1 := d.keepL p2 nS
    refine ⟨_, e1, by omega, (p1.trans d).put hst hn e1, _, upd_same, by rw [List.length_append, p3]; rfl, fun j u e => ?_⟩
    by_cases c : j < xs.length
    · rw [List.getElem?_append_left c] at e
      exact p4 j u e
    · rw [List.getElem?_append_right (by omega)] at e
      have : j - xs.length = 0 := by
        cases hj : j - xs.length with
        | zero => rfl
        | succ m => rw [hj] at e; simp at e
      rw [this] at e
      have e : v = u := Option.some.inj e
      rw [← e, show j = i by omega]
      exact r
  · obtain ⟨p1, xs, p2, p3, p4⟩ := p
    exact hd H xs p1 p2 p3 p4
end
/-- the heap while a signature is drawn -/
structure AS (K : PySem.W.Frag) (cs : List (Addr × Addr)) (S : Addr) (H : Hp) (oA cA nA dA gA fA : Addr) (os : List Bool) (cn : List Nat) (ss : List Str) (ns : List Int) (gs : List Int) (ts : List T) (H' : Hp) : Prop where
  dr : Dr cs S H H'
  o : H' oA = some (.lst (os.map V.bl))
  c : H' cA = some (.lst (cn.map fun c : Nat => V.int c))
  n : H' nA = some (.lst (ss.map V.str))
  d : H' dA = some (.lst (ns.map V.int))
  g : H' gA = some (.lst (gs.map V.int))
  f : ∃ xs, H' fA = some (.lst xs) ∧ DenL K NT H' ts xs
structure Fx (H : Hp) (oA cA nA dA gA fA : Addr) : Prop where
  o : H oA = none
  c : H cA = none
  n : H nA = none
  d : H dA = none
  g : H gA = none
  f : H fA = none
  go : oA ≠ gA
  gc : cA ≠ gA
  gn : nA ≠ gA
  gd : dA ≠ gA
  gf : fA ≠ gA
  fo : oA ≠ fA
  fc : cA ≠ fA
  fn : nA ≠ fA
  fd : dA ≠ fA
section
variable {K : PySem.W.Frag} {cs : List (Addr × Addr)} {S oA cA nA dA gA fA rA : Addr} {H H1 H2 : Hp} {os : List Bool} {cn : List Nat} {ss : List Str} {ns gs gs' : List Int} {ts ts' : List T} {ys : List V} {o : HO}
theorem AS.step (x : AS K cs S H oA cA nA dA gA fA os cn ss ns gs ts H1) (d : Dr cs S H1 H2) (fr : Fx H oA cA nA dA gA fA) (hst : StOk H S) : AS K cs S H oA cA nA dA gA fA os cn ss ns gs ts H2 := by
  obtain ⟨xs, e1, e2⟩ := x.f
  exact ⟨x.dr.trans d, d.keepL x.o (hst.ne fr.o), d.keepL x.c (hst.ne fr.c), d.keepL x.n (hst.ne fr.n), d.keepL x.d (hst.ne fr.d), d.keepL x.g (hst.ne fr.g), xs, d.keepL e1 (hst.ne fr.f), DenL.nt d.toKp e2⟩
theorem AS.putO (x : AS K cs S H oA cA nA dA gA fA os cn ss ns gs ts H1) (hst : StOk H S) (hr : H rA = none) (e : H1 rA = some (.lst ys)) (no : oA ≠ rA) (nc : cA ≠ rA) (nn : nA ≠ rA) (nd : dA ≠ rA) (ng : gA ≠ rA) (nf : fA ≠ rA) : AS K cs S H oA cA nA dA gA fA os cn ss ns gs ts (upd H1 rA o) := by
  obtain ⟨xs, e1, e2⟩ := x.f
  have kp : Kp NT H1 (upd H1 rA o) := Kp.put e trivial
  exact ⟨x.dr.put hst hr e, by rw [upd_ne no]; exact x.o, by rw [upd_ne nc]; exact x.c, by rw [upd_ne nn]; exact x.n, by rw [upd_ne nd]; exact x.d, by rw [upd_ne ng]; exact x.g, xs, by rw [upd_ne nf]; exact e1, DenL.nt kp e2⟩
theorem AS.putG (x : AS K cs S H oA cA nA dA gA fA os cn ss ns gs ts H1) (hst : StOk H S) (fr : Fx H oA cA nA dA gA fA) : AS K cs S H oA cA nA dA gA fA os cn ss ns gs' ts (upd H1 gA (.lst (gs'.map V.int))) := by
  obtain ⟨xs, e1, e2⟩ := x.f
  have kp : Kp NT H1 (upd H1 gA (.lst (gs'.map V.int))) := Kp.put x.g trivial
  exact ⟨x.dr.put hst fr.g x.g, by rw [upd_ne fr.go]; exact x.o, by rw [upd_ne fr.gc]; exact x.c, by rw [upd_ne fr.gn]; exact x.n, by rw [upd_ne fr.gd]; exact x.d, upd_same, xs, by rw [upd_ne fr.gf]; exact e1, DenL.nt kp e2⟩
theorem AS.putF {zs : List V} (x : AS K cs S H oA cA nA dA gA fA os cn ss ns gs ts H1) (hst : StOk H S) (fr : Fx H oA cA nA dA gA fA) (dz : DenL K NT H1 ts' zs) : AS K cs S H oA cA nA dA gA fA os cn ss ns gs ts' (upd H1 fA (.lst zs)) := by
  obtain ⟨xs, e1, e2⟩ := x.f
  have kp : Kp NT H1 (upd H1 fA (.lst zs)) := Kp.put e1 trivial
  exact ⟨x.dr.put hst fr.f e1, by rw [upd_ne fr.fo]; exact x.o, by rw [upd_ne fr.fc]; exact x.c, by rw [upd_ne fr.fn]; exact x.n, by rw [upd_ne fr.fd]; exact x.d, by rw [upd_ne (Ne.symm fr.gf)]; exact x.g, zs, upd_same, DenL.nt kp dz⟩
end
end LW
namespace LW
open PySem PySem.Spec PyProof.Rows L2 GxR FW GA EN SL

/-- a right signature, behind draws -/
def spSig (K : PySem.W.Frag) (cs : List (Addr × Addr)) : Sp := fun vs H Q _ => ∃ S, vs = [.ref S] ∧ StOk H S ∧ TOk cs H ∧
  ∀ v t H', isSigT t = true → Dr cs S H H' → Den K NT H' t v → Q v H'
section
variable {P : Program} {w : World} {K : PySem.W.Frag} {mg : Str → Option Value} {base : Heap} {cs : List (Addr × Addr)}
theorem ok__law_any_signature {f : Addr} {fd : FuncData} (F : Fun K "_law_any_signature" "_law_any_signature" s__law_any_signature f fd) (G : Glo mg) (D1 : Df P w K mg base 1 "_law_next" P__law_next (spNext cs))
    (D2 : Df P w K mg base 2 "_law_pick" P__law_pick (spPick K cs)) (D3 : Df P w K mg base 2 "_law_order" P__law_order (spOrder cs)) (D4 : Df P w K mg base 3 "_law_names" P__law_names (spNames cs)) :
    FnOk P w K mg base CX0 4 f fd P__law_any_signature (spSig K cs) := by
  refine F.ok sc__law_any_signature (fun vs H Q E h => ?_) (fun cdv A outer s H vs Q E hr h => ?_)
  · obtain ⟨S, rfl, _⟩ := h
    rfl
  · obtain ⟨S, rfl, hst, ho, k⟩ := h
    refine ⟨_, pss_cons (ps_set (i := 1) sc__law_any_signature.nd rfl (.inl rfl) (pe_op op_add pe_int (pe_df D1 hr (pa_cons (pv 0) (pa_cons pe_int pa_nil)))))
      (pss_cons (ps_set (i := 2) sc__law_any_signature.nd rfl (.inr rfl) (pe_lc (own := [("kind", 8)]) (g := gName 8) (tt := tYes) rfl sc__law_any_signature.nd (pi_range1 (by rfl) G.range (pa_cons (pv 1) pa_nil)) (blkOk_by (N := N__law_any_signature) (sc := defScope s__law_any_signature) (by decide +kernel))
          (fun _ _ _ _ _ => pg_name (i := 8) sc__law_any_signature.nd rfl (.inl rfl)) (fun _ _ _ _ _ => pts_nil)
          (fun _ _ _ _ _ => pe_cmpR op_eq (pe_df D1 hr (pa_cons (pv 0) (pa_cons pe_int pa_nil))) pe_int (nomark _))))
      (pss_cons (ps_setLc (i := 3) (own := [("kind", 8)]) (g := gName 8) (tt := tYes) (te := tIf (tTest (tOp (rIxL K) (tVar 2) (tVar 8))) (tCall (spNext cs) [] E0 (tCons (tVar 0) (tCons (tC (.int 5)) tNil))) (tOp (rI0 fun i j => .int (i + j)) (tC (.int 1)) (tCall (spNext cs) [] E0 (tCons (tVar 0) (tCons (tC (.int 4)) tNil))))) rfl sc__law_any_signature.nd rfl rfl (sw_true rfl rfl rfl (by decide +kernel)) (pi_range1 (by rfl) G.range (pa_cons (pv 1) pa_nil)) (blkOk_by (N := N__law_any_signature) (sc := defScope s__law_any_signature) (by decide +kernel))
          (fun _ _ _ _ _ => pg_name (i := 8) sc__law_any_signature.nd rfl (.inl rfl)) (fun _ _ _ _ _ => pts_nil)
          (fun _ _ _ _ _ => pe_ifExp (pt_val (pe_ix ix_list (pv 2) (pv 8) (fun _ _ => rfl))) (pe_df D1 hr (pa_cons (pv 0) (pa_cons pe_int pa_nil))) (pe_op op_add pe_int (pe_df D1 hr (pa_cons (pv 0) (pa_cons pe_int pa_nil))))))
      (pss_cons (ps_set (i := 4) sc__law_any_signature.nd rfl (.inl rfl) (pe_df D4 hr (pa_cons (pv 0) (pa_cons (pe_callB (cr_sum rfl) (by rfl) G.sum (by decide +kernel) (pa_cons (pv 3) pa_nil)) (pa_cons pe_int pa_nil)))))
      (pss_cons (ps_setLc (i := 5) (own := [("kind", 8)]) (g := gName 8) (tt := tTest (tOp (rIxL K) (tVar 2) (tVar 8))) rfl sc__law_any_signature.nd rfl rfl (sw_true rfl rfl rfl (by decide +kernel)) (pi_range1 (by rfl) G.range (pa_cons (pv 1) pa_nil)) (blkOk_by (N := N__law_any_signature) (sc := defScope s__law_any_signature) (by decide +kernel))
          (fun _ _ _ _ _ => pg_name (i := 8) sc__law_any_signature.nd rfl (.inl rfl)) (fun _ _ _ _ _ => pts_one (pt_val (pe_ix ix_list (pv 2) (pv 8) (fun _ _ => rfl))))
          (fun _ _ _ _ _ => pv 8))
      (pss_cons (ps_set (i := 6) sc__law_any_signature.nd rfl (.inl rfl) (pe_op op_rep (pe_lst (pa_cons pe_non pa_nil)) (pv 1)))
      (pss_cons (ps_set (i := 7) sc__law_any_signature.nd rfl (.inl rfl) pe_int)
      (pss_cons (ps_for PassesOwn.never rfl (pi_list (pe_df D3 hr (pa_cons (pv 0) (pa_cons (pv 1) pa_nil)))) (pg_name (i := 8) sc__law_any_signature.nd rfl (.inl rfl))
        (pss_cons (ps_set (i := 9) sc__law_any_signature.nd rfl (.inl rfl) (pe_df D1 hr (pa_cons (pv 0) (pa_cons (pe_callB (call_max2 rfl) (by rfl) G.max (by decide +kernel) (pa_cons pe_int (pa_cons (pe_ix ix_list (pv 3) (pv 8) (fun _ _ => rfl)) pa_nil))) pa_nil))))
        (pss_cons (ps_set (i := 10) sc__law_any_signature.nd rfl (.inl rfl) (pe_lst pa_nil))
        (pss_cons (ps_for PassesOwn.never rfl (pi_range1 (by rfl) G.range (pa_cons (pe_ix ix_list (pv 3) (pv 8) (fun _ _ => rfl)) pa_nil)) (pg_name (i := 11) sc__law_any_signature.nd rfl (.inl rfl))
          (pss_cons (ps_set (i := 12) sc__law_any_signature.nd rfl (.inl rfl) (pe_listRg rfl (by rfl) G.list (prg_1 (by rfl) G.range (pv 1))))
          (C8.pss_cut (ps_if (PW.pt (pw_and (pt_not (pt_val (pe_ix ix_list (pv 2) (pv 8) (fun _ _ => rfl)))) (pw_and1 (pt_cmpR op_eq (pv 11) (pv 9) (nomark _)))))
            (pss_one (ps_set (i := 12) sc__law_any_signature.nd rfl (.inl rfl) (pe_callTy call_list_of (by rfl) G.list (by decide +kernel) (pa_cons (pv 5) pa_nil)))) pss_nil)
          (pss_cons (ps_set (i := 13) sc__law_any_signature.nd rfl (.inl rfl) (pe_tup pa_nil))
          (pss_cons (ps_for PassesOwn.never rfl (pi_range1 (by rfl) G.range (pa_cons (pe_df D1 hr (pa_cons (pv 0) (pa_cons pe_int pa_nil))) pa_nil)) (pg_name (i := 14) sc__law_any_signature.nd rfl (.inl rfl))
            (pss_one (ps_if (pt_cmpR (op_neD hr.units) (pv 12) (pe_lst pa_nil) (nomark _)) (pss_one (ps_set (i := 13) sc__law_any_signature.nd rfl (.inl rfl) (pe_op op_catA (pv 13) (pe_tup (pa_cons (pe_df D2 hr (pa_cons (pv 0) (pa_cons (pv 12) pa_nil))) pa_nil))))) pss_nil)))
          (pss_one (ps_expr (pe_bm PySem.F.plainAttrs_list PySem.F.slot_list_append PySem.F.type_list_append mt_append (pv 10) (pa_cons (pe_tup (pa_cons (pe_ix ix_list (pv 4) (pe_op op_add (pv 7) (pv 11)) (fun _ _ => rfl)) (pa_cons (pv 13) pa_nil))) pa_nil)))))))))
        (pss_cons (ps_set (i := 7) sc__law_any_signature.nd rfl (.inl rfl) (pe_op op_add (pv 7) (pe_ix ix_list (pv 3) (pv 8) (fun _ _ => rfl))))
        (pss_cons (ps_asg (pe_tup (pa_cons (pe_ifExp (pt_val (pe_ix ix_list (pv 2) (pv 8) (fun _ _ => rfl))) pe_str pe_str) (pa_cons (pe_callTy call_tuple_of (by rfl) G.tuple (by decide +kernel) (pa_cons (pv 10) pa_nil)) pa_nil))) (pg_sub (pv 6) (pv 8) set_list))
        (pss_one (ps_if (pt_not (pt_val (pe_ix ix_list (pv 2) (pv 8) (fun _ _ => rfl)))) (pss_one (ps_expr (pe_bm PySem.F.plainAttrs_list PySem.F.slot_list_append PySem.F.type_list_append mt_append (pv 5) (pa_cons (pv 8) pa_nil)))) pss_nil))))))))
      (pss_one (ps_ret (pe_callTy call_tuple_of (by rfl) G.tuple (by decide +kernel) (pa_cons (pv 6) pa_nil))))))))))), ?_⟩
    refine ⟨_, rfl, S, _, rfl, hst, ho, by decide, by decide, fun d0 H1 d00 d01 dr1 => ⟨_, _, rfl, rfl, ?_⟩⟩
    obtain ⟨n', rfl⟩ := Int.eq_ofNat_of_zero_le d00
    obtain ⟨n, hn⟩ : ∃ n, n = n' + 1 := ⟨_, rfl⟩
    have en : (1 : Int) + (n' : Int) = (n : Int) := by omega
    have n1 : 1 ≤ n := by omega
    have n3 : n ≤ 3 := by omega
    show gName 1 (V.int ((1 : Int) + (n' : Int))) _ _ _
    rw [en]
    have nsz : n < sizeLine := small1000 (by omega)
    refine ⟨_, rfl, _, rfl, by omega, by omega, fun oA hoA => ?_⟩
    rw [Int.toNat_natCast]
    refine lc_drw (fun i v => ∃ b, v = .bl b) dr1.st dr1.tok hoA nsz (fun i H' hi d Q' z => ⟨rfl, ?_⟩) fun H2 xo dr2 hxo lxo ro => ?_
    · refine ⟨_, rfl, S, _, rfl, d.st, d.tok, by decide, by decide, fun e H3 e0 e1 d2 => ⟨rfl, z _ _ ⟨_, rfl⟩ d2⟩⟩
    obtain ⟨os, rfl⟩ := vals_bl fun v hv => by
      obtain ⟨i, e⟩ := List.mem_iff_getElem?.mp hv
      exact ro i v e
    rw [List.length_map] at lxo
    have foA : H oA = none := dr1.stay _ hoA
    have soA : oA ≠ S := hst.ne foA
    have getO : ∀ i : Nat, i < n → ∃ b, os[i]? = some b ∧ (os.map V.bl)[i]? = some (.bl b) := fun i hi => ⟨os[i]'(by omega), by simp [lxo, hi], by simp [lxo, hi]⟩
    refine ⟨_, rfl, _, rfl, by omega, by omega, fun cA hcA => ?_⟩
    rw [Int.toNat_natCast]
    refine lc_drw (fun i v => ∃ c : Nat, v = .int c ∧ c ≤ 4 ∧ (os[i]? = some false → 1 ≤ c)) dr2.st dr2.tok hcA nsz (fun i H' hi d Q' z => ⟨rfl, ?_⟩) fun H3 xc dr3 hxc lxc rc => ?_
    · obtain ⟨b, hb, hb'⟩ := getO i hi
      refine ⟨_, rfl, _, rfl, oA, _, _, _, rfl, rfl, SqL.of (d.keepL hxo soA), atI_nat (by simpa using hb'), _, rfl, ?_⟩
      cases b with
      | true =>
        refine iteT ⟨_, rfl, S, _, rfl, d.st, d.tok, by decide, by decide, fun e H3 e0 e1 d2 => ?_⟩
        obtain ⟨c, rfl⟩ := Int.eq_ofNat_of_zero_le e0
        exact z _ _ ⟨c, rfl, by omega, fun e => by rw [hb] at e; cases e⟩ d2
      | false =>
        refine iteF ⟨_, rfl, S, _, rfl, d.st, d.tok, by decide, by decide, fun e H3 e0 e1 d2 => ?_⟩
        obtain ⟨c, rfl⟩ := Int.eq_ofNat_of_zero_le e0
        exact ⟨_, _, rfl, rfl, z _ _ ⟨c + 1, congrArg V.int (show (1 : Int) + (c : Int) = ((c + 1 : Nat) : Int) by omega), by omega, fun _ => by omega⟩ d2⟩
    obtain ⟨cn, rfl⟩ := vals_nat fun v hv => by
      obtain ⟨i, e⟩ := List.mem_iff_getElem?.mp hv
      obtain ⟨c, e, _⟩ := rc i v e
      exact ⟨c, e⟩
    rw [List.length_map] at lxc
    have hcn : ∀ i c : Nat, cn[i]? = some c → c ≤ 4 ∧ (os[i]? = some false → 1 ≤ c) := fun i c e => by
      obtain ⟨c', e1, e2⟩ := rc i (.int c) (by rw [List.getElem?_map, e]; rfl)
      have : c = c' := by have := V.int.inj e1; omega
      rw [this]; exact e2
    have sum4 : ∀ l : List Nat, (∀ c ∈ l, c ≤ 4) → l.sum ≤ 4 * l.length := fun l => by
      induction l with
      | nil => intro _; exact Nat.zero_le _
      | cons c l ih =>
        intro h
        have := ih fun c hc => h c (List.mem_cons_of_mem _ hc)
        have := h c List.mem_cons_self
        rw [List.sum_cons, List.length_cons]; omega
    have cn4 := sum4 cn fun c hc => by
      obtain ⟨i, e⟩ := List.mem_iff_getElem?.mp hc
      exact (hcn i c e).1
    have dr23 := dr2.trans dr3
    have dr123 := dr1.trans dr23
    have sumI : ∀ l : List Nat, (l.map fun c : Nat => (c : Int)).sum = (l.sum : Int) := fun l => by
      induction l with
      | nil => rfl
      | cons c l ih => rw [List.map_cons, List.sum_cons, List.sum_cons, ih]; omega
    refine ⟨_, rfl, _, rfl, cA, cn.map (fun c : Nat => (c : Int)), rfl, SqL.of (by rw [hxc, List.map_map]; rfl), S, _, rfl, dr3.st, dr3.tok, by rw [sumI]; omega, by rw [sumI]; omega, fun nA ss H4 lss nok hnA dr4 hss => ?_⟩
    rw [sumI] at lss
    have lss : ss.length = cn.sum := by omega
    have dr1234 := dr123.trans dr4
    have fcA : H cA = none := (dr1.trans dr2).stay _ hcA
    have fnA : H nA = none := dr123.stay _ hnA
    have scA := hst.ne fcA
    have hxo3 := dr3.keepL hxo soA
    have hxo4 := dr4.keepL hxo3 soA
    have hxc4 := dr4.keepL hxc scA
    have oc : oA ≠ cA := fun z => by rw [← z, hxo] at hcA; cases hcA
    have on : oA ≠ nA := fun z => by rw [← z, hxo3] at hnA; cases hnA
    have cn' : cA ≠ nA := fun z => by rw [← z, hxc] at hnA; cases hnA
    refine ⟨_, rfl, _, rfl, by omega, by omega, fun gA hgA => ?_⟩
    rw [Int.toNat_natCast]
    have og : oA ≠ gA := fun z => by rw [← z, hxo4] at hgA; cases hgA
    have cg : cA ≠ gA := fun z => by rw [← z, hxc4] at hgA; cases hgA
    have ng : nA ≠ gA := fun z => by rw [← z, hss] at hgA; cases hgA
    have fgA : H gA = none := dr1234.stay _ hgA
    refine lc_range (lo := 0) (n := n) (fun i H' => Dr cs S H4 H' ∧ H' gA = some (.lst ((((List.range i).filter fun k => os[k]? == some true).map fun k : Nat => (k : Int)).map V.int))) ⟨Dr.new dr4.st dr4.tok hgA, upd_same⟩ (fun i H' hi p => ?_) fun H5 p => ?_
    · obtain ⟨p1, p2⟩ := p
      obtain ⟨b, hb, hb'⟩ := getO i hi
      refine ⟨rfl, _, rfl, _, rfl, oA, _, _, _, rfl, rfl, SqL.of (p1.keepL hxo4 soA), atI_nat (by simpa using hb'), _, rfl, ?_⟩
      cases b with
      | true =>
        refine iteT ⟨_, rfl, _, p2, small1000 ?_, p1.put dr4.st hgA p2, ?_⟩
        · have := List.length_filter_le (fun k => os[k]? == some true) (List.range i)
          rw [List.length_range] at this
          rw [List.length_map, List.length_map]; omega
        · rw [upd_same, List.range_succ, List.filter_append, List.filter_cons_of_pos (by rw [hb]; rfl), List.map_append, List.map_append, Int.zero_add]; rfl
      | false =>
        refine iteF ⟨p1, ?_⟩
        rw [p2, List.range_succ, List.filter_append, List.filter_cons_of_neg (by rw [hb]; decide), List.filter_nil, List.append_nil]
    obtain ⟨dr5, hg5⟩ := p
    generalize hgs : ((List.range n).filter fun k => os[k]? == some true).map (fun k : Nat => (k : Int)) = gs at hg5
    have okg : ∀ g ∈ gs, ∃ m : Nat, g = m ∧ m < n ∧ (os[m]? = some true ∨ ∃ j' < 0, ([] : List Int)[j']? = some (m : Int)) := fun g hg => by
      rw [← hgs] at hg
      obtain ⟨m, hm, rfl⟩ := List.mem_map.mp hg
      obtain ⟨h1, h2⟩ := List.mem_filter.mp hm
      exact ⟨m, rfl, List.mem_range.mp h1, .inl (by simpa using h2)⟩
    refine ⟨by show 1 ≤ sizeLine; decide, fun lA hlA => ⟨_, rfl, lA, _, _, rfl, rfl, upd_same, by omega, by omega, ?_, fun fA hfA => ?_⟩⟩
    · show 1 * (n : Int).toNat ≤ sizeLine
      rw [Int.toNat_natCast]; omega
    have dr6 := dr1234.trans (dr5.nw hlA (o := .lst [.non]))
    have dr7 := dr6.nw hfA (o := .lst (List.replicate (n : Int).toNat [V.non]).flatten)
    have efl : ∀ m : Nat, (List.replicate m [V.non]).flatten = List.replicate m V.non := fun m => by
      induction m with
      | zero => rfl
      | succ m ih => rw [List.replicate_succ, List.flatten_cons, ih]; rfl
    rw [Int.toNat_natCast, efl] at dr7 ⊢
    have ffA : H fA = none := dr6.stay _ hfA
    have d56 : Dr cs S H4 (upd H5 lA (.lst [.non])) := dr5.nw hlA
    have hxo6 := d56.keepL hxo4 soA
    have hxc6 := d56.keepL hxc4 scA
    have hss6 := d56.keepL hss (hst.ne fnA)
    have hgl : gA ≠ lA := fun z => by rw [← z, hg5] at hlA; cases hlA
    have hg6 : (upd H5 lA (.lst [.non])) gA = some (.lst (gs.map V.int)) := by rw [upd_ne hgl]; exact hg5
    have of : oA ≠ fA := ne_of_none hxo6 hfA
    have cf : cA ≠ fA := ne_of_none hxc6 hfA
    have nf : nA ≠ fA := ne_of_none hss6 hfA
    have gf : gA ≠ fA := ne_of_none hg6 hfA
    refine ⟨_, rfl, _, rfl, S, n, rfl, dr7.st, dr7.tok, by omega, by omega, fun dA ns H8 pm hdA dr8 hd8 => ?_⟩
    rw [Int.toNat_natCast] at pm
    have hg7 : (upd (upd H5 lA (.lst [.non])) fA (.lst (List.replicate n V.non))) gA = some (.lst (gs.map V.int)) := by rw [upd_ne gf]; exact hg6
    have hf7 : (upd (upd H5 lA (.lst [.non])) fA (.lst (List.replicate n V.non))) fA = some (.lst (List.replicate n V.non)) := upd_same
    have fr : Fx H oA cA nA dA gA fA := ⟨foA, fcA, fnA, dr7.stay _ hdA, fgA, ffA, og, cg, ng, (ne_of_none hg7 hdA).symm, gf.symm, of, cf, nf, (ne_of_none hf7 hdA).symm⟩
    have as0 : AS K cs S H oA cA nA dA gA fA os cn ss ns gs (List.replicate n T.non) H8 := by
      have d57 : Dr cs S H4 (upd (upd H5 lA (.lst [.non])) fA (.lst (List.replicate n V.non))) := d56.nw hfA
      have d58 := d57.trans dr8
      exact ⟨dr7.trans dr8, d58.keepL hxo4 soA, d58.keepL hxc4 scA, d58.keepL hss (hst.ne fnA), hd8, dr8.keepL hg7 (hst.ne fgA), _, dr8.keepL hf7 (hst.ne ffA), den_nons n⟩
    have am0 : AM n os cn ss ns 0 gs (List.replicate n T.non) := ⟨List.length_replicate, fun j hj => absurd hj (Nat.not_lt_zero _), rfl, fun g hg => by
      obtain ⟨m, a, b, c⟩ := okg g hg
      exact ⟨m, a, b, c.imp id fun ⟨j, x, _⟩ => absurd x (Nat.not_lt_zero _)⟩⟩
    have lns : ns.length = n := by rw [pm.length_eq, rg_len]
    refine ⟨dA, rfl, ⟨_, SqL.of hd8⟩, for_list (xs := ns.map V.int) (fun i σ H' => ∃ (gs : List Int) (ts : List T) (x8 x9 x10 x11 x12 x13 x14 : Option V), σ = [some (.ref S), some (.int n), some (.ref oA), some (.ref cA), some (.ref nA), some (.ref gA), some (.ref fA), some (.int (atN cn ns i : Nat)), x8, x9, x10, x11, x12, x13, x14] ∧
        AS K cs S H oA cA nA dA gA fA os cn ss ns gs ts H' ∧ AM n os cn ss ns i gs ts ∧ gs.length ≤ n + i)
      ⟨gs, _, none, none, none, none, none, none, none, rfl, as0, am0, ?_⟩ (fun i σ H' _ p => ?_) (fun i x σ H' hx p => ?_) fun σ H' p => ?_⟩
    · have := List.length_filter_le (fun k => os[k]? == some true) (List.range n)
      rw [List.length_range] at this
      rw [← hgs, List.length_map]; omega
    · obtain ⟨_, _, _, _, _, _, _, _, _, _, a, _⟩ := p
      exact SqL.of a.d
    · obtain ⟨gs, ts, x8, x9, x10, x11, x12, x13, x14, rfl, as, am, lgs⟩ := p
      rw [List.getElem?_map] at hx
      cases hi : ns[i]? with
      | none => rw [hi] at hx; cases hx
      | some x' =>
        rw [hi] at hx
        obtain rfl : V.int x' = x := Option.some.inj hx
        obtain ⟨k, rfl, kn⟩ := perm_nat pm hi
        have hin : i < n := by have := (List.getElem?_eq_some_iff.mp hi).1; omega
        obtain ⟨b, hb, hb'⟩ := getO k kn
        obtain ⟨c, hc⟩ : ∃ c, cn[k]? = some c := ⟨cn[k]'(by omega), by simp [lxc, kn]⟩
        obtain ⟨c4, cb⟩ := hcn k c hc
        have hcv : (cn.map fun c : Nat => V.int c)[k]? = some (.int c) := by rw [List.getElem?_map, hc]; rfl
        have ec : cntA cn (k : Int) = c := by unfold cntA; rw [Int.toNat_natCast, List.getD_eq_getElem?_getD, hc]; rfl
        have le := atN_le (cn := cn) pm (by omega) i hin hi
        rw [ec] at le
        refine ⟨_, rfl, _, rfl, _, rfl, cA, _, _, _, rfl, rfl, SqL.of as.c, atI_nat hcv, _, _, rfl, S, _, rfl, as.dr.st, as.dr.tok, ?_, ?_, fun gr H9 gr0 gr1 dr9 => ?_⟩
        · split <;> omega
        · split <;> omega
        have grc : (c : Int) ≤ gr → c = 0 := fun h => by
          split at gr1 <;> omega
        have as9 := as.step dr9 fr hst
        refine ⟨Nat.zero_le _, fun rA hrA => ?_⟩
        have as10 := as9.step (Dr.new (o := .lst []) as9.dr.st as9.dr.tok hrA) fr hst
        have frA : H rA = none := as9.dr.stay _ hrA
        obtain ⟨xf9, hf9, _⟩ := as9.f
        have no := ne_of_none as9.o hrA
        have nc := ne_of_none as9.c hrA
        have nn := ne_of_none as9.n hrA
        have nd := ne_of_none as9.d hrA
        have ng' := ne_of_none as9.g hrA
        have nf' := ne_of_none hf9 hrA
        have srA := hst.ne frA
        refine ⟨_, rfl, _, rfl, cA, _, _, _, rfl, rfl, SqL.of as10.c, atI_nat hcv, _, rfl, by omega, by omega, ?_⟩
        rw [Int.toNat_natCast]
        have nml : ∀ p, p < c → ∃ s, ss[atN cn ns i + p]? = some s ∧ nameB s = true := fun p hp => by
          have h : atN cn ns i + p < ss.length := by omega
          exact ⟨ss[atN cn ns i + p], by simp [h], nok.1 _ (List.getElem_mem h)⟩
        refine for_range (n := c) (fun p σ H' => ∃ (rows : List T) (ys : List V) (x11 x12 x13 x14 : Option V), σ = [some (.ref S), some (.int n), some (.ref oA), some (.ref cA), some (.ref nA), some (.ref gA), some (.ref fA), some (.int (atN cn ns i : Nat)), some (.int k), some (.int gr), some (.ref rA), x11, x12, x13, x14] ∧
            AS K cs S H oA cA nA dA gA fA os cn ss ns gs ts H' ∧ H' rA = some (.lst ys) ∧ DenL K NT H' rows ys ∧ rows.length = p ∧ (∀ r ∈ rows, isConsT r n = true) ∧ rows.map cNameT = (ss.drop (atN cn ns i)).take p ∧
            (b = false → gr < p → ∃ r ∈ rows, ∀ q ∈ cPartsT r, ∃ m : Nat, q = .int m ∧ m < n ∧ (os[m]? = some true ∨ ∃ j' < i, ns[j']? = some (m : Int))))
          ⟨[], [], _, _, _, _, rfl, as10, upd_same, DenL.nil, rfl, fun _ z => (by cases z), rfl, fun _ h => absurd h (by omega)⟩ (fun p σ H' hp w => ?_) fun σ H' w => ?_
        · obtain ⟨rows, ys, x11, x12, x13, x14, rfl, as, hr, dy, lr, okr, nmr, grd⟩ := w
          refine ⟨_, rfl, n, rfl, RgOk.of_le (by omega) (by omega) (by omega) (by omega), fun m0 hm0 => ?_⟩
          have as1 := as.step (Dr.new (o := .lst (rgV 0 n)) as.dr.st as.dr.tok hm0) fr hst
          have rm0 := ne_of_none hr hm0
          have hr1 : (upd H' m0 (.lst (rgV 0 n))) rA = some (.lst ys) := by rw [upd_ne rm0]; exact hr
          have dy1 := DenL.nt (Kp.new (N := N0) (o := .lst (rgV 0 n)) hm0) dy
          refine ⟨fun σ H'' => ∃ (ms : List Int) (mA : Addr), σ = [some (.ref S), some (.int n), some (.ref oA), some (.ref cA), some (.ref nA), some (.ref gA), some (.ref fA), some (.int (atN cn ns i : Nat)), some (.int k), some (.int gr), some (.ref rA), some (.int (0 + (p : Int))), some (.ref mA), x13, x14] ∧
            AS K cs S H oA cA nA dA gA fA os cn ss ns gs ts H'' ∧ H'' rA = some (.lst ys) ∧ DenL K NT H'' rows ys ∧ H'' mA = some (.lst (ms.map V.int)) ∧ H mA = none ∧ ms.length ≤ 100 ∧ (∀ m ∈ ms, 0 ≤ m ∧ m < n) ∧
            (b = false → gr = p → ∀ g ∈ ms, ∃ m : Nat, g = m ∧ m < n ∧ (os[m]? = some true ∨ ∃ j' < i, ns[j']? = some (m : Int))), ?_, ?_⟩
          · have fin0 : (b = false → gr = p → False) → ∃ (ms : List Int) (mA : Addr), [some (.ref S), some (.int n), some (.ref oA), some (.ref cA), some (.ref nA), some (.ref gA), some (.ref fA), some (.int (atN cn ns i : Nat)), some (.int k), some (.int gr), some (.ref rA), some (.int (0 + (p : Int))), some (.ref m0), x13, x14] = [some (.ref S), some (.int n), some (.ref oA), some (.ref cA), some (.ref nA), some (.ref gA), some (.ref fA), some (.int (atN cn ns i : Nat)), some (.int k), some (.int gr), some (.ref rA), some (.int (0 + (p : Int))), some (.ref mA), x13, x14] ∧
                AS K cs S H oA cA nA dA gA fA os cn ss ns gs ts (upd H' m0 (.lst (rgV 0 n))) ∧ (upd H' m0 (.lst (rgV 0 n))) rA = some (.lst ys) ∧ DenL K NT (upd H' m0 (.lst (rgV 0 n))) rows ys ∧ (upd H' m0 (.lst (rgV 0 n))) mA = some (.lst (ms.map V.int)) ∧ H mA = none ∧ ms.length ≤ 100 ∧ (∀ m ∈ ms, 0 ≤ m ∧ m < n) ∧
                (b = false → gr = p → ∀ g ∈ ms, ∃ m : Nat, g = m ∧ m < n ∧ (os[m]? = some true ∨ ∃ j' < i, ns[j']? = some (m : Int))) := fun no' => by
              refine ⟨rgI n, m0, rfl, as1, hr1, dy1, ?_, as.dr.stay _ hm0, by rw [rg_len]; omega, fun m hm => ?_, fun h1 h2 => (no' h1 h2).elim⟩
              · rw [upd_same]
                unfold rgV rgI
                rw [Int.sub_zero, Int.toNat_natCast, List.map_map]
                congr 3
                funext j
                show V.int (0 + (j : Int)) = V.int (j : Int)
                rw [Int.zero_add]
              · obtain ⟨j, hj, rfl⟩ := List.mem_map.mp hm
                have := List.mem_range.mp hj
                omega
            refine ⟨_, rfl, _, rfl, oA, _, _, _, rfl, rfl, SqL.of as1.o, atI_nat hb', _, rfl, ?_⟩
            cases b with
            | true => exact iteF (iteF (fin0 fun z => by cases z))
            | false =>
              refine iteT ⟨_, rfl, _, rfl, rfl, _, rfl, ite2 (fun e => ?_) fun e => ?_⟩
              · refine ⟨_, rfl, gA, _, rfl, .inl (SqL.of as1.g), fun mA hmA => ?_⟩
                have as2 := as1.step (Dr.new (o := .lst (gs.map V.int)) as1.dr.st as1.dr.tok hmA) fr hst
                refine ⟨gs, mA, rfl, as2, by rw [upd_ne (ne_of_none hr1 hmA)]; exact hr1, DenL.nt (Kp.new (N := N0) hmA) dy1, upd_same, as1.dr.stay _ hmA, by omega, fun g hg => ?_, fun _ _ => am.good⟩
                obtain ⟨m, rfl, hm, _⟩ := am.good g hg
                omega
              · exact fin0 fun _ z => e (decide_eq_true (congrArg V.int (by omega)))
          rintro σ H2 ⟨ms, mA, rfl, as2, hr2, dy2, hm2, fmA, lms, rng, gd2⟩
          refine ⟨Nat.zero_le _, fun t0 ht0 => ?_⟩
          have as3 := as2.step (Dr.new (o := .tup []) as2.dr.st as2.dr.tok ht0) fr hst
          have smA := hst.ne fmA
          have hr3 : (upd H2 t0 (.tup [])) rA = some (.lst ys) := by rw [upd_ne (ne_of_none hr2 ht0)]; exact hr2
          have hm3 : (upd H2 t0 (.tup [])) mA = some (.lst (ms.map V.int)) := by rw [upd_ne (ne_of_none hm2 ht0)]; exact hm2
          have dy3 := DenL.nt (Kp.new (N := N0) (o := .tup []) ht0) dy2
          refine ⟨_, rfl, S, _, rfl, as3.dr.st, as3.dr.tok, by decide, by decide, fun q H4 q0 q1 drq => ⟨_, rfl, by omega, by omega, ?_⟩⟩
          refine for_range (n := q.toNat) (fun t σ H'' => ∃ (pl : List Int) (v13 : V) (x14 : Option V), σ = [some (.ref S), some (.int n), some (.ref oA), some (.ref cA), some (.ref nA), some (.ref gA), some (.ref fA), some (.int (atN cn ns i : Nat)), some (.int k), some (.int gr), some (.ref rA), some (.int (0 + (p : Int))), some (.ref mA), some v13, x14] ∧
              AS K cs S H oA cA nA dA gA fA os cn ss ns gs ts H'' ∧ H'' rA = some (.lst ys) ∧ DenL K NT H'' rows ys ∧ H'' mA = some (.lst (ms.map V.int)) ∧ Den K NT H'' (.tup (pl.map T.int)) v13 ∧ pl.length ≤ t ∧ ∀ m ∈ pl, m ∈ ms)
            ⟨[], .ref t0, _, rfl, as3.step drq fr hst, drq.keepL hr3 srA, DenL.nt drq.toKp dy3, drq.keepL hm3 smA, Den.nt drq.toKp (Den.tup_ (SqT.of upd_same) DenL.nil), Nat.zero_le _, fun _ z => (by cases z)⟩ (fun t σ H'' ht w => ?_) fun σ H'' w => ?_
          · obtain ⟨pl, v13, x14, rfl, as5, hr5, dy5, hm5, d5, lp, inm⟩ := w
            refine ⟨_, rfl, Nat.zero_le _, fun e0 he0 => ⟨.list (ms.map PyData.int), .list [], .lst (SqL.of (by rw [upd_ne (ne_of_none hm5 he0)]; exact hm5)) (dp_ints ms), .lst (SqL.of upd_same) .nil, shaped_ints ms, by decide, _, rfl, ?_⟩⟩
            have dre : Dr cs S H'' (upd H'' e0 (.lst [])) := Dr.new as5.dr.st as5.dr.tok he0
            have as6 := as5.step dre fr hst
            have hr6 := dre.keepL hr5 srA
            have dy6 := DenL.nt dre.toKp dy5
            have hm6 := dre.keepL hm5 smA
            have d6 := Den.nt dre.toKp d5
            refine ite2 (fun ne => ?_) fun _ => ⟨pl, v13, _, rfl, as6, hr6, dy6, hm6, d6, by omega, inm⟩
            have nem : ms ≠ [] := fun z => by
              rw [z] at ne
              revert ne
              decide
            obtain ⟨a13, xs13, rfl, h13, dl13⟩ := (show ∃ a xs, v13 = .ref a ∧ SqT K (upd H'' e0 (.lst [])) a xs ∧ DenL K NT (upd H'' e0 (.lst [])) (pl.map T.int) xs from by unfold Den at d6; exact d6)
            refine ⟨_, rfl, _, rfl, _, rfl, S, mA, _, rfl, as6.dr.st, as6.dr.tok, .inl ⟨hm6, smA⟩, by simpa using nem, by rw [List.length_map]; omega, fun v H7 hv dr7' => ?_⟩
            obtain ⟨m, hm, rfl⟩ := List.mem_map.mp hv
            have as7 := as6.step dr7' fr hst
            have hr7 := dr7'.keepL hr6 srA
            have dy7 := DenL.nt dr7'.toKp dy6
            have hm7 := dr7'.keepL hm6 smA
            have d7 := DenL.nt dr7'.toKp dl13
            refine ⟨by show 1 ≤ sizeLine; decide, fun t1 ht1 => ?_⟩
            have dr8' : Dr cs S H7 (upd H7 t1 (.tup [.int m])) := Dr.new as7.dr.st as7.dr.tok ht1
            refine cat_rd (cs := cs) ((dr8'.toKp.sqT (dr7'.toKp.sqT h13))) (SqT.of upd_same) dr8'.tok ?_ fun p9 H9' e9 h9 => ?_
            · have := d7.len
              rw [List.length_map] at this
              show _ + 1 ≤ _
              have : sizeLine = 16777216 := sizeLine_eq
              omega
            · have dr9' := dr8'.e0 e9
              have as9 := as7.step dr9' fr hst
              refine ⟨pl ++ [m], .ref p9, _, rfl, as9, dr9'.keepL hr7 srA, DenL.nt dr9'.toKp dy7, dr9'.keepL hm7 smA, Den.tup_ h9 ?_, by rw [List.length_append]; show _ + 1 ≤ _; omega, fun x hx => ?_⟩
              · rw [List.map_append]
                exact DenL.append (DenL.nt dr9'.toKp d7) (DenL.cons (Den.int_ m) DenL.nil)
              · rcases List.mem_append.mp hx with hx | hx
                · exact inm x hx
                · rw [List.mem_singleton.mp hx]; exact hm
          · obtain ⟨pl, v13, x14, rfl, as5, hr5, dy5, hm5, d5, lp, inm⟩ := w
            obtain ⟨nmS, hnm1, hnm2⟩ := nml p hp
            have hnmV : (ss.map V.str)[atN cn ns i + p]? = some (.str nmS) := by rw [List.getElem?_map, hnm1]; rfl
            refine ⟨_, rfl, .inl ⟨rfl, _, .inl (.inl hr5)⟩, _, rfl, _, rfl, _, rfl, _, _, rfl, rfl, nA, _, _, .str nmS, rfl, rfl, SqL.of as5.n, ?_, _, rfl, by show 2 ≤ sizeLine; decide, fun t1 ht1 => ?_⟩
            · rw [show ((atN cn ns i : Nat) : Int) + (0 + (p : Int)) = ((atN cn ns i + p : Nat) : Int) by omega]
              exact atI_nat hnmV
            have dr6' : Dr cs S H'' (upd H'' t1 (.tup [.str nmS, v13])) := Dr.new as5.dr.st as5.dr.tok ht1
            have as6 := as5.step dr6' fr hst
            have hr6 := dr6'.keepL hr5 srA
            have lny : ys.length = p := by rw [dy5.len]; exact lr
            refine ⟨rA, ys, _, rfl, rfl, hr6, small1000 (by omega), ?_⟩
            have hz : nmS.length ≤ sizeLine := by have := (of_name hnm2).2.1; exact small (by omega)
            have kpr : Kp NT (upd H'' t1 (.tup [.str nmS, v13])) (upd (upd H'' t1 (.tup [.str nmS, v13])) rA (.lst (ys ++ [.ref t1]))) := Kp.put hr6 trivial
            have dT : Den K NT (upd H'' t1 (.tup [.str nmS, v13])) (rowT nmS pl) (.ref t1) := Den.tup_ (SqT.of upd_same) (DenL.cons (Den.str_ _ hz) (DenL.cons (Den.nt dr6'.toKp d5) DenL.nil))
            have cT : isConsT (rowT nmS pl) n = true := isCons_of hnm2 (by omega) fun m hm => rng m (inm m hm)
            refine ⟨rows ++ [rowT nmS pl], ys ++ [.ref t1], _, _, _, _, rfl, as6.putO hst frA hr6 no nc nn nd ng' nf', upd_same, DenL.nt kpr (DenL.append (DenL.nt dr6'.toKp dy5) (DenL.cons dT DenL.nil)), by rw [List.length_append, lr]; rfl, fun r hr => ?_, ?_, fun hb0 hlt => ?_⟩
            · rcases List.mem_append.mp hr with hr | hr
              · exact okr r hr
              · rw [List.mem_singleton.mp hr]; exact cT
            · rw [List.map_append, nmr, List.take_add_one, List.getElem?_drop, hnm1]
              rfl
            · by_cases e : gr = p
              · refine ⟨rowT nmS pl, List.mem_append_right _ List.mem_cons_self, fun q hq => ?_⟩
                obtain ⟨m, hm, rfl⟩ := List.mem_map.mp (show q ∈ pl.map T.int from hq)
                obtain ⟨m', rfl, h1, h2⟩ := gd2 hb0 e m (inm m hm)
                exact ⟨m', rfl, h1, h2⟩
              · obtain ⟨r, hr, h⟩ := grd hb0 (by omega)
                exact ⟨r, List.mem_append_left _ hr, h⟩
        · obtain ⟨rows, ys, x11, x12, x13, x14, rfl, as, hr, dy, lr, okr, nmr, grd⟩ := w
          refine ⟨_, rfl, _, rfl, _, rfl, cA, _, _, _, rfl, rfl, SqL.of as.c, atI_nat hcv, _, _, rfl, rfl, ?_⟩
          refine ⟨_, rfl, _, rfl, oA, _, _, _, rfl, rfl, SqL.of as.o, atI_nat hb', _, rfl, ite_tc ?_⟩
          refine ⟨_, rfl, rA, ys, rfl, .inl ⟨SqL.of hr, fun l1 hl1 => ⟨by show 2 ≤ sizeLine; decide, fun l2 hl2 => ?_⟩⟩⟩
          have d1 : Dr cs S H' (upd H' l1 (.tup ys)) := Dr.new as.dr.st as.dr.tok hl1
          have d2 := d1.nw hl2 (o := .tup [if b = true then .str "open" else .str "closed", .ref l1])
          have as1 := as.step d2 fr hst
          have lny : ys.length = c := by rw [dy.len]; exact lr
          have eh : (if b = true then V.str "open" else V.str "closed") = V.str (howS b) := by cases b <;> rfl
          have kT1 : SqT K (upd H' l1 (.tup ys)) l1 ys := SqT.of upd_same
          have dR : Den K NT (upd (upd H' l1 (.tup ys)) l2 (.tup [if b = true then .str "open" else .str "closed", .ref l1])) (kindT (howS b) rows) (.ref l2) := by
            have k2 : Kp N0 (upd H' l1 (.tup ys)) (upd (upd H' l1 (.tup ys)) l2 (.tup [if b = true then .str "open" else .str "closed", .ref l1])) := Kp.new hl2
            refine Den.tup_ (SqT.of upd_same) ?_
            rw [eh]
            exact DenL.cons (Den.str_ _ (by cases b <;> decide)) (DenL.cons (Den.tup_ (by rw [← eh]; exact k2.sqT kT1) (by rw [← eh]; exact DenL.nt d2.toKp dy)) DenL.nil)
          obtain ⟨xf, hf, df⟩ := as1.f
          have lxf : xf.length = n := by rw [df.len]; exact am.len
          refine ⟨_, rfl, _, rfl, fA, xf, _, k, rfl, rfl, hf, ixN_nat (by omega), ?_⟩
          have as2 := as1.putF hst fr (DenL.set k df dR)
          have am2 := am.next pm hi hb (rows := rows) (by omega) okr (by rw [ec]; exact nmr) fun hb0 => grd hb0 (by
            have := cb (by rw [hb, hb0])
            by_cases h : gr < c
            · exact h
            · have := grc (by omega); omega)
          have eat : (atN cn ns i : Int) + (c : Int) = ((atN cn ns (i + 1) : Nat) : Int) := by
            have e3 : atN cn ns (i + 1) = atN cn ns i + cntA cn k := by
              unfold atN
              rw [show ns.take (i + 1) = ns.take i ++ [(k : Int)] by rw [List.take_add_one, hi]; rfl, List.map_append, List.sum_append]
              rfl
            rw [e3, ec]; omega
          refine ⟨_, rfl, _, rfl, oA, _, _, _, rfl, rfl, SqL.of as2.o, atI_nat hb', _, rfl, ?_⟩
          cases b with
          | true =>
            refine iteF ⟨gs, _, some (.int k), some (.int gr), some (.ref rA), x11, x12, x13, x14, ?_, as2, am2, by omega⟩
            rw [← eat]; rfl
          | false =>
            refine iteT ⟨_, rfl, .inl ⟨rfl, _, .inl (.inl as2.g)⟩, _, rfl, gA, _, _, rfl, rfl, as2.g, small1000 (by rw [List.length_map]; omega), ?_⟩
            have as3 := as2.putG (gs' := gs ++ [(k : Int)]) hst fr
            rw [List.map_append] at as3
            refine ⟨gs ++ [(k : Int)], _, some (.int k), some (.int gr), some (.ref rA), x11, x12, x13, x14, ?_, as3, am2, by rw [List.length_append]; show _ + 1 ≤ _; omega⟩
            rw [← eat]; rfl
    · obtain ⟨gs, ts, x8, x9, x10, x11, x12, x13, x14, rfl, as, am, _⟩ := p
      rw [List.length_map, lns] at am
      obtain ⟨xf, hf, df⟩ := as.f
      refine ⟨_, rfl, fA, xf, rfl, .inl ⟨SqL.of hf, fun l hl => ?_⟩⟩
      have e : Ex cs N0 H' (upd H' l (.tup xf)) := Ex.new as.dr.tok hl
      exact k _ (.tup ts) _ (am.sig pm nok.2 n1 n3) (as.dr.e0 e) (Den.tup_ (SqT.of upd_same) (DenL.nt e.toKp df))
end
end LW
namespace LW
open PySem PySem.Spec PyProof.Rows L2 GxR FW GA EN SL
def MD (K : PySem.W.Frag) (cs : List (Addr × Addr)) (S : Addr) (N : Addr → Prop) (te : TE) (σ : L2.St) (H0 : Hp) (P : T → Prop) : Prop :=
  ∀ H, Dr cs S H0 H → ∀ Q : VK, (∀ v t H', P t → Dr cs S H H' → Den K N H' t v → Q v H') → te σ H Q
def MDA (K : PySem.W.Frag) (cs : List (Addr × Addr)) (S : Addr) (N : Addr → Prop) (ta : TA) (σ : L2.St) (H0 : Hp) (P : List T → Prop) : Prop :=
  ∀ H, Dr cs S H0 H → ∀ Q : List V → Hp → Prop, (∀ xs ts H', P ts → Dr cs S H H' → DenL K N H' ts xs → Q xs H') → ta σ H Q
/-- a new list of trees -/
def MDL (K : PySem.W.Frag) (cs : List (Addr × Addr)) (S : Addr) (N : Addr → Prop) (te : TE) (σ : L2.St) (H0 : Hp) (P : List T → Prop) : Prop :=
  ∀ H, Dr cs S H0 H → ∀ Q : VK, (∀ a xs ts H', P ts → Dr cs S H H' → H a = none → H' a = some (.lst xs) → DenL K N H' ts xs → Q (.ref a) H') → te σ H Q
section
variable {K : PySem.W.Frag} {cs : List (Addr × Addr)} {S : Addr} {N : Addr → Prop} {σ : L2.St} {H0 H1 H2 : Hp} {t : T} {ts us : List T} {te tf : TE} {ta tr : TA} {P P' : T → Prop} {R R' : List T → Prop} {xs : List V} {v : V}
theorem Den.drN (hS : N S) (d : Dr cs S H1 H2) (h : Den K N H1 t v) : Den K N H2 t v := Den.kp (d.toKp.mono fun a e => by rw [show a = S from e]; exact hS) t v h
theorem DenL.drN (hS : N S) (d : Dr cs S H1 H2) (h : DenL K N H1 ts xs) : DenL K N H2 ts xs := DenL.kp (d.toKp.mono fun a e => by rw [show a = S from e]; exact hS) ts xs h
theorem MD.weak (h : MD K cs S N te σ H0 P) (w : ∀ t, P t → P' t) : MD K cs S N te σ H0 P' := fun H d Q k => h H d Q fun v t H' p => k v t H' (w t p)
theorem MDA.weak (h : MDA K cs S N ta σ H0 R) (w : ∀ t, R t → R' t) : MDA K cs S N ta σ H0 R' := fun H d Q k => h H d Q fun v t H' p => k v t H' (w t p)
theorem MD.dr (h : MD K cs S N te σ H0 P) (d : Dr cs S H0 H1) : MD K cs S N te σ H1 P := fun H e => h H (d.trans e)
theorem md_c {v : V} (hd : ∀ H, Den K N H t v) : MD K cs S N (tC v) σ H0 (· = t) := fun H d Q k => k v t H rfl (Dr.refl d.st d.tok) (hd H)
theorem md_int {i : Int} : MD K cs S N (tC (.int i)) σ H0 (· = .int i) := md_c fun _ => Den.int_ i
theorem md_bl {b : Bool} : MD K cs S N (tC (.bl b)) σ H0 (· = .bl b) := md_c fun _ => Den.bl_ b
theorem md_non : MD K cs S N (tC .non) σ H0 (· = .non) := md_c fun _ => Den.non_
theorem md_str {s : Str} (h : s.length ≤ sizeLine := by decide) : MD K cs S N (tC (.str s)) σ H0 (· = .str s) := md_c fun _ => Den.str_ s h
theorem md_var {i : Nat} (hS : N S) (hs : σ[i]? = some (some v)) (hd : Den K N H0 t v) : MD K cs S N (tVar i) σ H0 (· = t) := fun H d Q k => ⟨v, hs, k v t H rfl (Dr.refl d.st d.tok) (Den.drN hS d hd)⟩
theorem md_ixS {i j : Nat} {a : Addr} {ss : List Str} {s : Str} (hs : σ[i]? = some (some (.ref a))) (ha : H0 a = some (.lst (ss.map V.str))) (nS : a ≠ S) (hj : ss[j]? = some s) (hz : s.length ≤ sizeLine) :
    MD K cs S N (tOp (rIxL K) (tVar i) (tC (.int (j : Nat)))) σ H0 (· = .str s) :=
  fun H d Q k => ⟨_, hs, a, _, _, _, rfl, rfl, SqL.of (d.keepL ha nS), atI_nat (by rw [List.getElem?_map, hj]; rfl), k _ _ H rfl (Dr.refl d.st d.tok) (Den.str_ s hz)⟩
theorem md_nil : MDA K cs S N tNil σ H0 (· = []) := fun H d Q k => k [] [] H rfl (Dr.refl d.st d.tok) DenL.nil
theorem md_cons (hS : N S) (h : MD K cs S N te σ H0 P) (r : MDA K cs S N tr σ H0 R) : MDA K cs S N (tCons te tr) σ H0 (fun l => ∃ t ts, l = t :: ts ∧ P t ∧ R ts) :=
  fun H d Q k => h H d _ fun v t H1 p d1 e1 => r H1 (d.trans d1) _ fun xs ts H2 q d2 e2 => k (v :: xs) (t :: ts) H2 ⟨t, ts, rfl, p, q⟩ (d1.trans d2) (DenL.cons (Den.drN hS d2 e1) e2)
theorem md_tup (hS : N S) (h : MDA K cs S N ta σ H0 R) (hl : ∀ ts, R ts → ts.length ≤ 1000) : MD K cs S N (tTup ta) σ H0 (fun t => ∃ ts, t = .tup ts ∧ R ts) :=
  fun H d Q k => h H d _ fun xs ts H1 p d1 e1 => ⟨by rw [e1.len]; exact small (hl ts p), fun a ha => by
    have d2 : Dr cs S H1 (upd H1 a (.tup xs)) := Dr.new d1.st d1.tok ha
    exact k _ (.tup ts) _ ⟨ts, rfl, p⟩ (d1.trans d2) (Den.tup_ (SqT.of upd_same) (DenL.drN hS d2 e1))⟩
theorem md_lst (hS : N S) (h : MDA K cs S N ta σ H0 R) (hl : ∀ ts, R ts → ts.length ≤ 1000) : MDL K cs S N (tLst ta) σ H0 R :=
  fun H d Q k => h H d _ fun xs ts H1 p d1 e1 => ⟨by rw [e1.len]; exact small (hl ts p), fun a ha => by
    have d2 : Dr cs S H1 (upd H1 a (.lst xs)) := Dr.new d1.st d1.tok ha
    exact k a xs ts _ p (d1.trans d2) (d1.stay _ ha) upd_same (DenL.drN hS d2 e1)⟩
/-- a list as a tree -/
theorem mdl_tree (hN : ∀ a, N a → H0 a ≠ none) (h : MDL K cs S N te σ H0 R) : MD K cs S N te σ H0 (fun t => ∃ ts, t = .lst ts ∧ R ts) :=
  fun H d Q k => h H d _ fun a xs ts H1 p d1 ha e1 e2 => k _ (.lst ts) H1 ⟨ts, rfl, p⟩ d1 (Den.lst_ e1 (fun n => hN a n (d.stay _ ha)) e2)
theorem md_dct (hN : ∀ a, N a → H0 a ≠ none) : MD K cs S N tDNewK σ H0 (· = .dct) :=
  fun H d Q k p hp => k _ .dct _ rfl (Dr.new d.st d.tok hp) (Den.dct_ upd_same fun n => hN p n (d.stay _ hp))
theorem mdl_cat (hS : N S) (h1 : MDL K cs S N te σ H0 R) (h2 : MDL K cs S N tf σ H0 R') (hl : ∀ ts us, R ts → R' us → ts.length + us.length ≤ 1000) : MDL K cs S N (tOp rCat te tf) σ H0 (fun l => ∃ ts us, l = ts ++ us ∧ R ts ∧ R' us) :=
  fun H d Q k => h1 H d _ fun a xs ts H1 p d1 ha e1 f1 => h2 H1 (d.trans d1) _ fun b ys us H2 q d2 hb e2 f2 => by
    have e1' := d2.keepL e1 (d.st.ne ha)
    refine ⟨a, b, xs, ys, rfl, rfl, e1', e2, by rw [f1.len, f2.len]; exact small (hl ts us p q), fun l hl' => ?_⟩
    have d3 : Dr cs S H2 (upd H2 l (.lst (xs ++ ys))) := Dr.new d2.st d2.tok hl'
    exact k l _ (ts ++ us) _ ⟨ts, us, rfl, p, q⟩ (d1.trans (d2.trans d3)) (d1.stay _ (d2.stay _ hl')) upd_same ((DenL.drN hS (d2.trans d3) f1).append (DenL.drN hS d3 f2))
/-- a pick of a list -/
theorem md_pick {i : Nat} (hi : σ[i]? = some (some (.ref S))) (hS : N S) (h : MDL K cs S N te σ H0 R) (hl : ∀ ts, R ts → ts ≠ [] ∧ ts.length ≤ 1000) : MD K cs S N (tCall (spPick K cs) [] E0 (tCons (tVar i) (tCons te tNil))) σ H0 (fun t => ∃ ts, R ts ∧ t ∈ ts) :=
  fun H d Q k => ⟨_, hi, h H d _ fun a xs ts H1 p d1 ha e1 f1 => by
    obtain ⟨ne, l1⟩ := hl ts p
    have ln := f1.len
    refine ⟨S, a, xs, rfl, d1.st, d1.tok, .inl ⟨e1, d.st.ne ha⟩, fun z => ne (by rw [z] at ln; exact List.length_eq_zero_iff.mp ln.symm), by omega, fun v H2 hv d2 => ?_⟩
    obtain ⟨j, hj⟩ := List.mem_iff_getElem?.mp hv
    obtain ⟨t, ht, dt⟩ := f1.get hj
    exact k v t H2 ⟨ts, p, List.mem_of_getElem? ht⟩ (d1.trans d2) (Den.drN hS d2 dt)⟩
end
end LW
namespace LW
open PySem PySem.Spec PyProof.Rows L2 GxR FW GA EN SL
def PartsP (t : T) : Prop := ∃ pl : List Int, t = .tup (pl.map T.int) ∧ pl.length ≤ 2 ∧ ∀ p ∈ pl, 0 ≤ p ∧ p < 3
def AllP (P : T → Prop) (n : Nat) (ts : List T) : Prop := ts.length = n ∧ ∀ t ∈ ts, P t
def Row0 (ss : List Str) (j : Nat) (t : T) : Prop := ∃ s, ss[j]? = some s ∧ t = rowT s []
def RowAt (ss : List Str) (j : Nat) (t : T) : Prop := ∃ s pl, ss[j]? = some s ∧ t = rowT s pl ∧ pl.length ≤ 2 ∧ ∀ p ∈ pl, 0 ≤ p ∧ p < 3
def RowsAt (ss : List Str) (j n : Nat) (ts : List T) : Prop := ts.length = n ∧ ∀ i t, ts[i]? = some t → RowAt ss (j + i) t
theorem Row0.at {ss : List Str} {j : Nat} {t : T} (h : Row0 ss j t) : RowAt ss j t := by
  obtain ⟨s, a, rfl⟩ := h
  exact ⟨s, [], a, rfl, by decide, fun _ z => by cases z⟩
theorem RowsAt.nil {ss : List Str} {j : Nat} : RowsAt ss j 0 [] := ⟨rfl, fun i t e => by simp at e⟩
theorem RowsAt.cons {ss : List Str} {j n : Nat} {t : T} {ts : List T} (h : RowAt ss j t) (r : RowsAt ss (j + 1) n ts) : RowsAt ss j (n + 1) (t :: ts) :=
  ⟨by rw [List.length_cons, r.1], fun i u e => by
    cases i with
    | zero => rw [← Option.some.inj (show some t = some u from e)]; exact h
    | succ i => have := r.2 i u (by simpa using e); rw [show j + (i + 1) = j + 1 + i by omega]; exact this⟩
theorem RowsAt.snoc {ss : List Str} {j n : Nat} {t : T} {ts : List T} (r : RowsAt ss j n ts) (h : RowAt ss (j + n) t) : RowsAt ss j (n + 1) (ts ++ [t]) :=
  ⟨by rw [List.length_append, r.1]; rfl, fun i u e => by
    by_cases c : i < ts.length
    · rw [List.getElem?_append_left c] at e; exact r.2 i u e
    · rw [List.getElem?_append_right (by omega)] at e
      have : i - ts.length = 0 := by
        cases hj : i - ts.length with
        | zero => rfl
        | succ m => rw [hj] at e; simp at e
      rw [this] at e
      have e : t = u := Option.some.inj e
      have := r.1
      rw [← e, show i = n by omega]; exact h⟩
theorem RowsAt.take {ss : List Str} {j n : Nat} {ts : List T} (r : RowsAt ss j n ts) (m : Nat) (hm : m ≤ n) : RowsAt ss j m (ts.take m) :=
  ⟨by rw [List.length_take, r.1]; omega, fun i u e => by
    rw [List.getElem?_take] at e
    split at e
    · exact r.2 i u e
    · cases e⟩
theorem RowsAt.names {ss : List Str} : ∀ {n j : Nat} {ts : List T}, RowsAt ss j n ts → ts.map cNameT = (ss.drop j).take n
  | 0, j, ts, r => by rw [List.length_eq_zero_iff.mp r.1, List.take_zero]; rfl
  | n + 1, j, [], r => by have := r.1; cases this
  | n + 1, j, t :: ts, r => by
    obtain ⟨s, pl, hs, e, _⟩ := r.2 0 t rfl
    have r' : RowsAt ss (j + 1) n ts := ⟨by have := r.1; rw [List.length_cons] at this; omega, fun i u e => by
      have := r.2 (i + 1) u (by simpa using e)
      rw [show j + (i + 1) = j + 1 + i by omega] at this; exact this⟩
    rw [List.map_cons, RowsAt.names r', e]
    have hj : j < ss.length := (List.getElem?_eq_some_iff.mp hs).1
    rw [List.drop_eq_getElem_cons hj, List.take_succ_cons]
    have : ss[j] = s := by rw [Nat.add_zero, List.getElem?_eq_getElem hj] at hs; exact Option.some.inj hs
    rw [this]; rfl
theorem RowsAt.ok {ss : List Str} {n j : Nat} {ts : List T} (nok : NamesOk ss) (r : RowsAt ss j n ts) : ∀ c ∈ ts, isConsT c 3 = true := fun c hc => by
  obtain ⟨i, hi⟩ := List.mem_iff_getElem?.mp hc
  obtain ⟨s, pl, hs, rfl, h1, h2⟩ := r.2 i c hi
  exact isCons_of (nok.1 s (List.mem_of_getElem? hs)) h1 h2
section
variable {K : PySem.W.Frag} {cs : List (Addr × Addr)} {S a : Addr} {N : Addr → Prop} {σ : L2.St} {H0 : Hp} {te : TE} {ta tr : TA} {P : T → Prop} {n i j : Nat} {ss : List Str} {x y : Int}
theorem mda_nil : MDA K cs S N tNil σ H0 (AllP P 0) := md_nil.weak fun t e => by rw [e]; exact ⟨rfl, fun _ z => by cases z⟩
theorem mda_cons (hS : N S) (h : MD K cs S N te σ H0 P) (r : MDA K cs S N tr σ H0 (AllP P n)) : MDA K cs S N (tCons te tr) σ H0 (AllP P (n + 1)) :=
  (md_cons hS h r).weak fun l ⟨t, ts, e, p, q⟩ => by
    rw [e]
    exact ⟨by rw [List.length_cons, q.1], fun u hu => (List.mem_cons.mp hu).elim (fun e => by rw [e]; exact p) (q.2 u)⟩
theorem md_parts1 (hi : σ[i]? = some (some (.int x))) (h0 : 0 ≤ x) (h3 : x < 3) : MD K cs S NT (tTup (tCons (tVar i) tNil)) σ H0 PartsP :=
  (md_tup trivial (md_cons trivial (md_var trivial hi (Den.int_ x)) md_nil) (fun ts ⟨t, us, e, _, e2⟩ => by rw [e, e2]; exact Nat.le_of_ble_eq_true rfl)).weak fun t ⟨ts, e, t1, us, e1, e2, e3⟩ => by
    subst e e1 e2 e3
    exact ⟨[x], rfl, Nat.le_of_ble_eq_true rfl, fun p hp => by rw [List.mem_singleton.mp hp]; exact ⟨h0, h3⟩⟩
theorem md_parts2 (hi : σ[i]? = some (some (.int x))) (hj : σ[j]? = some (some (.int y))) (h0 : 0 ≤ x) (h3 : x < 3) (h0' : 0 ≤ y) (h3' : y < 3) : MD K cs S NT (tTup (tCons (tVar i) (tCons (tVar j) tNil))) σ H0 PartsP :=
  (md_tup trivial (md_cons trivial (md_var trivial hi (Den.int_ x)) (md_cons trivial (md_var trivial hj (Den.int_ y)) md_nil)) (fun ts ⟨t, us, e, _, t2, us2, e2, _, e3⟩ => by rw [e, e2, e3]; exact Nat.le_of_ble_eq_true rfl)).weak fun t ⟨ts, e, t1, us, e1, e2, t2, us2, e3, e4, e5⟩ => by
    subst e e1 e2 e3 e4 e5
    refine ⟨[x, y], rfl, Nat.le_of_ble_eq_true rfl, fun p hp => ?_⟩
    rcases List.mem_cons.mp hp with rfl | hp
    · exact ⟨h0, h3⟩
    · rw [List.mem_singleton.mp hp]; exact ⟨h0', h3'⟩
theorem md_pickP (hi : σ[i]? = some (some (.ref S))) (h : MDA K cs S NT ta σ H0 (AllP PartsP n)) (h0 : 0 < n) (h1 : n ≤ 1000) : MD K cs S NT (tCall (spPick K cs) [] E0 (tCons (tVar i) (tCons (tLst ta) tNil))) σ H0 PartsP :=
  (md_pick hi trivial (md_lst trivial h fun ts p => by rw [p.1]; exact h1) fun ts p => ⟨fun z => by rw [z] at p; have := p.1; rw [← this] at h0; exact absurd h0 (by decide), by rw [p.1]; exact h1⟩).weak fun t ⟨ts, p, ht⟩ => p.2 t ht
theorem md_row0 (hs : σ[i]? = some (some (.ref a))) (ha : H0 a = some (.lst (ss.map V.str))) (nS : a ≠ S) (nok : NamesOk ss) (hj : j < ss.length) : MD K cs S NT (tTup (tCons (tOp (rIxL K) (tVar i) (tC (.int (j : Nat)))) (tCons (tTup tNil) tNil))) σ H0 (Row0 ss j) := by
  have hj' : ss[j]? = some ss[j] := by simp [hj]
  have hz : (ss[j]).length ≤ sizeLine := by have := (of_name (nok.1 _ (List.getElem_mem hj))).2.1; exact small (by omega)
  exact (md_tup trivial (md_cons trivial (md_ixS hs ha nS hj' hz) (md_cons trivial (md_tup trivial md_nil fun ts e => by rw [e]; decide) md_nil)) (fun ts ⟨t, us, e, _, t2, us2, e2, _, e3⟩ => by rw [e, e2, e3]; exact Nat.le_of_ble_eq_true rfl)).weak fun t ⟨ts, e, t1, us, e1, e2, t2, us2, e3, ⟨u, e4, e6⟩, e5⟩ => by
    subst e e1 e2 e3 e4 e5 e6
    exact ⟨ss[j], hj', rfl⟩
theorem md_row (hs : σ[i]? = some (some (.ref a))) (ha : H0 a = some (.lst (ss.map V.str))) (nS : a ≠ S) (nok : NamesOk ss) (hj : j < ss.length) (h : MD K cs S NT te σ H0 PartsP) : MD K cs S NT (tTup (tCons (tOp (rIxL K) (tVar i) (tC (.int (j : Nat)))) (tCons te tNil))) σ H0 (RowAt ss j) := by
  have hj' : ss[j]? = some ss[j] := by simp [hj]
  have hz : (ss[j]).length ≤ sizeLine := by have := (of_name (nok.1 _ (List.getElem_mem hj))).2.1; exact small (by omega)
  exact (md_tup trivial (md_cons trivial (md_ixS hs ha nS hj' hz) (md_cons trivial h md_nil)) (fun ts ⟨t, us, e, _, t2, us2, e2, _, e3⟩ => by rw [e, e2, e3]; exact Nat.le_of_ble_eq_true rfl)).weak fun t ⟨ts, e, t1, us, e1, e2, t2, us2, e3, ⟨pl, e4, h1, h2⟩, e5⟩ => by
    subst e e1 e2 e3 e4 e5
    exact ⟨ss[j], pl, hj', rfl, h1, h2⟩
theorem md_one (h : MD K cs S N te σ H0 P) {H : Hp} (d : Dr cs S H0 H) {Q : List V → Hp → Prop} (k : ∀ v t H', P t → Dr cs S H H' → Den K N H' t v → Q [v] H') : tCons te tNil σ H Q := h H d _ fun v t H' p d' e => k v t H' p d' e
theorem mdr_nil : MDA K cs S N tNil σ H0 (RowsAt ss j 0) := md_nil.weak fun t e => by rw [e]; exact .nil
theorem mdr_cons (h : MD K cs S NT te σ H0 (RowAt ss j)) (r : MDA K cs S NT tr σ H0 (RowsAt ss (j + 1) n)) : MDA K cs S NT (tCons te tr) σ H0 (RowsAt ss j (n + 1)) :=
  (md_cons trivial h r).weak fun l ⟨t, ts, e, p, q⟩ => by rw [e]; exact .cons p q
end
section
variable {P : Program} {w : World} {K : PySem.W.Frag} {mg : Str → Option Value} {base : Heap} {cs : List (Addr × Addr)}
theorem rich_sig {a b c : Int} {r1 r2 r3 : List T} (pm : [a, b, c].Perm (rgI 3)) (l1 : r1.length ≤ 4) (l2 : r2.length ≤ 4) (l3 : r3.length ≤ 4) (k1 : ∀ r ∈ r1, isConsT r 3 = true) (k2 : ∀ r ∈ r2, isConsT r 3 = true) (k3 : ∀ r ∈ r3, isConsT r 3 = true)
    (nd : (r1.map cNameT ++ r2.map cNameT ++ r3.map cNameT).Nodup) (h1 : ∃ s us, r1 = rowT s [] :: us) (h2 : ∃ s us, r2 = rowT s [] :: us) :
    isSigT (.tup ((([T.non, T.non, T.non].set a.toNat (kindT "closed" r1)).set b.toNat (kindT "closed" r2)).set c.toNat (kindT "open" r3))) = true := by
  have na := pm.nodup_iff.mpr (rg_nd 3)
  rw [List.nodup_cons, List.nodup_cons] at na
  obtain ⟨na1, nb1, _⟩ := na
  have ab : a ≠ b := fun z => na1 (by rw [z]; simp)
  have ac : a ≠ c := fun z => na1 (by rw [z]; simp)
  have bc : b ≠ c := fun z => nb1 (by rw [z]; simp)
  obtain ⟨ka, rfl, ha⟩ := perm_nat pm (j := 0) rfl
  obtain ⟨kb, rfl, hb⟩ := perm_nat pm (j := 1) rfl
  obtain ⟨kc, rfl, hc⟩ := perm_nat pm (j := 2) rfl
  have gO : ∀ k : Nat, k < 3 → ((List.range 3).map fun k : Nat => decide (k = kc))[k]? = some (decide (k = kc)) := fun k hk => by
    rw [List.getElem?_map, List.getElem?_range hk]; rfl
  have gC : ∀ k : Nat, k < 3 → cntA ((List.range 3).map fun k : Nat => if k = ka then r1.length else if k = kb then r2.length else r3.length) (k : Int) = if k = ka then r1.length else if k = kb then r2.length else r3.length := fun k hk => by
    unfold cntA
    rw [Int.toNat_natCast, List.getD_eq_getElem?_getD, List.getElem?_map, List.getElem?_range hk]; rfl
  have ab' : kb ≠ ka := fun z => ab (by rw [z])
  have ac' : kc ≠ ka := fun z => ac (by rw [z])
  have bc' : kc ≠ kb := fun z => bc (by rw [z])
  have ca := gC ka ha
  have cb := gC kb hb
  have cc := gC kc hc
  rw [if_pos rfl] at ca
  rw [if_neg ab', if_pos rfl] at cb
  rw [if_neg ac', if_neg bc'] at cc
  have ground : ∀ {r : List T}, (∃ s us, r = rowT s [] :: us) → ∀ {os : List Bool} {ns : List Int} {i : Nat}, ∃ x ∈ r, ∀ p ∈ cPartsT x, ∃ m : Nat, p = .int m ∧ m < 3 ∧ (os[m]? = some true ∨ ∃ j' < i, ns[j']? = some (m : Int)) := fun {r} ⟨s, us, e⟩ => by
    exact ⟨_, by rw [e]; exact List.mem_cons_self, fun p hp => by cases hp⟩
  have am0 : AM 3 ((List.range 3).map fun k : Nat => decide (k = kc)) ((List.range 3).map fun k : Nat => if k = ka then r1.length else if k = kb then r2.length else r3.length) (r1.map cNameT ++ r2.map cNameT ++ r3.map cNameT) [(ka : Int), kb, kc] 0 [] [T.non, T.non, T.non] :=
    ⟨rfl, fun j hj => absurd hj (Nat.not_lt_zero _), rfl, fun g hg => by cases hg⟩
  have am1 := am0.next pm (i := 0) (k := ka) (b := false) (rows := r1) rfl (by rw [gO ka ha, decide_eq_false (fun z => ac' z.symm)]) l1 k1 (by
    rw [ca]
    show _ = List.take r1.length (List.drop 0 _)
    rw [List.drop_zero, List.append_assoc, List.take_append_of_le_length (by rw [List.length_map]; exact Nat.le_refl _), List.take_of_length_le (by rw [List.length_map]; exact Nat.le_refl _)]) fun _ => ground h1
  have am2 := am1.next pm (i := 1) (k := kb) (b := false) (rows := r2) rfl (by rw [gO kb hb, decide_eq_false (fun z => bc' z.symm)]) l2 k2 (by
    have e1 : atN ((List.range 3).map fun k : Nat => if k = ka then r1.length else if k = kb then r2.length else r3.length) [(ka : Int), kb, kc] 1 = r1.length := by
      show (cntA _ (ka : Int)) + 0 = _
      rw [ca, Nat.add_zero]
    rw [cb, e1, List.append_assoc, List.drop_append_of_le_length (by rw [List.length_map]; exact Nat.le_refl _), List.drop_of_length_le (by rw [List.length_map]; exact Nat.le_refl _), List.nil_append, List.take_append_of_le_length (by rw [List.length_map]; exact Nat.le_refl _), List.take_of_length_le (by rw [List.length_map]; exact Nat.le_refl _)]) fun _ => ground h2
  have am3 := am2.next pm (i := 2) (k := kc) (b := true) (rows := r3) rfl (by rw [gO kc hc, decide_eq_true rfl]) l3 k3 (by
    have e1 : atN ((List.range 3).map fun k : Nat => if k = ka then r1.length else if k = kb then r2.length else r3.length) [(ka : Int), kb, kc] 2 = r1.length + r2.length := by
      show (cntA _ (ka : Int)) + (cntA _ (kb : Int) + 0) = _
      rw [ca, cb, Nat.add_zero]
    rw [cc, e1, show r1.length + r2.length = (r1.map cNameT ++ r2.map cNameT).length by rw [List.length_append, List.length_map, List.length_map], List.drop_left, List.take_of_length_le (by rw [List.length_map]; exact Nat.le_refl _)]) fun z => by cases z
  exact am3.sig pm nd (by decide) (by decide)
theorem put_kind {H0 H : Hp} {S fA l1 l2 : Addr} {xs ys : List V} {ts rows : List T} {s : Str} (hst : StOk H0 S) (dr : Dr cs S H0 H) (hfA : H0 fA = none) (hf : H fA = some (.lst xs)) (df : DenL K NT H ts xs) (dy : DenL K NT H rows ys)
    (hl1 : H l1 = none) (hl2 : upd H l1 (.tup ys) l2 = none) (hs : s.length ≤ sizeLine) (j : Nat) :
    (upd (upd H l1 (.tup ys)) l2 (.tup [.str s, .ref l1])) fA = some (.lst xs) ∧ Dr cs S H0 (upd (upd (upd H l1 (.tup ys)) l2 (.tup [.str s, .ref l1])) fA (.lst (xs.set j (.ref l2)))) ∧
      (∀ a zs, a ≠ fA → a ≠ S → H a = some (.lst zs) → (upd (upd (upd H l1 (.tup ys)) l2 (.tup [.str s, .ref l1])) fA (.lst (xs.set j (.ref l2)))) a = some (.lst zs)) ∧
      Kp NT H (upd (upd (upd H l1 (.tup ys)) l2 (.tup [.str s, .ref l1])) fA (.lst (xs.set j (.ref l2)))) ∧
      ((upd (upd (upd H l1 (.tup ys)) l2 (.tup [.str s, .ref l1])) fA (.lst (xs.set j (.ref l2)))) fA = some (.lst (xs.set j (.ref l2))) ∧ DenL K NT (upd (upd (upd H l1 (.tup ys)) l2 (.tup [.str s, .ref l1])) fA (.lst (xs.set j (.ref l2)))) (ts.set j (kindT s rows)) (xs.set j (.ref l2))) := by
  have d1 : Dr cs S H (upd H l1 (.tup ys)) := Dr.new dr.st dr.tok hl1
  have d2 : Dr cs S H (upd (upd H l1 (.tup ys)) l2 (.tup [.str s, .ref l1])) := d1.nw hl2
  have k2 : Kp N0 (upd H l1 (.tup ys)) (upd (upd H l1 (.tup ys)) l2 (.tup [.str s, .ref l1])) := Kp.new hl2
  have e1 := d2.keepL hf (hst.ne hfA)
  have kp : Kp NT (upd (upd H l1 (.tup ys)) l2 (.tup [.str s, .ref l1])) (upd (upd (upd H l1 (.tup ys)) l2 (.tup [.str s, .ref l1])) fA (.lst (xs.set j (.ref l2)))) := Kp.put e1 trivial
  refine ⟨e1, (dr.trans d2).put hst hfA e1, fun a zs na nS e => by rw [upd_ne na]; exact d2.keepL e nS, (d2.toKp.mono fun _ _ => trivial).trans kp, upd_same, DenL.nt kp (DenL.set j (DenL.nt d2.toKp df) ?_)⟩
  exact Den.tup_ (SqT.of upd_same) (DenL.cons (Den.str_ _ hs) (DenL.cons (Den.tup_ (k2.sqT (SqT.of upd_same)) (DenL.nt d2.toKp dy)) DenL.nil))
theorem ok__law_rich_signature {f : Addr} {fd : FuncData} (F : Fun K "_law_rich_signature" "_law_rich_signature" s__law_rich_signature f fd) (G : Glo mg) (D1 : Df P w K mg base 1 "_law_next" P__law_next (spNext cs))
    (D2 : Df P w K mg base 2 "_law_pick" P__law_pick (spPick K cs)) (D3 : Df P w K mg base 2 "_law_order" P__law_order (spOrder cs)) (D4 : Df P w K mg base 3 "_law_names" P__law_names (spNames cs)) :
    FnOk P w K mg base CX0 4 f fd P__law_rich_signature (spSig K cs) := by
  refine F.ok sc__law_rich_signature (fun vs H Q E h => ?_) (fun cdv A outer s H vs Q E hr h => ?_)
  · obtain ⟨S, rfl, _⟩ := h
    rfl
  · obtain ⟨S, rfl, hst, ho, k⟩ := h
    refine ⟨_, pss_cons (ps_asg (pe_df D3 hr (pa_cons (pv 0) (pa_cons pe_int pa_nil))) (pg_lst rfl (pgs_cons (pg_name (i := 1) sc__law_rich_signature.nd rfl (.inl rfl)) (pgs_cons (pg_name (i := 2) sc__law_rich_signature.nd rfl (.inl rfl)) (pgs_cons (pg_name (i := 3) sc__law_rich_signature.nd rfl (.inl rfl)) pgs_nil)))))
      (pss_cons (ps_set (i := 4) sc__law_rich_signature.nd rfl (.inl rfl) (pe_df D4 hr (pa_cons (pv 0) (pa_cons pe_int (pa_cons pe_int pa_nil)))))
      (pss_cons (ps_set (i := 5) sc__law_rich_signature.nd rfl (.inl rfl) (pe_slice sl_list (pe_lst
          (pa_cons (pe_tup (pa_cons (pe_ix ix_list (pv 4) pe_int (fun _ _ => rfl)) (pa_cons (pe_tup pa_nil) pa_nil)))
          (pa_cons (pe_tup (pa_cons (pe_ix ix_list (pv 4) pe_int (fun _ _ => rfl)) (pa_cons (pe_tup pa_nil) pa_nil)))
          (pa_cons (pe_tup (pa_cons (pe_ix ix_list (pv 4) pe_int (fun _ _ => rfl)) (pa_cons (pe_tup pa_nil) pa_nil)))
          (pa_cons (pe_tup (pa_cons (pe_ix ix_list (pv 4) pe_int (fun _ _ => rfl)) (pa_cons (pe_tup pa_nil) pa_nil))) pa_nil)))))
          po_none (po_some (pe_op op_add pe_int (pe_df D1 hr (pa_cons (pv 0) (pa_cons pe_int pa_nil)))))))
      (pss_cons (ps_set (i := 6) sc__law_rich_signature.nd rfl (.inl rfl) (pe_lst
          (pa_cons (pe_tup (pa_cons (pe_ix ix_list (pv 4) pe_int (fun _ _ => rfl)) (pa_cons (pe_tup pa_nil) pa_nil)))
          (pa_cons (pe_tup (pa_cons (pe_ix ix_list (pv 4) pe_int (fun _ _ => rfl)) (pa_cons (pe_tup (pa_cons (pv 1) pa_nil)) pa_nil))) pa_nil))))
      (C8.pss_cut (ps_if (pt_cmpR op_eq (pe_df D1 hr (pa_cons (pv 0) (pa_cons pe_int pa_nil))) pe_int (nomark _))
          (pss_one (ps_expr (pe_bm PySem.F.plainAttrs_list PySem.F.slot_list_append PySem.F.type_list_append mt_append (pv 6) (pa_cons (pe_tup (pa_cons (pe_ix ix_list (pv 4) pe_int (fun _ _ => rfl)) (pa_cons (pe_df D2 hr (pa_cons (pv 0) (pa_cons (pe_lst
            (pa_cons (pe_tup (pa_cons (pv 1) (pa_cons (pv 1) pa_nil))) (pa_cons (pe_tup (pa_cons (pv 2) pa_nil)) (pa_cons (pe_tup (pa_cons (pv 3) pa_nil)) (pa_cons (pe_tup (pa_cons (pv 2) (pa_cons (pv 1) pa_nil))) pa_nil))))) pa_nil))) pa_nil))) pa_nil)))) pss_nil)
      (pss_cons (ps_set (i := 7) sc__law_rich_signature.nd rfl (.inl rfl) (pe_lst
          (pa_cons (pe_tup (pa_cons (pe_ix ix_list (pv 4) pe_int (fun _ _ => rfl)) (pa_cons (pe_tup pa_nil) pa_nil)))
          (pa_cons (pe_tup (pa_cons (pe_ix ix_list (pv 4) pe_int (fun _ _ => rfl)) (pa_cons (pe_tup (pa_cons (pv 3) pa_nil)) pa_nil)))
          (pa_cons (pe_tup (pa_cons (pe_ix ix_list (pv 4) pe_int (fun _ _ => rfl)) (pa_cons (pe_df D2 hr (pa_cons (pv 0) (pa_cons (pe_lst (pa_cons (pe_tup (pa_cons (pv 3) (pa_cons (pv 3) pa_nil))) (pa_cons (pe_tup (pa_cons (pv 2) (pa_cons (pv 3) pa_nil))) pa_nil))) pa_nil))) pa_nil))) pa_nil)))))
      (pss_cons (ps_expr (pe_bm PySem.F.plainAttrs_list PySem.F.slot_list_append PySem.F.type_list_append mt_append (pv 7) (pa_cons (pe_tup (pa_cons (pe_ix ix_list (pv 4) pe_int (fun _ _ => rfl)) (pa_cons (pe_df D2 hr (pa_cons (pv 0) (pa_cons (pe_lst
            (pa_cons (pe_tup (pa_cons (pv 1) pa_nil)) (pa_cons (pe_tup (pa_cons (pv 2) pa_nil)) (pa_cons (pe_tup (pa_cons (pv 1) (pa_cons (pv 3) pa_nil))) (pa_cons (pe_tup (pa_cons (pv 2) (pa_cons (pv 2) pa_nil))) pa_nil))))) pa_nil))) pa_nil))) pa_nil)))
      (pss_cons (ps_set (i := 8) sc__law_rich_signature.nd rfl (.inl rfl) (pe_lst (pa_cons pe_non (pa_cons pe_non (pa_cons pe_non pa_nil)))))
      (pss_cons (ps_asg (pe_tup (pa_cons pe_str (pa_cons (pe_callTy call_tuple_of (by rfl) G.tuple (by decide +kernel) (pa_cons (pv 6) pa_nil)) pa_nil))) (pg_sub (pv 8) (pv 1) set_list))
      (pss_cons (ps_asg (pe_tup (pa_cons pe_str (pa_cons (pe_callTy call_tuple_of (by rfl) G.tuple (by decide +kernel) (pa_cons (pv 5) pa_nil)) pa_nil))) (pg_sub (pv 8) (pv 2) set_list))
      (pss_cons (ps_asg (pe_tup (pa_cons pe_str (pa_cons (pe_callTy call_tuple_of (by rfl) G.tuple (by decide +kernel) (pa_cons (pe_slice sl_list (pv 7) po_none (po_some (pe_op op_add pe_int (pe_df D1 hr (pa_cons (pv 0) (pa_cons pe_int pa_nil)))))) pa_nil)) pa_nil))) (pg_sub (pv 8) (pv 3) set_list))
      (pss_one (ps_ret (pe_callTy call_tuple_of (by rfl) G.tuple (by decide +kernel) (pa_cons (pv 8) pa_nil)))))))))))))), ?_⟩
    refine ⟨_, rfl, S, 3, rfl, hst, ho, by decide, by decide, fun dA ns H1 pm hdA dr1 hd1 => ?_⟩
    obtain ⟨a, b, c, rfl⟩ : ∃ a b c, ns = [a, b, c] := by
      have l := pm.length_eq
      match ns, l with
      | [a, b, c], _ => exact ⟨a, b, c, rfl⟩
    have pm : [a, b, c].Perm (rgI 3) := pm
    have rng : ∀ x ∈ [a, b, c], 0 ≤ x ∧ x < 3 := fun x hx => by
      obtain ⟨k, hk, rfl⟩ := List.mem_map.mp (pm.mem_iff.mp hx)
      have := List.mem_range.mp hk
      omega
    obtain ⟨a0, a3⟩ := rng a (by simp)
    obtain ⟨b0, b3⟩ := rng b (by simp)
    obtain ⟨c0, c3⟩ := rng c (by simp)
    refine ⟨dA, _, rfl, SqL.of hd1, rfl, _, _, rfl, _, _, rfl, _, _, rfl, rfl, ?_⟩
    refine ⟨_, rfl, S, 11, rfl, dr1.st, dr1.tok, by decide, by decide, fun nA ss H2 lss nok hnA dr2 hss => ?_⟩
    have dr12 := dr1.trans dr2
    have fnA : H nA = none := dr1.stay _ hnA
    have snA := hst.ne fnA
    have lss : ss.length = 11 := by omega
    have z0 : ∀ j, j < 11 → MD K cs S NT (tTup (tCons (tOp (rIxL K) (tVar 4) (tC (.int (j : Nat)))) (tCons (tTup tNil) tNil))) [some (.ref S), some (.int a), some (.int b), some (.int c), some (.ref nA), none, none, none, none] H2 (Row0 ss j) := fun j hj => md_row0 rfl hss snA nok (by omega)
    have m0 := md_lst trivial (md_cons trivial (z0 3 (by decide)) (mdr_cons ((z0 4 (by decide)).weak fun t => Row0.at) (mdr_cons ((z0 5 (by decide)).weak fun t => Row0.at) (mdr_cons ((z0 6 (by decide)).weak fun t => Row0.at) mdr_nil))))
      (fun ts ⟨t, us, e, _, q⟩ => by rw [e, List.length_cons, q.1]; decide)
    try dsimp only [gName, tSeq, tAsg, tSl]
    refine m0 H2 (Dr.refl dr2.st dr2.tok) _ fun f0 fx0 ft0 H3 pf0 dr3 hf0 ef0 df0 => ?_
    refine ⟨_, rfl, S, _, rfl, dr3.st, dr3.tok, by decide, by decide, fun d H4 d0 d1 dr4 => ⟨_, _, rfl, rfl, _, rfl, f0, _, rfl, SqL.of (dr4.keepL ef0 (dr2.st.ne hf0)), fun flA hflA => ?_⟩⟩
    obtain ⟨d, rfl⟩ := Int.eq_ofNat_of_zero_le d0
    obtain ⟨t0, us, e0', ⟨s0, hs0, et0⟩, q0⟩ := pf0
    subst et0
    have rf0 : RowsAt ss 3 4 ft0 := by rw [e0']; exact .cons (Row0.at ⟨s0, hs0, rfl⟩) q0
    have lfx : fx0.length = 4 := by rw [df0.len, rf0.1]
    have ec : cutV fx0 none (some ((1 : Int) + (d : Int))) = fx0.take (d + 1) := by
      rw [show (1 : Int) + (d : Int) = ((d + 1 : Nat) : Int) by omega]
      exact cut_lo fx0 (d + 1) (by omega)
    have dtake : ∀ {H' : Hp} {ts : List T} {xs : List V} (m : Nat), DenL K NT H' ts xs → DenL K NT H' (ts.take m) (xs.take m) := fun {H' ts xs} m h => by
      induction ts generalizing xs m with
      | nil => unfold DenL at h; subst h; rw [List.take_nil, List.take_nil]; exact DenL.nil
      | cons t ts ih =>
        unfold DenL at h
        obtain ⟨x, r, rfl, h1, h2⟩ := h
        cases m with
        | zero => exact DenL.nil
        | succ m => exact DenL.cons h1 (ih m h2)
    have dr5 : Dr cs S H4 (upd H4 flA (.lst (cutV fx0 none (some ((1 : Int) + (d : Int)))))) := Dr.new dr4.st dr4.tok hflA
    have dr25 := dr3.trans (dr4.trans dr5)
    have fflA : H flA = none := dr12.stay _ (dr3.stay _ (dr4.stay _ hflA))
    have sfl := hst.ne fflA
    obtain ⟨H5, hH5⟩ : ∃ H5, H5 = upd H4 flA (.lst (cutV fx0 none (some ((1 : Int) + (d : Int))))) := ⟨_, rfl⟩
    have hfl : H5 flA = some (.lst (fx0.take (d + 1))) := by rw [hH5, upd_same, ec]
    have dfl : DenL K NT H5 (ft0.take (d + 1)) (fx0.take (d + 1)) := by rw [hH5]; exact dtake _ (DenL.nt (dr4.trans dr5).toKp df0)
    have rfl' : RowsAt ss 3 (d + 1) (ft0.take (d + 1)) := rf0.take _ (by omega)
    rw [← hH5] at dr25 ⊢
    clear dr5 ec
    have hss5 := dr25.keepL hss snA
    have dr05 := dr12.trans dr25
    have m1 := md_lst (cs := cs) trivial (md_cons trivial (md_row0 (K := K) (cs := cs) (σ := [some (.ref S), some (.int a), some (.int b), some (.int c), some (.ref nA), some (.ref flA), none, none, none]) (i := 4) (j := 0) rfl hss5 snA nok (by omega)) (mdr_cons (md_row (i := 4) (j := 1) rfl hss5 snA nok (by omega) (md_parts1 (i := 1) (x := a) rfl a0 a3)) mdr_nil))
      (fun ts ⟨t, us, e, _, q⟩ => by rw [e, List.length_cons, q.1]; decide)
    try dsimp only [gName, tSeq, tAsg, tSl]
    refine m1 H5 (Dr.refl dr25.st dr25.tok) _ fun stA sx0 st0 H6 ps0 dr6 hst0 es0 ds0 => ?_
    obtain ⟨t1, us1, e1, ⟨s1, hs1, et1⟩, q1⟩ := ps0
    subst et1
    have rs0 : RowsAt ss 0 2 st0 := by rw [e1]; exact .cons (Row0.at ⟨s1, hs1, rfl⟩) q1
    have fstA : H stA = none := dr05.stay _ hst0
    have sst := hst.ne fstA
    have hfl6 := dr6.keepL hfl sfl
    have dfl6 := DenL.nt dr6.toKp dfl
    have hss6 := dr6.keepL hss5 snA
    have dr06 := dr05.trans dr6
    have nfs : nA ≠ stA := ne_of_none hss5 hst0
    have lfs : flA ≠ stA := ne_of_none hfl hst0
    refine ⟨fun σ H' => ∃ m rows xs, σ = [some (.ref S), some (.int a), some (.int b), some (.int c), some (.ref nA), some (.ref flA), some (.ref stA), none, none] ∧ Dr cs S H H' ∧ H' nA = some (.lst (ss.map V.str)) ∧ H' flA = some (.lst (fx0.take (d + 1))) ∧ DenL K NT H' (ft0.take (d + 1)) (fx0.take (d + 1)) ∧
      H' stA = some (.lst xs) ∧ DenL K NT H' (rowT s1 [] :: rows) xs ∧ RowsAt ss 0 m (rowT s1 [] :: rows) ∧ m ≤ 3, ?_, ?_⟩
    · refine ⟨_, rfl, S, _, rfl, dr6.st, dr6.tok, by decide, by decide, fun e H7 _ _ dr7 => ⟨rfl, _, rfl, ite2 (fun _ => ?_) fun _ => ?_⟩⟩
      · have hs7 := dr7.keepL es0 sst
        have hss7 := dr7.keepL hss6 snA
        refine ⟨_, rfl, .inl ⟨rfl, _, .inl (.inl hs7)⟩, ?_⟩
        have m2 := md_row (K := K) (cs := cs) (i := 4) (j := 2) (σ := [some (.ref S), some (.int a), some (.int b), some (.int c), some (.ref nA), some (.ref flA), some (.ref stA), none, none]) rfl hss7 snA nok (by omega) (md_pickP (i := 0) rfl (mda_cons trivial (md_parts2 (i := 1) (j := 1) (x := a) (y := a) rfl rfl a0 a3 a0 a3) (mda_cons trivial (md_parts1 (i := 2) (x := b) rfl b0 b3) (mda_cons trivial (md_parts1 (i := 3) (x := c) rfl c0 c3) (mda_cons trivial (md_parts2 (i := 2) (j := 1) (x := b) (y := a) rfl rfl b0 b3 a0 a3) mda_nil)))) (by decide) (by decide))
        refine md_one m2 (Dr.refl dr7.st dr7.tok) fun v t H8 hv dr8 dv => ?_
        have dr78 := dr7.trans dr8
        have hs8 := dr78.keepL es0 sst
        have lsx : sx0.length = 2 := by rw [ds0.len, rs0.1]
        refine ⟨stA, _, _, rfl, rfl, hs8, small1000 (by omega), ?_⟩
        have dr08 := dr06.trans dr78
        have kp : Kp NT H8 (upd H8 stA (.lst (sx0 ++ [v]))) := Kp.put hs8 trivial
        have e1' : st0 ++ [t] = rowT s1 [] :: (us1 ++ [t]) := by rw [e1]; rfl
        refine ⟨3, us1 ++ [t], sx0 ++ [v], rfl, dr08.put hst fstA hs8, by rw [upd_ne nfs]; exact dr78.keepL hss6 snA, by rw [upd_ne lfs]; exact dr78.keepL hfl6 sfl, DenL.nt kp (DenL.nt dr78.toKp dfl6), upd_same, ?_, ?_, by decide⟩
        · rw [← e1']
          exact DenL.nt kp (DenL.append (DenL.nt dr78.toKp ds0) (DenL.cons dv DenL.nil))
        · rw [← e1']
          exact rs0.snoc hv
      · exact ⟨2, us1, sx0, rfl, dr06.trans dr7, dr7.keepL hss6 snA, dr7.keepL hfl6 sfl, DenL.nt dr7.toKp dfl6, dr7.keepL es0 sst, by rw [← e1]; exact DenL.nt dr7.toKp ds0, by rw [← e1]; exact rs0, by decide⟩
    rintro σ H8 ⟨m, srows, sxs, rfl, dr08, hss8, hfl8, dfl8, hst8, dst8, rst8, hm3⟩
    have m3 := md_lst (cs := cs) trivial (mdr_cons ((md_row0 (K := K) (cs := cs) (σ := [some (.ref S), some (.int a), some (.int b), some (.int c), some (.ref nA), some (.ref flA), some (.ref stA), none, none]) (i := 4) (j := 7) rfl hss8 snA nok (by omega)).weak fun t => Row0.at) (mdr_cons (md_row (i := 4) (j := 8) rfl hss8 snA nok (by omega) (md_parts1 (i := 3) (x := c) rfl c0 c3)) (mdr_cons (md_row (i := 4) (j := 9) rfl hss8 snA nok (by omega) (md_pickP (i := 0) rfl (mda_cons trivial (md_parts2 (i := 3) (j := 3) (x := c) (y := c) rfl rfl c0 c3 c0 c3) (mda_cons trivial (md_parts2 (i := 2) (j := 3) (x := b) (y := c) rfl rfl b0 b3 c0 c3) mda_nil)) (by decide) (by decide))) mdr_nil)))
      (fun ts q => by rw [q.1]; decide)
    try dsimp only [gName, tSeq, tAsg, tSl]
    refine m3 H8 (Dr.refl dr08.st dr08.tok) _ fun tyA tx0 tt0 H9 rt0 dr9 hty0 et0 dt0 => ?_
    have ftyA : H tyA = none := dr08.stay _ hty0
    have sty := hst.ne ftyA
    have hss9 := dr9.keepL hss8 snA
    have dr09 := dr08.trans dr9
    refine ⟨_, rfl, .inl ⟨rfl, _, .inl (.inl et0)⟩, ?_⟩
    have m4 := md_row (K := K) (cs := cs) (i := 4) (j := 10) (σ := [some (.ref S), some (.int a), some (.int b), some (.int c), some (.ref nA), some (.ref flA), some (.ref stA), some (.ref tyA), none]) rfl hss9 snA nok (by omega) (md_pickP (i := 0) rfl (mda_cons trivial (md_parts1 (i := 1) (x := a) rfl a0 a3) (mda_cons trivial (md_parts1 (i := 2) (x := b) rfl b0 b3) (mda_cons trivial (md_parts2 (i := 1) (j := 3) (x := a) (y := c) rfl rfl a0 a3 c0 c3) (mda_cons trivial (md_parts2 (i := 2) (j := 2) (x := b) (y := b) rfl rfl b0 b3 b0 b3) mda_nil)))) (by decide) (by decide))
    refine md_one m4 (Dr.refl dr9.st dr9.tok) fun v t H10 hv dr10 dv => ?_
    have hty10 := dr10.keepL et0 sty
    have lty : tx0.length = 3 := by rw [dt0.len, rt0.1]
    refine ⟨tyA, _, _, rfl, rfl, hty10, small1000 (by omega), ?_⟩
    have ntl : ∀ {x : Addr} {ys : List V}, H8 x = some (.lst ys) → x ≠ tyA := fun e => ne_of_none e hty0
    obtain ⟨H11, hH11⟩ : ∃ H11, H11 = upd H10 tyA (.lst (tx0 ++ [v])) := ⟨_, rfl⟩
    have kp11 : Kp NT H10 H11 := by rw [hH11]; exact Kp.put hty10 trivial
    have dr011 : Dr cs S H H11 := by rw [hH11]; exact (dr09.trans dr10).put hst ftyA hty10
    have hst11 : H11 stA = some (.lst sxs) := by rw [hH11, upd_ne (ntl hst8)]; exact (dr9.trans dr10).keepL hst8 sst
    have dst11 := DenL.nt kp11 (DenL.nt (dr9.trans dr10).toKp dst8)
    have hfl11 : H11 flA = some (.lst (fx0.take (d + 1))) := by rw [hH11, upd_ne (ntl hfl8)]; exact (dr9.trans dr10).keepL hfl8 sfl
    have dfl11 := DenL.nt kp11 (DenL.nt (dr9.trans dr10).toKp dfl8)
    have hty11 : H11 tyA = some (.lst (tx0 ++ [v])) := by rw [hH11, upd_same]
    have dty11 := DenL.nt kp11 (DenL.append (DenL.nt dr10.toKp dt0) (DenL.cons dv DenL.nil))
    have rty : RowsAt ss 7 4 (tt0 ++ [t]) := rt0.snoc hv
    rw [← hH11]
    clear kp11 hH11 hty10
    refine ⟨by show 3 ≤ sizeLine; decide, fun fA hfA => ?_⟩
    have dr12' : Dr cs S H11 (upd H11 fA (.lst [.non, .non, .non])) := Dr.new dr011.st dr011.tok hfA
    have ffA : H fA = none := dr011.stay _ hfA
    have sfA := hst.ne ffA
    have nst := ne_of_none hst11 hfA
    have nfl := ne_of_none hfl11 hfA
    have nty := ne_of_none hty11 hfA
    have hsz : ("closed" : Str).length ≤ sizeLine ∧ ("open" : Str).length ≤ sizeLine := by decide
    have dn3 : DenL K NT (upd H11 fA (.lst [.non, .non, .non])) [T.non, T.non, T.non] [.non, .non, .non] := DenL.cons Den.non_ (DenL.cons Den.non_ (DenL.cons Den.non_ DenL.nil))
    have l3 : ∀ x : Int, 0 ≤ x → x < 3 → ∀ n, n = 3 → ixN n x = some x.toNat := fun x h0 h1 n hn => by
      obtain ⟨k, rfl⟩ := Int.eq_ofNat_of_zero_le h0
      rw [Int.toNat_natCast]
      exact ixN_nat (by omega)
    -- the first kind
    refine ⟨_, rfl, stA, sxs, rfl, .inl ⟨SqL.of (dr12'.keepL hst11 sst), fun l1 hl1 => ⟨by show 2 ≤ sizeLine; decide, fun l2 hl2 => ?_⟩⟩⟩
    obtain ⟨g1, g2, g3, g4, g5⟩ := put_kind (s := "closed") hst (dr011.trans dr12') ffA upd_same dn3 (DenL.nt dr12'.toKp dst11) hl1 hl2 hsz.1 a.toNat
    refine ⟨_, rfl, _, rfl, fA, _, _, a.toNat, rfl, rfl, g1, l3 a a0 a3 _ rfl, ?_⟩
    generalize upd (upd (upd (upd H11 fA (HO.lst [V.non, V.non, V.non])) l1 (HO.tup sxs)) l2 (HO.tup [V.str "closed", V.ref l1])) fA (HO.lst (List.set [V.non, V.non, V.non] a.toNat (V.ref l2))) = H13 at g2 g3 g4 g5 ⊢
    obtain ⟨g5, g6⟩ := g5
    have hfl13 := g3 _ _ nfl sfl (dr12'.keepL hfl11 sfl)
    have hty13 := g3 _ _ nty sty (dr12'.keepL hty11 sty)
    have dfl13 := DenL.nt g4 (DenL.nt dr12'.toKp dfl11)
    have dty13 := DenL.nt g4 (DenL.nt dr12'.toKp dty11)
    -- the second kind
    refine ⟨_, rfl, flA, _, rfl, .inl ⟨SqL.of hfl13, fun l1 hl1 => ⟨by show 2 ≤ sizeLine; decide, fun l2 hl2 => ?_⟩⟩⟩
    obtain ⟨b1, b2, b3', b4, b5⟩ := put_kind (s := "closed") hst g2 ffA g5 g6 dfl13 hl1 hl2 hsz.1 b.toNat
    refine ⟨_, rfl, _, rfl, fA, _, _, b.toNat, rfl, rfl, b1, l3 b b0 b3 _ (by rw [List.length_set]; rfl), ?_⟩
    generalize upd (upd (upd H13 _ _) _ _) fA _ = H14 at b2 b3' b4 b5 ⊢
    obtain ⟨b5, b6⟩ := b5
    have hty14 := b3' _ _ nty sty hty13
    have dty14 := DenL.nt b4 dty13
    -- the third kind
    refine ⟨_, rfl, _, rfl, S, _, rfl, b2.st, b2.tok, by decide, by decide, fun e H15 e0 e1 dr15 => ⟨_, _, rfl, rfl, _, rfl, tyA, _, rfl, SqL.of (dr15.keepL hty14 sty), fun tzA htz => ?_⟩⟩
    obtain ⟨e, rfl⟩ := Int.eq_ofNat_of_zero_le e0
    have lty2 : (tx0 ++ [v]).length = 4 := by rw [List.length_append, lty]; rfl
    have ec2 : cutV (tx0 ++ [v]) none (some ((1 : Int) + (e : Int))) = (tx0 ++ [v]).take (e + 1) := by
      rw [show (1 : Int) + (e : Int) = ((e + 1 : Nat) : Int) by omega]
      exact cut_lo _ (e + 1) (by omega)
    rw [ec2] at *
    have dr16 : Dr cs S H15 (upd H15 tzA (.lst ((tx0 ++ [v]).take (e + 1)))) := Dr.new dr15.st dr15.tok htz
    have hf16 := (dr15.trans dr16).keepL b5 sfA
    refine ⟨tzA, _, rfl, .inl ⟨SqL.of upd_same, fun l1 hl1 => ⟨by show 2 ≤ sizeLine; decide, fun l2 hl2 => ?_⟩⟩⟩
    obtain ⟨c1, c2, c3', c4, c5, c6⟩ := put_kind (s := "open") hst (b2.trans (dr15.trans dr16)) ffA hf16 (DenL.nt (dr15.trans dr16).toKp b6) (DenL.nt (dr15.trans dr16).toKp (dtake (e + 1) dty14)) hl1 hl2 hsz.2 c.toNat
    refine ⟨_, rfl, _, rfl, fA, _, _, c.toNat, rfl, rfl, c1, l3 c c0 c3 _ (by rw [List.length_set, List.length_set]; rfl), ?_⟩
    generalize upd (upd (upd _ l1 _) l2 _) fA _ = H17 at c2 c3' c4 c5 c6 ⊢
    refine ⟨_, rfl, fA, _, rfl, .inl ⟨SqL.of c5, fun l hl => ?_⟩⟩
    have e18 : ∀ o, Ex cs N0 H17 (upd H17 l o) := fun o => Ex.new c2.tok hl
    refine k _ (.tup _) _ ?_ (c2.e0 (e18 _)) (Den.tup_ (SqT.of upd_same) (DenL.nt (e18 _).toKp c6))
    obtain ⟨us0, eu0⟩ : ∃ us0, ft0.take (d + 1) = rowT s0 [] :: us0 := ⟨us.take d, by rw [e0']; rfl⟩
    have r3 := rty.take (e + 1) (by omega)
    refine rich_sig pm (by rw [rst8.1]; omega) (by rw [rfl'.1]; omega) (by rw [r3.1]; omega) (rst8.ok nok) (rfl'.ok nok) (r3.ok nok) ?_ ⟨_, _, rfl⟩ ⟨_, _, eu0⟩
    rw [rst8.names, rfl'.names, r3.names]
    have s1' : ((ss.drop 0).take m).Sublist (ss.take 3) := by rw [List.drop_zero]; exact List.take_sublist_take_left hm3
    have s2' : ((ss.drop 3).take (d + 1)).Sublist ((ss.drop 3).take 4) := List.take_sublist_take_left (by omega)
    have s3' : ((ss.drop 7).take (e + 1)).Sublist (ss.drop 7) := List.take_sublist _ _
    have := (s1'.append s2').append s3'
    refine this.nodup ?_
    have e7 : ss.take 3 ++ (ss.drop 3).take 4 ++ ss.drop 7 = ss := by
      rw [List.append_assoc, show ss.drop 7 = (ss.drop 3).drop 4 by rw [List.drop_drop], List.take_append_drop, List.take_append_drop]
    rw [e7]
    exact nok.2
end
end LW
namespace LW
open PySem PySem.Spec PyProof.Rows L2 GxR FW GA EN SL
/-- kinds of right forms, names all different, values or none -/
def LooseOk (ks : List T) : Prop := 1 ≤ ks.length ∧ ks.length ≤ 3 ∧ (∀ t ∈ ks, isKindT t ks.length = true) ∧ (namesT ks).Nodup
def spLoose (K : PySem.W.Frag) (cs : List (Addr × Addr)) : Sp := fun vs H Q _ => ∃ S, vs = [.ref S] ∧ StOk H S ∧ TOk cs H ∧
  ∀ v ks H', LooseOk ks → Dr cs S H H' → Den K NT H' (.tup ks) v → Q v H'
section
variable {P : Program} {w : World} {K : PySem.W.Frag} {mg : Str → Option Value} {base : Heap} {cs : List (Addr × Addr)}
theorem ok__law_signature {f : Addr} {fd : FuncData} (F : Fun K "_law_signature" "_law_signature" s__law_signature f fd) (G : Glo mg) (D1 : Df P w K mg base 1 "_law_next" P__law_next (spNext cs))
    (D2 : Df P w K mg base 4 "_law_any_signature" P__law_any_signature (spSig K cs)) (D3 : Df P w K mg base 4 "_law_rich_signature" P__law_rich_signature (spSig K cs)) :
    FnOk P w K mg base CX0 5 f fd P__law_signature (spSig K cs) := by
  refine F.ok sc__law_signature (fun vs H Q E h => ?_) (fun cdv A outer s H vs Q E hr h => ?_)
  · obtain ⟨S, rfl, _⟩ := h
    rfl
  · obtain ⟨S, rfl, hst, ho, k⟩ := h
    refine ⟨_, pss_one (ps_ret (pe_ifExp (pt_cmpR op_eq (pe_df D1 hr (pa_cons (pv 0) (pa_cons pe_int pa_nil))) pe_int (nomark _)) (pe_df D2 hr (pa_cons (pv 0) pa_nil)) (pe_df D3 hr (pa_cons (pv 0) pa_nil)))), ?_⟩
    refine ⟨_, rfl, S, _, rfl, hst, ho, by decide, by decide, fun d H1 _ _ dr => ⟨rfl, _, rfl, ite2 (fun _ => ?_) fun _ => ?_⟩⟩
    · exact ⟨_, rfl, S, rfl, dr.st, dr.tok, fun v t H' h d2 e => k v t H' h (dr.trans d2) e⟩
    · exact ⟨_, rfl, S, rfl, dr.st, dr.tok, fun v t H' h d2 e => k v t H' h (dr.trans d2) e⟩
theorem ok__law_loose_signature {f : Addr} {fd : FuncData} (F : Fun K "_law_loose_signature" "_law_loose_signature" s__law_loose_signature f fd) (G : Glo mg) (D1 : Df P w K mg base 1 "_law_next" P__law_next (spNext cs))
    (D4 : Df P w K mg base 3 "_law_names" P__law_names (spNames cs)) : FnOk P w K mg base CX0 4 f fd P__law_loose_signature (spLoose K cs) := by
  refine F.ok sc__law_loose_signature (fun vs H Q E h => ?_) (fun cdv A outer s H vs Q E hr h => ?_)
  · obtain ⟨S, rfl, _⟩ := h
    rfl
  · obtain ⟨S, rfl, hst, ho, k⟩ := h
    refine ⟨_, pss_cons (ps_set (i := 1) sc__law_loose_signature.nd rfl (.inr rfl) (pe_op op_add pe_int (pe_df D1 hr (pa_cons (pv 0) (pa_cons pe_int pa_nil)))))
      (pss_cons (ps_setLc (i := 2) (own := [("kind", 5)]) (g := gName 5) (tt := tYes) (te := tCall (spNext cs) [] E0 (tCons (tVar 0) (tCons (tC (.int 5)) tNil))) rfl sc__law_loose_signature.nd rfl rfl (sw_true rfl rfl rfl (by decide +kernel)) (pi_range1 (by rfl) G.range (pa_cons (pv 1) pa_nil)) (blkOk_by (N := N__law_loose_signature) (sc := defScope s__law_loose_signature) (by decide +kernel))
          (fun _ _ _ _ _ => pg_name (i := 5) sc__law_loose_signature.nd rfl (.inl rfl)) (fun _ _ _ _ _ => pts_nil)
          (fun _ _ _ _ _ => pe_df D1 hr (pa_cons (pv 0) (pa_cons pe_int pa_nil))))
      (pss_cons (ps_set (i := 3) sc__law_loose_signature.nd rfl (.inl rfl) (pe_df D4 hr (pa_cons (pv 0) (pa_cons (pe_callB (cr_sum rfl) (by rfl) G.sum (by decide +kernel) (pa_cons (pv 2) pa_nil)) (pa_cons pe_int pa_nil)))))
      (pss_cons (ps_set (i := 4) sc__law_loose_signature.nd rfl (.inl rfl) (pe_tup pa_nil))
      (pss_cons (ps_for PassesOwn.never rfl (pi_range1 (by rfl) G.range (pa_cons (pv 1) pa_nil)) (pg_name (i := 5) sc__law_loose_signature.nd rfl (.inl rfl))
        (pss_cons (ps_set (i := 6) sc__law_loose_signature.nd rfl (.inl rfl) (pe_tup pa_nil))
        (pss_cons (ps_for PassesOwn.never rfl (pi_range1 (by rfl) G.range (pa_cons (pe_ix ix_list (pv 2) (pv 5) (fun _ _ => rfl)) pa_nil)) (pg_name (i := 7) sc__law_loose_signature.nd rfl (.inl rfl))
          (pss_cons (ps_set (i := 8) sc__law_loose_signature.nd rfl (.inl rfl) (pe_callTy call_tuple_of (by rfl) G.tuple (by decide +kernel) (pa_cons
              (pe_lc (own := [("turn", 9)]) (g := gName 9) (tt := tYes) (te := tCall (spNext cs) [] E0 (tCons (tVar 0) (tCons (tVar 1) tNil))) rfl sc__law_loose_signature.nd (pi_range1 (by rfl) G.range (pa_cons (pe_df D1 hr (pa_cons (pv 0) (pa_cons pe_int pa_nil))) pa_nil)) (blkOk_by (N := N__law_loose_signature) (sc := defScope s__law_loose_signature) (by decide +kernel))
                (fun _ _ _ _ _ => pg_name (i := 9) sc__law_loose_signature.nd rfl (.inl rfl)) (fun _ _ _ _ _ => pts_nil)
                (fun _ _ _ _ _ => pe_df D1 hr (pa_cons (pv 0) (pa_cons (pv 1) pa_nil)))) pa_nil)))
          (pss_one (ps_set (i := 6) sc__law_loose_signature.nd rfl (.inl rfl) (pe_op op_catA (pv 6) (pe_tup (pa_cons (pe_tup (pa_cons (pe_bm0 PySem.F.plainAttrs_list PySem.F.slot_list_pop PySem.F.type_list_pop mt_pop (pv 3)) (pa_cons (pv 8) pa_nil))) pa_nil)))))))
        (pss_one (ps_set (i := 4) sc__law_loose_signature.nd rfl (.inl rfl) (pe_op op_catA (pv 4) (pe_tup (pa_cons (pe_tup (pa_cons (pe_ix ix_seq (pe_tup (pa_cons pe_str (pa_cons pe_str (pa_cons pe_str pa_nil)))) (pe_df D1 hr (pa_cons (pv 0) (pa_cons pe_int pa_nil))) (fun _ _ => rfl)) (pa_cons (pv 6) pa_nil))) pa_nil))))))))
      (pss_one (ps_ret (pv 4))))))), ?_⟩
    refine ⟨_, rfl, S, _, rfl, hst, ho, by decide, by decide, fun d0 H1 d00 d01 dr1 => ⟨_, _, rfl, rfl, ?_⟩⟩
    obtain ⟨n', rfl⟩ := Int.eq_ofNat_of_zero_le d00
    obtain ⟨n, hn⟩ : ∃ n, n = n' + 1 := ⟨_, rfl⟩
    have en : (1 : Int) + (n' : Int) = (n : Int) := by omega
    have n1 : 1 ≤ n := by omega
    have n3 : n ≤ 3 := by omega
    show gName 1 (V.int ((1 : Int) + (n' : Int))) _ _ _
    rw [en]
    have nsz : n < sizeLine := small1000 (by omega)
    refine ⟨_, rfl, _, rfl, by omega, by omega, fun cA hcA => ?_⟩
    rw [Int.toNat_natCast]
    refine lc_drw (fun i v => ∃ c : Nat, v = .int c ∧ c ≤ 4) dr1.st dr1.tok hcA nsz (fun i H' hi d Q' z => ⟨rfl, ?_⟩) fun H3 xc dr3 hxc lxc rc => ?_
    · refine ⟨_, rfl, S, _, rfl, d.st, d.tok, by decide, by decide, fun e H3 e0 e1 d2 => ?_⟩
      obtain ⟨c, rfl⟩ := Int.eq_ofNat_of_zero_le e0
      exact z _ _ ⟨c, rfl, by omega⟩ d2
    obtain ⟨cn, rfl⟩ := vals_nat fun v hv => by
      obtain ⟨i, e⟩ := List.mem_iff_getElem?.mp hv
      obtain ⟨c, e, _⟩ := rc i v e
      exact ⟨c, e⟩
    rw [List.length_map] at lxc
    have hcn : ∀ i c : Nat, cn[i]? = some c → c ≤ 4 := fun i c e => by
      obtain ⟨c', e1, e2⟩ := rc i (.int c) (by rw [List.getElem?_map, e]; rfl)
      have : c = c' := by have := V.int.inj e1; omega
      rw [this]; exact e2
    have sum4 : ∀ l : List Nat, (∀ c ∈ l, c ≤ 4) → l.sum ≤ 4 * l.length := fun l => by
      induction l with
      | nil => intro _; exact Nat.zero_le _
      | cons c l ih =>
        intro h
        have := ih fun c hc => h c (List.mem_cons_of_mem _ hc)
        have := h c List.mem_cons_self
        rw [List.sum_cons, List.length_cons]; omega
    have cn4 := sum4 cn fun c hc => by
      obtain ⟨i, e⟩ := List.mem_iff_getElem?.mp hc
      exact hcn i c e
    have sumI : ∀ l : List Nat, (l.map fun c : Nat => (c : Int)).sum = (l.sum : Int) := fun l => by
      induction l with
      | nil => rfl
      | cons c l ih => rw [List.map_cons, List.sum_cons, List.sum_cons, ih]; omega
    have dr13 := dr1.trans dr3
    have fcA : H cA = none := dr1.stay _ hcA
    have scA := hst.ne fcA
    refine ⟨_, rfl, _, rfl, cA, cn.map (fun c : Nat => (c : Int)), rfl, SqL.of (by rw [hxc, List.map_map]; rfl), S, _, rfl, dr3.st, dr3.tok, by rw [sumI]; omega, by rw [sumI]; omega, fun nA ss H4 lss nok hnA dr4 hss => ?_⟩
    rw [sumI] at lss
    have lss : ss.length = cn.sum := by omega
    have dr14 := dr13.trans dr4
    have fnA : H nA = none := dr13.stay _ hnA
    have snA := hst.ne fnA
    have hxc4 := dr4.keepL hxc scA
    have ncn : cA ≠ nA := ne_of_none hxc hnA
    refine ⟨Nat.zero_le _, fun t0 ht0 => ?_⟩
    have e5 : Ex cs N0 H4 (upd H4 t0 (.tup [])) := Ex.new dr4.tok ht0
    have dr5 : Dr cs S H4 (upd H4 t0 (.tup [])) := Dr.new dr4.st dr4.tok ht0
    refine ⟨_, rfl, _, rfl, by omega, by omega, ?_⟩
    rw [Int.toNat_natCast]
    refine for_range (n := n) (fun i σ H' => ∃ (ks : List T) (v4 : V) (r : Nat) (x5 x6 x7 x8 : Option V), σ = [some (.ref S), some (.int n), some (.ref cA), some (.ref nA), some v4, x5, x6, x7, x8, none] ∧ Dr cs S H H' ∧ H' cA = some (.lst (cn.map fun c : Nat => V.int c)) ∧ H' nA = some (.lst ((ss.take r).map V.str)) ∧
        Den K NT H' (.tup ks) v4 ∧ ks.length = i ∧ (∀ t ∈ ks, isKindT t n = true) ∧ namesT ks = (ss.drop r).reverse ∧ r = (cn.drop i).sum ∧ r ≤ ss.length)
      ⟨[], .ref t0, ss.length, _, _, _, _, rfl, dr14.trans dr5, dr5.keepL hxc4 scA, by rw [List.take_length]; exact dr5.keepL hss snA, Den.tup_ (SqT.of upd_same) DenL.nil, rfl, fun _ z => (by cases z), by rw [List.drop_length]; rfl, by rw [List.drop_zero, lss], Nat.le_refl _⟩ (fun i σ H' hi w => ?_) fun σ H' w => ?_
    · obtain ⟨ks, v4, r, x5, x6, x7, x8, rfl, dr, hc, hn', dk', lk, okk, nmk, er, rle⟩ := w
      obtain ⟨c, hc'⟩ : ∃ c, cn[i]? = some c := ⟨cn[i]'(by omega), by simp [lxc, hi]⟩
      have c4 := hcn i c hc'
      have hcv : (cn.map fun c : Nat => V.int c)[i]? = some (.int c) := by rw [List.getElem?_map, hc']; rfl
      have esum : (cn.drop i).sum = c + (cn.drop (i + 1)).sum := by
        have h : i < cn.length := by omega
        rw [List.drop_eq_getElem_cons h, List.sum_cons]
        have : cn[i] = c := by rw [List.getElem?_eq_getElem h] at hc'; exact Option.some.inj hc'
        rw [this]
      refine ⟨Nat.zero_le _, fun r0 hr0 => ?_⟩
      have dr6 : Dr cs S H' (upd H' r0 (.tup [])) := Dr.new dr.st dr.tok hr0
      have hii : (0 : Int) + (i : Int) = (i : Int) := Int.zero_add _
      refine ⟨_, rfl, _, rfl, cA, _, _, _, rfl, rfl, SqL.of (dr6.keepL hc scA), by rw [hii]; exact atI_nat hcv, _, rfl, by omega, by omega, ?_⟩
      rw [Int.toNat_natCast]
      refine for_range (n := c) (fun p σ H'' => ∃ (rows : List T) (v6 : V) (r' : Nat) (x7 x8 : Option V), σ = [some (.ref S), some (.int n), some (.ref cA), some (.ref nA), some v4, some (.int (0 + (i : Int))), some v6, x7, x8, none] ∧ Dr cs S H H'' ∧ H'' cA = some (.lst (cn.map fun c : Nat => V.int c)) ∧ H'' nA = some (.lst ((ss.take r').map V.str)) ∧
          Den K NT H'' (.tup ks) v4 ∧ Den K NT H'' (.tup rows) v6 ∧ rows.length = p ∧ (∀ x ∈ rows, isConsT x n = true) ∧ namesT ks ++ rows.map cNameT = (ss.drop r').reverse ∧ r' + p = r ∧ r' ≤ ss.length)
        ⟨[], .ref r0, r, _, _, rfl, dr.trans dr6, dr6.keepL hc scA, dr6.keepL hn' snA, Den.nt dr6.toKp dk', Den.tup_ (SqT.of upd_same) DenL.nil, rfl, fun _ z => (by cases z), by rw [List.map_nil, List.append_nil]; exact nmk, Nat.add_zero _, rle⟩ (fun p σ H'' hp w => ?_) fun σ H'' w => ?_
      · obtain ⟨rows, v6, r', x7, x8, rfl, dr7, hc7, hn7, dk7, d6, lr, okr, nmr, er', rle'⟩ := w
        obtain ⟨r'', rfl⟩ : ∃ r'', r' = r'' + 1 := ⟨r' - 1, by omega⟩
        have hsr : r'' < ss.length := by omega
        refine ⟨_, rfl, S, _, rfl, dr7.st, dr7.tok, by decide, by decide, fun q H8 q0 q1 dr8 => ⟨_, rfl, by omega, by omega, fun lA hlA => ?_⟩⟩
        refine lc_drw (fun i v => ∃ x : Int, v = .int x ∧ 0 ≤ x ∧ x < n) dr8.st dr8.tok hlA (small1000 (by omega)) (fun i H' hi d Q' z => ⟨rfl, ?_⟩) fun H9 xs dr9 hxs lxs rx => ?_
        · refine ⟨_, rfl, _, rfl, S, _, rfl, d.st, d.tok, by omega, by omega, fun e H3 e0 e1 d2 => z _ _ ⟨e, rfl, e0, e1⟩ d2⟩
        obtain ⟨pl, rfl⟩ : ∃ pl : List Int, xs = pl.map V.int := by
          have : ∀ {xs : List V}, (∀ v ∈ xs, ∃ x : Int, v = .int x) → ∃ pl : List Int, xs = pl.map V.int := fun {xs} => by
            induction xs with
            | nil => exact fun _ => ⟨[], rfl⟩
            | cons x xs ih =>
              intro h
              obtain ⟨b, rfl⟩ := h x List.mem_cons_self
              obtain ⟨os, rfl⟩ := ih fun v hv => h v (List.mem_cons_of_mem _ hv)
              exact ⟨b :: os, rfl⟩
          exact this fun v hv => by
            obtain ⟨i, e⟩ := List.mem_iff_getElem?.mp hv
            obtain ⟨x, e, _⟩ := rx i v e
            exact ⟨x, e⟩
        have plr : ∀ x ∈ pl, 0 ≤ x ∧ x < n := fun x hx => by
          obtain ⟨i, e⟩ := List.mem_iff_getElem?.mp hx
          obtain ⟨y, e1, e2⟩ := rx i (.int x) (by rw [List.getElem?_map, e]; rfl)
          rw [V.int.inj e1]; exact e2
        rw [List.length_map] at lxs
        have dr89 := dr8.trans dr9
        refine ⟨lA, _, rfl, .inl ⟨SqL.of hxs, fun pA hpA => ?_⟩⟩
        have dr10 : Dr cs S H9 (upd H9 pA (.tup (pl.map V.int))) := Dr.new dr9.st dr9.tok hpA
        have d810 := dr89.trans dr10
        have d010 := dr7.trans d810
        have hn10 := d810.keepL hn7 snA
        have etk : (ss.take (r'' + 1)).map V.str = (ss.take r'').map V.str ++ [.str ss[r'']] := by
          rw [List.take_add_one, List.getElem?_eq_getElem hsr, List.map_append]; rfl
        obtain ⟨a6, xs6, rfl, h6, dl6⟩ := (show ∃ a xs, v6 = .ref a ∧ SqT K H'' a xs ∧ DenL K NT H'' rows xs from by unfold Den at d6; exact d6)
        refine ⟨_, rfl, _, rfl, .inl ⟨rfl, _, .inl (.inl hn10)⟩, nA, _, .str ss[r''], rfl, rfl, hn10, by rw [etk]; simp, _, rfl, by show 2 ≤ sizeLine; decide, fun uA huA => ⟨by show 1 ≤ sizeLine; decide, fun wA hwA => ?_⟩⟩
        have d011 : Dr cs S H (upd (upd H9 pA (.tup (pl.map V.int))) nA (.lst ((ss.take (r'' + 1)).map V.str).dropLast)) := d010.put hst fnA hn10
        have kp11 : Kp NT (upd H9 pA (.tup (pl.map V.int))) (upd (upd H9 pA (.tup (pl.map V.int))) nA (.lst ((ss.take (r'' + 1)).map V.str).dropLast)) := Kp.put hn10 trivial
        have k11 := (d810.toKp.mono (N' := NT) fun _ _ => trivial).trans kp11
        have hdl : ((ss.take (r'' + 1)).map V.str).dropLast = (ss.take r'').map V.str := by rw [etk]; exact List.dropLast_concat
        have hn11 : (upd (upd H9 pA (.tup (pl.map V.int))) nA (.lst ((ss.take (r'' + 1)).map V.str).dropLast)) nA = some (.lst ((ss.take r'').map V.str)) := by rw [upd_same, hdl]
        have hc11 : (upd (upd H9 pA (.tup (pl.map V.int))) nA (.lst ((ss.take (r'' + 1)).map V.str).dropLast)) cA = some (.lst (cn.map fun c : Nat => V.int c)) := by rw [upd_ne ncn]; exact d810.keepL hc7 scA
        have dp11 : Den K NT (upd (upd H9 pA (.tup (pl.map V.int))) nA (.lst ((ss.take (r'' + 1)).map V.str).dropLast)) (.tup (pl.map T.int)) (.ref pA) := Den.nt kp11 (Den.tup_ (SqT.of upd_same) (DenL.ints pl))
        generalize (upd (upd H9 pA (.tup (pl.map V.int))) nA (.lst ((ss.take (r'' + 1)).map V.str).dropLast)) = H11 at *
        have d12 : Dr cs S H11 (upd H11 uA (.tup [.str ss[r''], .ref pA])) := Dr.new d011.st d011.tok huA
        have d13 : Dr cs S H11 (upd (upd H11 uA (.tup [.str ss[r''], .ref pA])) wA (.tup [.ref uA])) := d12.nw hwA
        have hz := of_name (nok.1 _ (List.getElem_mem hsr))
        have dU : Den K NT (upd H11 uA (.tup [.str ss[r''], .ref pA])) (rowT ss[r''] pl) (.ref uA) := Den.tup_ (SqT.of upd_same) (DenL.cons (Den.str_ _ (small (by omega))) (DenL.cons (Den.nt d12.toKp dp11) DenL.nil))
        have lx6 : xs6.length = p := by rw [dl6.len, lr]
        have k13 := k11.trans (d13.toKp.mono (N' := NT) fun _ _ => trivial)
        refine cat_rd (cs := cs) (k13.sqT h6) (SqT.of upd_same) d13.tok (by show _ + 1 ≤ _; exact small (by omega)) fun p9 H9' e9 h9 => ?_
        have d14 := d13.e0 e9
        have k14 := k11.trans (d14.toKp.mono (N' := NT) fun _ _ => trivial)
        refine ⟨rows ++ [rowT ss[r''] pl], .ref p9, r'', _, _, rfl, d011.trans d14, d14.keepL hc11 scA, d14.keepL hn11 snA, Den.nt k14 dk7, Den.tup_ h9 (DenL.append (DenL.nt k14 dl6) (DenL.cons (Den.nt e9.toKp (Den.nt (Kp.new (N := N0) hwA) dU)) DenL.nil)), by rw [List.length_append, lr]; rfl, fun x hx => ?_, ?_, by omega, by omega⟩
        · rcases List.mem_append.mp hx with hx | hx
          · exact okr x hx
          · rw [List.mem_singleton.mp hx]; exact isCons_of (nok.1 _ (List.getElem_mem hsr)) (by omega) plr
        · rw [List.map_append, ← List.append_assoc, nmr, List.drop_eq_getElem_cons hsr, List.reverse_cons]; rfl
      · obtain ⟨rows, v6, r', x7, x8, rfl, dr7, hc7, hn7, dk7, d6, lr, okr, nmr, er', rle'⟩ := w
        obtain ⟨a4, xs4, rfl, h4, dl4⟩ := (show ∃ a xs, v4 = .ref a ∧ SqT K H'' a xs ∧ DenL K NT H'' ks xs from by unfold Den at dk7; exact dk7)
        refine ⟨_, rfl, by show 3 ≤ sizeLine; decide, fun oA hoA => ⟨_, rfl, S, _, rfl, (Dr.new dr7.st dr7.tok hoA).st, (Dr.new dr7.st dr7.tok hoA).tok, by decide, by decide, fun e H8 e0 e1 dr8 => ?_⟩⟩
        have d1 : Dr cs S H'' (upd H'' oA (.tup [.str "open", .str "closed", .str "closed"])) := Dr.new dr7.st dr7.tok hoA
        have d8 := d1.trans dr8
        obtain ⟨j, rfl⟩ := Int.eq_ofNat_of_zero_le e0
        obtain ⟨hw, hj, hok⟩ : ∃ hw : Str, ([V.str "open", .str "closed", .str "closed"] : List V)[j]? = some (.str hw) ∧ (hw = "closed" ∨ hw = "open") := by
          match j, e1 with
          | 0, _ => exact ⟨"open", rfl, .inr rfl⟩
          | 1, _ => exact ⟨"closed", rfl, .inl rfl⟩
          | 2, _ => exact ⟨"closed", rfl, .inl rfl⟩
          | j + 3, h => exact absurd h (by omega)
        have hwz : hw.length ≤ sizeLine := by rcases hok with rfl | rfl <;> decide
        refine .inr (.inl ⟨oA, _, _, .str hw, rfl, rfl, dr8.toKp.sqT (SqT.of upd_same), atI_nat hj, _, rfl, by show 2 ≤ sizeLine; decide, fun uA huA => ⟨by show 1 ≤ sizeLine; decide, fun wA hwA => ?_⟩⟩)
        have d12 : Dr cs S H8 (upd H8 uA (.tup [.str hw, v6])) := Dr.new dr8.st dr8.tok huA
        have d13 : Dr cs S H8 (upd (upd H8 uA (.tup [.str hw, v6])) wA (.tup [.ref uA])) := d12.nw hwA
        have dU : Den K NT (upd H8 uA (.tup [.str hw, v6])) (kindT hw rows) (.ref uA) := Den.tup_ (SqT.of upd_same) (DenL.cons (Den.str_ _ hwz) (DenL.cons (Den.nt (d8.trans d12).toKp d6) DenL.nil))
        have lx4 : xs4.length = i := by rw [dl4.len, lk]
        refine cat_rd (cs := cs) ((d8.trans d13).toKp.sqT h4) (SqT.of upd_same) d13.tok (by show _ + 1 ≤ _; exact small (by omega)) fun p9 H9' e9 h9 => ?_
        have d14 := (d8.trans d13).e0 e9
        refine ⟨ks ++ [kindT hw rows], .ref p9, r', _, _, _, _, rfl, dr7.trans d14, d14.keepL hc7 scA, d14.keepL hn7 snA, Den.tup_ h9 (DenL.append (DenL.nt d14.toKp dl4) (DenL.cons (Den.nt e9.toKp (Den.nt (Kp.new (N := N0) hwA) dU)) DenL.nil)), by rw [List.length_append, lk]; rfl, fun t ht => ?_, ?_, by omega, rle'⟩
        · rcases List.mem_append.mp ht with ht | ht
          · exact okk t ht
          · rw [List.mem_singleton.mp ht]; exact isKind_of hok (by omega) okr
        · rw [← nmr]
          unfold namesT
          rw [List.flatMap_append, List.flatMap_cons, List.flatMap_nil, List.append_nil]
          rfl
    · obtain ⟨ks, v4, r, x5, x6, x7, x8, rfl, dr, hc, hn', dk', lk, okk, nmk, er, rle⟩ := w
      refine ⟨_, rfl, k _ ks H' ⟨by omega, by omega, by rw [lk]; exact okk, ?_⟩ dr dk'⟩
      rw [nmk]
      exact (List.reverse_perm _).nodup_iff.mpr ((List.drop_sublist _ _).nodup nok.2)
end
end LW
namespace LW
open PySem PySem.Spec PyProof.Rows L2 GxR FW GA EN SL
def inG (g : List Bool) : T → Bool
  | .int i => (g[i.toNat]?).getD false
  | _ => false
def cntB (g : List Bool) : Nat := (g.filter id).length
theorem cnt_set : ∀ {g : List Bool} {k : Nat}, g[k]? = some false → cntB (g.set k true) = cntB g + 1
  | [], k, h => by simp at h
  | b :: g, 0, h => by
    have : b = false := Option.some.inj h
    subst this
    rfl
  | b :: g, k + 1, h => by
    have ih := cnt_set (g := g) (k := k) (by simpa using h)
    unfold cntB at ih ⊢
    rw [List.set_cons_succ]
    cases b
    · rw [List.filter_cons_of_neg (by decide), List.filter_cons_of_neg (by decide)]; exact ih
    · rw [List.filter_cons_of_pos (by rfl), List.filter_cons_of_pos (by rfl), List.length_cons, List.length_cons, ih]
theorem cnt_le (g : List Bool) : cntB g ≤ g.length := List.length_filter_le _ _
theorem set_true {g : List Bool} {k : Nat} (h : g[k]? = some true) : g.set k true = g := by
  refine List.ext_getElem? fun i => ?_
  by_cases e : i = k
  · subst e
    rw [List.getElem?_set_self (List.getElem?_eq_some_iff.mp h).1, h]
  · rw [List.getElem?_set_ne (fun z => e z.symm)]
def Row1 (g : List Bool) (k : Nat) (c : T) : Prop := (cPartsT c).all (inG g) = true → g[k]? = some true
def ClG (ks : List T) (g : List Bool) : Prop := ∀ (k : Nat) t, ks[k]? = some t → ∀ c ∈ kConsT t, Row1 g k c
def InvG (ks : List T) (g0 : List Bool) (m : Nat) (g : List Bool) (ex : Prop) : Prop := (ClG ks g0 ∧ g = g0) ∨ (g = g0 ∧ m ≤ cntB g0 ∧ ex) ∨ m + 1 ≤ cntB g
/-- what always holds of the list -/
structure OkG (ks : List T) (g : List Bool) : Prop where
  len : g.length = ks.length
  sound : ∀ k, g[k]? = some true → Gd ks k
  opens : ∀ (k : Nat) t, ks[k]? = some t → kOpenT t = true → g[k]? = some true
theorem OkG.init (ks : List T) : OkG ks (ks.map kOpenT) :=
  ⟨List.length_map _, fun k h => by
    rw [List.getElem?_map] at h
    cases e : ks[k]? with
    | none => rw [e] at h; cases h
    | some t => rw [e] at h; exact .op e (Option.some.inj h), fun k t e h => by rw [List.getElem?_map, e]; exact congrArg some h⟩
theorem inG_gd {ks : List T} {g : List Bool} {n : Int} {p : T} (h : OkG ks g) (hp : isIndexT p n = true) (hg : inG g p = true) : ∃ i : Nat, p = .int i ∧ Gd ks i := by
  obtain ⟨i, rfl, i0, _⟩ := idxForm hp
  obtain ⟨j, rfl⟩ := Int.eq_ofNat_of_zero_le i0
  have hg : (g[j]?).getD false = true := hg
  cases e : g[j]? with
  | none => rw [e] at hg; cases hg
  | some b =>
    rw [e] at hg
    have : b = true := hg
    rw [this] at e
    exact ⟨j, rfl, h.sound j e⟩
theorem OkG.put {ks : List T} {g : List Bool} {k : Nat} {t c : T} {n : Int} (h : OkG ks g) (hk : ks[k]? = some t) (hc : c ∈ kConsT t) (hi : ∀ p ∈ cPartsT c, isIndexT p n = true) (ha : (cPartsT c).all (inG g) = true) : OkG ks (g.set k true) := by
  have gd : Gd ks k := .cl hk hc (fun p hp => by
    obtain ⟨i, e, _⟩ := inG_gd h (hi p hp) (List.all_eq_true.mp ha p hp)
    exact ⟨i, e⟩) fun i hp => by
    obtain ⟨j, e, g'⟩ := inG_gd h (hi _ hp) (List.all_eq_true.mp ha _ hp)
    have : (i : Int) = j := T.int.inj e
    rw [show i = j by omega]; exact g'
  have hl : k < g.length := by rw [h.len]; exact (List.getElem?_eq_some_iff.mp hk).1
  refine ⟨by rw [List.length_set]; exact h.len, fun j hj => ?_, fun j u hu ho => ?_⟩
  · by_cases e : j = k
    · rw [e]; exact gd
    · rw [List.getElem?_set_ne (fun z => e z.symm)] at hj; exact h.sound j hj
  · by_cases e : j = k
    · rw [e, List.getElem?_set_self hl]
    · rw [List.getElem?_set_ne (fun z => e z.symm)]; exact h.opens j u hu ho
theorem InvG.put {ks : List T} {g0 g : List Bool} {m k : Nat} {t c : T} {ex : Prop} (i : InvG ks g0 m g ex) (hk : ks[k]? = some t) (hc : c ∈ kConsT t) (hl : k < g.length) (ha : (cPartsT c).all (inG g) = true) : InvG ks g0 m (g.set k true) (ex ∧ Row1 g0 k c) := by
  obtain ⟨b, hb⟩ : ∃ b, g[k]? = some b := ⟨g[k], by simp [hl]⟩
  cases b with
  | true =>
    rw [set_true hb]
    rcases i with i | ⟨rfl, h1, h2⟩ | i
    · exact .inl i
    · exact .inr (.inl ⟨rfl, h1, h2, fun _ => hb⟩)
    · exact .inr (.inr i)
  | false =>
    have := cnt_set hb
    rcases i with ⟨i, rfl⟩ | ⟨rfl, h1, h2⟩ | i
    · have := i k t hk c hc ha
      rw [hb] at this; cases this
    · exact .inr (.inr (by omega))
    · exact .inr (.inr (by omega))
theorem InvG.skip {ks : List T} {g0 g : List Bool} {m k : Nat} {c : T} {ex : Prop} (i : InvG ks g0 m g ex) (ha : (cPartsT c).all (inG g) = false) : InvG ks g0 m g (ex ∧ Row1 g0 k c) := by
  rcases i with i | ⟨rfl, h1, h2⟩ | i
  · exact .inl i
  · exact .inr (.inl ⟨rfl, h1, h2, fun z => by rw [ha] at z; cases z⟩)
  · exact .inr (.inr i)
theorem InvG.weak {ks : List T} {g0 g : List Bool} {m : Nat} {ex ex' : Prop} (i : InvG ks g0 m g ex) (h : ex → ex') : InvG ks g0 m g ex' := i.imp id fun i => i.imp (fun ⟨a, b, c⟩ => ⟨a, b, h c⟩) id
theorem all_gd {ks : List T} {g : List Bool} (h : OkG ks g) (cl : ClG ks g) : g.all id = true ↔ ∀ k < ks.length, Gd ks k := by
  have comp : ∀ k, Gd ks k → g[k]? = some true := fun k gd => by
    induction gd with
    | op ht ho => exact h.opens _ _ ht ho
    | @cl k t c ht hc h1 h2 ih =>
      refine cl k t ht c hc (List.all_eq_true.mpr fun p hp => ?_)
      obtain ⟨i, rfl⟩ := h1 p hp
      show (g[(i : Int).toNat]?).getD false = true
      rw [Int.toNat_natCast, ih i hp]; rfl
  rw [List.all_eq_true]
  constructor
  · intro a k hk
    have hl : k < g.length := by rw [h.len]; exact hk
    exact h.sound k (by rw [List.getElem?_eq_getElem hl]; exact congrArg some (a _ (List.getElem_mem hl)))
  · intro c b hb
    obtain ⟨k, hk⟩ := List.mem_iff_getElem?.mp hb
    have hl := (List.getElem?_eq_some_iff.mp hk).1
    rw [comp k (c k (by rw [← h.len]; exact hl))] at hk
    rw [← Option.some.inj hk]; rfl
theorem loose_sig {ks : List T} (h : LooseOk ks) : isSigT (.tup ks) = true ↔ ∀ k < ks.length, Gd ks k := by
  obtain ⟨h1, h3, hk, nd⟩ := h
  rw [isSig_eq h1 h3 hk nd, decide_eq_true_eq]
  exact kwv_iff ks
theorem all_sig {ks : List T} {g : List Bool} (lo : LooseOk ks) (h : OkG ks g) (cl : ClG ks g) : g.all id = isSigT (.tup ks) := by
  rw [Bool.eq_iff_iff, all_gd h cl, loose_sig lo]
def spAllV (K : PySem.W.Frag) (cs : List (Addr × Addr)) : Sp := fun vs H Q _ => ∃ v ks, vs = [v] ∧ LooseOk ks ∧ Den K NT H (.tup ks) v ∧ TOk cs H ∧ ∀ H', Ex cs N0 H H' → Q (.bl (isSigT (.tup ks))) H'
section
variable {P : Program} {w : World} {K : PySem.W.Frag} {mg : Str → Option Value} {base : Heap} {cs : List (Addr × Addr)}
theorem ok__law_all_have_values {f : Addr} {fd : FuncData} (F : Fun K "_law_all_have_values" "_law_all_have_values" s__law_all_have_values f fd) (G : Glo mg) : FnOk P w K mg base CX0 1 f fd P__law_all_have_values (spAllV K cs) := by
  refine F.ok sc__law_all_have_values (fun vs H Q E h => ?_) (fun cdv A outer s H vs Q E hr h => ?_)
  · obtain ⟨v, ks, rfl, _⟩ := h
    rfl
  · obtain ⟨v, ks, rfl, lo, hd, ho, k⟩ := h
    refine ⟨_, pss_cons (ps_set (i := 1) sc__law_all_have_values.nd rfl (.inr rfl) (pe_lc (own := [("row", 6)]) (g := gName 6) (tt := tYes) (te := tOp rEq (tOp (rIxT K) (tVar 6) (tC (.int 0))) (tC (.str "open"))) rfl sc__law_all_have_values.nd (pi_tup (pv 0)) (blkOk_by (N := N__law_all_have_values) (sc := defScope s__law_all_have_values) (by decide +kernel))
          (fun _ _ _ _ _ => pg_name (i := 6) sc__law_all_have_values.nd rfl (.inl rfl)) (fun _ _ _ _ _ => pts_nil)
          (fun _ _ _ _ _ => pe_cmpR op_eq (pe_ix ix_tup (pv 6) pe_int (fun _ _ => rfl)) pe_str (nomark _))))
      (pss_cons (ps_for PassesOwn.never rfl (pi_range1 (by rfl) G.range (pa_cons pe_int pa_nil)) (pg_name (i := 2) sc__law_all_have_values.nd rfl (.inl rfl))
        (pss_one (ps_for PassesOwn.never rfl (pi_range1 (by rfl) G.range (pa_cons (pe_callB call_len_seq (by rfl) G.len boot_len (pa_cons (pv 0) pa_nil)) pa_nil)) (pg_name (i := 3) sc__law_all_have_values.nd rfl (.inl rfl))
          (pss_one (ps_for PassesOwn.never rfl (pi_tup (pe_ix ix_tup (pe_ix ix_tup (pv 0) (pv 3) (fun _ _ => rfl)) pe_int (fun _ _ => rfl))) (pg_tup rfl (pgs_cons (pg_name (i := 4) sc__law_all_have_values.nd rfl (.inl rfl)) (pgs_cons (pg_name (i := 5) sc__law_all_have_values.nd rfl (.inl rfl)) pgs_nil)))
            (pss_one (ps_if (pt_val (pe_callB (cr_all rfl) (by rfl) G.all boot_all (pa_cons
                  (pe_lc (own := [("part", 7)]) (g := gName 7) (tt := tYes) (te := tOp (rIxL K) (tVar 1) (tVar 7)) rfl sc__law_all_have_values.nd (pi_tup (pv 5)) (blkOk_by (N := N__law_all_have_values) (sc := defScope s__law_all_have_values) (by decide +kernel))
                    (fun _ _ _ _ _ => pg_name (i := 7) sc__law_all_have_values.nd rfl (.inl rfl)) (fun _ _ _ _ _ => pts_nil)
                    (fun _ _ _ _ _ => pe_ix ix_list (pv 1) (pv 7) (fun _ _ => rfl))) pa_nil)))
              (pss_one (ps_asg pe_bl (pg_sub (pv 1) (pv 3) set_list))) pss_nil)))))))
      (pss_one (ps_ret (pe_callB (cr_all rfl) (by rfl) G.all boot_all (pa_cons (pv 1) pa_nil))))), ?_⟩
    obtain ⟨h1, h3, hk, nd⟩ := id lo
    obtain ⟨a, xs, rfl, hS, hD⟩ := (show ∃ a xs, v = .ref a ∧ SqT K H a xs ∧ DenL K NT H ks xs from by unfold Den at hd; exact hd)
    have hlen := hD.len
    refine ⟨_, rfl, a, rfl, ⟨_, hS⟩, fun D hDn => ?_⟩
    refine lc_map (N := NT) (fun t => .bl (kOpenT t)) hS hD ho hDn (small1000 (by omega)) (fun x t Hc acc ht hx tk hDc kp Q' z => ⟨rfl, ?_⟩) fun H1 tk1 kp1 hD1 => ?_
    · obtain ⟨hw, l, rfl, _⟩ := kindForm (hk t ht)
      obtain ⟨p, y1, y2, rfl, hp, hy1, hy2⟩ := den_pair hx
      unfold Den at hy1
      obtain ⟨rfl, _⟩ := hy1
      refine ⟨_, rfl, p, _, _, _, rfl, rfl, hp, atI_nat (j := 0) rfl, rfl, ?_⟩
      have e : decide (V.str hw = V.str "open") = kOpenT (.tup [.str hw, .tup l]) := by
        show _ = (hw == "open")
        by_cases c : hw = "open"
        · rw [c]; decide
        · rw [decide_eq_false (fun z => c (V.str.inj z))]
          symm
          rw [beq_eq_false_iff_ne]; exact c
      rw [e]
      exact z Hc (Ex.refl tk)
    have e01 : Ex cs N0 H H1 := ⟨kp1, tk1⟩
    have fin : ∀ {H'}, Ex cs (N1 D) H1 H' → Kp N0 H H' := fun e => kp_out hDn ((kp1.mono fun _ z => z.elim).trans e.toKp)
    rw [show ks.map (fun t => V.bl (kOpenT t)) = (ks.map kOpenT).map V.bl by rw [List.map_map]; rfl] at hD1
    refine ⟨_, rfl, by decide, by decide, for_range (n := 4) (fun m σ H' => ∃ (g : List Bool) (x2 x3 x4 x5 : Option V), σ = [some (.ref a), some (.ref D), x2, x3, x4, x5, none, none] ∧ Ex cs (N1 D) H1 H' ∧ H' D = some (.lst (g.map V.bl)) ∧ OkG ks g ∧ (ClG ks g ∨ m ≤ cntB g))
      ⟨ks.map kOpenT, _, _, _, _, rfl, Ex.refl tk1, hD1, OkG.init ks, .inr (Nat.zero_le _)⟩ (fun m σ H' hm w => ?_) fun σ H' w => ?_⟩
    · obtain ⟨g0, x2, x3, x4, x5, rfl, e1, hg, ok, cl⟩ := w
      refine ⟨_, rfl, a, xs, rfl, .inr ((fin e1).sqT hS), _, rfl, by omega, by omega, ?_⟩
      rw [Int.toNat_natCast]
      refine for_range (n := xs.length) (fun i σ H'' => ∃ (g : List Bool) (x3 x4 x5 : Option V), σ = [some (.ref a), some (.ref D), some (.int (0 + (m : Int))), x3, x4, x5, none, none] ∧ Ex cs (N1 D) H1 H'' ∧ H'' D = some (.lst (g.map V.bl)) ∧ OkG ks g ∧ InvG ks g0 m g (∀ k < i, ∀ t, ks[k]? = some t → ∀ c ∈ kConsT t, Row1 g0 k c))
        ⟨g0, _, _, _, rfl, e1, hg, ok, cl.elim (fun c => .inl ⟨c, rfl⟩) fun c => .inr (.inl ⟨rfl, c, fun k hk => absurd hk (Nat.not_lt_zero _)⟩)⟩ (fun i σ H'' hi w => ?_) fun σ H'' w => ?_
      · obtain ⟨g, x3, x4, x5, rfl, e2, hg2, ok2, inv⟩ := w
        have hx : xs[i]? = some xs[i] := by simp [hi]
        have hS2 := (fin e2).sqT hS
        obtain ⟨t, ht, hdt⟩ := (DenL.nt (fin e2) hD).get hx
        obtain ⟨hw, l, rfl, _, l4, hc⟩ := kindForm (hk t (List.mem_of_getElem? ht))
        obtain ⟨p, y1, y2, ep, hp, hy1, hy2⟩ := den_pair hdt
        obtain ⟨a2, ys, rfl, hS3, hD3⟩ := (show ∃ a xs, y2 = .ref a ∧ SqT K H'' a xs ∧ DenL K NT H'' l xs from by unfold Den at hy2; exact hy2)
        have hly := hD3.len
        refine ⟨_, rfl, _, rfl, a, _, _, _, rfl, rfl, hS2, by rw [Int.zero_add]; exact atI_nat (by rw [hx, ep]), p, _, _, _, rfl, rfl, hp, atI_nat (j := 1) rfl, a2, rfl, ⟨_, hS3⟩, ?_⟩
        have kt : ∀ {Hx}, Ex cs (N1 D) H'' Hx → Ex cs (N1 D) H1 Hx := fun e => e2.trans e
        refine for_tup (xs := ys) (fun j σ Hx => ∃ (g : List Bool) (x4 x5 : Option V), σ = [some (.ref a), some (.ref D), some (.int (0 + (m : Int))), some (.int (0 + (i : Int))), x4, x5, none, none] ∧ Ex cs (N1 D) H'' Hx ∧ Hx D = some (.lst (g.map V.bl)) ∧ OkG ks g ∧ InvG ks g0 m g ((∀ k < i, ∀ t, ks[k]? = some t → ∀ c ∈ kConsT t, Row1 g0 k c) ∧ ∀ c ∈ l.take j, Row1 g0 i c))
          ⟨g, _, _, rfl, Ex.refl e2.tok, hg2, ok2, inv.weak fun h => ⟨h, fun c hc => by cases hc⟩⟩ (fun j σ Hx _ w => ?_) (fun j x σ Hx hxj w => ?_) fun σ Hx w => ?_
        · obtain ⟨_, _, _, _, e3, _⟩ := w
          exact e3.toKp.sqT hS3
        · obtain ⟨g, x4, x5, rfl, e3, hg3, ok3, inv3⟩ := w
          obtain ⟨c, hcj, hdc⟩ := (DenL.nt e3.toKp hD3).get hxj
          have hcl := List.mem_of_getElem? hcj
          obtain ⟨sn, pl, rfl, _, hpl, hidx⟩ := consForm (hc c hcl)
          obtain ⟨pc, z1, z2, rfl, hpc, hz1, hz2⟩ := den_pair hdc
          obtain ⟨ap, us, rfl, hS4, hD4⟩ := (show ∃ a xs, z2 = .ref a ∧ SqT K Hx a xs ∧ DenL K NT Hx pl xs from by unfold Den at hz2; exact hz2)
          have tk : l.take (j + 1) = l.take j ++ [T.tup [.str sn, .tup pl]] := by rw [List.take_add_one, hcj]; rfl
          have ex' : ((∀ k < i, ∀ t, ks[k]? = some t → ∀ c ∈ kConsT t, Row1 g0 k c) ∧ ∀ c ∈ l.take j, Row1 g0 i c) ∧ Row1 g0 i (.tup [.str sn, .tup pl]) → ((∀ k < i, ∀ t, ks[k]? = some t → ∀ c ∈ kConsT t, Row1 g0 k c) ∧ ∀ c ∈ l.take (j + 1), Row1 g0 i c) := fun ⟨⟨h1, h2⟩, h3⟩ => ⟨h1, fun c hc => by
            rw [tk] at hc
            rcases List.mem_append.mp hc with hc | hc
            · exact h2 c hc
            · rw [List.mem_singleton.mp hc]; exact h3⟩
          have hil : i < g.length := by rw [ok3.len, ← hlen]; exact hi
          refine ⟨pc, _, rfl, hpc, rfl, _, _, rfl, _, _, rfl, rfl, ?_⟩
          refine ⟨_, rfl, ap, rfl, ⟨_, hS4⟩, fun D2 hDn2 => ?_⟩
          have nDD : D ≠ D2 := ne_of_none hg3 hDn2
          refine lc_map (N := NT) (fun u => .bl (inG g u)) hS4 hD4 e3.tok hDn2 (small1000 (by omega)) (fun x u Hy acc hu hx' tk' hDc kp Q' z => ⟨rfl, ?_⟩) fun Hy tky kpy hDy => ?_
          · obtain ⟨iu, rfl, u0, u1⟩ := idxForm (hidx u hu)
            unfold Den at hx'
            subst hx'
            obtain ⟨ju, rfl⟩ := Int.eq_ofNat_of_zero_le u0
            have hju : ju < g.length := by rw [ok3.len]; omega
            have hgy := kp.keep _ _ hg3 (fun q z => by cases z) nDD
            refine ⟨_, rfl, _, rfl, D, _, _, .bl (inG g (.int ju)), rfl, rfl, SqL.of hgy, atI_nat ?_, z Hy (Ex.refl tk')⟩
            rw [List.getElem?_map, List.getElem?_eq_getElem hju]
            show some (V.bl g[ju]) = some (V.bl ((g[(ju : Int).toNat]?).getD false))
            rw [Int.toNat_natCast, List.getElem?_eq_getElem hju]; rfl
          · have ey : Ex cs N0 Hx Hy := ⟨kpy, tky⟩
            have hgy := ey.keep _ _ hg3 (fun q z => by cases z) fun z => z
            refine ⟨D2, pl.map (inG g), rfl, SqL.of (by rw [hDy, List.map_map]; rfl), _, rfl, ?_⟩
            have eall : (pl.map (inG g)).all id = (cPartsT (.tup [.str sn, .tup pl])).all (inG g) := by
              show _ = pl.all (inG g)
              rw [List.all_map]; rfl
            rw [eall]
            by_cases cc : (cPartsT (.tup [.str sn, .tup pl])).all (inG g) = true
            · rw [cc]
              refine iteT ⟨_, rfl, _, rfl, D, _, _, i, rfl, by rw [Int.zero_add], hgy, ixN_nat (by rw [List.length_map]; exact hil), ?_⟩
              refine ⟨g.set i true, _, _, rfl, (e3.trans (ey.mono fun _ z => z.elim)).trans ⟨Kp.put hgy rfl, ey.tok.put hgy fun q z => by cases z⟩, by rw [upd_same, List.map_set], ok3.put ht hcl hidx cc, (inv3.put ht hcl hil cc).weak ex'⟩
            · rw [Bool.not_eq_true] at cc
              rw [cc]
              exact iteF ⟨g, _, _, rfl, e3.trans (ey.mono fun _ z => z.elim), hgy, ok3, (inv3.skip cc).weak ex'⟩
        · obtain ⟨g, x4, x5, rfl, e3, hg3, ok3, inv3⟩ := w
          rw [hly, List.take_length] at inv3
          refine ⟨g, _, _, _, rfl, kt e3, hg3, ok3, inv3.weak fun ⟨h1, h2⟩ k hk u hu c hcc => ?_⟩
          by_cases e : k = i
          · subst e
            rw [ht] at hu
            rw [← Option.some.inj hu] at hcc
            exact h2 c hcc
          · exact h1 k (by omega) u hu c hcc
      · obtain ⟨g, x3, x4, x5, rfl, e2, hg2, ok2, inv⟩ := w
        rw [hlen] at inv
        refine ⟨g, _, _, _, _, rfl, e2, hg2, ok2, ?_⟩
        rcases inv with ⟨c, rfl⟩ | ⟨rfl, _, c⟩ | c
        · exact .inl c
        · exact .inl fun k t ht => c k (List.getElem?_eq_some_iff.mp ht).1 t ht
        · exact .inr c
    · obtain ⟨g, x2, x3, x4, x5, rfl, e1, hg, ok, cl⟩ := w
      have cl : ClG ks g := cl.elim id fun c => by
        have := cnt_le g
        rw [ok.len] at this
        omega
      refine ⟨_, rfl, D, g, rfl, SqL.of hg, ?_⟩
      rw [all_sig lo ok cl]
      exact k H' ⟨fin e1, e1.tok⟩
end
end LW
namespace LW
open PySem PySem.Spec PyProof.Rows L2 GxR FW GA EN SL
section
variable {K : PySem.W.Frag} {N : Addr → Prop} {H : Hp}
theorem DenL.take : ∀ {ts : List T} {xs : List V} (m : Nat), DenL K N H ts xs → DenL K N H (ts.take m) (xs.take m)
  | [], xs, m, h => by unfold DenL at h; subst h; rw [List.take_nil, List.take_nil]; exact DenL.nil
  | t :: ts, xs, m, h => by
    unfold DenL at h
    obtain ⟨x, r, rfl, h1, h2⟩ := h
    cases m with
    | zero => exact DenL.nil
    | succ m => exact DenL.cons h1 (DenL.take m h2)
theorem DenL.drop : ∀ {ts : List T} {xs : List V} (m : Nat), DenL K N H ts xs → DenL K N H (ts.drop m) (xs.drop m)
  | [], xs, m, h => by unfold DenL at h; subst h; rw [List.drop_nil, List.drop_nil]; exact DenL.nil
  | t :: ts, xs, m, h => by
    cases m with
    | zero => exact h
    | succ m =>
      unfold DenL at h
      obtain ⟨x, r, rfl, h1, h2⟩ := h
      exact DenL.drop m h2
end
def qName (c : Nat) : Str := ⟨#[113, c]⟩
def qNames : List Str := (cp letters).map qName
theorem q_add (c : Nat) : ("q" : Str) ++ (⟨#[c]⟩ : Str) = qName c := by
  refine cp_inj ?_
  unfold cp
  rw [str_app, show ("q" : Str).cps.toList = [113] by decide +kernel]
  rfl
theorem q_len : qNames.length = 26 := by unfold qNames; rw [List.length_map, show cp letters = List.range' 97 26 from letters_eq, List.length_range']
theorem q_nd : qNames.Nodup := by
  unfold qNames List.Nodup
  rw [List.pairwise_map]
  have : (cp letters).Nodup := by rw [show cp letters = List.range' 97 26 from letters_eq]; exact List.nodup_range'
  refine List.Pairwise.imp (fun {x y} ne e => ?_) this
  have := congrArg cp e
  exact ne (List.cons.inj (List.cons.inj (show [113, x] = [113, y] from this)).2).1
theorem q_ok : ∀ s ∈ qNames, nameB s = true := fun s hs => by
  unfold qNames at hs
  obtain ⟨c, hc, rfl⟩ := List.mem_map.mp hs
  rw [show cp letters = List.range' 97 26 from letters_eq] at hc
  have := List.mem_range'_1.mp hc
  refine name_of (by show 2 ≤ 2; decide) (by show 2 ≤ 8; decide) ?_
  show (letterB 113 && (letterB c && true)) = true
  unfold letterB
  rw [decide_eq_true (by decide), decide_eq_true (by decide), decide_eq_true (by omega), decide_eq_true (by omega)]; rfl
def freshN (ks : List T) : List Str := qNames.filter fun s => !decide (s ∈ namesT ks)
structure FreshOk (ks : List T) (fs : List Str) : Prop where
  len : 14 ≤ fs.length
  le : fs.length ≤ 26
  ok : ∀ s ∈ fs, nameB s = true
  out : ∀ s ∈ fs, s ∉ namesT ks
  nd : fs.Nodup
theorem fresh_ok {ks : List T} (h : (namesT ks).length ≤ 12) : FreshOk ks (freshN ks) := by
  refine ⟨?_, by have := List.length_filter_le (fun s => !decide (s ∈ namesT ks)) qNames; rw [q_len] at this; exact this, fun s hs => q_ok s (List.mem_filter.mp hs).1, fun s hs c => ?_, q_nd.filter _⟩
  · refine Nat.le_of_not_lt fun lt => ?_
    obtain ⟨s, hs, hn⟩ := out_of (namesT ks ++ freshN ks) qNames q_nd (by rw [q_len, List.length_append]; omega)
    refine hn (List.mem_append_right _ (List.mem_filter.mpr ⟨hs, ?_⟩))
    rw [decide_eq_false (fun c => hn (List.mem_append_left _ c))]; rfl
  · have := (List.mem_filter.mp hs).2
    rw [decide_eq_true c] at this
    cases this
theorem names_le {ks : List T} {n : Int} (hk : ∀ t ∈ ks, isKindT t n = true) (h3 : ks.length ≤ 3) : (namesT ks).length ≤ 12 := by
  have : ∀ (us : List T), (∀ t ∈ us, isKindT t n = true) → (namesT us).length ≤ 4 * us.length := fun us => by
    induction us with
    | nil => intro _; exact Nat.le_refl _
    | cons u us ih =>
      intro hu
      have h1 := ih fun t ht => hu t (List.mem_cons_of_mem _ ht)
      obtain ⟨s, l, rfl, _, hl4, _⟩ := kindForm (hu u List.mem_cons_self)
      show (l.map cNameT ++ namesT us).length ≤ _
      rw [List.length_append, List.length_map, List.length_cons]; omega
  have := this ks hk
  omega
def spFresh (K : PySem.W.Frag) (cs : List (Addr × Addr)) : Sp := fun vs H Q _ => ∃ v ks, vs = [v] ∧ ks.length ≤ 3 ∧ (∀ t ∈ ks, isKindT t ks.length = true) ∧ Den K NT H (.tup ks) v ∧ TOk cs H ∧
  ∀ D fs H', Ex cs N0 H H' → H D = none → H' D = some (.lst (fs.map V.str)) → FreshOk ks fs → Q (.ref D) H'
def spWith (K : PySem.W.Frag) (cs : List (Addr × Addr)) : Sp := fun vs H Q _ => ∃ v r ks t N k, vs = [v, .int (k : Nat), r] ∧ k < ks.length ∧ ks.length ≤ 3 ∧ Den K N H (.tup ks) v ∧ Den K N H t r ∧ TOk cs H ∧
  ∀ p H', Ex cs N0 H H' → Den K N H' (.tup (ks.set k t)) p → Q p H'
def spPut (K : PySem.W.Frag) (cs : List (Addr × Addr)) : Sp := fun vs H Q _ => ∃ S v r ts t N, vs = [.ref S, v, r] ∧ N S ∧ StOk H S ∧ ts.length ≤ 100 ∧ Den K N H (.tup ts) v ∧ Den K N H t r ∧ TOk cs H ∧
  ∀ p i H', Dr cs S H H' → Den K N H' (.tup (ts.take i ++ [t] ++ ts.drop i)) p → Q p H'
section
variable {P : Program} {w : World} {K : PySem.W.Frag} {mg : Str → Option Value} {base : Heap} {cs : List (Addr × Addr)}
theorem ok__law_with_kind {f : Addr} {fd : FuncData} (F : Fun K "_law_with_kind" "_law_with_kind" s__law_with_kind f fd) (G : Glo mg) : FnOk P w K mg base CX0 1 f fd P__law_with_kind (spWith K cs) := by
  refine F.ok sc__law_with_kind (fun vs H Q E h => ?_) (fun cdv A outer s H vs Q E hr h => ?_)
  · obtain ⟨v, r, ks, t, N, k, rfl, _⟩ := h
    rfl
  · obtain ⟨v, r, ks, t, N, k, rfl, hk, h3, hd, ht, ho, q⟩ := h
    refine ⟨_, pss_one (ps_ret (pe_op op_catA (pe_op op_catA (pe_slice sl_tupA (pv 0) po_none (po_some (pv 1))) (pe_tup (pa_cons (pv 2) pa_nil))) (pe_slice sl_tupA (pv 0) (po_some (pe_op op_add (pv 1) pe_int)) po_none))), ?_⟩
    obtain ⟨a, xs, rfl, hS, hD⟩ := (show ∃ a xs, v = .ref a ∧ SqT K H a xs ∧ DenL K N H ks xs from by unfold Den at hd; exact hd)
    have hlen := hD.len
    refine ⟨_, rfl, _, rfl, _, rfl, cut_rd (cs := cs) hS ho fun p1 H1 e1 h1 => ?_⟩
    rw [cut_lo xs k (by omega)] at h1
    refine ⟨_, rfl, by show 1 ≤ sizeLine; decide, fun p2 hp2 => ?_⟩
    have e2 : Ex cs N0 H1 (upd H1 p2 (.tup [r])) := Ex.new e1.tok hp2
    refine cat_rd (cs := cs) (e2.toKp.sqT h1) (SqT.of upd_same) e2.tok (by rw [List.length_take]; show _ + 1 ≤ _; exact small (by omega)) fun p3 H3 e3 h3' => ?_
    have e13 := e1.trans (e2.trans e3)
    refine ⟨_, rfl, _, rfl, _, _, rfl, rfl, _, rfl, ?_⟩
    dsimp only [tNoPart]
    refine cut_rd (lo := some ((k : Int) + 1)) (hi := none) (cs := cs) (e13.toKp.sqT hS) e13.tok fun p4 H4 e4 h4 => ?_
    rw [show (k : Int) + 1 = ((k + 1 : Nat) : Int) by omega, cut_hi xs (k + 1) (by omega)] at h4
    refine cat_rd (cs := cs) (e4.toKp.sqT h3') h4 e4.tok (by rw [List.length_append, List.length_take, List.length_drop]; show _ + 1 + _ ≤ _; exact small (by omega)) fun p5 H5 e5 h5 => ?_
    have e15 := e13.trans (e4.trans e5)
    refine q _ H5 e15 (Den.tup_ h5 ?_)
    rw [List.set_eq_take_append_cons_drop, if_pos hk, List.append_assoc]
    exact DenL.append (DenL.take k (hD.ex0 e15)) (DenL.cons (ht.ex0 e15) (DenL.drop (k + 1) (hD.ex0 e15)))
theorem ok__law_put_in {f : Addr} {fd : FuncData} (F : Fun K "_law_put_in" "_law_put_in" s__law_put_in f fd) (G : Glo mg) (D1 : Df P w K mg base 1 "_law_next" P__law_next (spNext cs)) : FnOk P w K mg base CX0 2 f fd P__law_put_in (spPut K cs) := by
  refine F.ok sc__law_put_in (fun vs H Q E h => ?_) (fun cdv A outer s H vs Q E hr h => ?_)
  · obtain ⟨S, v, r, ts, t, N, rfl, _⟩ := h
    rfl
  · obtain ⟨S, v, r, ts, t, N, rfl, nS, hst, h3, hd, ht, ho, q⟩ := h
    refine ⟨_, pss_cons (ps_set (i := 3) sc__law_put_in.nd rfl (.inl rfl) (pe_df D1 hr (pa_cons (pv 0) (pa_cons (pe_op op_add (pe_callB call_len_seq (by rfl) G.len boot_len (pa_cons (pv 1) pa_nil)) pe_int) pa_nil))))
      (pss_one (ps_ret (pe_op op_catA (pe_op op_catA (pe_slice sl_tupA (pv 1) po_none (po_some (pv 3))) (pe_tup (pa_cons (pv 2) pa_nil))) (pe_slice sl_tupA (pv 1) (po_some (pv 3)) po_none)))), ?_⟩
    obtain ⟨a, xs, rfl, hS, hD⟩ := (show ∃ a xs, v = .ref a ∧ SqT K H a xs ∧ DenL K N H ts xs from by unfold Den at hd; exact hd)
    have hlen := hD.len
    refine ⟨_, rfl, _, rfl, a, xs, rfl, .inr hS, _, _, rfl, rfl, S, _, rfl, hst, ho, by omega, by omega, fun d H1 d0 d1 dr1 => ?_⟩
    obtain ⟨k, rfl⟩ := Int.eq_ofNat_of_zero_le d0
    have hk : k ≤ xs.length := by omega
    refine ⟨_, rfl, _, rfl, _, rfl, cut_rd (cs := cs) (dr1.toKp.sqT hS) dr1.tok fun p1 H2 e1 h1 => ?_⟩
    rw [cut_lo xs k hk] at h1
    refine ⟨_, rfl, by show 1 ≤ sizeLine; decide, fun p2 hp2 => ?_⟩
    have e2 : Ex cs N0 H2 (upd H2 p2 (.tup [r])) := Ex.new e1.tok hp2
    refine cat_rd (cs := cs) (e2.toKp.sqT h1) (SqT.of upd_same) e2.tok (by rw [List.length_take]; show _ + 1 ≤ _; exact small (by omega)) fun p3 H3 e3 h3' => ?_
    have e13 := e1.trans (e2.trans e3)
    refine ⟨_, rfl, _, rfl, _, rfl, ?_⟩
    dsimp only [tNoPart]
    refine cut_rd (lo := some (k : Int)) (hi := none) (cs := cs) (e13.toKp.sqT (dr1.toKp.sqT hS)) e13.tok fun p4 H4 e4 h4 => ?_
    rw [cut_hi xs k hk] at h4
    refine cat_rd (cs := cs) (e4.toKp.sqT h3') h4 e4.tok (by rw [List.length_append, List.length_take, List.length_drop]; show _ + 1 + _ ≤ _; exact small (by omega)) fun p5 H5 e5 h5 => ?_
    have d15 := dr1.e0 (e13.trans (e4.trans e5))
    exact q _ k H5 d15 (Den.tup_ h5 (DenL.append (DenL.append (DenL.take k (DenL.drN nS d15 hD)) (DenL.cons (Den.drN nS d15 ht) DenL.nil)) (DenL.drop k (DenL.drN nS d15 hD))))
theorem ok__law_fresh {f : Addr} {fd : FuncData} (F : Fun K "_law_fresh" "_law_fresh" s__law_fresh f fd) (G : Glo mg) : FnOk P w K mg base CX0 1 f fd P__law_fresh (spFresh K cs) := by
  refine F.ok sc__law_fresh (fun vs H Q E h => ?_) (fun cdv A outer s H vs Q E hr h => ?_)
  · obtain ⟨v, ks, rfl, _⟩ := h
    rfl
  · obtain ⟨v, ks, rfl, h3, hk, hd, ho, k⟩ := h
    refine ⟨_, pss_cons (ps_set (i := 1) sc__law_fresh.nd rfl (.inr rfl) (pe_lst pa_nil))
      (pss_cons (ps_for PassesOwn.never rfl (pi_tup (pv 0)) (pg_tup rfl (pgs_cons (pg_name (i := 2) sc__law_fresh.nd rfl (.inl rfl)) (pgs_cons (pg_name (i := 3) sc__law_fresh.nd rfl (.inl rfl)) pgs_nil)))
        (pss_one (ps_expr (pe_bm PySem.F.plainAttrs_list PySem.F.slot_list_extend PySem.F.type_list_extend mt_extend (pv 1) (pa_cons
          (pe_lc (own := [("row", 4)]) (g := gName 4) (tt := tYes) (te := tOp (rIxT K) (tVar 4) (tC (.int 0))) rfl sc__law_fresh.nd (pi_tup (pv 3)) (blkOk_by (N := N__law_fresh) (sc := defScope s__law_fresh) (by decide +kernel))
            (fun _ _ _ _ _ => pg_name (i := 4) sc__law_fresh.nd rfl (.inl rfl)) (fun _ _ _ _ _ => pts_nil)
            (fun _ _ _ _ _ => pe_ix ix_tup (pv 4) pe_int (fun _ _ => rfl))) pa_nil)))))
      (pss_one (ps_ret (pe_lc (own := [("name", 5)]) (g := gName 5) (tt := tTest (tOp (rIn K true) (tVar 5) (tVar 1))) rfl sc__law_fresh.nd
          (pi_list (pe_lc (own := [("letter", 6)]) (g := gName 6) (tt := tYes) rfl sc__law_fresh.nd (pi_str pe_str) (blkOk_by (N := N__law_fresh) (sc := defScope s__law_fresh) (by decide +kernel))
            (fun _ _ _ _ _ => pg_name (i := 6) sc__law_fresh.nd rfl (.inl rfl)) (fun _ _ _ _ _ => pts_nil) (fun _ _ _ _ _ => pe_op op_add_str pe_str (pv 6))))
          (blkOk_by (N := N__law_fresh) (sc := defScope s__law_fresh) (by decide +kernel))
          (fun _ _ _ _ _ => pg_name (i := 5) sc__law_fresh.nd rfl (.inl rfl)) (fun _ _ _ _ _ => pts_one (pt_cmpR (r := rIn K true) op_notIn_seq (pv 5) (pv 1) (by with_unfolding_all rfl)))
          (fun _ _ _ _ _ => pv 5))))), ?_⟩
    obtain ⟨a, xs, rfl, hS, hD⟩ := (show ∃ a xs, v = .ref a ∧ SqT K H a xs ∧ DenL K NT H ks xs from by unfold Den at hd; exact hd)
    have hlen := hD.len
    refine ⟨Nat.zero_le _, fun U hU => ?_⟩
    have fin : ∀ {H'}, Ex cs (N1 U) H H' → Ex cs N0 H H' := fun e => ⟨kp_out hU e.toKp, e.tok⟩
    refine ⟨_, rfl, a, rfl, ⟨_, (Kp.new (N := N0) hU).sqT hS⟩, for_tup (xs := xs) (fun i σ H' => ∃ (x2 x3 : Option V), σ = [some (.ref a), some (.ref U), x2, x3, none, none, none] ∧ Ex cs (N1 U) H H' ∧ H' U = some (.lst ((namesT (ks.take i)).map V.str)) ∧ (namesT (ks.take i)).length ≤ 4 * i)
      ⟨_, _, rfl, Ex.new ho hU, upd_same, Nat.le_refl _⟩ (fun i σ H' _ w => ?_) (fun i x σ H' hx w => ?_) fun σ H' w => ?_⟩
    · obtain ⟨_, _, _, e, _⟩ := w
      exact (fin e).toKp.sqT hS
    · obtain ⟨x2, x3, rfl, e, hu, lu⟩ := w
      obtain ⟨t, ht, hdt⟩ := (DenL.nt (fin e).toKp hD).get hx
      obtain ⟨hw, l, rfl, _, l4, hc⟩ := kindForm (hk t (List.mem_of_getElem? ht))
      obtain ⟨p, y1, y2, rfl, hp, hy1, hy2⟩ := den_pair hdt
      obtain ⟨a2, ys, rfl, hS3, hD3⟩ := (show ∃ a xs, y2 = .ref a ∧ SqT K H' a xs ∧ DenL K NT H' l xs from by unfold Den at hy2; exact hy2)
      have hi : i < ks.length := (List.getElem?_eq_some_iff.mp ht).1
      refine ⟨p, _, rfl, hp, rfl, _, _, rfl, _, _, rfl, rfl, ?_⟩
      refine ⟨_, rfl, .inl ⟨rfl, _, .inl (.inl hu)⟩, _, rfl, a2, rfl, ⟨_, hS3⟩, fun D hDn => ?_⟩
      refine lc_map (N := NT) (fun c => .str (cNameT c)) hS3 hD3 e.tok hDn (small1000 (by omega)) (fun x c Hy acc hcl hx' tk' hDc kp Q' z => ⟨rfl, ?_⟩) fun Hy tky kpy hDy => ?_
      · obtain ⟨sn, pl, rfl, _, _, _⟩ := consForm (hc c hcl)
        obtain ⟨pc, z1, z2, rfl, hpc, hz1, hz2⟩ := den_pair hx'
        unfold Den at hz1
        obtain ⟨rfl, _⟩ := hz1
        exact ⟨_, rfl, pc, _, _, _, rfl, rfl, hpc, atI_nat (j := 0) rfl, z Hy (Ex.refl tk')⟩
      · have hu2 := kpy.keep _ _ hu (fun q z => by cases z) fun z => z
        have tk1 : ks.take (i + 1) = ks.take i ++ [.tup [.str hw, .tup l]] := by rw [List.take_add_one, ht]; rfl
        have nm1 : namesT (ks.take (i + 1)) = namesT (ks.take i) ++ l.map cNameT := by
          rw [tk1]
          unfold namesT
          rw [List.flatMap_append, List.flatMap_cons, List.flatMap_nil, List.append_nil]
          rfl
        refine ⟨U, D, _, _, rfl, rfl, hu2, hDy, by rw [List.length_map, List.length_map]; exact small (by omega), _, _, rfl, (e.trans ⟨kpy.mono fun _ z => z.elim, tky⟩).trans ⟨Kp.put hu2 rfl, tky.put hu2 fun q z => by cases z⟩, ?_, by rw [nm1, List.length_append, List.length_map]; omega⟩
        rw [upd_same, nm1, List.map_append, List.map_map]
        rfl
    · obtain ⟨x2, x3, rfl, e, hu, lu⟩ := w
      rw [hlen, List.take_length] at hu lu
      refine ⟨letters, rfl, fun D1 hD1 => ?_⟩
      refine lc_txt (fun c => .str (qName c)) e.tok hD1 (by decide) (fun c H3 acc hc tk hl3 kp Q' z => ⟨rfl, ?_⟩) fun H3 tk3 kp3 hl3 => ?_
      · refine ⟨_, rfl, _, _, rfl, rfl, by show 1 + 1 ≤ _; decide, ?_⟩
        rw [q_add]
        exact z H3 (Ex.refl tk)
      · have hu3 := kp3.keep _ _ hu (fun q z => by cases z) fun z => z
        have hq : H3 D1 = some (.lst (qNames.map V.str)) := by rw [hl3]; unfold qNames; rw [List.map_map]; rfl
        refine ⟨D1, rfl, ⟨_, SqL.of hq⟩, fun D2 hD2 => ?_⟩
        refine lc_flt (ss := qNames) (fun s => !decide (s ∈ namesT ks)) hq tk3 hD2 (by rw [q_len]; decide) (fun s H5 acc R1 R0 hs tk5 hl5 kp5 h1 h0 h01 => ⟨rfl, ?_⟩) fun H5 tk5 kp5 hl5 => ?_
        · have hu5 := kp5.keep _ _ hu3 (fun q z => by cases z) (ne_of_none hu3 hD2)
          refine ⟨_, rfl, _, rfl, U, _, rfl, .inl (SqL.of hu5), rfl, flat_str _, _, rfl, ?_⟩
          show if (!inV (.str s) ((namesT ks).map V.str)) = true then _ else _
          rw [inV_str]
          by_cases c : s ∈ namesT ks
          · rw [decide_eq_true c] at h0 ⊢
            exact iteF (h01 _ (h0 rfl H5 (Ex.refl tk5)))
          · rw [decide_eq_false c] at h1 ⊢
            exact iteT ⟨_, rfl, h1 rfl H5 (Ex.refl tk5)⟩
        · have e3 : Ex cs N0 H H3 := (fin e).trans ⟨kp3, tk3⟩
          exact k D2 (freshN ks) H5 (e3.trans ⟨kp5, tk5⟩) (e3.stay _ hD2) hl5 (fresh_ok (names_le hk h3))
end
end LW
namespace LW
open PySem PySem.Spec PyProof.Rows L2 GxR FW GA EN SL
def Spoils (n : Int) (k : Nat) (t : T) : Prop := isKindT t n = false ∨ ∃ rows, t = kindT "closed" rows ∧ ∀ c ∈ rows, T.int k ∈ cPartsT c
theorem spoils_sig {ks : List T} {k : Nat} {t : T} (hk : k < ks.length) (h : Spoils ks.length k t) : isSigT (.tup (ks.set k t)) = false := by
  refine Bool.eq_false_iff.mpr fun e => ?_
  obtain ⟨ks', e', h1, h3, hf, _, gd⟩ := of_isSig e
  have e' := T.tup.inj e'
  subst e'
  have hl : (ks.set k t).length = ks.length := List.length_set
  have hkt : (ks.set k t)[k]? = some t := List.getElem?_set_self hk
  rcases h with h | ⟨rows, rfl, hr⟩
  · have := hf t (List.mem_of_getElem? hkt)
    rw [hl, h] at this
    cases this
  · have no : ∀ j, Gd (ks.set k (kindT "closed" rows)) j → j ≠ k := fun j g => by
      induction g with
      | @op j u hu ho =>
        intro e
        subst e
        rw [hkt] at hu
        rw [← Option.some.inj hu] at ho
        exact absurd (show (("closed" : Str) == "open") = true from ho) (by decide)
      | @cl j u c hu hc h1 h2 ih =>
        intro e
        subst e
        rw [hkt] at hu
        rw [← Option.some.inj hu] at hc
        exact ih j (hr c hc) rfl
    exact no k (gd k (by rw [hl]; exact hk)) rfl
section
variable {K : PySem.W.Frag} {cs : List (Addr × Addr)} {S : Addr} {N : Addr → Prop} {σ : L2.St} {H0 : Hp} {te tf tg : TE} {ta tr : TA} {P P1 P2 P3 : T → Prop}
theorem md_single (hS : N S) (h : MD K cs S N te σ H0 P) : MD K cs S N (tTup (tCons te tNil)) σ H0 (fun t => ∃ a, t = .tup [a] ∧ P a) :=
  (md_tup hS (md_cons hS h md_nil) (fun ts ⟨t, us, e, _, e2⟩ => by rw [e, e2]; exact Nat.le_of_ble_eq_true rfl)).weak fun t ⟨ts, e, a, us, e1, p, e2⟩ => by
    subst e e1 e2
    exact ⟨a, rfl, p⟩
theorem md_pair (hS : N S) (h : MD K cs S N te σ H0 P1) (h2 : MD K cs S N tf σ H0 P2) : MD K cs S N (tTup (tCons te (tCons tf tNil))) σ H0 (fun t => ∃ a b, t = .tup [a, b] ∧ P1 a ∧ P2 b) :=
  (md_tup hS (md_cons hS h (md_cons hS h2 md_nil)) (fun ts ⟨t, us, e, _, t2, us2, e2, _, e3⟩ => by rw [e, e2, e3]; exact Nat.le_of_ble_eq_true rfl)).weak fun t ⟨ts, e, a, us, e1, p, b, us2, e2, q, e3⟩ => by
    subst e e1 e2 e3
    exact ⟨a, b, rfl, p, q⟩
theorem md_triple (hS : N S) (h : MD K cs S N te σ H0 P1) (h2 : MD K cs S N tf σ H0 P2) (h3 : MD K cs S N tg σ H0 P3) : MD K cs S N (tTup (tCons te (tCons tf (tCons tg tNil)))) σ H0 (fun t => ∃ a b c, t = .tup [a, b, c] ∧ P1 a ∧ P2 b ∧ P3 c) :=
  (md_tup hS (md_cons hS h (md_cons hS h2 (md_cons hS h3 md_nil))) (fun ts ⟨t, us, e, _, t2, us2, e2, _, t3, us3, e3, _, e4⟩ => by rw [e, e2, e3, e4]; exact Nat.le_of_ble_eq_true rfl)).weak fun t ⟨ts, e, a, us, e1, p, b, us2, e2, q, c, us3, e3, r, e4⟩ => by
    subst e e1 e2 e3 e4
    exact ⟨a, b, c, rfl, p, q, r⟩
theorem md_unit (hS : N S) : MD K cs S N (tTup tNil) σ H0 (· = .tup []) := (md_tup hS md_nil fun ts e => by rw [e]; exact Nat.zero_le _).weak fun t ⟨ts, e, e2⟩ => by rw [e, e2]
theorem md_list2 (hS : N S) (hN : ∀ a, N a → H0 a ≠ none) (h : MD K cs S N te σ H0 P1) (h2 : MD K cs S N tf σ H0 P2) : MD K cs S N (tLst (tCons te (tCons tf tNil))) σ H0 (fun t => ∃ a b, t = .lst [a, b] ∧ P1 a ∧ P2 b) :=
  (mdl_tree hN (md_lst hS (md_cons hS h (md_cons hS h2 md_nil)) (fun ts ⟨t, us, e, _, t2, us2, e2, _, e3⟩ => by rw [e, e2, e3]; exact Nat.le_of_ble_eq_true rfl))).weak fun t ⟨ts, e, a, us, e1, p, b, us2, e2, q, e3⟩ => by
    subst e e1 e2 e3
    exact ⟨a, b, rfl, p, q⟩
theorem md_unitL (hS : N S) (hN : ∀ a, N a → H0 a ≠ none) : MD K cs S N (tLst tNil) σ H0 (· = .lst []) := (mdl_tree hN (md_lst hS md_nil fun ts e => by rw [e]; exact Nat.zero_le _)).weak fun t ⟨ts, e, e2⟩ => by rw [e, e2]
/-- list(x), x a tuple that stands in a slot -/
theorem md_listOf {i : Nat} {v : V} {ts : List T} (hS : N S) (hN : ∀ a, N a → H0 a ≠ none) (hs : σ[i]? = some (some v)) (hd : Den K N H0 (.tup ts) v) :
    MD K cs S N (tCB (fun xs H Q => ∃ p ys, xs = [.ref p] ∧ (SqL K H p ys ∨ SqT K H p ys) ∧ ∀ l, H l = none → Q (.ref l) (upd H l (.lst ys))) (tCons (tVar i) tNil)) σ H0 (· = .lst ts) := fun H d Q k => by
  have hd := Den.drN hS d hd
  unfold Den at hd
  obtain ⟨a, xs, rfl, hq, dl⟩ := hd
  refine ⟨_, hs, a, xs, rfl, .inr hq, fun l hl => ?_⟩
  have d2 : Dr cs S H (upd H l (.lst xs)) := Dr.new d.st d.tok hl
  exact k _ _ _ rfl d2 (Den.lst_ upd_same (fun n => hN l n (d.stay _ hl)) (DenL.drN hS d2 dl))
/-- a list that stands, and a new one -/
theorem mdl_catv {i n m : Nat} {a : Addr} {xs : List V} {ts : List T} (hS : N S) (hs : σ[i]? = some (some (.ref a))) (ha : H0 a = some (.lst xs)) (nS : a ≠ S) (dl : DenL K N H0 ts xs) (p : AllP P n ts) (h2 : MDL K cs S N tf σ H0 (AllP P m)) (hl : n + m ≤ 1000) :
    MDL K cs S N (tOp rCat (tVar i) tf) σ H0 (AllP P (n + m)) :=
  fun H d Q k => ⟨_, hs, h2 H d _ fun b ys us H2 q d2 hb e2 f2 => by
    have e1 := (d.trans d2).keepL ha nS
    have f1 := DenL.drN hS (d.trans d2) dl
    refine ⟨a, b, xs, ys, rfl, rfl, e1, e2, by rw [f1.len, f2.len, p.1, q.1]; exact small hl, fun l hl' => ?_⟩
    have d3 : Dr cs S H2 (upd H2 l (.lst (xs ++ ys))) := Dr.new d2.st d2.tok hl'
    refine k l _ (ts ++ us) _ ⟨by rw [List.length_append, p.1, q.1], fun t ht => ?_⟩ (d2.trans d3) (d2.stay _ hl') upd_same ((DenL.drN hS d3 f1).append (DenL.drN hS d3 f2))
    rcases List.mem_append.mp ht with ht | ht
    · exact p.2 t ht
    · exact q.2 t ht⟩
theorem mdl_all {n : Nat} (hS : N S) (h : MDA K cs S N ta σ H0 (AllP P n)) (hl : n ≤ 1000) : MDL K cs S N (tLst ta) σ H0 (AllP P n) := md_lst hS h fun ts p => by rw [p.1]; exact hl
theorem md_pickA {i n : Nat} (hi : σ[i]? = some (some (.ref S))) (hS : N S) (h : MDL K cs S N te σ H0 (AllP P n)) (h0 : 0 < n) (h1 : n ≤ 1000) : MD K cs S N (tCall (spPick K cs) [] E0 (tCons (tVar i) (tCons te tNil))) σ H0 P :=
  (md_pick hi hS h fun ts p => ⟨fun z => by rw [z] at p; have := p.1; rw [← this] at h0; exact absurd h0 (Nat.lt_irrefl _), by rw [p.1]; exact h1⟩).weak fun t ⟨ts, p, ht⟩ => p.2 t ht
end
/-- [e for k in range(n)], each item a tree -/
theorem lc_drt {K : PySem.W.Frag} {cs : List (Addr × Addr)} {S D : Addr} {N : Addr → Prop} {H1 : Hp} {g : TG} {te : TE} {vs : List Nat} {σ : L2.St} {n : Nat} {Qd : Hp → Prop} (hS : N S) (hN : ∀ a, N a → H1 a ≠ none) (hst : StOk H1 S) (tok : TOk cs H1) (hn : H1 D = none) (hl : n < sizeLine)
    (hs : ∀ (i : Nat) H', i < n → Dr cs S H1 H' → ∀ Q' : VK, (∀ v t H'', Dr cs S H' H'' → Den K NT H'' t v → Q' v H'') → g (.int (0 + (i : Int))) (wipe σ vs) H' fun σ2 H3 => wipe σ2 vs = wipe σ vs ∧ te σ2 H3 Q')
    (hd : ∀ H' xs ts, Dr cs S H1 H' → H' D = some (.lst xs) → DenL K NT H' ts xs → ts.length = n → Qd H') :
    ∃ W : Nat → Nat → Hp → Prop, (∃ m, W 0 m (upd H1 D (.lst []))) ∧ ∀ i m H, W i m H →
      ((Itr 0 n).stop i H ∧ Qd H) ∨ ((Itr 0 n).go i H ∧ ∃ Nx : Hp → Prop, (∀ H', Nx H' → ∃ m', m' < m ∧ W (i + 1) m' H') ∧ ∀ x H', (Itr 0 n).yld i H x H' → g x (wipe σ vs) H' fun σ2 H2 => wipe σ2 vs = wipe σ vs ∧ tYes σ2 H2 fun b H3 =>
        if b = true then te σ2 H3 fun y H4 => ∃ acc, H4 D = some (.lst acc) ∧ acc.length < sizeLine ∧ Nx (upd H4 D (.lst (acc ++ [y]))) else Nx H3) := by
  have nS := hst.ne hn
  refine lc_range (lo := 0) (n := n) (fun i H => Dr cs S H1 H ∧ ∃ xs ts, H D = some (.lst xs) ∧ DenL K NT H ts xs ∧ ts.length = i) ⟨Dr.new hst tok hn, [], [], upd_same, DenL.nil, rfl⟩ (fun i H hi p => ?_) fun H p => ?_
  · obtain ⟨p1, xs, ts, p2, p3, p4⟩ := p
    refine hs i H hi p1 (fun y H4 => ∃ acc, H4 D = some (.lst acc) ∧ acc.length < sizeLine ∧ (Dr cs S H1 (upd H4 D (.lst (acc ++ [y]))) ∧ ∃ xs ts, (upd H4 D (.lst (acc ++ [y]))) D = some (.lst xs) ∧ DenL K NT (upd H4 D (.lst (acc ++ [y]))) ts xs ∧ ts.length = i + 1)) fun v t H'' d dv => ?_
    have e1 := d.keepL p2 nS
    have ln := p3.len
    have kp : Kp NT H'' (upd H'' D (.lst (xs ++ [v]))) := Kp.put e1 trivial
    exact ⟨_, e1, by omega, (p1.trans d).put hst hn e1, _, ts ++ [t], upd_same, DenL.nt kp (DenL.append (DenL.nt d.toKp p3) (DenL.cons dv DenL.nil)), by rw [List.length_append, p4]; rfl⟩
  · obtain ⟨p1, xs, ts, p2, p3, p4⟩ := p
    exact hd H xs ts p1 p2 p3 p4
end LW
namespace LW
open PySem PySem.Spec PyProof.Rows L2 GxR FW GA EN SL
/-- handed a right signature: no signature -/
def spSpoil (K : PySem.W.Frag) (cs : List (Addr × Addr)) : Sp := fun vs H Q _ => ∃ S v ks, vs = [.ref S, v] ∧ StOk H S ∧ TOk cs H ∧ isSigT (.tup ks) = true ∧ Den K NT H (.tup ks) v ∧
  ∀ r t H', isSigT t = false → Dr cs S H H' → Den K (N1 S) H' t r → Q r H'
def BadHow (b : T) : Prop := ∀ (x : T) (n : Int), isKindT (.tup [b, x]) n = false
theorem badStr {s : Str} (h : howB s = false) : BadHow (.str s) := fun x n => by
  cases x with
  | tup l => show (howB s && _) = false; rw [h]; rfl
  | _ => rfl
theorem badNon : BadHow .non := fun x n => by cases x <;> rfl
theorem badBl {b : Bool} : BadHow (.bl b) := fun x n => by cases x <;> rfl
theorem badInt {i : Int} : BadHow (.int i) := fun x n => by cases x <;> rfl
theorem badTup {l : List T} : BadHow (.tup l) := fun x n => by cases x <;> rfl
theorem badLst {l : List T} : BadHow (.lst l) := fun x n => by cases x <;> rfl
theorem badDct : BadHow .dct := fun x n => by cases x <;> rfl
theorem StOk.some {H : Hp} {S : Addr} (h : StOk H S) : ∀ a, N1 S a → H a ≠ none := fun a e => by
  obtain ⟨b, ns, c, k, h1, _⟩ := h
  rw [show a = S from e, h1]
  intro z; cases z
section
variable {P : Program} {w : World} {K : PySem.W.Frag} {mg : Str → Option Value} {base : Heap} {cs : List (Addr × Addr)}
theorem ok__law_spoilt_kind {f : Addr} {fd : FuncData} (F : Fun K "_law_spoilt_kind" "_law_spoilt_kind" s__law_spoilt_kind f fd) (G : Glo mg) (D1 : Df P w K mg base 1 "_law_next" P__law_next (spNext cs)) (D2 : Df P w K mg base 2 "_law_pick" P__law_pick (spPick K cs))
    (D3 : Df P w K mg base 1 "_law_fresh" P__law_fresh (spFresh K cs)) (D4 : Df P w K mg base 1 "_law_with_kind" P__law_with_kind (spWith K cs)) : FnOk P w K mg base CX0 3 f fd P__law_spoilt_kind (spSpoil K cs) := by
  refine F.ok sc__law_spoilt_kind (fun vs H Q E h => ?_) (fun cdv A outer s H vs Q E hr h => ?_)
  · obtain ⟨S, v, ks, rfl, _⟩ := h
    rfl
  · obtain ⟨S, v, ks, rfl, hst, ho, hsig, hd, k⟩ := h
    refine ⟨_, pss_cons (ps_set (i := 2) sc__law_spoilt_kind.nd rfl (.inl rfl) (pe_df D1 hr (pa_cons (pv 0) (pa_cons (pe_callB call_len_seq (by rfl) G.len boot_len (pa_cons (pv 1) pa_nil)) pa_nil))))
      (pss_cons (ps_asg (pe_ix ix_tup (pv 1) (pv 2) (fun _ _ => rfl)) (pg_tup rfl (pgs_cons (pg_name (i := 3) sc__law_spoilt_kind.nd rfl (.inl rfl)) (pgs_cons (pg_name (i := 4) sc__law_spoilt_kind.nd rfl (.inl rfl)) pgs_nil))))
      (pss_cons (ps_set (i := 5) sc__law_spoilt_kind.nd rfl (.inr rfl) (pe_df D3 hr (pa_cons (pv 1) pa_nil)))
      (pss_cons (ps_set (i := 6) sc__law_spoilt_kind.nd rfl (.inl rfl) (pe_op op_catA (pv 4) (pe_callTy call_tuple_of (by rfl) G.tuple (by decide +kernel) (pa_cons
          (pe_lc (own := [("at", 8)]) (g := gName 8) (tt := tYes) (te := tTup (tCons (tOp (rIxL K) (tVar 5) (tVar 8)) (tCons (tTup tNil) tNil))) rfl sc__law_spoilt_kind.nd (pi_range1 (by rfl) G.range (pa_cons (pe_op op_sub pe_int (pe_callB call_len_seq (by rfl) G.len boot_len (pa_cons (pv 4) pa_nil))) pa_nil)) (blkOk_by (N := N__law_spoilt_kind) (sc := defScope s__law_spoilt_kind) (by decide +kernel))
            (fun _ _ _ _ _ => pg_name (i := 8) sc__law_spoilt_kind.nd rfl (.inl rfl)) (fun _ _ _ _ _ => pts_nil)
            (fun _ _ _ _ _ => pe_tup (pa_cons (pe_ix ix_list (pv 5) (pv 8) (fun _ _ => rfl)) (pa_cons (pe_tup pa_nil) pa_nil)))) pa_nil))))
      (pss_cons (ps_set (i := 7) sc__law_spoilt_kind.nd rfl (.inl rfl) (pe_lst
          (pa_cons (pe_lst (pa_cons (pv 3) (pa_cons (pv 4) pa_nil)))
          (pa_cons (pe_tup (pa_cons (pv 3) pa_nil))
          (pa_cons (pe_tup (pa_cons (pv 3) (pa_cons (pv 4) (pa_cons (pe_tup pa_nil) pa_nil))))
          (pa_cons (pe_tup (pa_cons (pe_df D2 hr (pa_cons (pv 0) (pa_cons (pe_lst (pa_cons pe_str (pa_cons pe_str (pa_cons pe_str (pa_cons pe_non (pa_cons pe_bl (pa_cons pe_int (pa_cons (pe_tup pa_nil) (pa_cons (pe_lst pa_nil) (pa_cons pe_dnewK pa_nil)))))))))) pa_nil))) (pa_cons (pv 4) pa_nil))) pa_nil))))))
      (pss_cons (ps_set (i := 7) sc__law_spoilt_kind.nd rfl (.inl rfl) (pe_op op_cat (pv 7) (pe_lst
          (pa_cons (pe_tup (pa_cons (pv 3) (pa_cons (pe_callTy call_list_of (by rfl) G.list (by decide +kernel) (pa_cons (pv 4) pa_nil)) pa_nil)))
          (pa_cons (pe_tup (pa_cons (pv 3) (pa_cons pe_non pa_nil)))
          (pa_cons (pe_tup (pa_cons (pv 3) (pa_cons pe_dnewK pa_nil)))
          (pa_cons (pe_tup (pa_cons (pv 3) (pa_cons (pv 6) pa_nil)))
          (pa_cons (pe_tup (pa_cons pe_str (pa_cons (pe_tup pa_nil) pa_nil)))
          (pa_cons pe_non
          (pa_cons (pv 3) pa_nil))))))))))
      (pss_cons (ps_set (i := 7) sc__law_spoilt_kind.nd rfl (.inl rfl) (pe_op op_cat (pv 7) (pe_lst
          (pa_cons (pe_tup (pa_cons pe_str (pa_cons (pe_tup (pa_cons (pe_tup (pa_cons (pe_ix ix_list (pv 5) pe_int (fun _ _ => rfl)) (pa_cons (pe_tup (pa_cons (pv 2) pa_nil)) pa_nil))) pa_nil)) pa_nil)))
          (pa_cons (pe_tup (pa_cons pe_str (pa_cons (pe_tup (pa_cons (pe_tup (pa_cons (pe_ix ix_list (pv 5) pe_int (fun _ _ => rfl)) (pa_cons (pe_tup (pa_cons (pv 2) (pa_cons (pv 2) pa_nil))) pa_nil)))
            (pa_cons (pe_tup (pa_cons (pe_ix ix_list (pv 5) pe_int (fun _ _ => rfl)) (pa_cons (pe_tup (pa_cons (pv 2) pa_nil)) pa_nil))) pa_nil))) pa_nil))) pa_nil)))))
      (pss_one (ps_ret (pe_df D4 hr (pa_cons (pv 1) (pa_cons (pv 2) (pa_cons (pe_df D2 hr (pa_cons (pv 0) (pa_cons (pe_op op_cat (pv 7) (pe_lst
          (pa_cons (pe_tup (pa_cons (pv 3) (pa_cons (pe_ix ix_list (pv 5) pe_int (fun _ _ => rfl)) pa_nil)))
          (pa_cons (pe_tup (pa_cons (pv 3) (pa_cons (pe_tup (pa_cons (pe_ix ix_list (pv 5) pe_int (fun _ _ => rfl)) pa_nil)) pa_nil))) pa_nil)))) pa_nil))) pa_nil)))))))))))), ?_⟩
    obtain ⟨ks', eks, h1, h3, hk, hnd, hgd⟩ := of_isSig hsig
    obtain rfl := T.tup.inj eks
    obtain ⟨a, xs, rfl, hS, hD⟩ := (show ∃ a xs, v = .ref a ∧ SqT K H a xs ∧ DenL K NT H ks xs from by unfold Den at hd; exact hd)
    have hlen := hD.len
    refine ⟨_, rfl, _, rfl, a, xs, rfl, .inr hS, S, _, rfl, hst, ho, by omega, by omega, fun d H1 d0 d1 dr1 => ?_⟩
    obtain ⟨kk, rfl⟩ := Int.eq_ofNat_of_zero_le d0
    have hkl : kk < ks.length := by omega
    have hx : xs[kk]? = some (xs[kk]'(by omega)) := by simp
    obtain ⟨t, ht, hdt⟩ := (DenL.nt dr1.toKp hD).get hx
    obtain ⟨hw, l, rfl, hwo, l4, hc⟩ := kindForm (hk t (List.mem_of_getElem? ht))
    obtain ⟨p, y1, y2, ep, hp, hy1, hy2⟩ := den_pair hdt
    unfold Den at hy1
    obtain ⟨rfl, hwz⟩ := hy1
    obtain ⟨rA, ys, rfl, hS3, hD3⟩ := (show ∃ a xs, y2 = .ref a ∧ SqT K H1 a xs ∧ DenL K NT H1 l xs from by unfold Den at hy2; exact hy2)
    have hly := hD3.len
    refine ⟨_, rfl, _, rfl, a, _, _, _, rfl, rfl, dr1.toKp.sqT hS, atI_nat (by rw [hx, ep]), p, _, rfl, hp, rfl, _, _, rfl, _, _, rfl, rfl, ?_⟩
    refine ⟨_, rfl, _, ks, rfl, h3, hk, Den.nt dr1.toKp hd, dr1.tok, fun nA fs H2 e2 hnA hfs fok => ?_⟩
    have dr2 := dr1.e0 e2
    have fnA : H nA = none := dr1.stay _ hnA
    have snA := hst.ne fnA
    refine ⟨_, rfl, _, rfl, rA, ys, rfl, .inr (e2.toKp.sqT hS3), _, _, rfl, rfl, _, rfl, by omega, by omega, fun D hDn => ?_⟩
    have fl := fok.len
    refine lc_drt (K := K) (N := N1 S) rfl dr2.st.some dr2.st dr2.tok hDn (small1000 (by omega)) (fun i H' hi d Q' z => ⟨rfl, ?_⟩) fun H3 zs ts dr3 hD3' dzs lts => ?_
    · have hi' : i < fs.length := by omega
      have hz := of_name (fok.ok _ (List.getElem_mem hi'))
      refine ⟨_, rfl, _, rfl, nA, _, _, .str fs[i], rfl, rfl, SqL.of (d.keepL hfs snA), by rw [Int.zero_add]; exact atI_nat (by rw [List.getElem?_map, List.getElem?_eq_getElem hi']; rfl), Nat.zero_le _, fun p1 hp1 => ⟨by show 2 ≤ sizeLine; decide, fun p2 hp2 => ?_⟩⟩
      have d1 : Dr cs S H' (upd H' p1 (.tup [])) := Dr.new d.st d.tok hp1
      exact z _ (rowT fs[i] []) _ (d1.nw hp2) (Den.tup_ (SqT.of upd_same) (DenL.cons (Den.str_ _ (small (by omega))) (DenL.cons (Den.nt (Kp.new (N := N0) hp2) (Den.tup_ (SqT.of upd_same) DenL.nil)) DenL.nil)))
    refine ⟨D, zs, rfl, .inl ⟨SqL.of hD3', fun tA htA => ?_⟩⟩
    have dr4 : Dr cs S H3 (upd H3 tA (.tup zs)) := Dr.new dr3.st dr3.tok htA
    have dr24 := dr3.trans dr4
    have lzs := dzs.len
    refine cat_rd (cs := cs) (dr24.toKp.sqT (e2.toKp.sqT hS3)) (SqT.of upd_same) dr4.tok (by exact small (by omega)) fun mA H5 e5 h5 => ?_
    have dr25 := dr24.e0 e5
    have dr05 := dr2.trans dr25
    have hm5 : Den K NT H5 (.tup (l ++ ts)) (.ref mA) := Den.tup_ h5 (DenL.append (DenL.nt dr25.toKp (DenL.nt e2.toKp hD3)) (DenL.nt e5.toKp (DenL.nt dr4.toKp dzs)))
    have lmore : (l ++ ts).length = 5 := by rw [List.length_append]; omega
    have hr5 : Den K NT H5 (.tup l) (.ref rA) := Den.tup_ (dr25.toKp.sqT (e2.toKp.sqT hS3)) (DenL.nt dr25.toKp (DenL.nt e2.toKp hD3))
    have hfs5 := dr25.keepL hfs snA
    have rS : N1 S S := rfl
    have sp0 : ∀ {t : T}, isKindT t ks.length = false → Spoils ks.length kk t := fun h => .inl h
    -- the first options
    have o1 := mdl_all (K := K) (cs := cs) (S := S) (N := N1 S) (σ := [some (.ref S), some (.ref a), some (.int kk), some (.str hw), some (.ref rA), some (.ref nA), some (.ref mA), none, none]) (H0 := H5) (P := Spoils ks.length kk) rS
      (mda_cons rS ((md_list2 rS dr25.st.some (md_var (i := 3) rS rfl (Den.str_ hw hwz)) (md_var (i := 4) rS rfl (Den.any hr5))).weak fun t ⟨x, y, e, _⟩ => by rw [e]; exact sp0 rfl)
      (mda_cons rS ((md_single rS (md_var (i := 3) rS rfl (Den.str_ hw hwz))).weak fun t ⟨x, e, h⟩ => by rw [e, h]; exact sp0 rfl)
      (mda_cons rS ((md_triple rS (md_var (i := 3) rS rfl (Den.str_ hw hwz)) (md_var (i := 4) rS rfl (Den.any hr5)) (md_unit rS)).weak fun t ⟨x, y, z, e, h, h2, h3⟩ => by rw [e, h, h2, h3]; exact sp0 rfl)
      (mda_cons rS ((md_pair rS (md_pickA (i := 0) (P := BadHow) rfl rS (mdl_all rS (mda_cons rS ((md_str (s := "Open") (by decide)).weak fun t e => by rw [e]; exact badStr (by decide)) (mda_cons rS ((md_str (s := "close") (by decide)).weak fun t e => by rw [e]; exact badStr (by decide)) (mda_cons rS ((md_str (s := "") (by decide)).weak fun t e => by rw [e]; exact badStr (by decide))
          (mda_cons rS (md_non.weak fun t e => by rw [e]; exact badNon) (mda_cons rS ((md_bl (b := true)).weak fun t e => by rw [e]; exact badBl) (mda_cons rS ((md_int (i := 0)).weak fun t e => by rw [e]; exact badInt) (mda_cons rS ((md_unit rS).weak fun t e => by rw [e]; exact badTup) (mda_cons rS ((md_unitL rS dr25.st.some).weak fun t e => by rw [e]; exact badLst) (mda_cons rS ((md_dct dr25.st.some).weak fun t e => by rw [e]; exact badDct) mda_nil))))))))) (by decide)) (by decide) (by decide))
          (md_var (i := 4) rS rfl (Den.any hr5))).weak fun t ⟨x, y, e, h, _⟩ => by rw [e]; exact sp0 (h _ _)) mda_nil)))) (by decide)
    try dsimp only [gName, tSeq, tAsg]
    refine o1 H5 (Dr.refl dr25.st dr25.tok) _ fun oA os1 ot1 H6 pt1 dr6 hoA hos1 dos1 => ?_
    have hS6 := dr25.st
    have toN : ∀ {H' : Hp}, Dr cs S H5 H' → Den K (N1 S) H' (.tup l) (.ref rA) := fun d => Den.any (Den.nt d.toKp hr5)
    have soA : oA ≠ S := dr25.st.ne hoA
    have hm6 := Den.any (N := N1 S) (Den.nt dr6.toKp hm5)
    have kA : ∀ {H' : Hp}, Den K (N1 S) H' (.int (kk : Int)) (.int kk) := Den.int_ _
    have long : isKindT (.tup [.str hw, .tup (l ++ ts)]) ks.length = false := by
      show (howB hw && ((decide ((0 : Int) ≤ ((l ++ ts).length : Int)) && decide (((l ++ ts).length : Int) ≤ 4)) && _)) = false
      rw [lmore, decide_eq_false (show ¬ ((5 : Nat) : Int) ≤ 4 by decide), Bool.and_false, Bool.false_and, Bool.and_false]
    have o2 := mdl_catv (K := K) (cs := cs) (S := S) (N := N1 S) (σ := [some (.ref S), some (.ref a), some (.int kk), some (.str hw), some (.ref rA), some (.ref nA), some (.ref mA), some (.ref oA), none]) (H0 := H6) (P := Spoils ks.length kk) (i := 7) (n := 4) (m := 7) rS rfl hos1 soA dos1 pt1
      (mdl_all rS
      (mda_cons rS ((md_pair rS (md_var (i := 3) rS rfl (Den.str_ hw hwz)) (md_listOf (i := 4) rS dr6.st.some rfl (toN dr6))).weak fun t ⟨x, y, e, h, h2⟩ => by rw [e, h, h2]; exact sp0 rfl)
      (mda_cons rS ((md_pair rS (md_var (i := 3) rS rfl (Den.str_ hw hwz)) md_non).weak fun t ⟨x, y, e, h, h2⟩ => by rw [e, h, h2]; exact sp0 rfl)
      (mda_cons rS ((md_pair rS (md_var (i := 3) rS rfl (Den.str_ hw hwz)) (md_dct dr6.st.some)).weak fun t ⟨x, y, e, h, h2⟩ => by rw [e, h, h2]; exact sp0 rfl)
      (mda_cons rS ((md_pair rS (md_var (i := 3) rS rfl (Den.str_ hw hwz)) (md_var (i := 6) rS rfl hm6)).weak fun t ⟨x, y, e, h, h2⟩ => by rw [e, h, h2]; exact sp0 long)
      (mda_cons rS ((md_pair rS (md_str (s := "closed") (by decide)) (md_unit rS)).weak fun t ⟨x, y, e, h, h2⟩ => by rw [e, h, h2]; exact .inr ⟨[], rfl, fun _ z => by cases z⟩)
      (mda_cons rS (md_non.weak fun t e => by rw [e]; exact sp0 rfl)
      (mda_cons rS ((md_var (i := 3) rS rfl (Den.str_ hw hwz)).weak fun t e => by rw [e]; exact sp0 rfl) mda_nil))))))) (by decide)) (by decide)
    try dsimp only [gName, tSeq, tAsg]
    refine o2 H6 (Dr.refl dr6.st dr6.tok) _ fun oB os2 ot2 H7 pt2 dr7 hoB hos2 dos2 => ?_
    have soB : oB ≠ S := dr6.st.ne hoB
    have hfs7 := (dr6.trans dr7).keepL hfs5 snA
    have f0 : fs[0]? = some (fs[0]'(by omega)) := by simp
    have f1 : fs[1]? = some (fs[1]'(by omega)) := List.getElem?_eq_getElem (by omega)
    have z0 : (fs[0]'(by omega)).length ≤ sizeLine := by have := (of_name (fok.ok _ (List.getElem_mem (show 0 < fs.length by omega)))).2.1; exact small (by omega)
    have z1 : (fs[1]'(by omega)).length ≤ sizeLine := by have := (of_name (fok.ok _ (List.getElem_mem (show 1 < fs.length by omega)))).2.1; exact small (by omega)
    have o3 := mdl_catv (K := K) (cs := cs) (S := S) (N := N1 S) (σ := [some (.ref S), some (.ref a), some (.int kk), some (.str hw), some (.ref rA), some (.ref nA), some (.ref mA), some (.ref oB), none]) (H0 := H7) (P := Spoils ks.length kk) (i := 7) (n := 11) (m := 2) rS rfl hos2 soB dos2 pt2
      (mdl_all rS
      (mda_cons rS ((md_pair rS (md_str (s := "closed") (by decide)) (md_single rS (md_pair rS (md_ixS (i := 5) (j := 0) rfl hfs7 snA f0 z0) (md_single rS (md_var (i := 2) rS rfl kA))))).weak fun t ⟨x, y, e, h, r, e2, n0, p0, e3, h3, q, e4, h4⟩ => by
        rw [e, h, e2, e3, h3, e4, h4]
        exact .inr ⟨_, rfl, fun c hc => by rw [List.mem_singleton.mp hc]; exact List.mem_cons_self⟩)
      (mda_cons rS ((md_pair rS (md_str (s := "closed") (by decide)) (md_pair rS (md_pair rS (md_ixS (i := 5) (j := 0) rfl hfs7 snA f0 z0) (md_pair rS (md_var (i := 2) rS rfl kA) (md_var (i := 2) rS rfl kA))) (md_pair rS (md_ixS (i := 5) (j := 1) rfl hfs7 snA f1 z1) (md_single rS (md_var (i := 2) rS rfl kA))))).weak
        fun t ⟨x, y, e, h, r1, r2, e2, ⟨n0, p0, e3, h3, q1, q2, e4, h4, h5⟩, ⟨n1, p1, e5, h6, q3, e6, h7⟩⟩ => by
        rw [e, h, e2, e3, h3, e4, h4, h5, e5, h6, e6, h7]
        exact .inr ⟨_, rfl, fun c hc => by
          rcases List.mem_cons.mp hc with rfl | hc
          · exact List.mem_cons_self
          · rw [List.mem_singleton.mp hc]; exact List.mem_cons_self⟩) mda_nil)) (by decide)) (by decide)
    refine o3 H7 (Dr.refl dr7.st dr7.tok) _ fun oC os3 ot3 H8 pt3 dr8 hoC hos3 dos3 => ?_
    have soC : oC ≠ S := dr7.st.ne hoC
    have hfs8 := dr8.keepL hfs7 snA
    have o4 := md_pickA (i := 0) (n := 15) rfl rS (mdl_catv (K := K) (cs := cs) (S := S) (N := N1 S) (σ := [some (.ref S), some (.ref a), some (.int kk), some (.str hw), some (.ref rA), some (.ref nA), some (.ref mA), some (.ref oC), none]) (H0 := H8) (P := Spoils ks.length kk) (i := 7) (n := 13) (m := 2) rS rfl hos3 soC dos3 pt3
      (mdl_all rS
      (mda_cons rS ((md_pair rS (md_var (i := 3) rS rfl (Den.str_ hw hwz)) (md_ixS (i := 5) (j := 0) rfl hfs8 snA f0 z0)).weak fun t ⟨x, y, e, h, h2⟩ => by rw [e, h, h2]; exact sp0 rfl)
      (mda_cons rS ((md_pair rS (md_var (i := 3) rS rfl (Den.str_ hw hwz)) (md_single rS (md_ixS (i := 5) (j := 0) rfl hfs8 snA f0 z0))).weak fun t ⟨x, y, e, h, r, e2, h2⟩ => by
        rw [e, h, e2, h2]
        refine sp0 ?_
        show (howB hw && (isTupT _ 0 4 && (false && true))) = false
        rw [Bool.false_and, Bool.and_false, Bool.and_false]) mda_nil)) (by decide)) (by decide)) (by decide) (by decide)
    have d58 := dr6.trans (dr7.trans dr8)
    have d28 := dr25.trans d58
    refine ⟨_, rfl, _, rfl, md_one o4 (Dr.refl dr8.st dr8.tok) fun r t H9 sp dr9 dt => ?_⟩
    have d09 := dr2.trans (d28.trans dr9)
    refine ⟨_, r, ks, t, N1 S, kk, rfl, hkl, h3, Den.any (Den.nt d09.toKp hd), dt, dr9.tok, fun p H' e d' => ?_⟩
    exact k p _ H' (spoils_sig hkl sp) (d09.e0 e) d'
end
end LW
namespace LW
open PySem PySem.Spec PyProof.Rows L2 GxR FW GA EN SL
def SpR (n : Int) (used : List Str) (r : T) : Prop := isConsT r n = false ∨ ∃ s ∈ used, r = rowT s []
theorem spoilt_cons {ks : List T} {k i : Nat} {hw : Str} {l : List T} {r : T} {used : List Str} (hk : ks[k]? = some (kindT hw l))
    (hu : ∀ s ∈ used, s ∈ (l.take 3).map cNameT ∨ ∃ (j : Nat) (t : T), j ≠ k ∧ ks[j]? = some t ∧ s ∈ (kConsT t).map cNameT) (hr : SpR ks.length used r) :
    isSigT (.tup (ks.set k (kindT hw ((l.take 3).take i ++ [r] ++ (l.take 3).drop i)))) = false := by
  refine Bool.eq_false_iff.mpr fun e => ?_
  obtain ⟨ks', e', h1, h3, hf, nd, gd⟩ := of_isSig e
  have e' := T.tup.inj e'
  subst e'
  have hl : (ks.set k (kindT hw ((l.take 3).take i ++ [r] ++ (l.take 3).drop i))).length = ks.length := List.length_set
  have hkl : k < ks.length := (List.getElem?_eq_some_iff.mp hk).1
  have hkt : (ks.set k (kindT hw ((l.take 3).take i ++ [r] ++ (l.take 3).drop i)))[k]? = some (kindT hw ((l.take 3).take i ++ [r] ++ (l.take 3).drop i)) := List.getElem?_set_self hkl
  have form := hf _ (List.mem_of_getElem? hkt)
  rw [hl] at form
  rcases hr with hr | ⟨s, hs, rfl⟩
  · obtain ⟨s', l', e2, _, _, hc⟩ := kindForm form
    have e3 := T.tup.inj e2
    have e4 := T.tup.inj (List.cons.inj (List.cons.inj e3).2).1
    have := hc r (by rw [← e4]; simp)
    rw [hr] at this
    cases this
  · unfold namesT at nd
    unfold List.Nodup at nd
    rw [List.pairwise_flatMap] at nd
    obtain ⟨n1, n2⟩ := nd
    have inner := n1 _ (List.mem_of_getElem? hkt)
    have inner : ((((l.take 3).take i ++ [rowT s []]) ++ (l.take 3).drop i).map cNameT).Nodup := inner
    rw [List.map_append, List.map_append, List.nodup_append, List.nodup_append] at inner
    obtain ⟨⟨_, _, i3⟩, _, i4⟩ := inner
    rcases hu s hs with h | ⟨j, t, hj, ht, h⟩
    · rw [← List.take_append_drop i (l.take 3), List.map_append] at h
      rcases List.mem_append.mp h with h | h
      · exact i3 s h s (by show s ∈ [s]; simp) rfl
      · exact i4 s (List.mem_append_right _ (by show s ∈ [s]; simp)) s h rfl
    · have hjt : (ks.set k (kindT hw ((l.take 3).take i ++ [rowT s []] ++ (l.take 3).drop i)))[j]? = some t := by rw [List.getElem?_set_ne (fun z => hj z.symm)]; exact ht
      have sk : s ∈ (kConsT (kindT hw ((l.take 3).take i ++ [rowT s []] ++ (l.take 3).drop i))).map cNameT := by
        show s ∈ ((l.take 3).take i ++ [rowT s []] ++ (l.take 3).drop i).map cNameT
        rw [List.map_append, List.map_append]
        exact List.mem_append_left _ (List.mem_append_right _ (by show s ∈ [s]; simp))
      rw [List.pairwise_iff_getElem] at n2
      obtain ⟨b1, c1⟩ := List.getElem?_eq_some_iff.mp hjt
      obtain ⟨b2, c2⟩ := List.getElem?_eq_some_iff.mp hkt
      rcases Nat.lt_or_gt_of_ne hj with lt | lt
      · exact n2 j k b1 b2 lt s (by rw [c1]; exact h) s (by rw [c2]; exact sk) rfl
      · exact n2 k j b2 b1 lt s (by rw [c2]; exact sk) s (by rw [c1]; exact h) rfl
theorem bad_name {t : T} {n : Int} (h : isNameT t = false) : isConsT (.tup [t, .tup []]) n = false := by
  show (isNameT t && _) = false
  rw [h]; rfl
theorem bad_parts {t s : T} {n : Int} (h : arePartsT t n = false) : isConsT (.tup [s, t]) n = false := by
  show (isNameT s && arePartsT t n) = false
  rw [h, Bool.and_false]
theorem parts_all {l : List T} {n : Int} (t : T) (ht : t ∈ l) (h : isIndexT t n = false) : arePartsT (.tup l) n = false := by
  show (isTupT (.tup l) 0 2 && l.all fun u => isIndexT u n) = false
  rw [Bool.and_eq_false_iff]
  refine .inr (Bool.eq_false_iff.mpr fun e => ?_)
  rw [List.all_eq_true] at e
  have := e t ht
  rw [h] at this
  cases this
theorem parts_len {l : List T} {n : Int} (h : 2 < l.length) : arePartsT (.tup l) n = false := by
  show ((decide ((0 : Int) ≤ (l.length : Int)) && decide ((l.length : Int) ≤ 2)) && _) = false
  rw [decide_eq_false (show ¬ (l.length : Int) ≤ 2 by omega), Bool.and_false, Bool.false_and]
theorem shaped_strs {ss : List Str} (h : ∀ s ∈ ss, nameB s = true) : SeqAt.shaped (.list (ss.map PyData.str)) = true := by
  have h1 : ∀ l : List Str, (∀ s ∈ l, nameB s = true) → PyData.canLayAll0 (l.map PyData.str) = true := fun l => by
    induction l with
    | nil => intro _; rfl
    | cons x l ih =>
      intro h
      show (PyData.strOk x && _) = true
      rw [ih fun s hs => h s (List.mem_cons_of_mem _ hs), Bool.and_true]
      have := (of_name (h x List.mem_cons_self)).2.2
      unfold wordB at this
      rw [List.all_eq_true] at this
      unfold PyData.strOk
      rw [Array.all_eq_true]
      intro i hi
      have := this (x.cps[i]) (by simp)
      unfold letterB at this
      rw [Bool.and_eq_true, decide_eq_true_eq, decide_eq_true_eq] at this
      exact decide_eq_true (by omega)
  have h2 : ∀ l : List Str, PyData.depthAll (l.map PyData.str) = 0 := fun l => by
    induction l with
    | nil => rfl
    | cons x l ih => show max 0 _ = 0; rw [ih]; rfl
  show (PyData.canLayAll0 _ && decide (PyData.depthAll _ + 1 ≤ 64)) = true
  rw [h1 ss h, h2]; rfl
theorem dp_strs {K : PySem.W.Frag} {H : Hp} : ∀ ss : List Str, DpAll K H (ss.map V.str) (ss.map PyData.str)
  | [] => .nil
  | m :: ms => .cons (.str m) (dp_strs ms)
/-- [e for x in l], l a list of trees -/
theorem lc_lstT {K : PySem.W.Frag} {cs : List (Addr × Addr)} {S D a : Addr} {N : Addr → Prop} {H1 : Hp} {g : TG} {te : TE} {vs : List Nat} {σ : L2.St} {xs : List V} {ts : List T} {Qd : Hp → Prop} (R : T → Prop) (hS : N S) (ha : H1 a = some (.lst xs)) (nS : a ≠ S) (dl : DenL K N H1 ts xs) (hst : StOk H1 S) (tok : TOk cs H1) (hn : H1 D = none) (hl : ts.length < sizeLine)
    (hs : ∀ x t H', t ∈ ts → Dr cs S H1 H' → Den K (fun b => N b ∨ b = D) H' t x → ∀ Q' : VK, (∀ v u H'', R u → Dr cs S H' H'' → Den K (fun b => N b ∨ b = D) H'' u v → Q' v H'') → g x (wipe σ vs) H' fun σ2 H3 => wipe σ2 vs = wipe σ vs ∧ te σ2 H3 Q')
    (hd : ∀ H' zs us, Dr cs S H1 H' → H' D = some (.lst zs) → DenL K N H' us zs → AllP R ts.length us → Qd H') :
    ∃ W : Nat → Nat → Hp → Prop, (∃ m, W 0 m (upd H1 D (.lst []))) ∧ ∀ i m H, W i m H →
      ((Itl K a).stop i H ∧ Qd H) ∨ ((Itl K a).go i H ∧ ∃ Nx : Hp → Prop, (∀ H', Nx H' → ∃ m', m' < m ∧ W (i + 1) m' H') ∧ ∀ x H', (Itl K a).yld i H x H' → g x (wipe σ vs) H' fun σ2 H2 => wipe σ2 vs = wipe σ vs ∧ tYes σ2 H2 fun b H3 =>
        if b = true then te σ2 H3 fun y H4 => ∃ acc, H4 D = some (.lst acc) ∧ acc.length < sizeLine ∧ Nx (upd H4 D (.lst (acc ++ [y]))) else Nx H3) := by
  have nD := hst.ne hn
  have naD := ne_of_none ha hn
  have dl' : DenL K (fun b => N b ∨ b = D) H1 ts xs := DenL.avoid (fun b z => z.elim .inl fun z => .inr (by rw [z]; exact hn)) _ _ dl
  refine lc_list (K := K) (a := a) (xs := xs) (fun i H => Dr cs S H1 H ∧ ∃ zs us, H D = some (.lst zs) ∧ DenL K (fun b => N b ∨ b = D) H us zs ∧ AllP R i us) ⟨Dr.new hst tok hn, [], [], upd_same, DenL.nil, rfl, fun _ z => by cases z⟩ (fun i H _ p => SqL.of (p.1.keepL ha nS)) (fun i x H hx p => ?_) fun H p => ?_
  · obtain ⟨p1, zs, us, p2, p3, p4, p5⟩ := p
    obtain ⟨t, ht, dt⟩ := (DenL.drN (N := fun b => N b ∨ b = D) (.inl hS) p1 dl').get hx
    have hi : i < ts.length := (List.getElem?_eq_some_iff.mp ht).1
    refine hs x t H (List.mem_of_getElem? ht) p1 dt (fun y H4 => ∃ acc, H4 D = some (.lst acc) ∧ acc.length < sizeLine ∧ (Dr cs S H1 (upd H4 D (.lst (acc ++ [y]))) ∧ ∃ zs us, (upd H4 D (.lst (acc ++ [y]))) D = some (.lst zs) ∧ DenL K (fun b => N b ∨ b = D) (upd H4 D (.lst (acc ++ [y]))) us zs ∧ AllP R (i + 1) us)) fun v u H'' r d dv => ?_
    have e1 := d.keepL p2 nD
    have ln := p3.len
    have kp : Kp (fun b => N b ∨ b = D) H'' (upd H'' D (.lst (zs ++ [v]))) := Kp.put e1 (.inr rfl)
    refine ⟨_, e1, by omega, (p1.trans d).put hst hn e1, _, us ++ [u], upd_same, DenL.kp kp _ _ (DenL.append (DenL.drN (N := fun b => N b ∨ b = D) (.inl hS) d p3) (DenL.cons dv DenL.nil)), by rw [List.length_append, p4]; rfl, fun w hw => ?_⟩
    rcases List.mem_append.mp hw with hw | hw
    · exact p5 w hw
    · rw [List.mem_singleton.mp hw]; exact r
  · obtain ⟨p1, zs, us, p2, p3, p4⟩ := p
    rw [dl.len] at p4
    exact hd H zs us p1 p2 (DenL.less (fun b z => .inl z) _ _ p3) p4
end LW
namespace LW
open PySem PySem.Spec PyProof.Rows L2 GxR FW GA EN SL
theorem nb0 : nameB "q" = false := by decide +kernel
theorem nb1 : nameB "" = false := by decide +kernel
theorem nb2 : nameB "qqqqqqqqq" = false := by decide +kernel
theorem nb3 : nameB "Qq" = false := by decide +kernel
theorem nb4 : nameB "q1" = false := by decide +kernel
theorem nb5 : nameB "q q" = false := by decide +kernel
theorem nb6 : nameB "#q" = false := by decide +kernel
theorem nb7 : nameB "qQ" = false := by decide +kernel
theorem nb8 : nameB "qa\n" = false := by decide +kernel
theorem go_next2 {i : Nat} {x : V} {σ σ' : L2.St} {H : Hp} {te : TE} {j : Nat} {s2 : TS} {D : Ends} {rt : VK} {bk ct : L2.St → Hp → Prop} (e : σ.set i (some x) = σ') (h : te σ' H fun y H1 => gName j y σ' H1 (Ends.mk (s2 D) rt bk ct).nx) : gName i x σ H (Ends.mk (tSeq (tAsg te (gName j)) s2 D) rt bk ct).nx := by
  subst e
  exact h
theorem cut_take (xs : List V) (i : Nat) : cutV xs none (some (i : Int)) = xs.take i := by
  unfold cutV
  rw [HT.sIx_none, HT.sIx_nat, Nat.sub_zero, List.drop_zero]
  by_cases h : i ≤ xs.length
  · rw [Nat.min_eq_left h]
  · rw [Nat.min_eq_right (by omega), List.take_length, List.take_of_length_le (by omega)]
section
variable {K : PySem.W.Frag} {cs : List (Addr × Addr)} {S : Addr} {N : Addr → Prop} {σ : L2.St} {H0 : Hp}
theorem md_len {i : Nat} {v : V} {ts : List T} (hS : N S) (hs : σ[i]? = some (some v)) (hd : Den K NT H0 (.tup ts) v) :
    MD K cs S N (tCB (fun xs H Q => ∃ p ys, xs = [.ref p] ∧ (SqL K H p ys ∨ SqT K H p ys) ∧ Q (.int ys.length) H) (tCons (tVar i) tNil)) σ H0 (· = .int ts.length) := fun H d Q k => by
  have hd := Den.nt d.toKp hd
  unfold Den at hd
  obtain ⟨a, xs, rfl, hq, dl⟩ := hd
  refine ⟨_, hs, a, xs, rfl, .inr hq, ?_⟩
  rw [dl.len]
  exact k _ _ H rfl (Dr.refl d.st d.tok) (Den.int_ _)
theorem md_neg1 : MD K cs S N (tUn (rU fun i => .int (-i)) (tC (.int 1))) σ H0 (· = .int (-1)) := fun H d Q k => ⟨1, rfl, k _ _ H rfl (Dr.refl d.st d.tok) (Den.int_ _)⟩
end
section
variable {P : Program} {w : World} {K : PySem.W.Frag} {mg : Str → Option Value} {base : Heap} {cs : List (Addr × Addr)}
theorem ok__law_spoilt_constructor {f : Addr} {fd : FuncData} (F : Fun K "_law_spoilt_constructor" "_law_spoilt_constructor" s__law_spoilt_constructor f fd) (G : Glo mg) (D1 : Df P w K mg base 1 "_law_next" P__law_next (spNext cs)) (D2 : Df P w K mg base 2 "_law_pick" P__law_pick (spPick K cs))
    (D3 : Df P w K mg base 1 "_law_fresh" P__law_fresh (spFresh K cs)) (D4 : Df P w K mg base 1 "_law_with_kind" P__law_with_kind (spWith K cs)) (D5 : Df P w K mg base 2 "_law_put_in" P__law_put_in (spPut K cs)) : FnOk P w K mg base CX0 3 f fd P__law_spoilt_constructor (spSpoil K cs) := by
  refine F.ok sc__law_spoilt_constructor (fun vs H Q E h => ?_) (fun cdv A outer s H vs Q E hr h => ?_)
  · obtain ⟨S, v, ks, rfl, _⟩ := h
    rfl
  · obtain ⟨S, v, ks, rfl, hst, ho, hsig, hd, k⟩ := h
    refine ⟨_, pss_cons (ps_set (i := 2) sc__law_spoilt_constructor.nd rfl (.inl rfl) (pe_df D1 hr (pa_cons (pv 0) (pa_cons (pe_callB call_len_seq (by rfl) G.len boot_len (pa_cons (pv 1) pa_nil)) pa_nil))))
      (pss_cons (ps_asg (pe_ix ix_tup (pv 1) (pv 2) (fun _ _ => rfl)) (pg_tup rfl (pgs_cons (pg_name (i := 3) sc__law_spoilt_constructor.nd rfl (.inl rfl)) (pgs_cons (pg_name (i := 4) sc__law_spoilt_constructor.nd rfl (.inl rfl)) pgs_nil))))
      (pss_cons (ps_set (i := 5) sc__law_spoilt_constructor.nd rfl (.inr rfl) (pe_ix ix_list (pe_df D3 hr (pa_cons (pv 1) pa_nil)) pe_int (fun _ _ => rfl)))
      (pss_cons (ps_set (i := 6) sc__law_spoilt_constructor.nd rfl (.inl rfl) (pe_lst
          (pa_cons pe_str (pa_cons pe_str (pa_cons pe_str (pa_cons pe_str (pa_cons pe_str (pa_cons pe_str (pa_cons pe_str (pa_cons pe_str (pa_cons pe_str (pa_cons pe_non (pa_cons pe_int (pa_cons pe_bl
          (pa_cons (pe_tup (pa_cons (pv 5) pa_nil)) (pa_cons (pe_lst pa_nil) pa_nil))))))))))))))))
      (pss_cons (ps_set (i := 7) sc__law_spoilt_constructor.nd rfl (.inl rfl) (pe_lst
          (pa_cons (pe_tup (pa_cons (pv 2) (pa_cons (pv 2) (pa_cons (pv 2) pa_nil))))
          (pa_cons (pe_tup (pa_cons (pe_callB call_len_seq (by rfl) G.len boot_len (pa_cons (pv 1) pa_nil)) pa_nil))
          (pa_cons (pe_tup (pa_cons (pe_un un_neg pe_int) pa_nil))
          (pa_cons (pe_tup (pa_cons pe_int (pa_cons (pe_callB call_len_seq (by rfl) G.len boot_len (pa_cons (pv 1) pa_nil)) pa_nil)))
          (pa_cons (pe_tup (pa_cons pe_bl pa_nil))
          (pa_cons (pe_tup (pa_cons pe_bl pa_nil))
          (pa_cons (pe_tup (pa_cons pe_str pa_nil))
          (pa_cons (pe_tup (pa_cons pe_non pa_nil))
          (pa_cons (pe_tup (pa_cons (pe_tup (pa_cons pe_int pa_nil)) pa_nil)) pa_nil)))))))))))
      (pss_cons (ps_set (i := 8) sc__law_spoilt_constructor.nd rfl (.inl rfl) (pe_op op_cat
          (pe_lc (own := [("one", 11)]) (g := gName 11) (tt := tYes) (te := tTup (tCons (tVar 11) (tCons (tTup tNil) tNil))) rfl sc__law_spoilt_constructor.nd (pi_list (pv 6)) (blkOk_by (N := N__law_spoilt_constructor) (sc := defScope s__law_spoilt_constructor) (by decide +kernel))
            (fun _ _ _ _ _ => pg_name (i := 11) sc__law_spoilt_constructor.nd rfl (.inl rfl)) (fun _ _ _ _ _ => pts_nil)
            (fun _ _ _ _ _ => pe_tup (pa_cons (pv 11) (pa_cons (pe_tup pa_nil) pa_nil))))
          (pe_lc (own := [("one", 11)]) (g := gName 11) (tt := tYes) (te := tTup (tCons (tVar 5) (tCons (tVar 11) tNil))) rfl sc__law_spoilt_constructor.nd (pi_list (pv 7)) (blkOk_by (N := N__law_spoilt_constructor) (sc := defScope s__law_spoilt_constructor) (by decide +kernel))
            (fun _ _ _ _ _ => pg_name (i := 11) sc__law_spoilt_constructor.nd rfl (.inl rfl)) (fun _ _ _ _ _ => pts_nil)
            (fun _ _ _ _ _ => pe_tup (pa_cons (pv 5) (pa_cons (pv 11) pa_nil))))))
      (pss_cons (ps_set (i := 8) sc__law_spoilt_constructor.nd rfl (.inl rfl) (pe_op op_cat (pv 8) (pe_lst
          (pa_cons (pe_lst (pa_cons (pv 5) (pa_cons (pe_tup pa_nil) pa_nil)))
          (pa_cons (pe_tup (pa_cons (pv 5) pa_nil))
          (pa_cons (pe_tup (pa_cons (pv 5) (pa_cons (pe_tup pa_nil) (pa_cons (pe_tup pa_nil) pa_nil))))
          (pa_cons (pe_tup (pa_cons (pv 5) (pa_cons (pe_lst pa_nil) pa_nil)))
          (pa_cons (pe_tup (pa_cons (pv 5) (pa_cons pe_non pa_nil)))
          (pa_cons (pe_tup (pa_cons (pv 5) (pa_cons pe_int pa_nil)))
          (pa_cons (pe_tup (pa_cons (pv 5) (pa_cons (pe_lst (pa_cons (pv 2) pa_nil)) pa_nil)))
          (pa_cons (pv 5) pa_nil)))))))))))
      (pss_cons (ps_setLc (i := 9) (own := [("row", 12)]) (g := gName 12) (tt := tYes) (te := tOp (rIxT K) (tVar 12) (tC (.int 0))) rfl sc__law_spoilt_constructor.nd rfl rfl (sw_true rfl rfl rfl (by decide +kernel)) (pi_tup (pe_slice sl_tupA (pv 4) po_none (po_some pe_int))) (blkOk_by (N := N__law_spoilt_constructor) (sc := defScope s__law_spoilt_constructor) (by decide +kernel))
            (fun _ _ _ _ _ => pg_name (i := 12) sc__law_spoilt_constructor.nd rfl (.inl rfl)) (fun _ _ _ _ _ => pts_nil)
            (fun _ _ _ _ _ => pe_ix ix_tup (pv 12) pe_int (fun _ _ => rfl)))
      (pss_cons (ps_for PassesOwn.never rfl (pi_range1 (by rfl) G.range (pa_cons (pe_callB call_len_seq (by rfl) G.len boot_len (pa_cons (pv 1) pa_nil)) pa_nil)) (pg_name (i := 10) sc__law_spoilt_constructor.nd rfl (.inl rfl))
          (pss_one (ps_if (pt_cmpR op_ne (pv 10) (pv 2) (nomark _)) (pss_one (ps_set (i := 9) sc__law_spoilt_constructor.nd rfl (.inl rfl) (pe_op op_cat (pv 9)
            (pe_lc (own := [("row", 12)]) (g := gName 12) (tt := tYes) (te := tOp (rIxT K) (tVar 12) (tC (.int 0))) rfl sc__law_spoilt_constructor.nd (pi_tup (pe_ix ix_tup (pe_ix ix_tup (pv 1) (pv 10) (fun _ _ => rfl)) pe_int (fun _ _ => rfl))) (blkOk_by (N := N__law_spoilt_constructor) (sc := defScope s__law_spoilt_constructor) (by decide +kernel))
              (fun _ _ _ _ _ => pg_name (i := 12) sc__law_spoilt_constructor.nd rfl (.inl rfl)) (fun _ _ _ _ _ => pts_nil)
              (fun _ _ _ _ _ => pe_ix ix_tup (pv 12) pe_int (fun _ _ => rfl)))))) pss_nil)))
      (C8.pss_cut (ps_if (PW.pt (pw_and (pt_cmpR (op_neD hr.units) (pv 9) (pe_lst pa_nil) (nomark _)) (pw_and1 (pt_cmpR op_eq (pe_df D1 hr (pa_cons (pv 0) (pa_cons pe_int pa_nil))) pe_int (nomark _)))))
          (pss_one (ps_set (i := 8) sc__law_spoilt_constructor.nd rfl (.inl rfl) (pe_lst (pa_cons (pe_tup (pa_cons (pe_df D2 hr (pa_cons (pv 0) (pa_cons (pv 9) pa_nil))) (pa_cons (pe_tup pa_nil) pa_nil))) pa_nil)))) pss_nil)
      (pss_one (ps_ret (pe_df D4 hr (pa_cons (pv 1) (pa_cons (pv 2) (pa_cons (pe_tup (pa_cons (pv 3) (pa_cons (pe_df D5 hr (pa_cons (pv 0) (pa_cons (pe_slice sl_tupA (pv 4) po_none (po_some pe_int)) (pa_cons (pe_df D2 hr (pa_cons (pv 0) (pa_cons (pv 8) pa_nil))) pa_nil)))) pa_nil))) pa_nil))))))))))))))), ?_⟩
    obtain ⟨ks', eks, h1, h3, hk, hnd, hgd⟩ := of_isSig hsig
    obtain rfl := T.tup.inj eks
    obtain ⟨a, xs, rfl, hS, hD⟩ := (show ∃ a xs, v = .ref a ∧ SqT K H a xs ∧ DenL K NT H ks xs from by unfold Den at hd; exact hd)
    have hlen := hD.len
    refine ⟨_, rfl, _, rfl, a, xs, rfl, .inr hS, S, _, rfl, hst, ho, by omega, by omega, fun d H1 d0 d1 dr1 => ?_⟩
    obtain ⟨kk, rfl⟩ := Int.eq_ofNat_of_zero_le d0
    have hkl : kk < ks.length := by omega
    have hx : xs[kk]? = some (xs[kk]'(by omega)) := by simp
    obtain ⟨t, ht, hdt⟩ := (DenL.nt dr1.toKp hD).get hx
    obtain ⟨hw, l, rfl, hwo, l4, hc⟩ := kindForm (hk t (List.mem_of_getElem? ht))
    obtain ⟨p, y1, y2, ep, hp, hy1, hy2⟩ := den_pair hdt
    unfold Den at hy1
    obtain ⟨rfl, hwz⟩ := hy1
    obtain ⟨rA, ys, rfl, hS3, hD3⟩ := (show ∃ a xs, y2 = .ref a ∧ SqT K H1 a xs ∧ DenL K NT H1 l xs from by unfold Den at hy2; exact hy2)
    have hly := hD3.len
    refine ⟨_, rfl, _, rfl, a, _, _, _, rfl, rfl, dr1.toKp.sqT hS, atI_nat (by rw [hx, ep]), p, _, rfl, hp, rfl, _, _, rfl, _, _, rfl, rfl, ?_⟩
    refine ⟨_, rfl, _, ks, rfl, h3, hk, Den.nt dr1.toKp hd, dr1.tok, fun nA fs H2 e2 hnA hfs fok => ?_⟩
    have dr2 := dr1.e0 e2
    have fl := fok.len
    have f0 : fs[0]? = some (fs[0]'(by omega)) := by simp
    have nm0 : nameB (fs[0]'(by omega)) = true := fok.ok _ (List.getElem_mem (by omega))
    have z0 : (fs[0]'(by omega)).length ≤ sizeLine := by have := (of_name nm0).2.1; exact small (by omega)
    refine ⟨nA, _, _, .str fs[0], rfl, rfl, SqL.of hfs, atI_nat (j := 0) (by rw [List.getElem?_map, f0]; rfl), ?_⟩
    generalize fs[0]'(by omega) = nm at nm0 z0 ⊢
    have rS : N1 S S := rfl
    have hr2 : Den K NT H2 (.tup l) (.ref rA) := Den.nt e2.toKp (Den.tup_ hS3 hD3)
    have hd2 := Den.nt dr2.toKp hd
    have kA : ∀ {H' : Hp}, Den K (N1 S) H' (.int (kk : Int)) (.int kk) := Den.int_ _
    have idxN : isIndexT (.int ks.length) ks.length = false := by
      show (decide ((0 : Int) ≤ (ks.length : Int)) && decide ((ks.length : Int) < (ks.length : Int))) = false
      rw [decide_eq_false (show ¬ ((ks.length : Int) < (ks.length : Int)) by omega), Bool.and_false]
    have idxM : isIndexT (.int (-1)) ks.length = false := by
      show (decide ((0 : Int) ≤ -1) && decide ((-1 : Int) < (ks.length : Int))) = false
      rw [decide_eq_false (show ¬ ((0 : Int) ≤ -1) by omega), Bool.false_and]
    have st : ∀ {s : Str}, s.length ≤ sizeLine → nameB s = false → MD K cs S (N1 S) (tC (.str s)) [some (.ref S), some (.ref a), some (.int kk), some (.str hw), some (.ref rA), some (.str nm), none, none, none, none, none, none, none] H2 (fun t => isNameT t = false) := fun hz hb => (md_str hz).weak fun t e => by rw [e]; exact hb
    have o1 := mdl_all (K := K) (cs := cs) (S := S) (N := N1 S) (σ := [some (.ref S), some (.ref a), some (.int kk), some (.str hw), some (.ref rA), some (.str nm), none, none, none, none, none, none, none]) (H0 := H2) (P := fun t => isNameT t = false) rS
      (mda_cons rS (st (s := "q") (by decide) nb0) (mda_cons rS (st (s := "") (by decide) nb1) (mda_cons rS (st (s := "qqqqqqqqq") (by decide) nb2) (mda_cons rS (st (s := "Qq") (by decide) nb3) (mda_cons rS (st (s := "q1") (by decide) nb4)
      (mda_cons rS (st (s := "q q") (by decide) nb5) (mda_cons rS (st (s := "#q") (by decide) nb6) (mda_cons rS (st (s := "qQ") (by decide) nb7) (mda_cons rS (st (s := "qa\n") (by decide) nb8)
      (mda_cons rS (md_non.weak fun t e => by rw [e]; rfl) (mda_cons rS ((md_int (i := 5)).weak fun t e => by rw [e]; rfl) (mda_cons rS ((md_bl (b := true)).weak fun t e => by rw [e]; rfl)
      (mda_cons rS ((md_single rS (md_var (i := 5) rS rfl (Den.str_ nm z0))).weak fun t ⟨x, e, _⟩ => by rw [e]; rfl) (mda_cons rS ((md_unitL rS dr2.st.some).weak fun t e => by rw [e]; rfl) mda_nil)))))))))))))) (by decide)
    refine go_next2 (σ' := [some (.ref S), some (.ref a), some (.int kk), some (.str hw), some (.ref rA), some (.str nm), none, none, none, none, none, none, none]) ?_ ?_
    · rfl
    refine o1 H2 (Dr.refl dr2.st dr2.tok) _ fun wA ws wt H3 pw dr3 hwA hws dws => ?_
    have swA := dr2.st.ne hwA
    have vi : ∀ {H' : Hp}, MD K cs S (N1 S) (tVar 2) [some (.ref S), some (.ref a), some (.int kk), some (.str hw), some (.ref rA), some (.str nm), some (.ref wA), none, none, none, none, none, none] H' (· = .int kk) := md_var (i := 2) rS rfl kA
    have o2 := mdl_all (K := K) (cs := cs) (S := S) (N := N1 S) (σ := [some (.ref S), some (.ref a), some (.int kk), some (.str hw), some (.ref rA), some (.str nm), some (.ref wA), none, none, none, none, none, none]) (H0 := H3) (P := fun t => arePartsT t ks.length = false) rS
      (mda_cons rS ((md_triple rS vi vi vi).weak fun t ⟨x, y, z, e, _⟩ => by rw [e]; exact parts_len (by show 2 < 3; decide))
      (mda_cons rS ((md_single rS (md_len (i := 1) rS rfl (Den.nt dr3.toKp hd2))).weak fun t ⟨x, e, h⟩ => by rw [e, h]; exact parts_all _ List.mem_cons_self idxN)
      (mda_cons rS ((md_single rS md_neg1).weak fun t ⟨x, e, h⟩ => by rw [e, h]; exact parts_all _ List.mem_cons_self idxM)
      (mda_cons rS ((md_pair rS (md_int (i := 0)) (md_len (i := 1) rS rfl (Den.nt dr3.toKp hd2))).weak fun t ⟨x, y, e, h, h'⟩ => by rw [e, h']; exact parts_all _ (List.mem_cons_of_mem _ List.mem_cons_self) idxN)
      (mda_cons rS ((md_single rS (md_bl (b := true))).weak fun t ⟨x, e, h⟩ => by rw [e, h]; exact parts_all _ List.mem_cons_self rfl)
      (mda_cons rS ((md_single rS (md_bl (b := false))).weak fun t ⟨x, e, h⟩ => by rw [e, h]; exact parts_all _ List.mem_cons_self rfl)
      (mda_cons rS ((md_single rS (md_str (s := "0") (by decide))).weak fun t ⟨x, e, h⟩ => by rw [e, h]; exact parts_all _ List.mem_cons_self rfl)
      (mda_cons rS ((md_single rS md_non).weak fun t ⟨x, e, h⟩ => by rw [e, h]; exact parts_all _ List.mem_cons_self rfl)
      (mda_cons rS ((md_single rS (md_single rS (md_int (i := 0)))).weak fun t ⟨x, e, y, h, h2⟩ => by rw [e, h]; exact parts_all _ List.mem_cons_self rfl) mda_nil))))))))) (by decide)
    refine go_next2 (σ' := [some (.ref S), some (.ref a), some (.int kk), some (.str hw), some (.ref rA), some (.str nm), some (.ref wA), none, none, none, none, none, none]) ?_ ?_
    · rfl
    refine o2 H3 (Dr.refl dr3.st dr3.tok) _ fun pA ps pt H4 pp dr4 hpA hps dps => ?_
    have spA := dr3.st.ne hpA
    have hws4 := dr4.keepL hws swA
    have dws4 := DenL.drN rS dr4 dws
    have dr04 := dr2.trans (dr3.trans dr4)
    refine ⟨_, rfl, wA, rfl, ⟨_, SqL.of hws4⟩, fun c1 hc1 => ?_⟩
    refine lc_lstT (K := K) (N := N1 S) (ts := wt) (fun u => isConsT u ks.length = false) rS hws4 swA dws4 dr4.st dr4.tok hc1 (by rw [pw.1]; decide) (fun x t H' htm d dt Q' z => ⟨rfl, ?_⟩) fun H5 zs1 us1 dr5 hz1 dz1 pu1 => ?_
    · refine ⟨_, rfl, Nat.zero_le _, fun q1 hq1 => ⟨by show 2 ≤ sizeLine; decide, fun q2 hq2 => ?_⟩⟩
      have d1 : Dr cs S H' (upd H' q1 (.tup [])) := Dr.new d.st d.tok hq1
      have d2 := d1.nw hq2 (o := .tup [x, .ref q1])
      exact z _ (.tup [t, .tup []]) _ (bad_name (pw.2 t htm)) d2 (Den.tup_ (SqT.of upd_same) (DenL.cons (Den.drN (.inl rS) d2 dt) (DenL.cons (Den.any (Den.nt (Kp.new (N := N0) hq2) (Den.tup_ (SqT.of upd_same) DenL.nil))) DenL.nil)))
    have hps5 := dr5.keepL hps spA
    have dps5 := DenL.drN rS dr5 dps
    have sc1 := dr4.st.ne hc1
    refine ⟨_, rfl, pA, rfl, ⟨_, SqL.of hps5⟩, fun c2 hc2 => ?_⟩
    refine lc_lstT (K := K) (N := N1 S) (ts := pt) (fun u => isConsT u ks.length = false) rS hps5 spA dps5 dr5.st dr5.tok hc2 (by rw [pp.1]; decide) (fun x t H' htm d dt Q' z => ⟨rfl, ?_⟩) fun H6 zs2 us2 dr6 hz2 dz2 pu2 => ?_
    · refine ⟨_, rfl, _, rfl, by show 2 ≤ sizeLine; decide, fun q1 hq1 => ?_⟩
      have d1 : Dr cs S H' (upd H' q1 (.tup [.str nm, x])) := Dr.new d.st d.tok hq1
      exact z _ (.tup [.str nm, t]) _ (bad_parts (pp.2 t htm)) d1 (Den.tup_ (SqT.of upd_same) (DenL.cons (Den.str_ nm z0) (DenL.cons (Den.drN (.inl rS) d1 dt) DenL.nil)))
    have hz1' := dr6.keepL hz1 sc1
    have dz1' := DenL.drN rS dr6 dz1
    rw [pw.1] at pu1
    rw [pp.1] at pu2
    refine ⟨c1, c2, _, _, rfl, rfl, hz1', hz2, by rw [dz1'.len, dz2.len, pu1.1, pu2.1]; decide, fun oA hoA => ?_⟩
    have dr7 : Dr cs S H6 (upd H6 oA (.lst (zs1 ++ zs2))) := Dr.new dr6.st dr6.tok hoA
    have soA := dr6.st.ne hoA
    have pu : AllP (fun u => isConsT u ks.length = false) 23 (us1 ++ us2) := ⟨by rw [List.length_append, pu1.1, pu2.1], fun u hu => (List.mem_append.mp hu).elim (pu1.2 u) (pu2.2 u)⟩
    obtain ⟨H7, eH7⟩ : ∃ H7, H7 = upd H6 oA (.lst (zs1 ++ zs2)) := ⟨_, rfl⟩
    have du : DenL K (N1 S) H7 (us1 ++ us2) (zs1 ++ zs2) := by rw [eH7]; exact DenL.append (DenL.drN rS dr7 dz1') (DenL.drN rS dr7 dz2)
    have hoA7 : H7 oA = some (.lst (zs1 ++ zs2)) := by rw [eH7, upd_same]
    rw [← eH7] at dr7 ⊢
    have dr07 := dr04.trans (dr5.trans (dr6.trans dr7))
    have vn : ∀ {H' : Hp}, MD K cs S (N1 S) (tVar 5) [some (.ref S), some (.ref a), some (.int kk), some (.str hw), some (.ref rA), some (.str nm), some (.ref wA), some (.ref pA), some (.ref oA), none, none, none, none] H' (· = .str nm) := md_var (i := 5) rS rfl (Den.str_ nm z0)
    have o3 := mdl_catv (K := K) (cs := cs) (S := S) (N := N1 S) (σ := [some (.ref S), some (.ref a), some (.int kk), some (.str hw), some (.ref rA), some (.str nm), some (.ref wA), some (.ref pA), some (.ref oA), none, none, none, none]) (H0 := H7) (P := fun u => isConsT u ks.length = false) (i := 8) (n := 23) (m := 8) rS rfl hoA7 soA du pu
      (mdl_all rS
      (mda_cons rS ((md_list2 rS dr7.st.some vn (md_unit rS)).weak fun t ⟨x, y, e, _⟩ => by rw [e]; rfl)
      (mda_cons rS ((md_single rS vn).weak fun t ⟨x, e, _⟩ => by rw [e]; rfl)
      (mda_cons rS ((md_triple rS vn (md_unit rS) (md_unit rS)).weak fun t ⟨x, y, z, e, _⟩ => by rw [e]; rfl)
      (mda_cons rS ((md_pair rS vn (md_unitL rS dr7.st.some)).weak fun t ⟨x, y, e, h, h2⟩ => by rw [e, h2]; exact bad_parts rfl)
      (mda_cons rS ((md_pair rS vn md_non).weak fun t ⟨x, y, e, h, h2⟩ => by rw [e, h2]; exact bad_parts rfl)
      (mda_cons rS ((md_pair rS vn (md_int (i := 0))).weak fun t ⟨x, y, e, h, h2⟩ => by rw [e, h2]; exact bad_parts rfl)
      (mda_cons rS ((md_pair rS vn ((mdl_tree dr7.st.some (md_lst rS (md_cons rS (md_var (i := 2) rS rfl kA) md_nil) fun ts ⟨t, us, e, _, e2⟩ => by rw [e, e2]; exact Nat.le_of_ble_eq_true rfl)))).weak fun t ⟨x, y, e, h, ts, h2, _⟩ => by rw [e, h2]; exact bad_parts rfl)
      (mda_cons rS (vn.weak fun t e => by rw [e]; rfl) mda_nil)))))))) (by decide)) (by decide)
    refine go_next2 (σ' := [some (.ref S), some (.ref a), some (.int kk), some (.str hw), some (.ref rA), some (.str nm), some (.ref wA), some (.ref pA), some (.ref oA), none, none, none, none]) ?_ ?_
    · rfl
    refine o3 H7 (Dr.refl dr7.st dr7.tok) _ fun oB os3 ot3 H8 pt3 dr8 hoB hos3 dos3 => ?_
    have soB := dr7.st.ne hoB
    have dr08 := dr07.trans dr8
    have d28 := dr3.trans (dr4.trans (dr5.trans (dr6.trans (dr7.trans dr8))))
    have hr8 : Den K NT H8 (.tup l) (.ref rA) := Den.nt d28.toKp hr2
    have hd8 := Den.nt dr08.toKp hd
    obtain ⟨rA', ys8, er, hS8, hD8⟩ := (show ∃ a xs, V.ref rA = .ref a ∧ SqT K H8 a xs ∧ DenL K NT H8 l xs from by unfold Den at hr8; exact hr8)
    cases er
    have ly8 := hD8.len
    refine ⟨_, rfl, _, rfl, cut_rd (cs := cs) hS8 dr8.tok fun p3 H9 e9 h9 => ⟨p3, rfl, ⟨_, h9⟩, fun uA huA => ?_⟩⟩
    rw [show (3 : Int) = ((3 : Nat) : Int) from rfl, cut_take] at h9
    have dl9 : DenL K NT H9 (l.take 3) (ys8.take 3) := DenL.nt e9.toKp (DenL.take 3 hD8)
    have cons9 : ∀ c ∈ l.take 3, isConsT c ks.length = true := fun c hc' => hc c (List.mem_of_mem_take hc')
    refine lc_map (N := NT) (fun c => .str (cNameT c)) h9 dl9 e9.tok huA (by rw [List.length_take]; exact small1000 (by omega)) (fun x c Hy acc hcl hx' tk' hDc kp Q' z => ⟨rfl, ?_⟩) fun H10 tk10 kp10 hD10 => ?_
    · obtain ⟨sn, pl, rfl, _, _, _⟩ := consForm (cons9 c hcl)
      obtain ⟨pc, z1, z2, rfl, hpc, hz1, hz2⟩ := den_pair hx'
      unfold Den at hz1
      obtain ⟨rfl, _⟩ := hz1
      exact ⟨_, rfl, pc, _, _, _, rfl, rfl, hpc, atI_nat (j := 0) rfl, z Hy (Ex.refl tk')⟩
    have d810 : Dr cs S H8 H10 := Dr.of0 dr8.st (e9.trans ⟨kp10, tk10⟩)
    have dr010 := dr08.trans d810
    have fuA : H8 uA = none := e9.stay _ huA
    have hnames : ∀ c ∈ l, nameB (cNameT c) = true := fun c hcl => by
      obtain ⟨sn, pl, rfl, h, _, _⟩ := consForm (hc c hcl)
      exact h
    have hu0 : H10 uA = some (.lst (((l.take 3).map cNameT).map V.str)) := by rw [hD10, List.map_map]; rfl
    have hd10 := Den.nt d810.toKp hd8
    obtain ⟨a', xs10, ea, hSa, hDa⟩ := (show ∃ a' xs, V.ref a = .ref a' ∧ SqT K H10 a' xs ∧ DenL K NT H10 ks xs from by unfold Den at hd10; exact hd10)
    cases ea
    have lx10 := hDa.len
    refine ⟨_, rfl, a, xs10, rfl, .inr hSa, _, rfl, by omega, by omega, ?_⟩
    rw [Int.toNat_natCast]
    refine for_range (n := xs10.length) (fun j σ H' => ∃ (used : List Str) (uA : Addr) (x10 : Option V), σ = [some (.ref S), some (.ref a), some (.int kk), some (.str hw), some (.ref rA), some (.str nm), some (.ref wA), some (.ref pA), some (.ref oB), some (.ref uA), x10, none, none] ∧ Dr cs S H8 H' ∧ H8 uA = none ∧ H' uA = some (.lst (used.map V.str)) ∧ used.length ≤ 4 + 4 * j ∧
        (∀ s ∈ used, nameB s = true) ∧ ∀ s ∈ used, s ∈ (l.take 3).map cNameT ∨ ∃ (j : Nat) (t : T), j ≠ kk ∧ ks[j]? = some t ∧ s ∈ (kConsT t).map cNameT)
      ⟨_, uA, _, rfl, d810, fuA, hu0, by rw [List.length_map, List.length_take]; omega, fun s hs => by
        obtain ⟨c, hc', rfl⟩ := List.mem_map.mp hs
        exact hnames c (List.mem_of_mem_take hc'), fun s hs => .inl hs⟩ (fun j σ H' hj w => ?_) fun σ H' w => ?_
    · obtain ⟨used, uA, x10, rfl, d, fu, hu, lu, un, uo⟩ := w
      have hjk : (0 : Int) + (j : Int) = (j : Int) := Int.zero_add _
      refine ⟨_, rfl, _, rfl, rfl, _, rfl, ?_⟩
      by_cases e : j = kk
      · subst e
        rw [hjk, decide_eq_true rfl]
        exact iteF ⟨used, uA, _, rfl, d, fu, hu, by omega, un, uo⟩
      · rw [hjk, decide_eq_false (fun z => e (by have := V.int.inj z; omega))]
        have hjl : j < ks.length := by omega
        have hdj := Den.nt d.toKp hd8
        obtain ⟨a', xsj, ea, hSj, hDj⟩ := (show ∃ a' xs, V.ref a = .ref a' ∧ SqT K H' a' xs ∧ DenL K NT H' ks xs from by unfold Den at hdj; exact hdj)
        cases ea
        have lxj := hDj.len
        have hxj : xsj[j]? = some (xsj[j]'(by omega)) := List.getElem?_eq_getElem (by omega)
        obtain ⟨tj, htj, dtj⟩ := hDj.get hxj
        obtain ⟨hwj, lj, rfl, _, l4j, hcj⟩ := kindForm (hk tj (List.mem_of_getElem? htj))
        obtain ⟨pj, y1, y2, epj, hpj, hy1, hy2⟩ := den_pair dtj
        obtain ⟨a2, yj, rfl, hSy, hDy⟩ := (show ∃ a xs, y2 = .ref a ∧ SqT K H' a xs ∧ DenL K NT H' lj xs from by unfold Den at hy2; exact hy2)
        refine iteT ⟨_, rfl, _, rfl, _, rfl, a, _, _, _, rfl, rfl, hSj, atI_nat (by rw [hxj, epj]), pj, _, _, _, rfl, rfl, hpj, atI_nat (j := 1) rfl, a2, rfl, ⟨_, hSy⟩, fun D hDn => ?_⟩
        refine lc_map (N := NT) (fun c => .str (cNameT c)) hSy hDy d.tok hDn (small1000 (by omega)) (fun x c Hy acc hcl hx' tk' hDc kp Q' z => ⟨rfl, ?_⟩) fun H11 tk11 kp11 hD11 => ?_
        · obtain ⟨sn, pl, rfl, _, _, _⟩ := consForm (hcj c hcl)
          obtain ⟨pc, z1, z2, rfl, hpc, hz1, hz2⟩ := den_pair hx'
          unfold Den at hz1
          obtain ⟨rfl, _⟩ := hz1
          exact ⟨_, rfl, pc, _, _, _, rfl, rfl, hpc, atI_nat (j := 0) rfl, z Hy (Ex.refl tk')⟩
        · have e11 : Ex cs N0 H' H11 := ⟨kp11, tk11⟩
          have hu11 := e11.keep _ _ hu (fun q z => by cases z) fun z => z
          refine ⟨uA, D, _, _, rfl, rfl, hu11, hD11, by rw [List.length_map, List.length_map]; exact small (by omega), fun u2 hu2 => ?_⟩
          refine ⟨used ++ lj.map cNameT, u2, _, rfl, d.trans ((Dr.of0 d.st e11).nw hu2), d.stay _ (e11.stay _ hu2), by rw [upd_same, List.map_append, List.map_map]; rfl, by rw [List.length_append, List.length_map]; omega, fun s hs => ?_, fun s hs => ?_⟩
          · rcases List.mem_append.mp hs with hs | hs
            · exact un s hs
            · obtain ⟨c, hc', rfl⟩ := List.mem_map.mp hs
              obtain ⟨sn, pl, rfl, h, _, _⟩ := consForm (hcj c hc')
              exact h
          · rcases List.mem_append.mp hs with hs | hs
            · exact uo s hs
            · exact .inr ⟨j, _, e, htj, hs⟩
    · obtain ⟨used, uA, x10, rfl, d, fu, hu, lu, un, uo⟩ := w
      have suA := dr8.st.ne fu
      refine ⟨fun σ H'' => ∃ (oZ : Addr) (zs : List V) (us : List T) (m : Nat), σ = [some (.ref S), some (.ref a), some (.int kk), some (.str hw), some (.ref rA), some (.str nm), some (.ref wA), some (.ref pA), some (.ref oZ), some (.ref uA), x10, none, none] ∧ Dr cs S H8 H'' ∧ oZ ≠ S ∧ H'' oZ = some (.lst zs) ∧ DenL K (N1 S) H'' us zs ∧ AllP (SpR ks.length used) m us ∧ 0 < m ∧ m ≤ 100, ?_, ?_⟩
      · have skip : ∀ {H'' : Hp}, Dr cs S H8 H'' → ∃ (oZ : Addr) (zs : List V) (us : List T) (m : Nat), [some (V.ref S), some (.ref a), some (.int kk), some (.str hw), some (.ref rA), some (.str nm), some (.ref wA), some (.ref pA), some (.ref oB), some (.ref uA), x10, none, none] = [some (V.ref S), some (.ref a), some (.int kk), some (.str hw), some (.ref rA), some (.str nm), some (.ref wA), some (.ref pA), some (.ref oZ), some (.ref uA), x10, none, none] ∧ Dr cs S H8 H'' ∧ oZ ≠ S ∧ H'' oZ = some (.lst zs) ∧ DenL K (N1 S) H'' us zs ∧ AllP (SpR ks.length used) m us ∧ 0 < m ∧ m ≤ 100 := fun d' =>
          ⟨oB, os3, ot3, 31, rfl, d', soB, d'.keepL hos3 soB, DenL.drN rS d' dos3, ⟨pt3.1, fun u hu => .inl (pt3.2 u hu)⟩, by decide, by decide⟩
        refine ⟨_, rfl, Nat.zero_le _, fun e0 he0 => ⟨.list (used.map PyData.str), .list [], .lst (SqL.of (by rw [upd_ne (ne_of_none hu he0)]; exact hu)) (dp_strs used), .lst (SqL.of upd_same) .nil, shaped_strs un, by decide, _, rfl, ?_⟩⟩
        have de : Dr cs S H8 (upd H' e0 (.lst [])) := d.nw he0
        refine ite2 (fun ne => ⟨_, rfl, S, _, rfl, de.st, de.tok, by decide, by decide, fun q H12 q0 q1 dr12 => ⟨rfl, _, rfl, ite2 (fun _ => ?_) fun _ => skip (de.trans dr12)⟩⟩) fun _ => skip de
        have neu : used ≠ [] := fun z => by
          rw [z] at ne
          revert ne
          decide
        have d12 := de.trans dr12
        have hu12 := dr12.keepL (show (upd H' e0 (.lst [])) uA = _ by rw [upd_ne (ne_of_none hu he0)]; exact hu) suA
        refine ⟨_, rfl, _, rfl, S, uA, _, rfl, dr12.st, dr12.tok, .inl ⟨hu12, suA⟩, by simpa using neu, by rw [List.length_map]; omega, fun v H13 hv dr13 => ?_⟩
        obtain ⟨s, hs, rfl⟩ := List.mem_map.mp hv
        have hz := (of_name (un s hs)).2.1
        refine ⟨Nat.zero_le _, fun q1 hq1 => ⟨by show 2 ≤ sizeLine; decide, fun q2 hq2 => ⟨by show 1 ≤ sizeLine; decide, fun oZ hoZ => ?_⟩⟩⟩
        have d13 := d12.trans dr13
        have d14 := d13.nw hq1 (o := .tup [])
        have d15 := d14.nw hq2 (o := .tup [.str s, .ref q1])
        have d16 := d15.nw hoZ (o := .lst [.ref q2])
        have dT : Den K NT (upd (upd H13 q1 (.tup [])) q2 (.tup [.str s, .ref q1])) (rowT s []) (.ref q2) := Den.tup_ (SqT.of upd_same) (DenL.cons (Den.str_ _ (small (by omega))) (DenL.cons (Den.nt (Kp.new (N := N0) hq2) (Den.tup_ (SqT.of upd_same) DenL.nil)) DenL.nil))
        refine ⟨oZ, [.ref q2], [rowT s []], 1, rfl, d16, dr8.st.ne (d15.stay _ hoZ), upd_same, DenL.cons (Den.any (Den.nt (Kp.new (N := N0) hoZ) dT)) DenL.nil, ⟨rfl, fun u hu => by rw [List.mem_singleton.mp hu]; exact .inr ⟨s, hs, rfl⟩⟩, by decide, by decide⟩
      · rintro σ H'' ⟨oZ, zs, us, m, rfl, dz, nZ, hz, dzs, pz, m0, m1⟩
        have hrz := Den.nt dz.toKp hr8
        obtain ⟨rA', yz, er, hSz, hDz⟩ := (show ∃ a xs, V.ref rA = .ref a ∧ SqT K H'' a xs ∧ DenL K NT H'' l xs from by unfold Den at hrz; exact hrz)
        cases er
        have lzs := dzs.len
        refine ⟨_, rfl, _, rfl, _, rfl, _, rfl, _, rfl, _, rfl, cut_rd (cs := cs) hSz dz.tok fun p4 H14 e14 h14 => ?_⟩
        rw [show (3 : Int) = ((3 : Nat) : Int) from rfl, cut_take] at h14
        have d14 := dz.e0 e14
        have d014 : Dr cs S H'' H14 := Dr.of0 dz.st e14
        refine ⟨_, rfl, _, rfl, S, oZ, _, rfl, d14.st, d14.tok, .inl ⟨d014.keepL hz nZ, nZ⟩, fun z => ?_, by rw [lzs, pz.1]; omega, fun r H15 hv dr15 => ?_⟩
        · rw [z, pz.1] at lzs
          have : m = 0 := lzs.symm
          omega
        obtain ⟨i, hi⟩ := List.mem_iff_getElem?.mp hv
        obtain ⟨t, ht', dt⟩ := dzs.get hi
        have d015 := d014.trans dr15
        have dl15 : Den K NT H15 (.tup (l.take 3)) (.ref p4) := Den.nt dr15.toKp (Den.tup_ h14 (DenL.nt e14.toKp (DenL.take 3 hDz)))
        refine ⟨S, _, r, l.take 3, t, N1 S, rfl, rS, dr15.st, by rw [List.length_take]; omega, Den.any dl15, Den.drN rS d015 dt, dr15.tok, fun q i H16 d16 dq => ?_⟩
        refine ⟨by show 2 ≤ sizeLine; decide, fun kA hkA => ?_⟩
        have d17 : Dr cs S H16 (upd H16 kA (.tup [.str hw, q])) := Dr.new d16.st d16.tok hkA
        have d017 := dz.trans (d015.trans (d16.trans d17))
        have dK : Den K (N1 S) (upd H16 kA (.tup [.str hw, q])) (kindT hw ((l.take 3).take i ++ [t] ++ (l.take 3).drop i)) (.ref kA) := Den.tup_ (SqT.of upd_same) (DenL.cons (Den.str_ hw hwz) (DenL.cons (Den.drN rS d17 dq) DenL.nil))
        refine ⟨_, _, ks, _, N1 S, kk, rfl, hkl, h3, Den.any (Den.nt d017.toKp hd8), dK, d17.tok, fun p H' e d' => ?_⟩
        exact k p _ H' (spoilt_cons ht uo (pz.2 t (List.mem_of_getElem? ht'))) ((dr08.trans d017).e0 e) d'
end
end LW
namespace TM
open PySem PySem.Spec PyProof.Rows L2
/-- tuple * 1: the tuple itself -/
theorem tuple_mulO (l : Addr) (items : Array Value) (n : Nat) (dd : Option Addr) (sl : Array (Option Value)) (x : Int) (u : Tok) (c0 : (decide (x < -(2 ^ 63)) || decide (x ≥ 2 ^ 63)) = false) (c1 : (items.isEmpty || x == 1) = true) :
    Meets (Builtin.«tuple.__mul__» ⟨[.ref l, .int x u], []⟩) (fun _ R s => s.heap.get? l = some { cls := .type "tuple", dict := dd, data := .seq items n, slots := sl } ∧ R (.ok (.ret (Value.ref l))) s) :=
  .of_wp fun prog w A R s h => by
    obtain ⟨hp, g, d, tk, os⟩ := s
    obtain ⟨hl, h⟩ := h
    have f1 := AutoSeq1.idx_int
    wp_walk using wpAny_loadPart' hl
    repeat (first
      | (refine wpAny_ite_false (decide_eq_false (by rw [c0]; exact Bool.false_ne_true)) ?_; wp_walk using wpAny_loadPart' hl)
      | (refine wpAny_ite_true (decide_eq_true c1) ?_; wp_walk using wpAny_loadPart' hl))
    exact ⟨_, rfl, h⟩
/-- tuple * k, 1 ≤ k -/
def rRepU (K : PySem.W.Frag) : R2 := fun x y H Q => ∃ l k xs, x = .ref l ∧ y = .int k ∧ SqT K H l xs ∧ xs ≠ [] ∧ 1 ≤ k ∧ k ≤ 1000 ∧ xs.length ≤ 1000 ∧ (k = 1 → Q (.ref l) H) ∧ (2 ≤ k → ∀ p, H p = none → Q (.ref p) (upd H p (.tup (List.replicate k.toNat xs).flatten)))
theorem op_repU {X : Cx} : OpR X (binaryOp .Mult) (rRepU X.K) := by
  intro pins s σ H x y v u Q I rx ry h
  obtain ⟨l, k, xs, rfl, rfl, hT, hne, h1, h2, hz, q1, q2⟩ := h
  by_cases e : k = 1
  · subst e
    have q := q1 rfl
    cases rx
    obtain ⟨t, rfl⟩ := ry
    obtain ⟨its, r, ⟨⟨cls, dd, data, sl⟩, ho, hc, n, hd⟩, hs⟩ := I.tuple hT
    simp only at hc hd
    subst hc hd
    refine wpAny_binaryOp_repeat_ref (T := "tuple") (U := "int") (by decide) ⟨_, ho, rfl⟩ (fun s' => typeIs_int s' 1 t) noFill_tuple_mul F.fills_int_mul F.slot_int_rmul repeat_tuple F.slot_int_index.lookup
      (call_meets F.slot_int_rmul (typeIs_int s 1 t) F.entry_int_rmul (F.args_int_rmul_2 _ _) (int_rmul_tuple 1 t l its.toArray n dd sl)
        ⟨ho, rfl, ⟨_, ho, rfl⟩, call_meets F.slot_tuple_mul ⟨_, ho, rfl⟩ F.entry_tuple_mul (F.args_tuple_mul_2 _ _) (tuple_mulO l its.toArray n dd sl 1 t (by decide) (by simp)) ⟨ho, ?_⟩⟩)
    exact ⟨.ref l, H, I, rfl, q⟩
  · exact op_repT pins s σ H _ _ v u Q I rx ry ⟨l, k, xs, rfl, rfl, hT, hne, by omega, h2, hz, q2 (by omega)⟩
end TM
namespace LW
open PySem PySem.Spec PyProof.Rows L2 GxR FW GA EN SL TM
theorem no_sig {t : T} (h : ∀ ks, t = .tup ks → 1 ≤ ks.length → ks.length ≤ 3 → (∀ t ∈ ks, isKindT t ks.length = true) → False) : isSigT t = false := by
  refine Bool.eq_false_iff.mpr fun e => ?_
  obtain ⟨ks, e2, h1, h3, hk, _⟩ := of_isSig e
  exact h ks e2 h1 h3 hk
section
variable {K : PySem.W.Frag} {cs : List (Addr × Addr)} {S : Addr} {N : Addr → Prop} {σ : L2.St} {H0 : Hp}
theorem md_ixT {i j : Nat} {v : V} {ts : List T} {t : T} (hs : σ[i]? = some (some v)) (hd : Den K NT H0 (.tup ts) v) (hj : ts[j]? = some t) : MD K cs S N (tOp (rIxT K) (tVar i) (tC (.int (j : Nat)))) σ H0 (· = t) := fun H d Q k => by
  have hd := Den.nt d.toKp hd
  unfold Den at hd
  obtain ⟨a, xs, rfl, hq, dl⟩ := hd
  obtain ⟨x, hx, dx⟩ := dl.get' hj
  exact ⟨_, hs, a, _, _, _, rfl, rfl, hq, atI_nat hx, k x t H rfl (Dr.refl d.st d.tok) (Den.any dx)⟩
end
section
variable {K : PySem.W.Frag} {cs : List (Addr × Addr)} {S : Addr} {N : Addr → Prop} {σ : L2.St} {H0 : Hp} {te : TE} {R : List T → Prop}
theorem mdl_one (h : MDL K cs S N te σ H0 R) {H : Hp} (d : Dr cs S H0 H) {Q : List V → Hp → Prop} (k : ∀ a xs ts H', R ts → Dr cs S H H' → H a = none → H' a = some (.lst xs) → DenL K N H' ts xs → Q [.ref a] H') : tCons te tNil σ H Q := h H d _ fun a xs ts H' p d' ha e1 e2 => k a xs ts H' p d' ha e1 e2
theorem rep_rd {a : Addr} {x : V} {k : Nat} {H : Hp} {Q : VK} (ha : SqT K H a [x]) (tok : TOk cs H) (h1 : 1 ≤ k) (h2 : k ≤ 1000) (q : ∀ p H', Ex cs N0 H H' → SqT K H' p (List.replicate k x) → Q (.ref p) H') : rRepU K (.ref a) (.int (k : Nat)) H Q := by
  have efl : ∀ m : Nat, (List.replicate m [x]).flatten = List.replicate m x := fun m => by
    induction m with
    | zero => rfl
    | succ m ih => rw [List.replicate_succ, List.flatten_cons, ih]; rfl
  refine ⟨a, k, [x], rfl, rfl, ha, by simp, by omega, by omega, by show 1 ≤ 1000; decide, fun e => ?_, fun _ p hp => ?_⟩
  · have : k = 1 := by omega
    subst this
    exact q a H (Ex.refl tok) ha
  · rw [Int.toNat_natCast, efl]
    exact q p _ (Ex.new tok hp) (SqT.of upd_same)
end
section
variable {P : Program} {w : World} {K : PySem.W.Frag} {mg : Str → Option Value} {base : Heap} {cs : List (Addr × Addr)}
theorem ok__law_spoilt {f : Addr} {fd : FuncData} (F : Fun K "_law_spoilt" "_law_spoilt" s__law_spoilt f fd) (G : Glo mg) (D1 : Df P w K mg base 1 "_law_next" P__law_next (spNext cs)) (D2 : Df P w K mg base 2 "_law_pick" P__law_pick (spPick K cs))
    (D3 : Df P w K mg base 3 "_law_spoilt_kind" P__law_spoilt_kind (spSpoil K cs)) (D4 : Df P w K mg base 3 "_law_spoilt_constructor" P__law_spoilt_constructor (spSpoil K cs)) : FnOk P w K mg base CX0 4 f fd P__law_spoilt (spSpoil K cs) := by
  refine F.ok sc__law_spoilt (fun vs H Q E h => ?_) (fun cdv A outer s H vs Q E hr h => ?_)
  · obtain ⟨S, v, ks, rfl, _⟩ := h
    rfl
  · obtain ⟨S, v, ks, rfl, hst, ho, hsig, hd, k⟩ := h
    refine ⟨_, pss_cons (ps_set (i := 2) sc__law_spoilt.nd rfl (.inl rfl) (pe_df D1 hr (pa_cons (pv 0) (pa_cons pe_int pa_nil))))
      (pss_cons (ps_if (pt_cmpR op_eq (pv 2) pe_int (nomark _))
        (pss_cons (ps_set (i := 3) sc__law_spoilt.nd rfl (.inl rfl) (pe_op op_catA (pv 1) (pe_op op_repU (pe_tup (pa_cons (pe_tup (pa_cons pe_str (pa_cons (pe_tup pa_nil) pa_nil))) pa_nil)) (pe_op op_sub pe_int (pe_callB call_len_seq (by rfl) G.len boot_len (pa_cons (pv 1) pa_nil))))))
        (pss_one (ps_ret (pe_df D2 hr (pa_cons (pv 0) (pa_cons (pe_lst
            (pa_cons (pe_callTy call_list_of (by rfl) G.list (by decide +kernel) (pa_cons (pv 1) pa_nil))
            (pa_cons (pe_tup pa_nil)
            (pa_cons (pv 3)
            (pa_cons (pe_ix ix_tup (pv 1) pe_int (fun _ _ => rfl))
            (pa_cons (pe_tup (pa_cons (pv 1) pa_nil))
            (pa_cons pe_non (pa_cons pe_int (pa_cons pe_bl (pa_cons pe_str (pa_cons pe_dnewK pa_nil))))))))))) pa_nil)))))) pss_nil)
      (pss_one (ps_ret (pe_ifExp (pt_cmpR op_lt (pv 2) pe_int (nomark _)) (pe_df D3 hr (pa_cons (pv 0) (pa_cons (pv 1) pa_nil))) (pe_df D4 hr (pa_cons (pv 0) (pa_cons (pv 1) pa_nil))))))), ?_⟩
    obtain ⟨ks', eks, h1, h3, hk, hnd, hgd⟩ := of_isSig hsig
    obtain rfl := T.tup.inj eks
    refine ⟨_, rfl, S, _, rfl, hst, ho, by decide, by decide, fun d H1 d0 d1 dr1 => ?_⟩
    have hd1 := Den.nt dr1.toKp hd
    refine ⟨_, rfl, rfl, _, rfl, ite2 (fun _ => ?_) fun _ => ?_⟩
    · obtain ⟨a, xs, rfl, hS, hD⟩ := (show ∃ a xs, v = .ref a ∧ SqT K H1 a xs ∧ DenL K NT H1 ks xs from by unfold Den at hd1; exact hd1)
      have hlen := hD.len
      refine ⟨_, rfl, Nat.zero_le _, fun q1 hq1 => ⟨by show 2 ≤ sizeLine; decide, fun q2 hq2 => ⟨by show 1 ≤ sizeLine; decide, fun q3 hq3 => ?_⟩⟩⟩
      have e1 : Ex cs N0 H1 (upd H1 q1 (.tup [])) := Ex.new dr1.tok hq1
      have e2 := e1.trans (Ex.new (o := .tup [.str "open", .ref q1]) e1.tok hq2)
      have e3 := e2.trans (Ex.new (o := .tup [.ref q2]) e2.tok hq3)
      have dO : Den K NT (upd (upd (upd H1 q1 (.tup [])) q2 (.tup [.str "open", .ref q1])) q3 (.tup [.ref q2])) (kindT "open" []) (.ref q2) :=
        Den.nt (Kp.new (N := N0) hq3) (Den.tup_ (SqT.of upd_same) (DenL.cons (Den.str_ _ (by decide)) (DenL.cons (Den.nt (Kp.new (N := N0) hq2) (Den.tup_ (SqT.of upd_same) DenL.nil)) DenL.nil)))
      refine ⟨_, rfl, a, xs, rfl, .inr (e3.toKp.sqT hS), _, _, rfl, rfl, ?_⟩
      show rRepU K (.ref q3) (.int ((4 : Int) - (xs.length : Int))) _ _
      rw [show (4 : Int) - (xs.length : Int) = ((4 - xs.length : Nat) : Int) by omega]
      refine rep_rd (cs := cs) (SqT.of upd_same) e3.tok (by omega) (by omega) fun p4 H4 e4 h4 => ?_
      have e14 := e3.trans e4
      refine cat_rd (cs := cs) (e14.toKp.sqT hS) h4 e4.tok (by rw [List.length_replicate]; exact small (by omega)) fun mA H5 e5 h5 => ?_
      have e15 := e14.trans e5
      have dr5 := dr1.e0 e15
      have rS : N1 S S := rfl
      have dreps : ∀ m : Nat, DenL K NT H5 (List.replicate m (kindT "open" [])) (List.replicate m (.ref q2)) := fun m => by
        induction m with
        | zero => exact DenL.nil
        | succ m ih => exact DenL.cons (Den.nt (e4.trans e5).toKp dO) ih
      have hm5 : Den K NT H5 (.tup (ks ++ List.replicate (4 - xs.length) (kindT "open" []))) (.ref mA) := Den.tup_ h5 (DenL.append (DenL.nt e15.toKp hD) (dreps _))
      have hd5 : Den K NT H5 (.tup ks) (.ref a) := Den.nt e15.toKp hd1
      have k0 : ∃ t0, ks[0]? = some t0 := ⟨ks[0]'(by omega), List.getElem?_eq_getElem (by omega)⟩
      obtain ⟨t0, ht0⟩ := k0
      obtain ⟨hw, l, rfl, _, _, _⟩ := kindForm (hk t0 (List.mem_of_getElem? ht0))
      have m1 := mdl_all (K := K) (cs := cs) (S := S) (N := N1 S) (σ := [some (.ref S), some (.ref a), some (.int d), some (.ref mA)]) (H0 := H5) (P := fun t => isSigT t = false) rS
        (mda_cons rS ((md_listOf (i := 1) rS dr5.st.some rfl (Den.any hd5)).weak fun t e => by rw [e]; rfl)
        (mda_cons rS ((md_unit rS).weak fun t e => by rw [e]; exact no_sig fun us e h1 _ _ => by rw [← T.tup.inj e] at h1; exact absurd h1 (by decide))
        (mda_cons rS ((md_var (i := 3) rS rfl (Den.any hm5)).weak fun t e => by
          rw [e]
          exact no_sig fun us e _ h3' _ => by
            rw [← T.tup.inj e, List.length_append, List.length_replicate] at h3'
            omega)
        (mda_cons rS ((md_ixT (i := 1) (j := 0) rfl hd5 ht0).weak fun t e => by
          rw [e]
          exact no_sig fun us e _ _ hk' => by
            have := hk' (.str hw) (by rw [← T.tup.inj e]; exact List.mem_cons_self)
            cases this)
        (mda_cons rS ((md_single rS (md_var (i := 1) rS rfl (Den.any hd5))).weak fun t ⟨x, e, h⟩ => by
          rw [e, h]
          exact no_sig fun us e _ _ hk' => by
            obtain ⟨s', l', e3, _⟩ := kindForm (hk' (.tup ks) (by rw [← T.tup.inj e]; exact List.mem_cons_self))
            rw [T.tup.inj e3] at ht0
            cases ht0)
        (mda_cons rS (md_non.weak fun t e => by rw [e]; rfl) (mda_cons rS ((md_int (i := 0)).weak fun t e => by rw [e]; rfl) (mda_cons rS ((md_bl (b := true)).weak fun t e => by rw [e]; rfl)
        (mda_cons rS ((md_str (s := "open") (by decide)).weak fun t e => by rw [e]; rfl) (mda_cons rS ((md_dct dr5.st.some).weak fun t e => by rw [e]; rfl) mda_nil)))))))))) (by decide)
      refine ⟨_, rfl, ?_⟩
      refine mdl_one m1 (Dr.refl dr5.st dr5.tok) fun oA zs us H6 pu dr6 hoA hz dz => ?_
      have lz := dz.len
      refine ⟨S, oA, _, rfl, dr6.st, dr6.tok, .inl ⟨hz, dr5.st.ne hoA⟩, fun z => ?_, by rw [lz, pu.1]; decide, fun v H7 hv dr7 => ?_⟩
      · rw [z, pu.1] at lz
        exact absurd lz (by decide)
      obtain ⟨i, hi⟩ := List.mem_iff_getElem?.mp hv
      obtain ⟨t, ht, dt⟩ := dz.get hi
      exact k v t H7 (pu.2 t (List.mem_of_getElem? ht)) (dr5.trans (dr6.trans dr7)) (Den.drN rS dr7 dt)
    · refine ⟨_, rfl, _, _, rfl, rfl, _, rfl, ite2 (fun _ => ?_) fun _ => ?_⟩
      · exact ⟨_, rfl, _, rfl, S, _, ks, rfl, dr1.st, dr1.tok, hsig, hd1, fun r t H' h d' e => k r t H' h (dr1.trans d') e⟩
      · exact ⟨_, rfl, _, rfl, S, _, ks, rfl, dr1.st, dr1.tok, hsig, hd1, fun r t H' h d' e => k r t H' h (dr1.trans d') e⟩
end
end LW
namespace LW
open PySem PySem.Spec PyProof.Rows L2 GxR FW GA EN SL TM
def deepT : Nat → T
  | 0 => .tup []
  | n + 1 => .tup [deepT n]
theorem deep_no (n : Nat) : isSigT (deepT n) = false := by
  refine no_sig fun ks e h1 _ hk => ?_
  cases n with
  | zero => rw [← T.tup.inj e] at h1; exact absurd h1 (by decide)
  | succ n =>
    have h := hk (deepT n) (by rw [← T.tup.inj e]; exact List.mem_cons_self)
    cases n with
    | zero => cases h
    | succ n =>
      have h : isKindT (.tup [deepT n]) ks.length = true := h
      cases n with
      | zero => cases h
      | succ n =>
        have h : isKindT (.tup [.tup [deepT n]]) ks.length = true := h
        cases h
def spLaw (K : PySem.W.Frag) (cs : List (Addr × Addr)) : Sp := fun vs H Q _ => ∃ (a : Addr) (ns : List Int), vs = [.ref a] ∧ SqL K H a (ns.map V.int) ∧ TOk cs H ∧ ∀ H', Q (.bl true) H'
section
variable {P : Program} {w : World} {K : PySem.W.Frag} {mg : Str → Option Value} {base : Heap} {cs : List (Addr × Addr)}
theorem ok_is_signature {f : Addr} {fd : FuncData} (F : Fun K "is_signature" "is_signature" s_is_signature f fd) (D1 : Df P w K mg base 15 "is_signature_form" P_is_signature_form (spT1 K cs isSigT)) : FnOk P w K mg base CX0 16 f fd P_is_signature (spT1 K cs isSigT) := by
  refine F.ok sc_is_signature (fun vs H Q E h => ?_) (fun cdv A outer s H vs Q E hr h => ?_)
  · obtain ⟨v, t, N, rfl, _⟩ := h
    rfl
  · obtain ⟨v, t, N, rfl, hd, ho, k⟩ := h
    exact ⟨_, pss_one (ps_ret (pe_df D1 hr (pa_cons (pv 0) pa_nil))), _, rfl, v, t, N, rfl, hd, ho, k⟩
theorem ok_law {f : Addr} {fd : FuncData} (F : Fun K "law" "law" s_law f fd) (G : Glo mg) (D1 : Df P w K mg base 1 "_law_stream" P__law_stream (spStream K cs)) (D2 : Df P w K mg base 5 "_law_signature" P__law_signature (spSig K cs)) (D3 : Df P w K mg base 1 "_law_same" P__law_same (spSame cs))
    (D4 : Df P w K mg base 16 "is_signature" P_is_signature (spT1 K cs isSigT)) (D5 : Df P w K mg base 4 "_law_spoilt" P__law_spoilt (spSpoil K cs)) (D6 : Df P w K mg base 4 "_law_loose_signature" P__law_loose_signature (spLoose K cs)) (D7 : Df P w K mg base 1 "_law_all_have_values" P__law_all_have_values (spAllV K cs)) :
    FnOk P w K mg base CX0 17 f fd P_law (spLaw K cs) := by
  refine F.ok sc_law (fun vs H Q E h => ?_) (fun cdv A outer s H vs Q E hr h => ?_)
  · obtain ⟨a, ns, rfl, _⟩ := h
    rfl
  · obtain ⟨a, ns, rfl, hS, ho, k⟩ := h
    refine ⟨_, pss_cons (ps_set (i := 1) sc_law.nd rfl (.inl rfl) (pe_df D1 hr (pa_cons (pv 0) pa_nil)))
      (pss_cons (ps_for PassesOwn.never rfl (pi_range1 (by rfl) G.range (pa_cons pe_int pa_nil)) (pg_name (i := 2) sc_law.nd rfl (.inl rfl))
        (pss_cons (ps_set (i := 3) sc_law.nd rfl (.inl rfl) (pe_df D2 hr (pa_cons (pv 1) pa_nil)))
        (pss_cons (ps_if (pt_not (pt_val (pe_df D3 hr (pa_cons (pe_df D4 hr (pa_cons (pv 3) pa_nil)) (pa_cons pe_bl pa_nil))))) (pss_one (ps_ret pe_bl)) pss_nil)
        (pss_cons (ps_for PassesOwn.never rfl (pi_range1 (by rfl) G.range (pa_cons pe_int pa_nil)) (pg_name (i := 4) sc_law.nd rfl (.inl rfl))
          (pss_one (ps_if (pt_not (pt_val (pe_df D3 hr (pa_cons (pe_df D4 hr (pa_cons (pe_df D5 hr (pa_cons (pv 1) (pa_cons (pv 3) pa_nil))) pa_nil)) (pa_cons pe_bl pa_nil))))) (pss_one (ps_ret pe_bl)) pss_nil)))
        (pss_one (ps_for PassesOwn.never rfl (pi_range1 (by rfl) G.range (pa_cons pe_int pa_nil)) (pg_name (i := 4) sc_law.nd rfl (.inl rfl))
          (pss_cons (ps_set (i := 5) sc_law.nd rfl (.inl rfl) (pe_df D6 hr (pa_cons (pv 1) pa_nil)))
          (pss_one (ps_if (pt_not (pt_val (pe_df D3 hr (pa_cons (pe_df D4 hr (pa_cons (pv 5) pa_nil)) (pa_cons (pe_df D7 hr (pa_cons (pv 5) pa_nil)) pa_nil))))) (pss_one (ps_ret pe_bl)) pss_nil)))))))))
      (pss_cons (ps_set (i := 6) sc_law.nd rfl (.inl rfl) (pe_tup pa_nil))
      (pss_cons (ps_for PassesOwn.never rfl (pi_range1 (by rfl) G.range (pa_cons pe_int pa_nil)) (pg_name (i := 2) sc_law.nd rfl (.inl rfl))
        (pss_one (ps_set (i := 6) sc_law.nd rfl (.inl rfl) (pe_tup (pa_cons (pv 6) pa_nil)))))
      (pss_one (ps_ret (pe_cmpR op_is_bl (pe_df D4 hr (pa_cons (pv 6) pa_nil)) pe_bl (nomark _))))))), ?_⟩
    refine ⟨_, rfl, a, ns, rfl, hS, ho, fun S H1 e1 hS1 st1 => ?_⟩
    refine ⟨_, rfl, by decide, by decide, for_range (n := 4) (fun i σ H' => ∃ (x2 x3 x4 x5 : Option V), σ = [some (.ref a), some (.ref S), x2, x3, x4, x5, none] ∧ Dr cs S H1 H') ⟨_, _, _, _, rfl, Dr.refl st1 e1.tok⟩ (fun i σ H' hi w => ?_) fun σ H' w => ?_⟩
    · obtain ⟨x2, x3, x4, x5, rfl, d⟩ := w
      refine ⟨_, rfl, S, rfl, d.st, d.tok, fun v t H2 hsig d2 hv => ?_⟩
      refine ⟨_, rfl, v, t, NT, rfl, hv, d2.tok, fun H3 e3 => ?_⟩
      rw [hsig]
      refine ⟨true, true, rfl, e3.tok, fun H4 e4 => ⟨_, rfl, iteF ?_⟩⟩
      obtain ⟨ks, rfl, _⟩ := of_isSig hsig
      have d4 := d2.e0 (e3.trans e4)
      have dr4 := d.trans d4
      have hv4 := Den.nt (e3.trans e4).toKp hv
      refine ⟨_, rfl, by decide, by decide, for_range (n := 8) (fun i' σ H' => ∃ (x4 : Option V), σ = [some (.ref a), some (.ref S), some (.int (0 + (i : Int))), some v, x4, x5, none] ∧ Dr cs S H1 H' ∧ Den K NT H' (.tup ks) v) ⟨_, rfl, dr4, hv4⟩ (fun i' σ H' hi' w => ?_) fun σ H' w => ?_⟩
      · obtain ⟨x4, rfl, d5, hv5⟩ := w
        refine ⟨_, rfl, _, rfl, S, v, ks, rfl, d5.st, d5.tok, hsig, hv5, fun r u H6 hu d6 hr6 => ?_⟩
        refine ⟨r, u, N1 S, rfl, hr6, d6.tok, fun H7 e7 => ?_⟩
        rw [hu]
        refine ⟨false, false, rfl, e7.tok, fun H8 e8 => ⟨_, rfl, iteF ⟨_, rfl, d5.trans (d6.e0 (e7.trans e8)), Den.nt (e7.trans e8).toKp (Den.nt d6.toKp hv5)⟩⟩⟩
      · obtain ⟨x4, rfl, d5, hv5⟩ := w
        refine ⟨_, rfl, by decide, by decide, for_range (n := 3) (fun i' σ H' => ∃ (x4 x5 : Option V), σ = [some (.ref a), some (.ref S), some (.int (0 + (i : Int))), some v, x4, x5, none] ∧ Dr cs S H1 H') ⟨_, _, rfl, d5⟩ (fun i' σ H' hi' w => ?_) fun σ H' w => ?_⟩
        · obtain ⟨x4, x5, rfl, d6⟩ := w
          refine ⟨_, rfl, S, rfl, d6.st, d6.tok, fun z us H7 lo d7 hz => ?_⟩
          refine ⟨_, rfl, z, .tup us, NT, rfl, hz, d7.tok, fun H8 e8 => ?_⟩
          have hz8 := Den.nt e8.toKp hz
          refine ⟨_, rfl, z, us, rfl, lo, hz8, e8.tok, fun H9 e9 => ?_⟩
          refine ⟨_, _, rfl, e9.tok, fun H10 e10 => ⟨_, rfl, ?_⟩⟩
          rw [beq_self_eq_true]
          exact iteF ⟨_, _, rfl, d6.trans (d7.e0 (e8.trans (e9.trans e10)))⟩
        · obtain ⟨x4, x5, rfl, d6⟩ := w
          exact ⟨_, _, _, _, rfl, d6⟩
    · obtain ⟨x2, x3, x4, x5, rfl, d⟩ := w
      refine ⟨Nat.zero_le _, fun q1 hq1 => ?_⟩
      have d1 : Dr cs S H' (upd H' q1 (.tup [])) := Dr.new d.st d.tok hq1
      refine ⟨_, rfl, by decide, by decide, for_range (n := 3000) (fun i σ H'' => ∃ (x2 : Option V) (v : V), σ = [some (.ref a), some (.ref S), x2, x3, x4, x5, some v] ∧ Dr cs S H' H'' ∧ Den K NT H'' (deepT i) v) ⟨_, _, rfl, d1, Den.tup_ (SqT.of upd_same) DenL.nil⟩ (fun i σ H'' hi w => ?_) fun σ H'' w => ?_⟩
      · obtain ⟨x2, v, rfl, d2, hv⟩ := w
        refine ⟨_, rfl, by show 1 ≤ sizeLine; decide, fun q hq => ?_⟩
        have d3 : Dr cs S H'' (upd H'' q (.tup [v])) := Dr.new d2.st d2.tok hq
        exact ⟨_, _, rfl, d2.trans d3, Den.tup_ (SqT.of upd_same) (DenL.cons (Den.nt d3.toKp hv) DenL.nil)⟩
      · obtain ⟨x2, v, rfl, d2, hv⟩ := w
        refine ⟨_, rfl, v, deepT 3000, NT, rfl, hv, d2.tok, fun H3 e3 => ?_⟩
        rw [deep_no]
        exact ⟨false, false, rfl, rfl, k H3⟩
end
end LW
namespace LW
open PySem PySem.Spec PyProof.Rows L2 GxR FW GA EN SL TM

def d_is_integer : He.DefD := ⟨("is_integer", none), "is_integer", "is_integer", defArgs s_is_integer, defBody s_is_integer, defScope s_is_integer, [], []⟩
def d_is_index : He.DefD := ⟨("is_index", none), "is_index", "is_index", defArgs s_is_index, defBody s_is_index, defScope s_is_index, [], []⟩
def d_is_tuple_of : He.DefD := ⟨("is_tuple_of", none), "is_tuple_of", "is_tuple_of", defArgs s_is_tuple_of, defBody s_is_tuple_of, defScope s_is_tuple_of, [], []⟩
def d_is_name : He.DefD := ⟨("is_name", none), "is_name", "is_name", defArgs s_is_name, defBody s_is_name, defScope s_is_name, [], []⟩
def d_are_parts : He.DefD := ⟨("are_parts", none), "are_parts", "are_parts", defArgs s_are_parts, defBody s_are_parts, defScope s_are_parts, [], []⟩
def d_is_constructor : He.DefD := ⟨("is_constructor", none), "is_constructor", "is_constructor", defArgs s_is_constructor, defBody s_is_constructor, defScope s_is_constructor, [], []⟩
def d_is_kind_form : He.DefD := ⟨("is_kind_form", none), "is_kind_form", "is_kind_form", defArgs s_is_kind_form, defBody s_is_kind_form, defScope s_is_kind_form, [], []⟩
def d_kinds_with_values : He.DefD := ⟨("kinds_with_values", none), "kinds_with_values", "kinds_with_values", defArgs s_kinds_with_values, defBody s_kinds_with_values, defScope s_kinds_with_values, [], []⟩
def d_is_signature_form : He.DefD := ⟨("is_signature_form", none), "is_signature_form", "is_signature_form", defArgs s_is_signature_form, defBody s_is_signature_form, defScope s_is_signature_form, [], []⟩
def d_is_signature : He.DefD := ⟨("is_signature", none), "is_signature", "is_signature", defArgs s_is_signature, defBody s_is_signature, defScope s_is_signature, [], []⟩
def d__law_stream : He.DefD := ⟨("_law_stream", none), "_law_stream", "_law_stream", defArgs s__law_stream, defBody s__law_stream, defScope s__law_stream, [], []⟩
def d__law_next : He.DefD := ⟨("_law_next", none), "_law_next", "_law_next", defArgs s__law_next, defBody s__law_next, defScope s__law_next, [], []⟩
def d__law_pick : He.DefD := ⟨("_law_pick", none), "_law_pick", "_law_pick", defArgs s__law_pick, defBody s__law_pick, defScope s__law_pick, [], []⟩
def d__law_order : He.DefD := ⟨("_law_order", none), "_law_order", "_law_order", defArgs s__law_order, defBody s__law_order, defScope s__law_order, [], []⟩
def d__law_is_integer : He.DefD := ⟨("_law_is_integer", none), "_law_is_integer", "_law_is_integer", defArgs s__law_is_integer, defBody s__law_is_integer, defScope s__law_is_integer, [], []⟩
def d__law_same : He.DefD := ⟨("_law_same", none), "_law_same", "_law_same", defArgs s__law_same, defBody s__law_same, defScope s__law_same, [], []⟩
def d__law_word : He.DefD := ⟨("_law_word", none), "_law_word", "_law_word", defArgs s__law_word, defBody s__law_word, defScope s__law_word, [], []⟩
def d__law_names : He.DefD := ⟨("_law_names", none), "_law_names", "_law_names", defArgs s__law_names, defBody s__law_names, defScope s__law_names, [], []⟩
def d__law_any_signature : He.DefD := ⟨("_law_any_signature", none), "_law_any_signature", "_law_any_signature", defArgs s__law_any_signature, defBody s__law_any_signature, defScope s__law_any_signature, [], []⟩
def d__law_rich_signature : He.DefD := ⟨("_law_rich_signature", none), "_law_rich_signature", "_law_rich_signature", defArgs s__law_rich_signature, defBody s__law_rich_signature, defScope s__law_rich_signature, [], []⟩
def d__law_signature : He.DefD := ⟨("_law_signature", none), "_law_signature", "_law_signature", defArgs s__law_signature, defBody s__law_signature, defScope s__law_signature, [], []⟩
def d__law_loose_signature : He.DefD := ⟨("_law_loose_signature", none), "_law_loose_signature", "_law_loose_signature", defArgs s__law_loose_signature, defBody s__law_loose_signature, defScope s__law_loose_signature, [], []⟩
def d__law_all_have_values : He.DefD := ⟨("_law_all_have_values", none), "_law_all_have_values", "_law_all_have_values", defArgs s__law_all_have_values, defBody s__law_all_have_values, defScope s__law_all_have_values, [], []⟩
def d__law_fresh : He.DefD := ⟨("_law_fresh", none), "_law_fresh", "_law_fresh", defArgs s__law_fresh, defBody s__law_fresh, defScope s__law_fresh, [], []⟩
def d__law_with_kind : He.DefD := ⟨("_law_with_kind", none), "_law_with_kind", "_law_with_kind", defArgs s__law_with_kind, defBody s__law_with_kind, defScope s__law_with_kind, [], []⟩
def d__law_put_in : He.DefD := ⟨("_law_put_in", none), "_law_put_in", "_law_put_in", defArgs s__law_put_in, defBody s__law_put_in, defScope s__law_put_in, [], []⟩
def d__law_spoilt_kind : He.DefD := ⟨("_law_spoilt_kind", none), "_law_spoilt_kind", "_law_spoilt_kind", defArgs s__law_spoilt_kind, defBody s__law_spoilt_kind, defScope s__law_spoilt_kind, [], []⟩
def d__law_spoilt_constructor : He.DefD := ⟨("_law_spoilt_constructor", none), "_law_spoilt_constructor", "_law_spoilt_constructor", defArgs s__law_spoilt_constructor, defBody s__law_spoilt_constructor, defScope s__law_spoilt_constructor, [], []⟩
def d__law_spoilt : He.DefD := ⟨("_law_spoilt", none), "_law_spoilt", "_law_spoilt", defArgs s__law_spoilt, defBody s__law_spoilt, defScope s__law_spoilt, [], []⟩
def d_law : He.DefD := ⟨("law", none), "law", "law", defArgs s_law, defBody s_law, defScope s_law, [], []⟩
def fnL : List He.DefD := [d_is_integer, d_is_index, d_is_tuple_of, d_is_name, d_are_parts, d_is_constructor, d_is_kind_form, d_kinds_with_values, d_is_signature_form, d_is_signature, d__law_stream, d__law_next, d__law_pick, d__law_order, d__law_is_integer, d__law_same, d__law_word, d__law_names, d__law_any_signature, d__law_rich_signature, d__law_signature, d__law_loose_signature, d__law_all_have_values, d__law_fresh, d__law_with_kind, d__law_put_in, d__law_spoilt_kind, d__law_spoilt_constructor, d__law_spoilt, d_law]
def faL : List He.Fa := [.glo "is_integer", .glo "is_index", .glo "is_tuple_of", .glo "is_name", .glo "are_parts", .glo "is_constructor", .glo "is_kind_form", .glo "kinds_with_values", .glo "is_signature_form", .glo "is_signature", .glo "_law_stream", .glo "_law_next", .glo "_law_pick", .glo "_law_order", .glo "_law_is_integer", .glo "_law_same", .glo "_law_word", .glo "_law_names", .glo "_law_any_signature", .glo "_law_rich_signature", .glo "_law_signature", .glo "_law_loose_signature", .glo "_law_all_have_values", .glo "_law_fresh", .glo "_law_with_kind", .glo "_law_put_in", .glo "_law_spoilt_kind", .glo "_law_spoilt_constructor", .glo "_law_spoilt", .glo "law", .free "abs", .free "all", .free "any", .free "bool", .free "enumerate", .free "int", .free "isinstance", .free "len", .free "list", .free "max", .free "range", .free "set", .free "str", .free "sum", .free "tuple", .int "MOST_CONSTRUCTORS" 4, .int "MOST_KINDS" 3, .int "MOST_PARTS" 2]
def tfL : List He.Defn := [("is_name", none), ("are_parts", none), ("is_kind_form", none), ("is_signature_form", none)]
theorem toFun {K : PySem.W.Frag} {x : Str} {st : Stmt} {f : Addr} {fd : FuncData} (F : FunD K x x (defArgs st) (defBody st) (defScope st) [] [] f fd) : Fun K x x st f fd := by
  obtain ⟨oc, od, dV, kV, doc, pm, an, cdv, ct, osl, rfl, lk, hcd, hD, _⟩ := F.ex
  rcases hD with ⟨_, rfl⟩ | ⟨z, _⟩
  · exact ⟨⟨oc, od, kV, doc, pm, an, cdv, ct, osl, rfl, lk, hcd⟩, F.kp⟩
  · exact absurd rfl z
theorem toFunC {K : PySem.W.Frag} {x : Str} {st : Stmt} {fd : FuncData} (F : FunD K x x (defArgs st) (defBody st) (defScope st) [] [] (He.fAd K (x, none)) fd) : FunC K x x st (He.fAd K (x, none)) fd (He.codeOf K (x, none)) := by
  obtain ⟨oc, od, dV, kV, doc, pm, an, cdv, ct, osl, rfl, lk, hcd, hD, _⟩ := F.ex
  rcases hD with ⟨_, rfl⟩ | ⟨z, _⟩
  · obtain ⟨c, rfl⟩ := He.codeIn_ref hcd
    have e : He.codeOf K (x, none) = c := He.codeOf_eq lk rfl
    rw [e]
    exact ⟨⟨oc, od, kV, doc, pm, an, ct, osl, rfl, lk, hcd⟩, F.kp⟩
  · exact absurd rfl z

theorem all_defs {P : Program} {w : World} {K : PySem.W.Frag} {h : Heap} {mg : Str → Option Value} {f : Addr} (X : K.In h) (G0 : h.Ns mainGlobals mg) (c : He.SaysX faL fnL [] tfL (fun _ => true) w h K) (hfa : mg ("law" : Str) = some (.ref f)) :
    ∃ fd : FuncData, (∀ (s : Shared) (u : Value), BindsTo s fd ⟨[u], []⟩ [("script", u)]) ∧ ∀ base : Heap, (∀ p ∈ tfL.map (He.cT K), TabB base mg p.1 p.2) → FnOk P w K mg base CX0 17 f fd ["script"] (spLaw K (tfL.map (He.cT K))) := by
  obtain ⟨fd_is_integer, F_is_integer⟩ := c.t.d.def_ 0 (d := d_is_integer) rfl
  obtain ⟨fd_is_index, F_is_index⟩ := c.t.d.def_ 1 (d := d_is_index) rfl
  obtain ⟨fd_is_tuple_of, F_is_tuple_of⟩ := c.t.d.def_ 2 (d := d_is_tuple_of) rfl
  obtain ⟨fd_is_name, F_is_name⟩ := c.t.d.def_ 3 (d := d_is_name) rfl
  obtain ⟨fd_are_parts, F_are_parts⟩ := c.t.d.def_ 4 (d := d_are_parts) rfl
  obtain ⟨fd_is_constructor, F_is_constructor⟩ := c.t.d.def_ 5 (d := d_is_constructor) rfl
  obtain ⟨fd_is_kind_form, F_is_kind_form⟩ := c.t.d.def_ 6 (d := d_is_kind_form) rfl
  obtain ⟨fd_kinds_with_values, F_kinds_with_values⟩ := c.t.d.def_ 7 (d := d_kinds_with_values) rfl
  obtain ⟨fd_is_signature_form, F_is_signature_form⟩ := c.t.d.def_ 8 (d := d_is_signature_form) rfl
  obtain ⟨fd_is_signature, F_is_signature⟩ := c.t.d.def_ 9 (d := d_is_signature) rfl
  obtain ⟨fd__law_stream, F__law_stream⟩ := c.t.d.def_ 10 (d := d__law_stream) rfl
  obtain ⟨fd__law_next, F__law_next⟩ := c.t.d.def_ 11 (d := d__law_next) rfl
  obtain ⟨fd__law_pick, F__law_pick⟩ := c.t.d.def_ 12 (d := d__law_pick) rfl
  obtain ⟨fd__law_order, F__law_order⟩ := c.t.d.def_ 13 (d := d__law_order) rfl
  obtain ⟨fd__law_is_integer, F__law_is_integer⟩ := c.t.d.def_ 14 (d := d__law_is_integer) rfl
  obtain ⟨fd__law_same, F__law_same⟩ := c.t.d.def_ 15 (d := d__law_same) rfl
  obtain ⟨fd__law_word, F__law_word⟩ := c.t.d.def_ 16 (d := d__law_word) rfl
  obtain ⟨fd__law_names, F__law_names⟩ := c.t.d.def_ 17 (d := d__law_names) rfl
  obtain ⟨fd__law_any_signature, F__law_any_signature⟩ := c.t.d.def_ 18 (d := d__law_any_signature) rfl
  obtain ⟨fd__law_rich_signature, F__law_rich_signature⟩ := c.t.d.def_ 19 (d := d__law_rich_signature) rfl
  obtain ⟨fd__law_signature, F__law_signature⟩ := c.t.d.def_ 20 (d := d__law_signature) rfl
  obtain ⟨fd__law_loose_signature, F__law_loose_signature⟩ := c.t.d.def_ 21 (d := d__law_loose_signature) rfl
  obtain ⟨fd__law_all_have_values, F__law_all_have_values⟩ := c.t.d.def_ 22 (d := d__law_all_have_values) rfl
  obtain ⟨fd__law_fresh, F__law_fresh⟩ := c.t.d.def_ 23 (d := d__law_fresh) rfl
  obtain ⟨fd__law_with_kind, F__law_with_kind⟩ := c.t.d.def_ 24 (d := d__law_with_kind) rfl
  obtain ⟨fd__law_put_in, F__law_put_in⟩ := c.t.d.def_ 25 (d := d__law_put_in) rfl
  obtain ⟨fd__law_spoilt_kind, F__law_spoilt_kind⟩ := c.t.d.def_ 26 (d := d__law_spoilt_kind) rfl
  obtain ⟨fd__law_spoilt_constructor, F__law_spoilt_constructor⟩ := c.t.d.def_ 27 (d := d__law_spoilt_constructor) rfl
  obtain ⟨fd__law_spoilt, F__law_spoilt⟩ := c.t.d.def_ 28 (d := d__law_spoilt) rfl
  obtain ⟨fd_law, F_law⟩ := c.t.d.def_ 29 (d := d_law) rfl
  have g_is_integer := He.glo_ok X G0 (c.t.d.fact 0 (f := .glo "is_integer") rfl)
  have g_is_index := He.glo_ok X G0 (c.t.d.fact 1 (f := .glo "is_index") rfl)
  have g_is_tuple_of := He.glo_ok X G0 (c.t.d.fact 2 (f := .glo "is_tuple_of") rfl)
  have g_is_name := He.glo_ok X G0 (c.t.d.fact 3 (f := .glo "is_name") rfl)
  have g_are_parts := He.glo_ok X G0 (c.t.d.fact 4 (f := .glo "are_parts") rfl)
  have g_is_constructor := He.glo_ok X G0 (c.t.d.fact 5 (f := .glo "is_constructor") rfl)
  have g_is_kind_form := He.glo_ok X G0 (c.t.d.fact 6 (f := .glo "is_kind_form") rfl)
  have g_kinds_with_values := He.glo_ok X G0 (c.t.d.fact 7 (f := .glo "kinds_with_values") rfl)
  have g_is_signature_form := He.glo_ok X G0 (c.t.d.fact 8 (f := .glo "is_signature_form") rfl)
  have g_is_signature := He.glo_ok X G0 (c.t.d.fact 9 (f := .glo "is_signature") rfl)
  have g__law_stream := He.glo_ok X G0 (c.t.d.fact 10 (f := .glo "_law_stream") rfl)
  have g__law_next := He.glo_ok X G0 (c.t.d.fact 11 (f := .glo "_law_next") rfl)
  have g__law_pick := He.glo_ok X G0 (c.t.d.fact 12 (f := .glo "_law_pick") rfl)
  have g__law_order := He.glo_ok X G0 (c.t.d.fact 13 (f := .glo "_law_order") rfl)
  have g__law_is_integer := He.glo_ok X G0 (c.t.d.fact 14 (f := .glo "_law_is_integer") rfl)
  have g__law_same := He.glo_ok X G0 (c.t.d.fact 15 (f := .glo "_law_same") rfl)
  have g__law_word := He.glo_ok X G0 (c.t.d.fact 16 (f := .glo "_law_word") rfl)
  have g__law_names := He.glo_ok X G0 (c.t.d.fact 17 (f := .glo "_law_names") rfl)
  have g__law_any_signature := He.glo_ok X G0 (c.t.d.fact 18 (f := .glo "_law_any_signature") rfl)
  have g__law_rich_signature := He.glo_ok X G0 (c.t.d.fact 19 (f := .glo "_law_rich_signature") rfl)
  have g__law_signature := He.glo_ok X G0 (c.t.d.fact 20 (f := .glo "_law_signature") rfl)
  have g__law_loose_signature := He.glo_ok X G0 (c.t.d.fact 21 (f := .glo "_law_loose_signature") rfl)
  have g__law_all_have_values := He.glo_ok X G0 (c.t.d.fact 22 (f := .glo "_law_all_have_values") rfl)
  have g__law_fresh := He.glo_ok X G0 (c.t.d.fact 23 (f := .glo "_law_fresh") rfl)
  have g__law_with_kind := He.glo_ok X G0 (c.t.d.fact 24 (f := .glo "_law_with_kind") rfl)
  have g__law_put_in := He.glo_ok X G0 (c.t.d.fact 25 (f := .glo "_law_put_in") rfl)
  have g__law_spoilt_kind := He.glo_ok X G0 (c.t.d.fact 26 (f := .glo "_law_spoilt_kind") rfl)
  have g__law_spoilt_constructor := He.glo_ok X G0 (c.t.d.fact 27 (f := .glo "_law_spoilt_constructor") rfl)
  have g__law_spoilt := He.glo_ok X G0 (c.t.d.fact 28 (f := .glo "_law_spoilt") rfl)
  have g_law := He.glo_ok X G0 (c.t.d.fact 29 (f := .glo "law") rfl)
  obtain ⟨t_MOST_CONSTRUCTORS, h_MOST_CONSTRUCTORS⟩ := He.int_ok X G0 (c.t.d.fact 45 (f := .int "MOST_CONSTRUCTORS" 4) rfl)
  obtain ⟨t_MOST_KINDS, h_MOST_KINDS⟩ := He.int_ok X G0 (c.t.d.fact 46 (f := .int "MOST_KINDS" 3) rfl)
  obtain ⟨t_MOST_PARTS, h_MOST_PARTS⟩ := He.int_ok X G0 (c.t.d.fact 47 (f := .int "MOST_PARTS" 2) rfl)
  have G : Glo mg := ⟨He.free_ok X G0 (c.t.d.fact 30 (f := .free "abs") rfl), He.free_ok X G0 (c.t.d.fact 31 (f := .free "all") rfl), He.free_ok X G0 (c.t.d.fact 32 (f := .free "any") rfl), He.free_ok X G0 (c.t.d.fact 33 (f := .free "bool") rfl), He.free_ok X G0 (c.t.d.fact 34 (f := .free "enumerate") rfl), He.free_ok X G0 (c.t.d.fact 35 (f := .free "int") rfl), He.free_ok X G0 (c.t.d.fact 36 (f := .free "isinstance") rfl), He.free_ok X G0 (c.t.d.fact 37 (f := .free "len") rfl), He.free_ok X G0 (c.t.d.fact 38 (f := .free "list") rfl), He.free_ok X G0 (c.t.d.fact 39 (f := .free "max") rfl), He.free_ok X G0 (c.t.d.fact 40 (f := .free "range") rfl), He.free_ok X G0 (c.t.d.fact 41 (f := .free "set") rfl), He.free_ok X G0 (c.t.d.fact 42 (f := .free "str") rfl), He.free_ok X G0 (c.t.d.fact 43 (f := .free "sum") rfl), He.free_ok X G0 (c.t.d.fact 44 (f := .free "tuple") rfl), ⟨_, h_MOST_CONSTRUCTORS, ⟨_, rfl⟩⟩, ⟨_, h_MOST_KINDS, ⟨_, rfl⟩⟩, ⟨_, h_MOST_PARTS, ⟨_, rfl⟩⟩⟩
  have e := hfa.symm.trans g_law
  cases e
  have H_is_integer : Fun K "is_integer" "is_integer" s_is_integer (He.ga K "is_integer") fd_is_integer := toFun F_is_integer
  have b_is_integer : Binds K fd_is_integer P_is_integer [] := H_is_integer.binds fun _ _ _ _ _ _ us hl => match us, hl with | [_], _ => rfl
  have H_is_index : Fun K "is_index" "is_index" s_is_index (He.ga K "is_index") fd_is_index := toFun F_is_index
  have b_is_index : Binds K fd_is_index P_is_index [] := H_is_index.binds fun _ _ _ _ _ _ us hl => match us, hl with | [_, _], _ => rfl
  have H_is_tuple_of : Fun K "is_tuple_of" "is_tuple_of" s_is_tuple_of (He.ga K "is_tuple_of") fd_is_tuple_of := toFun F_is_tuple_of
  have b_is_tuple_of : Binds K fd_is_tuple_of P_is_tuple_of [] := H_is_tuple_of.binds fun _ _ _ _ _ _ us hl => match us, hl with | [_, _, _], _ => rfl
  have H_is_name : Fun K "is_name" "is_name" s_is_name (He.ga K "is_name") fd_is_name := toFun F_is_name
  have b_is_name : Binds K fd_is_name P_is_name [] := H_is_name.binds fun _ _ _ _ _ _ us hl => match us, hl with | [_], _ => rfl
  have H_are_parts : Fun K "are_parts" "are_parts" s_are_parts (He.ga K "are_parts") fd_are_parts := toFun F_are_parts
  have b_are_parts : Binds K fd_are_parts P_are_parts [] := H_are_parts.binds fun _ _ _ _ _ _ us hl => match us, hl with | [_, _], _ => rfl
  have H_is_constructor : Fun K "is_constructor" "is_constructor" s_is_constructor (He.ga K "is_constructor") fd_is_constructor := toFun F_is_constructor
  have b_is_constructor : Binds K fd_is_constructor P_is_constructor [] := H_is_constructor.binds fun _ _ _ _ _ _ us hl => match us, hl with | [_, _], _ => rfl
  have H_is_kind_form : Fun K "is_kind_form" "is_kind_form" s_is_kind_form (He.ga K "is_kind_form") fd_is_kind_form := toFun F_is_kind_form
  have b_is_kind_form : Binds K fd_is_kind_form P_is_kind_form [] := H_is_kind_form.binds fun _ _ _ _ _ _ us hl => match us, hl with | [_, _], _ => rfl
  have H_kinds_with_values : Fun K "kinds_with_values" "kinds_with_values" s_kinds_with_values (He.ga K "kinds_with_values") fd_kinds_with_values := toFun F_kinds_with_values
  have b_kinds_with_values : Binds K fd_kinds_with_values P_kinds_with_values [] := H_kinds_with_values.binds fun _ _ _ _ _ _ us hl => match us, hl with | [_], _ => rfl
  have H_is_signature_form : Fun K "is_signature_form" "is_signature_form" s_is_signature_form (He.ga K "is_signature_form") fd_is_signature_form := toFun F_is_signature_form
  have b_is_signature_form : Binds K fd_is_signature_form P_is_signature_form [] := H_is_signature_form.binds fun _ _ _ _ _ _ us hl => match us, hl with | [_], _ => rfl
  have H_is_signature : Fun K "is_signature" "is_signature" s_is_signature (He.ga K "is_signature") fd_is_signature := toFun F_is_signature
  have b_is_signature : Binds K fd_is_signature P_is_signature [] := H_is_signature.binds fun _ _ _ _ _ _ us hl => match us, hl with | [_], _ => rfl
  have H__law_stream : Fun K "_law_stream" "_law_stream" s__law_stream (He.ga K "_law_stream") fd__law_stream := toFun F__law_stream
  have b__law_stream : Binds K fd__law_stream P__law_stream [] := H__law_stream.binds fun _ _ _ _ _ _ us hl => match us, hl with | [_], _ => rfl
  have H__law_next : Fun K "_law_next" "_law_next" s__law_next (He.ga K "_law_next") fd__law_next := toFun F__law_next
  have b__law_next : Binds K fd__law_next P__law_next [] := H__law_next.binds fun _ _ _ _ _ _ us hl => match us, hl with | [_, _], _ => rfl
  have H__law_pick : Fun K "_law_pick" "_law_pick" s__law_pick (He.ga K "_law_pick") fd__law_pick := toFun F__law_pick
  have b__law_pick : Binds K fd__law_pick P__law_pick [] := H__law_pick.binds fun _ _ _ _ _ _ us hl => match us, hl with | [_, _], _ => rfl
  have H__law_order : Fun K "_law_order" "_law_order" s__law_order (He.ga K "_law_order") fd__law_order := toFun F__law_order
  have b__law_order : Binds K fd__law_order P__law_order [] := H__law_order.binds fun _ _ _ _ _ _ us hl => match us, hl with | [_, _], _ => rfl
  have H__law_same : Fun K "_law_same" "_law_same" s__law_same (He.ga K "_law_same") fd__law_same := toFun F__law_same
  have b__law_same : Binds K fd__law_same P__law_same [] := H__law_same.binds fun _ _ _ _ _ _ us hl => match us, hl with | [_, _], _ => rfl
  have H__law_word : Fun K "_law_word" "_law_word" s__law_word (He.ga K "_law_word") fd__law_word := toFun F__law_word
  have b__law_word : Binds K fd__law_word P__law_word [] := H__law_word.binds fun _ _ _ _ _ _ us hl => match us, hl with | [_, _, _], _ => rfl
  have H__law_names : Fun K "_law_names" "_law_names" s__law_names (He.ga K "_law_names") fd__law_names := toFun F__law_names
  have b__law_names : Binds K fd__law_names P__law_names [] := H__law_names.binds fun _ _ _ _ _ _ us hl => match us, hl with | [_, _, _], _ => rfl
  have H__law_any_signature : Fun K "_law_any_signature" "_law_any_signature" s__law_any_signature (He.ga K "_law_any_signature") fd__law_any_signature := toFun F__law_any_signature
  have b__law_any_signature : Binds K fd__law_any_signature P__law_any_signature [] := H__law_any_signature.binds fun _ _ _ _ _ _ us hl => match us, hl with | [_], _ => rfl
  have H__law_rich_signature : Fun K "_law_rich_signature" "_law_rich_signature" s__law_rich_signature (He.ga K "_law_rich_signature") fd__law_rich_signature := toFun F__law_rich_signature
  have b__law_rich_signature : Binds K fd__law_rich_signature P__law_rich_signature [] := H__law_rich_signature.binds fun _ _ _ _ _ _ us hl => match us, hl with | [_], _ => rfl
  have H__law_signature : Fun K "_law_signature" "_law_signature" s__law_signature (He.ga K "_law_signature") fd__law_signature := toFun F__law_signature
  have b__law_signature : Binds K fd__law_signature P__law_signature [] := H__law_signature.binds fun _ _ _ _ _ _ us hl => match us, hl with | [_], _ => rfl
  have H__law_loose_signature : Fun K "_law_loose_signature" "_law_loose_signature" s__law_loose_signature (He.ga K "_law_loose_signature") fd__law_loose_signature := toFun F__law_loose_signature
  have b__law_loose_signature : Binds K fd__law_loose_signature P__law_loose_signature [] := H__law_loose_signature.binds fun _ _ _ _ _ _ us hl => match us, hl with | [_], _ => rfl
  have H__law_all_have_values : Fun K "_law_all_have_values" "_law_all_have_values" s__law_all_have_values (He.ga K "_law_all_have_values") fd__law_all_have_values := toFun F__law_all_have_values
  have b__law_all_have_values : Binds K fd__law_all_have_values P__law_all_have_values [] := H__law_all_have_values.binds fun _ _ _ _ _ _ us hl => match us, hl with | [_], _ => rfl
  have H__law_fresh : Fun K "_law_fresh" "_law_fresh" s__law_fresh (He.ga K "_law_fresh") fd__law_fresh := toFun F__law_fresh
  have b__law_fresh : Binds K fd__law_fresh P__law_fresh [] := H__law_fresh.binds fun _ _ _ _ _ _ us hl => match us, hl with | [_], _ => rfl
  have H__law_with_kind : Fun K "_law_with_kind" "_law_with_kind" s__law_with_kind (He.ga K "_law_with_kind") fd__law_with_kind := toFun F__law_with_kind
  have b__law_with_kind : Binds K fd__law_with_kind P__law_with_kind [] := H__law_with_kind.binds fun _ _ _ _ _ _ us hl => match us, hl with | [_, _, _], _ => rfl
  have H__law_put_in : Fun K "_law_put_in" "_law_put_in" s__law_put_in (He.ga K "_law_put_in") fd__law_put_in := toFun F__law_put_in
  have b__law_put_in : Binds K fd__law_put_in P__law_put_in [] := H__law_put_in.binds fun _ _ _ _ _ _ us hl => match us, hl with | [_, _, _], _ => rfl
  have H__law_spoilt_kind : Fun K "_law_spoilt_kind" "_law_spoilt_kind" s__law_spoilt_kind (He.ga K "_law_spoilt_kind") fd__law_spoilt_kind := toFun F__law_spoilt_kind
  have b__law_spoilt_kind : Binds K fd__law_spoilt_kind P__law_spoilt_kind [] := H__law_spoilt_kind.binds fun _ _ _ _ _ _ us hl => match us, hl with | [_, _], _ => rfl
  have H__law_spoilt_constructor : Fun K "_law_spoilt_constructor" "_law_spoilt_constructor" s__law_spoilt_constructor (He.ga K "_law_spoilt_constructor") fd__law_spoilt_constructor := toFun F__law_spoilt_constructor
  have b__law_spoilt_constructor : Binds K fd__law_spoilt_constructor P__law_spoilt_constructor [] := H__law_spoilt_constructor.binds fun _ _ _ _ _ _ us hl => match us, hl with | [_, _], _ => rfl
  have H__law_spoilt : Fun K "_law_spoilt" "_law_spoilt" s__law_spoilt (He.ga K "_law_spoilt") fd__law_spoilt := toFun F__law_spoilt
  have b__law_spoilt : Binds K fd__law_spoilt P__law_spoilt [] := H__law_spoilt.binds fun _ _ _ _ _ _ us hl => match us, hl with | [_, _], _ => rfl
  have H_law : Fun K "law" "law" s_law (He.ga K "law") fd_law := toFun F_law
  have b_law : Binds K fd_law P_law [] := H_law.binds fun _ _ _ _ _ _ us hl => match us, hl with | [_], _ => rfl
  refine ⟨fd_law, fun s u => FunD.bindsA (ps := ["script"]) F_law (fun _ _ _ _ _ _ us hl => match us, hl with | [_], _ => rfl) s [u] rfl, fun base TB => ?_⟩
  have m_is_name : (He.cT K ("is_name", none)) ∈ tfL.map (He.cT K) := List.mem_map.mpr ⟨("is_name", none), by unfold tfL; simp, rfl⟩
  have m_are_parts : (He.cT K ("are_parts", none)) ∈ tfL.map (He.cT K) := List.mem_map.mpr ⟨("are_parts", none), by unfold tfL; simp, rfl⟩
  have m_is_kind_form : (He.cT K ("is_kind_form", none)) ∈ tfL.map (He.cT K) := List.mem_map.mpr ⟨("is_kind_form", none), by unfold tfL; simp, rfl⟩
  have m_is_signature_form : (He.cT K ("is_signature_form", none)) ∈ tfL.map (He.cT K) := List.mem_map.mpr ⟨("is_signature_form", none), by unfold tfL; simp, rfl⟩
  have D_is_integer : Df P w K mg base 1 "is_integer" P_is_integer (spT1 K (tfL.map (He.cT K)) isIntT) := ⟨_, fd_is_integer, ok_is_integer H_is_integer G, g_is_integer, F_is_integer.kp, b_is_integer⟩
  have D_is_index : Df P w K mg base 2 "is_index" P_is_index (spT2 K (tfL.map (He.cT K)) isIndexT) := ⟨_, fd_is_index, ok_is_index H_is_index D_is_integer, g_is_index, F_is_index.kp, b_is_index⟩
  have D_is_tuple_of : Df P w K mg base 1 "is_tuple_of" P_is_tuple_of (spT3 K (tfL.map (He.cT K)) isTupT) := ⟨_, fd_is_tuple_of, ok_is_tuple_of H_is_tuple_of G, g_is_tuple_of, F_is_tuple_of.kp, b_is_tuple_of⟩
  have D_is_name : Df P w K mg base 6 "is_name" P_is_name (spT1 K (tfL.map (He.cT K)) isNameT) := ⟨_, fd_is_name, ok_is_name (toFunC (x := "is_name") (st := s_is_name) F_is_name) (TB _ m_is_name) m_is_name G, g_is_name, F_is_name.kp, b_is_name⟩
  have D_are_parts : Df P w K mg base 6 "are_parts" P_are_parts (spT2 K (tfL.map (He.cT K)) arePartsT) := ⟨_, fd_are_parts, ok_are_parts (toFunC (x := "are_parts") (st := s_are_parts) F_are_parts) (TB _ m_are_parts) m_are_parts G D_is_tuple_of D_is_index, g_are_parts, F_are_parts.kp, b_are_parts⟩
  have D_is_constructor : Df P w K mg base 7 "is_constructor" P_is_constructor (spT2 K (tfL.map (He.cT K)) isConsT) := ⟨_, fd_is_constructor, ok_is_constructor H_is_constructor D_is_tuple_of D_is_name D_are_parts, g_is_constructor, F_is_constructor.kp, b_is_constructor⟩
  have D_is_kind_form : Df P w K mg base 11 "is_kind_form" P_is_kind_form (spT2 K (tfL.map (He.cT K)) isKindT) := ⟨_, fd_is_kind_form, ok_is_kind_form (toFunC (x := "is_kind_form") (st := s_is_kind_form) F_is_kind_form) (TB _ m_is_kind_form) m_is_kind_form G D_is_tuple_of D_is_constructor, g_is_kind_form, F_is_kind_form.kp, b_is_kind_form⟩
  have D_kinds_with_values : Df P w K mg base 1 "kinds_with_values" P_kinds_with_values (spKwv K (tfL.map (He.cT K))) := ⟨_, fd_kinds_with_values, ok_kinds_with_values H_kinds_with_values G, g_kinds_with_values, F_kinds_with_values.kp, b_kinds_with_values⟩
  have D_is_signature_form : Df P w K mg base 15 "is_signature_form" P_is_signature_form (spT1 K (tfL.map (He.cT K)) isSigT) := ⟨_, fd_is_signature_form, ok_is_signature_form (toFunC (x := "is_signature_form") (st := s_is_signature_form) F_is_signature_form) (TB _ m_is_signature_form) m_is_signature_form G D_is_tuple_of D_is_kind_form D_kinds_with_values, g_is_signature_form, F_is_signature_form.kp, b_is_signature_form⟩
  have D_is_signature : Df P w K mg base 16 "is_signature" P_is_signature (spT1 K (tfL.map (He.cT K)) isSigT) := ⟨_, fd_is_signature, ok_is_signature H_is_signature D_is_signature_form, g_is_signature, F_is_signature.kp, b_is_signature⟩
  have D__law_stream : Df P w K mg base 1 "_law_stream" P__law_stream (spStream K (tfL.map (He.cT K))) := ⟨_, fd__law_stream, ok__law_stream H__law_stream G, g__law_stream, F__law_stream.kp, b__law_stream⟩
  have D__law_next : Df P w K mg base 1 "_law_next" P__law_next (spNext (tfL.map (He.cT K))) := ⟨_, fd__law_next, ok__law_next H__law_next G, g__law_next, F__law_next.kp, b__law_next⟩
  have D__law_pick : Df P w K mg base 2 "_law_pick" P__law_pick (spPick K (tfL.map (He.cT K))) := ⟨_, fd__law_pick, ok__law_pick H__law_pick G D__law_next, g__law_pick, F__law_pick.kp, b__law_pick⟩
  have D__law_order : Df P w K mg base 2 "_law_order" P__law_order (spOrder (tfL.map (He.cT K))) := ⟨_, fd__law_order, ok__law_order H__law_order G D__law_next, g__law_order, F__law_order.kp, b__law_order⟩
  have D__law_same : Df P w K mg base 1 "_law_same" P__law_same (spSame (tfL.map (He.cT K))) := ⟨_, fd__law_same, ok__law_same H__law_same G, g__law_same, F__law_same.kp, b__law_same⟩
  have D__law_word : Df P w K mg base 2 "_law_word" P__law_word (spWord (tfL.map (He.cT K))) := ⟨_, fd__law_word, ok__law_word H__law_word G D__law_next, g__law_word, F__law_word.kp, b__law_word⟩
  have D__law_names : Df P w K mg base 3 "_law_names" P__law_names (spNames (tfL.map (He.cT K))) := ⟨_, fd__law_names, ok__law_names H__law_names G D__law_next D__law_word, g__law_names, F__law_names.kp, b__law_names⟩
  have D__law_any_signature : Df P w K mg base 4 "_law_any_signature" P__law_any_signature (spSig K (tfL.map (He.cT K))) := ⟨_, fd__law_any_signature, ok__law_any_signature H__law_any_signature G D__law_next D__law_pick D__law_order D__law_names, g__law_any_signature, F__law_any_signature.kp, b__law_any_signature⟩
  have D__law_rich_signature : Df P w K mg base 4 "_law_rich_signature" P__law_rich_signature (spSig K (tfL.map (He.cT K))) := ⟨_, fd__law_rich_signature, ok__law_rich_signature H__law_rich_signature G D__law_next D__law_pick D__law_order D__law_names, g__law_rich_signature, F__law_rich_signature.kp, b__law_rich_signature⟩
  have D__law_signature : Df P w K mg base 5 "_law_signature" P__law_signature (spSig K (tfL.map (He.cT K))) := ⟨_, fd__law_signature, ok__law_signature H__law_signature G D__law_next D__law_any_signature D__law_rich_signature, g__law_signature, F__law_signature.kp, b__law_signature⟩
  have D__law_loose_signature : Df P w K mg base 4 "_law_loose_signature" P__law_loose_signature (spLoose K (tfL.map (He.cT K))) := ⟨_, fd__law_loose_signature, ok__law_loose_signature H__law_loose_signature G D__law_next D__law_names, g__law_loose_signature, F__law_loose_signature.kp, b__law_loose_signature⟩
  have D__law_all_have_values : Df P w K mg base 1 "_law_all_have_values" P__law_all_have_values (spAllV K (tfL.map (He.cT K))) := ⟨_, fd__law_all_have_values, ok__law_all_have_values H__law_all_have_values G, g__law_all_have_values, F__law_all_have_values.kp, b__law_all_have_values⟩
  have D__law_fresh : Df P w K mg base 1 "_law_fresh" P__law_fresh (spFresh K (tfL.map (He.cT K))) := ⟨_, fd__law_fresh, ok__law_fresh H__law_fresh G, g__law_fresh, F__law_fresh.kp, b__law_fresh⟩
  have D__law_with_kind : Df P w K mg base 1 "_law_with_kind" P__law_with_kind (spWith K (tfL.map (He.cT K))) := ⟨_, fd__law_with_kind, ok__law_with_kind H__law_with_kind G, g__law_with_kind, F__law_with_kind.kp, b__law_with_kind⟩
  have D__law_put_in : Df P w K mg base 2 "_law_put_in" P__law_put_in (spPut K (tfL.map (He.cT K))) := ⟨_, fd__law_put_in, ok__law_put_in H__law_put_in G D__law_next, g__law_put_in, F__law_put_in.kp, b__law_put_in⟩
  have D__law_spoilt_kind : Df P w K mg base 3 "_law_spoilt_kind" P__law_spoilt_kind (spSpoil K (tfL.map (He.cT K))) := ⟨_, fd__law_spoilt_kind, ok__law_spoilt_kind H__law_spoilt_kind G D__law_next D__law_pick D__law_fresh D__law_with_kind, g__law_spoilt_kind, F__law_spoilt_kind.kp, b__law_spoilt_kind⟩
  have D__law_spoilt_constructor : Df P w K mg base 3 "_law_spoilt_constructor" P__law_spoilt_constructor (spSpoil K (tfL.map (He.cT K))) := ⟨_, fd__law_spoilt_constructor, ok__law_spoilt_constructor H__law_spoilt_constructor G D__law_next D__law_pick D__law_fresh D__law_with_kind D__law_put_in, g__law_spoilt_constructor, F__law_spoilt_constructor.kp, b__law_spoilt_constructor⟩
  have D__law_spoilt : Df P w K mg base 4 "_law_spoilt" P__law_spoilt (spSpoil K (tfL.map (He.cT K))) := ⟨_, fd__law_spoilt, ok__law_spoilt H__law_spoilt G D__law_next D__law_pick D__law_spoilt_kind D__law_spoilt_constructor, g__law_spoilt, F__law_spoilt.kp, b__law_spoilt⟩
  exact ok_law H_law G D__law_stream D__law_signature D__law_same D_is_signature D__law_spoilt D__law_loose_signature D__law_all_have_values
end LW
namespace LW
open PySem PySem.Spec PyProof.Rows L2 GxR FW GA EN SL TM
abbrev R0 : PySem.W.OpenRow := PySem.W.OpenLaw.row PySem.Challenge.rw_closestfit_k01_whole_signatures
abbrev hkL : PySem.W.Hook := He.hookX 4 faL fnL [] tfL (fun _ => true)
def obL (s : PySem.W.SharedT) : He.AlX := He.obsX 4 faL fnL [] tfL (fun _ => true) (HandSHeadRun.getT s)
theorem obL_eq (s : PySem.W.SharedT) : obL s = hkL.obs s.abs := He.obsX_eq (HandSHeadRun.getT_eq s)
def looseL : List Str := ["MOST_KINDS", "MOST_CONSTRUCTORS", "MOST_PARTS", "is_integer", "is_index", "is_tuple_of", "is_name", "are_parts", "is_constructor", "is_kind_form", "kinds_with_values", "is_signature_form", "is_signature", "_law_stream", "_law_next", "_law_pick", "_law_order", "_law_is_integer", "_law_same", "_law_word", "_law_names", "_law_any_signature", "_law_rich_signature", "_law_signature", "_law_loose_signature", "_law_all_have_values", "_law_fresh", "_law_with_kind", "_law_put_in", "_law_spoilt_kind", "_law_spoilt_constructor", "_law_spoilt"]
theorem runL (w : World) : HandSHeadRun.RunEq R0 (PySem.W.view R0.prog [36]) hkL obL 2000 looseL w := by
  intro os
  kernel_rfl
end LW
open PySem PySem.W PySem.Calls PyProof.Rows
theorem PySem.Challenge.cw_closestfit_k01_whole_signatures_holds : PySem.Challenge.rw_closestfit_k01_whole_signatures.Holds := by
  w_on; o_law
  refine HandSHeadRun.head_any (r := LW.R0) (q := view LW.R0.prog [36]) (H := LW.hkL) (ob := LW.obL) (M := 2000) (loose := LW.looseL) (d := HandSHeadRun.topDef LW.R0.prog 36) (kwd := []) LW.obL_eq
    (by kernel_rfl) (fun s => by kernel_rfl) LW.runL (by kernel_rfl) (by kernel_rfl) (by kernel_rfl) (by rfl) (by first | assumption | decide +kernel) (by decide +kernel) ⟨rfl, rfl, rfl, rfl, rfl, by decide +kernel⟩ ?hw ?hc
  case hw => w_witness2
  case hc =>
    refine LamX.walk_ofTsE (l := PySem.Challenge.rw_closestfit_k01_whole_signatures) (n := 63) (k := 17) (x := "script") (CX := fun _ => L2.CX0) rfl (by decide) (by kernel_rfl) ⟨rfl, by decide, by decide⟩ ?F (fun _ _ _ _ _ z => z)
    intro w mg fa h Y G hmg0
    obtain ⟨K, KX, c⟩ := Y
    have hmg : mg ("law" : PySem.Str) = some (.ref fa) := by
      have e : (HandSHeadRun.topDef LW.R0.prog 36).name = ("law" : PySem.Str) := by kernel_rfl
      rw [← e]
      exact hmg0
    obtain ⟨fd, hb, hF⟩ := LW.all_defs (P := (PySem.Challenge.rw_closestfit_k01_whole_signatures).prog) (w := w) KX G c hmg
    refine ⟨K, KX, fd, LW.tfL.map (He.cT K), LW.spLaw K (LW.tfL.map (He.cT K)), fun p hp => ?_, fun p hp => ?_, fun p hp => ?_, hb, fun H a ns _ _ hT hS => ⟨a, ns, rfl, hS, fun p hp => ⟨#[], hT p hp, ?_⟩, fun _ => rfl⟩, fun base _ _ TB => hF base fun p hp => ?_⟩
    · obtain ⟨q, hq, rfl⟩ := List.mem_map.mp hp
      exact c.empty q hq
    · obtain ⟨q, hq, rfl⟩ := List.mem_map.mp hp
      exact c.out q hq
    · obtain ⟨q, hq, rfl⟩ := List.mem_map.mp hp
      exact codeHd_of_K KX (c.hd q hq)
    · trivial
    · have t := TB p hp
      exact ⟨t.code, t.bm, t.gP⟩
