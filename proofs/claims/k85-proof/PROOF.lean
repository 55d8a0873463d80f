import PyProof.Rows.All
import Wide.All
import OpenK.AllK
import Wide.FinOn
import HandS.ForMost
import HandS.GenList
import HandS.AnyAll
import HandS.Strs
import HandS.SetKeys
import PyProof.EnumMake
import PyProof.Draws
import KE.GoesMore
import HandS.IsInst
import HandS.EndTab
import HandS.ForExc
import HandS.ExcInit
import HandS.Nested
import KE.KExcSuper
import KE.KSuper
import HandS.HeadHook4
import HandS.ExcField
import HandS.Codes
import HandS.CallLocal
import HandS.FStr
import KE.KxLen
import HandS.TupAny
import PyProof.StrOps2
import HandS.TryOnly
import HandS.HeadWalk
import HandS.Head0
import HandS.Head1
import HandS.Head2
import HandS.HeadEnd
import PySem.Challenge.RW_closestfit_k85_whole_tokens_of_texts
set_option Elab.async false
set_option linter.all false
set_option maxRecDepth 100000
set_option maxHeartbeats 0
namespace GA
open PySem PySem.Spec PyProof.Rows L2 GenW GxR

/-- the context of a generator expression's own frame -/
abbrev gxc (X : Cx) (A : Around) (s : Shared) (H : Hp) (cenv : Env) (fp : List Addr) (pn : List (Addr × Obj)) : Cx :=
  { X with A := A, s_0 := s, H_0 := H, env := cenv, outer := X.stack, stack := cenv :: X.stack, ex := fp, fn := fun _ => false, calm := true, pn := pn, xe := fun _ _ => False }

abbrev gEnv (X : Cx) (scope : Scope) (C : Addr) (code : Value) : Env := genEnv scope (cloFrom X.env.cells scope.names []) C code builtinsNs X.env

section
variable {X : Cx} {pins : List (Addr × Obj)} {σ : L2.St} {H : Hp} {s : Shared}

theorem gx_start {A : Around} {scope : Scope} {own : List (Str × Nat)} {fp : List Addr} {code : Value} {h' : Heap} {g' : Array GenState} {tk : Nat} {pn : List (Addr × Obj)} {itv : Value}
    (I : Inv X pins σ H s) (ok : BlkOk X.N X.env.scope scope own) (hcell : ∀ y ∈ scope.names, y.2 ≠ .cell) (hN : X.N.Nodup) (hfp : ∀ b ∈ fp, FpOk X pins H b ∧ b < s.heap.objs.size)
    (hA : A.handled = none) (hfr : A.frames = some (gEnv X scope s.heap.objs.size code :: X.stack)) (hg : AllBare g')
    (hn : h'.Ns s.heap.objs.size (fun y => if y = ".0" then some itv else none))
    (hk : ∀ b o, s.heap.get? b = some o → h'.get? b = some o)
    (hpn : ∀ p ∈ pn, h'.get? p.1 = some p.2 ∧ s.heap.objs.size < p.1 ∧ ∀ v, p.2.data ≠ .cell v) :
    Inv (gxc X A s H (gEnv X scope s.heap.objs.size code) fp pn) [] (wipe σ (own.map (·.2))) H { s with heap := h', gens := g', toks := tk } := by
  have hfree : ∀ y ∈ scope.names, y.2 = .free → ∃ c, X.env.cells.lookup y.1 = some c := fun y hy e => by
    rcases ok.free y hy e with k | k
    · exact I.ok.has _ (.inl k)
    · exact I.ok.has _ (.inr k)
  generalize hcenv : gEnv X scope s.heap.objs.size code = cenv at hfr ⊢
  have hL : cenv.locals = s.heap.objs.size := by rw [← hcenv]; rfl
  have hcl : cenv.cells = cloFrom X.env.cells scope.names [] := by rw [← hcenv]; rfl
  have hsc : cenv.scope = scope := by rw [← hcenv]; rfl
  have cm : ∀ {y c}, (y, c) ∈ cloFrom X.env.cells scope.names [] → X.env.cells.lookup y = some c ∧ c < s.heap.objs.size := fun {y c} hm => by
    rcases cloFrom_mem hm with hm | ⟨h1, rfl⟩
    · cases hm
    · obtain ⟨c, hc⟩ := hfree _ h1 rfl
      rw [hc]
      obtain ⟨w, z⟩ := I.cell _ _ hc
      exact ⟨rfl, z.lt⟩
  have mem : ∀ {y c}, cenv.cells.lookup y = some c → X.env.cells.lookup y = some c ∧ c < s.heap.objs.size := fun {y c} e => by
    rw [hcl] at e
    exact cm (PySem.mem_of_lookup e)
  have look : ∀ {y}, scope.names.lookup y = some .free → ∃ c, cenv.cells.lookup y = some c ∧ X.env.cells.lookup y = some c := fun {y} hl => by
    have hy : (y, NameKind.free) ∈ scope.names := PySem.mem_of_lookup hl
    obtain ⟨c', e'⟩ := mem_lookup (cloFrom_has (cells := X.env.cells) (acc := []) hy)
    rw [← hcl] at e'
    exact ⟨c', e', (mem e').1⟩
  have okG : (gxc X A s H cenv fp pn).Ok := by
    refine ⟨I.ok.mod, by show cenv.scope.kind = _; rw [hsc]; exact ok.kind, by show cenv.globals = _; rw [← hcenv]; exact I.ok.glob, by show cenv.builtins = _; rw [← hcenv]; rfl, by show s.heap.objs.size ≤ cenv.locals; rw [hL]; exact Nat.le_refl _,
      fun y z c e1 e2 => ?_, fun y hy => ?_, fun y c z e => ?_, fun _ => hA, hfr, .inr ⟨rfl, by rw [hL, ← hcenv]; rfl⟩, fun b hb => ⟨?_, fun y c e z => ?_⟩, I.bs, Nat.le_trans I.ok.bsz I.sz, fun b o e hb => ?_, fun b hb z => ?_, I.stack, I.stkFree⟩
    · exact I.ok.inj y z c (mem e1).1 (mem e2).1
    · have key : ∀ k, scope.names.lookup y = some k → (k = .cell ∨ k = .free) → ∃ c, cenv.cells.lookup y = some c := fun k hk hk' => by
        rcases hk' with rfl | rfl
        · exact absurd rfl (hcell _ (PySem.mem_of_lookup hk))
        · obtain ⟨c, h1, _⟩ := look hk
          exact ⟨c, h1⟩
      rcases hy with hy | hy
      · exact key _ (by rw [← hsc]; exact hy) (.inl rfl)
      · exact key _ (by rw [← hsc]; exact hy) (.inr rfl)
    · cases z
    · show b ≠ cenv.locals
      rw [hL]; exact Nat.ne_of_lt (hfp b hb).2
    · exact (hfp b hb).1.2.2.2.2.1 y c (mem e).1 z
    · rcases (hfp b hb).1.2.2.2.1 with z | z
      · exact I.ok.noex b o e z
      · exact absurd (Nat.lt_of_lt_of_le (Heap.lt_size e) (Nat.le_trans I.ok.bsz z)) (Nat.lt_irrefl _)
    · rcases List.mem_cons.mp (I.stkSub b z) with z | z
      · exact (hfp b hb).1.2.1 z
      · exact (hfp b hb).1.2.2.1 z
  refine ⟨okG, rfl, hg, Un.kept hk, ⟨_, by show h'.Ns cenv.locals _; rw [hL]; exact hn, fun i y av e1 e2 e3 => ?_⟩, fun y c e => ?_, ?_, fun y c e => ?_, fun p hp => ?_, I.hok.kept hk, by rw [wipe_length]; exact I.len⟩
  · obtain ⟨e2, hne⟩ := wipe_some e2
    have hfr : scope.names.lookup y = some .free := by
      have key : ∀ k, scope.names.lookup y = some k → k = .local ∨ k = .cell ∨ k = .free → scope.names.lookup y = some .free := fun k hk hk' => by
        have no : ¬ (k = .local ∨ k = .cell) := fun hh => by
          rcases ok.own _ (PySem.mem_of_lookup hk) hh with e' | e'
          · obtain ⟨p, hp, hpy⟩ := List.mem_map.mp e'
            have e3 := ok.ix p hp
            have : p.1 = y := hpy
            rw [this] at e3
            exact hne (List.mem_map.mpr ⟨p, hp, nodup_ix hN e3 e1⟩)
          · exact e' (List.mem_of_getElem? e1)
        rcases hk' with rfl | rfl | rfl
        · exact absurd (.inl rfl) no
        · exact absurd (.inr rfl) no
        · exact hk
      have e3 : Vis cenv.scope y := e3
      rw [hsc] at e3
      rcases e3 with e3 | e3 | e3
      · exact key _ e3 (.inl rfl)
      · exact key _ e3 (.inr (.inl rfl))
      · exact key _ e3 (.inr (.inr rfl))
    obtain ⟨m, hn, hl⟩ := I.loc
    have hvis : Vis X.env.scope y := (ok.free _ (PySem.mem_of_lookup hfr) rfl).elim (fun k => .inr (.inl k)) (fun k => .inr (.inr k))
    obtain ⟨w, r, q⟩ := hl i y av e1 e2 hvis
    refine ⟨w, r, .inr ⟨.inr (by show cenv.scope.names.lookup y = _; rw [hsc]; exact hfr), ?_⟩⟩
    obtain ⟨c, h1, h2⟩ := look hfr
    rcases q with ⟨k, _⟩ | ⟨_, c', e', z⟩
    · have k : X.env.scope.names.lookup y = some .local := k
      rcases ok.free _ (PySem.mem_of_lookup hfr) rfl with k' | k' <;> rw [show X.env.scope.names.lookup y = _ from k'] at k <;> cases k
    · rw [h2] at e'; cases e'
      exact ⟨c, h1, z.keeps hk⟩
  · obtain ⟨w, z⟩ := I.cell y c (mem e).1
    exact ⟨w, z.keeps hk⟩
  · show H cenv.locals = none
    rw [hL]; exact I.hok.fresh (Nat.le_refl _)
  · exact I.freeC y c (mem e).1
  · rw [List.append_nil] at hp
    obtain ⟨q1, q2, q3⟩ := hpn p hp
    refine ⟨q1, I.hok.fresh (Nat.le_of_lt q2), ?_, ?_, q3⟩
    · show p.1 ≠ cenv.locals
      rw [hL]; exact Nat.ne_of_gt q2
    · intro z
      rcases List.mem_cons.mp (I.stkSub p.1 z) with z | z
      · have := I.lt
        rw [← z] at this
        exact absurd (Nat.lt_trans this q2) (Nat.lt_irrefl _)
      · exact I.nofs (Nat.le_of_lt q2) z
end
end GA
namespace GA
open PySem PySem.Spec PyProof.Rows L2 GenW GxR

def GaR (X' : Cx) (Q : VK) : GenEnd := fun n s₀ r s1 =>
  ((r = .ok (.ret .none) ∨ r = .ok .next) ∧ ∃ σ' H', Inv X' [] σ' H' s1 ∧ Q (.bl true) H') ∨ ∃ e, r = .error e ∧ False
def GaY (X' : Cx) (Q : VK) : Protocol := fun n s₀ v s1 kap =>
  ∃ (b : Bool) (σ' : L2.St) (H' : Hp), v = .bool b ∧ Inv X' [] σ' H' s1 ∧ ((b = true ∧ ∀ s', s'.os = s1.os → s'.heap = s1.heap → AllBare s'.gens → kap (.send .none) s') ∨ (b = false ∧ Q (.bl false) H'))

/-- what a turn of all(elt for tg in ..) asks -/
def AllTurn (J : It) (g : TG) (te : TE) (vs : List Nat) (σ : L2.St) (Q : VK) (W : Nat → Nat → Hp → Prop) : Prop :=
  ∀ i m H, W i m H → (J.stop i H ∧ Q (.bl true) H) ∨ (J.go i H ∧ ∀ x H', J.yld i H x H' → g x (wipe σ vs) H' fun σ2 H2 => wipe σ2 vs = wipe σ vs ∧ te σ2 H2 fun y H3 =>
    ∃ b, y = .bl b ∧ if b = true then ∃ m', m' < m ∧ W (i + 1) m' H3 else Q (.bl false) H3)
def tAllG (wi : TI) (g : TG) (te : TE) (vs : List Nat) (P : Addr) : TE := fun σ H Q => wi σ H fun J H1 => TabG H1 P ∧ ∀ H2, Tabbed P H1 H2 → ∃ W : Nat → Nat → Hp → Prop, (∃ m, W 0 m H2) ∧ AllTurn J g te vs σ Q W

theorem inv_woke {X : Cx} {pins : List (Addr × Obj)} {σ : L2.St} {H : Hp} {s s' : Shared} (I : Inv X pins σ H s) (ho : s'.os = s.os) (hk : ∀ b o, s.heap.get? b = some o → s'.heap.get? b = some o) (hg : AllBare s'.gens) : Inv X pins σ H s' :=
  I.call' (ch := []) ho (Un.kept hk) (I.hok.kept hk) hg fun b z => by simp at z

theorem ga_seg {X : Cx} {A : Around} {s : Shared} {H : Hp} {cenv : Env} {fp : List Addr} {pn : List (Addr × Obj)} {elt tg iter : Expr} {scope : Scope} {pos : Pos} {it : Addr} {J : It} {tn : Nat → Heap → Prop} {g : TG} {te : TE} {vs : List Nat} {σ : L2.St} {Q : VK} {W : Nat → Nat → Hp → Prop}
    (hpn : ∀ p ∈ pn, p.1 ∉ fp) (hco : cenv.scope.isCoroutine = false)
    (pg : PG (gxc X (A.over (.compLoop (.GeneratorExp elt [⟨tg, iter, [], 0⟩] scope pos) 0 (.ref it) .none cenv) []) s H cenv fp pn) tg g)
    (pe : PE (gxc X (A.over (.compLoop (.GeneratorExp elt [⟨tg, iter, [], 0⟩] scope pos) 0 (.ref it) .none cenv) []) s H cenv fp pn) elt te)
    (T : Turn X.prog X.w X.K tg J fp it tn) (turn : AllTurn J g te vs σ Q W) :
    ∀ (n i m : Nat) (H1 : Hp) (s0 s1 : Shared), m ≤ n → W i m H1 → Inv (gxc X (A.over (.compLoop (.GeneratorExp elt [⟨tg, iter, [], 0⟩] scope pos) 0 (.ref it) .none cenv) []) s H cenv fp pn) [] (wipe σ vs) H1 s1 → tn i s1.heap → (∀ b ∈ fp, H1 b = none) →
      Seg (model X.prog X.w) A (GaR (gxc X (A.over (.compLoop (.GeneratorExp elt [⟨tg, iter, [], 0⟩] scope pos) 0 (.ref it) .none cenv) []) s H cenv fp pn) Q) (GaY (gxc X (A.over (.compLoop (.GeneratorExp elt [⟨tg, iter, [], 0⟩] scope pos) 0 (.ref it) .none cenv) []) s H cenv fp pn) Q) (n + 1) s0
        (.compLoop (.GeneratorExp elt [⟨tg, iter, [], 0⟩] scope pos) 0 (.ref it) .none cenv)
        ((model X.prog X.w).den (.compLoop (.GeneratorExp elt [⟨tg, iter, [], 0⟩] scope pos) 0 (.ref it) .none cenv)) [] s1 := by
  generalize hXe : gxc X (A.over (.compLoop (.GeneratorExp elt [⟨tg, iter, [], 0⟩] scope pos) 0 (.ref it) .none cenv) []) s H cenv fp pn = X' at pg pe ⊢
  have eA : X'.A = A.over (.compLoop (.GeneratorExp elt [⟨tg, iter, [], 0⟩] scope pos) 0 (.ref it) .none cenv) [] := by rw [← hXe]
  have eP : X'.prog = X.prog := by rw [← hXe]
  have ew : X'.w = X.w := by rw [← hXe]
  have eK : X'.K = X.K := by rw [← hXe]
  have ec : X'.calm = true := by rw [← hXe]
  have eE : X'.env = cenv := by rw [← hXe]
  have ex : X'.ex = fp := by rw [← hXe]
  have epn : X'.pn = pn := by rw [← hXe]
  have exe : X'.xe = fun _ _ => False := by rw [← hXe]
  clear hXe
  have stat : ∀ {σ' : L2.St} {H' : Hp} {s' : Shared}, Inv X' [] σ' H' s' → (∀ b ∈ fp, H' b = none) → ∀ b ∈ fp, FpOk X' [] H' b := fun {σ' H' s'} I' hn b hb => by
    have hb' : b ∈ X'.ex := by rw [ex]; exact hb
    refine ⟨hn b hb, (I'.ok.exf b hb').1, I'.ok.exfs b hb', .inl hb', fun x c e => (I'.ok.exf b hb').2 x c e, fun p hp => ?_⟩
    rw [List.append_nil, epn] at hp
    intro z
    exact hpn p hp (by rw [z]; exact hb)
  have hy : ∀ v, yieldOut cenv v = yieldValue v := fun v => by simp only [yieldOut, hco, Bool.false_eq_true, if_false]
  intro n
  induction n using Nat.strongRecOn with
  | ind n ih =>
    intro i m H1 s0 s1 hm w1 I1 st1 n1
    show Seg _ A _ _ _ s0 _ ((compTurn (.GeneratorExp elt [⟨tg, iter, [], 0⟩] scope pos) 0 (.ref it) .none cenv).onRaise (leaving cenv)) [] s1
    rw [compTurn_gen, Sem.onRaise_eq_wrap]
    refine seg_bind_wrap (wpAny_standAt ?_)
    rcases turn i m H1 w1 with ⟨stop, q⟩ | ⟨go, step⟩
    · refine seg_bind_wrap ?_
      rw [← eA]
      have td := T.done X' eP ew eK ec i [] s1 _ H1 (fun _ _ => False) I1 (stat I1 n1) st1 stop
      refine wpAny_mono td (fun r s6 ⟨hr, I6⟩ => ?_) (fun _ _ z => z.elim)
      subst hr
      exact seg_end (.ok .next) (.inl ⟨.inr rfl, _, H1, I6, q⟩)
    · refine seg_bind_wrap ?_
      rw [← eA]
      refine wpAny_mono (T.item X' eP ew eK ec i [] s1 _ H1 (fun _ _ => False) I1 (stat I1 n1) st1 go) (fun r s6 ⟨u, hr, h6⟩ => ?_) (fun _ _ z => z.elim)
      subst hr
      refine seg_bind_wrap ?_
      rw [← eA]
      refine wpAny_mono h6 (fun _ s7 ⟨x, H7, I7, r7, y7, st7, n7⟩ => ?_) (fun _ _ z => z.elim)
      have I7' := I7.pinned (stat I7 n7) (T.obj _ _ st7)
      refine seg_bind_wrap ?_
      rw [← eA]
      have pgr := pg.run _ s7 _ H7 x u _ I7' r7 (step x H7 y7)
      rw [eE, eP, ew, exe] at pgr
      refine wpAny_mono pgr (fun _ s8 ⟨σ8, H8, I8, hw8, q8⟩ => ?_) (fun _ _ z => z.elim)
      refine seg_bind_wrap (wpAny_of_eq (a := true) (by rw [List.forIn_nil]) ?_)
      simp only [if_true, hy]
      rw [Sem.bind_eq_wrap', Sem.bind_eq_wrap', Sem.wrap_wrap, Sem.wrap_wrap]
      refine seg_wrap ?_
      rw [← eA]
      have per := pe.run _ s8 σ8 H8 _ I8 q8
      rw [eE, eP, ew, exe] at per
      refine wpAny_mono per (fun yv s9 ⟨y, H9, I9, r9, b, hb, q9⟩ => ?_) (fun _ _ z => z.elim)
      subst hb
      cases r9
      refine seg_at (seg_yield rfl rfl rfl ⟨b, σ8, H9, rfl, I9.unpinned, ?_⟩)
      cases b with
      | false => exact .inr ⟨rfl, by simpa using q9⟩
      | true =>
        refine .inl ⟨rfl, fun s' ho hk hg => ?_⟩
        obtain ⟨m', hm', w'⟩ : ∃ m', m' < m ∧ W (i + 1) m' H9 := by simpa using q9
        obtain ⟨n', rfl⟩ : ∃ n', n = n' + 1 := ⟨n - 1, by omega⟩
        have pin' : ∀ b ∈ fp, ∀ o, s7.heap.get? b = some o → s9.heap.get? b = some o ∧ H9 b = none := fun b hb o e =>
          let z := I9.pin (b, o) (List.mem_append_right _ (List.mem_append_right _ (mem_pinsAt hb e)))
          ⟨z.1, z.2.1⟩
        have hl : (wipe σ vs).length = σ8.length := by rw [← hw8, wipe_length]
        have I10 : Inv X' [] (wipe σ vs) H9 s9 := (I9.unpinned (pins := [])).weak hl (fun j v e => by
          rw [← hw8] at e
          exact (wipe_some e).1)
        refine seg_again rfl (ih n' (by omega) (i + 1) m' H9 s' s' (by omega) w' (inv_woke I10 ho (fun b o e => by rw [hk]; exact e) hg) (T.keep _ _ _ st7 fun b hb o e => by rw [hk]; exact (pin' b hb o e).1) fun b hb => ?_)
        obtain ⟨o, e, _⟩ := T.obj _ _ st7 b hb
        exact (pin' b hb o e).2
end GA
namespace GA
open PySem PySem.Spec PyProof.Rows L2 GenW GxR

theorem ga_start {X : Cx} {A : Around} {cenv : Env} {fp : List Addr} {elt tg iter : Expr} {scope : Scope} {pos : Pos} {it : Addr} {J : It} {tn : Nat → Heap → Prop} {R : GenEnd} {Y : Protocol} {n : Nat} {s0 s1 : Shared}
    (T : Turn X.prog X.w X.K tg J fp it tn) (st1 : tn 0 s1.heap)
    (loop : Seg (model X.prog X.w) A R Y n s0 (.compLoop (.GeneratorExp elt [⟨tg, iter, [], 0⟩] scope pos) 0 (.ref it) .none cenv)
        ((model X.prog X.w).den (.compLoop (.GeneratorExp elt [⟨tg, iter, [], 0⟩] scope pos) 0 (.ref it) .none cenv)) [] s1) :
    Seg (model X.prog X.w) A R Y n s0 (.compStart (.GeneratorExp elt [⟨tg, iter, [], 0⟩] scope pos) 0 (.ref it) .none cenv)
        ((model X.prog X.w).den (.compStart (.GeneratorExp elt [⟨tg, iter, [], 0⟩] scope pos) 0 (.ref it) .none cenv)) [] s1 := by
  show Seg _ A _ _ _ s0 _ ((compStart (.GeneratorExp elt [⟨tg, iter, [], 0⟩] scope pos) 0 (.ref it) .none cenv).onRaise (leaving cenv)) [] s1
  unfold compStart
  rw [Sem.onRaise_eq_wrap]
  show Seg _ A _ _ _ s0 _ ((ask >>= _).wrap _ _ _ _) [] s1
  refine seg_bind_wrap (wpAny_askSetting ?_)
  split
  · exact seg_again rfl loop
  · first
      | exact seg_bind_wrap (wpAny_rule (seg_bind_wrap (wpAny_standAt (seg_bind_wrap (T.self _ 0 s1 _ _ st1 (seg_again rfl loop))))))
      | (refine seg_bind_wrap (wpAny_rule ?_); show Seg _ A _ _ _ s0 _ ((standAt iter.pos >>= _).wrap _ _ _ _) [] s1; exact seg_bind_wrap (wpAny_standAt (seg_bind_wrap (T.self _ 0 s1 _ _ st1 (seg_again rfl loop)))))

theorem ga_all {X' : Cx} {A : Around} {R : Result → Shared → Prop} {Q : VK} {a : Addr} {g : Nat}
    (hh : A.handled = none) (hd : A.depth < recursionLimit)
    (hgen : ∀ σ' H' s', Inv X' [] σ' H' s' → s'.heap.IsGen a g)
    (hfin : ∀ (b : Bool) σ' H' s1 s', Inv X' [] σ' H' s1 → Q (.bl b) H' → s'.os = s1.os → (∀ b o, s1.heap.get? b = some o → s'.heap.get? b = some o) → AllBare s'.gens → R (.ok (.ret (.bool b))) s') :
    ∀ (m : Nat) (s : Shared), s.heap.IsGen a g → s.heap.NoLimit →
      (∃ gs, s.gens[g]? = some gs ∧ gs.Goes (model X'.prog X'.w) A.in1.in1 (GaR X' Q) (GaY X' Q) m (.send .none) (s.setGen g .running)) →
      codeAny (model X'.prog X'.w) A (.builtin "all.loop" ⟨[.ref a], []⟩) R s := by
  have goes : ∀ {gs : GenState} {B : Around} {n : Nat} {r : Resume} {s : Shared}, gs.Goes (model X'.prog X'.w) B (GaR X' Q) (GaY X' Q) n r s →
      gs.Goes (model X'.prog X'.w) B (fun n s₀ r s1 => ((r = .ok (.ret .none) ∨ r = .ok .next) ∧ (∃ σ' H', Inv X' [] σ' H' s1 ∧ Q (.bl true) H')) ∨
        ∃ e, r = .error e ∧ False) (GaY X' Q) n r s := fun h => h
  intro m
  induction m with
  | zero =>
    intro s hg hl ⟨gs, hgs, hgo⟩
    refine codeAny_builtin PySem.F.entry_all_loop ?_
    rw [Around.under_plainId PySem.F.plain_all_loop _]
    show wpAny _ A.in1 (pyNext (.ref a) >>= _) _ _ s
    refine wpAny_bind (next_genG (A := A.in1) hh hl hd hg hgs (goes hgo) (fun v s₁ gs' hbare hv => ?_) (fun s₁ hp h' hk => ?_) fun e s₁ he => he.elim)
    · obtain ⟨b, σ', H', rfl, I, hv⟩ := hv
      rcases hv with ⟨rfl, hk⟩ | ⟨rfl, q⟩
      · exact (hk s₁ rfl rfl I.bare).elim
      · refine wpAny_bind (wpAny_holding (wpAny_truthy_bool ?_))
        refine wpAny_bind (wpAny_letGo ?_)
        simp only [Bool.false_eq_true, if_false]
        exact wpAny_bind (wpAny_rule (wpAny_pure (hfin false σ' H' s₁ _ I q rfl (fun _ _ e => e) (allBare_setGen I.bare hbare))))
    · obtain ⟨σ', H', I, q⟩ := hp
      exact wpAny_bind (wpAny_rule (wpAny_pure (hfin true σ' H' s₁ _ I q rfl hk (allBare_setGen I.bare rfl))))
  | succ m ih =>
    intro s hg hl ⟨gs, hgs, hgo⟩
    have hgl : g < s.gens.size := (Array.getElem?_eq_some_iff.mp hgs).1
    refine codeAny_builtin PySem.F.entry_all_loop ?_
    rw [Around.under_plainId PySem.F.plain_all_loop _]
    show wpAny _ A.in1 (pyNext (.ref a) >>= _) _ _ s
    refine wpAny_bind (wpAny_gsz (n := g + 1) hgl (next_genG (A := A.in1) hh hl hd hg hgs (goes hgo) (fun v s₁ gs' hbare hv => ?_) (fun s₁ hp h' hk => ?_) fun e s₁ he => he.elim))
    · intro hsz
      obtain ⟨b, σ', H', rfl, I, hv⟩ := hv
      rcases hv with ⟨rfl, hk⟩ | ⟨rfl, q⟩
      · refine wpAny_bind (wpAny_holding (wpAny_truthy_bool ?_))
        refine wpAny_bind (wpAny_letGo ?_)
        simp only [if_true]
        have hsz1 : g < s₁.gens.size := by
          have q : (s₁.setGen g gs').gens.size = s₁.gens.size := setGen_size _ _ _
          have hsz' : g + 1 ≤ (s₁.setGen g gs').gens.size := hsz
          omega
        refine wpAny_pure ⟨plainId_quiet PySem.F.plain_all_loop _, ih (s₁.setGen g gs') (show s₁.heap.IsGen a g from hgen _ _ s₁ I) (show s₁.heap.NoLimit from I.nolimit) ⟨gs', setGen_at hsz1, ?_⟩⟩
        exact hk _ rfl rfl (allBare_setGen (s := s₁.setGen g gs') (allBare_setGen I.bare hbare) rfl)
      · refine wpAny_bind (wpAny_holding (wpAny_truthy_bool ?_))
        refine wpAny_bind (wpAny_letGo ?_)
        simp only [Bool.false_eq_true, if_false]
        exact wpAny_bind (wpAny_rule (wpAny_pure (hfin false σ' H' s₁ _ I q rfl (fun _ _ e => e) (allBare_setGen I.bare hbare))))
    · intro hsz
      obtain ⟨σ', H', I, q⟩ := hp
      exact wpAny_bind (wpAny_rule (wpAny_pure (hfin true σ' H' s₁ _ I q rfl hk (allBare_setGen I.bare rfl))))
end GA
namespace GA
open PySem PySem.Spec PyProof.Rows L2 GenW GxR

theorem pe_allG {X : Cx} {c P : Addr} {elt iter tg : Expr} {p pos gpos : Pos} {scope : Scope} {own : List (Str × Nat)} {wi : TI} {g : TG} {te : TE} {k : Nat}
    (hr : Room (k + 3) X.A) (hgl : Gl X "all") (hm : X.mg "all" = none) (hb : bootBuiltins "all" = some (.builtin "all")) (TB : TabB X.base X.mg c P) (hcode : X.env.code = .ref c) (hN : X.N.Nodup)
    (hi : PI X tg iter wi) (ok : BlkOk X.N X.env.scope scope own) (hco : scope.isCoroutine = false) (hcell : ∀ y ∈ scope.names, y.2 ≠ .cell) (hdot : scope.names.lookup (".0" : Str) = some NameKind.local)
    (hpg : ∀ (A : Around) (s : Shared) (H : Hp) (C : Addr) (code : Value) (fp : List Addr) (pn : List (Addr × Obj)), PG (gxc X A s H (gEnv X scope C code) fp pn) tg g)
    (hpe : ∀ (A : Around) (s : Shared) (H : Hp) (C : Addr) (code : Value) (fp : List Addr) (pn : List (Addr × Obj)), Room k A → PE (gxc X A s H (gEnv X scope C code) fp pn) elt te)
    (hs : ∀ v, genFold iter X.env v = pure v)
    (he : starEach [.GeneratorExp elt [⟨tg, iter, [], 0⟩] scope gpos] X.env = (false, eval (.GeneratorExp elt [⟨tg, iter, [], 0⟩] scope gpos) X.env) :: starEach [] X.env := by rfl) :
    PE X (.Call (.Name "all" p) [.GeneratorExp elt [⟨tg, iter, [], 0⟩] scope gpos] [] pos) (tAllG wi g te (own.map (·.2)) P) := by
  refine ⟨fun pins s σ H Q I h => ?_⟩
  have hfree : ∀ y ∈ scope.names, y.2 = .free → ∃ c, X.env.cells.lookup y.1 = some c := fun y hy e => by
    rcases ok.free y hy e with k | k
    · exact I.ok.has _ (.inl k)
    · exact I.ok.has _ (.inr k)
  refine wpAny_Call_Name_kw (ld_blt I hgl hm hb ?_)
  refine PyProof.Rows.callWith_builtin1 ?_ he (by rfl)
  rw [he]
  show wpAny _ _ (spliced ((false, eval (.GeneratorExp elt [⟨tg, iter, [], 0⟩] scope gpos) X.env) :: backTo pos (starEach [] X.env))) _ _ s
  refine Calls.spliced_cons ?_
  refine wpAny_GeneratorExp_make hco (closure_ok hfree) hcell hdot ok.kind (by have := hr.dp; omega) ?_ hs
  refine thn (hi.run pins s σ H _ I h) fun xv s1 hx => thn hx fun itv s2 h2 => ?_
  obtain ⟨it, fp, tn, J, H1, e, I1, T, st2, f2, ⟨ps, hP, ht⟩, q1⟩ := h2
  subst e
  have hPs : s2.heap.get? P = some { cls := .none, data := .fields ps } := I1.hok P _ hP
  have hPlt : P < s2.heap.objs.size := Heap.lt_size hPs
  have cd : PySem.W.CodeHd s2.heap c P := TB.code.keeps fun b u e => I1.bk b u e
  have cont : ∀ (code : Value) (h3 : Heap) (tk : Nat) (ps' : Array Value), Heap.ExtBut P s2.heap h3 → s2.heap.objs.size ≤ h3.objs.size → h3.get? P = some { cls := .none, data := .fields ps' } → (∃ more, ps' = ps ++ more) → TriplesOk ps'.toList →
      wpAny (model X.prog X.w) X.A (builtinsFor X.env.globals X.env.builtins) (fun bi s₄ =>
        ∀ h', h'.Ns s₄.heap.objs.size (fun y => if y = ".0" then some (.ref it) else none) → Heap.SameBut s₄.heap.objs.size (s₄.heap.push { cls := .type "frame", data := .dict #[] }) h' →
          wpAny (model X.prog X.w) X.A (spliced (backTo pos (starEach [] X.env))) (fun vs s' => wpAny (model X.prog X.w) X.A (call (.builtin "all") (.ref h'.objs.size :: vs)) (EP X pins σ Q) X.xe s') X.xe { s₄ with
            gens := s₄.gens.push (.fresh (.compStart (.GeneratorExp elt [⟨tg, iter, [], 0⟩] scope gpos) 0 (.ref it) .none (genEnv scope (cloFrom X.env.cells scope.names []) s₄.heap.objs.size code bi X.env))),
            toks := s₄.toks + 1 + 1 + 1,
            heap := h'.push { cls := .type "generator", data := .fields #[.int s₄.gens.size 0, .str "<genexpr>" (s₄.toks + 1), .str (X.env.qual ++ "<genexpr>") (s₄.toks + 1 + 1)] } }) X.xe { s2 with heap := h3, toks := tk } := by
    intro code h3 tk ps' hx hsz hP3 hmore ht3
    obtain ⟨bm, ob, e1, e2, e3, e4, e5, e6, e7, e8⟩ := TB.bm
    obtain ⟨more, em⟩ := hmore
    have keep3 : ∀ b u, b ≠ P → s2.heap.get? b = some u → h3.get? b = some u := fun b u hb e => hx b u hb e
    refine wpAny_builtinsFor (m := X.mg) (by rw [I1.ok.glob]; exact (I1.mod.glob.keeps I1.bk).extBut hx TB.gP) e1 e2 (keep3 _ _ e4 (I1.bk _ _ e5)) e6 e7 e8 ?_
    intro h' hn' hs'
    -- the state behind the code's making
    have I4 : Inv X pins σ (upd H1 P (.tbl (ps ++ more))) { s2 with heap := h3, toks := tk } :=
      inv_tab (g' := s2.gens) (d' := s2.drawn) I1 hP (fun b u hb e => keep3 b u hb e) (by rw [← em]; exact hP3) I1.bare
    generalize hs4 : ({ s2 with heap := h3, toks := tk } : Shared) = s4 at I4 ⊢
    have h4 : s4.heap = h3 := by rw [← hs4]
    have g4 : s4.gens = s2.gens := by rw [← hs4]
    have hn' : h'.Ns s4.heap.objs.size (fun y => if y = ".0" then some (.ref it) else none) := by rw [h4]; exact hn'
    have hs' : Heap.SameBut s4.heap.objs.size (s4.heap.push { cls := .type "frame", data := .dict #[] }) h' := by rw [h4]; exact hs'
    have hT : Tabbed P H1 (upd H1 P (.tbl (ps ++ more))) := ⟨⟨ps ++ more, upd_same, by rw [← em]; exact ht3⟩, fun b hb => upd_ne hb⟩
    obtain ⟨W, ⟨m0, w0⟩, turn⟩ := q1 _ hT
    generalize hH4 : upd H1 P (.tbl (ps ++ more)) = H4 at I4 w0 hT
    have hsz' : h'.objs.size = s4.heap.objs.size + 1 := by rw [hs'.1, Heap.size_push]
    have keep' : ∀ b o, s4.heap.get? b = some o → h'.get? b = some o := fun b o e => hs'.extBut b o (Nat.ne_of_lt (Heap.lt_size e)) (Heap.get?_push_of_some _ e)
    generalize hgo : ({ cls := .type "generator", data := .fields #[.int s4.gens.size 0, .str "<genexpr>" (s4.toks + 1), .str (X.env.qual ++ "<genexpr>") (s4.toks + 1 + 1)] } : Obj) = go
    have hgo' : ∀ h : Heap, h.get? h'.objs.size = some go → h.IsGen h'.objs.size s4.gens.size := fun h e => ⟨go, .str "<genexpr>" (s4.toks + 1), .str (X.env.qual ++ "<genexpr>") (s4.toks + 1 + 1), e, by rw [← hgo] <;> rfl, by rw [← hgo] <;> rfl, by rw [← hgo] <;> rfl⟩
    have hpush : (h'.push go).get? h'.objs.size = some go := Heap.get?_push_size _ (by rw [← hgo] <;> rfl)
    have hfpn : ∀ b ∈ fp, H4 b = none := fun b hb => by
      have hne : b ≠ P := fun z => by
        have q := (f2 b hb).1
        rw [z, hP] at q; cases q
      rw [← hH4, upd_ne hne]
      exact (f2 b hb).1
    have tn4 : tn 0 s4.heap := T.keep _ _ _ st2 fun b hb o e => by
      have hne : b ≠ P := fun z => by
        have q := (f2 b hb).1
        rw [z, hP] at q; cases q
      rw [h4]
      exact keep3 b o hne e
    have hfp4 : ∀ b ∈ fp, FpOk X pins H4 b ∧ b < s4.heap.objs.size := fun b hb => by
      obtain ⟨o, e, _⟩ := T.obj _ _ tn4 b hb
      exact ⟨⟨hfpn b hb, (f2 b hb).2⟩, Heap.lt_size e⟩
    have hpnf : ∀ p ∈ [(h'.objs.size, go)], p.1 ∉ fp := fun p hp hb => by
      rw [List.mem_singleton.mp hp] at hb
      have := (hfp4 _ hb).2
      rw [hsz'] at this
      exact absurd (Nat.lt_trans (Nat.lt_succ_self _) this) (Nat.lt_irrefl _)
    have keep5 : ∀ b o, s4.heap.get? b = some o → (h'.push go).get? b = some o := fun b o e => Heap.get?_push_of_some _ (keep' b o e)
    have bare5 : ∀ cc, AllBare (s4.gens.push (.fresh cc)) := fun cc => AllBare.push I4.bare rfl
    refine Calls.spliced_nil ?_
    refine call_function_tree PySem.F.kind_all PySem.F.plain_all PySem.F.entry_all (PySem.F.args_all1 _) ?_
    unfold Builtin.«all»
    refine wpAny_bind (m := oneArg "all" _) (wpAny_pure ?_)
    refine wpAny_bind (wpAny_pyIter_gen (s := { s4 with gens := _, toks := _, heap := h'.push go }) (hgo' _ hpush) ?_)
    refine wpAny_pure ⟨plainId_quiet PySem.F.plain_all_loop _, ?_⟩
    generalize hC0 : (Code.compLoop (.GeneratorExp elt [⟨tg, iter, [], 0⟩] scope gpos) 0 (.ref it) .none (gEnv X scope s4.heap.objs.size code)) = c0
    have I5 : Inv (gxc X (X.A.in1.in1.over c0 []) s4 H4 (gEnv X scope s4.heap.objs.size code) fp [(h'.objs.size, go)]) [] (wipe σ (own.map (·.2))) H4
        { s4 with heap := h'.push go, gens := s4.gens.push (.fresh (.compStart (.GeneratorExp elt [⟨tg, iter, [], 0⟩] scope gpos) 0 (.ref it) .none (gEnv X scope s4.heap.objs.size code))), toks := s4.toks + 1 + 1 + 1 } := by
      refine gx_start I4 ok hcell hN hfp4 ?_ ?_ (bare5 _) (hn'.push _) keep5 fun p hp => ?_
      · rw [← hC0]; exact hr.hd
      · rw [← hC0]
        have hf : X.A.in1.in1.frames = some X.stack := I4.ok.frames
        unfold Around.over
        rw [hf]
        rfl
      · rw [List.mem_singleton.mp hp]
        refine ⟨hpush, by show _ < h'.objs.size; rw [hsz']; exact Nat.lt_succ_self _, fun v q => ?_⟩
        rw [← hgo] at q
        cases q
    have hroom : Room k (X.A.in1.in1.over c0 []) := by
      rw [← hC0]
      refine ⟨hr.hd, ?_, ?_⟩
      · have := hr.dp
        show X.A.depth + 1 + 3 * k + 5 < _
        omega
      · have := hr.un
        show X.A.units + 1 + 1 + 3 + 16 * k + 200 < _
        omega
    have I6 := I5
    generalize hXe : gxc X (X.A.in1.in1.over c0 []) s4 H4 (gEnv X scope s4.heap.objs.size code) fp [(h'.objs.size, go)] = X' at I6
    have eP : X'.prog = X.prog := by rw [← hXe]
    have ew : X'.w = X.w := by rw [← hXe]
    have hgenI : ∀ σ' H' s', Inv X' [] σ' H' s' → s'.heap.IsGen h'.objs.size s4.gens.size := fun σ' H' s' I' =>
      hgo' _ (I'.pin (h'.objs.size, go) (List.mem_append_left _ (by rw [← hXe]; exact List.mem_singleton.mpr rfl))).1
    have hbare5 := bare5 (.compStart (.GeneratorExp elt [⟨tg, iter, [], 0⟩] scope gpos) 0 (.ref it) .none (gEnv X scope s4.heap.objs.size code))
    have hseg : Seg (model X'.prog X'.w) X.A.in1.in1 (GaR X' Q) (GaY X' Q) (m0 + 1)
        ({ s4 with heap := h'.push go, gens := s4.gens.push (.fresh (.compStart (.GeneratorExp elt [⟨tg, iter, [], 0⟩] scope gpos) 0 (.ref it) .none (gEnv X scope s4.heap.objs.size code))), toks := s4.toks + 1 + 1 + 1 } |>.setGen s4.gens.size .running)
        (.compStart (.GeneratorExp elt [⟨tg, iter, [], 0⟩] scope gpos) 0 (.ref it) .none (gEnv X scope s4.heap.objs.size code))
        ((model X'.prog X'.w).den (.compStart (.GeneratorExp elt [⟨tg, iter, [], 0⟩] scope gpos) 0 (.ref it) .none (gEnv X scope s4.heap.objs.size code))) []
        ({ s4 with heap := h'.push go, gens := s4.gens.push (.fresh (.compStart (.GeneratorExp elt [⟨tg, iter, [], 0⟩] scope gpos) 0 (.ref it) .none (gEnv X scope s4.heap.objs.size code))), toks := s4.toks + 1 + 1 + 1 } |>.setGen s4.gens.size .running) := by
      have I7 := inv_woke (s' := { s4 with heap := h'.push go, gens := s4.gens.push (.fresh (.compStart (.GeneratorExp elt [⟨tg, iter, [], 0⟩] scope gpos) 0 (.ref it) .none (gEnv X scope s4.heap.objs.size code))), toks := s4.toks + 1 + 1 + 1 } |>.setGen s4.gens.size .running) I5 rfl (fun _ _ e => e) (allBare_setGen hbare5 rfl)
      rw [eP, ew, ← hXe, ← hC0]
      rw [← hC0] at I7
      have st5 : tn 0 (h'.push go) := T.keep _ _ _ tn4 fun b _ o e => keep5 b o e
      refine ga_start (s1 := { s4 with heap := h'.push go, gens := s4.gens.push (.fresh (.compStart (.GeneratorExp elt [⟨tg, iter, [], 0⟩] scope gpos) 0 (.ref it) .none (gEnv X scope s4.heap.objs.size code))), toks := s4.toks + 1 + 1 + 1 } |>.setGen s4.gens.size .running) T st5 ?_
      exact ga_seg (σ := σ) hpnf hco (hpg _ _ _ _ _ _ _) (hpe _ _ _ _ _ _ _ (by rw [hC0]; exact hroom)) T turn m0 0 m0 H4 _ _ (Nat.le_refl _) w0 I7 st5 hfpn
    have key := ga_all (X' := X') (A := X.A) (Q := Q) (a := h'.objs.size) (g := s4.gens.size) (R := fun r s' => match r with | .ok (.ret v) => EP X pins σ Q v s' | _ => False) hr.hd (by have := hr.dp; omega) hgenI
      (fun b σ' H' s1' s' I' q' ho hk hg => by
        have J : Inv X pins σ H' s1' := by
          have hu : Un (frs X.stack) fp H4 H' s4.heap s1'.heap := by have := I'.base; rw [← hXe] at this; exact this
          have ho' : s1'.os = s4.os := by have := I'.os; rw [← hXe] at this; exact this
          have hok : HOk X.prog X.w H' s1'.heap := by have := I'.hok; rw [← hXe] at this; exact this
          exact I4.call' (ch := fp) ho' hu hok I'.bare fun b hb => ⟨(hfp4 b hb).1.2.2.2.1, (hfp4 b hb).1.2.1, (hfp4 b hb).1.2.2.2.2.1, (hfp4 b hb).1.2.2.2.2.2⟩
        exact ⟨.bl b, H', inv_woke J ho hk hg, rfl, q'⟩)
      (m0 + 1) _ (hgo' _ hpush) I6.nolimit ⟨_, Array.getElem?_push_size .., rfl, hseg⟩
    rw [eP, ew] at key
    refine codeAny_mono key fun r s' h => ?_
    cases r with
    | error e => exact h.elim
    | ok f => cases f with
      | ret v => exact h
      | _ => exact h.elim
  refine ⟨I1.nolimit, ?_⟩
  cases hf : codeAmong gpos ps.toList with
  | none =>
    refine wpAny_genexprCodeX hcode (cd.code hPs ht) (cd.tab hPs) hf fun c' h' tk hx hge hlt hco' _ htab' _ => ?_
    obtain ⟨o1, vs, f1, tf, fl, tg, inF, tx, tt, op, _, _, _, _, _, _, _, _, _, htr, _⟩ := hco'
    exact cont _ h' tk _ hx (Nat.le_trans hge (Nat.le_of_lt hlt)) htab'.2 ⟨_, rfl⟩ htr
  | some cv =>
    refine wpAny_genexprCode_hit hcode (cd.code hPs ht) hf ?_
    exact cont cv s2.heap s2.toks ps (Heap.ExtBut.refl _ _) (Nat.le_refl _) hPs ⟨#[], by simp⟩ ht
end GA
namespace SL
open PySem PySem.Spec PyProof.Rows L2

/-- how many different ones are among the first i -/
def nDiff (xs : List Str) : Nat → Nat
  | 0 => 0
  | i + 1 => if (xs.take i).any (· == xs.getD i Str.empty) = true then nDiff xs i else nDiff xs i + 1
theorem nDiff_le (xs : List Str) : ∀ i, nDiff xs i ≤ i
  | 0 => Nat.le_refl _
  | i + 1 => by
    have := nDiff_le xs i
    unfold nDiff
    split <;> omega
theorem take_any (xs : List Str) (i : Nat) (h : i < xs.length) (k : Str) : ((xs.take i).any (· == k) || decide (k = xs.getD i Str.empty)) = (xs.take (i + 1)).any (· == k) := by
  have e1 : xs.getD i Str.empty = xs[i] := by rw [List.getD_eq_getElem?_getD, List.getElem?_eq_getElem h]; rfl
  rw [e1, List.take_succ, List.getElem?_eq_getElem h, List.any_append]
  congr 1
  show _ = (xs[i] == k || false)
  rw [Bool.or_false]
  by_cases e : k = xs[i]
  · rw [decide_eq_true e, e]; simp
  · rw [decide_eq_false e]; symm; rw [beq_eq_false_iff_ne]; exact fun z => e z.symm

abbrev newSet (led : Bool) : Obj := { cls := .type "set", dict := none, data := .set #[] 0 (.fresh 0 0 led) }
abbrev SetAt (prog : Program) (w : World) (h : Heap) (S : Addr) (xs : List Str) (i : Nat) : Prop := h.SetOf (PySem.strKind prog w) S (fun k => (xs.take i).any (· == k)) (nDiff xs i)
theorem SetAt.kept {prog : Program} {w : World} {h h' : Heap} {S : Addr} {xs : List Str} {i : Nat} (x : SetAt prog w h S xs i) (k : ∀ o, h.get? S = some o → h'.get? S = some o) : SetAt prog w h' S xs i := by
  obtain ⟨o, es, ep, t, ho, r⟩ := x
  exact ⟨o, es, ep, t, k o ho, r⟩

section
variable {prog : Program} {w : World} {A : Around} {R : Result → Shared → Prop} {I : Addr} {fp wr : List Addr} {G : Array GenState → Array GenState → Prop} {n : Nat} {P : Nat → Value → Prop} {St : Nat → Shared → Prop}
theorem fill (W : WalksS prog w A.in1 I fp wr G n P St) (S : Addr) (hS0 : S ∉ fp) (xs : List Str) (hn : xs.length = n) (hb : n + 1 < scanBound)
    (hv : ∀ i v, P i v → ∃ t, v = .str (xs.getD i Str.empty) t) :
    ∀ (k i : Nat) (s : Shared), n - i = k → i ≤ n → St i s → SetAt prog w s.heap S xs i →
      (∀ s', Moved (S :: wr) G s s' → SetAt prog w s'.heap S xs n → R (.ok (.ret .none)) s') →
      codeAny (model prog w) A (.builtin "set.update.loop" ⟨[.ref S, .ref I], []⟩) R s := by
  have nwr : S ∉ wr := fun h => hS0 (W.sub _ h)
  have up : ∀ b ∈ wr, b ∈ S :: wr := fun b z => List.mem_cons_of_mem _ z
  intro k
  induction k with
  | zero =>
    intro i s hk hi hst hS hR
    have e : i = n := by omega
    subst e
    refine codeAny_builtin PyProof.Rows.F.entry_set_update_loop ?_
    rw [Around.under_plainId PyProof.Rows.F.plain_set_update_loop _]
    show wpAny _ A.in1 (pyNext (.ref I) >>= _) _ _ s
    refine wpAny_bind (W.done s _ _ hst fun s' hm => ?_)
    show wpAny _ A.in1 (ret Value.none) _ _ s'
    exact wpAny_pure (hR s' (hm.mono up) (hS.kept fun o e => hm.heap S o nwr e))
  | succ k ih =>
    intro i s hk hi hst hS hR
    have lt : i < n := by omega
    refine codeAny_builtin PyProof.Rows.F.entry_set_update_loop ?_
    rw [Around.under_plainId PyProof.Rows.F.plain_set_update_loop _]
    show wpAny _ A.in1 (pyNext (.ref I) >>= _) _ _ s
    refine wpAny_bind (W.item i s _ _ lt hst fun v s' hP hst' hm => ?_)
    obtain ⟨t, rfl⟩ := hv i v hP
    have hS' := hS.kept (h' := s'.heap) fun o e => hm.heap S o nwr e
    show wpAny _ A.in1 (holding [Value.str (xs.getD i Str.empty) t] (setAdd S (.str (xs.getD i Str.empty) t)) >>= _) _ _ s'
    refine wpAny_bind (wpAny_holding ?_)
    unfold setAdd
    refine wpAny_holding (wpAny_bind ((PySem.strKind prog w).pyHash (k := xs.getD i Str.empty) (strKind_is _ _ _ _) ?_))
    have room : nDiff xs i + 1 < scanBound := by have := nDiff_le xs i; omega
    refine wpAny_setAddHashed_of (knd := PySem.strKind prog w) (s := { s' with toks := s'.toks + 1 }) (strKind_is _ _ _ _) rfl hS' room fun h' sb hS2 => ?_
    have hS3 : SetAt prog w h' S xs (i + 1) := PyProof.Rows.SetOf_congr hS2 (fun k' => take_any xs i (by omega) k') rfl
    have nS : ∀ b, b ∉ S :: wr → b ≠ S := fun b z e => z (by rw [e]; exact List.mem_cons_self)
    refine wpAny_pure ⟨plainId_quiet PyProof.Rows.F.plain_set_update_loop _, ih (i + 1) _ (by omega) lt (W.frame _ s' _ _ hst' (Nat.le_succ _) fun b z o e => (sb.2 b fun q => hS0 (q ▸ z)).trans e) hS3 fun s'' hm2 hS4 => ?_⟩
    exact hR s'' (Moved.trans W.gtrans ((hm.mono up).then_heap (Nat.le_succ _) fun b o z e => (sb.2 b (nS b z)).trans e) hm2) hS4
end
end SL
namespace SL
open PySem PySem.Spec PyProof.Rows L2

section
variable {prog : Program} {w : World} {A : Around} {E : Value → Shared → Prop} {s : Shared}
theorem call_set {l : Addr} {items : Array Value} {xs : List Str} {Q : Value → Shared → Prop}
    (hh : A.handled = none) (hl : s.heap.IsList l items) (hi : PyProof.Rows.StrsAre items.toList xs) (hb : xs.length + 1 < scanBound)
    (h : ∀ (h' : Heap) (tk : Nat), SetAt prog w h' s.heap.objs.size xs xs.length →
      (∀ b o, b < s.heap.objs.size → s.heap.get? b = some o → h'.get? b = some o) → Q (.ref s.heap.objs.size) { s with heap := h', toks := tk }) :
    wpAny (model prog w) A (call (.type "set") [.ref l]) Q E s := by
  have hsz : xs.length = items.size := by rw [← StrsAre.len_eq hi, Array.length_toList]
  obtain ⟨c, tl, hmro⟩ := PySem.F.called_set.mro
  have a1 := PySem.F.called_set.made
  have a2 := PySem.F.called_set.sub
  have a3 := PySem.F.called_set.notType
  have a4 := PySem.F.called_set.canCreate
  have a5 := PySem.F.typeCall_set_1 (.ref l)
  refine wpAny_call (codeAny_of_tree ?_)
  show wpAny _ _ (callAny (.type "set") _) _ _ _
  refine wpAny_pure ⟨Code.quiet_builtin _ (by decide +kernel), codeAny_builtin PySem.F.entry_type_call ?_⟩
  rw [Around.under_plain (weight_type_call_type "set" [.ref l] []) rfl]
  repeat (any_goals (first | assumption | wp_step))
  refine codeAny_mono (code_set_new_1 (.ref l) (E := E) (Q₁ := fun o s₁ => ∃ led : Bool, o = .ref s.heap.objs.size ∧ s₁ = { s with heap := s.heap.push (newSet led) }) fun led => ⟨led, rfl, rfl⟩) fun r s₁ hr => ?_
  rcases r with e | fl
  · exact hr
  cases fl with
  | ret o =>
    obtain ⟨led, rfl, rfl⟩ := hr
    generalize hD : s.heap.objs.size = D at *
    have gD : (s.heap.push (newSet led)).get? D = some (newSet led) := by rw [← hD]; exact Heap.get?_push_size _ rfl
    have tD : Shared.TypeIs { s with heap := s.heap.push (newSet led) } (.ref D) "set" := ⟨_, gD, rfl⟩
    have b1 := PySem.F.called_set.init.lookup
    have b2 := PySem.F.called_set.init.bind (.ref D)
    repeat (any_goals (first | assumption | wp_step))
    refine codeAny_mono (codeAny_call_builtin (R := wants (fun r s₂ => r = .none ∧ ∃ h' tk, s₂ = { s with heap := h', toks := tk } ∧ SetAt prog w h' D xs xs.length ∧
        (∀ b o, b < D → s.heap.get? b = some o → h'.get? b = some o)) E) PySem.F.called_set.init.plain PySem.F.entry_set_init (check_set_init_1 tD ?_)) fun r₂ s₂ hr₂ => ?_
    · obtain ⟨⟨c1, c2, c3, c4⟩, hol, d1, nl, d2⟩ := hl
      simp only at d1 d2
      subst d1; subst d2
      have hol' : (s.heap.push (newSet led)).get? l = some ⟨.type "list", c2, .seq items nl, c4⟩ := Heap.get?_push_of_some _ hol
      have e1 := PySem.F.sub_list_set
      have e2 := PySem.F.sub_list_frozenset
      have e3 : (Value.type "list" == Value.type "dict") = false := by decide
      have hl1 : (s.heap.push (newSet led)).IsList l items := ⟨_, hol', rfl, nl, rfl⟩
      unfold Builtin.«set.__init__» noKeywords Builtin.Frozenset.updateFrom
      generalize hPI : pyIter = PI
      wp_walk
      subst hPI
      refine wpAny_pyIter_list hl1 (wpAny_bind (wpAny_runValue ?_))
      have lt1 : l < D := by rw [← hD]; exact Heap.lt_size hol
      have sz1 : (s.heap.push (newSet led)).objs.size = D + 1 := by rw [Heap.size_push, hD]
      rw [sz1]
      have n1 : l ≠ D + 1 := Nat.ne_of_lt (Nat.lt_succ_of_lt lt1)
      refine fill ((Walks.list (by simp [hh]) (D + 1) l n1 items).toS) D (by simp only [List.mem_cons, List.not_mem_nil, or_false, not_or]; exact ⟨Nat.ne_of_lt (Nat.lt_succ_self _), Nat.ne_of_gt lt1⟩) xs hsz (by omega) (fun i v hv => SS.strs_at hi i v (by rw [Array.getElem?_toList]; exact hv))
        (items.size - 0) 0 _ (by omega) (Nat.zero_le _) ⟨⟨_, by rw [← sz1]; exact Heap.get?_push_size _ rfl, rfl, rfl⟩, hl1.push _⟩ ?h0 ?hR
      case h0 =>
        have g2 : ((s.heap.push (newSet led)).push { cls := .type "list_iterator", data := .fields #[.ref l, .int 0 0] }).get? D = some (newSet led) := Heap.get?_push_of_some _ gD
        exact PyProof.Rows.SetOf_congr ((PyProof.Rows.setObjOf_fresh (knd := PySem.strKind prog w) led).setOf g2 (by unfold scanBound; omega)) (fun _ => rfl) rfl
      case hR =>
        intro s' hm hS'
        obtain ⟨h', g', d', tk', os'⟩ := s'
        have f1 : g' = s.gens := hm.gens
        have f2 : d' = s.drawn := hm.drawn
        have f3 : os' = s.os := hm.os
        subst f1 f2 f3
        show wpAny _ _ _ _ _ _
        refine wpAny_pure ?_
        show wpAny _ _ (ret Value.none) _ _ _
        refine wpAny_pure ⟨rfl, h', tk', rfl, by rw [hsz]; exact hS', fun b o z e => ?_⟩
        exact hm.heap b o (by simp only [List.mem_cons, List.not_mem_nil, or_false, not_or]; exact ⟨Nat.ne_of_lt z, Nat.ne_of_lt (Nat.lt_succ_of_lt z)⟩) (Heap.get?_push_of_some _ (Heap.get?_push_of_some _ e))
    · rcases r₂ with e | f2
      · exact hr₂
      cases f2 with
      | ret r =>
        obtain ⟨rfl, h', tk, rfl, z1, z2⟩ := hr₂
        repeat (any_goals (first | assumption | wp_step))
        exact h _ _ z1 z2
      | _ => exact hr₂.elim
  | _ => exact hr.elim
end

/-- len(set(xs)), xs a list of texts -/
def tLenSetL (K : PySem.W.Frag) (ta : TE) : TE := fun σ H Q => ta σ H fun x H1 => ∃ (l : Addr) (xs : List Str), x = .ref l ∧ SqL K H1 l (xs.map V.str) ∧ xs.length ≤ 4000 ∧ Q (.int (nDiff xs xs.length : Nat)) H1
theorem strsOf : ∀ {ys : List Str} {us : List Value}, Vals (ys.map V.str) us → StrsAre us ys
  | [], _, .nil => .nil
  | y :: ys, _, .cons r t => by
    obtain ⟨k, rfl⟩ := r
    exact .cons y k (strsOf t)
theorem pe_lenSetL {X : Cx} {a : Expr} {ta : TE} {p p2 q pos : Pos} (hg : Gl X "len") (hm : X.mg "len" = none) (hg2 : Gl X "set") (hm2 : X.mg "set" = none) (ha : PE X a ta) (hc : X.calm = true := by rfl)
    (na : starEach [a] X.env = (false, eval a X.env) :: starEach [] X.env := by rfl) : PE X (.Call (.Name "len" p) [.Call (.Name "set" p2) [a] [] q] [] pos) (tLenSetL X.K ta) := by
  refine ⟨fun pins s σ H Q I h => ?_⟩
  refine Call_ (ld_blt I hg hm boot_len (PyProof.Rows.callWith_builtin1 (PyProof.Rows.args_cons ?_ rfl) rfl rfl))
  refine Call_ (ld_blt I hg2 hm2 boot_set (PyProof.Rows.callWith_type1 (PyProof.Rows.args_cons (thn (ha.run pins s σ H _ I h) fun v s1 ⟨x, H1, I1, r1, q1⟩ => PyProof.Rows.args_nil ?_) na) na rfl))
  obtain ⟨l, xs, rfl, hq, hl, q1⟩ := q1
  cases r1
  obtain ⟨its, r, pl, hz⟩ := I1.list hq
  refine call_set (I1.ok.hd hc) pl.isList (by simpa using strsOf r) (by unfold scanBound; omega) fun h' tk hS hk => ?_
  refine PyProof.Rows.args_nil ?_
  obtain ⟨o, es, ep, t, ho, hex, hd, _, _, _, hf, hn⟩ := hS
  have I2 : Inv X pins σ H1 { s1 with heap := h', toks := tk } := I1.kept fun b o e => hk b o (Heap.lt_size e) e
  have := nDiff_le xs xs.length
  exact call_len_set ho hex hd hf (by rw [hn]; omega) ⟨.int (nDiff xs xs.length : Nat), H1, I2.tok _, ⟨_, by rw [hn]⟩, q1⟩
end SL
namespace EN
open PySem PySem.Spec PyProof.Rows L2
open Sem (wp)
open AutoSeq1 (wpAny_loadPart')

theorem meets_enumT (l : Addr) (items : Array Value) (n : Nat) (dct : Option Addr) (sl : Array (Option Value)) :
    Meets (Builtin.«enumerate.__new__» ⟨[.type "enumerate", .ref l], []⟩) (fun _ R s => s.heap.get? l = some { cls := .type "tuple", dict := dct, data := .seq items n, slots := sl } ∧
      R (.ok (.ret (.ref (s.heap.push { cls := .type "tuple_iterator", data := .fields #[.ref l, .int 0 0] }).objs.size)))
        { s with heap := (s.heap.push { cls := .type "tuple_iterator", data := .fields #[.ref l, .int 0 0] }).push { cls := .type "enumerate", data := .fields #[.none, .bool false, .ref s.heap.objs.size, rawInt 0, .none, .none] } }) :=
  .of_wp fun prog w A R s h => by
    obtain ⟨hp, g, d, tk, os⟩ := s
    obtain ⟨hl, h⟩ := h
    have hsub := PySem.sub_enumerate
    have hL : Heap.IsTuple (Shared.heap ⟨hp, g, d, tk, os⟩) l items := ⟨_, hl, rfl, n, rfl⟩
    wp_walk using wpAny_loadPart' hl
    refine wpAny_stack_any fun st => wpAny_pure ?_
    split
    · rename_i c _ _ _ _ _
      cases (c == Value.type "enumerate") <;> (wp_walk using wpAny_loadPart' hl, wpAny_pyIter_tuple hL; exact ⟨_, rfl, h⟩)
    · wp_walk using wpAny_loadPart' hl, wpAny_pyIter_tuple hL
      exact ⟨_, rfl, h⟩
end EN
namespace EN
open PySem PySem.Spec PyProof.Rows L2
open Sem (wp)

theorem call_enumT {prog : Program} {w : World} {A : Around} {E : Value → Shared → Prop} {s : Shared} {l : Addr} {items : Array Value} {Q : Value → Shared → Prop} (hL : s.heap.IsTuple l items)
    (h : ∀ h', IsEnum h' (s.heap.objs.size + 1) s.heap.objs.size 0 .none → h'.IsTupleIter s.heap.objs.size l 0 → h'.objs.size = s.heap.objs.size + 2 →
      (∀ b o, s.heap.get? b = some o → h'.get? b = some o) → Q (.ref (s.heap.objs.size + 1)) { s with heap := h' }) :
    wpAny (model prog w) A (call (.type "enumerate") [.ref l]) Q E s := by
  obtain ⟨⟨c, dct, dt, sl⟩, hl, hc, n, hd⟩ := hL
  obtain rfl : c = .type "tuple" := hc
  obtain rfl : dt = .seq items n := hd
  refine callType_new PySem.F.called_enumerate (by decide) (PySem.F.typeCall_enumerate_1 _) (PySem.F.newCall_enumerate_1 _) (fun obj => PySem.F.args_object_init_2 obj _) PySem.F.entry_enumerate_new
    (meets_enumT l items n dct sl) ⟨hl, ?_⟩
  generalize hit : ({ cls := .type "tuple_iterator", data := .fields #[.ref l, .int 0 0] } : Obj) = it
  have nf : it.isFreed = false := by rw [← hit]; rfl
  have hz : (s.heap.push it).objs.size = s.heap.objs.size + 1 := Heap.size_push ..
  show _ ∧ _
  rw [hz]
  have he : IsEnum ((s.heap.push it).push { cls := .type "enumerate", data := .fields #[.none, .bool false, .ref s.heap.objs.size, rawInt 0, .none, .none] }) (s.heap.objs.size + 1) s.heap.objs.size 0 .none := by
    have := Heap.get?_push_size (s.heap.push it) (o := { cls := .type "enumerate", data := .fields #[.none, .bool false, .ref s.heap.objs.size, rawInt 0, .none, .none] }) rfl
    rw [hz] at this
    exact this
  refine ⟨⟨_, he, rfl⟩, h _ he ⟨it, Heap.get?_push_of_some _ (Heap.get?_push_size _ nf), by rw [← hit], by rw [← hit]; rfl⟩ (by rw [Heap.size_push, hz]) fun b o x => Heap.get?_push_of_some _ (Heap.get?_push_of_some _ x)⟩

/-- the tuple at a, its items in new pairs with their numbers -/
def IteT (K : PySem.W.Frag) (a : Addr) : It :=
  ⟨fun i H => ∃ (xs : List V) (x : V), SqT K H a xs ∧ xs[i]? = some x, fun i H v H' => ∃ T x, v = .ref T ∧ H T = none ∧ H' = upd H T (.tup [.int (i : Nat), x]) ∧ ∀ xs, SqT K H a xs → xs[i]? = some x, fun i H => ∃ xs : List V, SqT K H a xs ∧ xs.length ≤ i⟩
theorem turn_enumT {P : Program} {w : World} {K : PySem.W.Frag} {elts : List Expr} {kk : Nat} {tpos : Pos} (a e it : Addr) :
    Turn P w K (.Tuple elts kk tpos) (IteT K a) [e, it] e (fun i h => (∃ old, IsEnum h e it ((i : Nat) : Int) old) ∧ h.IsTupleIter it a i ∧ e ≠ it ∧ a ≠ it ∧ e ≠ a) where
  mem := by simp
  obj := fun i h st b hb => by
    obtain ⟨⟨old, he⟩, ⟨o, ho, hc, hd⟩, _⟩ := st
    rcases List.mem_cons.mp hb with z | z
    · rw [z]; exact ⟨_, he, fun v q => nomatch q⟩
    · rw [List.mem_singleton.mp z]; exact ⟨o, ho, fun v q => by rw [hd] at q; cases q⟩
  keep := fun i h h' st k => by
    obtain ⟨⟨old, he⟩, hi, r⟩ := st
    exact ⟨⟨old, k e (by simp) _ he⟩, hi.at fun o q => k it (by simp) o q, r⟩
  item := by
    intro X hP hw hK hc i pins s σ H E I hf st hg
    subst hP hw hK
    obtain ⟨⟨old, he⟩, hit, hne, hai, hea⟩ := st
    obtain ⟨xs, x, hq, hx⟩ := hg
    obtain ⟨its, rv, p, hz⟩ := I.tuple hq
    obtain ⟨u, hu, ru⟩ := rv.get hx
    have hel : e < s.heap.objs.size := Heap.lt_size he
    have hil : it < s.heap.objs.size := by obtain ⟨_, q, _⟩ := hit; exact Heap.lt_size q
    have pT : s.heap.IsTuple a its.toArray := p
    have lt : i < its.toArray.size := by have := (List.getElem?_eq_some_iff.mp hu).1; simpa using this
    refine wpAny_pyNext_enum_itemD (Draws.tuple (A := X.A.in1) (I.ok.hd hc) it a hai its.toArray) he ⟨hit, pT⟩ lt hne (by simp only [List.mem_cons, List.not_mem_nil, or_false, not_or]; exact ⟨hne, hea⟩) fun u' h' tk hPx ho hst' hT hsz hk => ?_
    have eu : u' = u := by
      have z : its.toArray[i]? = some u := by simpa using hu
      rw [z] at hPx
      exact (Option.some.inj hPx).symm
    subst eu
    refine ⟨_, rfl, wpAny_letOwnedTupleGo_enum (s := { s with heap := h', toks := tk + 1 }) ho fun h'' he' sb => ?_⟩
    have hT2 : h''.get? s.heap.objs.size = some { cls := .type "tuple", data := .seq #[.int i tk, u'] } := (sb.2 _ (Nat.ne_of_gt hel)).trans hT
    have new : ObjOk X.prog X.w (upd H s.heap.objs.size (.tup [.int (i : Nat), x])) h'' s.heap.objs.size (.tup [.int (i : Nat), x]) :=
      ⟨by show 2 ≤ sizeLine; decide, [.int i tk, u'], .cons ⟨_, rfl⟩ (.cons ru .nil), ⟨_, hT2, rfl, _, rfl⟩⟩
    have I1 : Inv X pins σ (upd H s.heap.objs.size (.tup [.int (i : Nat), x])) { s with heap := h'', toks := tk + 1 } :=
      I.turnedNew (ch := [e, it]) (fun b ob hb q => (sb.2 b (fun z => hb (by simp [z]))).trans (hk b ob (fun z => hb (by simp [z])) (fun z => hb (by simp [z])) q)) hf (Nat.le_refl _) new
    refine ⟨.ref s.heap.objs.size, _, I1, rfl, ⟨_, x, rfl, I.hok.fresh (Nat.le_refl _), rfl, fun ys hy => by rw [I.tuple_inj hy hq]; exact hx⟩, ⟨⟨u', ?_⟩, hst'.1.at fun o q => (sb.2 it (Ne.symm hne)).trans q, hne, hai, hea⟩, fun b hb => ?_⟩
    · have e1 : ((i + 1 : Nat) : Int) = (i : Int) + 1 := by omega
      rw [e1]
      exact he'
    · have hb' : b < s.heap.objs.size := by
        rcases List.mem_cons.mp hb with z | z
        · rw [z]; exact hel
        · rw [List.mem_singleton.mp z]; exact hil
      rw [upd_ne (Nat.ne_of_lt hb')]
      exact (hf b hb).1
  done := by
    intro X hP hw hK hc i pins s σ H E I hf st hg
    subst hP hw hK
    obtain ⟨⟨old, he⟩, hit, hne, hai, hea⟩ := st
    obtain ⟨xs, hq, hx⟩ := hg
    obtain ⟨its, rv, p, hz⟩ := I.tuple hq
    have hl := rv.length
    obtain ⟨f0, f1, f2, f3, f4, f5⟩ := hf it (by simp)
    have pT : s.heap.IsTuple a its.toArray := p
    have hn : its.toArray[i]? = none := by simp; omega
    have hT : s.TypeIs (.ref e) "enumerate" := ⟨_, he, rfl⟩
    unfold pyNext
    refine wpAny_bind (wpAny_attempt (wpAny_callSpecial?_slot (name := Str.ofString "__next__") hT PySem.F.slot_enumerate_next
      (wpAny_call_entry PySem.F.slot_enumerate_next hT PySem.F.entry_enumerate_next ?_ (PySem.F.args_enumerate_next_1 _))))
    show wpAny _ _ (field (.ref e) 2 >>= _) _ _ _
    refine wpAny_bind (wpAny_field he rfl (x := .ref it) rfl ?_)
    refine wpAny_bind (wpAny_nextOf_tuple_end (A := X.A.in1) (I.ok.hd hc) hit pT hn fun h' x he' hx' => ?_)
    obtain ⟨o, ho, hc'⟩ := hx'
    refine wpAny_bind (wpAny_isInstance (T := "StopIteration") (b := true) ⟨o, ho, hc'⟩ isSubtype_stop ?_)
    exact wpAny_pure ⟨rfl, I.turned (t' := s.toks) (fun b o hb q => he' b o hb q) f0 f1 f3 f4 f5⟩
  self := fun A i s Q E st h => by
    obtain ⟨⟨_, he⟩, _⟩ := st
    exact wpAny_pyIter_enum he h
def iEnumT (K : PySem.W.Frag) (ta : TA) : TI := fun σ H R => ta σ H fun vs H1 => ∃ a xs, vs = [.ref a] ∧ SqT K H1 a xs ∧ R (IteT K a) H1
theorem pi_enumT {X : Cx} {e : Expr} {ta : TA} {p pos tpos : Pos} {elts : List Expr} {kk : Nat} (hg : Gl X "enumerate") (hm : X.mg "enumerate" = none) (ha : PA X [e] ta) (hs : starEach [e] X.env = [(false, eval e X.env)] := by rfl) :
    PI X (.Tuple elts kk tpos) (.Call (.Name "enumerate" p) [e] [] pos) (iEnumT X.K ta) := by
  refine ⟨fun pins s σ H R I h => ?_⟩
  refine Call_ (ld_blt I hg hm boot_enumerate (PyProof.Rows.callWith_type1 (thn (ha.run pos pins s σ H _ I h) fun us s1 ⟨vs, H1, I1, r1, q1⟩ => ?_) hs rfl))
  obtain ⟨a, xs, ex, hq, q⟩ := q1
  subst ex
  rcases r1 with _ | ⟨r, rr⟩
  cases rr
  cases r
  obtain ⟨its, rv, p', hz⟩ := I1.tuple hq
  have pT : s1.heap.IsTuple a its.toArray := p'
  have hal : a < s1.heap.objs.size := by obtain ⟨o, ho, _⟩ := pT; exact Heap.lt_size ho
  refine call_enumT pT fun h' he hit hsz hk => wpAny_pyIter_enum he ?_
  have I2 : Inv X pins σ H1 { s1 with heap := h' } := I1.kept (t' := s1.toks) hk
  refine ⟨s1.heap.objs.size + 1, [s1.heap.objs.size + 1, s1.heap.objs.size], _, _, H1, rfl, I2, turn_enumT a (s1.heap.objs.size + 1) s1.heap.objs.size, ⟨⟨.none, he⟩, hit, Nat.succ_ne_self _, Nat.ne_of_lt hal, Nat.ne_of_gt (Nat.lt_succ_of_lt hal)⟩, fun b hb => ?_, q⟩
  have hle : s1.heap.objs.size ≤ b := by
    rcases List.mem_cons.mp hb with z | z
    · rw [z]; exact Nat.le_succ _
    · rw [List.mem_singleton.mp z]; exact Nat.le_refl _
  exact I1.fpOk hle (I1.hok.fresh hle)
end EN
/-! data as trees, and how the heap bears them -/
namespace FW
open PySem PySem.Spec PyProof.Rows L2 GxR

inductive T where
  | non | bl (b : Bool) | int (i : Int) | str (s : Str) | tup (l : List T) | lst (l : List T) | dct

mutual
/-- the value v is the tree; no list of it stands at an address of N -/
def Den (K : PySem.W.Frag) (N : Addr → Prop) (H : Hp) : T → V → Prop
  | .non, v => v = .non
  | .bl b, v => v = .bl b
  | .int i, v => v = .int i
  | .str s, v => v = .str s ∧ s.length ≤ sizeLine
  | .tup ts, v => ∃ a xs, v = .ref a ∧ SqT K H a xs ∧ DenL K N H ts xs
  | .lst ts, v => ∃ a xs, v = .ref a ∧ H a = some (.lst xs) ∧ ¬ N a ∧ DenL K N H ts xs
  | .dct, v => ∃ a, v = .ref a ∧ H a = some (.dK []) ∧ ¬ N a
def DenL (K : PySem.W.Frag) (N : Addr → Prop) (H : Hp) : List T → List V → Prop
  | [], xs => xs = []
  | t :: ts, xs => ∃ x r, xs = x :: r ∧ Den K N H t x ∧ DenL K N H ts r
end

/-- all but the tables and what stands at N is as it was -/
structure Kp (N : Addr → Prop) (H H' : Hp) : Prop where
  keep : ∀ a o, H a = some o → (∀ q, o ≠ .tbl q) → ¬ N a → H' a = some o
  tups : ∀ a xs, H a = some (.tup xs) → H' a = some (.tup xs)
  frz : ∀ a o u, H a = some (.frz o u) → H' a = some (.frz o u)
  stay : ∀ a, H' a = none → H a = none
def TOk (cs : List (Addr × Addr)) (H : Hp) : Prop := ∀ p ∈ cs, TabG H p.2
structure Ex (cs : List (Addr × Addr)) (N : Addr → Prop) (H H' : Hp) : Prop extends Kp N H H' where
  tok : TOk cs H'
abbrev N0 : Addr → Prop := fun _ => False
abbrev N1 (S : Addr) : Addr → Prop := fun a => a = S

section
variable {K : PySem.W.Frag} {N N' : Addr → Prop} {cs : List (Addr × Addr)} {H H' H1 H2 : Hp} {a p : Addr} {o u : HO} {xs ys : List V} {v x : V} {t : T} {ts : List T}
theorem Kp.refl : Kp N H H := ⟨fun _ _ e _ _ => e, fun _ _ e => e, fun _ _ _ e => e, fun _ e => e⟩
theorem Kp.trans (x : Kp N H H1) (y : Kp N H1 H2) : Kp N H H2 :=
  ⟨fun a o e h n => y.keep a o (x.keep a o e h n) h n, fun a xs e => y.tups a xs (x.tups a xs e), fun a o u e => y.frz a o u (x.frz a o u e), fun a e => x.stay a (y.stay a e)⟩
theorem Kp.mono (x : Kp N H H') (h : ∀ a, N a → N' a) : Kp N' H H' := ⟨fun a o e q n => x.keep a o e q fun z => n (h a z), x.tups, x.frz, x.stay⟩
theorem Kp.new (e : H p = none) : Kp N H (upd H p o) :=
  ⟨fun a o e1 _ _ => by rw [upd_ne (ne_of_none e1 e)]; exact e1, fun a xs e1 => by rw [upd_ne (ne_of_none e1 e)]; exact e1, fun a o u e1 => by rw [upd_ne (ne_of_none e1 e)]; exact e1, fun a e1 => by
    by_cases z : a = p
    · rw [z]; exact e
    · rw [upd_ne z] at e1; exact e1⟩
theorem Kp.put (e : H p = some (.lst xs)) (n : N p) : Kp N H (upd H p o) :=
  ⟨fun a o e1 _ h => by rw [upd_ne (fun z => h (by rw [z]; exact n))]; exact e1, fun a xs e1 => by rw [upd_ne (ne_of e1 e (by intro z; cases z))]; exact e1, fun a o u e1 => by rw [upd_ne (ne_of e1 e (by intro z; cases z))]; exact e1, fun a e1 => by
    by_cases z : a = p
    · rw [z, upd_same] at e1; cases e1
    · rw [upd_ne z] at e1; exact e1⟩
theorem TOk.new (k : TOk cs H) (e : H p = none) : TOk cs (upd H p o) := fun q hq => by
  obtain ⟨ps, e1, e2⟩ := k q hq
  exact ⟨ps, by rw [upd_ne (ne_of_none e1 e)]; exact e1, e2⟩
theorem TOk.put (k : TOk cs H) (e : H p = some u) (h : ∀ q, u ≠ .tbl q) : TOk cs (upd H p o) := fun q hq => by
  obtain ⟨ps, e1, e2⟩ := k q hq
  exact ⟨ps, by rw [upd_ne (ne_of e1 e fun z => h ps z.symm)]; exact e1, e2⟩
theorem Ex.refl (k : TOk cs H) : Ex cs N H H := ⟨Kp.refl, k⟩
theorem Ex.trans (x : Ex cs N H H1) (y : Ex cs N H1 H2) : Ex cs N H H2 := ⟨x.toKp.trans y.toKp, y.tok⟩
theorem Ex.mono (x : Ex cs N H H') (h : ∀ a, N a → N' a) : Ex cs N' H H' := ⟨x.toKp.mono h, x.tok⟩
theorem Ex.of0 (x : Ex cs N0 H H') : Ex cs N H H' := x.mono fun _ z => z.elim
theorem Ex.new (k : TOk cs H) (e : H p = none) : Ex cs N H (upd H p o) := ⟨Kp.new e, k.new e⟩
theorem Ex.tab {q : Addr × Addr} (k : TOk cs H) (hq : q ∈ cs) (h : Tabbed q.2 H H') : Ex cs N H H' := by
  obtain ⟨ps, e1, e2⟩ := k q hq
  have ne : ∀ b o, H b = some o → (∀ r, o ≠ .tbl r) → b ≠ q.2 := fun b o e n z => by rw [z, e1] at e; cases e; exact n ps rfl
  refine ⟨⟨fun b o e n _ => by rw [h.2 b (ne b o e n)]; exact e, fun b xs e => ?_, fun b o u e => ?_, fun b e => ?_⟩, fun r hr => ?_⟩
  · rw [h.2 b (ne b _ e fun r z => by cases z)]; exact e
  · rw [h.2 b (ne b _ e fun r z => by cases z)]; exact e
  · by_cases z : b = q.2
    · obtain ⟨ps', e3, _⟩ := h.1
      rw [z, e3] at e; cases e
    · rw [h.2 b z] at e; exact e
  · by_cases z : r.2 = q.2
    · rw [z]; exact h.1
    · obtain ⟨ps', e3, e4⟩ := k r hr
      exact ⟨ps', by rw [h.2 _ z]; exact e3, e4⟩
theorem Kp.sqT (k : Kp N H H') (h : SqT K H a xs) : SqT K H' a xs := by
  rcases h with (h | ⟨o, h⟩) | h
  · exact .inl (.inl (k.tups _ _ h))
  · exact .inl (.inr ⟨o, k.frz _ _ _ h⟩)
  · exact .inr h
theorem Kp.sqL (k : Kp N H H') (h : SqL K H a xs) (n : ¬ N a) : SqL K H' a xs := by
  rcases h with (h | ⟨o, h⟩) | h
  · exact .inl (.inl (k.keep _ _ h (fun q z => by cases z) n))
  · exact .inl (.inr ⟨o, k.frz _ _ _ h⟩)
  · exact .inr h
mutual
theorem Den.kp (k : Kp N H H') : ∀ (t : T) (v : V), Den K N H t v → Den K N H' t v
  | .non, v, h => by unfold Den at h ⊢; exact h
  | .bl b, v, h => by unfold Den at h ⊢; exact h
  | .int i, v, h => by unfold Den at h ⊢; exact h
  | .str s, v, h => by unfold Den at h ⊢; exact h
  | .tup ts, v, h => by
    unfold Den at h ⊢
    obtain ⟨a, xs, e, q, r⟩ := h
    exact ⟨a, xs, e, k.sqT q, DenL.kp k ts xs r⟩
  | .lst ts, v, h => by
    unfold Den at h ⊢
    obtain ⟨a, xs, e, q, n, r⟩ := h
    exact ⟨a, xs, e, k.keep _ _ q (fun r z => by cases z) n, n, DenL.kp k ts xs r⟩
  | .dct, v, h => by
    unfold Den at h ⊢
    obtain ⟨a, e, q, n⟩ := h
    exact ⟨a, e, k.keep _ _ q (fun r z => by cases z) n, n⟩
theorem DenL.kp (k : Kp N H H') : ∀ (ts : List T) (xs : List V), DenL K N H ts xs → DenL K N H' ts xs
  | [], xs, h => by unfold DenL at h ⊢; exact h
  | t :: ts, xs, h => by
    unfold DenL at h ⊢
    obtain ⟨x, r, e, h1, h2⟩ := h
    exact ⟨x, r, e, Den.kp k t x h1, DenL.kp k ts r h2⟩
end
mutual
theorem Den.less (k : ∀ a, N' a → N a) : ∀ (t : T) (v : V), Den K N H t v → Den K N' H t v
  | .non, v, h => by unfold Den at h ⊢; exact h
  | .bl b, v, h => by unfold Den at h ⊢; exact h
  | .int i, v, h => by unfold Den at h ⊢; exact h
  | .str s, v, h => by unfold Den at h ⊢; exact h
  | .tup ts, v, h => by
    unfold Den at h ⊢
    obtain ⟨a, xs, e, q, r⟩ := h
    exact ⟨a, xs, e, q, DenL.less k ts xs r⟩
  | .lst ts, v, h => by
    unfold Den at h ⊢
    obtain ⟨a, xs, e, q, n, r⟩ := h
    exact ⟨a, xs, e, q, fun z => n (k a z), DenL.less k ts xs r⟩
  | .dct, v, h => by
    unfold Den at h ⊢
    obtain ⟨a, e, q, n⟩ := h
    exact ⟨a, e, q, fun z => n (k a z)⟩
theorem DenL.less (k : ∀ a, N' a → N a) : ∀ (ts : List T) (xs : List V), DenL K N H ts xs → DenL K N' H ts xs
  | [], xs, h => by unfold DenL at h ⊢; exact h
  | t :: ts, xs, h => by
    unfold DenL at h ⊢
    obtain ⟨x, r, e, h1, h2⟩ := h
    exact ⟨x, r, e, Den.less k t x h1, DenL.less k ts r h2⟩
end
mutual
/-- nothing of it stands at a free address -/
theorem Den.avoid (k : ∀ a, N' a → N a ∨ H a = none) : ∀ (t : T) (v : V), Den K N H t v → Den K N' H t v
  | .non, v, h => by unfold Den at h ⊢; exact h
  | .bl b, v, h => by unfold Den at h ⊢; exact h
  | .int i, v, h => by unfold Den at h ⊢; exact h
  | .str s, v, h => by unfold Den at h ⊢; exact h
  | .tup ts, v, h => by
    unfold Den at h ⊢
    obtain ⟨a, xs, e, q, r⟩ := h
    exact ⟨a, xs, e, q, DenL.avoid k ts xs r⟩
  | .lst ts, v, h => by
    unfold Den at h ⊢
    obtain ⟨a, xs, e, q, n, r⟩ := h
    refine ⟨a, xs, e, q, fun z => ?_, DenL.avoid k ts xs r⟩
    rcases k a z with z | z
    · exact n z
    · rw [q] at z; cases z
  | .dct, v, h => by
    unfold Den at h ⊢
    obtain ⟨a, e, q, n⟩ := h
    refine ⟨a, e, q, fun z => ?_⟩
    rcases k a z with z | z
    · exact n z
    · rw [q] at z; cases z
theorem DenL.avoid (k : ∀ a, N' a → N a ∨ H a = none) : ∀ (ts : List T) (xs : List V), DenL K N H ts xs → DenL K N' H ts xs
  | [], xs, h => by unfold DenL at h ⊢; exact h
  | t :: ts, xs, h => by
    unfold DenL at h ⊢
    obtain ⟨x, r, e, h1, h2⟩ := h
    exact ⟨x, r, e, Den.avoid k t x h1, DenL.avoid k ts r h2⟩
end
theorem Den.ex (e : Ex cs N H H') (h : Den K N H t v) : Den K N H' t v := Den.kp e.toKp t v h
theorem Den.ex0 (e : Ex cs N0 H H') (h : Den K N H t v) : Den K N H' t v := Den.kp (e.toKp.mono fun _ z => z.elim) t v h
theorem DenL.ex (e : Ex cs N H H') (h : DenL K N H ts xs) : DenL K N H' ts xs := DenL.kp e.toKp ts xs h
theorem DenL.ex0 (e : Ex cs N0 H H') (h : DenL K N H ts xs) : DenL K N H' ts xs := DenL.kp (e.toKp.mono fun _ z => z.elim) ts xs h
theorem DenL.len : ∀ {ts : List T} {xs : List V}, DenL K N H ts xs → xs.length = ts.length
  | [], xs, h => by unfold DenL at h; rw [h]; rfl
  | t :: ts, xs, h => by
    unfold DenL at h
    obtain ⟨x, r, rfl, _, h2⟩ := h
    rw [List.length_cons, List.length_cons, DenL.len h2]
theorem DenL.get : ∀ {ts : List T} {xs : List V} {i : Nat} {x : V}, DenL K N H ts xs → xs[i]? = some x → ∃ t, ts[i]? = some t ∧ Den K N H t x
  | [], xs, i, x, h, e => by unfold DenL at h; subst h; simp at e
  | t :: ts, xs, i, x, h, e => by
    unfold DenL at h
    obtain ⟨y, r, rfl, h1, h2⟩ := h
    cases i with
    | zero => simp at e; subst e; exact ⟨t, rfl, h1⟩
    | succ i => simp at e; obtain ⟨t', e1, e2⟩ := DenL.get h2 e; exact ⟨t', by simpa using e1, e2⟩
theorem DenL.get' : ∀ {ts : List T} {xs : List V} {i : Nat} {t : T}, DenL K N H ts xs → ts[i]? = some t → ∃ x, xs[i]? = some x ∧ Den K N H t x
  | [], xs, i, t, h, e => by simp at e
  | t :: ts, xs, i, u, h, e => by
    unfold DenL at h
    obtain ⟨y, r, rfl, h1, h2⟩ := h
    cases i with
    | zero => simp at e; subst e; exact ⟨y, rfl, h1⟩
    | succ i => simp at e; obtain ⟨t', e1, e2⟩ := DenL.get' h2 e; exact ⟨t', by simpa using e1, e2⟩
theorem DenL.nil : DenL K N H [] [] := by unfold DenL; rfl
theorem DenL.cons (h : Den K N H t v) (r : DenL K N H ts xs) : DenL K N H (t :: ts) (v :: xs) := by unfold DenL; exact ⟨v, xs, rfl, h, r⟩
theorem DenL.append : ∀ {ts us : List T} {xs ys : List V}, DenL K N H ts xs → DenL K N H us ys → DenL K N H (ts ++ us) (xs ++ ys)
  | [], us, xs, ys, h, r => by unfold DenL at h; subst h; exact r
  | t :: ts, us, xs, ys, h, r => by
    unfold DenL at h
    obtain ⟨x, z, rfl, h1, h2⟩ := h
    exact DenL.cons h1 (DenL.append h2 r)
theorem Den.int_ (i : Int) : Den K N H (.int i) (.int i) := by unfold Den; rfl
theorem Den.bl_ (b : Bool) : Den K N H (.bl b) (.bl b) := by unfold Den; rfl
theorem Den.str_ (s : Str) (h : s.length ≤ sizeLine) : Den K N H (.str s) (.str s) := by unfold Den; exact ⟨rfl, h⟩
theorem Den.non_ : Den K N H .non .non := by unfold Den; rfl
theorem Den.tup_ (h : SqT K H a xs) (r : DenL K N H ts xs) : Den K N H (.tup ts) (.ref a) := by unfold Den; exact ⟨a, xs, rfl, h, r⟩
theorem Den.lst_ (h : H a = some (.lst xs)) (n : ¬ N a) (r : DenL K N H ts xs) : Den K N H (.lst ts) (.ref a) := by unfold Den; exact ⟨a, xs, rfl, h, n, r⟩
theorem Den.dct_ (h : H a = some (.dK [])) (n : ¬ N a) : Den K N H .dct (.ref a) := by unfold Den; exact ⟨a, rfl, h, n⟩

/-! ### isinstance -/
def tyName : T → String
  | .non => "NoneType" | .bl _ => "bool" | .int _ => "int" | .str _ => "str" | .tup _ => "tuple" | .lst _ => "list" | .dct => "dict"
theorem Den.tyx (h : Den K N H t v) : TyX K H v (.type (tyName t)) := by
  cases t with
  | non => unfold Den at h; subst h; exact .base .non
  | bl b => unfold Den at h; subst h; exact .base (.bl b)
  | int i => unfold Den at h; subst h; exact .base (.int i)
  | str s => unfold Den at h; obtain ⟨rfl, _⟩ := h; exact .base (.str s)
  | tup ts =>
    unfold Den at h
    obtain ⟨a, xs, rfl, q, _⟩ := h
    rcases q with (q | ⟨o, q⟩) | ⟨o, vs, n, q, c, r⟩
    · exact .base (.tup q)
    · exact .fTuple q
    · exact .kTuple q c
  | lst ts =>
    unfold Den at h
    obtain ⟨a, xs, rfl, q, _⟩ := h
    exact .base (.lst q)
  | dct =>
    unfold Den at h
    obtain ⟨a, rfl, q, _⟩ := h
    exact .base (.dK q)
def isiB (t : T) (b : String) : Bool := (kitB (tyName t) b).getD false
theorem isi {Q : VK} (h : Den K N H t v) {b : String} (hb : (kitB (tyName t) b).isSome = true) (q : Q (.bl (isiB t b)) H) : rIsi K [v, .ty b] H Q := by
  obtain ⟨r, e⟩ := Option.isSome_iff_exists.mp hb
  have e2 : isiB t b = r := by unfold isiB; rw [e]; rfl
  rw [e2] at q
  exact ⟨v, .ty b, _, _, _, rfl, .ty b, h.tyx, kit_ty e, q⟩
theorem kb_NoneType_int : kitB "NoneType" "int" = some false := by decide +kernel
theorem kb_bool_int : kitB "bool" "int" = some true := by decide +kernel
theorem kb_int_int : kitB "int" "int" = some true := by decide +kernel
theorem kb_str_int : kitB "str" "int" = some false := by decide +kernel
theorem kb_tuple_int : kitB "tuple" "int" = some false := by decide +kernel
theorem kb_list_int : kitB "list" "int" = some false := by decide +kernel
theorem kb_dict_int : kitB "dict" "int" = some false := by decide +kernel
theorem kb_NoneType_bool : kitB "NoneType" "bool" = some false := by decide +kernel
theorem kb_bool_bool : kitB "bool" "bool" = some true := by decide +kernel
theorem kb_int_bool : kitB "int" "bool" = some false := by decide +kernel
theorem kb_str_bool : kitB "str" "bool" = some false := by decide +kernel
theorem kb_tuple_bool : kitB "tuple" "bool" = some false := by decide +kernel
theorem kb_list_bool : kitB "list" "bool" = some false := by decide +kernel
theorem kb_dict_bool : kitB "dict" "bool" = some false := by decide +kernel
theorem kb_NoneType_str : kitB "NoneType" "str" = some false := by decide +kernel
theorem kb_bool_str : kitB "bool" "str" = some false := by decide +kernel
theorem kb_int_str : kitB "int" "str" = some false := by decide +kernel
theorem kb_str_str : kitB "str" "str" = some true := by decide +kernel
theorem kb_tuple_str : kitB "tuple" "str" = some false := by decide +kernel
theorem kb_list_str : kitB "list" "str" = some false := by decide +kernel
theorem kb_dict_str : kitB "dict" "str" = some false := by decide +kernel
theorem kb_NoneType_tuple : kitB "NoneType" "tuple" = some false := by decide +kernel
theorem kb_bool_tuple : kitB "bool" "tuple" = some false := by decide +kernel
theorem kb_int_tuple : kitB "int" "tuple" = some false := by decide +kernel
theorem kb_str_tuple : kitB "str" "tuple" = some false := by decide +kernel
theorem kb_tuple_tuple : kitB "tuple" "tuple" = some true := by decide +kernel
theorem kb_list_tuple : kitB "list" "tuple" = some false := by decide +kernel
theorem kb_dict_tuple : kitB "dict" "tuple" = some false := by decide +kernel
theorem kb_NoneType_list : kitB "NoneType" "list" = some false := by decide +kernel
theorem kb_bool_list : kitB "bool" "list" = some false := by decide +kernel
theorem kb_int_list : kitB "int" "list" = some false := by decide +kernel
theorem kb_str_list : kitB "str" "list" = some false := by decide +kernel
theorem kb_tuple_list : kitB "tuple" "list" = some false := by decide +kernel
theorem kb_list_list : kitB "list" "list" = some true := by decide +kernel
theorem kb_dict_list : kitB "dict" "list" = some false := by decide +kernel
theorem isiOk (t : T) (b : String) (h : b ∈ ["int", "bool", "str", "tuple", "list"]) : (kitB (tyName t) b).isSome = true := by
  simp only [List.mem_cons, List.not_mem_nil, or_false] at h
  rcases h with rfl | rfl | rfl | rfl | rfl <;> cases t <;> simp only [tyName, kb_NoneType_int, kb_NoneType_bool, kb_NoneType_str, kb_NoneType_tuple, kb_NoneType_list, kb_bool_int, kb_bool_bool, kb_bool_str, kb_bool_tuple, kb_bool_list, kb_int_int, kb_int_bool, kb_int_str, kb_int_tuple, kb_int_list, kb_str_int, kb_str_bool, kb_str_str, kb_str_tuple, kb_str_list, kb_tuple_int, kb_tuple_bool, kb_tuple_str, kb_tuple_tuple, kb_tuple_list, kb_list_int, kb_list_bool, kb_list_str, kb_list_tuple, kb_list_list, kb_dict_int, kb_dict_bool, kb_dict_str, kb_dict_tuple, kb_dict_list, Option.isSome_some]
theorem isi_int (t : T) : isiB t "int" = match t with | .int _ => true | .bl _ => true | _ => false := by
  cases t <;> simp only [isiB, tyName, kb_NoneType_int, kb_bool_int, kb_int_int, kb_str_int, kb_tuple_int, kb_list_int, kb_dict_int, Option.getD_some]
theorem isi_bool (t : T) : isiB t "bool" = match t with | .bl _ => true | _ => false := by
  cases t <;> simp only [isiB, tyName, kb_NoneType_bool, kb_bool_bool, kb_int_bool, kb_str_bool, kb_tuple_bool, kb_list_bool, kb_dict_bool, Option.getD_some]
theorem isi_str (t : T) : isiB t "str" = match t with | .str _ => true | _ => false := by
  cases t <;> simp only [isiB, tyName, kb_NoneType_str, kb_bool_str, kb_int_str, kb_str_str, kb_tuple_str, kb_list_str, kb_dict_str, Option.getD_some]
theorem isi_tuple (t : T) : isiB t "tuple" = match t with | .tup _ => true | _ => false := by
  cases t <;> simp only [isiB, tyName, kb_NoneType_tuple, kb_bool_tuple, kb_int_tuple, kb_str_tuple, kb_tuple_tuple, kb_list_tuple, kb_dict_tuple, Option.getD_some]
theorem isi_list (t : T) : isiB t "list" = match t with | .lst _ => true | _ => false := by
  cases t <;> simp only [isiB, tyName, kb_NoneType_list, kb_bool_list, kb_int_list, kb_str_list, kb_tuple_list, kb_list_list, kb_dict_list, Option.getD_some]
theorem isiKit {K : PySem.W.Frag} (t : T) (b : String) (h : b ∈ ["int", "bool", "str", "tuple", "list"] := by decide) : PySem.W.kitOne K (.type (tyName t)) (.type b) = some (isiB t b) := by
  obtain ⟨r, e⟩ := Option.isSome_iff_exists.mp (isiOk t b h)
  have e2 : isiB t b = r := by unfold isiB; rw [e]; rfl
  rw [e2]
  exact kit_ty e
end
end FW
namespace FW
open PySem PySem.Spec PyProof.Rows L2 GxR GA

/-- a def that stands, its code object at c -/
structure FunC (K : PySem.W.Frag) (x qual : Str) (st : Stmt) (f : Addr) (fd : FuncData) (c : Addr) : Prop where
  ex : ∃ (oc : Value) (od : Option Addr) (kV doc pm : Value) (an : Option Addr) (ct : Value) (osl : Array (Option Value)),
    fd = PySem.W.fnOf x qual (defArgs st) (defBody st) (defScope st) .none kV doc pm an (.ref c) ct ∧ K.lookup f = some ⟨oc, od, .func fd, osl⟩ ∧ PySem.W.codeIn K (.ref c) qual = true
  kp : PySem.W.keepIn K (.ref f) = true
section
variable {P : Program} {w : World} {K : PySem.W.Frag} {mg : Str → Option Value} {base : Heap}
theorem FunC.ok {x qual : Str} {st : Stmt} {f c : Addr} {fd : FuncData} {N ps : List Str} {k : Nat} {sp : Sp} (F : FunC K x qual st f fd c) (S : FnScope N ps (defScope st)) (len : ∀ vs H Q E, sp vs H Q E → vs.length = ps.length)
    (hbody : ∀ (A : Around) (outer : List Env) (s : Shared) (H : Hp) (vs : List V) (Q : VK) (E : XK), Room k (A.deeper (envOfC qual (defScope st) s.heap.objs.size f (.ref c))) → sp vs H Q E →
      ∃ t, PSs (cxOf CX0 P w K mg base N qual (defScope st) f (.ref c) A outer s H E).nox (defBody st) t ∧ t { nx := fun _ H' => Q .non H', rt := Q } (start N vs) H) : FnOk P w K mg base CX0 (k + 1) f fd ps sp := by
  obtain ⟨oc, od, kV, doc, pm, an, ct, osl, rfl, lk, hcd⟩ := F.ex
  refine fn_of lk hcd S len fun A outer s H vs Q E hr hsp => ?_
  obtain ⟨t, h, q⟩ := hbody A outer s H vs Q E hr hsp
  exact ⟨t, h.nox, q⟩
end

section
variable {K : PySem.W.Frag} {N : Addr → Prop} {cs : List (Addr × Addr)} {a : Addr} {xs : List V} {ts : List T} {g : TG} {te : TE} {vs : List Nat} {σ : L2.St} {H2 : Hp} {Q : VK}
/-- all(..) over a tuple of trees, the test a mirror r -/
theorem all_den (r : T → Bool) (hS : SqT K H2 a xs) (hD : DenL K N H2 ts xs) (tok : TOk cs H2)
    (hs : ∀ x t H, t ∈ ts → Den K N H t x → TOk cs H → ∀ Q' : VK, (∀ H', Ex cs N0 H H' → Q' (.bl (r t)) H') → g x (wipe σ vs) H fun σ2 H3 => wipe σ2 vs = wipe σ vs ∧ te σ2 H3 Q')

    (k : ∀ H', Ex cs N0 H2 H' → Q (.bl (ts.all r)) H') : ∃ W : Nat → Nat → Hp → Prop, (∃ m, W 0 m H2) ∧ AllTurn (Itt K a) g te vs σ Q W := by
  have hlen := hD.len
  refine ⟨fun i m H => m = xs.length - i ∧ i ≤ xs.length ∧ Ex cs N0 H2 H ∧ (ts.take i).all r = true, ⟨xs.length, by simp, Nat.zero_le _, Ex.refl tok, by simp⟩, ?_⟩
  rintro i m H ⟨rfl, hi, e, ha⟩
  have q := (e.toKp.mono (N' := N) fun _ z => z.elim).sqT hS
  by_cases hlt : i < xs.length
  · refine .inr ⟨⟨xs, xs[i], q, by simp [hlt]⟩, fun x H' y => ?_⟩
    obtain ⟨rfl, y⟩ := y
    obtain ⟨t, ht, hdt⟩ := (hD.ex0 e).get (y xs q)
    refine hs x t _ (List.mem_of_getElem? ht) hdt e.tok _ fun H' e' => ⟨r t, rfl, ?_⟩
    have tk : ts.take (i + 1) = ts.take i ++ [t] := by rw [List.take_add_one, ht]; rfl
    refine ite2 (fun c => ⟨xs.length - (i + 1), by omega, rfl, hlt, e.trans e', by rw [tk, List.all_append, ha, List.all_cons, c]; rfl⟩) fun c => ?_
    have c : r t = false := by rw [Bool.not_eq_true] at c; exact c
    have := k H' (e.trans e')
    have al : ts.all r = false := by
      rw [← List.take_append_drop (i + 1) ts, tk, List.all_append, List.all_append, List.all_cons, c]
      simp
    rw [al] at this
    exact this
  · have e1 : i = xs.length := by omega
    subst e1
    refine .inl ⟨⟨xs, q, Nat.le_refl _⟩, ?_⟩
    have := k H e
    rw [hlen, List.take_length] at ha
    rw [ha] at this
    exact this
/-- all(..) over the signs of a text, nothing else happens -/
theorem all_signs {x : Str} (r : Nat → Bool)
    (hs : ∀ c (Q' : VK), Q' (.bl (r c)) H2 → g (.str ⟨#[c]⟩) (wipe σ vs) H2 fun σ2 H3 => wipe σ2 vs = wipe σ vs ∧ te σ2 H3 Q')
    (k : Q (.bl (x.cps.toList.all r)) H2) : ∃ W : Nat → Nat → Hp → Prop, (∃ m, W 0 m H2) ∧ AllTurn (Its x) g te vs σ Q W := by
  have hsz : x.cps.toList.length = x.cps.size := by simp
  refine ⟨fun i m H => H = H2 ∧ m = x.cps.size - i ∧ i ≤ x.cps.size ∧ (x.cps.toList.take i).all r = true, ⟨x.cps.size, rfl, by simp, Nat.zero_le _, by simp⟩, ?_⟩
  rintro i m H ⟨rfl, rfl, hi, ha⟩
  by_cases hlt : i < x.cps.size
  · refine .inr ⟨hlt, fun v H' y => ?_⟩
    obtain ⟨rfl, c, hc, rfl⟩ := y
    refine hs c _ ⟨r c, rfl, ?_⟩
    have hc' : x.cps.toList[i]? = some c := by simpa using hc
    have tk : x.cps.toList.take (i + 1) = x.cps.toList.take i ++ [c] := by rw [List.take_add_one, hc']; rfl
    refine ite2 (fun z => ⟨x.cps.size - (i + 1), by omega, rfl, rfl, hlt, by rw [tk, List.all_append, ha, List.all_cons, z]; rfl⟩) fun z => ?_
    have z : r c = false := by rw [Bool.not_eq_true] at z; exact z
    have al : x.cps.toList.all r = false := by
      rw [← List.take_append_drop (i + 1) x.cps.toList, tk, List.all_append, List.all_append, List.all_cons, z]
      simp
    rw [al] at k
    exact k
  · have e1 : i = x.cps.size := by omega
    subst e1
    refine .inl ⟨Nat.le_refl _, ?_⟩
    rw [← hsz, List.take_length] at ha
    rw [ha] at k
    exact k

/-- [e for x in ts], ts a tuple of trees, the item f of the tree -/
theorem lc_map {D : Addr} {Qd : Hp → Prop} {H1 : Hp} (f : T → V) (hS : SqT K H1 a xs) (hD : DenL K N H1 ts xs) (tok : TOk cs H1) (hn : H1 D = none) (hl : ts.length < sizeLine)
    (hs : ∀ x t H acc, t ∈ ts → Den K (fun b => N b ∨ b = D) H t x → TOk cs H → H D = some (.lst acc) → Kp (N1 D) H1 H → ∀ Q' : VK, (∀ H', Ex cs N0 H H' → Q' (f t) H') → g x (wipe σ vs) H fun σ2 H3 => wipe σ2 vs = wipe σ vs ∧ te σ2 H3 Q')
    (hd : ∀ H', TOk cs H' → Kp N0 H1 H' → H' D = some (.lst (ts.map f)) → Qd H') :
    ∃ W : Nat → Nat → Hp → Prop, (∃ m, W 0 m (upd H1 D (.lst []))) ∧ ∀ i m H, W i m H →
      ((Itt K a).stop i H ∧ Qd H) ∨ ((Itt K a).go i H ∧ ∃ Nx : Hp → Prop, (∀ H', Nx H' → ∃ m', m' < m ∧ W (i + 1) m' H') ∧ ∀ x H', (Itt K a).yld i H x H' → g x (wipe σ vs) H' fun σ2 H2 => wipe σ2 vs = wipe σ vs ∧ tYes σ2 H2 fun b H3 =>
        if b = true then te σ2 H3 fun y H4 => ∃ acc, H4 D = some (.lst acc) ∧ acc.length < sizeLine ∧ Nx (upd H4 D (.lst (acc ++ [y]))) else Nx H3) := by
  have hlen := hD.len
  have hD' : DenL K (fun b => N b ∨ b = D) H1 ts xs := DenL.avoid (fun b z => z.elim .inl fun z => .inr (by rw [z]; exact hn)) _ _ hD
  have k0 : ∀ {H}, Kp (N1 D) H1 H → Kp N0 H1 H := fun k => ⟨fun b o e q _ => k.keep b o e q (fun z => by rw [show b = D from z, hn] at e; cases e), k.tups, k.frz, k.stay⟩
  refine lc_tup (K := K) (a := a) (xs := xs) (fun i H => TOk cs H ∧ Kp (N1 D) H1 H ∧ H D = some (.lst ((ts.take i).map f))) ⟨tok.new hn, Kp.new hn, upd_same⟩ (fun i H _ p => (k0 p.2.1).sqT hS) (fun i x H hx p => ?_) fun H p => ?_
  · obtain ⟨p1, p2, p3⟩ := p
    obtain ⟨t, ht, _⟩ := hD.get hx
    have hdt : Den K (fun b => N b ∨ b = D) H t x := by
      obtain ⟨t', ht', h⟩ := (DenL.kp (p2.mono fun b z => .inr z) _ _ hD').get hx
      rw [ht] at ht'
      cases ht'
      exact h
    have := hs x t H _ (List.mem_of_getElem? ht) hdt p1 p3 p2 (fun y H4 => ∃ acc, H4 D = some (.lst acc) ∧ acc.length < sizeLine ∧ (TOk cs (upd H4 D (.lst (acc ++ [y]))) ∧ Kp (N1 D) H1 (upd H4 D (.lst (acc ++ [y]))) ∧ (upd H4 D (.lst (acc ++ [y]))) D = some (.lst ((ts.take (i + 1)).map f)))) fun H' e => ?_
    · exact this
    · have e1 : H' D = some (.lst ((ts.take i).map f)) := e.keep _ _ p3 (fun q z => by cases z) fun z => z
      have hi : i < ts.length := (List.getElem?_eq_some_iff.mp ht).1
      refine ⟨_, e1, ?_, e.tok.put e1 (fun q z => by cases z), (p2.trans (e.toKp.mono fun _ z => z.elim)).trans (Kp.put e1 rfl), ?_⟩
      · rw [List.length_map, List.length_take]; omega
      · rw [upd_same, List.take_add_one, ht, List.map_append]; rfl
  · obtain ⟨p1, p2, p3⟩ := p
    rw [hlen, List.take_length] at p3
    exact hd H p1 (k0 p2) p3
end
end FW
namespace LW
open PySem PySem.Spec PyProof.Rows L2 GxR FW GA

def top (i : Nat) : Stmt := PySem.Challenge.pw_closestfit_k85_whole_tokens_of_texts.main.body.getD i (.Pass ⟨0, 0, 0, 0⟩)
abbrev s_is_text : Stmt := top 9
abbrev N_is_text : List Str := ["value"]
abbrev P_is_text : List Str := ["value"]
theorem sc_is_text : FnScope N_is_text P_is_text (defScope s_is_text) := ⟨rfl, rfl, rfl, by decide +kernel, rfl, by decide +kernel, by decide +kernel⟩
abbrev s_is_small : Stmt := top 10
abbrev N_is_small : List Str := ["letter"]
abbrev P_is_small : List Str := ["letter"]
theorem sc_is_small : FnScope N_is_small P_is_small (defScope s_is_small) := ⟨rfl, rfl, rfl, by decide +kernel, rfl, by decide +kernel, by decide +kernel⟩
abbrev s_is_capital : Stmt := top 11
abbrev N_is_capital : List Str := ["letter"]
abbrev P_is_capital : List Str := ["letter"]
theorem sc_is_capital : FnScope N_is_capital P_is_capital (defScope s_is_capital) := ⟨rfl, rfl, rfl, by decide +kernel, rfl, by decide +kernel, by decide +kernel⟩
abbrev s_is_digit : Stmt := top 12
abbrev N_is_digit : List Str := ["letter"]
abbrev P_is_digit : List Str := ["letter"]
theorem sc_is_digit : FnScope N_is_digit P_is_digit (defScope s_is_digit) := ⟨rfl, rfl, rfl, by decide +kernel, rfl, by decide +kernel, by decide +kernel⟩
abbrev s_scan : Stmt := top 13
abbrev N_scan : List Str := ["text", "tokens", "at", "kind", "characters"]
abbrev P_scan : List Str := ["text"]
theorem sc_scan : FnScope N_scan P_scan (defScope s_scan) := ⟨rfl, rfl, rfl, by decide +kernel, rfl, by decide +kernel, by decide +kernel⟩
abbrev s_token_at : Stmt := top 14
abbrev N_token_at : List Str := ["text", "at", "characters", "sign"]
abbrev P_token_at : List Str := ["text", "at"]
theorem sc_token_at : FnScope N_token_at P_token_at (defScope s_token_at) := ⟨rfl, rfl, rfl, by decide +kernel, rfl, by decide +kernel, by decide +kernel⟩
abbrev s_end_of_run : Stmt := top 15
abbrev N_end_of_run : List Str := ["text", "at", "belongs"]
abbrev P_end_of_run : List Str := ["text", "at", "belongs"]
theorem sc_end_of_run : FnScope N_end_of_run P_end_of_run (defScope s_end_of_run) := ⟨rfl, rfl, rfl, by decide +kernel, rfl, by decide +kernel, by decide +kernel⟩
abbrev s_wanted_name : Stmt := top 16
abbrev N_wanted_name : List Str := ["characters", "at"]
abbrev P_wanted_name : List Str := ["characters", "at"]
theorem sc_wanted_name : FnScope N_wanted_name P_wanted_name (defScope s_wanted_name) := ⟨rfl, rfl, rfl, by decide +kernel, rfl, by decide +kernel, by decide +kernel⟩
abbrev s_wanted_number : Stmt := top 17
abbrev N_wanted_number : List Str := ["characters", "at"]
abbrev P_wanted_number : List Str := ["characters", "at"]
theorem sc_wanted_number : FnScope N_wanted_number P_wanted_number (defScope s_wanted_number) := ⟨rfl, rfl, rfl, by decide +kernel, rfl, by decide +kernel, by decide +kernel⟩
abbrev s__law_stream : Stmt := top 19
abbrev N__law_stream : List Str := ["script"]
abbrev P__law_stream : List Str := ["script"]
theorem sc__law_stream : FnScope N__law_stream P__law_stream (defScope s__law_stream) := ⟨rfl, rfl, rfl, by decide +kernel, rfl, by decide +kernel, by decide +kernel⟩
abbrev s__law_next : Stmt := top 20
abbrev N__law_next : List Str := ["stream", "many", "k", "cell", "digit"]
abbrev P__law_next : List Str := ["stream", "many"]
theorem sc__law_next : FnScope N__law_next P__law_next (defScope s__law_next) := ⟨rfl, rfl, rfl, by decide +kernel, rfl, by decide +kernel, by decide +kernel⟩
abbrev s__law_pick : Stmt := top 21
abbrev N__law_pick : List Str := ["stream", "rows"]
abbrev P__law_pick : List Str := ["stream", "rows"]
theorem sc__law_pick : FnScope N__law_pick P__law_pick (defScope s__law_pick) := ⟨rfl, rfl, rfl, by decide +kernel, rfl, by decide +kernel, by decide +kernel⟩
abbrev s__law_is_integer : Stmt := top 22
abbrev N__law_is_integer : List Str := ["actual"]
abbrev P__law_is_integer : List Str := ["actual"]
theorem sc__law_is_integer : FnScope N__law_is_integer P__law_is_integer (defScope s__law_is_integer) := ⟨rfl, rfl, rfl, by decide +kernel, rfl, by decide +kernel, by decide +kernel⟩
abbrev s__law_same : Stmt := top 23
abbrev N__law_same : List Str := ["actual", "due", "left", "turn", "one", "other", "at"]
abbrev P__law_same : List Str := ["actual", "due"]
theorem sc__law_same : FnScope N__law_same P__law_same (defScope s__law_same) := ⟨rfl, rfl, rfl, by decide +kernel, rfl, by decide +kernel, by decide +kernel⟩
abbrev s__law_word : Stmt := top 24
abbrev N__law_word : List Str := ["stream", "least", "most", "letters", "word", "at"]
abbrev P__law_word : List Str := ["stream", "least", "most"]
theorem sc__law_word : FnScope N__law_word P__law_word (defScope s__law_word) := ⟨rfl, rfl, rfl, by decide +kernel, rfl, by decide +kernel, by decide +kernel⟩
abbrev s__law_run : Stmt := top 25
abbrev N__law_run : List Str := ["text", "at", "letters", "place"]
abbrev P__law_run : List Str := ["text", "at", "letters"]
theorem sc__law_run : FnScope N__law_run P__law_run (defScope s__law_run) := ⟨rfl, rfl, rfl, by decide +kernel, rfl, by decide +kernel, by decide +kernel⟩
abbrev s__law_scan : Stmt := top 26
abbrev N__law_scan : List Str := ["text", "lower", "found", "at", "turn", "first", "end", "word", "most"]
abbrev P__law_scan : List Str := ["text"]
theorem sc__law_scan : FnScope N__law_scan P__law_scan (defScope s__law_scan) := ⟨rfl, rfl, rfl, by decide +kernel, rfl, by decide +kernel, by decide +kernel⟩
abbrev s__law_piece : Stmt := top 27
abbrev N__law_piece : List Str := ["stream", "turn", "at"]
abbrev P__law_piece : List Str := ["stream"]
theorem sc__law_piece : FnScope N__law_piece P__law_piece (defScope s__law_piece) := ⟨rfl, rfl, rfl, by decide +kernel, rfl, by decide +kernel, by decide +kernel⟩
abbrev s__law_scanned : Stmt := top 28
abbrev N__law_scanned : List Str := ["text", "found", "e"]
abbrev P__law_scanned : List Str := ["text"]
theorem sc__law_scanned : FnScope N__law_scanned P__law_scanned (defScope s__law_scanned) := ⟨rfl, rfl, rfl, by decide +kernel, rfl, by decide +kernel, by decide +kernel⟩
abbrev s_law : Stmt := top 29
abbrev N_law : List Str := ["script", "stream", "clean", "text", "turn", "piece", "room", "at", "due", "told"]
abbrev P_law : List Str := ["script"]
theorem sc_law : FnScope N_law P_law (defScope s_law) := ⟨rfl, rfl, rfl, by decide +kernel, rfl, by decide +kernel, by decide +kernel⟩
/-- the built-in names that the text reads are not the module's own -/
structure Glo (mg : Str → Option Value) : Prop where
  abs : mg "abs" = none
  bool : mg "bool" = none
  int : mg "int" = none
  isinstance : mg "isinstance" = none
  len : mg "len" = none
  list : mg "list" = none
  range : mg "range" = none
  str : mg "str" = none
  tuple : mg "tuple" = none
  c_MOST_CHARACTERS : ∃ u, mg "MOST_CHARACTERS" = some u ∧ RelV (.int 8000) u
  c_MOST_DIGITS : ∃ u, mg "MOST_DIGITS" = some u ∧ RelV (.int 6) u
  c_MOST_LETTERS : ∃ u, mg "MOST_LETTERS" = some u ∧ RelV (.int 8) u
end LW
/-! the tokens of a text, as mathematics -/
namespace SC
open PySem
def low (c : Nat) : Bool := decide (97 ≤ c) && decide (c ≤ 122)
def cap (c : Nat) : Bool := decide (65 ≤ c) && decide (c ≤ 90)
def dig (c : Nat) : Bool := decide (48 ≤ c) && decide (c ≤ 57)
def sg1 (c : Nat) : Bool := c == 40 || c == 41 || c == 44 || c == 59 || c == 58 || c == 61 || c == 124 || c == 35
inductive Tk where
  | ok (kind : Str) (n : Nat)
  | bad (w : Str)
abbrev wNone : Str := "no token begins here"
abbrev wName : Str := "a name has at most 8 letters"
abbrev wNum : Str := "a number has at most 6 digits"
abbrev rn (p : Nat → Bool) (l : List Nat) : Nat := (l.takeWhile p).length
/-- the token that begins with c, behind it r -/
def tokR (c : Nat) (r : List Nat) : Tk :=
  if low c then (if 8 < 1 + rn low r then .bad wName else .ok (if 1 + rn low r = 1 then "variable" else "constructor") (1 + rn low r))
  else if cap c then (if 8 < 1 + rn low r then .bad wName else .ok "generic" (1 + rn low r))
  else if dig c then (if 6 < 1 + rn dig r then .bad wNum else .ok "number" (1 + rn dig r))
  else if c = 46 ∧ r.head? = some 46 then .ok "sign" 2
  else if sg1 c then .ok "sign" 1
  else .bad wNone
/-- what is told of a text: the tokens (kind, characters, column), or a problem -/
inductive Sc where
  | toks (l : List (Str × List Nat × Nat))
  | prob (col : Nat) (w : Str)
def Sc.pre (t : List (Str × List Nat × Nat)) : Sc → Sc
  | .toks l => .toks (t ++ l)
  | .prob c w => .prob c w
theorem Sc.pre_nil (s : Sc) : s.pre [] = s := by cases s <;> rfl
theorem Sc.pre_pre (s : Sc) (a b : List (Str × List Nat × Nat)) : (s.pre b).pre a = s.pre (a ++ b) := by
  cases s with
  | toks l => show Sc.toks (a ++ (b ++ l)) = .toks (a ++ b ++ l); rw [List.append_assoc]
  | prob c w => rfl
def scanR (i : Nat) (l : List Nat) : Sc := match l with
  | [] => .toks [("end", [], i + 1)]
  | c :: r => if c = 32 then scanR (i + 1) r else match tokR c r with
    | .bad w => .prob (i + 1) w
    | .ok k n => (scanR (i + 1 + (n - 1)) (r.drop (n - 1))).pre [(k, (c :: r).take n, i + 1)]
termination_by l.length
decreasing_by
  · simp
  · simp; omega
theorem scan_nil (i : Nat) : scanR i [] = .toks [("end", [], i + 1)] := by rw [scanR]
theorem scan_sp (i : Nat) (r : List Nat) : scanR i (32 :: r) = scanR (i + 1) r := by rw [scanR, if_pos rfl]
theorem tok_pos {c : Nat} {r : List Nat} {k : Str} {n : Nat} (h : tokR c r = .ok k n) : 1 ≤ n := by
  unfold tokR at h
  repeat (first | (split at h) | (injection h with h1 h2; omega) | (cases h))
theorem takeWhile_len (p : Nat → Bool) : ∀ r : List Nat, rn p r ≤ r.length
  | [] => Nat.le_refl _
  | c :: r => by
    unfold rn
    rw [List.takeWhile_cons]
    split
    · have := takeWhile_len p r
      simp
      exact this
    · simp
theorem tok_len {c : Nat} {r : List Nat} {k : Str} {n : Nat} (h : tokR c r = .ok k n) : n ≤ r.length + 1 := by
  have a := takeWhile_len low r
  have b := takeWhile_len dig r
  unfold tokR at h
  have go : ∀ {P : Prop} [Decidable P] {w k' : Str} {n' : Nat}, (if P then Tk.bad w else .ok k' n') = .ok k n → n = n' := fun {P _ w k' n'} h => by
    split at h
    · cases h
    · injection h with _ h2; exact h2.symm
  split at h
  · have := go h; omega
  split at h
  · have := go h; omega
  split at h
  · have := go h; omega
  split at h
  · rename_i hh
    injection h with h1 h2
    cases r with
    | nil => simp at hh
    | cons a l => simp; omega
  split at h
  · injection h with h1 h2; omega
  · cases h
theorem scan_ok {i c : Nat} {r : List Nat} {k : Str} {n : Nat} (hc : c ≠ 32) (h : tokR c r = .ok k n) : scanR i (c :: r) = (scanR (i + n) ((c :: r).drop n)).pre [(k, (c :: r).take n, i + 1)] := by
  have := tok_pos h
  rw [scanR, if_neg hc, h]
  show (scanR (i + 1 + (n - 1)) (r.drop (n - 1))).pre _ = _
  have e : i + 1 + (n - 1) = i + n := by omega
  have e2 : (c :: r).drop n = r.drop (n - 1) := by
    cases n with
    | zero => omega
    | succ n => rfl
  rw [e, e2]
theorem scan_bad {i c : Nat} {r : List Nat} {w : Str} (hc : c ≠ 32) (h : tokR c r = .bad w) : scanR i (c :: r) = .prob (i + 1) w := by
  rw [scanR, if_neg hc, h]
/-- the number of its tokens -/
def Sc.num : Sc → Nat
  | .toks l => l.length
  | .prob _ _ => 0
theorem Sc.num_pre (s : Sc) (a : List (Str × List Nat × Nat)) : (s.pre a).num ≤ a.length + s.num := by
  cases s with
  | toks l => show (a ++ l).length ≤ _; rw [List.length_append]; exact Nat.le_refl _
  | prob c w => exact Nat.zero_le _
theorem scan_num : ∀ (m : Nat) (i : Nat) (l : List Nat), l.length ≤ m → (scanR i l).num ≤ l.length + 1
  | m, i, [], _ => by rw [scan_nil]; exact Nat.le_refl _
  | 0, i, c :: r, h => by simp at h
  | m + 1, i, c :: r, h => by
    simp at h
    by_cases hc : c = 32
    · subst hc
      rw [scan_sp]
      have := scan_num m (i + 1) r h
      simp; omega
    · cases e : tokR c r with
      | bad w => rw [scan_bad hc e]; exact Nat.zero_le _
      | ok k n =>
        rw [scan_ok hc e]
        have h1 := tok_pos e
        have e2 : (c :: r).drop n = r.drop (n - 1) := by
          cases n with
          | zero => omega
          | succ n => rfl
        have h2 := scan_num m (i + n) ((c :: r).drop n) (by rw [e2, List.length_drop]; omega)
        have h3 := Sc.num_pre (scanR (i + n) ((c :: r).drop n)) [(k, (c :: r).take n, i + 1)]
        rw [e2, List.length_drop] at h2
        rw [e2] at h3
        rw [e2]
        simp at h3 ⊢
        omega
end SC
/-! super().__init__(e) as the first statement of an own exception's __init__ -/
namespace SU
open PySem PySem.Spec PyProof.Rows L2 NdefX

/-- a method that knows its class D by the cell cc -/
structure FnS (K : PySem.W.Frag) (F : NF) (file : Str) (f cc D : Addr) (fd : FuncData) : Prop where
  ex : ∃ (oc : Value) (od : Option Addr) (kV doc pm ctv : Value) (an : Option Addr) (osl : Array (Option Value)), fd = PySem.W.fnX F.name F.qual F.params F.body F.scope F.cl .none kV doc pm an (.ref F.c) ctv ∧ K.lookup f = some ⟨oc, od, .func fd, osl⟩
  cl : F.cl = [(("__class__" : Str), cc)]
  code : PySem.W.codeIn K (.ref F.c) F.qual = true
  file : ∃ (oc : Value) (od : Option Addr) (vs : Array Value) (sl : Array (Option Value)) (tf : Tok), K.lookup F.c = some ⟨oc, od, .fields vs, sl⟩ ∧ vs[2]? = some (.str file tf)
  cell : ∃ (oc : Value) (od : Option Addr) (sl : Array (Option Value)), K.lookup cc = some ⟨oc, od, .cell (some (.ref D)), sl⟩
/-- what is asked of the module's text and of the class -/
structure SupT (P : Program) (K : PySem.W.Frag) (mg : Str → Option Value) (file : Str) (C : Addr) : Prop where
  hfile : ((P.main.file : Str) == file) = true
  htop : (P.main.scope.names.lookup ("super" : Str)).isSome = false
  noS : mg "super" = none
  opq : PySem.W.nsIn K cStatics "thirdparty.any" = some none
  sup : PySem.W.ks_superIn K C C "__init__" = some (some (.builtin "ValueError.__init__"))
  sub : PySem.W.mroIn K C (.ref C) = some true
  isVE : PySem.W.subIn K (.ref C) (.type "ValueError") = some true

section
variable {prog : Program} {w : World} {A : Around} {E : Value → Shared → Prop}
/-- the bound ValueError.__init__ called -/
theorem call_mw {h : Heap} {g : Array GenState} {d : Drawn} {t : Nat} {os : OsState} {K : PySem.W.Frag} {u x C t0 : Addr} {rest : List Value} {Q : Value → Shared → Prop} (X : K.In h) (T : OexC K C) (hu : h.get? u = some (PySem.W.kxs_mw "ValueError.__init__" x))
    (he : h.get? x = some ({ cls := .ref C, dict := none, data := .fields #[.ref t0, .none, .none, .none, .bool false, .none] } : Obj)) (hz : rest.length ≤ sizeLine)
    (fin : ∀ h' t1, (∀ b o, b ≠ x → h.get? b = some o → h'.get? b = some o) → h'.get? x = some ({ cls := .ref C, dict := none, data := .fields #[.ref t1, .none, .none, .none, .bool false, .none] } : Obj) → Q .none ⟨h', g, d, t, os⟩) :
    wpAny (model prog w) A (call (.ref u) rest) Q E ⟨h, g, d, t, os⟩ := by
  obtain ⟨nm, q, N, bs, bm, sn, sub, ab, col, dd, k0, k1, k2, k3, k5, hC, hbm⟩ := T.cls
  have hC := X _ _ hC
  refine wpAny_call (codeAny_of_tree ?_)
  show wpAny _ A.in1 (callAny (.ref u) ⟨rest, []⟩) _ _ _
  simp only [callAny]
  refine wpAny_bind (wpAny_load hu ?_)
  simp only [PySem.W.kxs_mw, show (Value.type "method-wrapper" == Value.type "method" || Value.type "method-wrapper" == Value.type "builtin_function_or_method" || Value.type "method-wrapper" == Value.type "method-wrapper") = true by decide, if_true]
  refine PySem.W.KFB.if_so (by decide) ?_
  refine wpAny_bind (PySem.W.check_bound_init F.excBase_ValueError.toExcCallFacts hC he rfl ?_)
  refine wpAny_bind (wpAny_pure (wpAny_pure ?_))
  refine ⟨plainId_quiet F.excBase_ValueError.init.plain _, codeAny_builtin F.excBase_ValueError.initEntry ?_⟩
  exact PySem.W.exc_init_tree (cls := .ref C) (t0 := t0) (dv := none) (c2 := .none) (c3 := .none) (b4 := .bool false) he hz fun h' k e _ => fin h' h.objs.size k e
end

section
variable {CX : CXT} {P : Program} {w : World} {K : PySem.W.Frag} {mg : Str → Option Value} {base : Heap} {N ps : List Str} {k : Nat} {sp : Sp} {F : NF} {f cc C : Addr} {fd : FuncData} {file : Str} {arg : Expr} {rest : List Stmt} {p0 p1 p2 p3 p4 : Pos} {ar : Arg} {pl : Addr → Sem Bool}
theorem fnS_ok (S : NScope N ps ["__class__"] F.scope) (Fx : FnS K F file f cc C fd) (T : OexC K C) (U : SupT P K mg file C) (hks : F.scope.names.lookup ("super" : Str) = some .globalImplicit)
    (hbdy : F.body = .Expr (.Call (.Attribute (.Call (.Name "super" p0) [] [] p1) "__init__" p2) [arg] [] p3) p4 :: rest) (hself : (F.params.posonlyargs ++ F.params.args).head? = some ar) (har : ps[0]? = some ar.arg)
    (hcall : ∀ L, eval (.Call (.Attribute (.Call (.Name "super" p0) [] [] p1) "__init__" p2) [arg] [] p3) (envF F f L) = (do
      let ov ← attributeBase (.Call (.Name "super" p0) [] [] p1) "__init__" (envF F f L) (eval (.Call (.Name "super" p0) [] [] p1) (envF F f L))
      standAt p2.atName
      let (g, first) ← holding [ov] (getMethod ov "__init__" (pl L))
      callWith p3 g first (backTo p3 (starEach [arg] (envF F f L))) []))
    (hsw : ∀ L, swapsWith (.Call (.Attribute (.Call (.Name "super" p0) [] [] p1) "__init__" p2) [arg] [] p3) none p4.line (envF F f L) = pure false)
    (hst : ∀ L, starEach [arg] (envF F f L) = (false, eval arg (envF F f L)) :: starEach [] (envF F f L))
    (len : ∀ vs H Q E, sp vs H Q E → vs.length = ps.length)
    (hbody : ∀ (A : Around) (outer : List Env) (s : Shared) (H : Hp) (vs : List V) (Q : VK) (E : XK), Room k (A.deeper (envF F f s.heap.objs.size)) → sp vs H Q E →
      ∃ ta t, PA (ncx CX P w K mg base N F f A outer s H E) [arg] ta ∧ PSs (ncx CX P w K mg base N F f A outer s H E) rest t ∧ ∃ a vr, vs = .ref a :: vr ∧ H a = some (exo a C none) ∧
        ta (startF N vs [none]) H fun ws H1 => ws.length ≤ 1000 ∧ H1 a = some (exo a C none) ∧ t { nx := fun _ H' => Q .non H', rt := Q } (startF N vs [none]) H1) : FnOk P w K mg base CX (k + 1) f fd ps sp := by
  obtain ⟨oc, od, kV, doc, pm, ctv, an, osl, rfl, lk⟩ := Fx.ex
  obtain ⟨occ, odc, vsc, slc, tf, lkc, hvs⟩ := Fx.file
  obtain ⟨ocl, odl, sll, lkl⟩ := Fx.cell
  obtain ⟨nm, qn, Nc, bs, bm, sn, sub, ab, col, dd, k0, k1, k2, k3, k5, hCl, hbm⟩ := T.cls
  have hcl : ∃ cd, PySem.W.clsIn K C = some cd ∧ cd.mro = .ref C :: bm := ⟨_, by unfold PySem.W.clsIn; rw [hCl] <;> rfl, rfl⟩
  obtain ⟨cdC, hcd, hmro⟩ := hcl
  refine ⟨len, fun A outer s H args us vs Q E hr e0 hb r hsp => ?_⟩
  have hl := len _ _ _ _ hsp
  have KX : K.In s.heap := e0.mod.kin.keeps fun b o e => (e0.bs b o e).1
  have lim : s.heap.NoLimit := e0.mod.nolimit.keeps fun b o e => (e0.bs b o e).1
  have hKc := e0.mod.kin _ _ lkl
  have hC : CellsAt F.cl ["__class__"] [none] s.heap H := by
    rw [Fx.cl]
    refine ⟨rfl, fun y c e => ?_, fun x y c e1 e2 => ?_, fun i y e => ?_⟩
    · have hy : y = "__class__" ∧ c = cc := by
        rw [List.lookup_cons] at e
        split at e
        · rename_i z; exact ⟨by simpa using z, (Option.some.inj e).symm⟩
        · cases e
      rw [hy.2]
      exact ⟨(e0.bs _ _ hKc).2, _, ⟨_, (e0.bs _ _ hKc).1, rfl⟩⟩
    · have hy : ∀ {y : Str} {c : Addr}, List.lookup y [(("__class__" : Str), cc)] = some c → y = "__class__" := fun {y c} e => by
        rw [List.lookup_cons] at e
        split at e
        · rename_i z; simpa using z
        · cases e
      rw [hy e1, hy e2]
    · cases i with
      | zero => simp at e; subst e; exact ⟨cc, by simp [List.lookup], fun v z => by simp at z⟩
      | succ i => simp at e
  refine ks_codeAny_call_defAt (binds := ps.zip us) hr.depth (KX _ _ lk) rfl lim (PySem.W.codeRec_of KX Fx.code) rfl hb S.nocell (fun ⟨n, _⟩ hy => S.par n (List.of_mem_zip hy).1) (fun h₁ hns kp => ?_) S.co S.gen S.kind
  show PySem.wpAt (model P w) (A.deeper (envF F f s.heap.objs.size)) (.func F.body (envF F f s.heap.objs.size)) (execs F.body (envF F f s.heap.objs.size)) _ _ _
  obtain ⟨ta, t, hta, ht, a, vr, rfl, ea, hq⟩ := hbody A outer s H vs Q E (hr.deeper _) hsp
  have I : Inv (ncx CX P w K mg base N F f A outer s H E) [] (startF N (.ref a :: vr) [none]) H { s with heap := h₁, toks := s.toks + (ps.zip us).length } := inv_startN S hr.hd e0 hl r hC hns kp
  have X1 : K.In h₁ := KX.keeps kp
  obtain ⟨t1, ho⟩ := exo_at I.hok ea
  have ho : h₁.get? a = some ({ cls := .ref C, dict := none, data := .fields #[.ref t1, .none, .none, .none, .bool false, .none] } : Obj) := ho
  have hself2 : (ps.zip us).reverse.lookup ar.arg = some (.ref a) := by
    have ndP : ps.Nodup := by
      have q := S.nd.sublist (List.take_sublist (ps.length + 1) N)
      rw [show N.take (ps.length + 1) = ps ++ [("__class__" : Str)] from S.pre] at q
      exact (List.nodup_append.mp q).1
    cases r with
    | cons r1 _ =>
      have e1 : _ = Value.ref a := r1
      subst e1
      exact zip_look ndP har rfl
  have fin : ∀ {s' : Shared} {σ' : L2.St} {H' : Hp} {v : V} {u : Value}, Inv (ncx CX P w K mg base N F f A outer s H E) [] σ' H' s' → L2.RelV v u → Q v H' → CE outer P w H s Q u s' :=
    fun {s' σ' H' v u} J rv q => ⟨v, H', J.os, J.bare, J.base, J.hok, rv, q⟩
  rw [hbdy]
  refine ks_wpAt_execs_cons (ks_wpAt_Expr_any (ks_wpAt_MethodCall (pl := pl _) ?_ (hcall _)) I.quiet (hsw _))
  have hkc : F.scope.names.lookup ("__class__" : Str) = some .free := S.frk _ (by simp)
  refine ks_wpAt_super_base (env := envF F f s.heap.objs.size) hks hkc (by decide) rfl (X1 _ _ lk) rfl hself rfl (X1 _ _ lkc) rfl hvs U.hfile U.htop ?_
  obtain ⟨mb, b1, b2⟩ := I.mod.blt
  refine PySem.W.ks_loadName_global S.kind hks (Calls.loadGlobal_builtin (I.mod.glob.keeps I.bk) U.noS (b1.keeps I.bk) ((b2 _ (by decide)).trans (by decide +kernel : bootBuiltins "super" = some (.type "super"))) ⟨rfl, ?_⟩)
  have clk : (envF F f s.heap.objs.size).cells.lookup ("__class__" : Str) = some cc := by
    show F.cl.lookup _ = _
    rw [Fx.cl]
    simp [List.lookup]
  refine wpAny_loadName_free S.kind hkc clk ⟨_, X1 _ _ lkl, rfl⟩ ?_
  refine wpAny_loadName_local S.kind (S.par _ (List.mem_of_getElem? har)) hns hself2 ?_
  refine ks_wpAny_isType_cls (X1 _ _ hCl) rfl ⟨rfl, ?_⟩
  refine ks_wpAny_call_super (X1 _ _ hCl) rfl ho rfl (fun c e => by cases e) (PySem.W.looks_mroIn X1 U.sub) (fun h2 e2 kp2 => ?_)
  have X2 : K.In h2 := X1.keeps kp2
  have IA : PySem.W.InstAt h2 a { cls := .ref C, dict := none, data := .fields #[.ref t1, .none, .none, .none, .bool false, .none] } C none := ⟨kp2 _ _ ho, rfl, rfl, trivial⟩
  have nxC : a ≠ C := PySem.W.ks_ne X2 IA hcd
  have along : PySem.W.alongIn K "__init__" ((cdC.mro.dropWhile (· != .ref C)).drop 1) = some (some (.builtin "ValueError.__init__")) := by
    have := U.sup
    unfold PySem.W.ks_superIn at this
    rw [hcd] at this
    exact this
  refine PySem.W.kxs_getMethod PySem.W.kxs_ValueError e2 (PySem.W.looks_opaque X2 U.opq) (l₀ := cdC.mro) (fun A Q E s k q => wpAny_bind ((PySem.W.looks_clsIn X2 hcd) A _ E s k (wpAny_pure q))) rfl X2 along (IA.type.andThen (PySem.W.looks_subIn X2 U.isVE)) nxC (by decide) ?_
  have kp3 : ∀ b o, h₁.get? b = some o → (h2.push (PySem.W.kxs_mw "ValueError.__init__" a)).get? b = some o := fun b o e => Heap.get?_push_of_some _ (kp2 _ _ e)
  have J0 : Inv (ncx CX P w K mg base N F f A outer s H E) [] (startF N (.ref a :: vr) [none]) H { s with heap := h2.push (PySem.W.kxs_mw "ValueError.__init__" a), toks := s.toks + (ps.zip us).length + 1 } := I.kept kp3
  have hsz : h₁.objs.size ≤ h2.objs.size := Nat.le_of_lt (Heap.lt_size e2)
  have hu : (h2.push (PySem.W.kxs_mw "ValueError.__init__" a)).get? h2.objs.size = some (PySem.W.kxs_mw "ValueError.__init__" a) := Heap.get?_push_size _ rfl
  have hHu : H h2.objs.size = none := I.hok.fresh hsz
  have J : Inv (ncx CX P w K mg base N F f A outer s H E) [(h2.objs.size, PySem.W.kxs_mw "ValueError.__init__" a)] (startF N (.ref a :: vr) [none]) H { s with heap := h2.push (PySem.W.kxs_mw "ValueError.__init__" a), toks := s.toks + (ps.zip us).length + 1 } := by
    obtain ⟨f0, f1, f2, _⟩ := I.fpOk hsz hHu
    refine J0.pins_of fun p hp => ?_
    rw [List.mem_singleton.mp hp]
    exact ⟨hu, f0, f1, f2, fun v z => by cases z⟩
  show wpAny (model P w) (A.deeper (envF F f s.heap.objs.size)) (callWith p3 (.ref h2.objs.size) [] (backTo p3 (starEach [arg] (envF F f s.heap.objs.size))) []) _ _ _
  have hst' := hst s.heap.objs.size
  rw [hst']
  refine PySem.W.kxs_callWith (i := "ValueError.__init__") (x := a) rfl (Calls.evalArgs_plain ?_)
  have run := hta.run p3 _ _ _ _ _ J hq
  rw [show starEach [arg] (ncx CX P w K mg base N F f A outer s H E).env = (false, eval arg (envF F f s.heap.objs.size)) :: starEach [] (envF F f s.heap.objs.size) from hst'] at run
  refine wpAny_mono run (fun ws s3 hs => ?_) fun e s' hs => hs
  obtain ⟨xs, H3, J3, rv, hz, ea3, hq3⟩ := hs
  have pin := (J3.pin (h2.objs.size, PySem.W.kxs_mw "ValueError.__init__" a) (List.mem_append_right _ (List.mem_singleton.mpr rfl)))
  refine ⟨pin.1, ?_⟩
  obtain ⟨t3, ho3⟩ := exo_at J3.hok ea3
  obtain ⟨hp, g, d, tk, os⟩ := s3
  have hzz : ws.length ≤ sizeLine := by
    rw [← Paired.length rv, sizeLine_eq]
    omega
  refine call_mw (t0 := t3) J3.kIn T pin.1 ho3 (by simpa using hzz) fun h' t4 k4 e4 => ?_
  have J4 := J3.write (t' := tk) (x := a) (e := a) (o := exo a C none) (by rw [ea3]; exact True.intro) (.inl rfl) k4 ⟨_, e4⟩ (exo_ok e4)
  have eu : upd H3 a (exo a C none) = H3 := by
    funext b
    by_cases hb : b = a
    · rw [hb, upd_same, ea3]
    · rw [upd_ne hb]
  rw [eu] at J4
  have J5 : Inv (ncx CX P w K mg base N F f A outer s H E) [] (startF N (.ref a :: vr) [none]) H3 ⟨h', g, d, tk, os⟩ := J4.pins_of fun p hp => by cases hp
  refine PySem.wpAt_of_wpAny (wpAny_mono (ht.run [] _ _ _ _ J5 hq3) (fun fl s' hs => ?_) fun e s' hs => hs)
  cases fl with
  | ret u =>
    obtain ⟨v, σ', H', J, rv, q⟩ := hs
    exact fin J rv q
  | next =>
    obtain ⟨σ', H', J, q⟩ := hs
    exact fin (v := V.non) (u := Value.none) J rfl q
  | brk =>
    obtain ⟨_, _, _, q⟩ := hs
    exact False.elim q
  | cont =>
    obtain ⟨_, _, _, q⟩ := hs
    exact False.elim q
end
end SU
/-! a head that tells own exception classes whose __init__ says super().__init__(e) too -/
namespace SH
open PySem PySem.Spec PyProof.Rows L2 NdefX SU

abbrev SV : Type := Option (Str × Str × Arguments × FuncBody × Scope × Addr × List Str × Addr)
def sdV (K : PySem.W.Frag) (p : Str × Option Str) : SV := match K.lookup (He.fAd K p) with
  | some ⟨_, _, .func fd, _⟩ => some (fd.name, fd.qualname, fd.params, fd.body, fd.scope, fd.globals, fd.closure.map (·.1), fd.builtins)
  | _ => none
structure SDef where
  cls : Str
  name : Str
  qual : Str
  params : Arguments
  body : List Stmt
  scope : Scope
abbrev SDef.at_ (d : SDef) : Str × Option Str := (d.cls, some d.name)
def SDef.val (d : SDef) : SV := some (d.name, d.qual, d.params, .stmts d.body, d.scope, mainGlobals, ["__class__"], builtinsNs)
def mkF (d : SDef) (cc c : Addr) : NF := ⟨d.name, d.qual, d.params, d.body, d.scope, [(("__class__" : Str), cc)], c⟩
def fileB (K : PySem.W.Frag) (c : Addr) (file : Str) : Bool := match K.lookup c with
  | some ⟨_, _, .fields vs, _⟩ => (match (vs[2]? : Option Value) with
    | some (Value.str y _) => decide (y = file)
    | _ => false)
  | _ => false
def cellB (K : PySem.W.Frag) (cc D : Addr) : Bool := match K.lookup cc with
  | some ⟨_, _, .cell (some (.ref E)), _⟩ => decide (E = D)
  | _ => false
def fnB (K : PySem.W.Frag) (file : Str) (D : Addr) (qual : Str) (fd : FuncData) : Bool := match fd.code, fd.defaults, fd.closure with
  | .ref c, .none, [(_, cc)] => PySem.W.codeIn K (.ref c) qual && (fileB K c file && cellB K cc D)
  | _, _, _ => false
/-- the function of the class's __init__ -/
def SDef.fnOk (d : SDef) (K : PySem.W.Frag) (file : Str) : Bool := match K.lookup (He.fAd K d.at_) with
  | some ⟨_, _, .func fd, _⟩ => fnB K file (He.ga K d.cls) d.qual fd
  | _ => false
theorem fileB_ok {K : PySem.W.Frag} {c : Addr} {file : Str} (h : fileB K c file = true) : ∃ (oc : Value) (od : Option Addr) (vs : Array Value) (sl : Array (Option Value)) (tf : Tok), K.lookup c = some ⟨oc, od, .fields vs, sl⟩ ∧ vs[2]? = some (.str file tf) := by
  unfold fileB at h
  cases q : K.lookup c with
  | none => rw [q] at h; cases h
  | some o =>
    obtain ⟨oc, od, dt, sl⟩ := o
    rw [q] at h
    cases dt with
    | fields vs =>
      have h2 : (match (vs[2]? : Option Value) with
        | some (Value.str y _) => decide (y = file)
        | _ => false) = true := h
      cases e : vs[2]? with
      | none => rw [e] at h2; cases h2
      | some v =>
        rw [e] at h2
        cases v with
        | str y t =>
          have h3 : y = file := of_decide_eq_true h2
          subst h3
          exact ⟨oc, od, vs, sl, t, rfl, e⟩
        | _ => cases h2
    | _ => cases h
theorem cellB_ok {K : PySem.W.Frag} {cc D : Addr} (h : cellB K cc D = true) : ∃ (oc : Value) (od : Option Addr) (sl : Array (Option Value)), K.lookup cc = some ⟨oc, od, .cell (some (.ref D)), sl⟩ := by
  unfold cellB at h
  cases q : K.lookup cc with
  | none => rw [q] at h; cases h
  | some o =>
    obtain ⟨oc, od, dt, sl⟩ := o
    rw [q] at h
    cases dt with
    | cell v =>
      cases v with
      | none => cases h
      | some v =>
        cases v with
        | ref E =>
          have h3 : E = D := of_decide_eq_true h
          subst h3
          exact ⟨oc, od, sl, rfl⟩
        | _ => cases h
    | _ => cases h
theorem fnB_ok {K : PySem.W.Frag} {file : Str} {D : Addr} {qual : Str} {fd : FuncData} (h : fnB K file D qual fd = true) : ∃ c y cc, fd.code = .ref c ∧ fd.defaults = .none ∧ fd.closure = [(y, cc)] ∧ PySem.W.codeIn K (.ref c) qual = true ∧ fileB K c file = true ∧ cellB K cc D = true := by
  unfold fnB at h
  split at h
  · rename_i c y cc h1 h2 h3
    obtain ⟨k1, k⟩ := He.ba h
    obtain ⟨k2, k3⟩ := He.ba k
    exact ⟨_, _, _, h1, h2, h3, k1, k2, k3⟩
  · cases h
theorem SDef.fnS {K : PySem.W.Frag} {d : SDef} {file : Str} (e : sdV K d.at_ = d.val) (c : d.fnOk K file = true) : ∃ cc c fd, FnS K (mkF d cc c) file (He.fAd K d.at_) cc (He.ga K d.cls) fd := by
  unfold sdV at e
  unfold SDef.fnOk at c
  cases q : K.lookup (He.fAd K d.at_) with
  | none => rw [q] at c; cases c
  | some o =>
    obtain ⟨oc, od, dt, osl⟩ := o
    rw [q] at c e
    cases dt with
    | func fd =>
      obtain ⟨n1, n2, n3, n4, n5, n6, n7, n8, n9, n10, n11, n12, n13, n14, n15⟩ := fd
      have e2 : (some (n1, n2, n3, n4, n5, n6, n7.map (·.1), n15) : SV) = some (d.name, d.qual, d.params, FuncBody.stmts d.body, d.scope, mainGlobals, [("__class__" : Str)], builtinsNs) := e
      simp only [Option.some.injEq, Prod.mk.injEq] at e2
      obtain ⟨h1, h2, h3, h4, h5, h6, h7, h8⟩ := e2
      subst h1 h2 h3 h4 h5 h6 h8
      obtain ⟨c', y, cc, h9, h10, h11, k1, k2, k3⟩ := fnB_ok c
      have h9 : n13 = .ref c' := h9
      have h10 : n8 = .none := h10
      have h11 : n7 = [(y, cc)] := h11
      subst h9 h10 h11
      have hy : y = "__class__" := by simpa using h7
      subst hy
      exact ⟨cc, c', _, ⟨oc, od, n9, n10, n11, n14, n12, osl, rfl, q⟩, rfl, k1, fileB_ok k2, cellB_ok k3⟩
    | _ => cases c

/-! ### the class -/
def clsB (K : PySem.W.Frag) (C : Addr) : Bool := match K.lookup C with
  | some ⟨.type ty, _, .cls cd, sl⟩ => decide (ty = "type") && (match cd.mro, sl.toList with
    | .ref C' :: bm, [_, _, _, _, some (.builtin n), _] => decide (C' = C) && (decide (n = "ValueError.__new__") && (!cd.hasDel && (cd.hasDict && PySem.HandSPX.refsVE bm)))
    | _, _ => false)
  | _ => false
theorem clsB_ok {K : PySem.W.Frag} {C : Addr} (h : clsB K C = true) : ∃ nm q N bs bm sn sub ab col dd k0 k1 k2 k3 k5, K.lookup C = some (excClassObj nm q C N bs bm true sn sub ab col dd k0 k1 k2 k3 k5 "ValueError.__new__") ∧ PySem.HandSPX.refsVE bm = true := by
  unfold clsB at h
  cases q : K.lookup C with
  | none => rw [q] at h; cases h
  | some o =>
    obtain ⟨oc, od, dt, sl⟩ := o
    rw [q] at h
    cases oc with
    | type ty =>
      cases dt with
      | cls cd =>
        obtain ⟨h1, h2⟩ := He.ba h
        obtain rfl : ty = "type" := of_decide_eq_true h1
        obtain ⟨nm, bs, mro, ns, qn, hd, sn, sb, ab, col, del⟩ := cd
        obtain ⟨l⟩ := sl
        match mro, l, h2, q with
        | .ref C' :: bm, [k0, k1, k2, k3, some (.builtin n), k5], h2, q =>
          have h3 : (decide (C' = C) && (decide (n = "ValueError.__new__") && (!del && (hd && PySem.HandSPX.refsVE bm)))) = true := h2
          obtain ⟨a1, h3⟩ := He.ba h3
          obtain ⟨a2, h3⟩ := He.ba h3
          obtain ⟨a3, h3⟩ := He.ba h3
          obtain ⟨a4, a5⟩ := He.ba h3
          obtain rfl : C' = C := of_decide_eq_true a1
          obtain rfl : n = "ValueError.__new__" := of_decide_eq_true a2
          subst a4
          have a3 : del = false := by simpa using a3
          subst a3
          exact ⟨_, _, _, _, _, _, _, _, _, _, _, _, _, _, _, rfl, a5⟩
      | _ => cases h
    | _ => cases dt <;> cases h
/-- all that is asked of such a class -/
def excB (K : PySem.W.Frag) (C : Addr) (nm : Str) : Bool := clsB K C && (decide (PySem.W.findIn K (.ref C) "__setattr__" = some (some (.builtin "object.__setattr__"))) && (decide (PySem.W.subIn K (.ref C) (.type "BaseException") = some true) &&
  (decide (PySem.W.typeIn K (.ref C) = some (.type "type")) && (PySem.W.keepIn K (.ref C) && (xfB K C && (decide (PySem.W.exmOne K (.ref C) (.ref C) = some true) && (decide (PySem.W.findIn K (.ref C) nm = some (some (.ref (He.ma K C nm)))) &&
  (decide (PySem.W.typeIn K (.ref (He.ma K C nm)) = some (.type "function")) && (decide (PySem.W.nsIn K cStatics "thirdparty.any" = some none) && (decide (PySem.W.ks_superIn K C C nm = some (some (.builtin "ValueError.__init__"))) &&
  (decide (PySem.W.mroIn K C (.ref C) = some true) && decide (PySem.W.subIn K (.ref C) (.type "ValueError") = some true))))))))))))
/-- an own exception class at C, its __init__ at f -/
structure ExT (P : Program) (K : PySem.W.Frag) (mg : Str → Option Value) (file x : Str) (C f : Addr) : Prop where
  gC : mg x = some (.ref C)
  o : OexC K C
  xf : XfC K C
  te : PySem.W.exmOne K (.ref C) (.ref C) = some true
  iC : PySem.W.findIn K (.ref C) "__init__" = some (some (.ref f))
  tI : PySem.W.typeIn K (.ref f) = some (.type "function")
  U : SupT P K mg file C
theorem excB_ok {P : Program} {K : PySem.W.Frag} {mg : Str → Option Value} {file x : Str} {C : Addr} (h : excB K C "__init__" = true) (hf : ((P.main.file : Str) == file) = true) (ht : (P.main.scope.names.lookup ("super" : Str)).isSome = false) (hs : mg "super" = none)
    (hg : mg x = some (.ref C)) : ExT P K mg file x C (He.ma K C "__init__") := by
  obtain ⟨a1, h⟩ := He.ba h
  obtain ⟨a2, h⟩ := He.ba h
  obtain ⟨a3, h⟩ := He.ba h
  obtain ⟨a4, h⟩ := He.ba h
  obtain ⟨a5, h⟩ := He.ba h
  obtain ⟨a6, h⟩ := He.ba h
  obtain ⟨a7, h⟩ := He.ba h
  obtain ⟨a8, h⟩ := He.ba h
  obtain ⟨a9, h⟩ := He.ba h
  obtain ⟨b1, h⟩ := He.ba h
  obtain ⟨b2, h⟩ := He.ba h
  obtain ⟨b3, b4⟩ := He.ba h
  exact ⟨hg, ⟨clsB_ok a1, of_decide_eq_true a2, of_decide_eq_true a3, of_decide_eq_true a4, a5⟩, xfB_ok a6, of_decide_eq_true a7, of_decide_eq_true a8, of_decide_eq_true a9, hf, ht, hs, of_decide_eq_true b1, of_decide_eq_true b2, of_decide_eq_true b3, of_decide_eq_true b4⟩

/-! ### the hook -/
def asS (g : Addr → Option Obj) (n : Nat) : List Addr := cStatics :: He.asD g n
def exS (file : Str) (sd : List SDef) (K : PySem.W.Frag) : Bool := sd.all fun d => d.fnOk K file && excB K (He.ga K d.cls) d.name
abbrev AlS : Type := He.AlX × List SV
def obsS (n : Nat) (fa : List He.Fa) (fn : List He.DefD) (tf : List He.Defn) (ex : PySem.W.Frag → Bool) (sd : List SDef) (g : Addr → Option Obj) : AlS :=
  ((He.obsT fa fn [] (He.frT g (asS g n)), ex (He.frT g (asS g n)) && He.tabsB g tf (He.frT g (asS g n))), sd.map fun d => sdV (He.frT g (asS g n)) d.at_)
def valS (fn : List He.DefD) (sd : List SDef) (w : World) : AlS := ((He.valT fn [] w, true), sd.map SDef.val)
structure SaysS (fa : List He.Fa) (fn : List He.DefD) (tf : List He.Defn) (ex : PySem.W.Frag → Bool) (sd : List SDef) (w : World) (h : Heap) (K : PySem.W.Frag) : Prop where
  x : He.SaysX fa fn [] tf ex w h K
  s : (sd.map fun d => sdV K d.at_) = sd.map SDef.val
theorem saysS_of {n : Nat} {fa : List He.Fa} {fn : List He.DefD} {tf : List He.Defn} {ex : PySem.W.Frag → Bool} {sd : List SDef} {w : World} {h : Heap} (e : obsS n fa fn tf ex sd h.get? = valS fn sd w) : SaysS fa fn tf ex sd w h (He.frT h.get? (asS h.get? n)) := by
  have e1 := congrArg (fun z : AlS => z.1.1) e
  have e2 := congrArg (fun z : AlS => z.1.2) e
  have e3 := congrArg (fun z : AlS => z.2) e
  obtain ⟨h1, h2⟩ := He.ba (show (ex (He.frT h.get? (asS h.get? n)) && He.tabsB h.get? tf (He.frT h.get? (asS h.get? n))) = true from e2)
  have key : ∀ p ∈ tf, PySem.W.codeHdIn (He.frT h.get? (asS h.get? n)) (He.cT (He.frT h.get? (asS h.get? n)) p).1 (He.cT (He.frT h.get? (asS h.get? n)) p).2 = true ∧ ∃ o, h.get? (He.cT (He.frT h.get? (asS h.get? n)) p).2 = some o ∧ He.emptyTab o = true := fun p hp => by
    obtain ⟨a, b⟩ := He.ba (List.all_eq_true.mp h2 p hp)
    refine ⟨a, ?_⟩
    cases q : h.get? (He.cT (He.frT h.get? (asS h.get? n)) p).2 with
    | none => rw [q] at b; cases b
    | some o => rw [q] at b; exact ⟨o, rfl, b⟩
  refine ⟨⟨e1, h1, fun p hp => (key p hp).1, fun p hp => ?_, fun p hp => ?_⟩, e3⟩
  · obtain ⟨_, o, q, z⟩ := key p hp
    exact He.frT_none q z
  · obtain ⟨_, o, q, z⟩ := key p hp
    rw [q, He.emptyTab_eq z]
def hookS (n : Nat) (fa : List He.Fa) (fn : List He.DefD) (tf : List He.Defn) (ex : PySem.W.Frag → Bool) (sd : List SDef) : PySem.W.Hook where
  α := AlS
  obs := fun s => obsS n fa fn tf ex sd s.heap.get?
  val := fun w => valS fn sd w
  says := fun w h => ∃ K : PySem.W.Frag, K.In h ∧ SaysS fa fn tf ex sd w h K
  of := fun _ _ e => ⟨_, He.frT_in, saysS_of e⟩
  keeps := fun _ _ _ ⟨K, hK, c⟩ k => ⟨K, PySem.W.Frag.In.keeps hK k, ⟨⟨c.x.t, c.x.more, c.x.hd, c.x.out, fun p hp => k _ _ (c.x.empty p hp)⟩, c.s⟩⟩
theorem obsS_eq {n : Nat} {fa : List He.Fa} {fn : List He.DefD} {tf : List He.Defn} {ex : PySem.W.Frag → Bool} {sd : List SDef} {g : Addr → Option Obj} {s : Shared} (h : ∀ a, g a = s.heap.get? a) : obsS n fa fn tf ex sd g = (hookS n fa fn tf ex sd).obs s := by
  have e : g = s.heap.get? := funext h
  rw [e] <;> rfl
theorem SaysS.sd_ {fa : List He.Fa} {fn : List He.DefD} {tf : List He.Defn} {ex : PySem.W.Frag → Bool} {sd : List SDef} {w : World} {h : Heap} {K : PySem.W.Frag} (c : SaysS fa fn tf ex sd w h K) (i : Nat) {d : SDef} (hi : sd[i]? = some d) : sdV K d.at_ = d.val := by
  have e2 : (sd.map fun d => sdV K d.at_)[i]? = (sd.map SDef.val)[i]? := by rw [c.s]
  rw [List.getElem?_map, List.getElem?_map, hi] at e2
  exact Option.some.inj e2
end SH
namespace LW
open PySem PySem.Spec PyProof.Rows L2 GxR FW GA EN SL SC SU SH

/-- a def that stands, its name, its promise -/
def Df (P : Program) (w : World) (K : PySem.W.Frag) (mg : Str → Option Value) (base : Heap) (k : Nat) (x : Str) (ps : List Str) (sp : Sp) : Prop :=
  ∃ f fd, FnOk P w K mg base CX0 k f fd ps sp ∧ mg x = some (.ref f) ∧ PySem.W.keepIn K (.ref f) = true ∧ Binds K fd ps []
/-- .. one that may raise -/
def Dx (P : Program) (w : World) (K : PySem.W.Frag) (mg : Str → Option Value) (base : Heap) (k : Nat) (x : Str) (ps : List Str) (sp : Sp) : Prop :=
  ∃ f fd, FnOk P w K mg base (L2.CX P w) k f fd ps sp ∧ mg x = some (.ref f) ∧ PySem.W.keepIn K (.ref f) = true ∧ Binds K fd ps []
/-- .. as a value -/
def Dv_ (P : Program) (w : World) (K : PySem.W.Frag) (mg : Str → Option Value) (base : Heap) (k : Nat) (x : Str) (f : Addr) (ps : List Str) (sp : Sp) : Prop :=
  ∃ fd, FnOk P w K mg base CX0 k f fd ps sp ∧ mg x = some (.ref f) ∧ PySem.W.keepIn K (.ref f) = true ∧ Binds K fd ps []
section
variable {X : Cx} {k j : Nat} {x : Str} {ps : List Str} {sp : Sp} {e : Expr} {es : List Expr} {t : TA} {p pos : Pos}
theorem pe_df (D : Df X.prog X.w X.K X.mg X.base k x ps sp) (hr : Room j X.A) (ha : PA X (e :: es) t) (hk : k ≤ j := by decide) (hg : Gl X x := by rfl) (hdb : (x == ("__debug__" : Str)) = false := by decide)
    (he : starEach (e :: es) X.env = (false, eval e X.env) :: starEach es X.env := by rfl) (hpl : (backTo pos (starEach es X.env)).any (·.1) = false := by rfl) :
    PE X (.Call (.Name x p) (e :: es) [] pos) (tCall sp [] E0 t) := by
  obtain ⟨f, fd, F, m, kp, b⟩ := D
  exact pe_call F (hr.mono hk) hg m kp b .nil pass0 ha hdb he hpl
theorem pe_dx {W : WX} (D : Dx X.prog X.w X.K X.mg X.base k x ps sp) (hr : Room j X.A) (tk : Takes X W) (ha : PA X (e :: es) t) (hk : k ≤ j := by decide) (hg : Gl X x := by rfl) (hdb : (x == ("__debug__" : Str)) = false := by decide)
    (he : starEach (e :: es) X.env = (false, eval e X.env) :: starEach es X.env := by rfl) (hpl : (backTo pos (starEach es X.env)).any (·.1) = false := by rfl) :
    PE X (.Call (.Name x p) (e :: es) [] pos) (tCallS sp (WE W) t) := by
  obtain ⟨f, fd, F, m, kp, b⟩ := D
  exact pe_callS F (hr.mono hk) hg m kp b (fun σ => passAt tk σ) ha hdb he hpl
theorem pe_lo {f : Addr} {i : Nat} {y : Str} (D : Dv_ X.prog X.w X.K X.mg X.base k y f ps sp) (hr : Room j X.A) (hN : X.N[i]? = some x) (hv : Vis X.env.scope x) (ha : PA X (e :: es) t) (hk : k ≤ j := by decide) (hdb : (x == ("__debug__" : Str)) = false := by decide)
    (hcd : (x == ("__classdict__" : Str)) = false := by decide) (he : starEach (e :: es) X.env = (false, eval e X.env) :: starEach es X.env := by rfl) (hpl : (backTo pos (starEach es X.env)).any (·.1) = false := by rfl) :
    PE X (.Call (.Name x p) (e :: es) [] pos) (tCallL i f sp [] E0 t) := by
  obtain ⟨fd, F, m, kp, b⟩ := D
  exact pe_callL (i := i) F (hr.mono hk) hN hv kp b .nil pass0 ha hdb hcd he hpl
theorem pe_dv {f : Addr} (D : Dv_ X.prog X.w X.K X.mg X.base k x f ps sp) (hg : Gl X x := by rfl) (hdb : (x == ("__debug__" : Str)) = false := by decide) : PE X (.Name x pos) (tC (.ref f)) := by
  obtain ⟨fd, F, m, kp, b⟩ := D
  exact pe_glob hg m rfl hdb
end
theorem Dv_.df {P : Program} {w : World} {K : PySem.W.Frag} {mg : Str → Option Value} {base : Heap} {k : Nat} {x : Str} {f : Addr} {ps : List Str} {sp : Sp} (D : Dv_ P w K mg base k x f ps sp) : Df P w K mg base k x ps sp := by
  obtain ⟨fd, h⟩ := D
  exact ⟨f, fd, h⟩

/-! ### one sign -/
theorem sg_lo {a : Nat} {s : Str} (e : s.cps.toList = [a]) (c : Nat) : (!decide ((⟨#[c]⟩ : Str).cps.toList < s.cps.toList)) = decide (a ≤ c) := by
  rw [e]
  show (!decide ([c] < [a])) = _
  by_cases h : a ≤ c
  · rw [decide_eq_true h, decide_eq_false]; rfl
    intro z
    rcases List.cons_lt_cons_iff.mp z with z | ⟨_, z⟩
    · omega
    · cases z
  · rw [decide_eq_false h, decide_eq_true]; rfl
    exact List.cons_lt_cons_iff.mpr (.inl (by omega))
theorem sg_hi {a : Nat} {s : Str} (e : s.cps.toList = [a]) (c : Nat) : (!decide (s.cps.toList < (⟨#[c]⟩ : Str).cps.toList)) = decide (c ≤ a) := by
  rw [e]
  show (!decide ([a] < [c])) = _
  by_cases h : c ≤ a
  · rw [decide_eq_true h, decide_eq_false]; rfl
    intro z
    rcases List.cons_lt_cons_iff.mp z with z | ⟨_, z⟩
    · omega
    · cases z
  · rw [decide_eq_false h, decide_eq_true]; rfl
    exact List.cons_lt_cons_iff.mpr (.inl (by omega))
def spCh (p : Nat → Bool) : Sp := fun vs H Q _ => ∃ c, vs = [.str ⟨#[c]⟩] ∧ Q (.bl (p c)) H
section
variable {P : Program} {w : World} {K : PySem.W.Frag} {mg : Str → Option Value} {base : Heap} {cs : List (Addr × Addr)}
theorem ok_is_small {f : Addr} {fd : FuncData} (F : Fun K "is_small" "is_small" s_is_small f fd) : FnOk P w K mg base CX0 1 f fd P_is_small (spCh low) := by
  refine F.ok sc_is_small (fun vs H Q E h => ?_) (fun cdv A outer s H vs Q E hr h => ?_)
  · obtain ⟨c, rfl, _⟩ := h
    rfl
  · obtain ⟨c, rfl, k⟩ := h
    refine ⟨_, pss_one (ps_ret (pe_chain op_le_str op_le_str pe_str (pv 0) pe_str)), ?_⟩
    refine ⟨_, rfl, _, _, rfl, rfl, _, rfl, ?_⟩
    rw [sg_lo (a := 97) (by decide +kernel)]
    unfold low at k
    refine ite2 (fun d => ⟨_, _, rfl, rfl, ?_⟩) fun d => ?_
    · rw [sg_hi (a := 122) (by decide +kernel)]
      rw [d, Bool.true_and] at k
      exact k
    · rw [Bool.not_eq_true] at d
      rw [d, Bool.false_and] at k
      exact k
theorem ok_is_capital {f : Addr} {fd : FuncData} (F : Fun K "is_capital" "is_capital" s_is_capital f fd) : FnOk P w K mg base CX0 1 f fd P_is_capital (spCh cap) := by
  refine F.ok sc_is_capital (fun vs H Q E h => ?_) (fun cdv A outer s H vs Q E hr h => ?_)
  · obtain ⟨c, rfl, _⟩ := h
    rfl
  · obtain ⟨c, rfl, k⟩ := h
    refine ⟨_, pss_one (ps_ret (pe_chain op_le_str op_le_str pe_str (pv 0) pe_str)), ?_⟩
    refine ⟨_, rfl, _, _, rfl, rfl, _, rfl, ?_⟩
    rw [sg_lo (a := 65) (by decide +kernel)]
    unfold cap at k
    refine ite2 (fun d => ⟨_, _, rfl, rfl, ?_⟩) fun d => ?_
    · rw [sg_hi (a := 90) (by decide +kernel)]
      rw [d, Bool.true_and] at k
      exact k
    · rw [Bool.not_eq_true] at d
      rw [d, Bool.false_and] at k
      exact k
theorem ok_is_digit {f : Addr} {fd : FuncData} (F : Fun K "is_digit" "is_digit" s_is_digit f fd) : FnOk P w K mg base CX0 1 f fd P_is_digit (spCh dig) := by
  refine F.ok sc_is_digit (fun vs H Q E h => ?_) (fun cdv A outer s H vs Q E hr h => ?_)
  · obtain ⟨c, rfl, _⟩ := h
    rfl
  · obtain ⟨c, rfl, k⟩ := h
    refine ⟨_, pss_one (ps_ret (pe_chain op_le_str op_le_str pe_str (pv 0) pe_str)), ?_⟩
    refine ⟨_, rfl, _, _, rfl, rfl, _, rfl, ?_⟩
    rw [sg_lo (a := 48) (by decide +kernel)]
    unfold dig at k
    refine ite2 (fun d => ⟨_, _, rfl, rfl, ?_⟩) fun d => ?_
    · rw [sg_hi (a := 57) (by decide +kernel)]
      rw [d, Bool.true_and] at k
      exact k
    · rw [Bool.not_eq_true] at d
      rw [d, Bool.false_and] at k
      exact k
end

/-! ### texts -/
abbrev cl (z : Str) : List Nat := z.cps.toList
def tx (l : List Nat) : Str := ⟨l.toArray⟩
theorem cl_tx (l : List Nat) : cl (tx l) = l := by show l.toArray.toList = l; simp
theorem tx_cl (z : Str) : tx (cl z) = z := by
  obtain ⟨a⟩ := z
  show (⟨a.toList.toArray⟩ : Str) = ⟨a⟩
  simp
theorem ln_cl (z : Str) : z.length = (cl z).length := by
  show z.cps.size = z.cps.toList.length
  simp
theorem ln_tx (l : List Nat) : (tx l).length = l.length := by rw [ln_cl, cl_tx]
theorem cut_tx (z : Str) (i n : Nat) (h : i + n ≤ z.length) : cutS z (some (i : Int)) (some ((i + n : Nat) : Int)) = tx (((cl z).drop i).take n) := by
  unfold cutS tx
  rw [HT.sIx_nat, HT.sIx_nat, Nat.min_eq_left h, Nat.min_eq_left (show i ≤ z.length by omega), Nat.add_sub_cancel_left]
theorem at_cl {z : Str} {i : Nat} (h : i < z.length) : ∃ c, atI (cl z) (i : Int) = some c ∧ (cl z).drop i = c :: (cl z).drop (i + 1) := by
  rw [ln_cl] at h
  exact ⟨(cl z)[i], atI_nat (by simp [h]), List.drop_eq_getElem_cons h⟩
theorem sz8 {z : Str} (h : z.length ≤ 8000) : z.length ≤ sizeLine := Nat.le_trans h (by rw [sizeLine_eq]; decide)

def okT (z : Str) : Prop := z.length ≤ 8000 ∧ 10 ∉ cl z
def spEnd (f : Addr) (p : Nat → Bool) : Sp := fun vs H Q _ => ∃ (z : Str) (i : Nat), vs = [.str z, .int (i : Int), .ref f] ∧ z.length ≤ 8000 ∧ i ≤ z.length ∧ Q (.int ((i + rn p ((cl z).drop i) : Nat) : Int)) H
def spTxt : Sp := fun vs H Q _ => ∃ z : Str, vs = [.str z] ∧ okT z ∧ Q (.bl true) H
section
variable {P : Program} {w : World} {K : PySem.W.Frag} {mg : Str → Option Value} {base : Heap} {cs : List (Addr × Addr)}
theorem ok_is_text {f : Addr} {fd : FuncData} (F : Fun K "is_text" "is_text" s_is_text f fd) (G : Glo mg) : FnOk P w K mg base CX0 1 f fd P_is_text spTxt := by
  refine F.ok sc_is_text (fun vs H Q E h => ?_) (fun cdv A outer s H vs Q E hr h => ?_)
  · obtain ⟨z, rfl, _⟩ := h
    rfl
  · obtain ⟨z, rfl, ⟨h1, h2⟩, k⟩ := h
    refine ⟨_, pss_one (ps_ret (pe_and (pe_callB call_isi (by rfl) G.isinstance (by decide +kernel) (pa_cons (pv 0) (pa_cons (pe_bltn (v := .ty "str") (by rfl) G.str (by decide +kernel) rfl) pa_nil)))
      (pe_and (pe_cmpR op_le (pe_callB call_len_str (by rfl) G.len boot_len (pa_cons (pv 0) pa_nil)) (C8.pe_gc rfl G.c_MOST_CHARACTERS) (nomark _)) (pe_one (pe_cmpR op_notIn_sign pe_str (pv 0) rfl))))), ?_⟩
    refine ⟨_, rfl, _, .ty "str", _, _, _, rfl, .ty _, (Den.str_ (K := K) (N := N0) (H := H) z (sz8 h1)).tyx, isiKit (.str z) "str", _, rfl, ?_⟩
    rw [isi_str]
    refine iteT ⟨_, rfl, _, rfl, sz8 h1, _, _, rfl, rfl, _, rfl, ?_⟩
    rw [decide_eq_true (show (z.length : Int) ≤ 8000 by omega)]
    refine iteT ⟨_, rfl, 10, z, ?_, rfl, ?_⟩
    · exact congrArg V.str (show ("\n" : Str) = ⟨#[10]⟩ by decide +kernel)
    · rw [decide_eq_false h2]
      exact k
theorem ok_end_of_run {f fb : Addr} {fd : FuncData} {y : Str} {p : Nat → Bool} {ps : List Str} (F : Fun K "end_of_run" "end_of_run" s_end_of_run f fd) (G : Glo mg) (D : Dv_ P w K mg base 1 y fb ps (spCh p)) : FnOk P w K mg base CX0 2 f fd P_end_of_run (spEnd fb p) := by
  refine F.ok sc_end_of_run (fun vs H Q E h => ?_) (fun cdv A outer s H vs Q E hr h => ?_)
  · obtain ⟨z, i, rfl, _⟩ := h
    rfl
  · obtain ⟨z, i, rfl, h1, h2, k⟩ := h
    refine ⟨_, pss_cons (ps_while PassesOwn.never (PW.pt (pw_and (pt_cmpR op_lt (pv 1) (pe_callB call_len_str (by rfl) G.len boot_len (pa_cons (pv 0) pa_nil)) (nomark _))
        (pw_and1 (pt_val (pe_lo (i := 2) D hr rfl (.inl rfl) (pa_cons (pe_ix ix_str (pv 0) (pv 1) (fun _ _ => rfl)) pa_nil))))))
        (pss_one (ps_aug (i := 1) sc_end_of_run.nd rfl (.inl rfl) pe_int ip_add)))
      (pss_one (ps_ret (pv 1))), ?_⟩
    refine ⟨fun m σ H' => ∃ j : Nat, m = z.length - j ∧ σ = [some (.str z), some (.int (j : Int)), some (.ref fb)] ∧ H' = H ∧ j ≤ z.length ∧ j + rn p ((cl z).drop j) = i + rn p ((cl z).drop i), ⟨_, i, rfl, rfl, rfl, h2, rfl⟩, ?_⟩
    · rintro m σ H' ⟨j, rfl, rfl, rfl, hj, e⟩
      refine ⟨_, rfl, _, rfl, _, rfl, sz8 h1, _, _, rfl, rfl, _, rfl, ?_⟩
      by_cases lt : j < z.length
      · rw [decide_eq_true (show (j : Int) < (z.length : Int) by omega)]
        obtain ⟨c, hc, hd⟩ := at_cl lt
        refine iteT ⟨rfl, _, rfl, _, rfl, _, _, _, rfl, rfl, sz8 h1, hc, c, rfl, _, rfl, ?_⟩
        rw [hd] at e
        unfold rn at e
        rw [List.takeWhile_cons] at e
        refine ite2 (fun d => ?_) fun d => ?_
        · rw [if_pos d] at e
          refine ⟨fun σ' H2 => ∃ j' : Nat, z.length - j' < z.length - j ∧ σ' = [some (.str z), some (.int (j' : Int)), some (.ref fb)] ∧ H2 = H' ∧ j' ≤ z.length ∧ j' + rn p ((cl z).drop j') = i + rn p ((cl z).drop i), fun σ' H2 ⟨j', q1, q2⟩ => ⟨_, q1, j', rfl, q2⟩, ?_⟩
          refine ⟨_, rfl, _, _, rfl, rfl, ?_⟩
          refine ⟨j + 1, by omega, rfl, rfl, lt, ?_⟩
          unfold rn
          rw [← e, List.length_cons]
          omega
        · rw [if_neg d] at e
          refine ⟨_, rfl, ?_⟩
          unfold rn at k
          rw [← e] at k
          exact k
      · rw [decide_eq_false (show ¬ (j : Int) < (z.length : Int) by omega)]
        have : j = z.length := by omega
        subst this
        refine iteF ⟨_, rfl, ?_⟩
        rw [show (cl z).drop z.length = [] from by rw [ln_cl, List.drop_length]] at e
        rw [← e] at k
        exact k
end
end LW
namespace LW
open PySem PySem.Spec PyProof.Rows L2 GxR FW GA EN SL SC SU SH NdefX

abbrev sTE : Stmt := inClass (top 3) 0
def dTE : SDef := ⟨"TextError", "__init__", "TextError.__init__", defArgs sTE, defBody sTE, defScope sTE⟩
abbrev N_TE : List Str := ["self", "column", "words", "__class__"]
abbrev P_TE : List Str := ["self", "column", "words"]
theorem sc_TE : NScope N_TE P_TE ["__class__"] (defScope sTE) := nscope_by (by decide +kernel)
/-- the fields of a text's error -/
def teF (c : Int) (w : Str) : List (Str × V) := [("words", .str w), ("column", .int c)]
def spTE (C : Addr) : Sp := fun vs H Q _ => ∃ (a : Addr) (c : Int) (w : Str), vs = [.ref a, .int c, .str w] ∧ H a = some (exo a C none) ∧ 0 ≤ c ∧ c < 10 ^ 10 ∧ w.length ≤ 1000 ∧
  ∀ d, H d = none → d ≠ a → Q .non (upd (upd (upd H d (exd d [("column", .int c)])) a (exo a C (some d))) d (exd d (teF c w)))
theorem int_small {c : Int} (h0 : 0 ≤ c) (h1 : c < 10 ^ 10) : c.natAbs.log2 < 1920 := by
  rcases Nat.eq_zero_or_pos c.natAbs with z | z
  · rw [z]; decide
  · exact Nat.lt_of_lt_of_le ((Nat.log2_lt (by omega)).mpr (show c.natAbs < 2 ^ 34 by omega)) (by decide)
section
variable {P : Program} {w : World} {K : PySem.W.Frag} {mg : Str → Option Value} {base : Heap} {cs : List (Addr × Addr)}
theorem ok_TE {file : Str} {C f cc c : Addr} {fd : FuncData} (F : FnS K (mkF dTE cc c) file f cc C fd) (T : ExT P K mg file "TextError" C f) (n1 : PySem.W.findIn K (.ref C) "column" = some none) (n2 : PySem.W.findIn K (.ref C) "words" = some none) :
    FnOk P w K mg base CX0 1 f fd P_TE (spTE C) := by
  refine fnS_ok (k := 0) (N := N_TE) (pl := fun L => _) sc_TE F T.o T.U (show (defScope sTE).names.lookup ("super" : Str) = some .globalImplicit by decide +kernel) rfl rfl rfl (fun L => rfl) (fun L => rfl) (fun L => rfl) (fun vs H Q E h => ?_) (fun A outer s H vs Q E hr h => ?_)
  · obtain ⟨a, c, w, rfl, _⟩ := h
    rfl
  · obtain ⟨a, c, w, rfl, ea, c0, c1, hw, k⟩ := h
    refine ⟨_, _, pa_cons (pe_joined (.cons pe_str (.cons (pe_fmt (pv 1)) (.cons pe_str (.cons (pe_fmt (pv 2)) .nil))))) pa_nil, pss_cons (ps_ost (pv 0) (pv 1)) (pss_one (ps_ost (pv 0) (pv 2))), a, _, rfl, ea, ?_⟩
    have l0 : ("column " : Str).length = 7 := by decide +kernel
    have l1 : (": " : Str).length = 2 := by decide +kernel
    have ln := PySem.W.KT.len_num c0 c1
    have sz : sizeLine = 16777216 := sizeLine_eq
    have app : ∀ x y : Str, (x ++ y).length = x.length + y.length := PySem.Str.length_append
    have e0 : Str.empty.length = 0 := by decide +kernel
    refine ⟨_, rfl, ?_, _, rfl, .inr ⟨c, rfl, int_small c0 c1, _, rfl, ?_, _, rfl, ?_, _, rfl, .inl ⟨w, rfl, by omega, _, rfl, ?_, ?_⟩⟩⟩
    · rw [app, e0, l0, sz]; decide
    · rw [app, app, e0, l0, sz]
      show 0 + 7 + (PySem.Str.ofString (toString c)).length ≤ _
      omega
    · rw [app, app, app, e0, l0, l1, sz]
      show 0 + 7 + (PySem.Str.ofString (toString c)).length + 2 ≤ _
      omega
    · rw [app, app, app, app, e0, l0, l1, sz]
      show 0 + 7 + (PySem.Str.ofString (toString c)).length + 2 + w.length ≤ _
      omega
    · refine ⟨(by decide : 1 ≤ 1000), ea, ?_⟩
      refine ⟨_, rfl, _, rfl, a, C, rfl, T.o, n1, .inl ⟨ea, fun d hd hda => ?_⟩⟩
      refine ⟨_, rfl, _, rfl, a, C, rfl, T.o, n2, .inr ⟨d, [("column", .int c)], upd_same, ?_, ?_, ?_⟩⟩
      · rw [upd_ne hda, upd_same]
      · exact (by decide : 1 ≤ 900)
      · exact k d hd hda
/-- the reading behind the arguments of TextError(c, w) -/
theorem mk_te {C : Addr} {c : Int} {wd : Str} {H : Hp} {Q : XK} (c0 : 0 ≤ c) (c1 : c < 10 ^ 10) (hw : wd.length ≤ 1000) (k : ∀ d, H d = none → Q (.ref C) (some d) (upd H d (.xd (teF c wd)))) :
    ([.int c, .str wd] : List V).length ≤ 1000 ∧ ∀ a, H a = none → spTE C (.ref a :: ([.int c, .str wd] ++ [])) (upd H a (exo a C none)) (fun v H2 => v = .non ∧ ∃ (d : Addr) (fs : List (Str × V)), H2 a = some (exo a C (some d)) ∧ H2 d = some (exd d fs) ∧ H d = none ∧
      Q (.ref C) (some d) (upd (del H2 a) d (.xd fs))) (fun _ _ _ => False) := by
  refine ⟨(by decide : 2 ≤ 1000), fun a na => ⟨a, c, wd, rfl, upd_same, c0, c1, hw, fun d hd hda => ⟨rfl, d, teF c wd, ?_, upd_same, ?_, ?_⟩⟩⟩
  · rw [upd_ne (Ne.symm hda), upd_same]
  · rw [upd_ne hda] at hd; exact hd
  · rw [upd_ne hda] at hd
    have e : upd (del (upd (upd (upd (upd H a (exo a C none)) d (exd d [("column", .int c)])) a (exo a C (some d))) d (exd d (teF c wd))) a) d (.xd (teF c wd)) = upd H d (.xd (teF c wd)) := by
      funext b
      by_cases h1 : b = d
      · rw [h1, upd_same, upd_same]
      · rw [upd_ne h1, upd_ne h1]
        by_cases h2 : b = a
        · rw [h2, del_same]; exact na.symm
        · rw [del_ne h2, upd_ne h1, upd_ne h2, upd_ne h1, upd_ne h2]
    rw [e]
    exact k d hd
end

/-- TextError and its __init__ as they stand -/
structure Txe (P : Program) (w : World) (K : PySem.W.Frag) (mg : Str → Option Value) (base : Heap) (C : Addr) : Prop where
  ex : ∃ file f fd, ExT P K mg file "TextError" C f ∧ FnOk P w K mg base CX0 1 f fd P_TE (spTE C) ∧ Binds K fd P_TE []
  n1 : PySem.W.findIn K (.ref C) "column" = some none
  n2 : PySem.W.findIn K (.ref C) "words" = some none
section
variable {X : Cx} {C : Addr} {e : Expr} {es : List Expr} {p pos : Pos} {ta : TA} {k : Nat}
theorem pmk_te (T : Txe X.prog X.w X.K X.mg X.base C) (hr : Room k X.A) (ha : PA X (e :: es) ta) (hk : 2 ≤ k := by decide) (hg : Gl X "TextError" := by rfl)
    (he : starEach (e :: es) X.env = (false, eval e X.env) :: starEach es X.env := by rfl) (hpl : (backTo pos (starEach es X.env)).any (·.1) = false := by rfl) : PMk X (.Call (.Name "TextError" p) (e :: es) [] pos) (tMkO C (spTE C) [] ta) := by
  obtain ⟨file, f, fd, T, F, b⟩ := T.ex
  exact pmk_oex (k := 1) (CX := CX0) T.o T.iC T.tI F (hr.mono hk) b .nil pass0 hg T.gC ha (by decide) he hpl
end
abbrev tRz (C : Addr) (W : WX) (ta : TA) : TS := fun _ σ H => tMkO C (spTE C) [] ta σ H fun cls d H' => W cls d σ H'
end LW
namespace LW
open PySem PySem.Spec PyProof.Rows L2 GxR FW GA EN SL SC SU SH NdefX

def sgS : List Str := ["(", ")", ",", ";", ":", "=", "|", "..", "#"]
theorem sg_cl : sgS.map cl = [[40], [41], [44], [59], [58], [61], [124], [46, 46], [35]] := by decide +kernel
theorem sg_mem {s : Str} (h : s ∈ sgS) : cl s = [40] ∨ cl s = [41] ∨ cl s = [44] ∨ cl s = [59] ∨ cl s = [58] ∨ cl s = [61] ∨ cl s = [124] ∨ cl s = [46, 46] ∨ cl s = [35] := by
  have := List.mem_map_of_mem (f := cl) h
  rw [sg_cl] at this
  simpa using this
theorem sg_hit {s : Str} {c : Nat} {r : List Nat} (h : s ∈ sgS) (h1 : low c = false) (h2 : cap c = false) (h3 : dig c = false) (e : (c :: r).take s.length = cl s) : tokR c r = .ok "sign" s.length := by
  rw [ln_cl] at e ⊢
  unfold tokR
  rw [h1, h2, h3]
  have one : ∀ a : Nat, cl s = [a] → a ≠ 46 → sg1 a = true → (if c = 46 ∧ r.head? = some 46 then Tk.ok "sign" 2 else if sg1 c = true then Tk.ok "sign" 1 else Tk.bad wNone) = Tk.ok "sign" (cl s).length := fun a q n g => by
    rw [q] at e ⊢
    have e : c = a := by simpa using e
    subst e
    rw [if_neg (fun z => n z.1), if_pos g]
    rfl
  show (if c = 46 ∧ r.head? = some 46 then Tk.ok "sign" 2 else if sg1 c = true then Tk.ok "sign" 1 else Tk.bad wNone) = Tk.ok "sign" (cl s).length
  rcases sg_mem h with q | q | q | q | q | q | q | q | q
  · exact one _ q (by decide) rfl
  · exact one _ q (by decide) rfl
  · exact one _ q (by decide) rfl
  · exact one _ q (by decide) rfl
  · exact one _ q (by decide) rfl
  · exact one _ q (by decide) rfl
  · exact one _ q (by decide) rfl
  · rw [q] at e ⊢
    cases r with
    | nil => simp at e
    | cons b r =>
      have e : c = 46 ∧ b = 46 := by simpa using e
      rw [if_pos ⟨e.1, by rw [e.2]; rfl⟩]
      rfl
  · exact one _ q (by decide) rfl
theorem sg_miss {c : Nat} {r : List Nat} (h1 : low c = false) (h2 : cap c = false) (h3 : dig c = false) (m : ∀ s ∈ sgS, (c :: r).take s.length ≠ cl s) : tokR c r = .bad wNone := by
  have m2 : ∀ l ∈ sgS.map cl, (c :: r).take l.length ≠ l := fun l hl => by
    obtain ⟨s, hs, rfl⟩ := List.mem_map.mp hl
    rw [← ln_cl]
    exact m s hs
  rw [sg_cl] at m2
  simp only [List.mem_cons, List.not_mem_nil, or_false, forall_eq_or_imp, forall_eq] at m2
  obtain ⟨a1, a2, a3, a4, a5, a6, a7, a8, a9⟩ := m2
  have one : ∀ a : Nat, (c :: r).take [a].length ≠ [a] → c ≠ a := fun a h z => h (by rw [z]; rfl)
  have b1 := one _ a1
  have b2 := one _ a2
  have b3 := one _ a3
  have b4 := one _ a4
  have b5 := one _ a5
  have b6 := one _ a6
  have b7 := one _ a7
  have b9 := one _ a9
  have b8 : ¬ (c = 46 ∧ r.head? = some 46) := fun ⟨z1, z2⟩ => by
    cases r with
    | nil => simp at z2
    | cons b r =>
      have z2 : b = 46 := by simpa using z2
      subst z1 z2
      exact a8 rfl
  unfold tokR
  rw [h1, h2, h3]
  show (if c = 46 ∧ r.head? = some 46 then Tk.ok "sign" 2 else if sg1 c = true then Tk.ok "sign" 1 else Tk.bad wNone) = Tk.bad wNone
  rw [if_neg b8, if_neg]
  unfold sg1
  simp [b1, b2, b3, b4, b5, b6, b7, b9]
theorem cut_dr (z : Str) (i n : Nat) (h : i ≤ z.length) : cutS z (some (i : Int)) (some ((i + n : Nat) : Int)) = tx (((cl z).drop i).take n) := by
  unfold cutS tx
  rw [HT.sIx_nat, HT.sIx_nat, Nat.min_eq_left (show i ≤ z.length from h)]
  have e : ((cl z).drop i).take (min (i + n) z.length - i) = ((cl z).drop i).take n := by
    have hl : ((cl z).drop i).length = z.length - i := by rw [List.length_drop, ← ln_cl]
    rcases Nat.lt_or_ge (i + n) z.length with q | q
    · rw [Nat.min_eq_left (Nat.le_of_lt q), Nat.add_sub_cancel_left]
    · rw [Nat.min_eq_right q, List.take_of_length_le (by omega), List.take_of_length_le (by omega)]
  exact congrArg (fun l : List Nat => (⟨l.toArray⟩ : Str)) e

def spWn (C : Addr) (n : Nat) (wd : Str) : Sp := fun vs H Q E => ∃ (s : Str) (i : Nat), vs = [.str s, .int (i : Int)] ∧ i ≤ 8000 ∧ s.length ≤ 8000 ∧
  (n < s.length → ∀ d, H d = none → E (.ref C) (some d) (upd H d (.xd (teF ((i : Int) + 1) wd)))) ∧ (s.length ≤ n → Q (.str s) H)
def spTok (C : Addr) : Sp := fun vs H Q E => ∃ (z : Str) (i c : Nat) (r : List Nat), vs = [.str z, .int (i : Int)] ∧ okT z ∧ i < z.length ∧ (cl z).drop i = c :: r ∧
  (∀ k n, tokR c r = .ok k n → ∀ p, H p = none → Q (.ref p) (upd H p (.tup [.str k, .str (tx ((c :: r).take n))]))) ∧ (∀ wd, tokR c r = .bad wd → ∀ d, H d = none → E (.ref C) (some d) (upd H d (.xd (teF ((i : Int) + 1) wd))))
section
variable {P : Program} {w : World} {K : PySem.W.Frag} {mg : Str → Option Value} {base : Heap} {cs : List (Addr × Addr)} {C : Addr}
theorem ok_wanted_name {f : Addr} {fd : FuncData} (F : Fun K "wanted_name" "wanted_name" s_wanted_name f fd) (G : Glo mg) (T : Txe P w K mg base C) : FnOk P w K mg base (L2.CX P w) 3 f fd P_wanted_name (spWn C 8 wName) := by
  refine F.okX sc_wanted_name (fun vs H Q E h => ?_) (fun cdv A outer s H vs Q E hr h => ?_)
  · obtain ⟨s, i, rfl, _⟩ := h
    rfl
  · obtain ⟨s, i, rfl, hi, hs, kE, kQ⟩ := h
    refine ⟨_, pss_cons (ps_if (pt_cmpR op_gt (pe_callB call_len_str (by rfl) G.len boot_len (pa_cons (pv 0) pa_nil)) (C8.pe_gc rfl G.c_MOST_LETTERS) (nomark _))
        (pss_one (ps_raise rfl (takes_of rfl rfl rfl rfl) (pmk_te T hr (pa_cons (pe_op op_add (pv 1) pe_int) (pa_cons pe_str pa_nil))))) pss_nil)
      (pss_one (ps_ret (pv 0))), ?_⟩
    refine ⟨_, rfl, _, rfl, sz8 hs, _, _, rfl, rfl, _, rfl, ite2 (fun d => ?_) fun d => ?_⟩
    · rw [decide_eq_true_eq] at d
      refine ⟨_, rfl, _, _, rfl, rfl, mk_te (by omega) (by omega) (by decide) (kE (by omega))⟩
    · rw [decide_eq_true_eq] at d
      exact ⟨_, rfl, kQ (by omega)⟩
theorem ok_wanted_number {f : Addr} {fd : FuncData} (F : Fun K "wanted_number" "wanted_number" s_wanted_number f fd) (G : Glo mg) (T : Txe P w K mg base C) : FnOk P w K mg base (L2.CX P w) 3 f fd P_wanted_number (spWn C 6 wNum) := by
  refine F.okX sc_wanted_number (fun vs H Q E h => ?_) (fun cdv A outer s H vs Q E hr h => ?_)
  · obtain ⟨s, i, rfl, _⟩ := h
    rfl
  · obtain ⟨s, i, rfl, hi, hs, kE, kQ⟩ := h
    refine ⟨_, pss_cons (ps_if (pt_cmpR op_gt (pe_callB call_len_str (by rfl) G.len boot_len (pa_cons (pv 0) pa_nil)) (C8.pe_gc rfl G.c_MOST_DIGITS) (nomark _))
        (pss_one (ps_raise rfl (takes_of rfl rfl rfl rfl) (pmk_te T hr (pa_cons (pe_op op_add (pv 1) pe_int) (pa_cons pe_str pa_nil))))) pss_nil)
      (pss_one (ps_ret (pv 0))), ?_⟩
    refine ⟨_, rfl, _, rfl, sz8 hs, _, _, rfl, rfl, _, rfl, ite2 (fun d => ?_) fun d => ?_⟩
    · rw [decide_eq_true_eq] at d
      refine ⟨_, rfl, _, _, rfl, rfl, mk_te (by omega) (by omega) (by decide) (kE (by omega))⟩
    · rw [decide_eq_true_eq] at d
      exact ⟨_, rfl, kQ (by omega)⟩
end
end LW
namespace LW
open PySem PySem.Spec PyProof.Rows L2 GxR FW GA EN SL SC SU SH NdefX
theorem rn_le {p : Nat → Bool} {z : Str} {i : Nat} (h : i ≤ z.length) : i + rn p ((cl z).drop i) ≤ z.length := by
  have := takeWhile_len p ((cl z).drop i)
  rw [List.length_drop, ← ln_cl] at this
  omega
theorem rn_cons {p : Nat → Bool} {c : Nat} {r : List Nat} (h : p c = true) : rn p (c :: r) = 1 + rn p r := by
  unfold rn
  rw [List.takeWhile_cons, if_pos h, List.length_cons]; omega
section
variable {P : Program} {w : World} {K : PySem.W.Frag} {mg : Str → Option Value} {base : Heap} {cs : List (Addr × Addr)} {C : Addr}
theorem ok_token_at {f fs fd_ a : Addr} {fd : FuncData} (F : Fun K "token_at" "token_at" s_token_at f fd) (G : Glo mg) (T : Txe P w K mg base C) (gS : mg "SIGNS" = some (.ref a)) (hS : ∀ H, SqT K H a (sgS.map V.str))
    (D1 : Dv_ P w K mg base 1 "is_small" fs P_is_small (spCh low)) (D2 : Df P w K mg base 1 "is_capital" P_is_capital (spCh cap)) (D3 : Dv_ P w K mg base 1 "is_digit" fd_ P_is_digit (spCh dig))
    (D4 : Df P w K mg base 2 "end_of_run" P_end_of_run (spEnd fs low)) (D5 : Df P w K mg base 2 "end_of_run" P_end_of_run (spEnd fd_ dig))
    (D6 : Dx P w K mg base 3 "wanted_name" P_wanted_name (spWn C 8 wName)) (D7 : Dx P w K mg base 3 "wanted_number" P_wanted_number (spWn C 6 wNum)) : FnOk P w K mg base (L2.CX P w) 4 f fd P_token_at (spTok C) := by
  refine F.okX sc_token_at (fun vs H Q E h => ?_) (fun cdv A outer s H vs Q E hr h => ?_)
  · obtain ⟨z, i, c, r, rfl, _⟩ := h
    rfl
  · obtain ⟨z, i, c, r, rfl, hz, hi, hd, kQ, kE⟩ := h
    refine ⟨_, pss_cons (ps_if (pt_val (pe_df D1.df hr (pa_cons (pe_ix ix_str (pv 0) (pv 1) (fun _ _ => rfl)) pa_nil)))
        (pss_cons (ps_set (i := 2) sc_token_at.nd rfl (.inl rfl) (pe_slice sl_str (pv 0) (po_some (pv 1)) (po_some (pe_df D4 hr (pa_cons (pv 0) (pa_cons (pv 1) (pa_cons (pe_dv D1) pa_nil)))))))
        (pss_one (ps_ret (pe_tup (pa_cons (pe_ifExp (pt_cmpR op_eq (pe_callB call_len_str (by rfl) G.len boot_len (pa_cons (pv 2) pa_nil)) pe_int (nomark _)) pe_str pe_str) (pa_cons (pe_dx D6 hr (takes_of rfl rfl rfl rfl) (pa_cons (pv 2) (pa_cons (pv 1) pa_nil))) pa_nil)))))) pss_nil)
      (pss_cons (ps_if (pt_val (pe_df D2 hr (pa_cons (pe_ix ix_str (pv 0) (pv 1) (fun _ _ => rfl)) pa_nil)))
        (pss_one (ps_ret (pe_tup (pa_cons pe_str (pa_cons (pe_dx D6 hr (takes_of rfl rfl rfl rfl) (pa_cons (pe_slice sl_str (pv 0) (po_some (pv 1)) (po_some (pe_df D4 hr (pa_cons (pv 0) (pa_cons (pe_op op_add (pv 1) pe_int) (pa_cons (pe_dv D1) pa_nil)))))) (pa_cons (pv 1) pa_nil))) pa_nil))))) pss_nil)
      (pss_cons (ps_if (pt_val (pe_df D3.df hr (pa_cons (pe_ix ix_str (pv 0) (pv 1) (fun _ _ => rfl)) pa_nil)))
        (pss_one (ps_ret (pe_tup (pa_cons pe_str (pa_cons (pe_dx D7 hr (takes_of rfl rfl rfl rfl) (pa_cons (pe_slice sl_str (pv 0) (po_some (pv 1)) (po_some (pe_df D5 hr (pa_cons (pv 0) (pa_cons (pv 1) (pa_cons (pe_dv D3) pa_nil)))))) (pa_cons (pv 1) pa_nil))) pa_nil))))) pss_nil)
      (pss_cons (ps_for (passes_of rfl) rfl (pi_tup (pe_glob (v := .ref a) rfl gS rfl)) (pg_name (i := 3) sc_token_at.nd rfl (.inl rfl))
        (pss_one (ps_if (pt_cmpR op_eq (pe_slice sl_str (pv 0) (po_some (pv 1)) (po_some (pe_op op_add (pv 1) (pe_callB call_len_str (by rfl) G.len boot_len (pa_cons (pv 3) pa_nil))))) (pv 3) (nomark _))
          (pss_one (ps_ret (pe_tup (pa_cons pe_str (pa_cons (pv 3) pa_nil))))) pss_nil)))
      (pss_one (ps_raise rfl (takes_of rfl rfl rfl rfl) (pmk_te T hr (pa_cons (pe_op op_add (pv 1) pe_int) (pa_cons pe_str pa_nil)))))))), ?_⟩
    have h8 := hz.1
    obtain ⟨c', hc, hd'⟩ := at_cl hi
    rw [hd] at hd'
    obtain ⟨rfl, hr'⟩ : c = c' ∧ r = (cl z).drop (i + 1) := by injection hd' with a b; exact ⟨a, b⟩
    have hl : rn low ((cl z).drop (i + 1)) = rn low r := by rw [hr']
    have lim := rn_le (p := low) (z := z) (i := i + 1) hi
    have limd := rn_le (p := dig) (z := z) (i := i + 1) hi
    rw [← hr'] at lim limd
    have two : ([.str "variable", .str "x"] : List V).length ≤ sizeLine := by show 2 ≤ sizeLine; decide
    -- a small letter
    refine ⟨_, rfl, _, rfl, _, _, _, rfl, rfl, sz8 h8, hc, c, rfl, _, rfl, ite2 (fun b1 => ?_) fun b1 => ?_⟩
    · refine ⟨_, rfl, _, rfl, _, rfl, _, rfl, _, rfl, z, i, rfl, h8, Nat.le_of_lt hi, _, rfl, z, rfl, sz8 h8, ?_⟩
      rw [hd, rn_cons b1, cut_dr _ _ _ (Nat.le_of_lt hi), hd]
      have e0 : tokR c r = if 8 < 1 + rn low r then .bad wName else .ok (if 1 + rn low r = 1 then "variable" else "constructor") (1 + rn low r) := by
        unfold tokR
        rw [if_pos b1]
      have ln : (tx ((c :: r).take (1 + rn low r))).length = 1 + rn low r := by
        have := takeWhile_len low r
        rw [ln_tx, List.length_take, List.length_cons]; omega
      have go : ∀ k : Str, k = (if 1 + rn low r = 1 then ("variable" : Str) else ("constructor" : Str)) → spWn C 8 wName [.str (tx ((c :: r).take (1 + rn low r))), .int (i : Int)] H (fun v H' => ([.str k, v] : List V).length ≤ sizeLine ∧ ∀ p, H' p = none → Q (.ref p) (upd H' p (.tup [.str k, v]))) E := fun k ek => by
        refine ⟨_, i, rfl, by omega, by rw [ln]; omega, fun g => ?_, fun g => ?_⟩
        · rw [ln] at g
          rw [if_pos g] at e0
          exact kE _ e0
        · rw [ln] at g
          rw [if_neg (by omega)] at e0
          refine ⟨by show 2 ≤ sizeLine; decide, ?_⟩
          rw [ek]
          exact kQ _ _ e0
      refine ⟨_, rfl, _, rfl, by rw [ln]; have := sizeLine_eq; omega, rfl, _, rfl, ?_⟩
      rw [ln]
      by_cases q : 1 + rn low r = 1
      · rw [if_pos q] at go
        rw [decide_eq_true (show V.int ((1 + rn low r : Nat) : Int) = .int 1 by rw [q]; rfl)]
        exact iteT ⟨_, rfl, _, rfl, go _ rfl⟩
      · rw [if_neg q] at go
        rw [decide_eq_false (show ¬ V.int ((1 + rn low r : Nat) : Int) = .int 1 from fun z => by injection z with z; omega)]
        exact iteF ⟨_, rfl, _, rfl, go _ rfl⟩
    rw [Bool.not_eq_true] at b1
    -- a capital letter
    refine ⟨_, rfl, _, rfl, _, _, _, rfl, rfl, sz8 h8, hc, c, rfl, _, rfl, ite2 (fun b2 => ?_) fun b2 => ?_⟩
    · refine ⟨_, rfl, _, rfl, _, rfl, _, rfl, _, rfl, _, _, rfl, rfl, z, i + 1, rfl, h8, hi, _, rfl, z, rfl, sz8 h8, ?_⟩
      rw [hl, show i + 1 + rn low r = i + (1 + rn low r) by omega, cut_dr _ _ _ (Nat.le_of_lt hi), hd]
      have e0 : tokR c r = if 8 < 1 + rn low r then .bad wName else .ok "generic" (1 + rn low r) := by
        unfold tokR
        rw [b1, if_neg Bool.false_ne_true, if_pos b2]
      have ln : (tx ((c :: r).take (1 + rn low r))).length = 1 + rn low r := by
        have := takeWhile_len low r
        rw [ln_tx, List.length_take, List.length_cons]; omega
      refine ⟨_, rfl, _, i, rfl, by omega, by rw [ln]; omega, fun g => ?_, fun g => ?_⟩
      · rw [ln] at g
        rw [if_pos g] at e0
        exact kE _ e0
      · rw [ln] at g
        rw [if_neg (by omega)] at e0
        exact ⟨by show 2 ≤ sizeLine; decide, kQ _ _ e0⟩
    rw [Bool.not_eq_true] at b2
    -- a digit
    refine ⟨_, rfl, _, rfl, _, _, _, rfl, rfl, sz8 h8, hc, c, rfl, _, rfl, ite2 (fun b3 => ?_) fun b3 => ?_⟩
    · refine ⟨_, rfl, _, rfl, _, rfl, _, rfl, _, rfl, z, i, rfl, h8, Nat.le_of_lt hi, _, rfl, z, rfl, sz8 h8, ?_⟩
      rw [hd, rn_cons b3, cut_dr _ _ _ (Nat.le_of_lt hi), hd]
      have e0 : tokR c r = if 6 < 1 + rn dig r then .bad wNum else .ok "number" (1 + rn dig r) := by
        unfold tokR
        rw [b1, b2, if_neg Bool.false_ne_true, if_neg Bool.false_ne_true, if_pos b3]
      have ln : (tx ((c :: r).take (1 + rn dig r))).length = 1 + rn dig r := by
        have := takeWhile_len dig r
        rw [ln_tx, List.length_take, List.length_cons]; omega
      refine ⟨_, rfl, _, i, rfl, by omega, by rw [ln]; omega, fun g => ?_, fun g => ?_⟩
      · rw [ln] at g
        rw [if_pos g] at e0
        exact kE _ e0
      · rw [ln] at g
        rw [if_neg (by omega)] at e0
        exact ⟨by show 2 ≤ sizeLine; decide, kQ _ _ e0⟩
    rw [Bool.not_eq_true] at b3
    -- a sign
    refine ⟨a, rfl, ⟨_, hS H⟩, for_tup (K := K) (a := a) (xs := sgS.map V.str) (fun j σ H' => ∃ x2 x3 : Option V, σ = [some (.str z), some (.int (i : Int)), x2, x3] ∧ H' = H ∧ ∀ s ∈ sgS.take j, (c :: r).take s.length ≠ cl s) ⟨none, none, rfl, rfl, by simp⟩ (fun j σ H' _ _ => hS H') (fun j x σ H' hx p => ?_) fun σ H' p => ?_⟩
    · obtain ⟨x2, x3, rfl, rfl, m⟩ := p
      rw [List.getElem?_map] at hx
      cases hj : sgS[j]? with
      | none => rw [hj] at hx; cases hx
      | some s =>
        rw [hj] at hx
        obtain rfl : V.str s = x := Option.some.inj hx
        have hm := List.mem_of_getElem? hj
        have s2 : s.length ≤ 8000 := by
          rw [ln_cl]
          rcases sg_mem hm with q | q | q | q | q | q | q | q | q <;> rw [q] <;> decide
        refine ⟨_, rfl, _, rfl, _, rfl, _, rfl, _, rfl, _, rfl, sz8 s2, _, _, rfl, rfl, _, rfl, z, rfl, sz8 h8, ?_⟩
        rw [show (i : Int) + (s.length : Int) = ((i + s.length : Nat) : Int) by omega, cut_dr _ _ _ (Nat.le_of_lt hi), hd]
        refine ⟨_, rfl, rfl, _, rfl, ?_⟩
        by_cases q : (c :: r).take s.length = cl s
        · rw [decide_eq_true (show V.str (tx ((c :: r).take s.length)) = .str s by rw [q, tx_cl])]
          refine iteT ⟨_, rfl, by show 2 ≤ sizeLine; decide, fun p hp => ?_⟩
          have := kQ _ _ (sg_hit hm b1 b2 b3 q) p hp
          rw [q, tx_cl] at this
          exact this
        · rw [decide_eq_false (show ¬ V.str (tx ((c :: r).take s.length)) = .str s from fun z => q (by injection z with z; have := congrArg cl z; rw [cl_tx] at this; exact this))]
          refine iteF ⟨_, _, rfl, rfl, fun s' hs' => ?_⟩
          rw [List.take_add_one, hj] at hs'
          rcases List.mem_append.mp hs' with hs' | hs'
          · exact m s' hs'
          · rw [List.mem_singleton.mp hs']; exact q
    · obtain ⟨x2, x3, rfl, rfl, m⟩ := p
      rw [List.length_map, List.take_length] at m
      exact ⟨_, rfl, _, _, rfl, rfl, mk_te (by omega) (by omega) (by decide) (kE _ (sg_miss b1 b2 b3 m))⟩
end
end LW
/-! beside FW: data without lists; a list that is new and changes -/
namespace FW
open PySem PySem.Spec PyProof.Rows L2 GxR GA
abbrev NT : Addr → Prop := fun _ => True
section
variable {K : PySem.W.Frag} {cs : List (Addr × Addr)} {S D a p : Addr} {H H1 H2 : Hp} {xs ys : List V} {t : T} {ts : List T} {v : V} {N : Addr → Prop} {o u : HO}
theorem Den.nt (k : Kp N H1 H2) (h : Den K NT H1 t v) : Den K NT H2 t v := Den.kp (k.mono fun _ _ => trivial) t v h
theorem DenL.nt (k : Kp N H1 H2) (h : DenL K NT H1 ts xs) : DenL K NT H2 ts xs := DenL.kp (k.mono fun _ _ => trivial) ts xs h
theorem Den.any (h : Den K NT H1 t v) : Den K N H1 t v := Den.less (fun _ _ => trivial) t v h
theorem DenL.any (h : DenL K NT H1 ts xs) : DenL K N H1 ts xs := DenL.less (fun _ _ => trivial) ts xs h
/-- what is new since H changes -/
theorem Kp.putN (k : Kp N0 H H1) (hD : H D = none) : Kp N0 H (upd H1 D o) :=
  ⟨fun b u e q n => by rw [upd_ne (ne_of_none e hD)]; exact k.keep b u e q n, fun b xs e => by rw [upd_ne (ne_of_none e hD)]; exact k.tups b xs e, fun b o u e => by rw [upd_ne (ne_of_none e hD)]; exact k.frz b o u e, fun b e => by
    by_cases z : b = D
    · rw [z]; exact hD
    · rw [upd_ne z] at e; exact k.stay b e⟩
theorem Ex.putN (k : Ex cs N0 H H1) (hD : H D = none) (e : H1 D = some (.lst xs)) : Ex cs N0 H (upd H1 D o) := ⟨k.toKp.putN hD, k.tok.put e fun q z => by cases z⟩
/-- the data of a tree without lists stands when a list changes -/
theorem DenL.put (h : DenL K NT H ts ys) (e : H D = some (.lst xs)) : DenL K NT (upd H D o) ts ys := DenL.nt (N := N1 D) (Kp.put e rfl) h
theorem Den.put (h : Den K NT H t v) (e : H D = some (.lst xs)) : Den K NT (upd H D o) t v := Den.nt (N := N1 D) (Kp.put e rfl) h
end
end FW
namespace LW
open PySem PySem.Spec PyProof.Rows L2 GxR FW GA EN SL SC SU SH NdefX
def tokT (t : Str × List Nat × Nat) : T := .tup [.str t.1, .str (tx t.2.1), .int (t.2.2 : Int)]
theorem den_tok {K : PySem.W.Frag} {H : Hp} {p : Addr} {k : Str} {l : List Nat} {i : Nat} (h : SqT K H p [.str k, .str (tx l), .int (i : Int)]) (h1 : k.length ≤ 100) (h2 : l.length ≤ 8000) : Den K NT H (tokT (k, l, i)) (.ref p) :=
  Den.tup_ h (DenL.cons (Den.str_ _ (Nat.le_trans h1 (by rw [sizeLine_eq]; decide))) (DenL.cons (Den.str_ _ (sz8 (by rw [ln_tx]; exact h2))) (DenL.cons (Den.int_ _) DenL.nil)))
theorem kind_len {c : Nat} {r : List Nat} {k : Str} {n : Nat} (h : tokR c r = .ok k n) : k.length ≤ 100 := by
  unfold tokR at h
  have l1 : ("variable" : Str).length ≤ 100 := by decide +kernel
  have l2 : ("constructor" : Str).length ≤ 100 := by decide +kernel
  have l3 : ("generic" : Str).length ≤ 100 := by decide +kernel
  have l4 : ("number" : Str).length ≤ 100 := by decide +kernel
  have l5 : ("sign" : Str).length ≤ 100 := by decide +kernel
  repeat (first | (split at h) | (injection h with h1 h2; subst h1; first | assumption | (split <;> assumption)) | (cases h))
/-- scan(text): the list of the tokens, or an error -/
def spScan (K : PySem.W.Frag) (cs : List (Addr × Addr)) (C : Addr) : Sp := fun vs H Q E => ∃ z : Str, vs = [.str z] ∧ okT z ∧ TOk cs H ∧
  (∀ l D xs H', scanR 0 (cl z) = .toks l → Ex cs N0 H H' → H D = none → H' D = some (.lst xs) → DenL K NT H' (l.map tokT) xs → Q (.ref D) H') ∧
  (∀ col wd d H', scanR 0 (cl z) = .prob col wd → Ex cs N0 H H' → H d = none → H' d = some (.xd (teF (col : Int) wd)) → E (.ref C) (some d) H')
section
variable {P : Program} {w : World} {K : PySem.W.Frag} {mg : Str → Option Value} {base : Heap} {cs : List (Addr × Addr)} {C : Addr}
theorem ok_scan {f : Addr} {fd : FuncData} (F : Fun K "scan" "scan" s_scan f fd) (G : Glo mg) (D1 : Df P w K mg base 1 "is_text" P_is_text spTxt) (D2 : Dx P w K mg base 4 "token_at" P_token_at (spTok C)) : FnOk P w K mg base (L2.CX P w) 5 f fd P_scan (spScan K cs C) := by
  refine F.okX sc_scan (fun vs H Q E h => ?_) (fun cdv A outer s H vs Q E hr h => ?_)
  · obtain ⟨z, rfl, _⟩ := h
    rfl
  · obtain ⟨z, rfl, hz, ho, kQ, kE⟩ := h
    refine ⟨_, pss_cons (ps_if (pt_not (pt_val (pe_df D1 hr (pa_cons (pv 0) pa_nil)))) (pss_one ps_never) pss_nil)
      (pss_cons (ps_set (i := 1) sc_scan.nd rfl (.inl rfl) (pe_lst pa_nil))
      (pss_cons (ps_set (i := 2) sc_scan.nd rfl (.inl rfl) pe_int)
      (pss_cons (ps_while (passes_of rfl) (pt_cmpR op_lt (pv 2) (pe_callB call_len_str (by rfl) G.len boot_len (pa_cons (pv 0) pa_nil)) (nomark _))
        (pss_cons (ps_if (pt_cmpR op_eq (pe_ix ix_str (pv 0) (pv 2) (fun _ _ => rfl)) pe_str (nomark _)) (pss_cons (ps_aug (i := 2) sc_scan.nd rfl (.inl rfl) pe_int ip_add) (pss_one ps_continue)) pss_nil)
        (pss_cons (ps_asg (pe_dx D2 hr (takes_of rfl rfl rfl rfl) (pa_cons (pv 0) (pa_cons (pv 2) pa_nil))) (pg_tup rfl (pgs_cons (pg_name (i := 3) sc_scan.nd rfl (Or.inl rfl)) (pgs_cons (pg_name (i := 4) sc_scan.nd rfl (Or.inl rfl)) pgs_nil))))
        (pss_cons (ps_expr (pe_bm PySem.F.plainAttrs_list PySem.F.slot_list_append PySem.F.type_list_append mt_append (pv 1) (pa_cons (pe_tup (pa_cons (pv 3) (pa_cons (pv 4) (pa_cons (pe_op op_add (pv 2) pe_int) pa_nil)))) pa_nil)))
        (pss_one (ps_aug (i := 2) sc_scan.nd rfl (.inl rfl) (pe_callB call_len_str (by rfl) G.len boot_len (pa_cons (pv 4) pa_nil)) ip_add))))))
      (pss_cons (ps_expr (pe_bm PySem.F.plainAttrs_list PySem.F.slot_list_append PySem.F.type_list_append mt_append (pv 1) (pa_cons (pe_tup (pa_cons pe_str (pa_cons pe_str (pa_cons (pe_op op_add (pe_callB call_len_str (by rfl) G.len boot_len (pa_cons (pv 0) pa_nil)) pe_int) pa_nil)))) pa_nil)))
      (pss_one (ps_ret (pv 1))))))), ?_⟩
    have h8 := hz.1
    have szl := sizeLine_eq
    refine ⟨_, rfl, z, rfl, hz, _, rfl, iteF ?_⟩
    refine ⟨Nat.zero_le _, fun D hD => ?_⟩
    have x1 : Ex cs N0 H (upd H D (.lst [])) := Ex.new ho hD
    refine ⟨fun m σ H' => ∃ (j : Nat) (x3 x4 : Option V) (ts : List (Str × List Nat × Nat)) (xs : List V), m = z.length - j ∧ σ = [some (.str z), some (.ref D), some (.int (j : Int)), x3, x4] ∧ Ex cs N0 H H' ∧ H' D = some (.lst xs) ∧ DenL K NT H' (ts.map tokT) xs ∧
        j ≤ z.length ∧ ts.length ≤ j ∧ (scanR j ((cl z).drop j)).pre ts = scanR 0 (cl z), ⟨_, 0, none, none, [], [], rfl, rfl, x1, upd_same, DenL.nil, Nat.zero_le _, Nat.zero_le _, Sc.pre_nil _⟩, ?_⟩
    rintro m σ H' ⟨j, x3, x4, ts, xs, rfl, rfl, e, hl, hd, hj, ht, hs⟩
    refine ⟨_, rfl, _, rfl, _, rfl, sz8 h8, _, _, rfl, rfl, _, rfl, ?_⟩
    have lx := hd.len
    rw [List.length_map] at lx
    by_cases lt : j < z.length
    · rw [decide_eq_true (show (j : Int) < (z.length : Int) by omega)]
      obtain ⟨c, hc, hdr⟩ := at_cl lt
      rw [hdr] at hs
      refine iteT ⟨fun σ' H2 => ∃ (j' : Nat) (x3 x4 : Option V) (ts : List (Str × List Nat × Nat)) (xs : List V), j < j' ∧ σ' = [some (.str z), some (.ref D), some (.int (j' : Int)), x3, x4] ∧ Ex cs N0 H H2 ∧ H2 D = some (.lst xs) ∧ DenL K NT H2 (ts.map tokT) xs ∧
        j' ≤ z.length ∧ ts.length ≤ j' ∧ (scanR j' ((cl z).drop j')).pre ts = scanR 0 (cl z), fun σ' H2 ⟨j', a, b, c, d, q1, q2, q3, q4, q5, q6, q7⟩ => ⟨z.length - j', by omega, j', a, b, c, d, rfl, q2, q3, q4, q5, q6, q7⟩, ?_⟩
      refine ⟨_, rfl, _, rfl, _, _, _, rfl, rfl, sz8 h8, hc, rfl, _, rfl, ?_⟩
      have sp : (" " : Str) = ⟨#[32]⟩ := by decide +kernel
      by_cases c32 : c = 32
      · rw [decide_eq_true (show V.str ⟨#[c]⟩ = .str " " by rw [sp, c32])]
        refine iteT ⟨_, rfl, _, _, rfl, rfl, ?_⟩
        refine ⟨j + 1, x3, x4, ts, xs, by omega, rfl, e, hl, hd, lt, by omega, ?_⟩
        rw [← hs, c32, scan_sp]
      · rw [decide_eq_false (show ¬ V.str ⟨#[c]⟩ = .str " " from fun q => c32 (by rw [sp] at q; injection q with q; injection q with q; simpa using q))]
        refine iteF ⟨_, rfl, _, rfl, z, j, c, _, rfl, hz, lt, hdr, fun k n hk p hp => ?_, fun wd hw d hd' => ?_⟩
        · have n1 := tok_pos hk
          have n2 := tok_len hk
          have hdl : ((cl z).drop (j + 1)).length = z.length - (j + 1) := by rw [List.length_drop, ← ln_cl]
          rw [hdl] at n2
          have npD : p ≠ D := fun q => by rw [q, hl] at hp; cases hp
          have tkl : ((c :: (cl z).drop (j + 1)).take n).length = n := by rw [List.length_take, List.length_cons, hdl]; omega
          have e2 := e.trans (Ex.new (o := .tup [.str k, .str (tx ((c :: (cl z).drop (j + 1)).take n))]) e.tok hp)
          refine ⟨p, _, rfl, SqT.of upd_same, rfl, _, _, rfl, _, _, rfl, rfl, ?_⟩
          have hl2 : upd H' p (.tup [.str k, .str (tx ((c :: (cl z).drop (j + 1)).take n))]) D = some (.lst xs) := by rw [upd_ne (Ne.symm npD)]; exact hl
          refine ⟨_, rfl, .inl ⟨rfl, _, .inl (.inl hl2)⟩, _, rfl, _, rfl, _, rfl, _, _, rfl, rfl, by show 3 ≤ sizeLine; omega, fun p2 hp2 => ?_⟩
          have np2 : p2 ≠ D := fun q => by rw [q, hl2] at hp2; cases hp2
          have e3 := e2.trans (Ex.new (o := .tup [.str k, .str (tx ((c :: (cl z).drop (j + 1)).take n)), .int ((j : Int) + 1)]) e2.tok hp2)
          have hl3 : upd (upd H' p (.tup [.str k, .str (tx ((c :: (cl z).drop (j + 1)).take n))])) p2 (.tup [.str k, .str (tx ((c :: (cl z).drop (j + 1)).take n)), .int ((j : Int) + 1)]) D = some (.lst xs) := by rw [upd_ne (Ne.symm np2)]; exact hl2
          refine ⟨D, _, _, rfl, rfl, hl3, by omega, ?_⟩
          refine ⟨_, rfl, _, rfl, _, rfl, by rw [ln_tx, tkl]; omega, _, _, rfl, rfl, ?_⟩
          rw [ln_tx, tkl]
          have d3 : DenL K NT (upd (upd H' p (.tup [.str k, .str (tx ((c :: (cl z).drop (j + 1)).take n))])) p2 (.tup [.str k, .str (tx ((c :: (cl z).drop (j + 1)).take n)), .int ((j : Int) + 1)])) ((ts ++ [(k, (c :: (cl z).drop (j + 1)).take n, j + 1)]).map tokT) (xs ++ [.ref p2]) := by
            rw [List.map_append]
            refine DenL.append (((hd.nt (Kp.new (N := N0) hp)).nt (Kp.new (N := N0) hp2))) (DenL.cons (den_tok (SqT.of upd_same) (kind_len hk) (by rw [tkl]; omega)) DenL.nil)
          refine ⟨j + n, _, _, ts ++ [(k, (c :: (cl z).drop (j + 1)).take n, j + 1)], _, by omega, rfl, e3.putN hD hl3, upd_same, d3.put hl3, by omega, by rw [List.length_append, List.length_singleton]; omega, ?_⟩
          rw [← hs, scan_ok c32 hk, Sc.pre_pre, ← hdr, List.drop_drop]
        · refine kE (j + 1) wd d _ ?_ (e.trans (Ex.new e.tok hd')) (e.stay _ hd') upd_same
          rw [← hs, scan_bad c32 hw]
          rfl
    · rw [decide_eq_false (show ¬ (j : Int) < (z.length : Int) by omega)]
      have : j = z.length := by omega
      subst this
      rw [show (cl z).drop z.length = [] from by rw [ln_cl, List.drop_length], scan_nil] at hs
      refine iteF ⟨_, rfl, .inl ⟨rfl, _, .inl (.inl hl)⟩, _, rfl, _, rfl, sz8 h8, _, _, rfl, rfl, by show 3 ≤ sizeLine; omega, fun p2 hp2 => ?_⟩
      have np2 : p2 ≠ D := fun q => by rw [q, hl] at hp2; cases hp2
      have hl3 : upd H' p2 (.tup [.str "end", .str "", .int ((z.length : Int) + 1)]) D = some (.lst xs) := by rw [upd_ne (Ne.symm np2)]; exact hl
      have e3 := e.trans (Ex.new (o := .tup [.str "end", .str "", .int ((z.length : Int) + 1)]) e.tok hp2)
      refine ⟨D, _, _, rfl, rfl, hl3, by omega, _, rfl, ?_⟩
      have em : ("" : Str) = tx [] := by decide +kernel
      refine kQ (ts ++ [(("end" : Str), ([] : List Nat), z.length + 1)]) D (xs ++ [.ref p2]) _ (by rw [← hs]; rfl) (e3.putN hD hl3) hD upd_same (DenL.put ?_ hl3)
      rw [List.map_append]
      refine DenL.append (hd.nt (Kp.new (N := N0) hp2)) (DenL.cons (den_tok (SqT.of (by rw [upd_same, em]; rfl)) (by decide +kernel) (Nat.zero_le _)) DenL.nil)
end
end LW
namespace LW
open PySem PySem.Spec PyProof.Rows L2 GxR FW GA EN SL

/-- the law's stream of draws stands at S -/
def StOk (H : Hp) (S : Addr) : Prop := ∃ (a : Addr) (ns : List Int) (c k : Int), H S = some (.lst [.ref a, .int c, .int k]) ∧ H a = some (.lst (ns.map V.int)) ∧ 0 ≤ c ∧ 0 ≤ k ∧ a ≠ S
theorem StOk.ex0 {cs : List (Addr × Addr)} {H H' : Hp} {S : Addr} (h : StOk H S) (e : Ex cs N0 H H') : StOk H' S := by
  obtain ⟨a, ns, c, k, h1, h2, h3⟩ := h
  exact ⟨a, ns, c, k, e.keep _ _ h1 (fun q z => by cases z) fun z => z, e.keep _ _ h2 (fun q z => by cases z) fun z => z, h3⟩
/-- behind a draw: the stream has turned, nothing else -/
structure Dr (cs : List (Addr × Addr)) (S : Addr) (H H' : Hp) : Prop extends Ex cs (N1 S) H H' where
  st : StOk H' S
  same : ∀ a o1 o2, H S = some (.lst [.ref a, o1, o2]) → ∃ o3 o4, H' S = some (.lst [.ref a, o3, o4])
theorem Dr.trans {cs : List (Addr × Addr)} {S : Addr} {H H1 H2 : Hp} (x : Dr cs S H H1) (y : Dr cs S H1 H2) : Dr cs S H H2 := ⟨x.toEx.trans y.toEx, y.st, fun a o1 o2 e => by obtain ⟨o3, o4, e2⟩ := x.same a o1 o2 e; exact y.same a o3 o4 e2⟩
theorem Dr.of0 {cs : List (Addr × Addr)} {S : Addr} {H H1 : Hp} (h : StOk H S) (x : Ex cs N0 H H1) : Dr cs S H H1 := ⟨x.of0, h.ex0 x, fun a o1 o2 e => ⟨o1, o2, x.keep _ _ e (fun q z => by cases z) fun z => z⟩⟩
theorem Dr.new {cs : List (Addr × Addr)} {S p : Addr} {H : Hp} {o : HO} (h : StOk H S) (k : TOk cs H) (e : H p = none) : Dr cs S H (upd H p o) := Dr.of0 h (Ex.new k e)
theorem StOk.ne {H : Hp} {S D : Addr} (h : StOk H S) (e : H D = none) : D ≠ S := fun z => by
  obtain ⟨a, ns, c, k, h1, _⟩ := h
  rw [z, h1] at e; cases e
/-- a list that is new since H changes -/
theorem Dr.put {cs : List (Addr × Addr)} {S D : Addr} {H H' : Hp} {o : HO} {xs : List V} (dr : Dr cs S H H') (h : StOk H S) (hD : H D = none) (e : H' D = some (.lst xs)) : Dr cs S H (upd H' D o) := by
  refine ⟨⟨⟨fun b o e q n => ?_, fun b xs e => ?_, fun b o u e => ?_, fun b e => ?_⟩, dr.tok.put e fun q z => by cases z⟩, ?_, fun a o1 o2 e2 => ?_⟩
  · rw [upd_ne (fun z => by rw [z, hD] at e; cases e)]; exact dr.keep b o e q n
  · rw [upd_ne (fun z => by rw [z, hD] at e; cases e)]; exact dr.tups b xs e
  · rw [upd_ne (fun z => by rw [z, hD] at e; cases e)]; exact dr.frz b o u e
  · by_cases z : b = D
    · rw [z]; exact hD
    · rw [upd_ne z] at e; exact dr.stay b e
  · obtain ⟨a, ns, c, k, h1, h2, _⟩ := h
    obtain ⟨o3, o4, h3⟩ := dr.same a _ _ h1
    obtain ⟨a', ns', c', k', h1', h2', h4⟩ := dr.st
    rw [h3] at h1'
    have ea : a = a' := by
      have := HO.lst.inj (Option.some.inj h1')
      exact V.ref.inj (List.cons.inj this).1
    subst ea
    rw [h1'] at h3
    have nS : S ≠ D := fun z => by rw [z, hD] at h1; cases h1
    have na : a ≠ D := fun z => by rw [z, hD] at h2; cases h2
    refine ⟨a, ns', c', k', ?_, ?_, h4⟩
    · rw [upd_ne nS]; exact h3
    · rw [upd_ne na]; exact h2'
  · have nS : S ≠ D := fun z => by rw [z, hD] at e2; cases e2
    rw [upd_ne nS]
    exact dr.same a o1 o2 e2

def spStream (K : PySem.W.Frag) (cs : List (Addr × Addr)) : Sp := fun vs H Q _ => ∃ (a : Addr) (ns : List Int), vs = [.ref a] ∧ SqL K H a (ns.map V.int) ∧ TOk cs H ∧ ∀ S H', Ex cs N0 H H' → H S = none → StOk H' S → Q (.ref S) H'
def spNext (cs : List (Addr × Addr)) : Sp := fun vs H Q _ => ∃ S n, vs = [.ref S, .int n] ∧ StOk H S ∧ TOk cs H ∧ 0 < n ∧ n < 1000000 ∧ ∀ d H', 0 ≤ d → d < n → Dr cs S H H' → Q (.int d) H'
def spPick (K : PySem.W.Frag) (cs : List (Addr × Addr)) : Sp := fun vs H Q _ => ∃ S r xs, vs = [.ref S, .ref r] ∧ StOk H S ∧ TOk cs H ∧ ((H r = some (.lst xs) ∧ r ≠ S) ∨ SqT K H r xs) ∧ xs ≠ [] ∧ xs.length ≤ 1000 ∧
  ∀ v H', v ∈ xs → Dr cs S H H' → Q v H'

section
variable {P : Program} {w : World} {K : PySem.W.Frag} {mg : Str → Option Value} {base : Heap} {cs : List (Addr × Addr)}
theorem ok__law_stream {f : Addr} {fd : FuncData} (F : Fun K "_law_stream" "_law_stream" s__law_stream f fd) (G : Glo mg) : FnOk P w K mg base CX0 1 f fd P__law_stream (spStream K cs) := by
  refine F.ok sc__law_stream (fun vs H Q E h => ?_) (fun cdv A outer s H vs Q E hr h => ?_)
  · obtain ⟨a, ns, rfl, _⟩ := h
    rfl
  · obtain ⟨a, ns, rfl, hS, ho, k⟩ := h
    refine ⟨_, pss_one (ps_ret (pe_lst (pa_cons (pe_callTy call_list_of (by rfl) G.list (by decide +kernel) (pa_cons (pv 0) pa_nil)) (pa_cons pe_int (pa_cons pe_int pa_nil))))), ?_⟩
    refine ⟨_, rfl, a, _, rfl, .inl hS, fun l hl => ⟨by show 3 ≤ sizeLine; decide, fun S hSn => ?_⟩⟩
    have e1 : Ex cs N0 H (upd H l (.lst (ns.map V.int))) := Ex.new ho hl
    have nl : l ≠ S := fun z => by rw [← z, upd_same] at hSn; cases hSn
    have hSn' : H S = none := by rw [upd_ne (Ne.symm nl)] at hSn; exact hSn
    exact k S _ (e1.trans (Ex.new e1.tok hSn)) hSn' ⟨l, ns, 0, 0, upd_same, by rw [upd_ne nl, upd_same], by omega, by omega, nl⟩

theorem ok__law_next {f : Addr} {fd : FuncData} (F : Fun K "_law_next" "_law_next" s__law_next f fd) (G : Glo mg) : FnOk P w K mg base CX0 1 f fd P__law_next (spNext cs) := by
  refine F.ok sc__law_next (fun vs H Q E h => ?_) (fun cdv A outer s H vs Q E hr h => ?_)
  · obtain ⟨S, n, rfl, _⟩ := h
    rfl
  · obtain ⟨S, n, rfl, hst, ho, n0, n1, k⟩ := h
    refine ⟨_, C8.pss_cut (ps_if (pt_cmpR op_eq (pe_ix ix_list (pv 0) pe_int (fun _ _ => rfl)) pe_int (nomark _))
        (pss_cons (ps_set (i := 2) sc__law_next.nd rfl (.inl rfl) (pe_ix ix_list (pv 0) pe_int (fun _ _ => rfl)))
        (pss_cons (ps_set (i := 3) sc__law_next.nd rfl (.inl rfl) (pe_op op_add pe_int (pv 2)))
        (C8.pss_cut (ps_if (pt_cmpR op_lt (pv 2) (pe_callB call_len_seq (by rfl) G.len boot_len (pa_cons (pe_ix ix_list (pv 0) pe_int (fun _ _ => rfl)) pa_nil)) (nomark _))
          (pss_one (ps_set (i := 3) sc__law_next.nd rfl (.inl rfl) (pe_callB call_abs (by rfl) G.abs (by decide +kernel) (pa_cons (pe_ix ix_list (pe_ix ix_list (pv 0) pe_int (fun _ _ => rfl)) (pv 2) (fun _ _ => rfl)) pa_nil)))) pss_nil)
        (C8.pss_cut (ps_if (pt_cmpR op_lt (pv 3) (pe_op op_pow pe_int pe_int) (nomark _))
          (pss_cons (ps_set (i := 3) sc__law_next.nd rfl (.inl rfl) (pe_op op_mod (pe_callTy call_int1 (by rfl) G.int (by decide +kernel) (pa_cons (pe_op op_add (pe_op op_add (pe_op op_mul (pv 3) pe_int) (pe_op op_mul (pv 2) pe_int)) pe_int) pa_nil)) pe_int))
          (pss_one (ps_set (i := 3) sc__law_next.nd rfl (.inl rfl) (pe_op op_add (pe_op op_mul (pe_op op_mod (pe_callTy call_int1 (by rfl) G.int (by decide +kernel) (pa_cons (pe_op op_add (pe_op op_mul (pv 3) pe_int) pe_int) pa_nil)) pe_int) pe_int) (pv 3))))) pss_nil)
        (pss_cons (ps_asg (pv 3) (pg_sub (pv 0) pe_int set_list))
        (pss_one (ps_asg (pe_op op_add (pv 2) pe_int) (pg_sub (pv 0) pe_int set_list)))))))) pss_nil)
      (pss_cons (ps_set (i := 4) sc__law_next.nd rfl (.inl rfl) (pe_op op_mod (pe_callTy call_int1 (by rfl) G.int (by decide +kernel) (pa_cons (pe_ix ix_list (pv 0) pe_int (fun _ _ => rfl)) pa_nil)) (pv 1)))
      (pss_cons (ps_asg (pe_op op_fdiv (pe_ix ix_list (pv 0) pe_int (fun _ _ => rfl)) (pv 1)) (pg_sub (pv 0) pe_int set_list))
      (pss_one (ps_ret (pv 4))))), ?_⟩
    obtain ⟨a, ns, c, k', h1, h2, c0, k0, nS⟩ := hst
    refine ⟨fun σ H' => ∃ x2 x3 c1 k1, σ = [some (.ref S), some (.int n), x2, x3, none] ∧ Ex cs (N1 S) H H' ∧ H' S = some (.lst [.ref a, .int c1, .int k1]) ∧ 0 ≤ c1 ∧ 0 ≤ k1, ?_, ?_⟩
    · refine ⟨_, rfl, S, _, _, _, rfl, rfl, SqL.of h1, atI_nat (j := 1) rfl, rfl, _, rfl, ite2 (fun _ => ?_) fun _ => ?_⟩
      · refine ⟨_, rfl, S, _, _, _, rfl, rfl, SqL.of h1, atI_nat (j := 2) rfl, _, rfl, _, _, rfl, rfl, ?_⟩
        refine ⟨fun σ H' => ∃ c1, σ = [some (.ref S), some (.int n), some (.int k'), some (.int c1), none] ∧ H' = H ∧ 0 ≤ c1, ?_, ?_⟩
        · refine ⟨_, rfl, _, rfl, S, _, _, _, rfl, rfl, SqL.of h1, atI_nat (j := 0) rfl, a, _, rfl, .inl (SqL.of h2), _, _, rfl, rfl, _, rfl, ite2 (fun lt => ?_) fun _ => ⟨7 + k', rfl, rfl, by omega⟩⟩
          rw [decide_eq_true_eq, List.length_map] at lt
          obtain ⟨j, rfl⟩ := Int.eq_ofNat_of_zero_le k0
          have hj : j < ns.length := by omega
          refine ⟨_, rfl, S, _, _, _, rfl, rfl, SqL.of h1, atI_nat (j := 0) rfl, _, rfl, a, _, _, .int ns[j], rfl, rfl, SqL.of h2, atI_nat (by simp [hj]), ns[j], rfl, _, rfl, rfl, ?_⟩
          split <;> omega
        · rintro σ H' ⟨c1, rfl, rfl, p1⟩
          refine ⟨fun σ H'' => ∃ c1, σ = [some (.ref S), some (.int n), some (.int k'), some (.int c1), none] ∧ H'' = H' ∧ 0 ≤ c1, ?_, ?_⟩
          · refine ⟨_, rfl, _, _, rfl, rfl, ⟨by omega, by omega, by decide⟩, _, _, rfl, rfl, _, rfl, ite2 (fun _ => ?_) fun _ => ⟨c1, rfl, rfl, p1⟩⟩
            refine ⟨_, rfl, _, _, rfl, rfl, .inr ⟨by decide, by decide⟩, _, rfl, _, _, rfl, rfl, .inr ⟨by decide, by decide⟩, _, _, rfl, rfl, _, _, rfl, rfl, .inl ⟨_, rfl, _, _, rfl, rfl, (by show (0 : Int) < 2147483647; decide), ?_⟩⟩
            refine ⟨_, rfl, _, _, rfl, rfl, .inr ⟨by decide, by decide⟩, _, _, rfl, rfl, .inl ⟨_, rfl, _, _, rfl, rfl, (by show (0 : Int) < 2147483647; decide), _, _, rfl, rfl, .inr ⟨by decide, by decide⟩, _, rfl, _, _, rfl, rfl, _, rfl, rfl, ?_⟩⟩
            have a1 := Int.emod_nonneg (c1 * 48271 + k' * 69621 + 11) (show (2147483647 : Int) ≠ 0 by decide)
            have a2 := Int.emod_nonneg ((c1 * 48271 + k' * 69621 + 11) % 2147483647 * 16807 + 13) (show (2147483647 : Int) ≠ 0 by decide)
            omega
          · rintro σ H'' ⟨c1, rfl, rfl, p1⟩
            have kp : ∀ o, Ex cs (N1 S) H'' (upd H'' S o) := fun o => ⟨Kp.put h1 rfl, ho.put h1 fun q z => by cases z⟩
            refine ⟨_, rfl, _, rfl, S, _, _, 1, rfl, rfl, h1, rfl, _, rfl, _, _, rfl, rfl, _, rfl, S, _, _, 2, rfl, rfl, upd_same, rfl, _, _, c1, k' + 1, rfl, ?_, upd_same, p1, by omega⟩
            exact ⟨(kp _).toKp.trans (Kp.put upd_same rfl), (kp _).tok.put upd_same fun q z => by cases z⟩
      · exact ⟨_, _, c, k', rfl, Ex.refl ho, h1, c0, k0⟩
    · rintro σ H1 ⟨x2, x3, c1, k1, rfl, e1, p1, p2, p3⟩
      have hd1 := Int.emod_nonneg c1 (show n ≠ 0 by omega)
      have hd2 := Int.emod_lt_of_pos c1 n0
      refine ⟨_, rfl, S, _, _, _, rfl, rfl, SqL.of p1, atI_nat (j := 1) rfl, .inl ⟨_, rfl, _, rfl, _, _, rfl, rfl, n0, ?_⟩⟩
      refine ⟨_, rfl, S, _, _, _, rfl, rfl, SqL.of p1, atI_nat (j := 1) rfl, _, rfl, _, _, rfl, rfl, ⟨n0, by omega⟩, _, rfl, S, _, _, 1, rfl, rfl, p1, rfl, _, rfl, ?_⟩
      have h2' : H1 a = some (.lst (ns.map V.int)) := e1.keep _ _ h2 (fun q z => by cases z) nS
      refine k (c1 % n) _ hd1 hd2 ⟨e1.trans ⟨Kp.put p1 rfl, e1.tok.put p1 fun q z => by cases z⟩, ⟨a, ns, c1 / n, k1, upd_same, ?_, Int.ediv_nonneg p2 (by omega), p3, nS⟩, fun a2 o1 o2 e2 => ?_⟩
      · rw [upd_ne nS]
        exact h2'
      · rw [h1] at e2
        have := (List.cons.inj (HO.lst.inj (Option.some.inj e2))).1
        rw [← V.ref.inj this]
        exact ⟨_, _, upd_same⟩
end
end LW
namespace LW
open PySem PySem.Spec PyProof.Rows L2 GxR FW GA EN SL SC

section
variable {P : Program} {w : World} {K : PySem.W.Frag} {mg : Str → Option Value} {base : Heap} {cs : List (Addr × Addr)}
theorem ok__law_pick {f : Addr} {fd : FuncData} (F : Fun K "_law_pick" "_law_pick" s__law_pick f fd) (G : Glo mg) (D1 : Df P w K mg base 1 "_law_next" P__law_next (spNext cs)) : FnOk P w K mg base CX0 2 f fd P__law_pick (spPick K cs) := by
  refine F.ok sc__law_pick (fun vs H Q E h => ?_) (fun cdv A outer s H vs Q E hr h => ?_)
  · obtain ⟨S, r, xs, rfl, _⟩ := h
    rfl
  · obtain ⟨S, r, xs, rfl, hst, ho, hx, ne, hl, k⟩ := h
    refine ⟨_, pss_one (ps_ret (pe_ix ix_seq (pv 1) (pe_df D1 hr (pa_cons (pv 0) (pa_cons (pe_callB call_len_seq (by rfl) G.len boot_len (pa_cons (pv 1) pa_nil)) pa_nil))) (fun _ _ => rfl))), ?_⟩
    have h0 : 0 < xs.length := List.length_pos_iff.mpr ne
    refine ⟨_, rfl, _, rfl, _, rfl, r, xs, rfl, hx.elim (fun h => .inl (SqL.of h.1)) .inr, S, _, rfl, hst, ho, by omega, by omega, fun d H' d0 d1 dr => ?_⟩
    obtain ⟨j, rfl⟩ := Int.eq_ofNat_of_zero_le d0
    have hj : j < xs.length := by omega
    have q := k xs[j] H' (List.getElem_mem hj) dr
    rcases hx with ⟨hx, nS⟩ | hx
    · exact .inl ⟨r, xs, _, _, rfl, rfl, SqL.of (dr.keep _ _ hx (fun q z => by cases z) nS), atI_nat (by simp [hj]), q⟩
    · exact .inr (.inl ⟨r, xs, _, _, rfl, rfl, dr.toKp.sqT hx, atI_nat (by simp [hj]), q⟩)

end
end LW
namespace LW
open PySem PySem.Spec PyProof.Rows L2 GxR FW GA EN SL SC

theorem str_app (x y : Str) : (x ++ y).cps.toList = x.cps.toList ++ y.cps.toList := by
  show (Array.append x.cps y.cps).toList = _
  simp
theorem str_len (x : Str) : x.length = x.cps.toList.length := by
  show x.cps.size = _
  simp
theorem app_len (x y : Str) : (x ++ y).length = x.length + y.length := by rw [str_len, str_app, List.length_append, ← str_len, ← str_len]
abbrev letters : Str := "abcdefghijklmnopqrstuvwxyz"
theorem letters_eq : letters.cps.toList = List.range' 97 26 := by decide +kernel
theorem letter_at {d : Int} (h0 : 0 ≤ d) (h1 : d < 26) : ∃ c, atI letters.cps.toList d = some c ∧ c = 97 + d.toNat ∧ low c = true := by
  obtain ⟨j, rfl⟩ := Int.eq_ofNat_of_zero_le h0
  have hj : j < 26 := by omega
  refine ⟨97 + j, ?_, by simp, ?_⟩
  · rw [letters_eq]
    refine atI_nat ?_
    rw [List.getElem?_range' hj]
    simp
  · unfold low
    rw [decide_eq_true (by omega), decide_eq_true (by omega)]; rfl
def wordB (s : Str) : Bool := s.cps.toList.all low
def spWord (cs : List (Addr × Addr)) : Sp := fun vs H Q _ => ∃ S lo hi, vs = [.ref S, .int lo, .int hi] ∧ StOk H S ∧ TOk cs H ∧ 0 ≤ lo ∧ lo ≤ hi ∧ hi ≤ 100 ∧
  ∀ (s : Str) H', lo ≤ (s.length : Int) → (s.length : Int) ≤ hi → wordB s = true → Dr cs S H H' → Q (.str s) H'
section
variable {P : Program} {w : World} {K : PySem.W.Frag} {mg : Str → Option Value} {base : Heap} {cs : List (Addr × Addr)}
theorem ok__law_word {f : Addr} {fd : FuncData} (F : Fun K "_law_word" "_law_word" s__law_word f fd) (G : Glo mg) (D1 : Df P w K mg base 1 "_law_next" P__law_next (spNext cs)) : FnOk P w K mg base CX0 2 f fd P__law_word (spWord cs) := by
  refine F.ok sc__law_word (fun vs H Q E h => ?_) (fun cdv A outer s H vs Q E hr h => ?_)
  · obtain ⟨S, lo, hi, rfl, _⟩ := h
    rfl
  · obtain ⟨S, lo, hi, rfl, hst, ho, l0, l1, l2, k⟩ := h
    refine ⟨_, pss_cons (ps_set (i := 3) sc__law_word.nd rfl (.inl rfl) pe_str)
      (pss_cons (ps_set (i := 4) sc__law_word.nd rfl (.inl rfl) pe_str)
      (pss_cons (ps_for PassesOwn.never rfl (pi_range1 rfl G.range (pa_cons (pe_op op_add (pv 1) (pe_df D1 hr (pa_cons (pv 0) (pa_cons (pe_op op_add (pe_op op_sub (pv 2) (pv 1)) pe_int) pa_nil)))) pa_nil)) (pg_name (i := 5) sc__law_word.nd rfl (.inl rfl))
        (pss_one (ps_set (i := 4) sc__law_word.nd rfl (.inl rfl) (pe_op op_add_str (pv 4) (pe_ix ix_str (pv 3) (pe_df D1 hr (pa_cons (pv 0) (pa_cons pe_int pa_nil))) (fun _ _ => rfl))))))
      (pss_one (ps_ret (pv 4))))), ?_⟩
    refine ⟨_, rfl, _, rfl, _, rfl, _, rfl, _, _, rfl, rfl, _, _, rfl, rfl, S, _, rfl, hst, ho, by omega, by omega, fun d H1 d0 d1 dr => ⟨_, _, rfl, rfl, _, rfl, by omega, by omega, ?_⟩⟩
    refine for_range (n := (lo + d).toNat) (fun i σ H' => ∃ (x5 : Option V) (z : Str), σ = [some (.ref S), some (.int lo), some (.int hi), some (.str letters), some (.str z), x5] ∧ Dr cs S H H' ∧ z.length = i ∧ wordB z = true)
      ⟨none, _, rfl, dr, rfl, rfl⟩ (fun i σ H' hi p => ?_) fun σ H' p => ?_
    · obtain ⟨x5, z, rfl, dr', hz, hw⟩ := p
      refine ⟨_, rfl, _, rfl, _, rfl, S, _, rfl, dr'.st, dr'.tok, by omega, by omega, fun e H2 e0 e1 dr2 => ?_⟩
      obtain ⟨c, hc, _, hl⟩ := letter_at e0 e1
      refine ⟨_, _, _, rfl, rfl, by decide, hc, _, _, rfl, rfl, ?_, ?_⟩
      · have : sizeLine = 16777216 := sizeLine_eq
        show z.length + 1 ≤ _
        omega
      · refine ⟨_, _, rfl, dr'.trans dr2, by rw [app_len, hz]; rfl, ?_⟩
        unfold wordB
        rw [str_app, List.all_append]
        unfold wordB at hw
        rw [hw]
        show (low c && true) = true
        rw [hl]; rfl
    · obtain ⟨x5, z, rfl, dr', hz, hw⟩ := p
      exact ⟨_, rfl, k z H' (by omega) (by omega) hw dr'⟩
end
end LW
namespace LW
open PySem PySem.Spec PyProof.Rows L2 GxR FW GA EN SL SC

mutual
def szT : T → Nat
  | .tup l => 1 + szL l
  | .lst l => 1 + szL l
  | .dct => 200000
  | _ => 1
def szL : List T → Nat
  | [] => 0
  | t :: l => szT t + szL l
end
theorem szT_pos (t : T) : 1 ≤ szT t := by cases t <;> simp [szT]
theorem szL_cons (t : T) (l : List T) : szL (t :: l) = szT t + szL l := by rw [szL]
theorem szL_app : ∀ a b : List T, szL (a ++ b) = szL a + szL b
  | [], b => by simp [szL]
  | t :: a, b => by rw [List.cons_append, szL_cons, szL_cons, szL_app a b]; omega
theorem szL_len : ∀ l : List T, l.length ≤ szL l
  | [] => Nat.le_refl _
  | t :: l => by
    have := szL_len l
    have := szT_pos t
    rw [szL_cons, List.length_cons]; omega
/-- pairs of values, both the same tree -/
def PairsAt (K : PySem.W.Frag) (N : Addr → Prop) (H : Hp) : List T → List V → Prop
  | [], vs => vs = []
  | t :: ts, vs => ∃ p x y r, vs = .ref p :: r ∧ SqT K H p [x, y] ∧ Den K N H t x ∧ Den K N H t y ∧ PairsAt K N H ts r
section
variable {K : PySem.W.Frag} {N : Addr → Prop} {H H' : Hp}
theorem PairsAt.kp (k : Kp N H H') : ∀ {ts : List T} {vs : List V}, PairsAt K N H ts vs → PairsAt K N H' ts vs
  | [], vs, h => h
  | t :: ts, vs, ⟨p, x, y, r, e, hp, hx, hy, hr⟩ => ⟨p, x, y, r, e, k.sqT hp, Den.kp k t x hx, Den.kp k t y hy, PairsAt.kp k hr⟩
theorem PairsAt.len : ∀ {ts : List T} {vs : List V}, PairsAt K N H ts vs → vs.length = ts.length
  | [], vs, h => by have h : vs = [] := h; subst h; rfl
  | t :: ts, vs, ⟨p, x, y, r, e, _, _, _, hr⟩ => by subst e; rw [List.length_cons, List.length_cons, PairsAt.len hr]
theorem PairsAt.app : ∀ {ts us : List T} {vs ws : List V}, PairsAt K N H ts vs → PairsAt K N H us ws → PairsAt K N H (ts ++ us) (vs ++ ws)
  | [], us, vs, ws, h, g => by have h : vs = [] := h; subst h; exact g
  | t :: ts, us, vs, ws, ⟨p, x, y, r, e, hp, hx, hy, hr⟩, g => ⟨p, x, y, r ++ ws, by rw [e]; rfl, hp, hx, hy, PairsAt.app hr g⟩
/-- the last one -/
theorem PairsAt.last : ∀ {ts : List T} {vs : List V}, PairsAt K N H ts vs → ts ≠ [] → ∃ ts' t vs' p x y, ts = ts' ++ [t] ∧ vs = vs' ++ [.ref p] ∧ PairsAt K N H ts' vs' ∧ SqT K H p [x, y] ∧ Den K N H t x ∧ Den K N H t y
  | [], _, _, n => absurd rfl n
  | [t], vs, ⟨p, x, y, r, e, hp, hx, hy, hr⟩, _ => by
    have hr : r = [] := hr
    subst hr
    exact ⟨[], t, [], p, x, y, rfl, e, rfl, hp, hx, hy⟩
  | t :: u :: ts, vs, ⟨p, x, y, r, e, hp, hx, hy, hr⟩, _ => by
    obtain ⟨ts', t', vs', p', x', y', e1, e2, h1, h2, h3, h4⟩ := PairsAt.last hr (by simp)
    exact ⟨t :: ts', t', .ref p :: vs', p', x', y', by rw [e1]; rfl, by rw [e, e2]; rfl, ⟨p, x, y, vs', rfl, hp, hx, hy, h1⟩, h2, h3, h4⟩
end
def spSameT (K : PySem.W.Frag) (cs : List (Addr × Addr)) : Sp := fun vs H Q _ => ∃ t x y N, vs = [x, y] ∧ Den K N H t x ∧ Den K N H t y ∧ szT t < 200000 ∧ TOk cs H ∧ ∀ H', Ex cs N0 H H' → Q (.bl true) H'
def isIntT : T → Bool
  | .int _ => true
  | _ => false
def spT1 (K : PySem.W.Frag) (cs : List (Addr × Addr)) (r : T → Bool) : Sp := fun vs H Q _ => ∃ v t N, vs = [v] ∧ Den K N H t v ∧ TOk cs H ∧ ∀ H', Ex cs N0 H H' → Q (.bl (r t)) H'
section
variable {P : Program} {w : World} {K : PySem.W.Frag} {mg : Str → Option Value} {base : Heap} {cs : List (Addr × Addr)}
theorem ok__law_is_integer {f : Addr} {fd : FuncData} (F : Fun K "_law_is_integer" "_law_is_integer" s__law_is_integer f fd) (G : Glo mg) : FnOk P w K mg base CX0 1 f fd P__law_is_integer (spT1 K cs isIntT) := by
  refine F.ok sc__law_is_integer (fun vs H Q E h => ?_) (fun cdv A outer s H vs Q E hr h => ?_)
  · obtain ⟨v, t, N, rfl, _⟩ := h
    rfl
  · obtain ⟨v, t, N, rfl, hd, ho, k⟩ := h
    refine ⟨_, pss_one (ps_ret (pe_and (pe_callB call_isi (by rfl) G.isinstance (by decide +kernel) (pa_cons (pv 0) (pa_cons (pe_bltn (v := .ty "int") (by rfl) G.int (by decide +kernel) rfl) pa_nil)))
      (pe_one (pe_not (pe_callB call_isi (by rfl) G.isinstance (by decide +kernel) (pa_cons (pv 0) (pa_cons (pe_bltn (v := .ty "bool") (by rfl) G.bool (by decide +kernel) rfl) pa_nil))))))), ?_⟩
    refine ⟨v, rfl, v, .ty "int", _, _, _, rfl, .ty _, hd.tyx, isiKit t "int", _, rfl, ?_⟩
    have q := k H (Ex.refl ho)
    rw [isi_int]
    have go : ∀ b : Bool, b = (!isiB t "bool") → Q (.bl b) H → tNotV (tCB (rIsi K) (tCons (tVar 0) (tCons (tC (V.ty "bool")) tNil))) (L2.start N__law_is_integer [v]) H Q := fun b e q => by
      refine ⟨v, rfl, v, .ty "bool", _, _, _, rfl, .ty _, hd.tyx, isiKit t "bool", _, rfl, ?_⟩
      rw [← e]
      exact q
    cases t with
    | int i => exact iteT (go true (by rw [isi_bool]; rfl) q)
    | bl b => exact iteT (go false (by rw [isi_bool]; rfl) q)
    | _ => exact iteF q
end
end LW
namespace LW
open PySem PySem.Spec PyProof.Rows L2 GxR FW GA EN SL SC
theorem ix_of {K : PySem.W.Frag} {a : Addr} {xs : List V} {i : Int} {v : V} {H : Hp} {Q : VK} (h : SqL K H a xs ∨ SqT K H a xs) (e : atI xs i = some v) (q : Q v H) : rIx K (.ref a) (.int i) H Q :=
  h.elim (fun h => .inl ⟨a, xs, i, v, rfl, rfl, h, e, q⟩) fun h => .inr (.inl ⟨a, xs, i, v, rfl, rfl, h, e, q⟩)
theorem den_tup {K : PySem.W.Frag} {N : Addr → Prop} {H : Hp} {l : List T} {v : V} (h : Den K N H (.tup l) v) : ∃ a xs, v = .ref a ∧ SqT K H a xs ∧ DenL K N H l xs := by unfold Den at h; exact h
theorem den_lst {K : PySem.W.Frag} {L : Addr} {H : Hp} {l : List T} {v : V} (h : Den K (N1 L) H (.lst l) v) : ∃ a xs, v = .ref a ∧ (H a = some (.lst xs) ∧ a ≠ L) ∧ DenL K (N1 L) H l xs := by
  unfold Den at h
  obtain ⟨a, xs, e, h1, h2, h3⟩ := h
  exact ⟨a, xs, e, ⟨h1, h2⟩, h3⟩
theorem kp_out0 {N : Addr → Prop} {D : Addr} {H1 H : Hp} (hn : H1 D = none) (k : Kp (N1 D) H1 H) : Kp N H1 H :=
  ⟨fun b o e q _ => k.keep b o e q (fun z => by rw [show b = D from z, hn] at e; cases e), k.tups, k.frz, k.stay⟩
theorem PairsAt.less {K : PySem.W.Frag} {N N' : Addr → Prop} {H : Hp} (k : ∀ b, N' b → N b) : ∀ {ts : List T} {vs : List V}, PairsAt K N H ts vs → PairsAt K N' H ts vs
  | [], vs, h => h
  | t :: ts, vs, ⟨p, x, y, r, e, hp, hx, hy, hr⟩ => ⟨p, x, y, r, e, hp, Den.less k t x hx, Den.less k t y hy, PairsAt.less k hr⟩
section
variable {P : Program} {w : World} {K : PySem.W.Frag} {mg : Str → Option Value} {base : Heap} {cs : List (Addr × Addr)}
theorem ok__law_sameT {f : Addr} {fd : FuncData} (F : Fun K "_law_same" "_law_same" s__law_same f fd) (G : Glo mg) (D1 : Df P w K mg base 1 "_law_is_integer" P__law_is_integer (spT1 K cs isIntT)) : FnOk P w K mg base CX0 2 f fd P__law_same (spSameT K cs) := by
  refine F.ok sc__law_same (fun vs H Q E h => ?_) (fun cdv A outer s H vs Q E hr h => ?_)
  · obtain ⟨t, x, y, N, rfl, _⟩ := h
    rfl
  · obtain ⟨t, x, y, N, rfl, hx, hy, hsz, ho, k⟩ := h
    refine ⟨_, pss_cons (ps_set (i := 2) sc__law_same.nd rfl (Or.inl rfl) (pe_lst (pa_cons (pe_tup (pa_cons (pv 0) (pa_cons (pv 1) pa_nil))) pa_nil)))
      (pss_cons (ps_for PassesOwn.never rfl (pi_range1 rfl G.range (pa_cons pe_int pa_nil)) (pg_name (i := 3) sc__law_same.nd rfl (.inl rfl))
        (pss_cons (ps_if (pt_cmpR op_eq (pe_callB call_len_seq (by rfl) G.len boot_len (pa_cons (pv 2) pa_nil)) pe_int (nomark _)) (pss_one (ps_ret pe_bl)) pss_nil)
        (pss_cons (ps_asg (pe_bm0 PySem.F.plainAttrs_list PySem.F.slot_list_pop PySem.F.type_list_pop mt_pop (pv 2)) (pg_tup rfl (pgs_cons (pg_name (i := 4) sc__law_same.nd rfl (Or.inr rfl)) (pgs_cons (pg_name (i := 5) sc__law_same.nd rfl (Or.inr rfl)) pgs_nil))))
        (pss_one (ps_if (PW.pt (pw_or (pt_val (pe_callB call_isi (by rfl) G.isinstance (by decide +kernel) (pa_cons (pv 5) (pa_cons (pe_bltn (v := .ty "tuple") (by rfl) G.tuple (by decide +kernel) rfl) pa_nil))))
            (pw_or1 (pt_val (pe_callB call_isi (by rfl) G.isinstance (by decide +kernel) (pa_cons (pv 5) (pa_cons (pe_bltn (v := .ty "list") (by rfl) G.list (by decide +kernel) rfl) pa_nil)))))))
          (pss_cons (ps_if (PW.pt (pw_or (pt_cmpR op_ne (pe_callB call_isi (by rfl) G.isinstance (by decide +kernel) (pa_cons (pv 5) (pa_cons (pe_bltn (v := .ty "tuple") (by rfl) G.tuple (by decide +kernel) rfl) pa_nil)))
                (pe_callB call_isi (by rfl) G.isinstance (by decide +kernel) (pa_cons (pv 4) (pa_cons (pe_bltn (v := .ty "tuple") (by rfl) G.tuple (by decide +kernel) rfl) pa_nil))) (nomark _))
              (pw_or1 (pt_cmpR op_ne (pe_callB call_isi (by rfl) G.isinstance (by decide +kernel) (pa_cons (pv 5) (pa_cons (pe_bltn (v := .ty "list") (by rfl) G.list (by decide +kernel) rfl) pa_nil)))
                (pe_callB call_isi (by rfl) G.isinstance (by decide +kernel) (pa_cons (pv 4) (pa_cons (pe_bltn (v := .ty "list") (by rfl) G.list (by decide +kernel) rfl) pa_nil))) (nomark _))))) pss_never pss_nil)
          (pss_cons (ps_if (pt_cmpR op_ne (pe_callB call_len_seq (by rfl) G.len boot_len (pa_cons (pv 4) pa_nil)) (pe_callB call_len_seq (by rfl) G.len boot_len (pa_cons (pv 5) pa_nil)) (nomark _)) pss_never pss_nil)
          (pss_one (ps_expr (pe_bm PySem.F.plainAttrs_list PySem.F.slot_list_extend PySem.F.type_list_extend mt_extend (pv 2) (pa_cons
            (pe_lc (own := [("at", 6)]) (g := gName 6) (tt := tYes) (te := tTup (tCons (tOp (rIx K) (tVar 4) (tVar 6)) (tCons (tOp (rIx K) (tVar 5) (tVar 6)) tNil))) rfl sc__law_same.nd (pi_range1 rfl G.range (pa_cons (pe_callB call_len_seq (by rfl) G.len boot_len (pa_cons (pv 5) pa_nil)) pa_nil))
              (blkOk_by (own := [("at", 6)]) (N := N__law_same) (sc := defScope s__law_same) (by decide +kernel))
              (fun _ _ _ _ _ => pg_name (i := 6) sc__law_same.nd rfl (Or.inl rfl)) (fun _ _ _ _ _ => pts_nil)
              (fun _ _ _ _ _ => pe_tup (pa_cons (pe_ix ix_seq (pv 4) (pv 6) (fun _ _ => rfl)) (pa_cons (pe_ix ix_seq (pv 5) (pv 6) (fun _ _ => rfl)) pa_nil)))) pa_nil))))))
          (pss_one (ps_if (pt_val (pe_callB call_isi (by rfl) G.isinstance (by decide +kernel) (pa_cons (pv 5) (pa_cons (pe_bltn (v := .ty "bool") (by rfl) G.bool (by decide +kernel) rfl) pa_nil))))
            (pss_one (ps_if (PW.pt (pw_or (pt_not (pt_val (pe_callB call_isi (by rfl) G.isinstance (by decide +kernel) (pa_cons (pv 4) (pa_cons (pe_bltn (v := .ty "bool") (by rfl) G.bool (by decide +kernel) rfl) pa_nil)))))
              (pw_or1 (pt_cmpR op_ne (pv 4) (pv 5) (nomark _))))) pss_never pss_nil))
          (pss_one (ps_if (pt_val (pe_callB call_isi (by rfl) G.isinstance (by decide +kernel) (pa_cons (pv 5) (pa_cons (pe_bltn (v := .ty "int") (by rfl) G.int (by decide +kernel) rfl) pa_nil))))
            (pss_one (ps_if (PW.pt (pw_or (pt_not (pt_val (pe_df D1 hr (pa_cons (pv 4) pa_nil))))
              (pw_or1 (pt_cmpR op_ne (pv 4) (pv 5) (nomark _))))) pss_never pss_nil))
          (pss_one (ps_if (pt_val (pe_callB call_isi (by rfl) G.isinstance (by decide +kernel) (pa_cons (pv 5) (pa_cons (pe_bltn (v := .ty "str") (by rfl) G.str (by decide +kernel) rfl) pa_nil))))
            (pss_one (ps_if (PW.pt (pw_or (pt_not (pt_val (pe_callB call_isi (by rfl) G.isinstance (by decide +kernel) (pa_cons (pv 4) (pa_cons (pe_bltn (v := .ty "str") (by rfl) G.str (by decide +kernel) rfl) pa_nil)))))
              (pw_or1 (pt_cmpR op_ne (pv 4) (pv 5) (nomark _))))) pss_never pss_nil))
            (pss_one (ps_if (pt_cmpR op_notN (pv 4) pe_non (nomark _)) pss_never pss_nil)))))))))))))
      (pss_one (ps_ret pe_bl))), ?_⟩
    refine ⟨_, rfl, _, rfl, by show 2 ≤ sizeLine; decide, fun p hp => ⟨by show 1 ≤ sizeLine; decide, fun L hL => ?_⟩⟩
    have npL : p ≠ L := fun z => by rw [← z, upd_same] at hL; cases hL
    have x1 : Ex cs N0 H (upd H p (.tup [x, y])) := Ex.new ho hp
    have x2 := x1.trans (Ex.new (o := .lst [.ref p]) x1.tok hL)
    have fr : H L = none := x1.stay _ hL
    have ax : ∀ {v : V}, Den K N H t v → Den K (N1 L) (upd (upd H p (.tup [x, y])) L (.lst [.ref p])) t v := fun {v} h => Den.kp (x2.toKp.mono fun _ z => z.elim) _ _ (Den.avoid (fun b z => .inr (by rw [show b = L from z]; exact fr)) _ _ h)
    have szl := sizeLine_eq
    refine ⟨_, rfl, by decide, by decide, for_range (n := (200000 : Int).toNat) (fun i σ H' => ∃ (x3 x4 x5 x6 : Option V) (qs : List V) (ts : List T), σ = [some x, some y, some (.ref L), x3, x4, x5, x6] ∧ Ex cs N0 H H' ∧ H' L = some (.lst qs) ∧ PairsAt K (N1 L) H' ts qs ∧ szL ts + i = szT t)
      ⟨none, none, none, none, [.ref p], [t], rfl, x2, upd_same, ⟨p, x, y, [], rfl, SqT.of (by rw [upd_ne npL]; exact upd_same), ax hx, ax hy, rfl⟩, by rw [szL_cons]; rfl⟩ (fun i σ H' hi q => ?_) fun σ H' q => ?_⟩
    · obtain ⟨x3, x4, x5, x6, qs, ts, rfl, e, h1, hp2, hs⟩ := q
      by_cases c : ts = []
      · subst c
        have hp2 : qs = [] := hp2
        subst hp2
        exact ⟨_, rfl, L, _, rfl, .inl (SqL.of h1), rfl, _, rfl, iteT (k _ e)⟩
      · obtain ⟨ts', tl, qs', p', x', y', rfl, rfl, pa, hpt, dx, dy⟩ := hp2.last c
        refine ⟨_, rfl, L, _, rfl, .inl (SqL.of h1), rfl, _, rfl, ?_⟩
        rw [decide_eq_false (show ¬ V.int ((qs' ++ [V.ref p']).length : Int) = .int 0 from fun z => by injection z with z; rw [List.length_append, List.length_singleton] at z; omega)]
        rw [szL_app, szL_cons, show szL [] = 0 from rfl] at hs
        have kL : Kp (N1 L) H' (upd H' L (.lst qs')) := Kp.put h1 rfl
        have x3 : Ex cs N0 H (upd H' L (.lst qs')) := e.putN fr h1
        have ex : Den K (N1 L) (upd H' L (.lst qs')) tl x' := Den.kp kL _ _ dx
        have ey : Den K (N1 L) (upd H' L (.lst qs')) tl y' := Den.kp kL _ _ dy
        refine iteF ⟨_, rfl, .inl ⟨rfl, _, .inl (.inl h1)⟩, L, _, .ref p', rfl, rfl, h1, by rw [List.length_append, List.length_singleton, Nat.add_sub_cancel]; simp, ?_⟩
        rw [List.dropLast_concat]
        refine ⟨p', _, rfl, kL.sqT hpt, rfl, _, _, rfl, _, _, rfl, rfl, ?_⟩
        have fin : ∀ {H5 : Hp} {u3 u4 u5 u6 : Option V}, szT tl = 1 → Ex cs N0 (upd H' L (.lst qs')) H5 → ∃ (x3 x4 x5 x6 : Option V) (qs : List V) (ts : List T), [some x, some y, some (.ref L), u3, u4, u5, u6] = [some x, some y, some (.ref L), x3, x4, x5, x6] ∧ Ex cs N0 H H5 ∧ H5 L = some (.lst qs) ∧ PairsAt K (N1 L) H5 ts qs ∧ szL ts + (i + 1) = szT t := fun {H5 u3 u4 u5 u6} e1 e5 =>
          ⟨_, _, _, _, qs', ts', rfl, x3.trans e5, e5.keep _ _ upd_same (fun q z => by cases z) id, (pa.kp kL).kp (e5.toKp.mono fun _ z => z.elim), by omega⟩
        refine ⟨_, rfl, _, .ty "tuple", _, _, _, rfl, .ty _, ey.tyx, isiKit tl "tuple", _, rfl, ?_⟩
        rw [isi_tuple]
        cases tl with
        | tup ch =>
          refine iteT ?_
          -- children
          obtain ⟨a1, xs1, rfl, hs1, hd1⟩ := den_tup (ex)
          obtain ⟨a2, xs2, rfl, hs2, hd2⟩ := den_tup (ey)
          have l1 := hd1.len
          have l2 := hd2.len
          refine ⟨_, rfl, _, .ty "tuple", _, _, _, rfl, .ty _, ey.tyx, isiKit (.tup ch) "tuple", _, rfl, _, .ty "tuple", _, _, _, rfl, .ty _, ex.tyx, isiKit (.tup ch) "tuple", rfl, _, rfl, ?_⟩
          rw [decide_eq_true rfl]
          refine iteF ⟨_, rfl, _, .ty "list", _, _, _, rfl, .ty _, ey.tyx, isiKit (.tup ch) "list", _, rfl, _, .ty "list", _, _, _, rfl, .ty _, ex.tyx, isiKit (.tup ch) "list", rfl, _, rfl, ?_⟩
          rw [decide_eq_true rfl]
          refine iteF ⟨_, rfl, a1, _, rfl, .inr hs1, _, rfl, a2, _, rfl, .inr hs2, rfl, _, rfl, ?_⟩
          rw [decide_eq_true (show V.int (xs1.length : Int) = .int (xs2.length : Int) by rw [l1, l2])]
          have hch : ch.length ≤ 200000 := by
            have := szL_len ch
            have e : szT (.tup ch) = 1 + szL ch := by rw [szT]
            omega
          refine iteF ⟨_, rfl, .inl ⟨rfl, _, .inl (.inl upd_same)⟩, _, rfl, a2, _, rfl, .inr hs2, _, rfl, by omega, by omega, fun D2 hD2 => ?_⟩
          have nLD : L ≠ D2 := fun z => by rw [← z, upd_same] at hD2; cases hD2
          have w1 : DenL K (fun b => b = L ∨ b = D2) (upd H' L (.lst qs')) ch xs1 := DenL.avoid (fun b z => z.elim .inl fun z => .inr (by rw [z]; exact hD2)) _ _ hd1
          have w2 : DenL K (fun b => b = L ∨ b = D2) (upd H' L (.lst qs')) ch xs2 := DenL.avoid (fun b z => z.elim .inl fun z => .inr (by rw [z]; exact hD2)) _ _ hd2
          refine lc_range (lo := 0) (n := (xs2.length : Int).toNat) (fun i H2 => TOk cs H2 ∧ Kp (N1 D2) (upd H' L (.lst qs')) H2 ∧ ∃ acc, H2 D2 = some (.lst acc) ∧ PairsAt K (fun b => b = L ∨ b = D2) H2 (ch.take i) acc) ⟨x3.tok.new hD2, Kp.new hD2, [], upd_same, rfl⟩ (fun i H2 hi pv => ?_) fun H2 pv => ?_
          · obtain ⟨p1, p2, acc, p3, p4⟩ := pv
            rw [Int.toNat_natCast] at hi
            have hi1 : i < xs1.length := by omega
            have hic : i < ch.length := by omega
            have k2 : Kp (fun b => b = L ∨ b = D2) (upd H' L (.lst qs')) H2 := p2.mono fun b z => .inr z
            have g1 : xs1[i]? = some xs1[i] := by simp [hi1]
            have g2 : xs2[i]? = some xs2[i] := by simp [hi]
            obtain ⟨u1, f1, f2⟩ := (DenL.kp k2 _ _ w1).get g1
            obtain ⟨u2, f3, f4⟩ := (DenL.kp k2 _ _ w2).get g2
            rw [f1] at f3
            cases f3
            have z1 : SqT K H2 a1 xs1 := k2.sqT hs1
            have z2 : SqT K H2 a2 xs2 := k2.sqT hs2
            refine ⟨rfl, ?_⟩
            unfold tYes; dsimp only
            rw [if_pos rfl]
            refine ⟨_, rfl, _, rfl, ix_of (.inr z1) (by rw [Int.zero_add]; exact atI_nat g1) ⟨_, rfl, _, rfl, ix_of (.inr z2) (by rw [Int.zero_add]; exact atI_nat g2) ⟨by show 2 ≤ sizeLine; decide, fun q hq => ?_⟩⟩⟩
            have qD : q ≠ D2 := fun z => by rw [z, p3] at hq; cases hq
            have p3' : upd H2 q (.tup [xs1[i], xs2[i]]) D2 = some (.lst acc) := by rw [upd_ne (Ne.symm qD)]; exact p3
            have la := p4.len
            rw [List.length_take] at la
            have k5 : Kp (fun b => b = L ∨ b = D2) H2 (upd H2 q (.tup [xs1[i], xs2[i]])) := Kp.new hq
            have k6 : Kp (fun b => b = L ∨ b = D2) (upd H2 q (.tup [xs1[i], xs2[i]])) (upd (upd H2 q (.tup [xs1[i], xs2[i]])) D2 (.lst (acc ++ [.ref q]))) := Kp.put p3' (.inr rfl)
            refine ⟨acc, p3', by omega, (p1.new hq).put p3' (fun q z => by cases z), (p2.trans (Kp.new hq)).trans (Kp.put p3' rfl), _, upd_same, ?_⟩
            rw [List.take_add_one, f1]
            exact ((p4.kp k5).kp k6).app ⟨q, _, _, [], rfl, SqT.of (by rw [upd_ne qD]; exact upd_same), Den.kp k6 _ _ (Den.kp k5 _ _ f2), Den.kp k6 _ _ (Den.kp k5 _ _ f4), rfl⟩
          · obtain ⟨p1, p2, acc, p3, p4⟩ := pv
            rw [Int.toNat_natCast, l2, List.take_length] at p4
            have hL2 : H2 L = some (.lst qs') := p2.keep _ _ upd_same (fun q z => by cases z) nLD
            have lq := pa.len
            have lt := szL_len ts'
            have la := p4.len
            refine ⟨L, D2, _, _, rfl, rfl, hL2, p3, by omega, ?_⟩
            have fD : H D2 = none := x3.stay _ hD2
            have x4 : Ex cs N0 H H2 := ⟨x3.toKp.trans (kp_out0 hD2 p2), p1⟩
            have k7 : Kp (N1 L) H2 (upd H2 L (.lst (qs' ++ acc))) := Kp.put hL2 rfl
            refine ⟨_, _, _, _, _, ts' ++ ch, rfl, x4.putN fr hL2, upd_same, ?_, ?_⟩
            · exact ((pa.kp kL).kp (kp_out0 (N := N1 L) hD2 p2) |>.kp k7).app ((p4.less fun b z => .inl z).kp k7)
            · rw [szL_app]
              have e : szT (.tup ch) = 1 + szL ch := by rw [szT]
              omega
        | lst ch =>
          refine iteF ⟨_, rfl, _, .ty "list", _, _, _, rfl, .ty _, ey.tyx, isiKit (.lst ch) "list", _, rfl, ?_⟩
          rw [isi_list]
          refine iteT ?_
          -- children
          obtain ⟨a1, xs1, rfl, hs1, hd1⟩ := den_lst (ex)
          obtain ⟨a2, xs2, rfl, hs2, hd2⟩ := den_lst (ey)
          have l1 := hd1.len
          have l2 := hd2.len
          refine ⟨_, rfl, _, .ty "tuple", _, _, _, rfl, .ty _, ey.tyx, isiKit (.lst ch) "tuple", _, rfl, _, .ty "tuple", _, _, _, rfl, .ty _, ex.tyx, isiKit (.lst ch) "tuple", rfl, _, rfl, ?_⟩
          rw [decide_eq_true rfl]
          refine iteF ⟨_, rfl, _, .ty "list", _, _, _, rfl, .ty _, ey.tyx, isiKit (.lst ch) "list", _, rfl, _, .ty "list", _, _, _, rfl, .ty _, ex.tyx, isiKit (.lst ch) "list", rfl, _, rfl, ?_⟩
          rw [decide_eq_true rfl]
          refine iteF ⟨_, rfl, a1, _, rfl, .inl (SqL.of hs1.1), _, rfl, a2, _, rfl, .inl (SqL.of hs2.1), rfl, _, rfl, ?_⟩
          rw [decide_eq_true (show V.int (xs1.length : Int) = .int (xs2.length : Int) by rw [l1, l2])]
          have hch : ch.length ≤ 200000 := by
            have := szL_len ch
            have e : szT (.lst ch) = 1 + szL ch := by rw [szT]
            omega
          refine iteF ⟨_, rfl, .inl ⟨rfl, _, .inl (.inl upd_same)⟩, _, rfl, a2, _, rfl, .inl (SqL.of hs2.1), _, rfl, by omega, by omega, fun D2 hD2 => ?_⟩
          have nLD : L ≠ D2 := fun z => by rw [← z, upd_same] at hD2; cases hD2
          have w1 : DenL K (fun b => b = L ∨ b = D2) (upd H' L (.lst qs')) ch xs1 := DenL.avoid (fun b z => z.elim .inl fun z => .inr (by rw [z]; exact hD2)) _ _ hd1
          have w2 : DenL K (fun b => b = L ∨ b = D2) (upd H' L (.lst qs')) ch xs2 := DenL.avoid (fun b z => z.elim .inl fun z => .inr (by rw [z]; exact hD2)) _ _ hd2
          refine lc_range (lo := 0) (n := (xs2.length : Int).toNat) (fun i H2 => TOk cs H2 ∧ Kp (N1 D2) (upd H' L (.lst qs')) H2 ∧ ∃ acc, H2 D2 = some (.lst acc) ∧ PairsAt K (fun b => b = L ∨ b = D2) H2 (ch.take i) acc) ⟨x3.tok.new hD2, Kp.new hD2, [], upd_same, rfl⟩ (fun i H2 hi pv => ?_) fun H2 pv => ?_
          · obtain ⟨p1, p2, acc, p3, p4⟩ := pv
            rw [Int.toNat_natCast] at hi
            have hi1 : i < xs1.length := by omega
            have hic : i < ch.length := by omega
            have k2 : Kp (fun b => b = L ∨ b = D2) (upd H' L (.lst qs')) H2 := p2.mono fun b z => .inr z
            have g1 : xs1[i]? = some xs1[i] := by simp [hi1]
            have g2 : xs2[i]? = some xs2[i] := by simp [hi]
            obtain ⟨u1, f1, f2⟩ := (DenL.kp k2 _ _ w1).get g1
            obtain ⟨u2, f3, f4⟩ := (DenL.kp k2 _ _ w2).get g2
            rw [f1] at f3
            cases f3
            have z1 : SqL K H2 a1 xs1 := SqL.of (k2.keep _ _ hs1.1 (fun q z => by cases z) fun z => z.elim hs1.2 fun z => by rw [z, hD2] at hs1; cases hs1.1)
            have z2 : SqL K H2 a2 xs2 := SqL.of (k2.keep _ _ hs2.1 (fun q z => by cases z) fun z => z.elim hs2.2 fun z => by rw [z, hD2] at hs2; cases hs2.1)
            refine ⟨rfl, ?_⟩
            unfold tYes; dsimp only
            rw [if_pos rfl]
            refine ⟨_, rfl, _, rfl, ix_of (.inl z1) (by rw [Int.zero_add]; exact atI_nat g1) ⟨_, rfl, _, rfl, ix_of (.inl z2) (by rw [Int.zero_add]; exact atI_nat g2) ⟨by show 2 ≤ sizeLine; decide, fun q hq => ?_⟩⟩⟩
            have qD : q ≠ D2 := fun z => by rw [z, p3] at hq; cases hq
            have p3' : upd H2 q (.tup [xs1[i], xs2[i]]) D2 = some (.lst acc) := by rw [upd_ne (Ne.symm qD)]; exact p3
            have la := p4.len
            rw [List.length_take] at la
            have k5 : Kp (fun b => b = L ∨ b = D2) H2 (upd H2 q (.tup [xs1[i], xs2[i]])) := Kp.new hq
            have k6 : Kp (fun b => b = L ∨ b = D2) (upd H2 q (.tup [xs1[i], xs2[i]])) (upd (upd H2 q (.tup [xs1[i], xs2[i]])) D2 (.lst (acc ++ [.ref q]))) := Kp.put p3' (.inr rfl)
            refine ⟨acc, p3', by omega, (p1.new hq).put p3' (fun q z => by cases z), (p2.trans (Kp.new hq)).trans (Kp.put p3' rfl), _, upd_same, ?_⟩
            rw [List.take_add_one, f1]
            exact ((p4.kp k5).kp k6).app ⟨q, _, _, [], rfl, SqT.of (by rw [upd_ne qD]; exact upd_same), Den.kp k6 _ _ (Den.kp k5 _ _ f2), Den.kp k6 _ _ (Den.kp k5 _ _ f4), rfl⟩
          · obtain ⟨p1, p2, acc, p3, p4⟩ := pv
            rw [Int.toNat_natCast, l2, List.take_length] at p4
            have hL2 : H2 L = some (.lst qs') := p2.keep _ _ upd_same (fun q z => by cases z) nLD
            have lq := pa.len
            have lt := szL_len ts'
            have la := p4.len
            refine ⟨L, D2, _, _, rfl, rfl, hL2, p3, by omega, ?_⟩
            have fD : H D2 = none := x3.stay _ hD2
            have x4 : Ex cs N0 H H2 := ⟨x3.toKp.trans (kp_out0 hD2 p2), p1⟩
            have k7 : Kp (N1 L) H2 (upd H2 L (.lst (qs' ++ acc))) := Kp.put hL2 rfl
            refine ⟨_, _, _, _, _, ts' ++ ch, rfl, x4.putN fr hL2, upd_same, ?_, ?_⟩
            · exact ((pa.kp kL).kp (kp_out0 (N := N1 L) hD2 p2) |>.kp k7).app ((p4.less fun b z => .inl z).kp k7)
            · rw [szL_app]
              have e : szT (.lst ch) = 1 + szL ch := by rw [szT]
              omega
        | non =>
          have e4 : x' = .non := ex
          have e5 : y' = .non := ey
          subst e4 e5
          refine iteF ⟨_, rfl, _, .ty "list", _, _, _, rfl, .ty _, ey.tyx, isiKit .non "list", _, rfl, ?_⟩
          rw [isi_list]
          refine iteF ⟨_, rfl, _, .ty "bool", _, _, _, rfl, .ty _, ey.tyx, isiKit .non "bool", _, rfl, ?_⟩
          rw [isi_bool]
          refine iteF ⟨_, rfl, _, .ty "int", _, _, _, rfl, .ty _, ey.tyx, isiKit .non "int", _, rfl, ?_⟩
          rw [isi_int]
          refine iteF ⟨_, rfl, _, .ty "str", _, _, _, rfl, .ty _, ey.tyx, isiKit .non "str", _, rfl, ?_⟩
          rw [isi_str]
          exact iteF ⟨_, rfl, rfl, _, rfl, iteF (fin (by simp [szT])  (Ex.refl x3.tok))⟩
        | bl b =>
          have e4 : x' = .bl b := ex
          have e5 : y' = .bl b := ey
          subst e4 e5
          refine iteF ⟨_, rfl, _, .ty "list", _, _, _, rfl, .ty _, ey.tyx, isiKit (.bl b) "list", _, rfl, ?_⟩
          rw [isi_list]
          refine iteF ⟨_, rfl, _, .ty "bool", _, _, _, rfl, .ty _, ey.tyx, isiKit (.bl b) "bool", _, rfl, ?_⟩
          rw [isi_bool]
          refine iteT ⟨_, rfl, _, .ty "bool", _, _, _, rfl, .ty _, ey.tyx, isiKit (.bl b) "bool", _, rfl, ?_⟩
          rw [isi_bool]
          refine iteF ⟨_, rfl, _, rfl, rfl, _, rfl, ?_⟩
          rw [decide_eq_true rfl]
          exact iteF (fin (by simp [szT])  (Ex.refl x3.tok))
        | int n =>
          have e4 : x' = .int n := ex
          have e5 : y' = .int n := ey
          subst e4 e5
          refine iteF ⟨_, rfl, _, .ty "list", _, _, _, rfl, .ty _, ey.tyx, isiKit (.int n) "list", _, rfl, ?_⟩
          rw [isi_list]
          refine iteF ⟨_, rfl, _, .ty "bool", _, _, _, rfl, .ty _, ey.tyx, isiKit (.int n) "bool", _, rfl, ?_⟩
          rw [isi_bool]
          refine iteF ⟨_, rfl, _, .ty "int", _, _, _, rfl, .ty _, ey.tyx, isiKit (.int n) "int", _, rfl, ?_⟩
          rw [isi_int]
          refine iteT ⟨_, rfl, .int n, .int n, _, rfl, ex, x3.tok, fun H5 e5 => ⟨_, rfl, ?_⟩⟩
          refine iteF ⟨_, rfl, _, rfl, rfl, _, rfl, ?_⟩
          rw [decide_eq_true rfl]
          exact iteF (fin (by simp [szT])  e5)
        | str s =>
          have e4 := (show x' = .str s ∧ _ from ex).1
          have e5 := (show y' = .str s ∧ _ from ey).1
          subst e4 e5
          refine iteF ⟨_, rfl, _, .ty "list", _, _, _, rfl, .ty _, ey.tyx, isiKit (.str s) "list", _, rfl, ?_⟩
          rw [isi_list]
          refine iteF ⟨_, rfl, _, .ty "bool", _, _, _, rfl, .ty _, ey.tyx, isiKit (.str s) "bool", _, rfl, ?_⟩
          rw [isi_bool]
          refine iteF ⟨_, rfl, _, .ty "int", _, _, _, rfl, .ty _, ey.tyx, isiKit (.str s) "int", _, rfl, ?_⟩
          rw [isi_int]
          refine iteF ⟨_, rfl, _, .ty "str", _, _, _, rfl, .ty _, ey.tyx, isiKit (.str s) "str", _, rfl, ?_⟩
          rw [isi_str]
          refine iteT ⟨_, rfl, _, .ty "str", _, _, _, rfl, .ty _, ex.tyx, isiKit (.str s) "str", _, rfl, ?_⟩
          rw [isi_str]
          refine iteF ⟨_, rfl, _, rfl, rfl, _, rfl, ?_⟩
          rw [decide_eq_true rfl]
          exact iteF (fin (by simp [szT])  (Ex.refl x3.tok))
        | dct =>
          have e : szT .dct = 200000 := by rw [szT]
          omega
    · obtain ⟨x3, x4, x5, x6, qs, ts, rfl, e, h1, hp2, hs⟩ := q
      have : (200000 : Int).toNat = 200000 := rfl
      omega
end
end LW
namespace LW
open PySem PySem.Spec PyProof.Rows L2 GxR FW GA EN SL SC
def sp (c : Nat) : Bool := c == 32
theorem in_low (c : Nat) : decide (c ∈ cl letters) = low c := by
  rw [show cl letters = List.range' 97 26 from letters_eq]
  unfold low
  rw [← Bool.decide_and, decide_eq_decide, List.mem_range'_1]
  omega
abbrev capitals : Str := "ABCDEFGHIJKLMNOPQRSTUVWXYZ"
theorem capitals_eq : cl capitals = List.range' 65 26 := by decide +kernel
theorem in_cap (c : Nat) : decide (c ∈ cl capitals) = cap c := by
  rw [capitals_eq]
  unfold cap
  rw [← Bool.decide_and, decide_eq_decide, List.mem_range'_1]
  omega
abbrev digits : Str := "0123456789"
theorem digits_eq : cl digits = List.range' 48 10 := by decide +kernel
theorem in_dig (c : Nat) : decide (c ∈ cl digits) = dig c := by
  rw [digits_eq]
  unfold dig
  rw [← Bool.decide_and, decide_eq_decide, List.mem_range'_1]
  omega
theorem in_sp (c : Nat) : decide (c ∈ cl " ") = sp c := by
  rw [show cl " " = [32] by decide +kernel]
  unfold sp
  by_cases h : c = 32 <;> simp [h]
abbrev signs1 : Str := "(),;:=|#"
theorem in_sg (c : Nat) : decide (c ∈ cl signs1) = sg1 c := by
  rw [show cl signs1 = [40, 41, 44, 59, 58, 61, 124, 35] by decide +kernel]
  unfold sg1
  simp only [List.mem_cons, List.not_mem_nil, or_false, Bool.decide_or, ← Bool.beq_eq_decide_eq, Bool.or_assoc, Nat.beq_eq_true_eq]
theorem skip_sp : ∀ (l : List Nat) (i : Nat), scanR i l = scanR (i + rn sp l) (l.drop (rn sp l))
  | [], i => by simp [rn]
  | c :: r, i => by
    unfold rn
    rw [List.takeWhile_cons]
    unfold sp
    by_cases h : c = 32
    · subst h
      rw [scan_sp, skip_sp r (i + 1)]
      show _ = scanR (i + (List.takeWhile sp r).length.succ) (r.drop (rn sp r))
      rw [show i + 1 + rn sp r = i + (List.takeWhile sp r).length.succ by unfold rn; omega]
    · rw [if_neg (by simpa using h)]
      rfl
theorem skip_hd (l : List Nat) {c : Nat} {r : List Nat} (h : l.drop (rn sp l) = c :: r) : c ≠ 32 := by
  induction l with
  | nil => simp [rn] at h
  | cons d l ih =>
    unfold rn at h
    rw [List.takeWhile_cons] at h
    split at h
    · exact ih h
    · rename_i q
      have e : d = c := by
        have h : d :: l = c :: r := h
        injection h
      subst e
      intro z
      exact q (by unfold sp; rw [z]; rfl)
def spRun : Sp := fun vs H Q _ => ∃ (z ls : Str) (i : Nat) (p : Nat → Bool), vs = [.str z, .int (i : Int), .str ls] ∧ z.length ≤ 8000 ∧ i ≤ z.length ∧ (∀ c, decide (c ∈ cl ls) = p c) ∧ Q (.int ((i + rn p ((cl z).drop i) : Nat) : Int)) H
section
variable {P : Program} {w : World} {K : PySem.W.Frag} {mg : Str → Option Value} {base : Heap} {cs : List (Addr × Addr)}
theorem ok__law_run {f : Addr} {fd : FuncData} (F : Fun K "_law_run" "_law_run" s__law_run f fd) (G : Glo mg) : FnOk P w K mg base CX0 1 f fd P__law_run spRun := by
  refine F.ok sc__law_run (fun vs H Q E h => ?_) (fun cdv A outer s H vs Q E hr h => ?_)
  · obtain ⟨z, ls, i, p, rfl, _⟩ := h
    rfl
  · obtain ⟨z, ls, i, p, rfl, h8, hi, hp, kk⟩ := h
    refine ⟨_, pss_cons (ps_for PassesOwn.never rfl (pi_range2 (by rfl) G.range (pa_cons (pv 1) (pa_cons (pe_callB call_len_str (by rfl) G.len boot_len (pa_cons (pv 0) pa_nil)) pa_nil))) (pg_name (i := 3) sc__law_run.nd rfl (.inl rfl))
        (pss_one (ps_if (pt_cmpR op_notIn_sign (pe_ix ix_str (pv 0) (pv 3) (fun _ _ => rfl)) (pv 2) rfl) (pss_one (ps_ret (pv 3))) pss_nil)))
      (pss_one (ps_ret (pe_callB call_len_str (by rfl) G.len boot_len (pa_cons (pv 0) pa_nil)))), ?_⟩
    refine ⟨_, rfl, _, rfl, _, rfl, sz8 h8, (i : Int), (z.length : Int), rfl, ⟨by omega, by omega, by omega, by omega⟩, for_range (lo := (i : Int)) (n := ((z.length : Int) - (i : Int)).toNat) (fun k σ H' => ∃ x3 : Option V, σ = [some (.str z), some (.int (i : Int)), some (.str ls), x3] ∧ H' = H ∧ k + rn p ((cl z).drop (i + k)) = rn p ((cl z).drop i))
      ⟨none, rfl, rfl, by simp⟩ (fun k σ H' hk q => ?_) fun σ H' q => ?_⟩
    · obtain ⟨x3, rfl, rfl, e⟩ := q
      have lt : i + k < z.length := by omega
      obtain ⟨c, hc, hd⟩ := at_cl lt
      rw [hd] at e
      unfold rn at e
      rw [List.takeWhile_cons] at e
      refine ⟨_, rfl, _, rfl, _, _, _, rfl, rfl, sz8 h8, by rw [show (i : Int) + (k : Int) = ((i + k : Nat) : Int) by omega]; exact hc, _, rfl, c, ls, rfl, rfl, _, rfl, ?_⟩
      rw [show decide (c ∈ ls.cps.toList) = p c from hp c]
      cases hpc : p c with
      | true =>
        rw [hpc, if_pos rfl] at e
        refine iteF ⟨_, rfl, rfl, ?_⟩
        unfold rn
        rw [← e, List.length_cons, show i + (k + 1) = i + k + 1 by omega]
        omega
      | false =>
        rw [hpc, if_neg Bool.false_ne_true] at e
        refine iteT ⟨_, rfl, ?_⟩
        unfold rn at kk
        rw [← e] at kk
        exact kk
    · obtain ⟨x3, rfl, rfl, e⟩ := q
      have e1 : i + ((z.length : Int) - (i : Int)).toNat = z.length := by omega
      rw [e1, show (cl z).drop z.length = [] from by rw [ln_cl, List.drop_length]] at e
      refine ⟨_, rfl, _, rfl, sz8 h8, ?_⟩
      rw [← e] at kk
      have e2 : i + (((z.length : Int) - (i : Int)).toNat + rn p []) = z.length := by rw [show rn p [] = 0 from rfl]; omega
      rw [e2] at kk
      exact kk
end
end LW
namespace LW
open PySem PySem.Spec PyProof.Rows L2 GxR FW GA EN SL SC
/-- _law_scan(text): the list of the tokens, or (column, words) -/
def spLScan (K : PySem.W.Frag) (cs : List (Addr × Addr)) : Sp := fun vs H Q _ => ∃ z : Str, vs = [.str z] ∧ z.length ≤ 8000 ∧ TOk cs H ∧
  (∀ l D xs H', scanR 0 (cl z) = .toks l → Ex cs N0 H H' → H D = none → H' D = some (.lst xs) → DenL K NT H' (l.map tokT) xs → Q (.ref D) H') ∧
  (∀ col wd p H', scanR 0 (cl z) = .prob col wd → Ex cs N0 H H' → SqT K H' p [.int (col : Int), .str wd] → Q (.ref p) H')
theorem tk_of {c : Nat} {r : List Nat} : ∀ {n m : Nat} {w : Str}, tokR c r = (if m ≤ n then Tk.bad (if w = "number" then wNum else wName) else .ok w n) → (m ≤ n → tokR c r = .bad (if w = "number" then wNum else wName)) ∧ (¬ m ≤ n → tokR c r = .ok w n) :=
  fun {n m w} h => ⟨fun g => by rw [h, if_pos g], fun g => by rw [h, if_neg g]⟩
section
variable {P : Program} {w : World} {K : PySem.W.Frag} {mg : Str → Option Value} {base : Heap} {cs : List (Addr × Addr)}
theorem ok__law_scan {f : Addr} {fd : FuncData} (F : Fun K "_law_scan" "_law_scan" s__law_scan f fd) (G : Glo mg) (D1 : Df P w K mg base 1 "_law_run" P__law_run spRun) : FnOk P w K mg base CX0 2 f fd P__law_scan (spLScan K cs) := by
  refine F.ok sc__law_scan (fun vs H Q E h => ?_) (fun cdv A outer s H vs Q E hr h => ?_)
  · obtain ⟨z, rfl, _⟩ := h
    rfl
  · obtain ⟨z, rfl, h8, ho, kQ, kP⟩ := h
    refine ⟨_, pss_cons (ps_set (i := 1) sc__law_scan.nd rfl (.inl rfl) pe_str)
      (pss_cons (ps_set (i := 2) sc__law_scan.nd rfl (.inl rfl) (pe_lst pa_nil))
      (pss_cons (ps_set (i := 3) sc__law_scan.nd rfl (.inl rfl) pe_int)
      (pss_cons (ps_for PassesOwn.never rfl (pi_range1 rfl G.range (pa_cons (pe_op op_add (pe_callB call_len_str (by rfl) G.len boot_len (pa_cons (pv 0) pa_nil)) pe_int) pa_nil)) (pg_name (i := 4) sc__law_scan.nd rfl (.inl rfl))
        (pss_cons (ps_set (i := 3) sc__law_scan.nd rfl (.inl rfl) (pe_df D1 hr (pa_cons (pv 0) (pa_cons (pv 3) (pa_cons pe_str pa_nil)))))
        (pss_cons (ps_if (pt_cmpR op_eq (pv 3) (pe_callB call_len_str (by rfl) G.len boot_len (pa_cons (pv 0) pa_nil)) (nomark _))
          (pss_cons (ps_expr (pe_bm PySem.F.plainAttrs_list PySem.F.slot_list_append PySem.F.type_list_append mt_append (pv 2) (pa_cons (pe_tup (pa_cons pe_str (pa_cons pe_str (pa_cons (pe_op op_add (pv 3) pe_int) pa_nil)))) pa_nil)))
            (pss_one (ps_ret (pv 2)))) pss_nil)
        (pss_cons (ps_set (i := 5) sc__law_scan.nd rfl (.inl rfl) (pe_ix ix_str (pv 0) (pv 3) (fun _ _ => rfl)))
        (pss_cons (ps_set (i := 6) sc__law_scan.nd rfl (.inl rfl) (pe_op op_add (pv 3) pe_int))
        (pss_cons (ps_set (i := 7) sc__law_scan.nd rfl (.inl rfl) pe_str)
        (pss_cons (ps_set (i := 8) sc__law_scan.nd rfl (.inl rfl) pe_int)
        (C8.pss_cut (ps_if (pt_cmpR op_in_sign (pv 5) (pv 1) rfl)
            (pss_cons (ps_set (i := 6) sc__law_scan.nd rfl (.inl rfl) (pe_df D1 hr (pa_cons (pv 0) (pa_cons (pv 3) (pa_cons (pv 1) pa_nil)))))
              (pss_one (ps_set (i := 7) sc__law_scan.nd rfl (.inl rfl) (pe_ifExp (pt_cmpR op_eq (pv 6) (pe_op op_add (pv 3) pe_int) (nomark _)) pe_str pe_str))))
          (pss_one (ps_if (pt_cmpR op_in_sign (pv 5) pe_str rfl)
            (pss_cons (ps_set (i := 6) sc__law_scan.nd rfl (.inl rfl) (pe_df D1 hr (pa_cons (pv 0) (pa_cons (pe_op op_add (pv 3) pe_int) (pa_cons (pv 1) pa_nil)))))
              (pss_one (ps_set (i := 7) sc__law_scan.nd rfl (.inl rfl) pe_str)))
          (pss_one (ps_if (pt_cmpR op_in_sign (pv 5) pe_str rfl)
            (pss_cons (ps_set (i := 6) sc__law_scan.nd rfl (.inl rfl) (pe_df D1 hr (pa_cons (pv 0) (pa_cons (pv 3) (pa_cons pe_str pa_nil)))))
              (pss_cons (ps_set (i := 7) sc__law_scan.nd rfl (.inl rfl) pe_str)
              (pss_one (ps_set (i := 8) sc__law_scan.nd rfl (.inl rfl) pe_int))))
          (pss_one (ps_if (pt_cmpR op_eq (pe_slice sl_str (pv 0) (po_some (pv 3)) (po_some (pe_op op_add (pv 3) pe_int))) pe_str (nomark _))
            (pss_one (ps_set (i := 6) sc__law_scan.nd rfl (.inl rfl) (pe_op op_add (pv 3) pe_int)))
          (pss_one (ps_if (pt_cmpR op_notIn_sign (pv 5) pe_str rfl)
            (pss_one (ps_ret (pe_tup (pa_cons (pe_op op_add (pv 3) pe_int) (pa_cons pe_str pa_nil))))) pss_nil)))))))))
        (pss_cons (ps_if (pt_cmpR op_ge (pe_op op_sub (pv 6) (pv 3)) (pv 8) (nomark _))
          (pss_one (ps_ret (pe_tup (pa_cons (pe_op op_add (pv 3) pe_int) (pa_cons (pe_ifExp (pt_cmpR op_eq (pv 7) pe_str (nomark _)) pe_str pe_str) pa_nil))))) pss_nil)
        (pss_cons (ps_expr (pe_bm PySem.F.plainAttrs_list PySem.F.slot_list_append PySem.F.type_list_append mt_append (pv 2) (pa_cons (pe_tup (pa_cons (pv 7) (pa_cons (pe_slice sl_str (pv 0) (po_some (pv 3)) (po_some (pv 6))) (pa_cons (pe_op op_add (pv 3) pe_int) pa_nil)))) pa_nil)))
        (pss_one (ps_set (i := 3) sc__law_scan.nd rfl (.inl rfl) (pv 6)))))))))))))
      (pss_one (ps_ret pe_non))))), ?_⟩
    have szl := sizeLine_eq
    refine ⟨Nat.zero_le _, fun D hD => ?_⟩
    have x1 : Ex cs N0 H (upd H D (.lst [])) := Ex.new ho hD
    refine ⟨_, rfl, _, rfl, sz8 h8, _, _, rfl, rfl, _, rfl, by omega, by omega, for_range (n := ((z.length : Int) + 1).toNat) (fun i σ H' => ∃ (j : Nat) (x4 x5 x6 x7 x8 : Option V) (ts : List (Str × List Nat × Nat)) (xs : List V), σ = [some (.str z), some (.str letters), some (.ref D), some (.int (j : Int)), x4, x5, x6, x7, x8] ∧ Ex cs N0 H H' ∧ H' D = some (.lst xs) ∧ DenL K NT H' (ts.map tokT) xs ∧
        i ≤ j ∧ j ≤ z.length ∧ ts.length ≤ j ∧ (scanR j ((cl z).drop j)).pre ts = scanR 0 (cl z)) ⟨0, none, none, none, none, none, [], [], rfl, x1, upd_same, DenL.nil, Nat.zero_le _, Nat.zero_le _, Nat.zero_le _, Sc.pre_nil _⟩ (fun i σ H' hi q => ?_) fun σ H' q => ?_⟩
    · obtain ⟨j, x4, x5, x6, x7, x8, ts, xs, rfl, e, hl, hd, hij, hj, ht, hs⟩ := q
      have lx := hd.len
      rw [List.length_map] at lx
      refine ⟨_, rfl, _, rfl, z, " ", j, sp, rfl, h8, hj, in_sp, ?_⟩
      have hjs := rn_le (p := sp) hj
      rw [skip_sp, List.drop_drop] at hs
      have hskip := @skip_hd ((cl z).drop j)
      rw [List.drop_drop] at hskip
      generalize hJ : j + rn sp ((cl z).drop j) = J at hs hjs hskip ⊢
      have hjJ : j ≤ J := by omega
      refine ⟨_, rfl, _, rfl, _, rfl, sz8 h8, rfl, _, rfl, ?_⟩
      by_cases c0 : J = z.length
      · subst c0
        rw [decide_eq_true rfl]
        rw [show (cl z).drop z.length = [] from by rw [ln_cl, List.drop_length], scan_nil] at hs
        refine iteT ⟨_, rfl, .inl ⟨rfl, _, .inl (.inl hl)⟩, _, rfl, _, _, rfl, rfl, by show 3 ≤ sizeLine; omega, fun p2 hp2 => ?_⟩
        have np2 : p2 ≠ D := fun q => by rw [q, hl] at hp2; cases hp2
        have hl3 : upd H' p2 (.tup [.str "end", .str "", .int ((z.length : Int) + 1)]) D = some (.lst xs) := by rw [upd_ne (Ne.symm np2)]; exact hl
        have e3 := e.trans (Ex.new (o := .tup [.str "end", .str "", .int ((z.length : Int) + 1)]) e.tok hp2)
        refine ⟨D, _, _, rfl, rfl, hl3, by omega, _, rfl, ?_⟩
        have em : ("" : Str) = tx [] := by decide +kernel
        refine kQ (ts ++ [(("end" : Str), ([] : List Nat), z.length + 1)]) D (xs ++ [.ref p2]) _ (by rw [← hs]; rfl) (e3.putN hD hl3) hD upd_same (DenL.put ?_ hl3)
        rw [List.map_append]
        refine DenL.append (hd.nt (Kp.new (N := N0) hp2)) (DenL.cons (den_tok (SqT.of (by rw [upd_same, em]; rfl)) (by decide +kernel) (Nat.zero_le _)) DenL.nil)
      · rw [decide_eq_false (show ¬ V.int (J : Int) = .int (z.length : Int) from fun q => c0 (by injection q with q; omega))]
        have lt : J < z.length := by omega
        obtain ⟨c, hc, hdr⟩ := at_cl lt
        have c32 := hskip hdr
        rw [hdr] at hs
        have hl1 := rn_le (p := low) (z := z) (i := J + 1) lt
        have hl2 := rn_le (p := dig) (z := z) (i := J + 1) lt
        generalize hR : (cl z).drop (J + 1) = r at hs hdr hl1 hl2
        have hlr : r.length = z.length - (J + 1) := by rw [← hR, List.length_drop, ← ln_cl]
        refine iteF ⟨_, rfl, _, rfl, _, _, _, rfl, rfl, sz8 h8, hc, _, rfl, _, _, rfl, rfl, ?_⟩
        refine ⟨fun σ H2 => ∃ (n m : Nat) (w : Str), σ = [some (.str z), some (.str letters), some (.ref D), some (.int (J : Int)), some (.int (0 + (i : Int))), some (.str ⟨#[c]⟩), some (.int ((J + n : Nat) : Int)), some (.str w), some (.int (m : Int))] ∧ H2 = H' ∧
          tokR c r = (if m ≤ n then Tk.bad (if w = "number" then wNum else wName) else .ok w n) ∧ 1 ≤ n ∧ J + n ≤ z.length, ?_, ?_⟩
        · have tk0 : tokR c r = tokR c r := rfl
          conv at tk0 => rhs; unfold tokR
          refine ⟨_, rfl, _, rfl, c, letters, rfl, rfl, _, rfl, ?_⟩
          rw [show decide (c ∈ letters.cps.toList) = low c from in_low c]
          refine ite2 (fun b1 => ?_) fun b1 => ?_
          · rw [if_pos b1] at tk0
            refine ⟨_, rfl, _, rfl, _, rfl, z, letters, J, low, rfl, h8, Nat.le_of_lt lt, in_low, ?_⟩
            rw [hdr, rn_cons b1]
            refine ⟨_, rfl, _, rfl, _, _, rfl, rfl, rfl, _, rfl, ?_⟩
            have nn : ∀ w : Str, w = "variable" ∨ w = "constructor" → (if w = "number" then wNum else wName) = wName := fun w h => by
              rw [if_neg]
              rcases h with h | h <;> rw [h] <;> decide +kernel
            by_cases q : 1 + rn low r = 1
            · rw [if_pos q] at tk0
              rw [decide_eq_true (show V.int ((J + (1 + rn low r) : Nat) : Int) = .int ((J : Int) + 1) by rw [q]; rfl)]
              refine iteT ⟨1 + rn low r, 9, "variable", rfl, rfl, ?_, by omega, by omega⟩
              rw [nn _ (.inl rfl), tk0]
              by_cases g : 8 < 1 + rn low r
              · rw [if_pos g, if_pos (by omega)]
              · rw [if_neg g, if_neg (by omega)]
            · rw [if_neg q] at tk0
              rw [decide_eq_false (show ¬ V.int ((J + (1 + rn low r) : Nat) : Int) = .int ((J : Int) + 1) from fun z => q (by injection z with z; omega))]
              refine iteF ⟨1 + rn low r, 9, "constructor", rfl, rfl, ?_, by omega, by omega⟩
              rw [nn _ (.inr rfl), tk0]
              by_cases g : 8 < 1 + rn low r
              · rw [if_pos g, if_pos (by omega)]
              · rw [if_neg g, if_neg (by omega)]
          rw [if_neg b1] at tk0
          refine ⟨_, rfl, c, capitals, rfl, rfl, _, rfl, ?_⟩
          rw [show decide (c ∈ capitals.cps.toList) = cap c from in_cap c]
          refine ite2 (fun b2 => ?_) fun b2 => ?_
          · rw [if_pos b2] at tk0
            refine ⟨_, rfl, _, rfl, _, _, rfl, rfl, _, rfl, z, letters, J + 1, low, rfl, h8, lt, in_low, ?_⟩
            rw [hR]
            refine ⟨1 + rn low r, 9, "generic", by rw [show J + 1 + rn low r = J + (1 + rn low r) by omega]; rfl, rfl, ?_, by omega, by omega⟩
            rw [if_neg (show ¬ ("generic" : Str) = "number" by decide +kernel), tk0]
            by_cases g : 8 < 1 + rn low r
            · rw [if_pos g, if_pos (by omega)]
            · rw [if_neg g, if_neg (by omega)]
          rw [if_neg b2] at tk0
          refine ⟨_, rfl, c, digits, rfl, rfl, _, rfl, ?_⟩
          rw [show decide (c ∈ digits.cps.toList) = dig c from in_dig c]
          refine ite2 (fun b3 => ?_) fun b3 => ?_
          · rw [if_pos b3] at tk0
            refine ⟨_, rfl, _, rfl, z, digits, J, dig, rfl, h8, Nat.le_of_lt lt, in_dig, ?_⟩
            rw [hdr, rn_cons b3]
            refine ⟨1 + rn dig r, 7, "number", rfl, rfl, ?_, by omega, by omega⟩
            rw [if_pos (show ("number" : Str) = "number" from rfl), tk0]
            by_cases g : 6 < 1 + rn dig r
            · rw [if_pos g, if_pos (by omega)]
            · rw [if_neg g, if_neg (by omega)]
          rw [if_neg b3] at tk0
          refine ⟨_, rfl, _, rfl, _, rfl, _, rfl, _, _, rfl, rfl, _, rfl, z, rfl, sz8 h8, rfl, _, rfl, ?_⟩
          rw [show (J : Int) + 2 = ((J + 2 : Nat) : Int) by omega, cut_dr _ _ _ (Nat.le_of_lt lt), hdr]
          have dd : cl ".." = [46, 46] := by decide +kernel
          by_cases q : c = 46 ∧ r.head? = some 46
          · rw [if_pos q] at tk0
            obtain ⟨q1, q2⟩ := q
            obtain ⟨r', rfl⟩ : ∃ r', r = 46 :: r' := by
              cases r with
              | nil => simp at q2
              | cons a r' => have q2 : a = 46 := by simpa using q2
                             exact ⟨r', by rw [q2]⟩
            rw [decide_eq_true (show V.str (tx ((c :: 46 :: r').take 2)) = .str ".." by rw [← tx_cl "..", dd, q1]; rfl)]
            refine iteT ⟨_, rfl, _, _, rfl, rfl, 2, 9, "sign", rfl, rfl, by rw [tk0]; rfl, by omega, ?_⟩
            rw [List.length_cons] at hlr
            omega
          · rw [if_neg q] at tk0
            rw [decide_eq_false (show ¬ V.str (tx ((c :: r).take 2)) = .str ".." from fun e2 => q (by
              injection e2 with e2
              have e2 := congrArg cl e2
              rw [cl_tx, dd] at e2
              cases r with
              | nil => simp at e2
              | cons a r' => simp at e2; exact ⟨e2.1, by rw [e2.2]; rfl⟩))]
            refine iteF ⟨_, rfl, c, signs1, rfl, rfl, _, rfl, ?_⟩
            rw [show decide (c ∈ signs1.cps.toList) = sg1 c from in_sg c]
            cases g : sg1 c with
            | false =>
              rw [g, if_neg Bool.false_ne_true] at tk0
              refine iteT ⟨_, rfl, _, _, rfl, rfl, by show 2 ≤ sizeLine; omega, fun p hp => ?_⟩
              refine kP (J + 1) wNone p _ (by rw [← hs, scan_bad c32 tk0]; rfl) (e.trans (Ex.new e.tok hp)) (SqT.of upd_same)
            | true =>
              rw [g, if_pos rfl] at tk0
              exact iteF ⟨1, 9, "sign", rfl, rfl, by rw [tk0]; rfl, by omega, by omega⟩
        · rintro σ H2 ⟨n, m, w, rfl, rfl, tk, n1, hn⟩
          obtain ⟨tb, to⟩ := tk_of tk
          refine ⟨_, rfl, _, rfl, _, _, rfl, rfl, _, rfl, _, _, rfl, rfl, _, rfl, ?_⟩
          by_cases g : m ≤ n
          · rw [decide_eq_true (show (m : Int) ≤ ((J + n : Nat) : Int) - (J : Int) by omega)]
            have tb := tb g
            refine iteT ⟨_, rfl, _, _, rfl, rfl, _, rfl, rfl, _, rfl, ?_⟩
            by_cases q : w = "number"
            · rw [decide_eq_true (congrArg V.str q)]
              rw [if_pos q] at tb
              refine iteT ⟨by show 2 ≤ sizeLine; omega, fun p hp => ?_⟩
              exact kP (J + 1) wNum p _ (by rw [← hs, scan_bad c32 tb]; rfl) (e.trans (Ex.new e.tok hp)) (SqT.of upd_same)
            · rw [decide_eq_false (fun z => q (V.str.inj z))]
              rw [if_neg q] at tb
              refine iteF ⟨by show 2 ≤ sizeLine; omega, fun p hp => ?_⟩
              exact kP (J + 1) wName p _ (by rw [← hs, scan_bad c32 tb]; rfl) (e.trans (Ex.new e.tok hp)) (SqT.of upd_same)
          · rw [decide_eq_false (show ¬ (m : Int) ≤ ((J + n : Nat) : Int) - (J : Int) by omega)]
            have to := to g
            refine iteF ⟨_, rfl, .inl ⟨rfl, _, .inl (.inl hl)⟩, _, rfl, _, rfl, _, rfl, _, rfl, _, rfl, _, rfl, z, rfl, sz8 h8, _, rfl, _, _, rfl, rfl, by show 3 ≤ sizeLine; omega, fun p2 hp2 => ?_⟩
            rw [cut_dr _ _ _ (Nat.le_of_lt lt), hdr]
            have np2 : p2 ≠ D := fun q => by rw [q, hl] at hp2; cases hp2
            have tkl : ((c :: r).take n).length = n := by rw [List.length_take, List.length_cons]; omega
            have e3 := e.trans (Ex.new (o := .tup [.str w, .str (tx ((c :: r).take n)), .int ((J : Int) + 1)]) e.tok hp2)
            have hl3 : upd H2 p2 (.tup [.str w, .str (tx ((c :: r).take n)), .int ((J : Int) + 1)]) D = some (.lst xs) := by rw [upd_ne (Ne.symm np2)]; exact hl
            refine ⟨D, _, _, rfl, rfl, hl3, by omega, _, rfl, ?_⟩
            have d3 : DenL K NT (upd H2 p2 (.tup [.str w, .str (tx ((c :: r).take n)), .int ((J : Int) + 1)])) ((ts ++ [(w, (c :: r).take n, J + 1)]).map tokT) (xs ++ [.ref p2]) := by
              rw [List.map_append]
              exact DenL.append (hd.nt (Kp.new (N := N0) hp2)) (DenL.cons (den_tok (SqT.of upd_same) (kind_len to) (by rw [tkl]; omega)) DenL.nil)
            refine ⟨J + n, _, _, _, _, _, ts ++ [(w, (c :: r).take n, J + 1)], _, rfl, e3.putN hD hl3, upd_same, d3.put hl3, by omega, hn, by rw [List.length_append, List.length_singleton]; omega, ?_⟩
            rw [← hs, scan_ok c32 to, Sc.pre_pre, ← hdr, List.drop_drop]
    · obtain ⟨j, x4, x5, x6, x7, x8, ts, xs, rfl, e, hl, hd, hij, hj, ht, hs⟩ := q
      omega
end
end LW
/-! text * int -/
namespace LW
open PySem PySem.Spec PyProof.Rows L2 GxR FW GA EN SL SC
def rp (n : Nat) (l : List Nat) : List Nat := (List.replicate n l).flatten
theorem rp_len (n : Nat) (l : List Nat) : (rp n l).length = n * l.length := by unfold rp; simp
theorem rp_mem {n : Nat} {l : List Nat} {a : Nat} (h : a ∈ rp n l) : a ∈ l := by
  unfold rp at h
  obtain ⟨b, hb, ha⟩ := List.mem_flatten.mp h
  rw [List.eq_of_mem_replicate hb] at ha
  exact ha
theorem fold_cps (a : Array Nat) : ∀ (n : Nat) (acc : Array Nat), ((List.replicate n a).foldl (· ++ ·) acc).toList = acc.toList ++ (List.replicate n a.toList).flatten
  | 0, acc => by simp
  | n + 1, acc => by
    rw [List.replicate_succ, List.foldl_cons, fold_cps a n, List.replicate_succ, List.flatten_cons, Array.toList_append, List.append_assoc]
theorem op_mul_str {X : Cx} : OpR X (binaryOp .Mult) (fun x y H Q => ∃ (z : Str) (n : Int), x = .str z ∧ y = .int n ∧ 0 ≤ n ∧ n ≤ 10000 ∧ z.length ≤ 100 ∧ Q (.str (tx (rp n.toNat (cl z)))) H) := by
  intro pins s σ H x y v u Q I rx ry h
  obtain ⟨z, n, rfl, rfl, h0, h1, hz, q⟩ := h
  obtain ⟨t, rfl⟩ := rx
  obtain ⟨t', rfl⟩ := ry
  have lim : z.length * n.toNat ≤ 100 * 10000 := Nat.mul_le_mul hz (by omega)
  have tl : Builtin.Str.tooLong (z.length * n.toNat) = false := by
    unfold Builtin.Str.tooLong
    rw [decide_eq_false]
    have := sizeLine_eq
    omega
  refine P.mul_str ?_ (fun g _ => ?_) (fun _ _ => tl) ?_
  · rw [decide_eq_false (by omega), decide_eq_false (by omega)]; rfl
  · have : (100 : Int) ≤ (2 ^ 63 - 1) / n := by
      refine (Int.le_ediv_iff_mul_le (by omega)).mpr ?_
      omega
    omega
  · by_cases g : n < 1
    · rw [if_pos g]
      have : n = 0 := by omega
      subst this
      exact ⟨by decide, .str (tx (rp 0 (cl z))), H, I.tok _, ⟨_, rfl⟩, q⟩
    · rw [if_neg g]
      by_cases g2 : (n == 1 || z.length == 0) = true
      · rw [if_pos g2]
        have e : tx (rp n.toNat (cl z)) = z := by
          have : rp n.toNat (cl z) = cl z := by
            rw [Bool.or_eq_true, beq_iff_eq, beq_iff_eq] at g2
            rcases g2 with g2 | g2
            · rw [g2]; simp [rp]
            · rw [ln_cl] at g2
              rw [List.eq_nil_of_length_eq_zero g2]; simp [rp]
          rw [this, tx_cl]
        rw [e] at q
        exact ⟨.str z, H, I.tok _, ⟨_, rfl⟩, q⟩
      · rw [if_neg g2]
        have e : (⟨(List.replicate n.toNat z.cps).foldl (· ++ ·) #[]⟩ : Str) = tx (rp n.toNat (cl z)) := by
          have : ((List.replicate n.toNat z.cps).foldl (· ++ ·) #[]).toList = rp n.toNat (cl z) := by
            rw [fold_cps]; simp [rp]
          rw [← tx_cl ⟨(List.replicate n.toNat z.cps).foldl (· ++ ·) #[]⟩]
          exact congrArg tx this
        rw [e]
        refine ⟨?_, .str (tx (rp n.toNat (cl z))), H, I.tok _, ⟨_, rfl⟩, q⟩
        have : (tx (rp n.toNat (cl z))).length = n.toNat * z.length := by rw [ln_tx, rp_len, ← ln_cl]
        rw [this, Nat.mul_comm]
        have := sizeLine_eq
        omega
end LW
namespace LW
open PySem PySem.Spec PyProof.Rows L2 GxR FW GA EN SL SC
/-- a short text in one row -/
structure PcOk (s : Str) : Prop where
  len : s.length ≤ 100
  nl : 10 ∉ cl s
  asc : ∀ c ∈ cl s, c < 1114112
def spPiece (cs : List (Addr × Addr)) : Sp := fun vs H Q _ => ∃ S, vs = [.ref S] ∧ StOk H S ∧ TOk cs H ∧ ∀ (s : Str) H', PcOk s → Dr cs S H H' → Q (.str s) H'
theorem word_ok {s : Str} (h : wordB s = true) (hl : s.length ≤ 100) : PcOk s := by
  unfold wordB at h
  refine ⟨hl, fun z => ?_, fun c hc => ?_⟩
  · have := List.all_eq_true.mp h 10 z
    exact absurd this (by decide)
  · have := List.all_eq_true.mp h c hc
    unfold low at this
    rw [Bool.and_eq_true, decide_eq_true_eq, decide_eq_true_eq] at this
    omega
def pcs1 : List Str := ["(", ")", ",", ";", ":", "=", "|", "..", "#", "#4"]
def pcs2 : List Str := [" ", " ", "..", "...", ".", "-", "_", "[", "'", "\t", "!", "~", "\\"]
theorem pcs_ok : ∀ s ∈ pcs1 ++ pcs2, PcOk s := by
  have h : ((pcs1 ++ pcs2).all fun s => decide (s.length ≤ 100) && (decide (10 ∉ cl s) && (cl s).all fun c => decide (c < 1114112))) = true := by decide +kernel
  intro s hs
  have := List.all_eq_true.mp h s hs
  rw [Bool.and_eq_true, Bool.and_eq_true, decide_eq_true_eq, decide_eq_true_eq] at this
  exact ⟨this.1, this.2.1, fun c hc => of_decide_eq_true (List.all_eq_true.mp this.2.2 c hc)⟩
theorem dg_ok {d : Int} (h0 : 0 ≤ d) (h1 : d < 10) : (Str.ofString (toString d)).length ≤ 10 ∧ 10 ∉ cl (Str.ofString (toString d)) ∧ ∀ c ∈ cl (Str.ofString (toString d)), c < 1114112 := by
  refine ⟨PySem.W.KT.len_num h0 (by omega), ?_⟩
  have : d = 0 ∨ d = 1 ∨ d = 2 ∨ d = 3 ∨ d = 4 ∨ d = 5 ∨ d = 6 ∨ d = 7 ∨ d = 8 ∨ d = 9 := by omega
  rcases this with h | h | h | h | h | h | h | h | h | h <;> rw [h] <;> decide +kernel
theorem jn_cl (ys : List Str) : cl (Txt.join "" ys) = (ys.map cl).flatten := by
  have e0 : cl "" = [] := by decide +kernel
  rw [TL.join_eq]
  have : ∀ parts : List Str, TL.joinL [] (parts.map cl) = (parts.map cl).flatten := fun parts => by
    induction parts with
    | nil => rfl
    | cons a l ih =>
      cases l with
      | nil => simp [TL.joinL]
      | cons b l =>
        show cl a ++ ([] ++ TL.joinL [] ((b :: l).map cl)) = _
        rw [ih]
        rfl
  rw [← this]
  have := TL.tl_join "" ys
  rw [show TL.tl "" = [] from e0] at this
  exact this
end LW
namespace LW
open PySem PySem.Spec PyProof.Rows L2 GxR FW GA EN SL
section
variable {K : PySem.W.Frag} {cs : List (Addr × Addr)} {S D a p : Addr} {H H1 H2 : Hp} {xs ys : List V} {t : T} {ts : List T} {v : V} {N : Addr → Prop} {o : HO}
theorem Dr.refl (h : StOk H S) (k : TOk cs H) : Dr cs S H H := Dr.of0 h (Ex.refl k)
theorem Dr.keepL (d : Dr cs S H1 H2) (e : H1 a = some (.lst xs)) (n : a ≠ S) : H2 a = some (.lst xs) := d.keep _ _ e (fun q z => by cases z) n
theorem Dr.nw (d : Dr cs S H H1) (e : H1 p = none) : Dr cs S H (upd H1 p o) := d.trans (Dr.new d.st d.tok e)
theorem Dr.e0 (d : Dr cs S H H1) (e : Ex cs N0 H1 H2) : Dr cs S H H2 := d.trans (Dr.of0 d.st e)
/-- [e for k in range(n)], each item drawn -/
theorem lc_drw {g : TG} {te : TE} {vs : List Nat} {σ : L2.St} {n : Nat} {Qd : Hp → Prop} (R : Nat → V → Prop) (hst : StOk H1 S) (tok : TOk cs H1) (hn : H1 D = none) (hl : n < sizeLine)
    (hs : ∀ (i : Nat) H', i < n → Dr cs S H1 H' → ∀ Q' : VK, (∀ v H'', R i v → Dr cs S H' H'' → Q' v H'') → g (.int (0 + (i : Int))) (wipe σ vs) H' fun σ2 H3 => wipe σ2 vs = wipe σ vs ∧ te σ2 H3 Q')
    (hd : ∀ H' xs, Dr cs S H1 H' → H' D = some (.lst xs) → xs.length = n → (∀ i v, xs[i]? = some v → R i v) → Qd H') :
    ∃ W : Nat → Nat → Hp → Prop, (∃ m, W 0 m (upd H1 D (.lst []))) ∧ ∀ i m H, W i m H →
      ((Itr 0 n).stop i H ∧ Qd H) ∨ ((Itr 0 n).go i H ∧ ∃ Nx : Hp → Prop, (∀ H', Nx H' → ∃ m', m' < m ∧ W (i + 1) m' H') ∧ ∀ x H', (Itr 0 n).yld i H x H' → g x (wipe σ vs) H' fun σ2 H2 => wipe σ2 vs = wipe σ vs ∧ tYes σ2 H2 fun b H3 =>
        if b = true then te σ2 H3 fun y H4 => ∃ acc, H4 D = some (.lst acc) ∧ acc.length < sizeLine ∧ Nx (upd H4 D (.lst (acc ++ [y]))) else Nx H3) := by
  have nS := hst.ne hn
  refine lc_range (lo := 0) (n := n) (fun i H => Dr cs S H1 H ∧ ∃ xs, H D = some (.lst xs) ∧ xs.length = i ∧ (∀ i v, xs[i]? = some v → R i v)) ⟨Dr.new hst tok hn, [], upd_same, rfl, fun i v e => by simp at e⟩ (fun i H hi p => ?_) fun H p => ?_
  · obtain ⟨p1, xs, p2, p3, p4⟩ := p
    refine hs i H hi p1 (fun y H4 => ∃ acc, H4 D = some (.lst acc) ∧ acc.length < sizeLine ∧ (Dr cs S H1 (upd H4 D (.lst (acc ++ [y]))) ∧ ∃ xs, (upd H4 D (.lst (acc ++ [y]))) D = some (.lst xs) ∧ xs.length = i + 1 ∧ (∀ i v, xs[i]? = some v → R i v))) fun v H'' r d => ?_
    have e1 := d.keepL p2 nS
    refine ⟨_, e1, by omega, (p1.trans d).put hst hn e1, _, upd_same, by rw [List.length_append, p3]; rfl, fun j u e => ?_⟩
    by_cases c : j < xs.length
    · rw [List.getElem?_append_left c] at e
      exact p4 j u e
    · rw [List.getElem?_append_right (by omega)] at e
      have : j - xs.length = 0 := by
        cases hj : j - xs.length with
        | zero => rfl
        | succ m => rw [hj] at e; simp at e
      rw [this] at e
      have e : v = u := Option.some.inj e
      rw [← e, show j = i by omega]
      exact r
  · obtain ⟨p1, xs, p2, p3, p4⟩ := p
    exact hd H xs p1 p2 p3 p4
end
end LW
namespace LW
open PySem PySem.Spec PyProof.Rows L2 GxR FW GA EN SL SC
theorem cut_mem {s : Str} {lo hi : Option Int} {a : Nat} (z : a ∈ cl (cutS s lo hi)) : a ∈ cl s := by
  unfold cutS at z
  rw [show cl ⟨((s.cps.toList.drop (HT.sIx s.length 0 lo)).take (HT.sIx s.length s.length hi - HT.sIx s.length 0 lo)).toArray⟩ = (s.cps.toList.drop (HT.sIx s.length 0 lo)).take (HT.sIx s.length s.length hi - HT.sIx s.length 0 lo) from cl_tx _] at z
  exact List.mem_of_mem_drop (List.mem_of_mem_take z)
section
variable {P : Program} {w : World} {K : PySem.W.Frag} {mg : Str → Option Value} {base : Heap} {cs : List (Addr × Addr)}
theorem ok__law_piece {f : Addr} {fd : FuncData} (F : Fun K "_law_piece" "_law_piece" s__law_piece f fd) (G : Glo mg) (D1 : Df P w K mg base 1 "_law_next" P__law_next (spNext cs)) (D2 : Df P w K mg base 2 "_law_pick" P__law_pick (spPick K cs))
    (D3 : Df P w K mg base 2 "_law_word" P__law_word (spWord cs)) : FnOk P w K mg base CX0 3 f fd P__law_piece (spPiece cs) := by
  refine F.ok sc__law_piece (fun vs H Q E h => ?_) (fun cdv A outer s H vs Q E hr h => ?_)
  · obtain ⟨S, rfl, _⟩ := h
    rfl
  · obtain ⟨S, rfl, hst, ho, k⟩ := h
    refine ⟨_, pss_cons (ps_set (i := 1) sc__law_piece.nd rfl (.inl rfl) (pe_df D1 hr (pa_cons (pv 0) (pa_cons pe_int pa_nil))))
      (pss_cons (ps_if (pt_cmpR op_eq (pv 1) pe_int (nomark _)) (pss_one (ps_ret (pe_df D3 hr (pa_cons (pv 0) (pa_cons pe_int (pa_cons pe_int pa_nil)))))) pss_nil)
      (pss_cons (ps_if (pt_cmpR op_eq (pv 1) pe_int (nomark _)) (pss_one (ps_ret (pe_df D3 hr (pa_cons (pv 0) (pa_cons pe_int (pa_cons (pe_df D2 hr (pa_cons (pv 0) (pa_cons (pe_lst (pa_cons pe_int (pa_cons pe_int (pa_cons pe_int pa_nil)))) pa_nil))) pa_nil)))))) pss_nil)
      (pss_cons (ps_if (pt_cmpR op_eq (pv 1) pe_int (nomark _)) (pss_one (ps_ret (pe_op op_add_str (pe_ix ix_str pe_str (pe_df D1 hr (pa_cons (pv 0) (pa_cons pe_int pa_nil))) (fun _ _ => rfl))
          (pe_slice sl_str (pe_df D3 hr (pa_cons (pv 0) (pa_cons pe_int (pa_cons pe_int pa_nil)))) po_none (po_some (pe_df D1 hr (pa_cons (pv 0) (pa_cons pe_int pa_nil)))))))) pss_nil)
      (pss_cons (ps_if (pt_cmpR op_eq (pv 1) pe_int (nomark _)) (pss_one (ps_ret (pe_join pe_str (pe_lc (own := [("at", 2)]) (g := gName 2) (tt := tYes) (te := tCB (fun xs H Q => ∃ i, xs = [.int i] ∧ i.natAbs.log2 < 1920 ∧ Q (.str (toString i)) H) (tCons (tCall (spNext cs) [] E0 (tCons (tVar 0) (tCons (tC (.int 10)) tNil))) tNil)) rfl sc__law_piece.nd
          (pi_range1 rfl G.range (pa_cons (pe_op op_add pe_int (pe_df D1 hr (pa_cons (pv 0) (pa_cons (pe_df D2 hr (pa_cons (pv 0) (pa_cons (pe_lst (pa_cons pe_int (pa_cons pe_int (pa_cons pe_int (pa_cons pe_int pa_nil))))) pa_nil))) pa_nil)))) pa_nil))
          (blkOk_by (own := [("at", 2)]) (N := N__law_piece) (sc := defScope s__law_piece) (by decide +kernel))
          (fun _ _ _ _ _ => pg_name (i := 2) sc__law_piece.nd rfl (Or.inl rfl)) (fun _ _ _ _ _ => pts_nil)
          (fun _ _ _ _ _ => pe_callTy call_str_int (by rfl) G.str (by decide +kernel) (pa_cons (pe_df D1 hr (pa_cons (pv 0) (pa_cons pe_int pa_nil))) pa_nil)))))) pss_nil)
      (pss_cons (ps_if (pt_cmpR op_lt (pv 1) pe_int (nomark _)) (pss_one (ps_ret (pe_df D2 hr (pa_cons (pv 0) (pa_cons (pe_lst (pa_cons pe_str (pa_cons pe_str (pa_cons pe_str (pa_cons pe_str (pa_cons pe_str (pa_cons pe_str (pa_cons pe_str (pa_cons pe_str (pa_cons pe_str (pa_cons pe_str pa_nil))))))))))) pa_nil))))) pss_nil)
      (pss_cons (ps_if (pt_cmpR op_eq (pv 1) pe_int (nomark _)) (pss_one (ps_ret (pe_op op_mul_str pe_str (pe_op op_add pe_int (pe_df D1 hr (pa_cons (pv 0) (pa_cons pe_int pa_nil))))))) pss_nil)
      (pss_one (ps_ret (pe_df D2 hr (pa_cons (pv 0) (pa_cons (pe_lst (pa_cons pe_str (pa_cons pe_str (pa_cons pe_str (pa_cons pe_str (pa_cons pe_str (pa_cons pe_str (pa_cons pe_str (pa_cons pe_str (pa_cons pe_str (pa_cons pe_str (pa_cons pe_str (pa_cons pe_str (pa_cons pe_str pa_nil)))))))))))))) pa_nil))))))))))), ?_⟩
    have szl := sizeLine_eq
    refine ⟨_, rfl, S, 9, rfl, hst, ho, by decide, by decide, fun d H1 d0 d9 dr => ?_⟩
    -- a word of one to three letters
    refine ⟨_, rfl, rfl, _, rfl, ite2 (fun _ => ?_) fun _ => ?_⟩
    · exact ⟨_, rfl, S, 1, 3, rfl, dr.st, dr.tok, by decide, by decide, by decide, fun s H2 _ l2 hw d2 => k s H2 (word_ok hw (by omega)) (dr.trans d2)⟩
    -- a longer one
    refine ⟨_, rfl, rfl, _, rfl, ite2 (fun _ => ?_) fun _ => ?_⟩
    · refine ⟨_, rfl, _, rfl, by show 3 ≤ sizeLine; omega, fun p hp => ?_⟩
      have n1 := dr.nw (o := .lst [.int 8, .int 8, .int 12]) hp
      refine ⟨S, p, _, rfl, n1.st, n1.tok, .inl ⟨upd_same, dr.st.ne hp⟩, by simp, by decide, fun v H2 hv d2 => ?_⟩
      have hv : ∃ n : Int, v = .int n ∧ 1 ≤ n ∧ n ≤ 100 := by
        simp only [List.mem_cons, List.not_mem_nil, or_false] at hv
        rcases hv with h | h | h <;> exact ⟨_, h, by decide, by decide⟩
      obtain ⟨n, rfl, g1, g2⟩ := hv
      exact ⟨S, 1, n, rfl, d2.st, d2.tok, by decide, g1, g2, fun s H3 _ l2 hw d3 => k s H3 (word_ok hw (by omega)) ((n1.trans d2).trans d3)⟩
    -- a capital letter, then letters
    refine ⟨_, rfl, rfl, _, rfl, ite2 (fun _ => ?_) fun _ => ?_⟩
    · refine ⟨_, rfl, S, 26, rfl, dr.st, dr.tok, by decide, by decide, fun e H2 e0 e1 d2 => ?_⟩
      obtain ⟨c, hc, hcp, hcq⟩ : ∃ c, atI (cl capitals) e = some c ∧ c ≠ 10 ∧ c < 1114112 := by
        obtain ⟨j, rfl⟩ := Int.eq_ofNat_of_zero_le e0
        refine ⟨65 + j, ?_, by omega, by omega⟩
        rw [capitals_eq]
        refine atI_nat ?_
        rw [List.getElem?_range' (by omega)]
        simp
      refine ⟨capitals, e, c, rfl, rfl, by decide, hc, ?_⟩
      refine ⟨_, rfl, S, 1, 8, rfl, d2.st, d2.tok, by decide, by decide, by decide, fun s H3 _ l2 hw d3 => ?_⟩
      refine ⟨_, rfl, S, 9, rfl, d3.st, d3.tok, by decide, by decide, fun g H4 g0 g1 d4 => ?_⟩
      refine ⟨_, rfl, s, rfl, by omega, ?_⟩
      have lc := cutS_length s none (some g)
      refine ⟨_, _, rfl, rfl, by show 1 + _ ≤ _; omega, k _ H4 ⟨?_, fun z => ?_, fun a z => ?_⟩ (((dr.trans d2).trans d3).trans d4)⟩
      · rw [app_len]
        show 1 + _ ≤ _
        omega
      · have z : 10 ∈ cl (⟨#[c]⟩ : Str) ++ cl (cutS s none (some g)) := by rw [← str_app]; exact z
        rcases List.mem_append.mp z with z | z
        · have z : 10 ∈ [c] := z
          exact hcp (List.mem_singleton.mp z).symm
        · exact (word_ok hw (by omega)).nl (cut_mem z)
      · have z : a ∈ cl (⟨#[c]⟩ : Str) ++ cl (cutS s none (some g)) := by rw [← str_app]; exact z
        rcases List.mem_append.mp z with z | z
        · have z : a ∈ [c] := z
          rw [List.mem_singleton.mp z]; exact hcq
        · exact (word_ok hw (by omega)).asc a (cut_mem z)
    -- a number
    refine ⟨_, rfl, rfl, _, rfl, ite2 (fun _ => ?_) fun _ => ?_⟩
    · refine ⟨⟨_, rfl⟩, _, rfl, _, rfl, by show 4 ≤ sizeLine; omega, fun p hp => ?_⟩
      have n1 := dr.nw (o := .lst [.int 2, .int 6, .int 6, .int 9]) hp
      refine ⟨S, p, _, rfl, n1.st, n1.tok, .inl ⟨upd_same, dr.st.ne hp⟩, by simp, by decide, fun v H2 hv d2 => ?_⟩
      have hv : ∃ n : Int, v = .int n ∧ 1 ≤ n ∧ n ≤ 9 := by
        simp only [List.mem_cons, List.not_mem_nil, or_false] at hv
        rcases hv with h | h | h | h <;> exact ⟨_, h, by decide, by decide⟩
      obtain ⟨n, rfl, g1, g2⟩ := hv
      refine ⟨S, n, rfl, d2.st, d2.tok, by omega, by omega, fun e H3 e0 e1 d3 => ?_⟩
      have m1 := (n1.trans d2).trans d3
      refine ⟨_, _, rfl, rfl, _, rfl, by omega, by omega, fun D hD => ?_⟩
      refine lc_drw (n := ((1 : Int) + e).toNat) (fun i v => ∃ s : Str, v = .str s ∧ s.length ≤ 10 ∧ 10 ∉ cl s ∧ ∀ c ∈ cl s, c < 1114112) m1.st m1.tok hD (by omega) (fun i H' hi d Q' z => ⟨rfl, ?_⟩) fun H4 xs d4 hxs lxs rxs => ?_
      · refine ⟨_, rfl, S, 10, rfl, d.st, d.tok, by decide, by decide, fun q H5 q0 q1 d5 => ⟨q, rfl, int_small q0 (by omega), ?_⟩⟩
        obtain ⟨a1, a2⟩ := dg_ok q0 q1
        exact z _ _ ⟨_, rfl, a1, a2⟩ d5
      · obtain ⟨ys, rfl, hy⟩ : ∃ ys : List Str, xs = ys.map V.str ∧ ∀ s ∈ ys, s.length ≤ 10 ∧ 10 ∉ cl s ∧ ∀ c ∈ cl s, c < 1114112 := by
          have all : ∀ v ∈ xs, ∃ s : Str, v = .str s ∧ s.length ≤ 10 ∧ 10 ∉ cl s ∧ ∀ c ∈ cl s, c < 1114112 := fun v hv => by
            obtain ⟨i, e⟩ := List.mem_iff_getElem?.mp hv
            exact rxs i v e
          clear rxs hxs lxs
          induction xs with
          | nil => exact ⟨[], rfl, by simp⟩
          | cons x l ih =>
            obtain ⟨s, rfl, h1, h2⟩ := all x List.mem_cons_self
            obtain ⟨ys, rfl, h3⟩ := ih fun v hv => all v (List.mem_cons_of_mem _ hv)
            refine ⟨s :: ys, rfl, fun t ht => ?_⟩
            rcases List.mem_cons.mp ht with rfl | ht
            · exact ⟨h1, h2⟩
            · exact h3 t ht
        rw [List.length_map] at lxs
        have sm : ∀ l : List Str, (∀ s ∈ l, s.length ≤ 10) → (l.map (·.length)).sum ≤ 10 * l.length := fun l => by
          induction l with
          | nil => intro _; exact Nat.le_refl _
          | cons a l ih =>
            intro h
            have h1 := h a List.mem_cons_self
            have h2 := ih fun s hs => h s (List.mem_cons_of_mem _ hs)
            simp only [List.map_cons, List.sum_cons, List.length_cons]
            omega
        have sm := sm ys fun s hs => (hy s hs).1
        have ly : ys.length ≤ 9 := by omega
        have e0 : ("" : Str).length = 0 := by decide +kernel
        refine ⟨"", D, ys, rfl, rfl, .inl (SqL.of hxs), by rw [e0]; omega, k _ H4 ⟨?_, fun z => ?_, fun a z => ?_⟩ (m1.trans d4)⟩
        · rw [ln_cl, jn_cl, List.length_flatten, List.map_map]
          have e1 : (ys.map (List.length ∘ cl)) = ys.map (·.length) := List.map_congr_left fun s _ => (ln_cl s).symm
          rw [e1]
          omega
        · rw [jn_cl] at z
          obtain ⟨l, hl, hz⟩ := List.mem_flatten.mp z
          obtain ⟨s, hs, rfl⟩ := List.mem_map.mp hl
          exact (hy s hs).2.1 hz
        · rw [jn_cl] at z
          obtain ⟨l, hl, hz⟩ := List.mem_flatten.mp z
          obtain ⟨s, hs, rfl⟩ := List.mem_map.mp hl
          exact (hy s hs).2.2 a hz
    -- a sign
    refine ⟨_, rfl, _, _, rfl, rfl, _, rfl, ite2 (fun _ => ?_) fun _ => ?_⟩
    · refine ⟨_, rfl, by show 10 ≤ sizeLine; omega, fun p hp => ?_⟩
      have n1 := dr.nw (o := .lst (pcs1.map V.str)) hp
      refine ⟨S, p, pcs1.map V.str, rfl, n1.st, n1.tok, .inl ⟨upd_same, dr.st.ne hp⟩, by simp [pcs1], by decide, fun v H2 hv d2 => ?_⟩
      obtain ⟨s, hs, rfl⟩ := List.mem_map.mp hv
      exact k s H2 (pcs_ok s (List.mem_append_left _ hs)) (n1.trans d2)
    -- blanks
    refine ⟨_, rfl, rfl, _, rfl, ite2 (fun _ => ?_) fun _ => ?_⟩
    · refine ⟨_, rfl, S, 3, rfl, dr.st, dr.tok, by decide, by decide, fun e H2 e0 e1 d2 => ?_⟩
      have sp : cl " " = [32] := by decide +kernel
      refine ⟨_, _, rfl, rfl, " ", 1 + e, rfl, rfl, by omega, by omega, by decide, k _ H2 ⟨?_, fun z => ?_, fun a z => ?_⟩ (dr.trans d2)⟩
      · rw [ln_tx, rp_len, sp]
        show _ * 1 ≤ _
        omega
      · rw [cl_tx] at z
        have := rp_mem z
        rw [sp] at this
        simp at this
      · rw [cl_tx] at z
        have := rp_mem z
        rw [sp] at this
        rw [List.mem_singleton.mp this]; decide
    · refine ⟨_, rfl, by show 13 ≤ sizeLine; omega, fun p hp => ?_⟩
      have n1 := dr.nw (o := .lst (pcs2.map V.str)) hp
      refine ⟨S, p, pcs2.map V.str, rfl, n1.st, n1.tok, .inl ⟨upd_same, dr.st.ne hp⟩, by simp [pcs2], by decide, fun v H2 hv d2 => ?_⟩
      obtain ⟨s, hs, rfl⟩ := List.mem_map.mp hv
      exact k s H2 (pcs_ok s (List.mem_append_right _ hs)) (n1.trans d2)
end
end LW
namespace LW
open PySem PySem.Spec PyProof.Rows L2 GxR FW GA EN SL SC SU SH
def okA (z : Str) : Prop := ∀ c ∈ cl z, c < 1114112
def kinds : List Str := ["variable", "constructor", "generic", "number", "sign", "end"]
theorem kind_in {c : Nat} {r : List Nat} {k : Str} {n : Nat} (h : tokR c r = .ok k n) : k ∈ kinds := by
  unfold tokR at h
  unfold kinds
  repeat (first | (split at h) | (injection h with h1 h2; subst h1; first | simp | (split <;> simp)) | (cases h))
theorem scan_toks : ∀ (m i : Nat) (l : List Nat) (ts : List (Str × List Nat × Nat)), l.length ≤ m → scanR i l = .toks ts → ts ≠ [] ∧ ∀ t ∈ ts, t.1 ∈ kinds ∧ ∀ c ∈ t.2.1, c ∈ l
  | m, i, [], ts, _, e => by
    rw [scan_nil] at e
    injection e with e
    subst e
    refine ⟨by simp, fun t ht => ?_⟩
    rw [List.mem_singleton.mp ht]
    exact ⟨by simp [kinds], by simp⟩
  | 0, i, c :: r, ts, h, e => by simp at h
  | m + 1, i, c :: r, ts, h, e => by
    simp at h
    by_cases hc : c = 32
    · subst hc
      rw [scan_sp] at e
      obtain ⟨a, b⟩ := scan_toks m (i + 1) r ts h e
      exact ⟨a, fun t ht => ⟨(b t ht).1, fun c hc => List.mem_cons_of_mem _ ((b t ht).2 c hc)⟩⟩
    · cases tk : tokR c r with
      | bad w => rw [scan_bad hc tk] at e; cases e
      | ok k n =>
        rw [scan_ok hc tk] at e
        have h1 := tok_pos tk
        have e2 : (c :: r).drop n = r.drop (n - 1) := by
          cases n with
          | zero => omega
          | succ n => rfl
        cases q : scanR (i + n) ((c :: r).drop n) with
        | prob a b => rw [q] at e; cases e
        | toks us =>
          rw [q] at e
          injection e with e
          subst e
          obtain ⟨a, b⟩ := scan_toks m (i + n) ((c :: r).drop n) us (by rw [e2, List.length_drop]; omega) q
          refine ⟨by simp, fun t ht => ?_⟩
          rcases List.mem_cons.mp ht with rfl | ht
          · exact ⟨kind_in tk, fun c hc => List.mem_of_mem_take hc⟩
          · exact ⟨(b t ht).1, fun c hc => List.mem_of_mem_drop ((b t ht).2 c hc)⟩
theorem str_ok {z : Str} (h : okA z) : PyData.strOk z = true := by
  unfold PyData.strOk
  rw [Array.all_eq_true_iff_forall_mem]
  intro c hc
  exact decide_eq_true (h c (by simpa using hc))
theorem kinds_ok : ∀ k ∈ kinds, PyData.strOk k = true := by
  have h : (kinds.all fun k => PyData.strOk k) = true := by decide +kernel
  exact fun k hk => List.all_eq_true.mp h k hk
/-- _law_scanned(text) -/
def spScanned (K : PySem.W.Frag) (cs : List (Addr × Addr)) : Sp := fun vs H Q _ => ∃ z : Str, vs = [.str z] ∧ okT z ∧ okA z ∧ TOk cs H ∧
  (∀ l D xs H', scanR 0 (cl z) = .toks l → Ex cs N0 H H' → H D = none → H' D = some (.lst xs) → DenL K NT H' (l.map tokT) xs → Q (.ref D) H') ∧
  (∀ col wd D H', scanR 0 (cl z) = .prob col wd → Ex cs N0 H H' → H D = none → H' D = some (.lst [.str "problem", .int (col : Int), .str wd]) → Q (.ref D) H')
section
variable {P : Program} {w : World} {K : PySem.W.Frag} {mg : Str → Option Value} {base : Heap} {cs : List (Addr × Addr)} {C : Addr}
theorem ok__law_scanned {f : Addr} {fd : FuncData} (F : Fun K "_law_scanned" "_law_scanned" s__law_scanned f fd) (G : Glo mg) (T : Txe P w K mg base C) (D1 : Dx P w K mg base 5 "scan" P_scan (spScan K cs C)) : FnOk P w K mg base CX0 6 f fd P__law_scanned (spScanned K cs) := by
  refine F.ok sc__law_scanned (fun vs H Q E h => ?_) (fun cdv A outer s H vs Q E hr h => ?_)
  · obtain ⟨z, rfl, _⟩ := h
    rfl
  · obtain ⟨z, rfl, hz, hA, ho, kQ, kP⟩ := h
    obtain ⟨file, fI, fdI, TT, _, _⟩ := T.ex
    refine ⟨_, pss_cons (ps_try_as (i := 2) (c := .ref C) (Wout := fun _ _ _ _ => False) rfl rfl sc__law_scanned.nd rfl rfl ⟨rfl, by decide, .inl TT.gC⟩ takes0
        (fun W pn xe tk _ => pss_one (ps_set (i := 1) sc__law_scanned.nd rfl (.inl rfl) (pe_dx D1 hr tk (pa_cons (pv 0) pa_nil))))
        (fun a oe cls d pn hz hf => pss_one (ps_ret (pe_lst (pa_cons pe_str (pa_cons (pe_xf TT.xf T.n1 hz hf (pv 2)) (pa_cons (pe_xf TT.xf T.n2 hz hf (pv 2)) pa_nil)))))))
      (pss_one (ps_ret (pe_ifExp (PW.pt (pw_and (pt_val (pe_callB call_isi (by rfl) G.isinstance (by decide +kernel) (pa_cons (pv 1) (pa_cons (pe_bltn (v := .ty "list") (by rfl) G.list (by decide +kernel) rfl) pa_nil))))
        (pw_and1 (pt_cmpR (op_eqD hr.units) (pe_slice sl_list (pv 1) po_none (po_some pe_int)) (pe_lst (pa_cons pe_str pa_nil)) (nomark _))))) (pe_lst (pa_cons pe_str pa_nil)) (pv 1)))), ?_⟩
    have szl := sizeLine_eq
    refine ⟨_, rfl, z, rfl, hz, ho, fun l D xs H1 e ex hD hl hd => ?_, fun col wd d H1 e ex hd0 hd => ?_⟩
    · obtain ⟨ne, all⟩ := scan_toks _ 0 (cl z) l (Nat.le_refl _) e
      have dl : Den K N0 H1 (.lst (l.map tokT)) (.ref D) := Den.lst_ hl id (DenL.any hd)
      refine ⟨_, rfl, _, .ty "list", _, _, _, rfl, .ty _, dl.tyx, isiKit (.lst (l.map tokT)) "list", _, rfl, ?_⟩
      rw [isi_list]
      cases l with
      | nil => exact absurd rfl ne
      | cons t l =>
        have hd' := hd
        unfold List.map DenL at hd'
        obtain ⟨x0, xr, rfl, hx0, hxr⟩ := hd'
        refine iteT ⟨_, rfl, _, rfl, D, _, rfl, SqL.of hl, fun p hp => ⟨by show 1 ≤ sizeLine; omega, fun q hq => ?_⟩⟩
        have c1 : cutV (x0 :: xr) none (some 1) = [x0] := by
          rw [show (1 : Int) = ((1 : Nat) : Int) from rfl]
          unfold cutV
          rw [HT.sIx_none, HT.sIx_nat, Nat.sub_zero, List.drop_zero, Nat.min_eq_left (by rw [List.length_cons]; omega)]
          rfl
        rw [c1] at hq ⊢
        obtain ⟨tk, tcs, ti⟩ := t
        obtain ⟨h1, h2⟩ := all (tk, tcs, ti) List.mem_cons_self
        obtain ⟨a0, ys, rfl, hS, hdy⟩ : ∃ a ys, x0 = .ref a ∧ SqT K H1 a ys ∧ DenL K NT H1 [.str tk, .str (tx tcs), .int (ti : Int)] ys := by
          have : Den K NT H1 (tokT (tk, tcs, ti)) x0 := hx0
          unfold tokT Den at this
          exact this
        have ey : ys = [.str tk, .str (tx tcs), .int (ti : Int)] := by
          unfold DenL at hdy
          obtain ⟨y1, r1, rfl, d1, hdy⟩ := hdy
          unfold DenL at hdy
          obtain ⟨y2, r2, rfl, d2, hdy⟩ := hdy
          unfold DenL at hdy
          obtain ⟨y3, r3, rfl, d3, hdy⟩ := hdy
          unfold DenL at hdy
          subst hdy
          unfold Den at d1 d2 d3
          rw [d1.1, d2.1, d3]
        subst ey
        have npq : p ≠ q := fun z => by rw [← z, upd_same] at hq; cases hq
        have e2 : Ex cs N0 H1 (upd (upd H1 p (.lst [.ref a0])) q (.lst [.str "problem"])) := (Ex.new ex.tok hp).trans (Ex.new (ex.tok.new hp) hq)
        refine ⟨.list [.tuple [.str tk, .str (tx tcs), .int (ti : Int)]], .list [.str "problem"], .lst (SqL.of (by rw [upd_ne npq, upd_same])) (.cons (.tup (e2.toKp.sqT hS) (.cons (.str _) (.cons (.str _) (.cons (.int _) .nil)))) .nil),
          .lst (SqL.of upd_same) (.cons (.str _) .nil), ?_, by decide +kernel, _, rfl, ?_⟩
        · have s1 := kinds_ok tk h1
          have s2 : PyData.strOk (tx tcs) = true := str_ok fun c hc => by
            rw [cl_tx] at hc
            exact hA c (h2 c hc)
          show (PyData.canLay0 _ && _) = true
          simp [PyData.canLay0, PyData.canLayAll0, PyData.depth, PyData.depthAll, s1, s2]
        · refine iteF ⟨_, rfl, ?_⟩
          have np : D ≠ p := fun z => by rw [← z, hl] at hp; cases hp
          have nq : D ≠ q := fun z => by rw [← z, upd_ne np, hl] at hq; cases hq
          exact kQ _ D _ _ e (ex.trans e2) hD (by rw [upd_ne nq, upd_ne np]; exact hl) (DenL.nt e2.toKp hd)
    · refine ⟨true, TT.te, fun _ a na => ?_, fun q => nomatch q⟩
      refine ⟨_, rfl, rfl, rfl, d, _, _, rfl, hd, rfl, _, rfl, rfl, rfl, d, _, _, rfl, hd, rfl, by show 3 ≤ sizeLine; omega, fun p hp => ?_⟩
      exact kP col wd p _ e (ex.trans (Ex.new ex.tok hp)) (ex.stay _ hp) upd_same
end
end LW
namespace LW
open PySem PySem.Spec PyProof.Rows L2 GxR FW GA EN SL SC SU SH
structure TxOk (m : Nat) (z : Str) : Prop where
  len : z.length ≤ m
  nl : 10 ∉ cl z
  asc : ∀ c ∈ cl z, c < 1114112
theorem cl_app (x y : Str) : cl (x ++ y) = cl x ++ cl y := str_app x y
theorem TxOk.app {m n : Nat} {x y : Str} (a : TxOk m x) (b : TxOk n y) : TxOk (m + n) (x ++ y) := by
  refine ⟨by rw [app_len]; exact Nat.add_le_add a.len b.len, fun z => ?_, fun c z => ?_⟩
  · rw [cl_app] at z
    exact (List.mem_append.mp z).elim a.nl b.nl
  · rw [cl_app] at z
    exact (List.mem_append.mp z).elim (a.asc c) (b.asc c)
theorem TxOk.mono {m n : Nat} {x : Str} (a : TxOk m x) (h : x.length ≤ n) : TxOk n x := ⟨h, a.nl, a.asc⟩
theorem TxOk.cut {m : Nat} {x : Str} {lo hi : Option Int} (a : TxOk m x) : TxOk (cutS x lo hi).length (cutS x lo hi) := ⟨Nat.le_refl _, fun z => a.nl (cut_mem z), fun c z => a.asc c (cut_mem z)⟩
theorem TxOk.of_piece {x : Str} (a : PcOk x) : TxOk 100 x := ⟨a.len, a.nl, a.asc⟩
theorem TxOk.rep {m n : Nat} {x : Str} (a : TxOk m x) : TxOk (n * x.length) (tx (rp n (cl x))) :=
  ⟨by rw [ln_tx, rp_len, ← ln_cl]; exact Nat.le_refl _, fun z => a.nl (by rw [cl_tx] at z; exact rp_mem z), fun c z => a.asc c (by rw [cl_tx] at z; exact rp_mem z)⟩
theorem cut_lens {z : Str} {g : Int} (h0 : 0 ≤ g) (h1 : g ≤ (z.length : Int)) : (cutS z none (some g)).length + (cutS z (some g) none).length = z.length := by
  obtain ⟨j, rfl⟩ := Int.eq_ofNat_of_zero_le h0
  have hj : j ≤ z.length := by omega
  have e1 : cutS z none (some (j : Int)) = tx ((cl z).take j) := by
    unfold cutS tx
    rw [HT.sIx_none, HT.sIx_nat, Nat.min_eq_left hj]
    rfl
  have e2 : cutS z (some (j : Int)) none = tx ((cl z).drop j) := by
    unfold cutS tx
    rw [HT.sIx_none, HT.sIx_nat, Nat.min_eq_left hj, List.take_of_length_le]
    rw [List.length_drop, ln_cl]
    exact Nat.le_refl _
  rw [e1, e2, ln_tx, ln_tx, List.length_take, List.length_drop, ← ln_cl]
  omega
def fills : List Str := [" ", "(", ".."]
theorem fills_ok : ∀ s ∈ fills, s.length ≤ 2 ∧ TxOk 100 s := by
  have h : (fills.all fun s => decide (s.length ≤ 2) && (decide (s.length ≤ 100) && (decide (10 ∉ cl s) && (cl s).all fun c => decide (c < 1114112)))) = true := by decide +kernel
  intro s hs
  have := List.all_eq_true.mp h s hs
  rw [Bool.and_eq_true, Bool.and_eq_true, Bool.and_eq_true, decide_eq_true_eq, decide_eq_true_eq, decide_eq_true_eq] at this
  exact ⟨this.1, this.2.1, this.2.2.1, fun c hc => of_decide_eq_true (List.all_eq_true.mp this.2.2.2 c hc)⟩
/-- the items of the list that is told -/
def chL : Sc → List T
  | .toks l => l.map tokT
  | .prob col wd => [.str "problem", .int (col : Int), .str wd]
theorem bad_len {c : Nat} {r : List Nat} {w : Str} (h : tokR c r = .bad w) : w.length ≤ 100 := by
  unfold tokR at h
  have l1 : wNone.length ≤ 100 := by decide +kernel
  have l2 : wName.length ≤ 100 := by decide +kernel
  have l3 : wNum.length ≤ 100 := by decide +kernel
  repeat (first | (split at h) | (injection h with h1; subst h1; assumption) | (cases h))
theorem prob_len : ∀ (m i : Nat) (l : List Nat) (col : Nat) (w : Str), l.length ≤ m → scanR i l = .prob col w → w.length ≤ 100
  | m, i, [], col, w, _, e => by rw [scan_nil] at e; cases e
  | 0, i, c :: r, col, w, h, e => by simp at h
  | m + 1, i, c :: r, col, w, h, e => by
    simp at h
    by_cases hc : c = 32
    · subst hc
      rw [scan_sp] at e
      exact prob_len m (i + 1) r col w h e
    · cases tk : tokR c r with
      | bad v =>
        rw [scan_bad hc tk] at e
        injection e with _ e
        subst e
        exact bad_len tk
      | ok k n =>
        rw [scan_ok hc tk] at e
        have h1 := tok_pos tk
        have e2 : (c :: r).drop n = r.drop (n - 1) := by
          cases n with
          | zero => omega
          | succ n => rfl
        cases q : scanR (i + n) ((c :: r).drop n) with
        | toks us => rw [q] at e; cases e
        | prob a b =>
          rw [q] at e
          injection e with e1 e3
          subst e3
          exact prob_len m (i + n) ((c :: r).drop n) a b (by rw [e2, List.length_drop]; omega) q
theorem sz_toks : ∀ l : List (Str × List Nat × Nat), szL (l.map tokT) = 4 * l.length
  | [] => by simp [szL]
  | t :: l => by
    rw [List.map_cons, szL_cons, sz_toks l, List.length_cons]
    have : szT (tokT t) = 4 := by simp [tokT, szT, szL]
    omega
theorem sz_ch (z : Str) (h : z.length ≤ 8000) : szT (.lst (chL (scanR 0 (cl z)))) < 200000 := by
  have n := scan_num _ 0 (cl z) (Nat.le_refl _)
  rw [← ln_cl] at n
  cases e : scanR 0 (cl z) with
  | toks l =>
    rw [e] at n
    have n : l.length ≤ z.length + 1 := n
    show szT (.lst (l.map tokT)) < _
    unfold szT
    rw [sz_toks]
    omega
  | prob c w =>
    show szT (.lst [.str "problem", .int (c : Int), .str w]) < _
    simp [szT, szL]
def spLaw (K : PySem.W.Frag) (cs : List (Addr × Addr)) : Sp := fun vs H Q _ => ∃ (a : Addr) (ns : List Int), vs = [.ref a] ∧ SqL K H a (ns.map V.int) ∧ TOk cs H ∧ ∀ H', Q (.bl true) H'
/-- _law_scanned, both ways in one -/
def spTold (K : PySem.W.Frag) (cs : List (Addr × Addr)) : Sp := fun vs H Q _ => ∃ z : Str, vs = [.str z] ∧ TxOk 8000 z ∧ TOk cs H ∧
  ∀ D xs H', Ex cs N0 H H' → H D = none → H' D = some (.lst xs) → DenL K NT H' (chL (scanR 0 (cl z))) xs → Q (.ref D) H'
theorem den_prob {K : PySem.W.Frag} {H : Hp} {z : Str} {col : Nat} {wd : Str} (e : scanR 0 (cl z) = .prob col wd) : DenL K NT H (chL (scanR 0 (cl z))) [.str "problem", .int (col : Int), .str wd] := by
  rw [e]
  exact DenL.cons (Den.str_ _ (by decide +kernel)) (DenL.cons (Den.int_ _) (DenL.cons (Den.str_ _ (Nat.le_trans (prob_len _ 0 (cl z) col wd (Nat.le_refl _) e) (by rw [sizeLine_eq]; decide))) DenL.nil))
theorem told_of {P : Program} {w : World} {K : PySem.W.Frag} {mg : Str → Option Value} {base : Heap} {cs : List (Addr × Addr)} (D : Df P w K mg base 6 "_law_scanned" P__law_scanned (spScanned K cs)) : Df P w K mg base 6 "_law_scanned" P__law_scanned (spTold K cs) := by
  obtain ⟨f, fd, F, r⟩ := D
  refine ⟨f, fd, F.imp fun vs H Q E h => ?_, r⟩
  obtain ⟨z, rfl, hz, ho, k⟩ := h
  refine ⟨z, rfl, ⟨hz.len, hz.nl⟩, hz.asc, ho, fun l D xs H' e ex hD hl hd => k D xs H' ex hD hl (by rw [e]; exact hd), fun col wd D H' e ex hD hl => k D _ H' ex hD hl (den_prob e)⟩
end LW
namespace LW
open PySem PySem.Spec PyProof.Rows L2 GxR FW GA EN SL SC SU SH
theorem ixN_nat {n k : Nat} (h : k < n) : ixN n (k : Int) = some k := by
  unfold ixN
  rw [if_pos (Int.natCast_nonneg k), if_pos (by omega), Int.toNat_natCast]
section
variable {P : Program} {w : World} {K : PySem.W.Frag} {mg : Str → Option Value} {base : Heap} {cs : List (Addr × Addr)}
theorem ok_law {f : Addr} {fd : FuncData} (F : Fun K "law" "law" s_law f fd) (G : Glo mg) (D1 : Df P w K mg base 1 "_law_stream" P__law_stream (spStream K cs)) (D2 : Df P w K mg base 1 "_law_next" P__law_next (spNext cs)) (D3 : Df P w K mg base 2 "_law_pick" P__law_pick (spPick K cs))
    (D4 : Df P w K mg base 3 "_law_piece" P__law_piece (spPiece cs)) (D5 : Df P w K mg base 2 "_law_scan" P__law_scan (spLScan K cs)) (D6 : Df P w K mg base 6 "_law_scanned" P__law_scanned (spTold K cs)) (D7 : Df P w K mg base 2 "_law_same" P__law_same (spSameT K cs)) :
    FnOk P w K mg base CX0 7 f fd P_law (spLaw K cs) := by
  refine F.ok sc_law (fun vs H Q E h => ?_) (fun cdv A outer s H vs Q E hr h => ?_)
  · obtain ⟨a, ns, rfl, _⟩ := h
    rfl
  · obtain ⟨a, ns, rfl, hS, ho, k⟩ := h
    refine ⟨_, pss_cons (ps_set (i := 1) sc_law.nd rfl (.inl rfl) (pe_df D1 hr (pa_cons (pv 0) pa_nil)))
      (pss_cons (ps_set (i := 2) sc_law.nd rfl (.inl rfl) (pe_cmpR op_eq (pe_df D2 hr (pa_cons (pv 1) (pa_cons pe_int pa_nil))) pe_int (nomark _)))
      (pss_cons (ps_set (i := 3) sc_law.nd rfl (.inl rfl) pe_str)
      (pss_cons (ps_for PassesOwn.never rfl (pi_range1 rfl G.range (pa_cons (pe_df D2 hr (pa_cons (pv 1) (pa_cons pe_int pa_nil))) pa_nil)) (pg_name (i := 4) sc_law.nd rfl (.inl rfl))
        (pss_cons (ps_set (i := 5) sc_law.nd rfl (.inl rfl) (pe_df D4 hr (pa_cons (pv 1) pa_nil)))
        (pss_one (ps_if (PW.pt (pw_or (pt_not (pt_val (pv 2))) (pw_or1 (pt_val (pe_callB call_isi (by rfl) G.isinstance (by decide +kernel) (pa_cons (pe_df D5 hr (pa_cons (pe_op op_add_str (pv 3) (pv 5)) pa_nil)) (pa_cons (pe_bltn (v := .ty "list") (by rfl) G.list (by decide +kernel) rfl) pa_nil)))))))
          (pss_one (ps_set (i := 3) sc_law.nd rfl (.inl rfl) (pe_op op_add_str (pv 3) (pv 5)))) pss_nil))))
      (C8.pss_cut (ps_if (pt_cmpR op_eq (pe_df D2 hr (pa_cons (pv 1) (pa_cons pe_int pa_nil))) pe_int (nomark _))
        (pss_cons (ps_set (i := 6) sc_law.nd rfl (.inl rfl) (pe_op op_sub pe_int (pe_callB call_len_str (by rfl) G.len boot_len (pa_cons (pv 3) pa_nil))))
        (pss_cons (ps_set (i := 3) sc_law.nd rfl (.inl rfl) (pe_op op_add_str (pv 3) (pe_op op_mul_str (pe_df D3 hr (pa_cons (pv 1) (pa_cons (pe_lst (pa_cons pe_str (pa_cons pe_str (pa_cons pe_str pa_nil)))) pa_nil))) (pe_op op_fdiv (pv 6) pe_int))))
        (pss_cons (ps_set (i := 7) sc_law.nd rfl (.inl rfl) (pe_df D2 hr (pa_cons (pv 1) (pa_cons (pe_op op_add (pe_callB call_len_str (by rfl) G.len boot_len (pa_cons (pv 3) pa_nil)) pe_int) pa_nil))))
        (pss_one (ps_set (i := 3) sc_law.nd rfl (.inl rfl) (pe_op op_add_str (pe_op op_add_str (pe_slice sl_str (pv 3) po_none (po_some (pv 7))) (pe_op op_mul_str pe_str (pe_op op_sub pe_int (pe_callB call_len_str (by rfl) G.len boot_len (pa_cons (pv 3) pa_nil)))))
          (pe_slice sl_str (pv 3) (po_some (pv 7)) po_none))))))) pss_nil)
      (pss_cons (ps_set (i := 8) sc_law.nd rfl (.inl rfl) (pe_df D5 hr (pa_cons (pv 3) pa_nil)))
      (C8.pss_cut (ps_if (pt_val (pe_callB call_isi (by rfl) G.isinstance (by decide +kernel) (pa_cons (pv 8) (pa_cons (pe_bltn (v := .ty "tuple") (by rfl) G.tuple (by decide +kernel) rfl) pa_nil))))
        (pss_one (ps_set (i := 8) sc_law.nd rfl (.inl rfl) (pe_lst (pa_cons pe_str (pa_cons (pe_ix ix_tup (pv 8) pe_int (fun _ _ => rfl)) (pa_cons (pe_ix ix_tup (pv 8) pe_int (fun _ _ => rfl)) pa_nil)))))) pss_nil)
      (pss_cons (ps_set (i := 9) sc_law.nd rfl (.inl rfl) (pe_df D6 hr (pa_cons (pv 3) pa_nil)))
      (pss_cons (ps_if (pt_not (pt_val (pe_df D7 hr (pa_cons (pv 9) (pa_cons (pv 8) pa_nil))))) (pss_one ps_never) pss_nil)
      (pss_cons (ps_expr (pe_bm PySem.F.plainAttrs_list PySem.F.slot_list_append PySem.F.type_list_append mt_append (pv 9) (pa_cons pe_str pa_nil)))
      (pss_cons (ps_asg pe_str (pg_sub (pv 9) pe_int set_list))
      (pss_one (ps_ret (pe_df D7 hr (pa_cons (pe_df D6 hr (pa_cons (pv 3) pa_nil)) (pa_cons (pv 8) pa_nil))))))))))))))), ?_⟩
    have szl := sizeLine_eq
    refine ⟨_, rfl, a, ns, rfl, hS, ho, fun S H1 ex1 _ st1 => ?_⟩
    refine ⟨_, rfl, S, 2, rfl, st1, ex1.tok, by decide, by decide, fun d0 H2 _ _ dr2 => ⟨rfl, ?_⟩⟩
    generalize hcb : decide (V.int d0 = V.int 0) = cb
    refine ⟨_, rfl, S, 61, rfl, dr2.st, dr2.tok, by decide, by decide, fun d1 H3 d10 d11 dr3 => ⟨_, rfl, by omega, by omega, ?_⟩⟩
    have e0 : cl "" = [] := by decide +kernel
    refine for_range (n := d1.toNat) (fun i σ H' => ∃ (z : Str) (x4 x5 : Option V), σ = [some (.ref a), some (.ref S), some (.bl cb), some (.str z), x4, x5, none, none, none, none] ∧ Dr cs S H3 H' ∧ TxOk (100 * i) z)
      ⟨"", none, none, rfl, Dr.refl dr3.st dr3.tok, ⟨by decide +kernel, by rw [e0]; simp, by rw [e0]; simp⟩⟩ (fun i σ H' hi q => ?_) fun σ H' q => ?_
    · obtain ⟨z, x4, x5, rfl, dr, hz⟩ := q
      refine ⟨_, rfl, S, rfl, dr.st, dr.tok, fun p H4 hp dr4 => ?_⟩
      have dr5 := dr.trans dr4
      have zp := hz.app (TxOk.of_piece hp)
      have zl := zp.len
      rw [app_len] at zl
      have hi' : i < 60 := by omega
      have zp' : TxOk (100 * (i + 1)) (z ++ p) := by rw [Nat.mul_succ]; exact zp
      have zq' : TxOk (100 * (i + 1)) z := hz.mono (Nat.le_trans hz.len (by omega))
      have pl := hp.len
      have hzl := hz.len
      have fin : ∀ {H5 : Hp} {u4 u5 : Option V}, Dr cs S H3 H5 → ∃ (z' : Str) (x4 x5 : Option V), [some (.ref a), some (.ref S), some (.bl cb), some (.str (z ++ p)), u4, u5, none, none, none, none] = [some (.ref a), some (.ref S), some (.bl cb), some (.str z'), x4, x5, none, none, none, none] ∧ Dr cs S H3 H5 ∧ TxOk (100 * (i + 1)) z' :=
        fun d => ⟨z ++ p, _, _, rfl, d, zp'⟩
      cases cb with
      | false => exact ⟨_, rfl, _, rfl, iteT ⟨_, rfl, _, rfl, _, _, rfl, rfl, by omega, fin dr5⟩⟩
      | true =>
        refine ⟨_, rfl, _, rfl, iteF ⟨_, rfl, _, rfl, _, _, rfl, rfl, by omega, z ++ p, rfl, by rw [app_len]; omega, dr5.tok, fun l D xs H5 e ex hD hl hd => ?_, fun col wd q H5 e ex hq => ?_⟩⟩
        · have dl : Den K N0 H5 (.lst (l.map tokT)) (.ref D) := Den.lst_ hl id (DenL.any hd)
          refine ⟨_, .ty "list", _, _, _, rfl, .ty _, dl.tyx, isiKit (.lst (l.map tokT)) "list", _, rfl, ?_⟩
          rw [isi_list]
          exact iteT ⟨_, rfl, _, rfl, _, _, rfl, rfl, by omega, fin (dr5.e0 ex)⟩
        · have dl : Den K NT H5 (.tup [.int (col : Int), .str wd]) (.ref q) := Den.tup_ hq (DenL.cons (Den.int_ _) (DenL.cons (Den.str_ _ (Nat.le_trans (prob_len _ 0 _ col wd (Nat.le_refl _) e) (by omega))) DenL.nil))
          refine ⟨_, .ty "list", _, _, _, rfl, .ty _, dl.tyx, isiKit (.tup [.int (col : Int), .str wd]) "list", _, rfl, ?_⟩
          rw [isi_list]
          exact iteF ⟨z, _, _, rfl, dr5.e0 ex, zq'⟩
    · obtain ⟨z, x4, x5, rfl, dr, hz⟩ := q
      have z60 : z.length ≤ 6000 := Nat.le_trans hz.len (by omega)
      refine ⟨fun σ H' => ∃ (z : Str) (x4 x5 x6 x7 : Option V), σ = [some (.ref a), some (.ref S), some (.bl cb), some (.str z), x4, x5, x6, x7, none, none] ∧ TOk cs H' ∧ TxOk 8000 z, ?_, ?_⟩
      · refine ⟨_, rfl, S, 6, rfl, dr.st, dr.tok, by decide, by decide, fun e H4 _ _ d4 => ⟨rfl, _, rfl, ite2 (fun _ => ?_) fun _ => ?_⟩⟩
        · have m4 := dr.trans d4
          refine ⟨_, rfl, _, rfl, sz8 (by omega), _, _, rfl, rfl, ?_⟩
          refine ⟨_, rfl, _, rfl, by show 3 ≤ sizeLine; omega, fun p hp => ?_⟩
          have n5 := m4.nw (o := .lst (fills.map V.str)) hp
          refine ⟨S, p, fills.map V.str, rfl, n5.st, n5.tok, .inl ⟨upd_same, m4.st.ne hp⟩, by simp [fills], by decide, fun v H5 hv d5 => ?_⟩
          obtain ⟨s, hs, rfl⟩ := List.mem_map.mp hv
          obtain ⟨s2, sx⟩ := fills_ok s hs
          have m5 := n5.trans d5
          have rb : 0 ≤ ((8000 : Int) - (z.length : Int)) / 2 ∧ ((8000 : Int) - (z.length : Int)) / 2 ≤ 4000 := by omega
          refine ⟨_, rfl, _, _, rfl, rfl, ⟨by decide, by decide⟩, s, _, rfl, rfl, rb.1, by omega, by omega, ?_⟩
          have zz := hz.app (sx.rep (n := (((8000 : Int) - (z.length : Int)) / 2).toNat))
          have ml : (((8000 : Int) - (z.length : Int)) / 2).toNat * s.length ≤ (((8000 : Int) - (z.length : Int)) / 2).toNat * 2 := Nat.mul_le_mul_left _ s2
          have tl : (tx (rp (((8000 : Int) - (z.length : Int)) / 2).toNat (cl s))).length = (((8000 : Int) - (z.length : Int)) / 2).toNat * s.length := by rw [ln_tx, rp_len, ← ln_cl]
          refine ⟨_, _, rfl, rfl, by rw [tl]; omega, ?_⟩
          have zl : (z ++ tx (rp (((8000 : Int) - (z.length : Int)) / 2).toNat (cl s))).length ≤ 8000 := by rw [app_len, tl]; omega
          generalize z ++ tx (rp (((8000 : Int) - (z.length : Int)) / 2).toNat (cl s)) = y at zz zl ⊢
          refine ⟨_, rfl, _, rfl, _, rfl, sz8 zl, _, _, rfl, rfl, S, _, rfl, m5.st, m5.tok, by omega, by omega, fun g H6 g0 g1 d6 => ?_⟩
          have cl1 := cut_lens (z := y) g0 (by omega)
          have sp32 : cl " " = [32] := by decide +kernel
          have sp1 : (" " : Str).length = 1 := by decide +kernel
          have spx : TxOk 100 " " := ⟨by rw [sp1]; decide, by rw [sp32]; decide, by rw [sp32]; decide⟩
          have tl2 : (tx (rp ((8000 : Int) - (y.length : Int)).toNat (cl " "))).length = ((8000 : Int) - (y.length : Int)).toNat := by rw [ln_tx, rp_len, sp32]; exact Nat.mul_one _
          refine ⟨_, rfl, _, rfl, _, rfl, y, rfl, sz8 zl, _, rfl, _, rfl, sz8 zl, _, _, rfl, rfl, " ", _, rfl, rfl, by omega, by omega, by rw [sp1]; decide, _, _, rfl, rfl, by rw [tl2]; omega, ?_⟩
          refine ⟨_, rfl, _, rfl, _, rfl, y, rfl, sz8 zl, _, _, rfl, rfl, by rw [app_len, tl2]; omega, ?_⟩
          exact ⟨_, _, _, _, _, rfl, (m5.trans d6).tok, (((zz.cut (lo := none) (hi := some g)).app (spx.rep (n := ((8000 : Int) - (y.length : Int)).toNat))).app (zz.cut (lo := some g) (hi := none))).mono (by rw [app_len, app_len, tl2]; omega)⟩
        · exact ⟨z, _, _, _, _, rfl, (dr.trans d4).tok, hz.mono (by omega)⟩
      · rintro σ H4 ⟨z, x4, x5, x6, x7, rfl, tok4, hz⟩
        have ssz := sz_ch z hz.len
        refine ⟨_, rfl, z, rfl, hz.len, tok4, fun l D xs H5 e ex hD hl hd => ?_, fun col wd q H5 e ex hq => ?_⟩
        all_goals refine ⟨fun σ H' => ∃ (D : Addr) (xs : List V), σ = [some (.ref a), some (.ref S), some (.bl cb), some (.str z), x4, x5, x6, x7, some (.ref D), none] ∧ TOk cs H' ∧ H' D = some (.lst xs) ∧ DenL K NT H' (chL (scanR 0 (cl z))) xs, ?_, ?_⟩
        · have dl : Den K N0 H5 (.lst (l.map tokT)) (.ref D) := Den.lst_ hl id (DenL.any hd)
          refine ⟨_, rfl, _, .ty "tuple", _, _, _, rfl, .ty _, dl.tyx, isiKit (.lst (l.map tokT)) "tuple", _, rfl, ?_⟩
          rw [isi_tuple]
          exact iteF ⟨D, xs, rfl, ex.tok, hl, by rw [e]; exact hd⟩
        · rintro σ H6 ⟨D, xs, rfl, tok6, hl6, hd6⟩
          refine ⟨_, rfl, z, rfl, hz, tok6, fun D2 xs2 H7 ex7 hD2 hl2 hd2 => ?_⟩
          have nD : D ≠ D2 := fun q => by rw [q, hD2] at hl6; cases hl6
          have hl7 : H7 D = some (.lst xs) := ex7.keep _ _ hl6 (fun q z => by cases z) id
          have hd7 := DenL.nt ex7.toKp hd6
          refine ⟨_, rfl, _, rfl, .lst (chL (scanR 0 (cl z))), _, _, N0, rfl, Den.lst_ hl2 id hd2.any, Den.lst_ hl7 id hd7.any, ssz, ex7.tok, fun H8 ex8 => ⟨_, rfl, iteF ?_⟩⟩
          have hl8 : H8 D2 = some (.lst xs2) := ex8.keep _ _ hl2 (fun q z => by cases z) id
          have hl8D : H8 D = some (.lst xs) := ex8.keep _ _ hl7 (fun q z => by cases z) id
          have hd8 := DenL.nt ex8.toKp hd7
          have len2 := hd2.len
          have lsz := szL_len (chL (scanR 0 (cl z)))
          have es : szT (.lst (chL (scanR 0 (cl z)))) = 1 + szL (chL (scanR 0 (cl z))) := by rw [szT]
          refine ⟨_, rfl, .inl ⟨rfl, _, .inl (.inl hl8)⟩, D2, _, _, rfl, rfl, hl8, by omega, ?_⟩
          refine ⟨_, rfl, D2, _, _, 0, rfl, rfl, upd_same, ixN_nat (k := 0) (by rw [List.length_append, List.length_singleton]; omega), ?_⟩
          have tok9 := (ex8.tok.put (o := .lst (xs2 ++ [.str "more"])) hl8 (fun q z => by cases z)).put (o := .lst ((xs2 ++ [V.str "more"]).set 0 (.str "other"))) upd_same (fun q z => by cases z)
          have hl9 : upd (upd H8 D2 (.lst (xs2 ++ [.str "more"]))) D2 (.lst ((xs2 ++ [V.str "more"]).set 0 (.str "other"))) D = some (.lst xs) := by rw [upd_ne nD, upd_ne nD]; exact hl8D
          have hd9 := (hd8.put (o := .lst (xs2 ++ [.str "more"])) hl8).put (o := .lst ((xs2 ++ [V.str "more"]).set 0 (.str "other"))) upd_same
          refine ⟨_, rfl, z, rfl, hz, tok9, fun D3 xs3 H10 ex10 hD3 hl3 hd3 => ?_⟩
          have hl10 : H10 D = some (.lst xs) := ex10.keep _ _ hl9 (fun q z => by cases z) id
          exact ⟨_, rfl, .lst (chL (scanR 0 (cl z))), _, _, N0, rfl, Den.lst_ hl3 id hd3.any, Den.lst_ hl10 id (DenL.nt ex10.toKp hd9).any, ssz, ex10.tok, fun H11 _ => k H11⟩
        · have dl : Den K NT H5 (.tup [.int (col : Int), .str wd]) (.ref q) := Den.tup_ hq (DenL.cons (Den.int_ _) (DenL.cons (Den.str_ _ (Nat.le_trans (prob_len _ 0 _ col wd (Nat.le_refl _) e) (by omega))) DenL.nil))
          refine ⟨_, rfl, _, .ty "tuple", _, _, _, rfl, .ty _, dl.tyx, isiKit (.tup [.int (col : Int), .str wd]) "tuple", _, rfl, ?_⟩
          rw [isi_tuple]
          refine iteT ⟨_, rfl, q, _, _, _, rfl, rfl, hq, atI_nat (j := 0) rfl, _, rfl, q, _, _, _, rfl, rfl, hq, atI_nat (j := 1) rfl, by show 3 ≤ sizeLine; omega, fun p hp => ?_⟩
          exact ⟨p, _, rfl, ex.tok.new hp, upd_same, den_prob e⟩
        · rintro σ H6 ⟨D, xs, rfl, tok6, hl6, hd6⟩
          refine ⟨_, rfl, z, rfl, hz, tok6, fun D2 xs2 H7 ex7 hD2 hl2 hd2 => ?_⟩
          have nD : D ≠ D2 := fun q => by rw [q, hD2] at hl6; cases hl6
          have hl7 : H7 D = some (.lst xs) := ex7.keep _ _ hl6 (fun q z => by cases z) id
          have hd7 := DenL.nt ex7.toKp hd6
          refine ⟨_, rfl, _, rfl, .lst (chL (scanR 0 (cl z))), _, _, N0, rfl, Den.lst_ hl2 id hd2.any, Den.lst_ hl7 id hd7.any, ssz, ex7.tok, fun H8 ex8 => ⟨_, rfl, iteF ?_⟩⟩
          have hl8 : H8 D2 = some (.lst xs2) := ex8.keep _ _ hl2 (fun q z => by cases z) id
          have hl8D : H8 D = some (.lst xs) := ex8.keep _ _ hl7 (fun q z => by cases z) id
          have hd8 := DenL.nt ex8.toKp hd7
          have len2 := hd2.len
          have lsz := szL_len (chL (scanR 0 (cl z)))
          have es : szT (.lst (chL (scanR 0 (cl z)))) = 1 + szL (chL (scanR 0 (cl z))) := by rw [szT]
          refine ⟨_, rfl, .inl ⟨rfl, _, .inl (.inl hl8)⟩, D2, _, _, rfl, rfl, hl8, by omega, ?_⟩
          refine ⟨_, rfl, D2, _, _, 0, rfl, rfl, upd_same, ixN_nat (k := 0) (by rw [List.length_append, List.length_singleton]; omega), ?_⟩
          have tok9 := (ex8.tok.put (o := .lst (xs2 ++ [.str "more"])) hl8 (fun q z => by cases z)).put (o := .lst ((xs2 ++ [V.str "more"]).set 0 (.str "other"))) upd_same (fun q z => by cases z)
          have hl9 : upd (upd H8 D2 (.lst (xs2 ++ [.str "more"]))) D2 (.lst ((xs2 ++ [V.str "more"]).set 0 (.str "other"))) D = some (.lst xs) := by rw [upd_ne nD, upd_ne nD]; exact hl8D
          have hd9 := (hd8.put (o := .lst (xs2 ++ [.str "more"])) hl8).put (o := .lst ((xs2 ++ [V.str "more"]).set 0 (.str "other"))) upd_same
          refine ⟨_, rfl, z, rfl, hz, tok9, fun D3 xs3 H10 ex10 hD3 hl3 hd3 => ?_⟩
          have hl10 : H10 D = some (.lst xs) := ex10.keep _ _ hl9 (fun q z => by cases z) id
          exact ⟨_, rfl, .lst (chL (scanR 0 (cl z))), _, _, N0, rfl, Den.lst_ hl3 id hd3.any, Den.lst_ hl10 id (DenL.nt ex10.toKp hd9).any, ssz, ex10.tok, fun H11 _ => k H11⟩
end
end LW
namespace LW
open PySem PySem.Spec PyProof.Rows L2 GxR FW GA EN SL SC SU SH

def d_is_text : He.DefD := ⟨("is_text", none), "is_text", "is_text", defArgs s_is_text, defBody s_is_text, defScope s_is_text, [], []⟩
def d_is_small : He.DefD := ⟨("is_small", none), "is_small", "is_small", defArgs s_is_small, defBody s_is_small, defScope s_is_small, [], []⟩
def d_is_capital : He.DefD := ⟨("is_capital", none), "is_capital", "is_capital", defArgs s_is_capital, defBody s_is_capital, defScope s_is_capital, [], []⟩
def d_is_digit : He.DefD := ⟨("is_digit", none), "is_digit", "is_digit", defArgs s_is_digit, defBody s_is_digit, defScope s_is_digit, [], []⟩
def d_scan : He.DefD := ⟨("scan", none), "scan", "scan", defArgs s_scan, defBody s_scan, defScope s_scan, [], []⟩
def d_token_at : He.DefD := ⟨("token_at", none), "token_at", "token_at", defArgs s_token_at, defBody s_token_at, defScope s_token_at, [], []⟩
def d_end_of_run : He.DefD := ⟨("end_of_run", none), "end_of_run", "end_of_run", defArgs s_end_of_run, defBody s_end_of_run, defScope s_end_of_run, [], []⟩
def d_wanted_name : He.DefD := ⟨("wanted_name", none), "wanted_name", "wanted_name", defArgs s_wanted_name, defBody s_wanted_name, defScope s_wanted_name, [], []⟩
def d_wanted_number : He.DefD := ⟨("wanted_number", none), "wanted_number", "wanted_number", defArgs s_wanted_number, defBody s_wanted_number, defScope s_wanted_number, [], []⟩
def d__law_stream : He.DefD := ⟨("_law_stream", none), "_law_stream", "_law_stream", defArgs s__law_stream, defBody s__law_stream, defScope s__law_stream, [], []⟩
def d__law_next : He.DefD := ⟨("_law_next", none), "_law_next", "_law_next", defArgs s__law_next, defBody s__law_next, defScope s__law_next, [], []⟩
def d__law_pick : He.DefD := ⟨("_law_pick", none), "_law_pick", "_law_pick", defArgs s__law_pick, defBody s__law_pick, defScope s__law_pick, [], []⟩
def d__law_is_integer : He.DefD := ⟨("_law_is_integer", none), "_law_is_integer", "_law_is_integer", defArgs s__law_is_integer, defBody s__law_is_integer, defScope s__law_is_integer, [], []⟩
def d__law_same : He.DefD := ⟨("_law_same", none), "_law_same", "_law_same", defArgs s__law_same, defBody s__law_same, defScope s__law_same, [], []⟩
def d__law_word : He.DefD := ⟨("_law_word", none), "_law_word", "_law_word", defArgs s__law_word, defBody s__law_word, defScope s__law_word, [], []⟩
def d__law_run : He.DefD := ⟨("_law_run", none), "_law_run", "_law_run", defArgs s__law_run, defBody s__law_run, defScope s__law_run, [], []⟩
def d__law_scan : He.DefD := ⟨("_law_scan", none), "_law_scan", "_law_scan", defArgs s__law_scan, defBody s__law_scan, defScope s__law_scan, [], []⟩
def d__law_piece : He.DefD := ⟨("_law_piece", none), "_law_piece", "_law_piece", defArgs s__law_piece, defBody s__law_piece, defScope s__law_piece, [], []⟩
def d__law_scanned : He.DefD := ⟨("_law_scanned", none), "_law_scanned", "_law_scanned", defArgs s__law_scanned, defBody s__law_scanned, defScope s__law_scanned, [], []⟩
def d_law : He.DefD := ⟨("law", none), "law", "law", defArgs s_law, defBody s_law, defScope s_law, [], []⟩
def fnL : List He.DefD := [d_is_text, d_is_small, d_is_capital, d_is_digit, d_scan, d_token_at, d_end_of_run, d_wanted_name, d_wanted_number, d__law_stream, d__law_next, d__law_pick, d__law_is_integer, d__law_same, d__law_word, d__law_run, d__law_scan, d__law_piece, d__law_scanned, d_law]
def faL : List He.Fa := [.glo "is_text", .glo "is_small", .glo "is_capital", .glo "is_digit", .glo "scan", .glo "token_at", .glo "end_of_run", .glo "wanted_name", .glo "wanted_number", .glo "_law_stream", .glo "_law_next", .glo "_law_pick", .glo "_law_is_integer", .glo "_law_same", .glo "_law_word", .glo "_law_run", .glo "_law_scan", .glo "_law_piece", .glo "_law_scanned", .glo "law", .free "abs", .free "bool", .free "int", .free "isinstance", .free "len", .free "list", .free "range", .free "str", .free "tuple", .free "super", .int "MOST_CHARACTERS" 8000, .int "MOST_DIGITS" 6, .int "MOST_LETTERS" 8, .glo "TextError", .glo "SIGNS", .noat "TextError" "column", .noat "TextError" "words"]
def tfL : List He.Defn := []
def sdL : List SDef := [dTE]
def fileL : Str := PySem.Challenge.pw_closestfit_k85_whole_tokens_of_texts.main.file
def sgD : List He.Dv := [.str "(", .str ")", .str ",", .str ";", .str ":", .str "=", .str "|", .str "..", .str "#"]
def exL (K : PySem.W.Frag) : Bool := exS fileL sdL K && He.tupB K "SIGNS" sgD
theorem toFun {K : PySem.W.Frag} {x q : Str} {st : Stmt} {f : Addr} {fd : FuncData} (F : FunD K x q (defArgs st) (defBody st) (defScope st) [] [] f fd) : Fun K x q st f fd := by
  obtain ⟨oc, od, dV, kV, doc, pm, an, cdv, ct, osl, rfl, lk, hcd, hD, _⟩ := F.ex
  rcases hD with ⟨_, rfl⟩ | ⟨z, _⟩
  · exact ⟨⟨oc, od, kV, doc, pm, an, cdv, ct, osl, rfl, lk, hcd⟩, F.kp⟩
  · exact absurd rfl z
theorem all_defs {P : Program} {w : World} {K : PySem.W.Frag} {h : Heap} {mg : Str → Option Value} {f : Addr} (X : K.In h) (G0 : h.Ns mainGlobals mg) (c : SaysS faL fnL tfL exL sdL w h K) (hfa : mg ("law" : Str) = some (.ref f))
    (hfile : ((P.main.file : Str) == fileL) = true) (htop : (P.main.scope.names.lookup ("super" : Str)).isSome = false) :
    ∃ fd : FuncData, (∀ (s : Shared) (u : Value), BindsTo s fd ⟨[u], []⟩ [("script", u)]) ∧ ∀ base : Heap, (∀ p ∈ tfL.map (He.cT K), TabB base mg p.1 p.2) → FnOk P w K mg base CX0 7 f fd ["script"] (spLaw K (tfL.map (He.cT K))) := by
  obtain ⟨fd_is_text, F_is_text⟩ := c.x.t.d.def_ 0 (d := d_is_text) rfl
  obtain ⟨fd_is_small, F_is_small⟩ := c.x.t.d.def_ 1 (d := d_is_small) rfl
  obtain ⟨fd_is_capital, F_is_capital⟩ := c.x.t.d.def_ 2 (d := d_is_capital) rfl
  obtain ⟨fd_is_digit, F_is_digit⟩ := c.x.t.d.def_ 3 (d := d_is_digit) rfl
  obtain ⟨fd_scan, F_scan⟩ := c.x.t.d.def_ 4 (d := d_scan) rfl
  obtain ⟨fd_token_at, F_token_at⟩ := c.x.t.d.def_ 5 (d := d_token_at) rfl
  obtain ⟨fd_end_of_run, F_end_of_run⟩ := c.x.t.d.def_ 6 (d := d_end_of_run) rfl
  obtain ⟨fd_wanted_name, F_wanted_name⟩ := c.x.t.d.def_ 7 (d := d_wanted_name) rfl
  obtain ⟨fd_wanted_number, F_wanted_number⟩ := c.x.t.d.def_ 8 (d := d_wanted_number) rfl
  obtain ⟨fd__law_stream, F__law_stream⟩ := c.x.t.d.def_ 9 (d := d__law_stream) rfl
  obtain ⟨fd__law_next, F__law_next⟩ := c.x.t.d.def_ 10 (d := d__law_next) rfl
  obtain ⟨fd__law_pick, F__law_pick⟩ := c.x.t.d.def_ 11 (d := d__law_pick) rfl
  obtain ⟨fd__law_is_integer, F__law_is_integer⟩ := c.x.t.d.def_ 12 (d := d__law_is_integer) rfl
  obtain ⟨fd__law_same, F__law_same⟩ := c.x.t.d.def_ 13 (d := d__law_same) rfl
  obtain ⟨fd__law_word, F__law_word⟩ := c.x.t.d.def_ 14 (d := d__law_word) rfl
  obtain ⟨fd__law_run, F__law_run⟩ := c.x.t.d.def_ 15 (d := d__law_run) rfl
  obtain ⟨fd__law_scan, F__law_scan⟩ := c.x.t.d.def_ 16 (d := d__law_scan) rfl
  obtain ⟨fd__law_piece, F__law_piece⟩ := c.x.t.d.def_ 17 (d := d__law_piece) rfl
  obtain ⟨fd__law_scanned, F__law_scanned⟩ := c.x.t.d.def_ 18 (d := d__law_scanned) rfl
  obtain ⟨fd_law, F_law⟩ := c.x.t.d.def_ 19 (d := d_law) rfl
  have g_is_text := He.glo_ok X G0 (c.x.t.d.fact 0 (f := .glo "is_text") rfl)
  have g_is_small := He.glo_ok X G0 (c.x.t.d.fact 1 (f := .glo "is_small") rfl)
  have g_is_capital := He.glo_ok X G0 (c.x.t.d.fact 2 (f := .glo "is_capital") rfl)
  have g_is_digit := He.glo_ok X G0 (c.x.t.d.fact 3 (f := .glo "is_digit") rfl)
  have g_scan := He.glo_ok X G0 (c.x.t.d.fact 4 (f := .glo "scan") rfl)
  have g_token_at := He.glo_ok X G0 (c.x.t.d.fact 5 (f := .glo "token_at") rfl)
  have g_end_of_run := He.glo_ok X G0 (c.x.t.d.fact 6 (f := .glo "end_of_run") rfl)
  have g_wanted_name := He.glo_ok X G0 (c.x.t.d.fact 7 (f := .glo "wanted_name") rfl)
  have g_wanted_number := He.glo_ok X G0 (c.x.t.d.fact 8 (f := .glo "wanted_number") rfl)
  have g__law_stream := He.glo_ok X G0 (c.x.t.d.fact 9 (f := .glo "_law_stream") rfl)
  have g__law_next := He.glo_ok X G0 (c.x.t.d.fact 10 (f := .glo "_law_next") rfl)
  have g__law_pick := He.glo_ok X G0 (c.x.t.d.fact 11 (f := .glo "_law_pick") rfl)
  have g__law_is_integer := He.glo_ok X G0 (c.x.t.d.fact 12 (f := .glo "_law_is_integer") rfl)
  have g__law_same := He.glo_ok X G0 (c.x.t.d.fact 13 (f := .glo "_law_same") rfl)
  have g__law_word := He.glo_ok X G0 (c.x.t.d.fact 14 (f := .glo "_law_word") rfl)
  have g__law_run := He.glo_ok X G0 (c.x.t.d.fact 15 (f := .glo "_law_run") rfl)
  have g__law_scan := He.glo_ok X G0 (c.x.t.d.fact 16 (f := .glo "_law_scan") rfl)
  have g__law_piece := He.glo_ok X G0 (c.x.t.d.fact 17 (f := .glo "_law_piece") rfl)
  have g__law_scanned := He.glo_ok X G0 (c.x.t.d.fact 18 (f := .glo "_law_scanned") rfl)
  have g_law := He.glo_ok X G0 (c.x.t.d.fact 19 (f := .glo "law") rfl)
  have g_TextError := He.glo_ok X G0 (c.x.t.d.fact 33 (f := .glo "TextError") rfl)
  have g_SIGNS := He.glo_ok X G0 (c.x.t.d.fact 34 (f := .glo "SIGNS") rfl)
  obtain ⟨t_MOST_CHARACTERS, h_MOST_CHARACTERS⟩ := He.int_ok X G0 (c.x.t.d.fact 30 (f := .int "MOST_CHARACTERS" 8000) rfl)
  obtain ⟨t_MOST_DIGITS, h_MOST_DIGITS⟩ := He.int_ok X G0 (c.x.t.d.fact 31 (f := .int "MOST_DIGITS" 6) rfl)
  obtain ⟨t_MOST_LETTERS, h_MOST_LETTERS⟩ := He.int_ok X G0 (c.x.t.d.fact 32 (f := .int "MOST_LETTERS" 8) rfl)
  have G : Glo mg := ⟨He.free_ok X G0 (c.x.t.d.fact 20 (f := .free "abs") rfl), He.free_ok X G0 (c.x.t.d.fact 21 (f := .free "bool") rfl), He.free_ok X G0 (c.x.t.d.fact 22 (f := .free "int") rfl), He.free_ok X G0 (c.x.t.d.fact 23 (f := .free "isinstance") rfl), He.free_ok X G0 (c.x.t.d.fact 24 (f := .free "len") rfl), He.free_ok X G0 (c.x.t.d.fact 25 (f := .free "list") rfl), He.free_ok X G0 (c.x.t.d.fact 26 (f := .free "range") rfl), He.free_ok X G0 (c.x.t.d.fact 27 (f := .free "str") rfl), He.free_ok X G0 (c.x.t.d.fact 28 (f := .free "tuple") rfl), ⟨_, h_MOST_CHARACTERS, ⟨_, rfl⟩⟩, ⟨_, h_MOST_DIGITS, ⟨_, rfl⟩⟩, ⟨_, h_MOST_LETTERS, ⟨_, rfl⟩⟩⟩
  have e := hfa.symm.trans g_law
  cases e
  obtain ⟨m1, m2⟩ := He.ba c.x.more
  obtain ⟨m3, m4⟩ := He.ba (List.all_eq_true.mp m1 dTE (by simp [sdL]))
  obtain ⟨cc, ca, fdE, FE⟩ := SDef.fnS (c.sd_ 0 (d := dTE) rfl) m3
  have ET : ExT P K mg fileL "TextError" (He.ga K "TextError") (He.ma K (He.ga K "TextError") "__init__") := excB_ok m4 hfile htop (He.free_ok X G0 (c.x.t.d.fact 29 (f := .free "super") rfl)) g_TextError
  have bE : Binds K fdE P_TE [] := by
    obtain ⟨oc, od, kV, doc, pm, ctv, an, osl, rfl, lk⟩ := FE.ex
    exact .all fun us hl => match us, hl with | [_, _, _], _ => rfl
  have hSig : ∀ H, SqT K H (He.ga K "SIGNS") (sgS.map V.str) := fun H => He.tupB_ok m2 H
  have H_is_text : Fun K "is_text" "is_text" s_is_text (He.ga K "is_text") fd_is_text := toFun F_is_text
  have b_is_text : Binds K fd_is_text P_is_text [] := H_is_text.binds fun _ _ _ _ _ _ us hl => match us, hl with | [_], _ => rfl
  have H_is_small : Fun K "is_small" "is_small" s_is_small (He.ga K "is_small") fd_is_small := toFun F_is_small
  have b_is_small : Binds K fd_is_small P_is_small [] := H_is_small.binds fun _ _ _ _ _ _ us hl => match us, hl with | [_], _ => rfl
  have H_is_capital : Fun K "is_capital" "is_capital" s_is_capital (He.ga K "is_capital") fd_is_capital := toFun F_is_capital
  have b_is_capital : Binds K fd_is_capital P_is_capital [] := H_is_capital.binds fun _ _ _ _ _ _ us hl => match us, hl with | [_], _ => rfl
  have H_is_digit : Fun K "is_digit" "is_digit" s_is_digit (He.ga K "is_digit") fd_is_digit := toFun F_is_digit
  have b_is_digit : Binds K fd_is_digit P_is_digit [] := H_is_digit.binds fun _ _ _ _ _ _ us hl => match us, hl with | [_], _ => rfl
  have H_scan : Fun K "scan" "scan" s_scan (He.ga K "scan") fd_scan := toFun F_scan
  have b_scan : Binds K fd_scan P_scan [] := H_scan.binds fun _ _ _ _ _ _ us hl => match us, hl with | [_], _ => rfl
  have H_token_at : Fun K "token_at" "token_at" s_token_at (He.ga K "token_at") fd_token_at := toFun F_token_at
  have b_token_at : Binds K fd_token_at P_token_at [] := H_token_at.binds fun _ _ _ _ _ _ us hl => match us, hl with | [_, _], _ => rfl
  have H_end_of_run : Fun K "end_of_run" "end_of_run" s_end_of_run (He.ga K "end_of_run") fd_end_of_run := toFun F_end_of_run
  have b_end_of_run : Binds K fd_end_of_run P_end_of_run [] := H_end_of_run.binds fun _ _ _ _ _ _ us hl => match us, hl with | [_, _, _], _ => rfl
  have H_wanted_name : Fun K "wanted_name" "wanted_name" s_wanted_name (He.ga K "wanted_name") fd_wanted_name := toFun F_wanted_name
  have b_wanted_name : Binds K fd_wanted_name P_wanted_name [] := H_wanted_name.binds fun _ _ _ _ _ _ us hl => match us, hl with | [_, _], _ => rfl
  have H_wanted_number : Fun K "wanted_number" "wanted_number" s_wanted_number (He.ga K "wanted_number") fd_wanted_number := toFun F_wanted_number
  have b_wanted_number : Binds K fd_wanted_number P_wanted_number [] := H_wanted_number.binds fun _ _ _ _ _ _ us hl => match us, hl with | [_, _], _ => rfl
  have H__law_stream : Fun K "_law_stream" "_law_stream" s__law_stream (He.ga K "_law_stream") fd__law_stream := toFun F__law_stream
  have b__law_stream : Binds K fd__law_stream P__law_stream [] := H__law_stream.binds fun _ _ _ _ _ _ us hl => match us, hl with | [_], _ => rfl
  have H__law_next : Fun K "_law_next" "_law_next" s__law_next (He.ga K "_law_next") fd__law_next := toFun F__law_next
  have b__law_next : Binds K fd__law_next P__law_next [] := H__law_next.binds fun _ _ _ _ _ _ us hl => match us, hl with | [_, _], _ => rfl
  have H__law_pick : Fun K "_law_pick" "_law_pick" s__law_pick (He.ga K "_law_pick") fd__law_pick := toFun F__law_pick
  have b__law_pick : Binds K fd__law_pick P__law_pick [] := H__law_pick.binds fun _ _ _ _ _ _ us hl => match us, hl with | [_, _], _ => rfl
  have H__law_is_integer : Fun K "_law_is_integer" "_law_is_integer" s__law_is_integer (He.ga K "_law_is_integer") fd__law_is_integer := toFun F__law_is_integer
  have b__law_is_integer : Binds K fd__law_is_integer P__law_is_integer [] := H__law_is_integer.binds fun _ _ _ _ _ _ us hl => match us, hl with | [_], _ => rfl
  have H__law_same : Fun K "_law_same" "_law_same" s__law_same (He.ga K "_law_same") fd__law_same := toFun F__law_same
  have b__law_same : Binds K fd__law_same P__law_same [] := H__law_same.binds fun _ _ _ _ _ _ us hl => match us, hl with | [_, _], _ => rfl
  have H__law_word : Fun K "_law_word" "_law_word" s__law_word (He.ga K "_law_word") fd__law_word := toFun F__law_word
  have b__law_word : Binds K fd__law_word P__law_word [] := H__law_word.binds fun _ _ _ _ _ _ us hl => match us, hl with | [_, _, _], _ => rfl
  have H__law_run : Fun K "_law_run" "_law_run" s__law_run (He.ga K "_law_run") fd__law_run := toFun F__law_run
  have b__law_run : Binds K fd__law_run P__law_run [] := H__law_run.binds fun _ _ _ _ _ _ us hl => match us, hl with | [_, _, _], _ => rfl
  have H__law_scan : Fun K "_law_scan" "_law_scan" s__law_scan (He.ga K "_law_scan") fd__law_scan := toFun F__law_scan
  have b__law_scan : Binds K fd__law_scan P__law_scan [] := H__law_scan.binds fun _ _ _ _ _ _ us hl => match us, hl with | [_], _ => rfl
  have H__law_piece : Fun K "_law_piece" "_law_piece" s__law_piece (He.ga K "_law_piece") fd__law_piece := toFun F__law_piece
  have b__law_piece : Binds K fd__law_piece P__law_piece [] := H__law_piece.binds fun _ _ _ _ _ _ us hl => match us, hl with | [_], _ => rfl
  have H__law_scanned : Fun K "_law_scanned" "_law_scanned" s__law_scanned (He.ga K "_law_scanned") fd__law_scanned := toFun F__law_scanned
  have b__law_scanned : Binds K fd__law_scanned P__law_scanned [] := H__law_scanned.binds fun _ _ _ _ _ _ us hl => match us, hl with | [_], _ => rfl
  have H_law : Fun K "law" "law" s_law (He.ga K "law") fd_law := toFun F_law
  have b_law : Binds K fd_law P_law [] := H_law.binds fun _ _ _ _ _ _ us hl => match us, hl with | [_], _ => rfl
  refine ⟨fd_law, fun s u => FunD.bindsA (ps := ["script"]) F_law (fun _ _ _ _ _ _ us hl => match us, hl with | [_], _ => rfl) s [u] rfl, fun base TB => ?_⟩
  have TE : Txe P w K mg base (He.ga K "TextError") := ⟨⟨fileL, _, fdE, ET, ok_TE FE ET (He.noat_ok (c.x.t.d.fact 35 (f := .noat "TextError" "column") rfl)) (He.noat_ok (c.x.t.d.fact 36 (f := .noat "TextError" "words") rfl)), bE⟩, He.noat_ok (c.x.t.d.fact 35 (f := .noat "TextError" "column") rfl), He.noat_ok (c.x.t.d.fact 36 (f := .noat "TextError" "words") rfl)⟩
  have D_is_text : Df P w K mg base 1 "is_text" P_is_text (spTxt) := ⟨_, fd_is_text, ok_is_text H_is_text G, g_is_text, F_is_text.kp, b_is_text⟩
  have V_is_small : Dv_ P w K mg base 1 "is_small" (He.ga K "is_small") P_is_small (spCh low) := ⟨fd_is_small, ok_is_small H_is_small , g_is_small, F_is_small.kp, b_is_small⟩
  have D_is_capital : Df P w K mg base 1 "is_capital" P_is_capital (spCh cap) := ⟨_, fd_is_capital, ok_is_capital H_is_capital , g_is_capital, F_is_capital.kp, b_is_capital⟩
  have V_is_digit : Dv_ P w K mg base 1 "is_digit" (He.ga K "is_digit") P_is_digit (spCh dig) := ⟨fd_is_digit, ok_is_digit H_is_digit , g_is_digit, F_is_digit.kp, b_is_digit⟩
  have D_end_of_run_low : Df P w K mg base 2 "end_of_run" P_end_of_run (spEnd (He.ga K "is_small") low) := ⟨_, fd_end_of_run, ok_end_of_run (ps := P_is_small) H_end_of_run G V_is_small, g_end_of_run, F_end_of_run.kp, b_end_of_run⟩
  have D_end_of_run_dig : Df P w K mg base 2 "end_of_run" P_end_of_run (spEnd (He.ga K "is_digit") dig) := ⟨_, fd_end_of_run, ok_end_of_run (ps := P_is_digit) H_end_of_run G V_is_digit, g_end_of_run, F_end_of_run.kp, b_end_of_run⟩
  have X_wanted_name : Dx P w K mg base 3 "wanted_name" P_wanted_name (spWn (He.ga K "TextError") 8 wName) := ⟨_, fd_wanted_name, ok_wanted_name H_wanted_name G TE, g_wanted_name, F_wanted_name.kp, b_wanted_name⟩
  have X_wanted_number : Dx P w K mg base 3 "wanted_number" P_wanted_number (spWn (He.ga K "TextError") 6 wNum) := ⟨_, fd_wanted_number, ok_wanted_number H_wanted_number G TE, g_wanted_number, F_wanted_number.kp, b_wanted_number⟩
  have X_token_at : Dx P w K mg base 4 "token_at" P_token_at (spTok (He.ga K "TextError")) := ⟨_, fd_token_at, ok_token_at H_token_at G TE g_SIGNS hSig V_is_small D_is_capital V_is_digit D_end_of_run_low D_end_of_run_dig X_wanted_name X_wanted_number, g_token_at, F_token_at.kp, b_token_at⟩
  have X_scan : Dx P w K mg base 5 "scan" P_scan (spScan K (tfL.map (He.cT K)) (He.ga K "TextError")) := ⟨_, fd_scan, ok_scan H_scan G D_is_text X_token_at, g_scan, F_scan.kp, b_scan⟩
  have D__law_stream : Df P w K mg base 1 "_law_stream" P__law_stream (spStream K (tfL.map (He.cT K))) := ⟨_, fd__law_stream, ok__law_stream H__law_stream G, g__law_stream, F__law_stream.kp, b__law_stream⟩
  have D__law_next : Df P w K mg base 1 "_law_next" P__law_next (spNext (tfL.map (He.cT K))) := ⟨_, fd__law_next, ok__law_next H__law_next G, g__law_next, F__law_next.kp, b__law_next⟩
  have D__law_pick : Df P w K mg base 2 "_law_pick" P__law_pick (spPick K (tfL.map (He.cT K))) := ⟨_, fd__law_pick, ok__law_pick H__law_pick G D__law_next, g__law_pick, F__law_pick.kp, b__law_pick⟩
  have D__law_is_integer : Df P w K mg base 1 "_law_is_integer" P__law_is_integer (spT1 K (tfL.map (He.cT K)) isIntT) := ⟨_, fd__law_is_integer, ok__law_is_integer H__law_is_integer G, g__law_is_integer, F__law_is_integer.kp, b__law_is_integer⟩
  have D__law_same : Df P w K mg base 2 "_law_same" P__law_same (spSameT K (tfL.map (He.cT K))) := ⟨_, fd__law_same, ok__law_sameT H__law_same G D__law_is_integer, g__law_same, F__law_same.kp, b__law_same⟩
  have D__law_word : Df P w K mg base 2 "_law_word" P__law_word (spWord (tfL.map (He.cT K))) := ⟨_, fd__law_word, ok__law_word H__law_word G D__law_next, g__law_word, F__law_word.kp, b__law_word⟩
  have D__law_run : Df P w K mg base 1 "_law_run" P__law_run (spRun) := ⟨_, fd__law_run, ok__law_run H__law_run G, g__law_run, F__law_run.kp, b__law_run⟩
  have D__law_scan : Df P w K mg base 2 "_law_scan" P__law_scan (spLScan K (tfL.map (He.cT K))) := ⟨_, fd__law_scan, ok__law_scan H__law_scan G D__law_run, g__law_scan, F__law_scan.kp, b__law_scan⟩
  have D__law_piece : Df P w K mg base 3 "_law_piece" P__law_piece (spPiece (tfL.map (He.cT K))) := ⟨_, fd__law_piece, ok__law_piece H__law_piece G D__law_next D__law_pick D__law_word, g__law_piece, F__law_piece.kp, b__law_piece⟩
  have D__law_scanned : Df P w K mg base 6 "_law_scanned" P__law_scanned (spScanned K (tfL.map (He.cT K))) := ⟨_, fd__law_scanned, ok__law_scanned H__law_scanned G TE X_scan, g__law_scanned, F__law_scanned.kp, b__law_scanned⟩
  exact ok_law H_law G D__law_stream D__law_next D__law_pick D__law_piece D__law_scan (told_of D__law_scanned) D__law_same
end LW
namespace LW
open PySem PySem.Spec PyProof.Rows L2 GxR FW GA EN SL SC SU SH
abbrev R0 : PySem.W.OpenRow := PySem.W.OpenLaw.row PySem.Challenge.rw_closestfit_k85_whole_tokens_of_texts
abbrev hkL : PySem.W.Hook := hookS 4 faL fnL tfL exL sdL
def obL (s : PySem.W.SharedT) : AlS := obsS 4 faL fnL tfL exL sdL (HandSHeadRun.getT s)
theorem obL_eq (s : PySem.W.SharedT) : obL s = hkL.obs s.abs := obsS_eq (HandSHeadRun.getT_eq s)
def looseL : List Str := ["FitError", "BadValue", "TextError", "MOST_CHARACTERS", "MOST_LETTERS", "MOST_DIGITS", "SIGNS", "is_text", "is_small", "is_capital", "is_digit", "scan", "token_at", "end_of_run", "wanted_name", "wanted_number", "_law_stream", "_law_next", "_law_pick", "_law_is_integer", "_law_same", "_law_word", "_law_run", "_law_scan", "_law_piece", "_law_scanned"]
theorem runL (w : World) : HandSHeadRun.RunEq R0 (PySem.W.view R0.prog [29]) hkL obL 2000 looseL w := by
  intro os
  kernel_rfl
end LW
open PySem PySem.W PySem.Calls PyProof.Rows
theorem PySem.Challenge.cw_closestfit_k85_whole_tokens_of_texts_holds : PySem.Challenge.rw_closestfit_k85_whole_tokens_of_texts.Holds := by
  w_on; o_law
  refine HandSHeadRun.head_any (r := LW.R0) (q := view LW.R0.prog [29]) (H := LW.hkL) (ob := LW.obL) (M := 2000) (loose := LW.looseL) (d := HandSHeadRun.topDef LW.R0.prog 29) (kwd := []) LW.obL_eq
    (by kernel_rfl) (fun s => by kernel_rfl) LW.runL (by kernel_rfl) (by kernel_rfl) (by kernel_rfl) (by rfl) (by first | assumption | decide +kernel) (by decide +kernel) ⟨rfl, rfl, rfl, rfl, rfl, by decide +kernel⟩ ?hw ?hc
  case hw => w_witness2
  case hc =>
    refine LamX.walk_ofTsE (l := PySem.Challenge.rw_closestfit_k85_whole_tokens_of_texts) (n := 63) (k := 7) (x := "script") (CX := fun _ => L2.CX0) rfl (by decide) (by kernel_rfl) ⟨rfl, by decide, by decide⟩ ?F (fun _ _ _ _ _ z => z)
    intro w mg fa h Y G hmg0
    obtain ⟨K, KX, c⟩ := Y
    have hmg : mg ("law" : PySem.Str) = some (.ref fa) := by
      have e : (HandSHeadRun.topDef LW.R0.prog 29).name = ("law" : PySem.Str) := by kernel_rfl
      rw [← e]
      exact hmg0
    obtain ⟨fd, hb, hF⟩ := LW.all_defs (P := (PySem.Challenge.rw_closestfit_k85_whole_tokens_of_texts).prog) (w := w) KX G c hmg (by decide +kernel) (by decide +kernel)
    refine ⟨K, KX, fd, LW.tfL.map (He.cT K), LW.spLaw K (LW.tfL.map (He.cT K)), fun p hp => ?_, fun p hp => ?_, fun p hp => ?_, hb, fun H a ns _ _ hT hS => ⟨a, ns, rfl, hS, fun p hp => ⟨#[], hT p hp, ?_⟩, fun _ => rfl⟩, fun base _ _ TB => hF base fun p hp => ?_⟩
    · obtain ⟨q, hq, rfl⟩ := List.mem_map.mp hp
      exact c.x.empty q hq
    · obtain ⟨q, hq, rfl⟩ := List.mem_map.mp hp
      exact c.x.out q hq
    · obtain ⟨q, hq, rfl⟩ := List.mem_map.mp hp
      exact codeHd_of_K KX (c.x.hd q hq)
    · trivial
    · have t := TB p hp
      exact ⟨t.code, t.bm, t.gP⟩
